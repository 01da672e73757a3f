import Derived.Test.YtdcajkagakikiaaGreatDoorQ28
import Derived.Deep.Slices
import Derived.Deep.Fields
import Derived.Deep.Strs
import Derived.Lib.SmallJoins
import Derived.ChangeSlices
import Derived.ChangeArms
import Derived.Lib.LaidTab
import Derived.LaidLaws
import Derived.Shelf.Vars
import Derived.HandedShaped
namespace Go.Proofs.YtdcajkagakikiaaGreatDoor
set_option maxHeartbeats 64000000
set_option linter.unusedSimpArgs false
set_option linter.unusedVariables false
open Go.RowKit
def pA13:ByteArray:=⟨#[65]⟩
def pT13:ByteArray:=⟨#[112,46,84]⟩
def eT13:ByteArray:=⟨#[43,84]⟩
def ts0:Ty:=⟨6,⟨#[]⟩,0,[pA13],[2]⟩
def ts1:Ty:=⟨8,pT13,0,[],[]⟩
def ts2:Ty:=⟨6,⟨#[]⟩,0,[eT13],[23]⟩
def l13:List Ty:=basics++[ts0,ts1,ts2]
def nm13:Nm:=⟨pT13,[],22,[]⟩
def un13:Un:=⟨l13,[nm13]⟩
theorem find13:(findSe un13 24 pA13).2.2=0/\(findSe un13 24 pA13).2.1.meth=false/\(findSe un13 24 pA13).2.1.typ=2/\(findSe un13 24 pA13).2.1.path.length=2:=by decide +kernel
theorem ZZd:TyOk ts0:=⟨by decide,by decide,by decide,fun s hs=>by simp[ts0]at hs;subst hs;decide,by decide,fun k hk=>by simp[ts0]at hk;subst hk;decide⟩
theorem ZWd:TyOk ts1:=⟨by decide,by decide,by decide,fun s hs=>absurd hs (by simp[ts1]),by decide,fun k hk=>absurd hk (by simp[ts1])⟩
theorem ZTd:TyOk ts2:=⟨by decide,by decide,by decide,fun s hs=>by simp[ts2]at hs;subst hs;decide,by decide,fun k hk=>by simp[ts2]at hk;subst hk;decide⟩
theorem Zld:NmOk nm13:=⟨by decide,by decide,by decide,by decide,fun b hb=>absurd hb (by simp[nm13]),fun m hm=>absurd hm (by simp[nm13])⟩
def zs13(a0 a1 a2 a3:Nat):List Tz:=[⟨ts0,some ⟨a0,0,none⟩,1,some ⟨a1,0,none⟩,1⟩,⟨ts1,none,0,none,0⟩,⟨ts2,some ⟨a2,0,none⟩,1,some ⟨a3,0,none⟩,1⟩]
theorem ZF8{w W w5:World}{ao:Option Addr}{cap a0 a1 a2 a3:Nat}{v5:Value}(ho:W.ownsRow w.heap.size 50 5 (.slice ao 22 cap) 22 (tzC startZ))(h0:BlockAt W a0 #[.string pA13] 9)(h1:BlockAt W a1 #[.int .i64 2] 3)(h2:BlockAt W a2 #[.string eT13] 9)(h3:BlockAt W a3 #[.int .i64 23] 3)
  (hown:w5.ownsRow w.heap.size 50 5 v5 (22+3) (tzC startZ++tzC (zs13 a0 a1 a2 a3))) (hg:W.grownBy w5 (Value.slice ao 22 cap).ownBlock) (hb:Below w.heap.size w W) (n0:(Value.slice ao 22 cap).ownBlock≠some a0) (n1:(Value.slice ao 22 cap).ownBlock≠some a1) (n2:(Value.slice ao 22 cap).ownBlock≠some a2) (n3:(Value.slice ao 22 cap).ownBlock≠some a3) :
  (∃ao5 cap5,v5=.slice ao5 25 cap5/\ARow w5 ao5 l13/\25<=cap5)/\Below w.heap.size w w5:=by
 have g0:=Zz h0 n0 hg;have g1:=Zz h1 n1 hg;have g2:=Zz h2 n2 hg;have g3:=Zz h3 n3 hg;have b5:=Zub ho hb hg
 have hz:OwnZ w5 w.heap.size v5 (startZ++zs13 a0 a1 a2 a3):=by
  unfold OwnZ;rw[ZW5];exact hown
 obtain⟨ao5,cap5,e,ha,hc⟩:=Zp2 hz (fun z hz=>by
  rcases Yz.1 hz with h|h
  ·exact Z63 _ z h
  ·rcases List.mem_cons.1 h with h|h
   ·rw[h]
    exact⟨by(show(1:Nat)<=1;decide),by(show(1:Nat)<=1;decide),.inr ⟨a0,0,rfl,g0.lt,fun i hi=>by
     have hi:i<1:=hi;obtain rfl:i=0:=by omega
     exact g0.cell 0⟩,.inr ⟨a1,0,rfl,g1.lt,fun i hi=>by
     have hi:i<1:=hi;obtain rfl:i=0:=by omega
     exact g1.cell 0⟩,ZZd⟩
   ·rcases List.mem_cons.1 h with h|h
    ·rw[h];exact⟨by(show(0:Nat)<=0;decide),by(show(0:Nat)<=0;decide),.inl rfl,.inl rfl,ZWd⟩
    ·rw[Yo.1 h]
     exact⟨by(show(1:Nat)<=1;decide),by(show(1:Nat)<=1;decide),.inr ⟨a2,0,rfl,g2.lt,fun i hi=>by
      have hi:i<1:=hi;obtain rfl:i=0:=by omega
      exact g2.cell 0⟩,.inr ⟨a3,0,rfl,g3.lt,fun i hi=>by
      have hi:i<1:=hi;obtain rfl:i=0:=by omega
      exact g3.cell 0⟩,ZTd⟩)
 exact⟨⟨ao5,cap5,e,ha,hc⟩,b5⟩
theorem ZFd{w:World}{ao:Option Addr}{cap nb:Nat}(ha:ARow w ao l13)(hc:25<=cap)(hn:BlockAt w nb #[.string pT13,.slice none 0 0,.int .i64 22,.slice none 0 0] 53):UnC w ao (some ⟨nb,0,none⟩) cap 1 un13:=by
 refine⟨ha,.inr ⟨nb,0,rfl,hn.lt,fun i A0=>?_⟩,by decide,by decide,hc,by decide⟩;have A0:i<1:=A0;obtain rfl:i=0:=by omega
 obtain⟨c0,c1,c2,c3⟩:=cell4 hn;exact⟨none,0,none,0,c0,c1,c2,c3,Yk 0,Yk 0,.inl rfl,.inl rfl,Zld⟩
set_option maxRecDepth 100000 in
theorem ZP8(w:World)(hE:Env w) :
  Calls Tryz.prog 9 #[] w fun e w'=>e=.returned (.bool true)/\Below w.heap.size w w':=by
 obtain⟨i0,hi,hz0,hz1,hz2⟩:=info_parts ZD1;have A7:=Yh (fun W=>ZUa W);have HE:=Yh hE;clear hE;go_enter Tryz.func9,Tryz.ntmps9;go_wp2_with fail;refine(A7.o _).mono ?_;rintro e w1 ⟨⟨ao0,cap0,rfl,ho⟩,bs⟩;have HO:=@Yh (w1.ownsRow w.heap.size 50 5 (.slice ao0 22 cap0) 22 (tzC startZ)) (ho);have A4:=@Yh (w.heap.size<=w1.heap.size) (bs.size);have A0:=Yh (fun j=>Zh0 ho (b:=w1.heap.size+j) (.inr (Nat.le_add_right _ _)));obtain⟨x0,e0,k0,q0,z0⟩:=YA w1 #[.string ⟨#[65]⟩] 9;obtain⟨x1,e1,k1,q1,z1⟩:=YA x0 #[.int .i64 2] 3;obtain⟨x2,e2,k2,q2,z2⟩:=YA x1 #[.string ⟨#[43,84]⟩] 9;obtain⟨x3,e3,k3,q3,z3⟩:=YA x2 #[.int .i64 23] 3;obtain⟨a0,ha0⟩:=Yn (w1.heap.size);obtain⟨a1,ha1⟩:=Yn (x0.heap.size);obtain⟨a2,ha2⟩:=Yn (x1.heap.size);obtain⟨a3,ha3⟩:=Yn (x2.heap.size);obtain⟨a4,ha4⟩:=Yn (x3.heap.size);obtain⟨x4,e4,k4,q4,z4⟩:=YA x3 #[.int .i64 6,.string ⟨#[]⟩,.int .i64 0,.slice (some ⟨a0,0,none⟩) 1 1,.slice (some ⟨a1,0,none⟩) 1 1,.int .i64 8,.string ⟨#[112,46,84]⟩,.int .i64 0,.slice none 0 0,.slice none 0 0,.int .i64 6,.string ⟨#[]⟩,.int .i64 0,.slice (some ⟨a2,0,none⟩) 1 1,.slice (some ⟨a3,0,none⟩) 1 1] 50;have AZ:=@Yh (w.heap.size<=a0/\a1=a0+1/\a2=a0+2/\a3=a0+3/\a4=a0+4) (by have:=A4.o;omega);have QQ:=@Yh (Below w1.heap.size w1 x4) (q0.trans ((q1.mono (by omega)).trans ((q2.mono (by omega)).trans ((q3.mono (by omega)).trans (q4.mono (by omega))))));have BX:=@Yh (Below w.heap.size w x4) (bs.trans (QQ.o.mono A4.o));have A1:Below x1.heap.size x1 x4:=q2.trans ((q3.mono (by omega)).trans (q4.mono (by omega)));have K0:=@Yh (BlockAt x4 a0 #[.string pA13] 9) (by rw[<-ha0];exact k0.below (q1.trans (A1.mono q1.size)));have K1:=@Yh (BlockAt x4 a1 #[.int .i64 2] 3) (by rw[<-ha1];exact k1.below A1);have K2:=@Yh (BlockAt x4 a2 #[.string eT13] 9) (by rw[<-ha2];exact k2.below (q3.trans (q4.mono q3.size)));have K3:=@Yh (BlockAt x4 a3 #[.int .i64 23] 3) (by rw[<-ha3];exact k3.below q4);have K4:=@Yh (BlockAt x4 a4 _ _) (by rw[<-ha4];exact k4);have A5:=@Yh (x4.ownsRow w.heap.size 50 5 (.slice ao0 22 cap0) 22 (tzC startZ)) (by rw[<-e4,<-e3,<-e2,<-e1,<-e0];exact((((HO.o.alloc _).alloc _).alloc _).alloc _).alloc _);have A8:=@Yh ((Value.slice ao0 22 cap0).ownBlock≠some a0) (by rw[<-ha0];exact A0.o 0);have A9:=@Yh ((Value.slice ao0 22 cap0).ownBlock≠some a1) (by rw[AZ.o.2.1,<-ha0];exact A0.o 1);have Aa:=@Yh ((Value.slice ao0 22 cap0).ownBlock≠some a2) (by rw[AZ.o.2.2.1,<-ha0];exact A0.o 2);have Ab:=@Yh ((Value.slice ao0 22 cap0).ownBlock≠some a3) (by rw[AZ.o.2.2.2.1,<-ha0];exact A0.o 3);clear ho bs k0 k1 k2 k3 k4 q0 q1 q2 q3 q4 z0 z1 z2 z3 z4 A1 A0;go_wp2_with (at_builtin;refine wpList_append_own_at _ rfl _ _ 22 rfl w.heap.size 50 i0 (.agg #[.int .i64 0,.string ⟨#[]⟩,.int .i64 0,.slice none 0 0,.slice none 0 0]) 5 80 Tryz.underlying22 hi hz0 hz1 hz2 rfl (by decide) _ 22 (tzC startZ) rfl A5.o ⟨a4,0,none⟩ 3 3 (tzC (zs13 a0 a1 a2 a3)) rfl ?c1 ?c2 ?c3 ?c4 ?c5 ?c6 ?_)
 case c1=>rfl
 case c2=>exact ZG9 (T:=50) K4.o rfl
 case c3=>exact ZN3 _
 case c4=>unfold maxLen;omega
 case c5=>omega
 case c6=>have:=AZ.o;have:=BX.o.size;first|omega|(simp;omega)
 intro v5 wc hown hgrow _ hblk;have HR:=Yh (ZF8 A5.o K0.o K1.o K2.o K3.o hown hgrow BX.o A8.o A9.o Aa.o Ab.o);clear hown hgrow hblk;obtain⟨⟨ao,cap,e5,ha5,hc5⟩,b5⟩:=HR.o;subst e5;obtain⟨y1,h1,k1,q1,z1⟩:=YA wc #[.string ⟨#[112,46,84]⟩,.slice none 0 0,.int .i64 22,.slice none 0 0] 53;obtain⟨nb,hnb⟩:=Yn (wc.heap.size);rw[hnb]at k1;have BY:=Yh (b5.trans (q1.mono b5.size));have Ac:=Yh (ZFd (ha5.below q1) hc5 k1);have A2:=Zf6 (fun _=>True) un13 ao (some ⟨nb,0,none⟩) cap 1 24 pA13 y1 (fun _ _=>trivial) (UnS.fresh Ac.o (fun _ _=>trivial)) (HE.o.below BY.o) (by decide);have A6:=find13;obtain⟨F,hF⟩:=Yn (findSe un13 24 pA13);rw[hF]at A2 A6;clear hF;obtain⟨FU,⟨m,t,p,v,pt⟩,FE⟩:=F;obtain⟨rfl,rfl,rfl,hpt⟩:=A6;have A3:Calls Tryz.prog 6 #[.agg #[.slice ao 25 cap,.slice (some ⟨nb,0,none⟩) 1 1],.int .i64 24,.string ⟨#[65]⟩] y1 (PFRes (fun _=>True) y1 (FU,⟨false,2,p,v,pt⟩,0)):=A2;have A3:=Yh A3;have Ad:=@Yh (pt.length=2) (hpt);clear A2 hpt k1 q1 z1 ha5 hc5 b5 e0 e1 e2 e3 e4 ha0 ha1 ha2 ha3 ha4 hi hz0 hz1 hz2;go_wp2_with fail;refine A3.o.mono ?_;rintro e y2 ⟨uo,no,uc,nc,po,pc,rfl,hu,hp,hpl,b2⟩;simp only[Ad.o];obtain⟨tl,htl⟩:=Yn (FU.types.length);obtain⟨nl,hnl⟩:=Yn (FU.named.length);rw[htl,hnl];obtain⟨y3,h3,k3,q3,z3⟩:=YA y2 #[.slice uo tl uc,.slice no nl nc] 25;obtain⟨y5,h5,k5,q5,z5⟩:=YA y3 #[.bool false,.int .i64 0,.bool false,.bool false,.slice none 0 0] 28;rw[z3]at k5;obtain⟨y4,h4⟩:=Yn ((((((y5.setCell ⟨y2.heap.size+1,0,none⟩ (.bool false)).setCell ⟨y2.heap.size+1,1,none⟩ (.int .i64 2)).setCell ⟨y2.heap.size+1,2,none⟩ (.bool p)).setCell ⟨y2.heap.size+1,3,none⟩ (.bool v)).setCell ⟨y2.heap.size+1,4,none⟩ (.slice po 2 pc)));have k4:=Z70 k5 h4;have Q5:=Yh (BY.o.trans ((b2.trans ((q3.trans (q5.mono q3.size)).mono b2.size)).mono BY.o.size));have GE:=@Yh (w.heap.size<=y2.heap.size+1) (by have:=BY.o.size;have:=b2.size;omega);have BZ:=@Yh (Below w.heap.size w y4) (by rw[<-h4];exact((((Q5.o.setCell GE.o _).setCell GE.o _).setCell GE.o _).setCell GE.o _).setCell GE.o _);obtain⟨c0,c1,c2,c3,c4⟩:=cell5 k4;obtain⟨d0,d1,d2,d3,d4⟩:=cell5 k5;have f0:=k5.free 0;have f1:=k5.free 1;have f2:=k5.free 2;have f3:=k5.free 3;have f4:=k5.free 4;clear hu hp hpl b2 k3 q3 z3 k4 k5 q5 z5 htl hnl h1 hnb;go_wp2_with fail;go_ret;exact⟨by first|rfl|(simp;done),BZ.o⟩
structure InSel (w:World) (po:Option Addr) (pc:Nat) (s:Se):Prop where
 row:IRow w po s.path
 cap:s.path.length<=pc
 cap2:pc<=9223372036854775807
def cutSe(s:Se)(k:Nat):Se:={ s with path:=s.path.take k }
theorem Z99{s:Se}{k:Nat}(h:k<=s.path.length):(cutSe s k).path.length=k:=by
 show(s.path.take k).length=k
 rw[Y5]
 omega
theorem Z76(s:Sp):∀(ps:List (ByteArray×Int)) (n:Nat),∀x∈hitF s n ps,x.2.path.length<=s.path.length+1
 | [],_,x,hx=>by unfold hitF at hx;exact absurd hx (by simp)
 | (w,k)::r,n,x,hx=>by
  unfold hitF at hx
  rcases List.mem_cons.1 hx with h|h
  ·rw[h]
   show(s.path++[(n:Int)]).length<=_
   simp
  ·exact Z76 s r (n+1) x h
theorem ZZ9{U:Un}{l:Lk}:∀x∈hitsT U l,x.2.path.length<=l.sp.path.length+1:=by
 intro x hx;unfold hitsT at hx
 rcases Yz.1 hx with h|h
 ·unfold hitM at h
  obtain⟨m,hm,rfl⟩:=Y4.1 h
  show l.sp.path.length<=_
  omega
 ·by_cases c:(tyU U l.form).kind=6
  ·rw[if_pos c]at h
   exact Z76 _ _ _ x h
  ·rw[if_neg c]at h
   exact absurd h (by simp)
theorem Zo9{name:ByteArray}{hs:List (ByteArray×Se)}{s:Se}(h:s∈ofName name hs):∃x∈hs,x.2=s:=by
 unfold ofName at h;obtain⟨x,hx,rfl⟩:=Y4.1 h;exact⟨x,(List.mem_filter.1 hx).1,rfl⟩
theorem ZDa{U:Un}{ls:List Lk}{name:ByteArray}{n:Nat}(h:∀l∈ls,l.sp.path.length<=n):∀s∈hadT U ls name,s.path.length<=n+1:=by
 intro s hs;unfold hadT at hs;obtain⟨l,hl,hs⟩:=List.mem_flatMap.1 hs
 have A0:s∈ofName name (hitsT U l):=by
  by_cases c:l.sp.many=true
  ·rw[if_pos c]at hs
   rcases Yz.1 hs with g|g<;>exact g
  ·rw[if_neg c]at hs
   exact hs
 obtain⟨x,hx,rfl⟩:=Zo9 A0;exact Yj (ZZ9 x hx) (Nat.succ_le_succ (h l hl))
theorem Zp6(name:ByteArray):∀(m n:Nat) (V:Un) (es:List Sp) (seen:List Int),Hd n V es seen->(seekT name m V es seen).2.1.path.length<=n+m
 | 0,n,V,es,seen,h=>Yl _
 | m+1,n,V,es,seen,h=>by
  unfold seekT
  by_cases h0:es=[]
  ·rw[if_pos h0]
   exact Yl _
  ·rw[if_neg h0]
   by_cases c:(lookT es V).2.2≠0
   ·rw[if_pos c]
    exact Yl _
   ·rw[if_neg c]
    have hl:=h.look (Y7 c);have hp:∀l∈(lookT es V).2.1,l.sp.path.length<=n:=fun x hx=>hl.pl x.sp (by have:=hl.sp;rw[<-this];exact List.mem_map_of_mem hx)
    have hh:=ZDa (U:=(lookT es V).1) (name:=name) hp;have ih:=Zp6 name m (n+1) _ _ _ hl.hd
    cases hH:hadT (lookT es V).1 (lookT es V).2.1 name with
    | nil=>exact Yj ih (by omega)
    | cons s r =>
     cases r with
     | nil =>
      rw[hH]at hh;exact Yj (hh s Yt) (by omega)
     | cons t r=>exact Yl _
theorem Zhb(u:Un)(i:Int)(name:ByteArray):(findSe u i name).2.1.path.length<=1000:=by
 unfold findSe
 by_cases c:thereU u i≠0
 ·rw[if_pos c]
  exact Yl _
 ·rw[if_neg c]
  by_cases d:(nameB name&&!blankB name)=false
  ·rw[if_pos d]
   exact Yl _
  ·rw[if_neg d]
   unfold selT
   by_cases e:(frontT u i).2.2≠0
   ·rw[if_pos e]
    exact Yl _
   ·rw[if_neg e]
    obtain⟨h1,h2,h3⟩:=Ze0 (Y7 c);have hi:inL u.types i=true:=by unfold inL;exact Yb ⟨h2,h3⟩
    exact Yj (Zp6 name 7 0 _ _ _ (Zb8 h1 hi (Y7 e))) (by omega)
open Go.RowKit Go.ChangeShapes Go.WideShapes Go.Deep Go.Joins
theorem ZRd{n:Int}(h:(Lit.int .i64 n).wf=true):-9223372036854775808<=n/\n<=9223372036854775807:=by
 simp[Lit.wf,IntKind.min,IntKind.max,IntKind.signed,IntKind.bits]at h
 omega
theorem Zrc(b o i:Nat):(⟨b,o,none⟩:Addr).add i=⟨b,o+i,none⟩:=by
 unfold Addr.add
 split
 ·rename_i h
  rw[h]
  rfl
 ·rfl
theorem Zja{w:World}{a:Addr}{v:Value}(h:w.cell? a=some v):a=⟨a.block,a.off,none⟩/\a.block<w.heap.size:=by
 unfold World.cell? at h
 split at h
 ·rename_i hb
  split at h
  ·cases h
  ·rename_i hs
   obtain⟨b,o,s⟩:=a
   cases s with
   | none=>exact⟨rfl,(Yy.1 hb).1⟩
   | some s=>exact absurd rfl hs
 ·cases h
section
variable {H:Type} {enc:TypeId×Value->H} {w:World} {base:Nat} {spare:Nat->Bool} {held:Bool}
theorem words_open{fuel:Nat}{v:Value}{x:DataW H×List MemPlace}(h:DataW.trod enc Tryz.prog w base spare held fuel 42 [v]=some x) :
  ∃(ao:Option Addr) (ss:List ByteArray) (cap:Nat),v=.slice ao ss.length cap/\ss.length<=cap/\cap<=9223372036854775807/\SRow w ao ss/\∀s∈ss,s.size<=9223372036854775807:=by
 rcases open_strs Tryz.underlying42 (by kernel_rfl) (by kernel_rfl) h with⟨hcs,_⟩|⟨a,len,cap,m,Sx,hcs,_,hl,hm,hmm,_,hx⟩
 ·exact⟨none,[],0,by simpa using hcs,Yk _,by decide,.inl rfl,by simp⟩
 ·have A1:len<=m:=by rw[hmm];split<;>omega
  refine⟨some a,(List.range len).map Sx,cap,by simpa using hcs,by simpa using hl,hm,?_,fun s hs=>?_⟩
  ·by_cases h0:len=0
   ·exact .inl (by simp[h0])
   ·obtain⟨c0,_⟩:=hx 0 (by omega)
    obtain⟨ea,hlt⟩:=Zja c0;obtain⟨b,o,s⟩:=a;obtain rfl:s=none:=by simpa [Addr.add] using ea
    refine .inr ⟨b,o,rfl,by simpa [Addr.add] using hlt,fun i hi=>?_⟩;have A0:i<len:=by simpa using hi
    obtain⟨ci,_⟩:=hx i (by omega);rw[Zrc]at ci;rw[ci];simp[A0]
  ·obtain⟨i,hi,rfl⟩:=Y4.1 hs
   exact(hx i (by have:=List.mem_range.1 hi;omega)).2
theorem kids_open{fuel:Nat}{v:Value}{x:DataW H×List MemPlace}(h:DataW.trod enc Tryz.prog w base spare held fuel 26 [v]=some x) :
  ∃(ka:Option Addr) (zs:List Int) (kc:Nat),v=.slice ka zs.length kc/\zs.length<=kc/\kc<=9223372036854775807/\IRow w ka zs/\∀z∈zs,-9223372036854775808<=z/\z<=9223372036854775807:=by
 rcases open_ints (k:=.i64) Tryz.underlying26 (by kernel_rfl) (by kernel_rfl) h with⟨hcs,_⟩|⟨a,l,c,zs,hcs,_,hl,hm,hz,_,hcell,hwf⟩
 ·exact⟨none,[],0,by simpa using hcs,Yk _,by decide,.inl rfl,by simp⟩
 ·have A0:l<=zs.length:=by rw[hz];split<;>omega
  have e1:(zs.take l).length=l:=by rw[Y5];omega
  refine⟨some a,zs.take l,c,by rw[e1];simpa using hcs,by rw[e1];exact hl,hm,?_,fun z hz=>ZRd (hwf z (List.mem_of_mem_take hz))⟩
  by_cases h0:l=0
  ·exact .inl (by rw[h0];simp)
  ·have c0:=hcell 0 (by omega)
   obtain⟨ea,hlt⟩:=Zja c0;obtain⟨b,o,s⟩:=a;obtain rfl:s=none:=by simpa [Addr.add] using ea
   refine .inr ⟨b,o,rfl,by simpa [Addr.add] using hlt,fun i hi=>?_⟩;rw[e1]at hi;have ci:=hcell i (by omega);rw[Zrc]at ci;rw[show(zs.take l).getD i 0=zs.getD i 0 by simp only[List.getD_eq_getElem?_getD];rw[List.getElem?_take_of_lt hi]];exact ci
set_option maxRecDepth 100000 in
theorem Zae{n:Nat}{cs:List Value}{x:DataW H×List MemPlace}(hl:cs.length=5)(h:DataW.trod enc Tryz.prog w base spare held n 50 cs=some x) :
  ∃(t:Ty) (wo ko:Option Addr) (wc kc:Nat),cs=[.int .i64 t.kind,.string t.name,.int .i64 t.n,.slice wo t.words.length wc,.slice ko t.kids.length kc]/\TyIn w wo ko wc kc t:=by
 match cs,hl with
 | [c0,c1,c2,c3,c4],_ =>
  obtain⟨xs,n,_,_,_,hlen,hg⟩:=DataW.trod_struct Tryz.underlying50 h
  match xs,hlen with
  | [y0,y1,y2,y3,y4],_ =>
   have k3:Tryz.prog.cellsOf 3=1:=by kernel_rfl
   have k1:Tryz.prog.cellsOf 9=1:=by kernel_rfl
   have A0:Tryz.prog.cellsOf 42=1:=by kernel_rfl
   have A1:Tryz.prog.cellsOf 26=1:=by kernel_rfl
   have g0:DataW.trod enc Tryz.prog w base spare held n 3 [c0]=some y0:=by
    have h:DataW.trod enc Tryz.prog w base spare held n 3 (([c0,c1,c2,c3,c4].drop 0).take (Tryz.prog.cellsOf 3))=some y0:=hg 0 _ rfl;rw[k3]at h;exact h
   have g1:DataW.trod enc Tryz.prog w base spare held n 9 [c1]=some y1:=by
    have h:DataW.trod enc Tryz.prog w base spare held n 9 (([c0,c1,c2,c3,c4].drop 1).take (Tryz.prog.cellsOf 9))=some y1:=hg 1 _ rfl;rw[k1]at h;exact h
   have g2:DataW.trod enc Tryz.prog w base spare held n 3 [c2]=some y2:=by
    have h:DataW.trod enc Tryz.prog w base spare held n 3 (([c0,c1,c2,c3,c4].drop 2).take (Tryz.prog.cellsOf 3))=some y2:=hg 2 _ rfl;rw[k3]at h;exact h
   have g3:DataW.trod enc Tryz.prog w base spare held n 42 [c3]=some y3:=by
    have h:DataW.trod enc Tryz.prog w base spare held n 42 (([c0,c1,c2,c3,c4].drop 3).take (Tryz.prog.cellsOf 42))=some y3:=hg 3 _ rfl;rw[A0]at h;exact h
   have g4:DataW.trod enc Tryz.prog w base spare held n 26 [c4]=some y4:=by
    have h:DataW.trod enc Tryz.prog w base spare held n 26 (([c0,c1,c2,c3,c4].drop 4).take (Tryz.prog.cellsOf 26))=some y4:=hg 4 _ rfl;rw[A1]at h;exact h
   obtain⟨z0,q0,_,w0⟩:=DataW.trod_int (k:=.i64) (by kernel_rfl) g0;obtain⟨s1,q1,_,hs⟩:=DataW.trod_string (by kernel_rfl) g1;obtain⟨z2,q2,_,w2⟩:=DataW.trod_int (k:=.i64) (by kernel_rfl) g2;obtain⟨po,ps,pc,rfl,a1,a2,a3,a4⟩:=words_open g3;obtain⟨bo,bs,bc,rfl,b1,b2,b3,b4⟩:=kids_open g4;obtain rfl:c0=.int .i64 z0:=by simpa using q0
   obtain rfl:c1=.string s1:=by simpa using q1
   obtain rfl:c2=.int .i64 z2:=by simpa using q2
   have A2:s1.size<=9223372036854775807:=hs;exact⟨⟨z0,s1,z2,ps,bs⟩,po,bo,pc,bc,rfl,⟨a3,b3,a1,a2,b1,b2,A2,a4,⟨ZRd w0,ZRd w2⟩,b4⟩⟩
theorem Zce:Tryz.prog.cellsOf 50=5:=by kernel_rfl
theorem tys_open{v:Value}{fuel:Nat}{x:DataW H×List MemPlace}(h:DataW.trod enc Tryz.prog w base spare held fuel 22 [v]=some x) :
  ∃(a:Option Addr) (l:List Ty) (cap:Nat),v=.slice a l.length cap/\l.length<=cap/\cap<=9223372036854775807/\InRow w a l:=by
 rcases open_slice Tryz.underlying22 h with⟨hcs,_⟩|⟨a,len,cap,m,n,D,Pl,hcs,_,hl,hm,hmm,_,hx⟩
 ·exact⟨none,[],0,by simpa using hcs,Yk _,by decide,.inl rfl⟩
 ·have A0:len<=m:=by rw[hmm];split<;>omega
  rw[Zce]at hx;have:Inhabited Ty:=⟨⟨0,⟨#[]⟩,0,[],[]⟩⟩
  obtain⟨f,hf⟩:=choose_lt (α:=Ty) (n:=len) (p:=fun i t=>∃wo wc ko kc,w.cell? ((a.add (i*5)).add 0)=some (.int .i64 t.kind)/\w.cell? ((a.add (i*5)).add 1)=some (.string t.name)/\w.cell? ((a.add (i*5)).add 2)=some (.int .i64 t.n) /\
    w.cell? ((a.add (i*5)).add 3)=some (.slice wo t.words.length wc)/\w.cell? ((a.add (i*5)).add 4)=some (.slice ko t.kids.length kc)/\TyIn w wo ko wc kc t) (fun i hi=>by
   obtain⟨cs',h1,h2⟩:=hx i (by omega);obtain⟨_,hl,hi⟩:=World.cells?_some h1;obtain⟨t,wo,ko,wc,kc,rfl,ht⟩:=Zae hl h2;exact⟨t,wo,wc,ko,kc,hi 0 (by omega),hi 1 (by omega),hi 2 (by omega),hi 3 (by omega),hi 4 (by omega),ht⟩)
  have e1:((List.range len).map f).length=len:=by simp
  refine⟨some a,(List.range len).map f,cap,by rw[e1];simpa using hcs,by rw[e1];exact hl,hm,?_⟩
  by_cases h0:len=0
  ·exact .inl (by rw[h0];rfl)
  ·obtain⟨_,_,_,_,c0,_⟩:=hf 0 (by omega)
   obtain⟨ea,hlt⟩:=Zja c0;obtain⟨b,o,s⟩:=a;obtain rfl:s=none:=by simpa [Addr.add] using ea
   refine .inr ⟨b,o,rfl,by simpa [Addr.add] using hlt,fun i hi=>?_⟩;rw[e1]at hi;obtain⟨wo,wc,ko,kc,c0,c1,c2,c3,c4,ht⟩:=hf i hi;simp only[List.getElem_map,List.getElem_range];simp only[Zrc,Nat.add_zero]at c0 c1 c2 c3 c4;exact⟨wo,wc,ko,kc,c0,c1,c2,c3,c4,ht⟩
theorem Z5e{fuel:Nat}{t e n:Nat}{cs:List Value}{ss:List ByteArray}{p:List MemPlace}
  (ht:Tryz.prog.underlying t=some (.array n e)) (he:Tryz.prog.underlying e=some .string) (hce:Tryz.prog.cellsOf e=1) (hct:Tryz.prog.cellsOf t=n)
  (h:DataW.trod enc Tryz.prog w base spare held fuel t cs=some (.agg (ss.map fun s=>.lit (.string s.data.toList)),p)) :
  ∀i,i<n->cs[i]? = some (.string (ss.getD i ⟨#[]⟩)):=by
 intro i hi
 cases fuel with
 | zero=>simp[DataW.trod]at h
 | succ fuel =>
  simp only[DataW.trod,ht,hce,hct]at h
  split at h
  ·obtain⟨xs,hm,hx⟩:=Option.map_eq_some_iff.1 h
   have A0:xs.map (·.1)=ss.map fun s=>(DataW.lit (.string s.data.toList):DataW H):=by
    have:=congrArg Prod.fst hx
    simpa using this
   obtain⟨b,hb,hf⟩:=Lib.mapM_at hm i i (by simp[hi]);obtain⟨s,q,hy,_⟩:=DataW.trod_string he hf;have h2:(xs.map (·.1))[i]? = some (DataW.lit (.string s.data.toList):DataW H):=by rw[List.getElem?_map,hb,hy];rfl
   rw[A0,List.getElem?_map]at h2;obtain⟨z,hz,hzz⟩:=Option.map_eq_some_iff.1 h2
   have A1:z=s:=by
    have:z.data.toList=s.data.toList:=by simpa using hzz
    exact ByteArray.ext (Array.toList_inj.1 this)
   rw[show ss.getD i ⟨#[]⟩=s by rw[List.getD_eq_getElem?_getD,hz,A1];rfl];have:=congrArg (·[0]?) q
   simpa [List.getElem?_take,List.getElem?_drop] using this
  ·cases h
end
theorem Z4e{P:Program}{W:World}{n:String}{d:DataW Unit}:∀{laid:List (String×DataW Unit)} {ps:List MemPlace},DataW.LaidVars P W laid ps->(n,d)∈laid ->
  ∃g t cs fuel p,P.globalNamed n=some g/\(P.globals[g]?).map (·.type)=some t/\W.var? P n=some cs/\DataW.trod (fun _=>()) P W 0 (fun _=>true) false fuel t cs.toList=some (d,p)
 | [],_,_,hm=>by cases hm
 | (n',d')::r,ps,h,hm=>by
  obtain⟨g,t,cs,fuel,p,q,h1,h2,h3,h4,h5,_⟩:=h
  rcases List.mem_cons.1 hm with e|hm
  ·cases e
   exact⟨g,t,cs,fuel,p,h1,h2,h3,h4⟩
  ·exact Z4e h5 hm
theorem env_of{W:World}{laid:List (String×DataW Unit)}(h:laidMet Tryz.prog laid W)(hsh:W.ShapedOpen Tryz.prog)
  (m1:("indenture/typ.basics",Rows.laid_indenture_typ_basics)∈laid) (m2:("internal/strconv.uint64pow10",Rows.laid_internal_strconv_uint64pow10)∈laid):Env W:=by
 obtain⟨_,hL,_⟩:=h;refine⟨?_,?_,?_⟩
 ·obtain⟨g,t,cs,fuel,p,h1,h2,h3,h4⟩:=Z4e hL m1
  have hg:Tryz.prog.globalNamed "indenture/typ.basics" = some 0:=by kernel_rfl
  have ht:(Tryz.prog.globals[0]?).map (·.type)=some 184:=by kernel_rfl
  obtain rfl:=Option.some.inj (hg.symm.trans h1);obtain rfl:=Option.some.inj (ht.symm.trans h2);rw[show(Rows.laid_indenture_typ_basics:DataW Unit)=.agg (basicNames.map fun s=>.lit (.string s.data.toList))by kernel_rfl]at h4;have hc:=Z5e (n:=20) Tryz.underlying184 (by kernel_rfl) (by kernel_rfl) (by kernel_rfl) h4;intro i hi;have A0:=World.var?_cell hg h3 i;rw[A0,<-Array.getElem?_toList,hc i hi]
 ·exact cell_of_shapedOpen_int (P:=Tryz.prog) (g:=1) (t:=3) (zero:=#[.int .i64 0]) hsh (Yf (by kernel_rfl)) (by kernel_rfl) rfl (by kernel_rfl) (by kernel_rfl) Tryz.underlying3
 ·obtain⟨g,t,cs,fuel,p,h1,h2,h3,h4⟩:=Z4e hL m2
  have hg:Tryz.prog.globalNamed "internal/strconv.uint64pow10" = some 2:=by kernel_rfl
  have ht:(Tryz.prog.globals[2]?).map (·.type)=some 238:=by kernel_rfl
  obtain rfl:=Option.some.inj (hg.symm.trans h1);obtain rfl:=Option.some.inj (ht.symm.trans h2);have hd:(Rows.laid_internal_strconv_uint64pow10:DataW Unit)=Lib.tabData .u64 Lib.pow10Tab:=by kernel_rfl
  rw[hd]at h4;unfold PowAt Lib.TabIs;rw[h3,<-Lib.cells_of_tab (n:=20) Tryz.underlying238 (by kernel_rfl) (by kernel_rfl) (by kernel_rfl) h4]
def flatD:Nat->DataW Unit->List Value
 | 0,_=>[]
 | _+1,.lit (.int k z)=>[.int k z]
 | _+1,.lit (.string bs)=>[.string ⟨bs.toArray⟩]
 | n+1,.agg l=>l.flatMap (flatD n)
 | _+1,_=>[]
def putG(h:Array Obj)(g:Nat)(cs:Array Value):Array Obj:=h.modify g fun
 | .cells _ t frozen=>.cells cs t frozen
 | o=>o
section
variable {H:Type} {enc:TypeId×Value->H} {w:World} {base:Nat} {spare:Nat->Bool} {held:Bool}
set_option maxRecDepth 100000 in
theorem Z7e{n:Nat}{cs:List Value}{x:DataW H×List MemPlace}(hl:cs.length=3)(h:DataW.trod enc Tryz.prog w base spare held n 112 cs=some x) :
  ∃m:Mt,cs=[.string m.name,.bool m.ptr,.int .i64 m.sig]/\m.name.size<=9223372036854775807/\-9223372036854775808<=m.sig/\m.sig<=9223372036854775807:=by
 match cs,hl with
 | [c0,c1,c2],_ =>
  obtain⟨xs,n,_,_,_,hlen,hg⟩:=DataW.trod_struct Tryz.underlying112 h
  match xs,hlen with
  | [y0,y1,y2],_ =>
   have k3:Tryz.prog.cellsOf 3=1:=by kernel_rfl
   have k1:Tryz.prog.cellsOf 9=1:=by kernel_rfl
   have k4:Tryz.prog.cellsOf 4=1:=by kernel_rfl
   have g0:DataW.trod enc Tryz.prog w base spare held n 9 [c0]=some y0:=by
    have h:DataW.trod enc Tryz.prog w base spare held n 9 (([c0,c1,c2].drop 0).take (Tryz.prog.cellsOf 9))=some y0:=hg 0 _ rfl;rw[k1]at h;exact h
   have g1:DataW.trod enc Tryz.prog w base spare held n 4 [c1]=some y1:=by
    have h:DataW.trod enc Tryz.prog w base spare held n 4 (([c0,c1,c2].drop 1).take (Tryz.prog.cellsOf 4))=some y1:=hg 1 _ rfl;rw[k4]at h;exact h
   have g2:DataW.trod enc Tryz.prog w base spare held n 3 [c2]=some y2:=by
    have h:DataW.trod enc Tryz.prog w base spare held n 3 (([c0,c1,c2].drop 2).take (Tryz.prog.cellsOf 3))=some y2:=hg 2 _ rfl;rw[k3]at h;exact h
   obtain⟨s0,q0,_,hs⟩:=DataW.trod_string (by kernel_rfl) g0;obtain⟨b1,q1,_⟩:=DataW.trod_bool (by kernel_rfl) g1;obtain⟨z2,q2,_,w2⟩:=DataW.trod_int (k:=.i64) (by kernel_rfl) g2;obtain rfl:c0=.string s0:=by simpa using q0
   obtain rfl:c1=.bool b1:=by simpa using q1
   obtain rfl:c2=.int .i64 z2:=by simpa using q2
   have A0:s0.size<=9223372036854775807:=hs;exact⟨⟨s0,b1,z2⟩,rfl,A0,ZRd w2⟩
theorem Z6e:Tryz.prog.cellsOf 112=3:=by kernel_rfl
theorem Z9e:Tryz.prog.cellsOf 53=4:=by kernel_rfl
theorem Z8e{v:Value}{fuel:Nat}{x:DataW H×List MemPlace}(h:DataW.trod enc Tryz.prog w base spare held fuel 51 [v]=some x) :
  ∃(a:Option Addr) (l:List Mt) (cap:Nat),v=.slice a l.length cap/\l.length<=cap/\cap<=9223372036854775807/\MRow w a l/\∀m∈l,m.name.size<=9223372036854775807/\-9223372036854775808<=m.sig/\m.sig<=9223372036854775807:=by
 rcases open_slice Tryz.underlying51 h with⟨hcs,_⟩|⟨a,len,cap,m,n,D,Pl,hcs,_,hl,hm,hmm,_,hx⟩
 ·exact⟨none,[],0,by simpa using hcs,Yk _,by decide,.inl rfl,by simp⟩
 ·have A0:len<=m:=by rw[hmm];split<;>omega
  rw[Z6e]at hx;have:Inhabited Mt:=⟨⟨⟨#[]⟩,false,0⟩⟩
  obtain⟨f,hf⟩:=choose_lt (α:=Mt) (n:=len) (p:=fun i t=>(w.cell? ((a.add (i*3)).add 0)=some (.string t.name)/\w.cell? ((a.add (i*3)).add 1)=some (.bool t.ptr)/\w.cell? ((a.add (i*3)).add 2)=some (.int .i64 t.sig))/\t.name.size<=9223372036854775807/\-9223372036854775808<=t.sig/\t.sig<=9223372036854775807) (fun i hi=>by
   obtain⟨cs',h1,h2⟩:=hx i (by omega);obtain⟨_,hl,hi⟩:=World.cells?_some h1;obtain⟨t,rfl,ht⟩:=Z7e hl h2;exact⟨t,⟨hi 0 (by omega),hi 1 (by omega),hi 2 (by omega)⟩,ht⟩)
  have e1:((List.range len).map f).length=len:=by simp
  refine⟨some a,(List.range len).map f,cap,by rw[e1];simpa using hcs,by rw[e1];exact hl,hm,?_,fun m hm=>?_⟩
  ·by_cases h0:len=0
   ·exact .inl (by rw[h0];rfl)
   ·obtain⟨⟨c0,_⟩,_⟩:=hf 0 (by omega)
    obtain⟨ea,hlt⟩:=Zja c0;obtain⟨b,o,s⟩:=a;obtain rfl:s=none:=by simpa [Addr.add] using ea
    refine .inr ⟨b,o,rfl,by simpa [Addr.add] using hlt,fun i hi=>?_⟩;rw[e1]at hi;obtain⟨⟨c0,c1,c2⟩,_⟩:=hf i hi;simp only[List.getElem_map,List.getElem_range];simp only[Zrc,Nat.add_zero]at c0 c1 c2;exact⟨c0,c1,c2⟩
  ·obtain⟨i,hi,rfl⟩:=Y4.1 hm
   exact(hf i (List.mem_range.1 hi)).2
set_option maxRecDepth 100000 in
theorem Zde{n:Nat}{cs:List Value}{x:DataW H×List MemPlace}(hl:cs.length=4)(h:DataW.trod enc Tryz.prog w base spare held n 53 cs=some x) :
  ∃(t:Nm) (bo mo:Option Addr) (bc mc:Nat),cs=[.string t.name,.slice bo t.bounds.length bc,.int .i64 t.under,.slice mo t.methods.length mc]/\NmIn w bo mo bc mc t:=by
 match cs,hl with
 | [c0,c1,c2,c3],_ =>
  obtain⟨xs,n,_,_,_,hlen,hg⟩:=DataW.trod_struct Tryz.underlying53 h
  match xs,hlen with
  | [y0,y1,y2,y3],_ =>
   have k3:Tryz.prog.cellsOf 3=1:=by kernel_rfl
   have k1:Tryz.prog.cellsOf 9=1:=by kernel_rfl
   have A0:Tryz.prog.cellsOf 26=1:=by kernel_rfl
   have A1:Tryz.prog.cellsOf 51=1:=by kernel_rfl
   have g0:DataW.trod enc Tryz.prog w base spare held n 9 [c0]=some y0:=by
    have h:DataW.trod enc Tryz.prog w base spare held n 9 (([c0,c1,c2,c3].drop 0).take (Tryz.prog.cellsOf 9))=some y0:=hg 0 _ rfl;rw[k1]at h;exact h
   have g1:DataW.trod enc Tryz.prog w base spare held n 26 [c1]=some y1:=by
    have h:DataW.trod enc Tryz.prog w base spare held n 26 (([c0,c1,c2,c3].drop 1).take (Tryz.prog.cellsOf 26))=some y1:=hg 1 _ rfl;rw[A0]at h;exact h
   have g2:DataW.trod enc Tryz.prog w base spare held n 3 [c2]=some y2:=by
    have h:DataW.trod enc Tryz.prog w base spare held n 3 (([c0,c1,c2,c3].drop 2).take (Tryz.prog.cellsOf 3))=some y2:=hg 2 _ rfl;rw[k3]at h;exact h
   have g3:DataW.trod enc Tryz.prog w base spare held n 51 [c3]=some y3:=by
    have h:DataW.trod enc Tryz.prog w base spare held n 51 (([c0,c1,c2,c3].drop 3).take (Tryz.prog.cellsOf 51))=some y3:=hg 3 _ rfl;rw[A1]at h;exact h
   obtain⟨s0,q0,_,hs⟩:=DataW.trod_string (by kernel_rfl) g0;obtain⟨bo,bs,bc,rfl,b1,b2,b3,b4⟩:=kids_open g1;obtain⟨z2,q2,_,w2⟩:=DataW.trod_int (k:=.i64) (by kernel_rfl) g2;obtain⟨mo,ms,mc,rfl,m1,m2,m3,m4⟩:=Z8e g3;obtain rfl:c0=.string s0:=by simpa using q0
   obtain rfl:c2=.int .i64 z2:=by simpa using q2
   have A2:s0.size<=9223372036854775807:=hs;exact⟨⟨s0,bs,z2,ms⟩,bo,mo,bc,mc,rfl,⟨b3,m3,b1,b2,m1,m2,A2,ZRd w2,b4,m4⟩⟩
theorem Zbe{v:Value}{fuel:Nat}{x:DataW H×List MemPlace}(h:DataW.trod enc Tryz.prog w base spare held fuel 23 [v]=some x) :
  ∃(a:Option Addr) (l:List Nm) (cap:Nat),v=.slice a l.length cap/\l.length<=cap/\cap<=9223372036854775807/\InNRow w a l:=by
 rcases open_slice Tryz.underlying23 h with⟨hcs,_⟩|⟨a,len,cap,m,n,D,Pl,hcs,_,hl,hm,hmm,_,hx⟩
 ·exact⟨none,[],0,by simpa using hcs,Yk _,by decide,.inl rfl⟩
 ·have A0:len<=m:=by rw[hmm];split<;>omega
  rw[Z9e]at hx;have:Inhabited Nm:=⟨⟨⟨#[]⟩,[],0,[]⟩⟩
  obtain⟨f,hf⟩:=choose_lt (α:=Nm) (n:=len) (p:=fun i t=>∃bo bc mo mc,w.cell? ((a.add (i*4)).add 0)=some (.string t.name)/\w.cell? ((a.add (i*4)).add 1)=some (.slice bo t.bounds.length bc)/\w.cell? ((a.add (i*4)).add 2)=some (.int .i64 t.under)/\w.cell? ((a.add (i*4)).add 3)=some (.slice mo t.methods.length mc)/\NmIn w bo mo bc mc t) (fun i hi=>by
   obtain⟨cs',h1,h2⟩:=hx i (by omega);obtain⟨_,hl,hi⟩:=World.cells?_some h1;obtain⟨t,bo,mo,bc,mc,rfl,ht⟩:=Zde hl h2;exact⟨t,bo,bc,mo,mc,hi 0 (by omega),hi 1 (by omega),hi 2 (by omega),hi 3 (by omega),ht⟩)
  have e1:((List.range len).map f).length=len:=by simp
  refine⟨some a,(List.range len).map f,cap,by rw[e1];simpa using hcs,by rw[e1];exact hl,hm,?_⟩
  by_cases h0:len=0
  ·exact .inl (by rw[h0];rfl)
  ·obtain⟨_,_,_,_,c0,_⟩:=hf 0 (by omega)
   obtain⟨ea,hlt⟩:=Zja c0;obtain⟨b,o,s⟩:=a;obtain rfl:s=none:=by simpa [Addr.add] using ea
   refine .inr ⟨b,o,rfl,by simpa [Addr.add] using hlt,fun i hi=>?_⟩;rw[e1]at hi;obtain⟨bo,bc,mo,mc,c0,c1,c2,c3,ht⟩:=hf i hi;simp only[List.getElem_map,List.getElem_range];simp only[Zrc,Nat.add_zero]at c0 c1 c2 c3;exact⟨bo,bc,mo,mc,c0,c1,c2,c3,ht⟩
set_option maxRecDepth 100000 in
theorem un_open{v:Value}{r:Reach}{b0:Nat}{d:DataW H}{p:List MemPlace}(hv:Value.okWide Tryz.prog w r b0 25 v)(h:DataW.Trod enc Tryz.prog w base spare held 25 v d p) :
  ∃(u:Un) (ao no:Option Addr) (ac nc:Nat),v=unV u ao ac no nc/\InUn w ao no ac nc u:=by
 obtain⟨cs,rfl,hsz⟩:=okWide_struct Tryz.underlying25 hv;have hC:Tryz.prog.cellsOf 25=2:=by kernel_rfl
 obtain⟨fuel,hf⟩:=h;have A0:cs.toList.length=2:=by simpa using hsz.trans hC
 obtain⟨ks,hks⟩:=Yn (cs.toList);have A1:DataW.trod enc Tryz.prog w base spare held fuel 25 cs.toList=some (d,p):=hf;rw[hks]at A1 A0
 match ks,A0 with
 | [c0,c1],_ =>
  obtain⟨xs,n,_,_,_,hlen,hg⟩:=DataW.trod_struct Tryz.underlying25 A1
  match xs,hlen with
  | [y0,y1],_ =>
   have k0:Tryz.prog.cellsOf 22=1:=by kernel_rfl
   have k1:Tryz.prog.cellsOf 23=1:=by kernel_rfl
   have g0:DataW.trod enc Tryz.prog w base spare held n 22 [c0]=some y0:=by
    have h:DataW.trod enc Tryz.prog w base spare held n 22 (([c0,c1].drop 0).take (Tryz.prog.cellsOf 22))=some y0:=hg 0 _ rfl;rw[k0]at h;exact h
   have g1:DataW.trod enc Tryz.prog w base spare held n 23 [c1]=some y1:=by
    have h:DataW.trod enc Tryz.prog w base spare held n 23 (([c0,c1].drop 1).take (Tryz.prog.cellsOf 23))=some y1:=hg 1 _ rfl;rw[k1]at h;exact h
   obtain⟨ao,l,ac,rfl,a1,a2,a3⟩:=tys_open g0;obtain⟨no,ns,nc,rfl,n1,n2,n3⟩:=Zbe g1;refine⟨⟨l,ns⟩,ao,no,ac,nc,?_,⟨a3,n3,a1,a2,n1,n2⟩⟩
   have e2:cs=#[.slice ao l.length ac,.slice no ns.length nc]:=by
    apply Array.toList_inj.1
    exact hks
   rw[e2]
   rfl
end
end Go.Proofs.YtdcajkagakikiaaGreatDoor
