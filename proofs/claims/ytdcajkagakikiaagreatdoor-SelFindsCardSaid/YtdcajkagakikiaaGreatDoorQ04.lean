import Derived.Test.YtdcajkagakikiaaGreatDoorQ03
import Derived.Lib.AtoiErrMem
namespace Go.Proofs.YtdcajkagakikiaaGreatDoor
set_option maxHeartbeats 64000000
set_option linter.unusedSimpArgs false
set_option linter.unusedVariables false
open Go.RowKit
section
variable {l:List Ty} {n k X:Int} {w:ByteArray} {a:Option (ByteArray×Int)}
theorem Zfb(h:2<=n):elemB l n a w k=elemB l 2 a w k:=by
 unfold elemB
 have:decide (2<=n/\kindAt l k≠7/\kindAt l k≠9/\¬(14<=k/\k<=19))=decide ((2:Int)<=2/\kindAt l k≠7/\kindAt l k≠9/\¬(14<=k/\k<=19)):=by
  rw[decide_eq_decide]
  constructor
  ·rintro⟨_,h2⟩;exact⟨by omega,h2⟩
  ·rintro⟨_,h2⟩;exact⟨h,h2⟩
 rw[this]
theorem ZR7(h:markB w=false):elemB l n a w k=elemB l 2 a w k:=by
 unfold elemB;rw[if_neg (by rw[h];decide),if_neg (by rw[h];decide)]
theorem Zob(hm:markB w=true)(h:n<2):elemB l n a w k=false:=by
 unfold elemB;rw[if_pos hm,Ya (by omega)]
 rfl
theorem ZIc{v:ByteArray}{j:Int}(hm:markB w=false)(hv:markB v=true):elemB l n (some (v,j)) w k=false:=by
 unfold elemB;rw[if_neg (by rw[hm];decide)]
 show(nameB w&&decide (kindAt l k=5)&&(!markB v&&Op.bytesLess v.toList w.toList))=false
 rw[hv];simp
theorem Ztd(hX:kindAt l k=X):termB l k=decide (¬(X=7\/X=9\/(14<=k/\k<=19))):=by
 unfold termB;rw[hX,decide_eq_decide]
 omega
end
theorem ZK8(ws:List ByteArray):∃T,T<=ws.length/\(∀j,j<T->markB (ws.getD j ⟨#[]⟩)=false)/\(T<ws.length->markB (ws.getD T ⟨#[]⟩)=true/\firstT markB ws=(T:Int))/\(T=ws.length->firstT markB ws = -1):=by
 unfold firstT
 cases h:ws.findIdx? markB with
 | none =>
  rw[List.findIdx?_eq_none_iff]at h;exact⟨ws.length,Yk _,fun j hj=>h _ (ZG0 hj),fun g=>absurd g (Nat.lt_irrefl _),fun _=>rfl⟩
 | some i =>
  rw[List.findIdx?_eq_some_iff_getElem]at h;obtain⟨hi,hp,hno⟩:=h;refine⟨i,Nat.le_of_lt hi,fun j hj=>?_,fun _=>⟨by rw[Z3 hi];exact hp,rfl⟩,fun g=>by omega⟩;have:=hno j hj;rw[Z3 (by omega)]
  simpa using this
theorem Z34{l:List Ty}{n:Int}{ws:List ByteArray}{ks:List Int}(h:∀j,j<ws.length->elemB l 2 (aheadOf ws ks j) (ws.getD j ⟨#[]⟩) (ks.getD j 0)=true)(hn:2<=n\/∀j,j<ws.length->markB (ws.getD j ⟨#[]⟩)=false):elemsB l n ws ks=true:=
 Zm5 fun j hj=>by
  rcases hn with hn|hn
  ·rw[Zfb hn];exact h j hj
  ·rw[ZR7 (hn j hj)];exact h j hj
theorem ZK6{l:List Ty}{n:Int}{ws:List ByteArray}{ks:List Int}{k:Nat}(hk:k<ws.length)(h:elemB l 2 (aheadOf ws ks k) (ws.getD k ⟨#[]⟩) (ks.getD k 0)=false):elemsB l n ws ks=false:=by
 refine Zq3 hk ?_
 by_cases hn:2<=n
 ·rw[Zfb hn];exact h
 ·cases hm:markB (ws.getD k ⟨#[]⟩)
  ·rw[ZR7 hm];exact h
  ·exact Zob hm (by omega)
theorem Zs4:∀x y:List UInt8,Op.bytesLess y x = !(Op.bytesLess x y||x==y)
 | [],[]=>rfl
 | [],b::y=>rfl
 | a::x,[]=>rfl
 | a::x,b::y=>by
  have ih:=Zs4 x y
  show(decide (b<a)||(b==a&&Op.bytesLess y x)) = !((decide (a<b)||(a==b&&Op.bytesLess x y))||((a==b)&&x==y))
  rw[ih]
  rcases Nat.lt_trichotomy a.toNat b.toNat with h|h|h
  ·have h1:decide (a<b)=true:=Yb (UInt8.lt_iff_toNat_lt.2 h)
   have h2:decide (b<a)=false:=Ya (fun g=>by have:=UInt8.lt_iff_toNat_lt.1 g;omega);have h3:(b==a)=false:=by rw[Yc];rintro rfl;omega
   rw[h1,h2,h3];rfl
  ·obtain rfl:a=b:=UInt8.toNat_inj.1 h
   have h2:decide (a<a)=false:=Ya (fun g=>by have:=UInt8.lt_iff_toNat_lt.1 g;omega);rw[h2,beq_self_eq_true];simp
  ·have h1:decide (b<a)=true:=Yb (UInt8.lt_iff_toNat_lt.2 h)
   have h2:decide (a<b)=false:=Ya (fun g=>by have:=UInt8.lt_iff_toNat_lt.1 g;omega);have h3:(a==b)=false:=by rw[Yc];rintro rfl;omega
   rw[h1,h2,h3];rfl
set_option maxRecDepth 100000 in
theorem ZVa(l:List Ty)(ao:Option Addr)(ac:Nat)(t:Ty)(wo ko:Option Addr)(wq kq:Nat)(w:World)(hl:ARow w ao l)(ht:TyC w wo ko t)(ll:l.length<=1000)(hin:∀k∈t.kids,0<=k/\k<(l.length:Int)) :
  Calls Tryz.prog 130 #[.slice ao l.length ac,tyV t wo wq ko kq] w fun e w'=>e=.returned (.bool (decide (t.name.size=0/\0<=t.n/\t.n<=3/\t.kids.length<=16/\t.words.length=t.kids.length)&&elemsB l t.n t.words t.kids))/\Below w.heap.size w w':=by
 obtain⟨r,hr⟩:∃r,(decide (t.name.size=0/\0<=t.n/\t.n<=3/\t.kids.length<=16/\t.words.length=t.kids.length)&&elemsB l t.n t.words t.kids)=r:=⟨_,rfl⟩
 rw[hr];have HR:=Yh hr;clear hr;unfold tyV;obtain⟨n,hn⟩:=Yn (t.words.length);obtain⟨m,hm⟩:=Yn (t.kids.length);obtain⟨L,hL⟩:=Yn (l.length);obtain⟨c,hcn⟩:=Yn (t.n);obtain⟨s,hs⟩:=Yn (t.name);have HN:=Yh hn;have HM:=Yh hm;have HL:=Yh hL;have l1:=ht.ok.wl;have l2:=ht.ok.kl;rw[hn]at l1 ⊢;rw[hm]at l2 ⊢;rw[hL]at ll ⊢;rw[hcn,hs];rw[hn,hm,hcn,hs]at HR;have HT:=Yh ht;have HA:=Yh hl;have HI:=Yh hin;clear hn hm ht hl hin hL hcn hs
 by_cases c0:s.size=0
 case neg =>
  have Hn:=@Yh (false=r) (by rw[<-HR.o,Ya (fun g=>c0 g.1)];rfl);have he:=Zf2 (s:=s) (by omega);have Av:=Zz0 (s:=s) (by omega);clear c0;go_enter Tryz.func130,Tryz.ntmps130;go_wp2_with fail;go_ret;exact⟨Z0 Hn.o,(Y8 _ _).alloc (Yk _) _⟩
 have he:s.toList=[]:=by rw[ByteArray.toList_eq,Zn1 c0]
 by_cases c1:c<0
 ·have Hn:=@Yh (false=r) (by rw[<-HR.o,Ya (by omega)];rfl)
  go_enter Tryz.func130,Tryz.ntmps130;go_wp2_with fail;go_ret;exact⟨Z0 Hn.o,(Y8 _ _).alloc (Yk _) _⟩
 by_cases c2:3<c
 ·have Hn:=@Yh (false=r) (by rw[<-HR.o,Ya (by omega)];rfl)
  go_enter Tryz.func130,Tryz.ntmps130;go_wp2_with fail;go_ret;exact⟨Z0 Hn.o,(Y8 _ _).alloc (Yk _) _⟩
 by_cases c3:m<=16
 case neg =>
  have Hn:=@Yh (false=r) (by rw[<-HR.o,Ya (by omega)];rfl);have hq:decide (16<m)=true:=Yb (by omega);go_enter Tryz.func130,Tryz.ntmps130;go_wp2_with fail;go_ret;exact⟨Z0 Hn.o,(Y8 _ _).alloc (Yk _) _⟩
 by_cases c4:n=m
 case neg =>
  have Hn:=@Yh (false=r) (by rw[<-HR.o,Ya (by omega)];rfl);have hq:((n:Int) != (m:Int))=true:=by rw[YJ];omega
  have Aq:((n:Int)==(m:Int))=false:=by rw[Yc];omega
  go_enter Tryz.func130,Tryz.ntmps130;go_wp2_with fail;go_ret;exact⟨Z0 Hn.o,(Y8 _ _).alloc (Yk _) _⟩
 subst c4;have Ae:=@Yh (elemsB l c t.words t.kids=r) (by rw[<-HR.o,Yb (by omega),Bool.true_and]);obtain⟨T,t1,t2,t3,t4⟩:=ZK8 t.words;rw[HN.o]at t1 t3 t4;have Af:=Yh t2;have Ak:=Yh t3;have Ar:=Yh t4;obtain⟨w1,h1,k1,q1,z1⟩:=YA w #[.int .i64 t.kind,.string s,.int .i64 c,.slice wo n wq,.slice ko n kq] 50;have BW:=Yh q1;have K1:=Yh k1;obtain⟨x0,x1,x2,x3,x4⟩:=cell5 k1;have Ac:=Z57 wo wq t.words w1 (HT.o.words.below q1) (by rw[HN.o];omega);rw[HN.o]at Ac;obtain⟨fz,hfz⟩:=Yn (firstT markB t.words);rw[hfz]at Ac;have Ac:=Yh Ac;have Al:=Yh hfz
 have Am:-1<=fz/\fz<=n:=by
  rcases Ym t1 with h|h
  ·have:=(t3 h).2;omega
  ·have:=t4 h;omega
 clear k1 q1 z1 t2 t3 t4 hfz;have As:decide (16<n)=false:=Ya (by omega);have Ap:decide ((16:Int)<(n:Int))=false:=Ya (by omega);go_enter Tryz.func130,Tryz.ntmps130;go_upto_if 40 with(go_at_call 145;refine Ac.o.mono ?_;rintro e w' ⟨rfl,rfl⟩)
 clear h1;go_cut [5] (fun v5 wx=>v5=.int .i64 T/\wx=w1)
 case first =>
  go_wp2_with fail
  ·go_meet
   case rel =>
    refine⟨?_,rfl⟩;have h1:fz<0:=by assumption
    have h2:T=n:=by
     rcases Ym t1 with h|h
     ·have:=(Ak.o h).2
      rw[Al.o]at this
      omega
     ·exact h
    rw[h2]
  ·go_meet
   case rel =>
    refine⟨?_,rfl⟩
    have h2:fz=(T:Int):=by
     rcases Ym t1 with h|h
     ·have:=(Ak.o h).2
      rw[Al.o]at this;exact this
     ·have:=Ar.o h
      rw[Al.o]at this
      omega
    rw[h2]
 case rest =>
  obtain⟨rfl,rfl⟩:=hcut;clear x0 x1 x2 x3 x4 Ac Am;go_wp2_with fail;go_loopw [45] (fun i wr=>∃k:Nat,k<=T/\i=.int .i64 k/\Hi (∀j,j<k->elemB l 2 (aheadOf t.words t.kids j) (t.words.getD j ⟨#[]⟩) (t.kids.getD j 0)=true)/\Hi (Below wc.heap.size wc wr)) (fun i _=>T-(intOf i).toNat)
  case atStart=>exact⟨0,Yl _,rfl,Yh (fun j hj=>absurd hj (Yr _)),Yh (Y8 _ _)⟩
  case round =>
   obtain⟨k,hk,rfl,Hall,HB⟩:=hrel;have BB:=YT BW HB.o
   by_cases hkT:k<T
   ·have A5:k<n:=by omega
    obtain⟨b,o,rfl,hb,hc⟩:=(HT.o.words.below BB.o).cells (by rw[HN.o];omega);obtain⟨kb,kof,rfl,hkb,hkc⟩:=(HT.o.kids.below BB.o).cells (by rw[HM.o];omega);have HC:=Yh hc;have Ag:=Yh hkc;have cx:=hc k (by rw[HN.o];exact A5);have ck:=hkc k (by rw[HM.o];exact A5);obtain⟨g1,g2⟩:=HI.o _ (Zd (show k<t.kids.length by rw[HM.o];exact A5));rw[HL.o]at g2;have An:=HT.o.ok.ws _ (ZG0 (show k<t.words.length by rw[HN.o];exact A5));obtain⟨u,hu⟩:=Yn (t.words.getD k ⟨#[]⟩);obtain⟨z,hz⟩:∃z:Nat,t.kids.getD k 0=(z:Int):=⟨(t.kids.getD k 0).toNat,by omega⟩
    have HU:=Yh hu;have HZ:=Yh hz;rw[hu]at cx An;rw[hz]at ck g2;have A8:z<L:=by omega
    obtain⟨ab,aof,rfl,hab,hac⟩:=(HA.o.below BB.o).cells (by rw[HL.o];omega);obtain⟨_,_,_,_,ca,-⟩:=hac z (by rw[HL.o];exact A8);obtain⟨X,hX⟩:=Yn ((l[z]'(by rw[HL.o];exact A8)).kind);rw[hX]at ca;have HX:=@Yh (kindAt l (z:Int)=X) (by rw[Ze (by rw[HL.o];exact A8)];exact hX)
    have TF:elemB l 2 (aheadOf t.words t.kids k) u (z:Int)=false->false=r:=fun h=>by
     rw[<-Ae.o];exact(ZK6 (k:=k) (by rw[HN.o];exact A5) (by rw[HU.o,HZ.o];exact h)).symm
    have TT:elemB l 2 (aheadOf t.words t.kids k) u (z:Int)=true->∀j,j<k+1->elemB l 2 (aheadOf t.words t.kids j) (t.words.getD j ⟨#[]⟩) (t.kids.getD j 0)=true:=fun h j hj=>by
     rcases Ym (Ys hj)with h1|h1
     ·exact Hall.o j h1
     ·subst h1;rw[HU.o,HZ.o];exact h
    have TF:=Yh TF;have TT:=Yh TT;obtain⟨-,-,x2,x3,x4⟩:=cell5 (K1.o.below HB.o);clear hu hz hc hkc hb hkb hab hac hX g1;have MK:=@Yh (markB u=false) (by rw[<-HU.o];exact Af.o k hkT);have Ah:∀W,Calls Tryz.prog 18 #[.string u] W fun e w'=>e=.returned (.bool (nameB u))/\w'=W:=fun W=>(Zp0 u W (by omega)).mono fun _ _ h=>⟨h.1,h.2.symm⟩
    have A2:=Yh Ah;clear Ah
    cases hnb:nameB u<;>rw[hnb]at A2<;>have NB:=Yh hnb<;>clear hnb
    ·have Hn:=Yh (TF.o (Zf9 MK.o NB.o))
     go_wp2_with fail;go_quiet (first|(go_at_call 18;exact Calls.quiet_of_same (A2.o _))|(go_at_call 147;exact Calls.quiet_of_same (A1.o _)))
     rename_i nq
     go_wp2_with fail;go_ret;exact⟨Z0 Hn.o,below_drewN BB.o nq⟩
    ·by_cases hX5:X=5
     case neg =>
      have hq:(X==5)=false:=by rw[Yc];exact hX5
      have Aq:(X != 5)=true:=by rw[bne,hq];rfl
      have Hn:=Yh (TF.o (Zh9 MK.o HX.o hX5));go_wp2_with fail;go_quiet (first|(go_at_call 18;exact Calls.quiet_of_same (A2.o _))|(go_at_call 147;exact Calls.quiet_of_same (A1.o _)))
      rename_i nq
      go_wp2_with fail;go_ret;exact⟨Z0 Hn.o,below_drewN BB.o nq⟩
     subst hX5
     by_cases h0:k=0
     ·subst h0
      rw[Nat.add_zero]at cx ck;have Hx:=Yh (TT.o (Zm9 MK.o NB.o HX.o rfl));go_wp2_with fail;go_quiet (first|(go_at_call 18;exact Calls.quiet_of_same (A2.o _))|(go_at_call 147;exact Calls.quiet_of_same (A1.o _)))
      rename_i nq
      go_wp2_with fail;go_roundw
      case rel=>exact⟨0+1,by omega,by go_num,Hx,Yh (below_drewN HB.o nq)⟩
      case measure=>first|(simp[intOf];done)|(simp[intOf];omega)
     ·obtain⟨p,rfl⟩:∃p,k=p+1:=⟨k-1,by omega⟩
      have cy:=HC.o p (by rw[HN.o];omega);have cj:=Ag.o p (by rw[HM.o];omega);have A3:=HT.o.ok.ks _ (Zd (show p<t.kids.length by rw[HM.o];omega));have A0:=Z00 (ws:=t.words) (ks:=t.kids) (p:=p);obtain⟨v,hv⟩:=Yn (t.words.getD p ⟨#[]⟩);obtain⟨j,hj⟩:=Yn (t.kids.getD p 0);have A9:=Yh hv;rw[hv]at cy A0;rw[hj]at cj A0 A3;have A6:=Yh A0;clear hv hj A0;have Aa:(0:Int)<(p:Int)+1:=by omega
      have A4:(p:Int)+1-1=(p:Int):=by omega
      have A7:IntKind.i64.wrap ((p:Int)+1-1)=(p:Int):=by rw[A4];exact IntWalk.i64_in _ (by omega)
      have MV:=@Yh (markB v=false) (by rw[<-A9.o];exact Af.o p (by omega));have Ab:=Yh (Zs4 u.toList v.toList)
      cases hls:Op.bytesLess u.toList v.toList
      ·have LS:=Yh hls
       cases heq:(u.toList==v.toList)
       ·have EQ:=Yh heq
        have Hx:=Yh (TT.o (by rw[A6.o,ZH1 MK.o NB.o HX.o rfl,MV.o,Ab.o,LS.o,EQ.o];rfl));go_wp2_with fail;go_quiet (first|(go_at_call 18;exact Calls.quiet_of_same (A2.o _))|(go_at_call 147;exact Calls.quiet_of_same (A1.o _)))
        rename_i nq
        go_wp2_with fail;go_roundw
        case rel=>exact⟨p+1+1,by omega,by go_num,Hx,Yh (below_drewN HB.o nq)⟩
        case measure=>first|(simp[intOf];done)|(simp[intOf];omega)
       ·have EQ:=Yh heq
        have Hn:=Yh (TF.o (by rw[A6.o,ZH1 MK.o NB.o HX.o rfl,MV.o,Ab.o,LS.o,EQ.o];rfl));go_wp2_with fail;go_quiet (first|(go_at_call 18;exact Calls.quiet_of_same (A2.o _))|(go_at_call 147;exact Calls.quiet_of_same (A1.o _)))
        rename_i nq
        go_wp2_with fail;go_ret;exact⟨Z0 Hn.o,below_drewN BB.o nq⟩
      ·have LS:=Yh hls
       have Hn:=Yh (TF.o (by rw[A6.o,ZH1 MK.o NB.o HX.o rfl,MV.o,Ab.o,LS.o];rfl));go_wp2_with fail;go_quiet (first|(go_at_call 18;exact Calls.quiet_of_same (A2.o _))|(go_at_call 147;exact Calls.quiet_of_same (A1.o _)))
       rename_i nq
       go_wp2_with fail;go_ret;exact⟨Z0 Hn.o,below_drewN BB.o nq⟩
   ·obtain rfl:k=T:=by omega
    clear hkT;go_wp2_with fail;go_loopw [7] (fun i wr2=>∃q:Nat,k<=q/\q<=n/\i=.int .i64 q/\Hi (∀j,j<q->elemB l 2 (aheadOf t.words t.kids j) (t.words.getD j ⟨#[]⟩) (t.kids.getD j 0)=true)/\Hi (∀j,k<=j->j<q->markB (t.words.getD j ⟨#[]⟩)=true)/\Hi (Below wc.heap.size wc wr2)) (fun i _=>n-(intOf i).toNat)
    case atStart=>exact⟨k,Yk _,t1,rfl,Hall,Yh (fun j h1 h2=>by omega),HB⟩
    case round =>
     obtain⟨q,hq0,hq,rfl,Hall,Hmk,HB⟩:=hrel;have BB:=YT BW HB.o
     by_cases A5:q<n
     ·obtain⟨b,o,rfl,hb,hc⟩:=(HT.o.words.below BB.o).cells (by rw[HN.o];omega)
      obtain⟨kb,kof,rfl,hkb,hkc⟩:=(HT.o.kids.below BB.o).cells (by rw[HM.o];omega);have HC:=Yh hc;have Ag:=Yh hkc;have cx:=hc q (by rw[HN.o];exact A5);have ck:=hkc q (by rw[HM.o];exact A5);obtain⟨g1,g2⟩:=HI.o _ (Zd (show q<t.kids.length by rw[HM.o];exact A5));rw[HL.o]at g2;have An:=HT.o.ok.ws _ (ZG0 (show q<t.words.length by rw[HN.o];exact A5));obtain⟨u,hu⟩:=Yn (t.words.getD q ⟨#[]⟩);obtain⟨z,hz⟩:∃z:Nat,t.kids.getD q 0=(z:Int):=⟨(t.kids.getD q 0).toNat,by omega⟩
      have HU:=Yh hu;have HZ:=Yh hz;rw[hu]at cx An;rw[hz]at ck g2;have A8:z<L:=by omega
      obtain⟨ab,aof,rfl,hab,hac⟩:=(HA.o.below BB.o).cells (by rw[HL.o];omega);obtain⟨_,_,_,_,ca,-⟩:=hac z (by rw[HL.o];exact A8);obtain⟨X,hX⟩:=Yn ((l[z]'(by rw[HL.o];exact A8)).kind);rw[hX]at ca;have HX:=@Yh (kindAt l (z:Int)=X) (by rw[Ze (by rw[HL.o];exact A8)];exact hX);have At:=Yh (HA.o.below BB.o)
      have TF:elemB l 2 (aheadOf t.words t.kids q) u (z:Int)=false->false=r:=fun h=>by
       rw[<-Ae.o];exact(ZK6 (k:=q) (by rw[HN.o];exact A5) (by rw[HU.o,HZ.o];exact h)).symm
      have TT:elemB l 2 (aheadOf t.words t.kids q) u (z:Int)=true->∀j,j<q+1->elemB l 2 (aheadOf t.words t.kids j) (t.words.getD j ⟨#[]⟩) (t.kids.getD j 0)=true:=fun h j hj=>by
       rcases Ym (Ys hj)with h1|h1
       ·exact Hall.o j h1
       ·subst h1;rw[HU.o,HZ.o];exact h
      have TF:=Yh TF;have TT:=Yh TT;obtain⟨-,-,x2,x3,x4⟩:=cell5 (K1.o.below HB.o);clear hu hz hc hkc hb hkb hab hac hX g1
      have Ai:∀nn,Calls Tryz.prog 147 #[.slice (some ⟨ab,aof,none⟩) L ac,.int .i64 z] (wr.drewN nn) fun e w'=>e=.returned (.bool (termB l (z:Int)))/\w'=wr.drewN nn:=fun nn=>by
       have:=ZWb l (some ⟨ab,aof,none⟩) ac z (wr.drewN nn) (At.o.below (below_drewN (Y8 _ _) nn)) (by rw[HL.o];exact A8) (by rw[HL.o];omega);rw[HL.o]at this;exact this.mono fun _ _ h=>⟨h.1,h.2.symm⟩
      have A1:=Yh Ai;have Ad:=Yh (Ztd HX.o);clear Ai
      cases hm1:(u.toList==[61])<;>cases hm2:(u.toList==[126])
      ·have MK:=@Yh (markB u=false) (by unfold markB;rw[hm1,hm2];rfl)
       by_cases h0:q=k
       ·exfalso
        have:=(Ak.o (by omega)).1;rw[<-h0,HU.o,MK.o]at this
        cases this
       ·obtain⟨p,rfl⟩:∃p,q=p+1:=⟨q-1,by omega⟩
        have cy:=HC.o p (by rw[HN.o];omega);have cj:=Ag.o p (by rw[HM.o];omega);have A3:=HT.o.ok.ks _ (Zd (show p<t.kids.length by rw[HM.o];omega));have A0:=Z00 (ws:=t.words) (ks:=t.kids) (p:=p);obtain⟨v,hv⟩:=Yn (t.words.getD p ⟨#[]⟩);obtain⟨j,hj⟩:=Yn (t.kids.getD p 0);have A9:=Yh hv;rw[hv]at cy A0;rw[hj]at cj A0 A3;have A6:=Yh A0;clear hv hj A0;have Aa:(0:Int)<(p:Int)+1:=by omega
        have A4:(p:Int)+1-1=(p:Int):=by omega
        have A7:IntKind.i64.wrap ((p:Int)+1-1)=(p:Int):=by rw[A4];exact IntWalk.i64_in _ (by omega)
        have MV:=@Yh (markB v=true) (by rw[<-A9.o];exact Hmk.o p (by omega) (by omega));have Hn:=Yh (TF.o (by rw[A6.o];exact ZIc MK.o MV.o));go_wp2_with fail;go_quiet (first|(go_at_call 18;exact Calls.quiet_of_same (A2.o _))|(go_at_call 147;exact Calls.quiet_of_same (A1.o _)))
        rename_i nq
        go_wp2_with fail;go_ret;exact⟨Z0 Hn.o,below_drewN BB.o nq⟩
      ·have MK:=@Yh (markB u=true) (by unfold markB;rw[hm1,hm2];rfl)
       have Aj:=Yh (show ∀j,k<=j->j<q+1->markB (t.words.getD j ⟨#[]⟩)=true from fun j h1 h2=>by
        rcases Ym (Ys h2)with h3|h3
        ·exact Hmk.o j h1 h3
        ·rw[h3,HU.o];exact MK.o)
       cases htb:termB l (z:Int)<;>rw[htb]at A1 Ad<;>have TB:=Yh htb<;>clear htb
       ·have Hn:=Yh (TF.o (Zm2 MK.o HX.o (by have:=Ad.o;have:=of_decide_eq_false this.symm;omega)))
        go_wp2_with fail;go_quiet (first|(go_at_call 18;exact Calls.quiet_of_same (A2.o _))|(go_at_call 147;exact Calls.quiet_of_same (A1.o _)))
        rename_i nq
        go_wp2_with fail;go_ret;exact⟨Z0 Hn.o,below_drewN BB.o nq⟩
       ·have HD:=@Yh (¬((2:Int)<2\/X=7\/X=9\/(14<=(z:Int)/\(z:Int)<=19))) (by have:=Ad.o;have:=Yf this.symm;omega)
        by_cases h0:q=k
        ·subst h0
         have HG:=Yh (show elemB l 2 (aheadOf t.words t.kids q) u (z:Int)=true from by
          by_cases hz0:q=0
          ·subst hz0;exact ZP3 MK.o HX.o HD.o
          ·obtain⟨p,rfl⟩:∃p,q=p+1:=⟨q-1,by omega⟩
           rw[Z00,Z90 MK.o HX.o HD.o,Af.o p (by omega)];rfl)
         have Hx:=Yh (TT.o (HG.o));go_wp2_with fail;go_quiet (first|(go_at_call 18;exact Calls.quiet_of_same (A2.o _))|(go_at_call 147;exact Calls.quiet_of_same (A1.o _)))
         rename_i nq
         go_wp2_with fail;go_roundw
         case rel=>exact⟨q+1,by omega,by omega,by go_num,Hx,Aj,Yh (below_drewN HB.o nq)⟩
         case measure=>first|(simp[intOf];done)|(simp[intOf];omega)
        ·obtain⟨p,rfl⟩:∃p,q=p+1:=⟨q-1,by omega⟩
         have cy:=HC.o p (by rw[HN.o];omega);have cj:=Ag.o p (by rw[HM.o];omega);have A3:=HT.o.ok.ks _ (Zd (show p<t.kids.length by rw[HM.o];omega));have A0:=Z00 (ws:=t.words) (ks:=t.kids) (p:=p);obtain⟨v,hv⟩:=Yn (t.words.getD p ⟨#[]⟩);obtain⟨j,hj⟩:=Yn (t.kids.getD p 0);have A9:=Yh hv;rw[hv]at cy A0;rw[hj]at cj A0 A3;have A6:=Yh A0;clear hv hj A0;have Aa:(0:Int)<(p:Int)+1:=by omega
         have A4:(p:Int)+1-1=(p:Int):=by omega
         have A7:IntKind.i64.wrap ((p:Int)+1-1)=(p:Int):=by rw[A4];exact IntWalk.i64_in _ (by omega)
         have MV:=@Yh (markB v=true) (by rw[<-A9.o];exact Hmk.o p (by omega) (by omega));have Au:decide (k<p+1)=true:=Yb (by omega);have Ao:decide ((k:Int)<(p:Int)+1)=true:=Yb (by omega)
         by_cases hkj:(z:Int)<=j
         ·have Hn:=Yh (TF.o (by rw[A6.o,Z90 MK.o HX.o HD.o,MV.o,Yb hkj];rfl))
          go_wp2_with fail;go_quiet (first|(go_at_call 18;exact Calls.quiet_of_same (A2.o _))|(go_at_call 147;exact Calls.quiet_of_same (A1.o _)))
          rename_i nq
          go_wp2_with fail;go_ret;exact⟨Z0 Hn.o,below_drewN BB.o nq⟩
         ·have Hx:=Yh (TT.o (by rw[A6.o,Z90 MK.o HX.o HD.o,MV.o,Ya hkj];rfl))
          go_wp2_with fail;go_quiet (first|(go_at_call 18;exact Calls.quiet_of_same (A2.o _))|(go_at_call 147;exact Calls.quiet_of_same (A1.o _)))
          rename_i nq
          go_wp2_with fail;go_roundw
          case rel=>exact⟨p+1+1,by omega,by omega,by go_num,Hx,Aj,Yh (below_drewN HB.o nq)⟩
          case measure=>first|(simp[intOf];done)|(simp[intOf];omega)
      ·have MK:=@Yh (markB u=true) (by unfold markB;rw[hm1,hm2];rfl)
       have Aj:=Yh (show ∀j,k<=j->j<q+1->markB (t.words.getD j ⟨#[]⟩)=true from fun j h1 h2=>by
        rcases Ym (Ys h2)with h3|h3
        ·exact Hmk.o j h1 h3
        ·rw[h3,HU.o];exact MK.o)
       cases htb:termB l (z:Int)<;>rw[htb]at A1 Ad<;>have TB:=Yh htb<;>clear htb
       ·have Hn:=Yh (TF.o (Zm2 MK.o HX.o (by have:=Ad.o;have:=of_decide_eq_false this.symm;omega)))
        go_wp2_with fail;go_quiet (first|(go_at_call 18;exact Calls.quiet_of_same (A2.o _))|(go_at_call 147;exact Calls.quiet_of_same (A1.o _)))
        rename_i nq
        go_wp2_with fail;go_ret;exact⟨Z0 Hn.o,below_drewN BB.o nq⟩
       ·have HD:=@Yh (¬((2:Int)<2\/X=7\/X=9\/(14<=(z:Int)/\(z:Int)<=19))) (by have:=Ad.o;have:=Yf this.symm;omega)
        by_cases h0:q=k
        ·subst h0
         have HG:=Yh (show elemB l 2 (aheadOf t.words t.kids q) u (z:Int)=true from by
          by_cases hz0:q=0
          ·subst hz0;exact ZP3 MK.o HX.o HD.o
          ·obtain⟨p,rfl⟩:∃p,q=p+1:=⟨q-1,by omega⟩
           rw[Z00,Z90 MK.o HX.o HD.o,Af.o p (by omega)];rfl)
         have Hx:=Yh (TT.o (HG.o));go_wp2_with fail;go_quiet (first|(go_at_call 18;exact Calls.quiet_of_same (A2.o _))|(go_at_call 147;exact Calls.quiet_of_same (A1.o _)))
         rename_i nq
         go_wp2_with fail;go_roundw
         case rel=>exact⟨q+1,by omega,by omega,by go_num,Hx,Aj,Yh (below_drewN HB.o nq)⟩
         case measure=>first|(simp[intOf];done)|(simp[intOf];omega)
        ·obtain⟨p,rfl⟩:∃p,q=p+1:=⟨q-1,by omega⟩
         have cy:=HC.o p (by rw[HN.o];omega);have cj:=Ag.o p (by rw[HM.o];omega);have A3:=HT.o.ok.ks _ (Zd (show p<t.kids.length by rw[HM.o];omega));have A0:=Z00 (ws:=t.words) (ks:=t.kids) (p:=p);obtain⟨v,hv⟩:=Yn (t.words.getD p ⟨#[]⟩);obtain⟨j,hj⟩:=Yn (t.kids.getD p 0);have A9:=Yh hv;rw[hv]at cy A0;rw[hj]at cj A0 A3;have A6:=Yh A0;clear hv hj A0;have Aa:(0:Int)<(p:Int)+1:=by omega
         have A4:(p:Int)+1-1=(p:Int):=by omega
         have A7:IntKind.i64.wrap ((p:Int)+1-1)=(p:Int):=by rw[A4];exact IntWalk.i64_in _ (by omega)
         have MV:=@Yh (markB v=true) (by rw[<-A9.o];exact Hmk.o p (by omega) (by omega));have Au:decide (k<p+1)=true:=Yb (by omega);have Ao:decide ((k:Int)<(p:Int)+1)=true:=Yb (by omega)
         by_cases hkj:(z:Int)<=j
         ·have Hn:=Yh (TF.o (by rw[A6.o,Z90 MK.o HX.o HD.o,MV.o,Yb hkj];rfl))
          go_wp2_with fail;go_quiet (first|(go_at_call 18;exact Calls.quiet_of_same (A2.o _))|(go_at_call 147;exact Calls.quiet_of_same (A1.o _)))
          rename_i nq
          go_wp2_with fail;go_ret;exact⟨Z0 Hn.o,below_drewN BB.o nq⟩
         ·have Hx:=Yh (TT.o (by rw[A6.o,Z90 MK.o HX.o HD.o,MV.o,Ya hkj];rfl))
          go_wp2_with fail;go_quiet (first|(go_at_call 18;exact Calls.quiet_of_same (A2.o _))|(go_at_call 147;exact Calls.quiet_of_same (A1.o _)))
          rename_i nq
          go_wp2_with fail;go_roundw
          case rel=>exact⟨p+1+1,by omega,by omega,by go_num,Hx,Aj,Yh (below_drewN HB.o nq)⟩
          case measure=>first|(simp[intOf];done)|(simp[intOf];omega)
      ·exfalso
       rw[YK]at hm1 hm2;rw[hm1]at hm2
       cases hm2
     ·obtain rfl:q=n:=by omega
      have BE:=YT BW HB.o;obtain⟨-,-,x2,x3,x4⟩:=cell5 (K1.o.below HB.o)
      by_cases hc2:2<=c
      ·have Hn:=Yh (show true=r from by
        rw[<-Ae.o];exact(Z34 (fun j hj=>Hall.o j (by rw[HN.o]at hj;exact hj)) (.inl hc2)).symm)
       go_wp2_with fail;go_ret;exact⟨Z0 Hn.o,BE.o⟩
      ·by_cases hkq:k=q
       ·have Hn:=Yh (show true=r from by
         rw[<-Ae.o];exact(Z34 (fun j hj=>Hall.o j (by rw[HN.o]at hj;exact hj)) (.inr (fun j hj=>Af.o j (by rw[HN.o]at hj;omega)))).symm)
        subst hkq;go_wp2_with fail;go_ret;exact⟨Z0 Hn.o,BE.o⟩
       ·have Hn:=Yh (show false=r from by
         rw[<-Ae.o];refine(Zq3 (k:=k) (by rw[HN.o];omega) (Zob ?_ (by omega))).symm;exact(Ak.o (by omega)).1)
        have Aw:((k:Int)==(q:Int))=false:=by rw[Yc];omega
        go_wp2_with fail;go_ret;exact⟨Z0 Hn.o,BE.o⟩
section
variable {l:List Ty} {a n:Int} {s:ByteArray} {ws:List ByteArray} {ks:List Int}
theorem Zu0(h:bareB ⟨a,s,n,ws,ks⟩=false)(ha:a=1\/a=2\/a=3\/a=4\/a=5\/a=9):madeB l ⟨a,s,n,ws,ks⟩=false:=by
 rcases ha with rfl|rfl|rfl|rfl|rfl|rfl<;>simp[madeB,h]
theorem ZS(h:bareB ⟨a,s,n,ws,ks⟩=true):s.size=0/\ws=[]:=Yf h
theorem ZKc(hk:kidsB l ks=true):madeB l ⟨6,s,n,ws,ks⟩=(decide (s.size=0/\n=0/\ks.length<=16/\ws.length=ks.length)&&fieldsB ws):=by simp[madeB,hk]
theorem ZZc(hk:kidsB l ks=true):madeB l ⟨7,s,n,ws,ks⟩=(decide (s.size=0/\0<=n/\n<=3/\ks.length<=16/\ws.length=ks.length)&&elemsB l n ws ks):=by simp[madeB,hk]
end
set_option maxRecDepth 100000 in
theorem Zg6(l:List Ty)(ao:Option Addr)(ac:Nat)(t:Ty)(wo ko:Option Addr)(wc kc:Nat)(w:World)(hl:ARow w ao l)(ht:TyC w wo ko t)(ll:l.length<=1000)(hwc:t.words.length<=wc)(hmx:MaxAt w) :
  Calls Tryz.prog 106 #[.slice ao l.length ac,tyV t wo wc ko kc] w fun e w'=>e=.returned (.bool (madeB l t))/\Below w.heap.size w w':=by
 obtain⟨a,s,n,ws,ks⟩:=t;obtain⟨r,hr⟩:=Yn (madeB l ⟨a,s,n,ws,ks⟩);rw[hr];have HR:=Yh hr;unfold tyV
 show Calls _ _ #[.slice ao l.length ac,.agg #[.int .i64 a,.string s,.int .i64 n,.slice wo ws.length wc,.slice ko ks.length kc]] _ _
 have l1:ws.length<=18:=ht.ok.wl;have l2:ks.length<=18:=ht.ok.kl;have l3:s.size<=50:=ht.ok.nl;obtain⟨w1,h1,k1,q1,z1⟩:=YA w #[.int .i64 a,.string s,.int .i64 n,.slice wo ws.length wc,.slice ko ks.length kc] 50;have BW:=Yh q1;have K1:=Yh k1;have A0:=Z5d ⟨a,s,n,ws,ks⟩ wo ko wc kc w1 l1;have A1:=Za7 ⟨a,s,n,ws,ks⟩ wo ko wc kc w1 (ht.below q1) hwc;have A2:=Yh (fun hin=>ZVa l ao ac ⟨a,s,n,ws,ks⟩ wo ko wc kc w1 (hl.below q1) (ht.below q1) ll hin);have A4:=Yh (ZZ7 s w1 (by omega) (hmx.below q1));unfold tyV at A0 A1 A2;have A0:Calls Tryz.prog 128 #[.agg #[.int .i64 a,.string s,.int .i64 n,.slice wo ws.length wc,.slice ko ks.length kc]] w1 fun e w'=>e=.returned (.bool (bareB ⟨a,s,n,ws,ks⟩))/\Below w1.heap.size w1 w':=A0
 have A1:Calls Tryz.prog 129 #[.agg #[.int .i64 a,.string s,.int .i64 n,.slice wo ws.length wc,.slice ko ks.length kc]] w1 fun e w'=>e=.returned (.bool (decide (s.size=0/\n=0/\ks.length<=16/\ws.length=ks.length)&&fieldsB ws))/\Below w1.heap.size w1 w':=A1
 have A2:=@Yh ((∀k∈ks,0<=k/\k<(l.length:Int))->Calls Tryz.prog 130 #[.slice ao l.length ac,.agg #[.int .i64 a,.string s,.int .i64 n,.slice wo ws.length wc,.slice ko ks.length kc]] w1 fun e w'=>e=.returned (.bool (decide (s.size=0/\0<=n/\n<=3/\ks.length<=16/\ws.length=ks.length)&&elemsB l n ws ks))/\Below w1.heap.size w1 w') (A2.o);obtain⟨p,hp⟩:=Yn (ws.length);obtain⟨q,hq⟩:=Yn (ks.length);obtain⟨L,hL⟩:=Yn (l.length);have HP:=Yh hp;have HQ:=Yh hq;have HL:=Yh hL;have HT:=Yh ht;rw[hp]at l1 h1 A0 A1 A2 K1 ⊢;rw[hq]at l2 h1 A0 A1 A2 K1 ⊢;rw[hL]at ll A2 ⊢;have A0:=Yh A0;have A1:=Yh A1;clear hr hp hq hL ht hl hwc k1 q1 z1 hmx;obtain⟨x0,x1,x2,x3,x4⟩:=cell5 K1.o;go_enter Tryz.func106,Tryz.ntmps106;go_wp2_with fail;clear h1 x0 x1 x2 x3 x4;go_loopw [10] (fun i wr=>∃k:Nat,k<=q/\i=.int .i64 k/\Hi (∀j,j<k->(0<=ks.getD j 0/\ks.getD j 0<(l.length:Int)))/\wr=w1) (fun i _=>q-(intOf i).toNat)
 case atStart=>exact⟨0,Yl _,rfl,Yh (fun j hj=>absurd hj (Yr _)),by first|rfl|trivial⟩
 case round =>
  obtain⟨k,hk,rfl,Hall,rfl⟩:=hrel
  by_cases hkl:k<q
  ·obtain⟨kb,kof,rfl,hkb,hkc⟩:=(HT.o.below BW.o).kids.cells (by show 0<ks.length;rw[HQ.o];omega)
   have ck:wr.cell? ⟨kb,kof+k,none⟩=some (.int .i64 (ks.getD k 0)):=hkc k (by show k<ks.length;rw[HQ.o];exact hkl);obtain⟨z,hz⟩:=Yn (ks.getD k 0);have HZ:=Yh hz;rw[hz]at ck;clear hz hkb hkc
   by_cases d1:z<0
   ·have Hn:=@Yh (false=r) (by rw[<-HR.o];exact(ZY1 (ZN2 (k:=k) (by rw[HQ.o];exact hkl) (by rw[HZ.o];omega))).symm)
    go_wp2_with fail;go_ret;exact⟨Z0 Hn.o,BW.o⟩
   by_cases d2:(L:Int)<=z
   ·have Hn:=@Yh (false=r) (by rw[<-HR.o];exact(ZY1 (ZN2 (k:=k) (by rw[HQ.o];exact hkl) (by rw[HZ.o,HL.o];omega))).symm)
    go_wp2_with fail;go_ret;exact⟨Z0 Hn.o,BW.o⟩
   ·have Hx:=Yh (show ∀j,j<k+1->(0<=ks.getD j 0/\ks.getD j 0<(l.length:Int))from fun j hj=>by
     rcases Ym (Ys hj)with h1|h1
     ·exact Hall.o j h1
     ·rw[h1,HZ.o,HL.o];omega)
    go_wp2_with fail;go_roundw
    case rel=>exact⟨k+1,by omega,by go_num,Hx,by first|rfl|trivial⟩
    case measure=>simp[intOf];omega
  ·obtain rfl:k=q:=by omega
   have HK:=Yh (Zv6 (l:=l) (fun j hj=>Hall.o j (by rw[HQ.o]at hj;exact hj)));have A3:=K1.o;obtain⟨x0,x1,x2,x3,x4⟩:=cell5 A3;clear A3
   by_cases a1:a=1
   ·subst a1
    have A0:=Yh A0.o
    cases hba:bareB ⟨1,s,n,ws,ks⟩<;>rw[hba]at A0<;>have BA:=Yh hba<;>clear hba
    ·have Hn:=@Yh (false=r) (by rw[<-HR.o];exact(Zu0 BA.o (by decide)).symm)
     go_wp2_with fail;refine A0.o.mono ?_;rintro e w2 ⟨rfl,b2⟩;have B2:=YT BW b2;clear x0 x1 x2 x3 x4;obtain⟨x0,x1,x2,x3,x4⟩:=cell5 (K1.o.below b2);clear b2;go_wp2_with fail;go_ret;exact⟨Z0 Hn.o,B2.o⟩
    have HM:=Yh (made1 (n:=n) HK.o (ZS BA.o).1 (ZS BA.o).2);rw[HQ.o]at HM
    by_cases d1:k=1
    case neg =>
     have Hn:=@Yh (false=r) (by rw[<-HR.o,HM.o,Ya (by omega)]);have f1:((k:Int)==1)=false:=by rw[Yc];omega
     go_wp2_with fail;refine A0.o.mono ?_;rintro e w2 ⟨rfl,b2⟩;have B2:=YT BW b2;clear x0 x1 x2 x3 x4;obtain⟨x0,x1,x2,x3,x4⟩:=cell5 (K1.o.below b2);clear b2;go_wp2_with fail;go_ret;exact⟨Z0 Hn.o,B2.o⟩
    subst d1
    by_cases d2:n=0
    case neg =>
     have Hn:=@Yh (false=r) (by rw[<-HR.o,HM.o,Ya (by omega)]);have f2:(n==0)=false:=by rw[Yc];exact d2
     go_wp2_with fail;refine A0.o.mono ?_;rintro e w2 ⟨rfl,b2⟩;have B2:=YT BW b2;clear x0 x1 x2 x3 x4;obtain⟨x0,x1,x2,x3,x4⟩:=cell5 (K1.o.below b2);clear b2;go_wp2_with fail;go_ret;exact⟨Z0 Hn.o,B2.o⟩
    subst d2;have Hn:=@Yh (true=r) (by rw[<-HR.o,HM.o,Yb (by omega)]);go_wp2_with fail;refine A0.o.mono ?_;rintro e w2 ⟨rfl,b2⟩;have B2:=YT BW b2;clear x0 x1 x2 x3 x4;obtain⟨x0,x1,x2,x3,x4⟩:=cell5 (K1.o.below b2);clear b2;go_wp2_with fail;go_ret;exact⟨Z0 Hn.o,B2.o⟩
   by_cases a2:a=2
   ·subst a2
    have A0:=Yh A0.o
    cases hba:bareB ⟨2,s,n,ws,ks⟩<;>rw[hba]at A0<;>have BA:=Yh hba<;>clear hba
    ·have Hn:=@Yh (false=r) (by rw[<-HR.o];exact(Zu0 BA.o (by decide)).symm)
     go_wp2_with fail;refine A0.o.mono ?_;rintro e w2 ⟨rfl,b2⟩;have B2:=YT BW b2;clear x0 x1 x2 x3 x4;obtain⟨x0,x1,x2,x3,x4⟩:=cell5 (K1.o.below b2);clear b2;go_wp2_with fail;go_ret;exact⟨Z0 Hn.o,B2.o⟩
    have HM:=Yh (made2 (n:=n) HK.o (ZS BA.o).1 (ZS BA.o).2);rw[HQ.o]at HM
    by_cases d1:k=1
    case neg =>
     have Hn:=@Yh (false=r) (by rw[<-HR.o,HM.o,Ya (by omega)]);have f1:((k:Int)==1)=false:=by rw[Yc];omega
     go_wp2_with fail;refine A0.o.mono ?_;rintro e w2 ⟨rfl,b2⟩;have B2:=YT BW b2;clear x0 x1 x2 x3 x4;obtain⟨x0,x1,x2,x3,x4⟩:=cell5 (K1.o.below b2);clear b2;go_wp2_with fail;go_ret;exact⟨Z0 Hn.o,B2.o⟩
    subst d1
    by_cases d2:n=0
    case neg =>
     have Hn:=@Yh (false=r) (by rw[<-HR.o,HM.o,Ya (by omega)]);have f2:(n==0)=false:=by rw[Yc];exact d2
     go_wp2_with fail;refine A0.o.mono ?_;rintro e w2 ⟨rfl,b2⟩;have B2:=YT BW b2;clear x0 x1 x2 x3 x4;obtain⟨x0,x1,x2,x3,x4⟩:=cell5 (K1.o.below b2);clear b2;go_wp2_with fail;go_ret;exact⟨Z0 Hn.o,B2.o⟩
    subst d2;have Hn:=@Yh (true=r) (by rw[<-HR.o,HM.o,Yb (by omega)]);go_wp2_with fail;refine A0.o.mono ?_;rintro e w2 ⟨rfl,b2⟩;have B2:=YT BW b2;clear x0 x1 x2 x3 x4;obtain⟨x0,x1,x2,x3,x4⟩:=cell5 (K1.o.below b2);clear b2;go_wp2_with fail;go_ret;exact⟨Z0 Hn.o,B2.o⟩
   by_cases a3:a=3
   ·subst a3
    have A0:=Yh A0.o
    cases hba:bareB ⟨3,s,n,ws,ks⟩<;>rw[hba]at A0<;>have BA:=Yh hba<;>clear hba
    ·have Hn:=@Yh (false=r) (by rw[<-HR.o];exact(Zu0 BA.o (by decide)).symm)
     go_wp2_with fail;refine A0.o.mono ?_;rintro e w2 ⟨rfl,b2⟩;have B2:=YT BW b2;clear x0 x1 x2 x3 x4;obtain⟨x0,x1,x2,x3,x4⟩:=cell5 (K1.o.below b2);clear b2;go_wp2_with fail;go_ret;exact⟨Z0 Hn.o,B2.o⟩
    have HM:=Yh (made3 (n:=n) HK.o (ZS BA.o).1 (ZS BA.o).2);rw[HQ.o]at HM
    by_cases d1:k=1
    case neg =>
     have Hn:=@Yh (false=r) (by rw[<-HR.o,HM.o,Ya (by omega)]);have f1:((k:Int)==1)=false:=by rw[Yc];omega
     go_wp2_with fail;refine A0.o.mono ?_;rintro e w2 ⟨rfl,b2⟩;have B2:=YT BW b2;clear x0 x1 x2 x3 x4;obtain⟨x0,x1,x2,x3,x4⟩:=cell5 (K1.o.below b2);clear b2;go_wp2_with fail;go_ret;exact⟨Z0 Hn.o,B2.o⟩
    subst d1
    by_cases d2:0<=n
    case neg =>
     have Hn:=@Yh (false=r) (by rw[<-HR.o,HM.o,Ya (by omega)]);go_wp2_with fail;refine A0.o.mono ?_;rintro e w2 ⟨rfl,b2⟩;have B2:=YT BW b2;clear x0 x1 x2 x3 x4;obtain⟨x0,x1,x2,x3,x4⟩:=cell5 (K1.o.below b2);clear b2;go_wp2_with fail;go_ret;exact⟨Z0 Hn.o,B2.o⟩
    by_cases d3:n<=2147483648
    case neg =>
     have Hn:=@Yh (false=r) (by rw[<-HR.o,HM.o,Ya (by omega)]);have f3:decide (n<=2147483648)=false:=Ya d3;go_wp2_with fail;refine A0.o.mono ?_;rintro e w2 ⟨rfl,b2⟩;have B2:=YT BW b2;clear x0 x1 x2 x3 x4;obtain⟨x0,x1,x2,x3,x4⟩:=cell5 (K1.o.below b2);clear b2;go_wp2_with fail;go_ret;exact⟨Z0 Hn.o,B2.o⟩
    have Hn:=@Yh (true=r) (by rw[<-HR.o,HM.o,Yb (by omega)]);go_wp2_with fail;refine A0.o.mono ?_;rintro e w2 ⟨rfl,b2⟩;have B2:=YT BW b2;clear x0 x1 x2 x3 x4;obtain⟨x0,x1,x2,x3,x4⟩:=cell5 (K1.o.below b2);clear b2;go_wp2_with fail;go_ret;exact⟨Z0 Hn.o,B2.o⟩
   by_cases a4:a=4
   ·subst a4
    have A0:=Yh A0.o
    cases hba:bareB ⟨4,s,n,ws,ks⟩<;>rw[hba]at A0<;>have BA:=Yh hba<;>clear hba
    ·have Hn:=@Yh (false=r) (by rw[<-HR.o];exact(Zu0 BA.o (by decide)).symm)
     go_wp2_with fail;refine A0.o.mono ?_;rintro e w2 ⟨rfl,b2⟩;have B2:=YT BW b2;clear x0 x1 x2 x3 x4;obtain⟨x0,x1,x2,x3,x4⟩:=cell5 (K1.o.below b2);clear b2;go_wp2_with fail;go_ret;exact⟨Z0 Hn.o,B2.o⟩
    have HM:=Yh (made4 (n:=n) HK.o (ZS BA.o).1 (ZS BA.o).2);rw[HQ.o]at HM
    by_cases d1:k=2
    case neg =>
     have Hn:=@Yh (false=r) (by rw[<-HR.o,HM.o,Ya (by omega)]);have f1:((k:Int)==2)=false:=by rw[Yc];omega
     go_wp2_with fail;refine A0.o.mono ?_;rintro e w2 ⟨rfl,b2⟩;have B2:=YT BW b2;clear x0 x1 x2 x3 x4;obtain⟨x0,x1,x2,x3,x4⟩:=cell5 (K1.o.below b2);clear b2;go_wp2_with fail;go_ret;exact⟨Z0 Hn.o,B2.o⟩
    subst d1
    by_cases d2:n=0
    case neg =>
     have Hn:=@Yh (false=r) (by rw[<-HR.o,HM.o,Ya (by omega)]);have f2:(n==0)=false:=by rw[Yc];exact d2
     go_wp2_with fail;refine A0.o.mono ?_;rintro e w2 ⟨rfl,b2⟩;have B2:=YT BW b2;clear x0 x1 x2 x3 x4;obtain⟨x0,x1,x2,x3,x4⟩:=cell5 (K1.o.below b2);clear b2;go_wp2_with fail;go_ret;exact⟨Z0 Hn.o,B2.o⟩
    subst d2;have Hn:=@Yh (true=r) (by rw[<-HR.o,HM.o,Yb (by omega)]);go_wp2_with fail;refine A0.o.mono ?_;rintro e w2 ⟨rfl,b2⟩;have B2:=YT BW b2;clear x0 x1 x2 x3 x4;obtain⟨x0,x1,x2,x3,x4⟩:=cell5 (K1.o.below b2);clear b2;go_wp2_with fail;go_ret;exact⟨Z0 Hn.o,B2.o⟩
   by_cases a5:a=5
   ·subst a5
    have A0:=Yh A0.o
    cases hba:bareB ⟨5,s,n,ws,ks⟩<;>rw[hba]at A0<;>have BA:=Yh hba<;>clear hba
    ·have Hn:=@Yh (false=r) (by rw[<-HR.o];exact(Zu0 BA.o (by decide)).symm)
     go_wp2_with fail;refine A0.o.mono ?_;rintro e w2 ⟨rfl,b2⟩;have B2:=YT BW b2;clear x0 x1 x2 x3 x4;obtain⟨x0,x1,x2,x3,x4⟩:=cell5 (K1.o.below b2);clear b2;go_wp2_with fail;go_ret;exact⟨Z0 Hn.o,B2.o⟩
    have HM:=Yh (made5 (n:=n) HK.o (ZS BA.o).1 (ZS BA.o).2);rw[HQ.o]at HM
    by_cases d1:k<=16
    case neg =>
     have Hn:=@Yh (false=r) (by rw[<-HR.o,HM.o,Ya (by omega)]);have f1:decide (k<=16)=false:=Ya d1;have A5:decide ((k:Int)<=16)=false:=Ya (by omega);go_wp2_with fail;refine A0.o.mono ?_;rintro e w2 ⟨rfl,b2⟩;have B2:=YT BW b2;clear x0 x1 x2 x3 x4;obtain⟨x0,x1,x2,x3,x4⟩:=cell5 (K1.o.below b2);clear b2;go_wp2_with fail;go_ret;exact⟨Z0 Hn.o,B2.o⟩
    by_cases d2:n=0
    ·have Hn:=@Yh (true=r) (by rw[<-HR.o,HM.o,Yb (by omega)])
     have f1:decide (k<=16)=true:=Yb d1;subst d2;go_wp2_with fail;refine A0.o.mono ?_;rintro e w2 ⟨rfl,b2⟩;have B2:=YT BW b2;clear x0 x1 x2 x3 x4;obtain⟨x0,x1,x2,x3,x4⟩:=cell5 (K1.o.below b2);clear b2;go_wp2_with fail;go_ret;exact⟨Z0 Hn.o,B2.o⟩
    have f2:(n==0)=false:=by rw[Yc];exact d2
    by_cases d3:n=1
    case neg =>
     have Hn:=@Yh (false=r) (by rw[<-HR.o,HM.o,Ya (by omega)]);have f3:(n==1)=false:=by rw[Yc];exact d3
     go_wp2_with fail;refine A0.o.mono ?_;rintro e w2 ⟨rfl,b2⟩;have B2:=YT BW b2;clear x0 x1 x2 x3 x4;obtain⟨x0,x1,x2,x3,x4⟩:=cell5 (K1.o.below b2);clear b2;go_wp2_with fail;go_ret;exact⟨Z0 Hn.o,B2.o⟩
    by_cases d4:0<k
    ·have Hn:=@Yh (true=r) (by rw[<-HR.o,HM.o,Yb (by omega)])
     have f4:decide (0<k)=true:=Yb d4;have A6:decide ((0:Int)<(k:Int))=true:=Yb (by omega);subst d3;go_wp2_with fail;refine A0.o.mono ?_;rintro e w2 ⟨rfl,b2⟩;have B2:=YT BW b2;clear x0 x1 x2 x3 x4;obtain⟨x0,x1,x2,x3,x4⟩:=cell5 (K1.o.below b2);clear b2;go_wp2_with fail;go_ret;exact⟨Z0 Hn.o,B2.o⟩
    ·have Hn:=@Yh (false=r) (by rw[<-HR.o,HM.o,Ya (by omega)])
     have f4:decide (0<k)=false:=Ya d4;have A6:decide ((0:Int)<(k:Int))=false:=Ya (by omega);subst d3;go_wp2_with fail;refine A0.o.mono ?_;rintro e w2 ⟨rfl,b2⟩;have B2:=YT BW b2;clear x0 x1 x2 x3 x4;obtain⟨x0,x1,x2,x3,x4⟩:=cell5 (K1.o.below b2);clear b2;go_wp2_with fail;go_ret;exact⟨Z0 Hn.o,B2.o⟩
   by_cases a6:a=6
   ·subst a6
    have HM:=Yh (ZKc (s:=s) (n:=n) (ws:=ws) HK.o);rw[HQ.o,HP.o]at HM;have HC:=Yh (A1.o);rw[<-HM.o,HR.o]at HC;go_wp2_with fail;refine HC.o.mono ?_;rintro e w2 ⟨rfl,b2⟩;have B2:=YT BW b2;clear b2 x0 x1 x2 x3 x4;go_wp2_with fail;go_ret;exact⟨rfl,B2.o⟩
   by_cases a7:a=7
   ·subst a7
    have HM:=Yh (ZZc (s:=s) (n:=n) (ws:=ws) HK.o);rw[HQ.o,HP.o]at HM;have HC:=Yh (A2.o (fun k hk=>by rw[<-HL.o];exact ZG2 HK.o k hk));rw[<-HM.o,HR.o]at HC;go_wp2_with fail;refine HC.o.mono ?_;rintro e w2 ⟨rfl,b2⟩;have B2:=YT BW b2;clear b2 x0 x1 x2 x3 x4;go_wp2_with fail;go_ret;exact⟨rfl,B2.o⟩
   by_cases a8:a=8
   ·subst a8
    have HM:=Yh (made8 (n:=n) (s:=s) (ws:=ws) HK.o);rw[HQ.o]at HM;have HC:=Yh A4.o
    cases hnb:namedB s<;>rw[hnb]at HC HM<;>clear hnb
    ·have Hn:=@Yh (false=r) (by rw[<-HR.o,HM.o];rfl)
     go_wp2_with fail;refine HC.o.mono ?_;rintro e w2 ⟨rfl,b2⟩;have B2:=YT BW b2;clear x0 x1 x2 x3 x4;obtain⟨x0,x1,x2,x3,x4⟩:=cell5 (K1.o.below b2);clear b2;go_wp2_with fail;go_ret;exact⟨Z0 Hn.o,B2.o⟩
    by_cases d1:k<=16
    case neg =>
     have Hn:=@Yh (false=r) (by rw[<-HR.o,HM.o,Ya (fun g=>d1 g.1)];rfl);have f1:decide (k<=16)=false:=Ya d1;have A5:decide ((k:Int)<=16)=false:=Ya (by omega);go_wp2_with fail;refine HC.o.mono ?_;rintro e w2 ⟨rfl,b2⟩;have B2:=YT BW b2;clear x0 x1 x2 x3 x4;obtain⟨x0,x1,x2,x3,x4⟩:=cell5 (K1.o.below b2);clear b2;go_wp2_with fail;go_ret;exact⟨Z0 Hn.o,B2.o⟩
    by_cases d2:n=0
    case neg =>
     have Hn:=@Yh (false=r) (by rw[<-HR.o,HM.o,Ya (fun g=>d2 g.2.1)];rfl);have f2:(n==0)=false:=by rw[Yc];exact d2
     go_wp2_with fail;refine HC.o.mono ?_;rintro e w2 ⟨rfl,b2⟩;have B2:=YT BW b2;clear x0 x1 x2 x3 x4;obtain⟨x0,x1,x2,x3,x4⟩:=cell5 (K1.o.below b2);clear b2;go_wp2_with fail;go_ret;exact⟨Z0 Hn.o,B2.o⟩
    by_cases d3:p=0
    case neg =>
     have Hn:=@Yh (false=r) (by rw[<-HR.o,HM.o,Ya (fun g=>d3 (by rw[<-HP.o,g.2.2];rfl))];rfl);have f3:((p:Int)==0)=false:=by rw[Yc];omega
     go_wp2_with fail;refine HC.o.mono ?_;rintro e w2 ⟨rfl,b2⟩;have B2:=YT BW b2;clear x0 x1 x2 x3 x4;obtain⟨x0,x1,x2,x3,x4⟩:=cell5 (K1.o.below b2);clear b2;go_wp2_with fail;go_ret;exact⟨Z0 Hn.o,B2.o⟩
    have Hn:=@Yh (true=r) (by rw[<-HR.o,HM.o,Yb ⟨d1,d2,Yp (by rw[HP.o];exact d3)⟩];rfl);have f1:decide (k<=16)=true:=Yb d1;subst d2 d3;go_wp2_with fail;refine HC.o.mono ?_;rintro e w2 ⟨rfl,b2⟩;have B2:=YT BW b2;clear x0 x1 x2 x3 x4;obtain⟨x0,x1,x2,x3,x4⟩:=cell5 (K1.o.below b2);clear b2;go_wp2_with fail;go_ret;exact⟨Z0 Hn.o,B2.o⟩
   by_cases a9:a=9
   ·subst a9
    have A0:=Yh A0.o
    cases hba:bareB ⟨9,s,n,ws,ks⟩<;>rw[hba]at A0<;>have BA:=Yh hba<;>clear hba
    ·have Hn:=@Yh (false=r) (by rw[<-HR.o];exact(Zu0 BA.o (by decide)).symm)
     go_wp2_with fail;refine A0.o.mono ?_;rintro e w2 ⟨rfl,b2⟩;have B2:=YT BW b2;clear x0 x1 x2 x3 x4;obtain⟨x0,x1,x2,x3,x4⟩:=cell5 (K1.o.below b2);clear b2;go_wp2_with fail;go_ret;exact⟨Z0 Hn.o,B2.o⟩
    have HM:=Yh (made9 (n:=n) HK.o (ZS BA.o).1 (ZS BA.o).2);rw[HQ.o]at HM
    by_cases d1:k=0
    case neg =>
     have Hn:=@Yh (false=r) (by rw[<-HR.o,HM.o,Ya (by omega)]);have f1:((k:Int)==0)=false:=by rw[Yc];omega
     go_wp2_with fail;refine A0.o.mono ?_;rintro e w2 ⟨rfl,b2⟩;have B2:=YT BW b2;clear x0 x1 x2 x3 x4;obtain⟨x0,x1,x2,x3,x4⟩:=cell5 (K1.o.below b2);clear b2;go_wp2_with fail;go_ret;exact⟨Z0 Hn.o,B2.o⟩
    subst d1
    by_cases d2:0<=n
    case neg =>
     have Hn:=@Yh (false=r) (by rw[<-HR.o,HM.o,Ya (by omega)]);go_wp2_with fail;refine A0.o.mono ?_;rintro e w2 ⟨rfl,b2⟩;have B2:=YT BW b2;clear x0 x1 x2 x3 x4;obtain⟨x0,x1,x2,x3,x4⟩:=cell5 (K1.o.below b2);clear b2;go_wp2_with fail;go_ret;exact⟨Z0 Hn.o,B2.o⟩
    by_cases d3:n<16
    case neg =>
     have Hn:=@Yh (false=r) (by rw[<-HR.o,HM.o,Ya (by omega)]);have f3:decide (n<16)=false:=Ya d3;go_wp2_with fail;refine A0.o.mono ?_;rintro e w2 ⟨rfl,b2⟩;have B2:=YT BW b2;clear x0 x1 x2 x3 x4;obtain⟨x0,x1,x2,x3,x4⟩:=cell5 (K1.o.below b2);clear b2;go_wp2_with fail;go_ret;exact⟨Z0 Hn.o,B2.o⟩
    have Hn:=@Yh (true=r) (by rw[<-HR.o,HM.o,Yb (by omega)]);go_wp2_with fail;refine A0.o.mono ?_;rintro e w2 ⟨rfl,b2⟩;have B2:=YT BW b2;clear x0 x1 x2 x3 x4;obtain⟨x0,x1,x2,x3,x4⟩:=cell5 (K1.o.below b2);clear b2;go_wp2_with fail;go_ret;exact⟨Z0 Hn.o,B2.o⟩
   have Hn:=@Yh (false=r) (by rw[<-HR.o];exact(Zb5 a1 a2 a3 a4 a5 a6 a7 a8 a9).symm);have e1:(a==1)=false:=by rw[Yc];exact a1
   have e2:(a==2)=false:=by rw[Yc];exact a2
   have e3:(a==3)=false:=by rw[Yc];exact a3
   have e4:(a==4)=false:=by rw[Yc];exact a4
   have e5:(a==5)=false:=by rw[Yc];exact a5
   have e6:(a==6)=false:=by rw[Yc];exact a6
   have e7:(a==7)=false:=by rw[Yc];exact a7
   have e8:(a==8)=false:=by rw[Yc];exact a8
   have e9:(a==9)=false:=by rw[Yc];exact a9
   go_wp2_with fail;go_ret;exact⟨Z0 Hn.o,BW.o⟩
set_option maxRecDepth 100000 in
theorem Zz9(w:World)(ko:Option Addr)(kc:Nat)(ks:List Int)(m:Nat)(hk:IRow w ko ks)(hc:ks.length<=kc)(hm:m<=ks.length) :
  ∃lo lc,(∀W,(Instr.sliceAt 26 (.slice ko ks.length kc) (some (.int .i64 m)) none none).run Tryz.prog W=.ok (.slice lo (ks.length-m) lc) W)/\ks.length-m<=lc/\IRow w lo (ks.drop m):=by
 refine⟨if kc=m then ko else ko.map (·.add m),kc-m,fun W=>?_,by omega,?_⟩
 ·rw[run_sliceAt_slice W 26 _ _ _ _ Tryz.underlying26,run_slice_l W 26 ko ks.length kc Tryz.underlying26 .i64 (m:Int) (by omega) (by omega)]
  have hs:(sizeOf (Tryz.prog.elem 26)).run Tryz.prog W=.ok 1 W:=by
   rw[show Tryz.prog.elem 26=3 from by kernel_rfl];exact Tryz.sizeOf3 W
  rw[hs];simp[Result.andThen,sliced]
 ·by_cases h:m=ks.length
  ·exact .inl (by rw[h];simp)
  ·obtain⟨b,off,rfl,hb,hcell⟩:=hk.cells (by omega)
   refine .inr ⟨b,off+m,?_,hb,fun i hi=>?_⟩
   ·rw[if_neg (by omega)]
    simp[Z32]
   ·rw[List.length_drop]at hi
    have:=hcell (m+i) (by omega);rw[<-Nat.add_assoc]at this;rw[this,Z3 (show m+i<ks.length by omega),Z3 (by rw[List.length_drop];omega),List.getElem_drop]
theorem ZD4{W w:World}{b:Nat}(h:Below W.heap.size W w)(hb:W.heap.size<=b)(v0 v1 v2 v3 v4 v5:Value) :
  Below W.heap.size W ((((((w.setCell ⟨b,0,none⟩ v0).setCell ⟨b,1,none⟩ v1).setCell ⟨b,2,none⟩ v2).setCell ⟨b,3,none⟩ v3).setCell ⟨b,4,none⟩ v4).setCell ⟨b,5,none⟩ v5):=
 (((((h.setCell hb _).setCell hb _).setCell hb _).setCell hb _).setCell hb _).setCell hb _
def KeyR(k:Ky)(w:World)(e:Ending)(w':World):Prop:=e=.returned (keyV k)/\Below w.heap.size w w'
set_option maxRecDepth 100000 in
theorem ZU6(t:Ty)(wo ko:Option Addr)(wc kc:Nat)(w:World)(ht:TyC w wo ko t)(hsm:TySm t)(hwc:t.words.length<=wc)(hkc:t.kids.length<=kc)(hp:PowAt w) :
  Calls Tryz.prog 108 #[tyV t wo wc ko kc] w (KeyR (keyT t) w):=by
 obtain⟨nk,hnk⟩:=Yn (t.kids.length);obtain⟨w1,h1⟩:=Yn (w.alloc (.cells #[.int .i64 t.kind,.string t.name,.int .i64 t.n,.slice wo t.words.length wc,.slice ko nk kc] 50));obtain⟨w2,h2⟩:=Yn (w1.alloc (.cells #[.int .i64 0,.int .i64 0,.int .i64 0,.int .i64 0,.int .i64 0,.string ⟨#[]⟩] 166));obtain⟨w3,h3⟩:=Yn (w2.alloc (.cells #[.int .i64 t.kind,.int .i64 t.n,.int .i64 nk,.int .i64 0,.int .i64 0,.string t.name] 166));obtain⟨k1,q1,z1⟩:=Za h1;obtain⟨k2,q2,z2⟩:=Za h2;obtain⟨k3,q3,z3⟩:=Za h3;have AA:nk<=18:=by rw[<-hnk];exact ht.ok.kl
 have Ah:t.words.length<=18:=ht.ok.wl;have Z:=Yh (YH z1 (YH z2 z3));have BW:=Yh (q1.trans ((q2.trans (q3.mono q2.size)).mono q1.size));have K1:=Yh ((k1.below q2).below q3);have K2:=Yh (k2.below q3);have K3:=Yh k3;have HT:=Yh ht;have Ai:=Yh hsm;have HP:=Yh hp;obtain⟨c0,c1,c2,c3,c4⟩:=cell5 k1;obtain⟨d0,d1,d2,d3,d4⟩:=cell5 (k1.below q2);obtain⟨e0,e1,e2,e3,e4⟩:=cell5 K1.o;have HJ:=Yh (fun h:0<t.words.length=>ZWc wo wc t.words ⟨#[32]⟩ 18 1100000 w3 (HT.o.words.below BW.o) h Ah Ai.o hwc (by decide) (by decide));have B3:=Yh q3;have A9:=Yh (k1.below q2);have Ap:=Yh k2;have A4:=Yh (q1.trans (q2.mono q1.size))
 have Aa:=Yh (show(t.words.length=0->t.name=baseT t)/\(0<t.words.length->joinT t.words ⟨#[32]⟩=baseT t)from
  ⟨fun h=>(Z15 (Yp h)).symm,fun h=>(Zp5 (fun e=>by rw[e]at h;exact absurd h (by decide))).symm⟩)
 have Aj:=Yh (YH hwc hkc);clear ht hsm hp k1 k2 k3 q1 q2 q3 z1 z2 z3 hwc hkc;unfold tyV;obtain⟨nw,hnw⟩:=Yn (t.words.length);rw[hnw]at HJ Aa Ah h1 c3 d3 e3 K1 A9 ⊢;have AB:=Yh hnw;have A1:=Yh hnk;rw[hnk]at Aj ⊢;clear hnw hnk;go_enter Tryz.func108,Tryz.ntmps108;go_upto_if 21 with fail
 go_cut [] (fun wx=>Hi (BlockAt wx w2.heap.size #[.int .i64 t.kind,.int .i64 t.n,.int .i64 nk,.int .i64 0,.int .i64 0,.string (baseT t)] 166)/\Hi (Below w2.heap.size w2 wx))
 case first =>
  go_wp2_with (go_at_call 132;refine(HJ.o (by assumption)).mono ?_;rintro e w4 ⟨rfl,b4⟩;have M:=K3.o.below b4;have f5:=(cell6 M).2.2.2.2.2;have g5:=M.free 5;clear M)
  ·have Ak:=Yh b4
   have Ab:=Yh (Aa.o.2 (by assumption));clear b4;go_meet
   case rel =>
    refine⟨Yh ?_,Yh ?_⟩
    ·rw[<-Ab.o]
     exact(K3.o.below Ak.o).set 5 (.string (joinT t.words ⟨#[32]⟩))
    ·exact(YU B3 Ak.o).setCell (by simp) _
  ·have hh:¬0<nw:=by assumption
   have Ab:=Yh (Aa.o.1 (by omega));go_meet
   case rel =>
    refine⟨Yh ?_,Yh B3.o⟩;have:=K3.o;rw[Ab.o]at this;exact this
 case rest =>
  obtain⟨KB,B2⟩:=hcut;clear c0 c1 c2 c3 c4 d0 d1 d2 d3 d4 e0 e1 e2 e3 e4 h1 h2 h3 HJ K1 K2 K3 BW;have Aq:=Yh (HT.o.kids.below (YU A4 B2.o));obtain⟨w4,hcp0,kb4,s4,o4,t4,u4,h4⟩:=ZO9 wc.drew w2.heap.size _ _ _ _ ko kc t.kids KB.o (show IRow wc.drew ko t.kids from Aq.o);obtain⟨m,hm⟩:=Yn (min t.kids.length 2);obtain⟨lo,lc,hsl0,hlc,hlr⟩:=Zz9 w ko kc t.kids m HT.o.kids (by rw[A1.o];exact Aj.o.2) (by omega);obtain⟨q,hq⟩:=Yn (nk-m);rw[hm,A1.o]at hcp0;rw[A1.o]at hsl0;rw[A1.o,hq]at hlc;rw[hq]at hsl0;have HM:=Yh hm;have HQ:=Yh hq;have B4:=@Yh (Below w2.heap.size w2 w4) (⟨o4.trans B2.o.os,t4.trans B2.o.tape,u4.trans B2.o.output,by rw[s4];exact B2.o.size,fun i hi=>(h4 i (by omega)).trans (B2.o.block i hi)⟩);obtain⟨a0,ha0⟩:=Yn (t.kids.getD 0 0);obtain⟨a1,ha1⟩:=Yn (t.kids.getD 1 0);rw[ha0,ha1]at kb4;have HA:=Yh (YH ha0 ha1);have A7:=Yh kb4;have LR:=@Yh (IRow w4 lo (t.kids.drop m)) (hlr.below (YU A4 B4.o));obtain⟨c0,c1,c2,c3,c4⟩:=cell5 (A9.o.below B2.o);obtain⟨f0,f1,f2,f3,f4,f5⟩:=cell6 KB.o;obtain⟨g0,g1,g2,g3,g4⟩:=cell5 (A9.o.below B4.o);clear hm hq ha0 ha1 kb4 s4 o4 t4 u4 h4 hlr;have R2:=@Yh (∀W,Below w2.heap.size w2 W->BlockAt W w1.heap.size #[.int .i64 0,.int .i64 0,.int .i64 0,.int .i64 0,.int .i64 0,.string ⟨#[]⟩] 166) (fun W h=>Ap.o.below h)
  by_cases h0:q=0
  ·have HV:=Yh (show baseT t=restT t from by
    have hd:t.kids.drop 2=[]:=by
     apply List.drop_eq_nil_of_le
     rw[A1.o];have:=HM.o;have:=HQ.o;rw[A1.o]at *
     omega
    unfold restT restL baseT;rw[hd];simp[kidsL])
   subst h0;have M:=R2.o w4 B4.o;obtain⟨r0,r1,r2,r3,r4,r5⟩:=cell6 M;have s0:=M.free 0;have s1:=M.free 1;have s2:=M.free 2;have s3:=M.free 3;have s4:=M.free 4;have s5:=M.free 5;obtain⟨y0,y1,y2,y3,y4,y5⟩:=cell6 A7.o;clear M;go_wp2_with fail;go_region
   all_goals
    go_wp2_with fail;refine bodyPost_ret (v:=.agg #[.int .i64 t.kind,.int .i64 t.n,.int .i64 nk,.int .i64 a0,.int .i64 a1,.string (baseT t)]) (by simp[results,Tryz.results108,go_sem,r0,r1,r2,r3,r4,r5]) rfl ?_;refine⟨?_,ZD4 (YU A4 B4.o) (by have:=Z.o.1;omega) _ _ _ _ _ _⟩;unfold keyV keyT;rw[A1.o,HA.o.1,HA.o.2,HV.o]
  ·have Al:=Yh (show m=2 from by
    have h1:=HM.o;have h2:=HQ.o;rw[A1.o]at h1
    omega)
   have A3:(t.kids.drop 2).length=q:=by rw[List.length_drop,A1.o,<-Al.o];exact HQ.o
   rw[Al.o]at LR;have A0:=Yh A3;obtain⟨lb,lof,rfl,hlb,hlcell⟩:=LR.o.cells (by rw[A3];omega);have Ar:=Yh hlcell;have Am:=@Yh (∀k∈t.kids.drop 2,-9223372036854775808<=k/\k<=9223372036854775807) (fun k hk=>HT.o.ok.ks k (List.mem_of_mem_drop hk));obtain⟨bs,hbs⟩:=Yn (baseT t);have As:=@Yh (baseL t=bs.data.toList) (by rw[<-hbs];rfl);have A5:=@Yh (bs.size<=20000000) (by rw[<-hbs];exact Zi5 HT.o.ok Ai.o);have HV:=@Yh ((⟨(bs.data.toList++kidsL (t.kids.drop 2)).toArray⟩:ByteArray)=restT t) (by unfold restT restL;rw[As.o]);rw[hbs]at A7 KB f5;obtain⟨w5,h5⟩:=Yn (Lib.bytesWorld w4 5 bs);have Ac:=Lib.run_convert_string_bytes w4 9 186 5 bs Tryz.underlying9 Tryz.underlying186 Tryz.underlying5;have A8:=ZKb w4 5 bs w4.heap.size (Yk _) (by have:=A5.o;omega);have Ad:=Lib.bytesWorld_below w4 5 bs;rw[h5]at Ac A8 Ad;obtain⟨gc,hgc⟩:=Yn (grownCap w4 bs.size 0 5);rw[hgc]at Ac A8;have RC:=Yh A8;have B5:=Yh Ad;have At:=Yh (HP.o.below (YU A4 B4.o));obtain⟨y0,y1,y2,y3,y4,y5⟩:=cell6 A7.o;have AC:decide (0<q)=true:=Yb (by omega);have Au:decide ((0:Int)<(q:Int))=true:=Yb (by omega);have Av:q<=18:=by have:=HQ.o;omega
   clear hbs hgc A8 Ad A3 hlcell h5;go_wp2_with fail;go_region
   all_goals
    go_wp2_with fail;clear Ac hcp0 hsl0 c0 c1 c2 c3 c4 f0 f1 f2 f3 f4 f5 g0 g1 g2 g3 g4 y0 y1 y2 y3 y4 y5;go_loopw [5,42] (fun v i wr=>∃k:Nat,k<=q/\i=.int .i64 k/\Hi (RowC wr w4.heap.size v (bs.data.toList++kidsL ((t.kids.drop 2).take k)).length (Lib.byteCells (bs.data.toList++kidsL ((t.kids.drop 2).take k))))/\Hi (Below w4.heap.size w4 wr)) (fun _ i _=>q-(intOf i).toNat)
    case atStart =>
     refine⟨0,Yl _,rfl,Yh ?_,B5⟩;have:=RC.o;simp only[List.take_zero,show kidsL []=[]from rfl,List.append_nil];rw[show bs.data.toList.length=bs.size by simp];exact this
    case round =>
     obtain⟨k,hk,rfl,HR,HB⟩:=hrel
     by_cases hkq:k<q
     ·have A2:wr.cell? ⟨lb,lof+k,none⟩=some (.int .i64 ((t.kids.drop 2).getD k 0)):=by
       rw[HB.o.cell (p:=⟨lb,lof+k,none⟩) hlb];exact Ar.o k (by rw[A0.o];exact hkq)
      have An:=Yh (Z4a (show k<(t.kids.drop 2).length by rw[A0.o];exact hkq));have Ae:=Yh (Am.o _ (Zd (show k<(t.kids.drop 2).length by rw[A0.o];exact hkq)))
      have Af:=Yh (show(bs.data.toList++kidsL ((t.kids.drop 2).take k)).length<=20001000 from by
       have h1:=Zr3 (ks:=(t.kids.drop 2).take k) (fun x hx=>Am.o x (List.mem_of_mem_take hx));have h2:((t.kids.drop 2).take k).length<=18:=by rw[Y5];have:=A0.o;omega
       have h3:=A5.o;rw[Ye];have h4:bs.data.toList.length=bs.size:=by simp
       omega)
      have Ag:=Yh (show bs.size+(kidsL ((t.kids.drop 2).take k)).length<=20001000 from by
       have h1:=Af.o;rw[Ye]at h1;have h4:bs.data.toList.length=bs.size:=by simp
       omega)
      obtain⟨x,hx⟩:=Yn ((t.kids.drop 2).getD k 0);rw[hx]at A2 An Ae;clear hx;obtain⟨i0,hi,hz0,hz1,hz2⟩:=Zr1 ZO3;go_wp2_with (at_builtin;refine Zd1 _ rfl _ _ rfl w4.heap.size Tryz.underlying186 hi hz0 hz1 hz2 _ _ _ rfl (HR.o.alloc _) ⟨wr.heap.size,0,none⟩ 1 1 [.int .u8 32] rfl rfl ?c1 ?c2 ?c3 ?c4 ?_)
      case c1=>intro j u' hj;match j,hj with|0,hj=>simp at hj;subst hj;simp[Addr.add]
      case c2=>intro u' hu';simp at hu';subst hu';rfl
      case c3=>have:=Af.o;omega
      case c4=>have:=HB.o.size;simp;omega
      intro v1 w6 hown1 hgrow;have Ao:=Yh ((HB.o.alloc HB.o.size _).grown hgrow (by have:=HB.o.size;simp;omega) (fun j hj=>(HR.o.lt j hj).1));have Aw:=Yh hown1;clear hown1 hgrow A2;go_wp2_with fail;refine(Z87 w4 _ x Ae.o.1 Ae.o.2 v1 _ w6 Aw.o Ao.o (by have:=Ag.o;have:=Af.o;omega) At.o).mono ?_;rintro e w7 ⟨v2,rfl,hown2,hnx2⟩;have Ax:=Yh hown2;have Ay:=Yh (Ao.o.trans hnx2);clear hown2 hnx2;go_wp2_with fail;go_roundw
      case rel =>
       refine⟨k+1,by omega,by go_num,Yh ?_,Ay⟩;have e:bs.data.toList++kidsL ((t.kids.drop 2).take (k+1))=bs.data.toList++kidsL ((t.kids.drop 2).take k)++(32::Lib.itoa x):=by rw[An.o,Y6]
       rw[e];have:=Ax.o
       simpa [Lib.byteCells,Nat.add_assoc,Nat.add_comm,Nat.add_left_comm] using this
      case measure=>simp[intOf];omega
     ·obtain rfl:k=q:=by omega
      have A6:(t.kids.drop 2).take k=t.kids.drop 2:=Y3 (by rw[A0.o];exact Yk _);rw[A6]at HR;have Az:=HR.o.text;rw[HV.o]at Az;have KE:=A7.o.below HB.o;obtain⟨y0,y1,y2,y3,y4,y5⟩:=cell6 KE;have z5:=KE.free 5;have M:=(R2.o w4 B4.o).below HB.o;obtain⟨r0,r1,r2,r3,r4,r5⟩:=cell6 M;have s0:=M.free 0;have s1:=M.free 1;have s2:=M.free 2;have s3:=M.free 3;have s4:=M.free 4;have s5:=M.free 5;have BE:=YT B4 HB.o;have AD:w1.heap.size<w2.heap.size:=by have:=Z.o.2.1;omega
      clear KE M A6;go_wp2_with fail;refine bodyPost_ret (v:=.agg #[.int .i64 t.kind,.int .i64 t.n,.int .i64 nk,.int .i64 a0,.int .i64 a1,.string (restT t)]) (by simp[results,Tryz.results108,go_sem,r0,r1,r2,r3,r4,r5]) rfl ?_;refine⟨?_,ZD4 ((YU A4 BE.o).setCell (by have:=Z.o;show w.heap.size<=w2.heap.size;omega) _) (by have:=Z.o.1;omega) _ _ _ _ _ _⟩;unfold keyV keyT;rw[A1.o,HA.o.1,HA.o.2]
theorem Za4{l:List Ty}{t:Ty}{k:Nat}(hk:k<l.length)(h:l[k]=t)(hno:∀j (hj:j<l.length),j<k->l[j]≠t):atT l t=(k:Int):=by
 unfold atT
 have:l.findIdx? (fun x=>decide (x=t))=some k:=by
  rw[List.findIdx?_eq_some_iff_getElem];exact⟨hk,Yb h,fun j hj=>by simpa using hno j (by omega) hj⟩
 rw[this]
theorem Zd4{l:List Ty}{t:Ty}(hno:∀j (hj:j<l.length),l[j]≠t):atT l t = -1:=by
 unfold atT
 have:l.findIdx? (fun x=>decide (x=t))=none:=by
  rw[List.findIdx?_eq_none_iff];intro x hx;obtain⟨j,hj,rfl⟩:=List.getElem_of_mem hx;exact Ya (hno j hj)
 rw[this]
set_option maxRecDepth 100000 in
theorem Zta(l:List Ty)(ao:Option Addr)(ac:Nat)(t:Ty)(wo ko:Option Addr)(wc kc:Nat)(w:World)(hl:ARow w ao l)(ht:TyC w wo ko t)(ll:l.length<=1000) :
  Calls Tryz.prog 53 #[.slice ao l.length ac,tyV t wo wc ko kc] w fun e w'=>e=.returned (.int .i64 (atT l t))/\Below w.heap.size w w':=by
 obtain⟨r,hr⟩:=Yn (atT l t);rw[hr];have HR:=Yh hr;clear hr;obtain⟨n,hn⟩:=Yn (l.length);have HN:=Yh hn;have HA:=Yh hl;have HT:=Yh ht;rw[hn]at ll ⊢;obtain⟨w1,h1,k1,q1,z1⟩:=YA w #[.int .i64 t.kind,.string t.name,.int .i64 t.n,.slice wo t.words.length wc,.slice ko t.kids.length kc] 50;have BW:=Yh q1;have K1:=Yh k1;clear hn hl ht k1 q1 z1;unfold tyV;go_enter Tryz.func53,Tryz.ntmps53;go_wp2_with fail;clear h1;go_loopw [9] (fun i wr=>∃k:Nat,k<=n/\i=.int .i64 k/\Hi (∀j (hj:j<l.length),j<k->l[j]≠t)/\Hi (Below w1.heap.size w1 wr)) (fun i _=>n-(intOf i).toNat)
 case atStart=>exact⟨0,Yl _,rfl,Yh (fun j _ hj=>absurd hj (Yr _)),Yh (Y8 _ _)⟩
 case round =>
  obtain⟨k,hk,rfl,Hno,HB⟩:=hrel;have BB:=YT BW HB.o
  by_cases hkl:k<n
  ·obtain⟨ab,aof,rfl,hab,hac⟩:=(HA.o.below BB.o).cells (by rw[HN.o];omega)
   have A0:=hac k (by rw[HN.o];exact hkl);obtain⟨x,hx⟩:=Yn (l[k]'(by rw[HN.o];exact hkl));rw[hx]at A0;have HX:=Yh hx;obtain⟨xw,xwc,xk,xkc,a0,a1,a2,a3,a4,-,-,hxc⟩:=A0;clear hx hac hab;obtain⟨wn,hwn,k2,q2,z2⟩:=YA wr #[.int .i64 x.kind,.string x.name,.int .i64 x.n,.slice xw x.words.length xwc,.slice xk x.kids.length xkc] 50;obtain⟨c0,c1,c2,c3,c4⟩:=cell5 k2;obtain⟨d0,d1,d2,d3,d4⟩:=cell5 ((K1.o.below HB.o).below q2);have HL:=Yh (Zh4 x t xw xk wo ko xwc xkc wc kc wn (hxc.below q2) ((HT.o.below BB.o).below q2));unfold tyV at HL;have BN:=YT HB q2;clear k2 q2 hxc
   by_cases he:x=t
   ·rw[Yb he]at HL
    have Hn:=Yh (show(k:Int)=r by
     rw[<-HR.o];exact(Za4 (by rw[HN.o];exact hkl) (by rw[HX.o];exact he) Hno.o).symm)
    clear he;go_wp2_with fail;refine HL.o.mono ?_;rintro e w' ⟨rfl,b⟩;have B2:=YT BN b;clear b hwn c0 c1 c2 c3 c4 d0 d1 d2 d3 d4 a0 a1 a2 a3 a4;go_wp2_with fail;go_ret;exact⟨Zp Hn.o,YU BW B2.o⟩
   ·rw[Ya he]at HL
    have Hx:=Yh (show ∀j (hj:j<l.length),j<k+1->l[j]≠t from fun j h1 hj=>by
     rcases Ym (Ys hj)with h3|h3
     ·exact Hno.o j h1 h3
     ·subst h3;rw[HX.o];exact he)
    clear he;go_wp2_with fail;refine HL.o.mono ?_;rintro e w' ⟨rfl,b⟩;have B2:=YT BN b;clear b hwn c0 c1 c2 c3 c4 d0 d1 d2 d3 d4 a0 a1 a2 a3 a4;go_wp2_with fail;go_roundw
    case rel=>exact⟨k+1,by omega,by go_num,Hx,B2⟩
    case measure=>first|(simp[intOf];done)|(simp[intOf];omega)
  ·obtain rfl:k=n:=by omega
   have Hn:=Yh (show -1=r by
    rw[<-HR.o];exact(Zd4 (fun j hj=>Hno.o j hj (by rw[<-HN.o];exact hj))).symm)
   go_wp2_with fail;go_ret;exact⟨Zp Hn.o,BB.o⟩
end Go.Proofs.YtdcajkagakikiaaGreatDoor
