import Derived.Test.YtdcajkagakikiaaGreatDoorQ13
import Derived.Test.YtdcajkagakikiaaGreatDoorQ14
import Derived.Laws.Small
namespace Go.Proofs.YtdcajkagakikiaaGreatDoor
set_option maxHeartbeats 64000000
set_option linter.unusedSimpArgs false
set_option linter.unusedVariables false
open Go.RowKit
theorem ZQ{w w1 w2:World}{b:Nat}{a0 a1 v0 v1:Value}{T:TypeId}(h:BlockAt w b #[a0,a1] T)(h1:w.setCell ⟨b,0,none⟩ v0=w1)(h2:w1.setCell ⟨b,1,none⟩ v1=w2):BlockAt w2 b #[v0,v1] T:=by
 subst h1;subst h2;have:=(h.set 0 v0).set 1 v1
 simpa using this
theorem Zc{w w1:World}{b:Nat}{a0 a1 v0:Value}{T:TypeId}(h:BlockAt w b #[a0,a1] T)(h1:w.setCell ⟨b,0,none⟩ v0=w1):BlockAt w1 b #[v0,a1] T:=by
 subst h1;have:=h.set 0 v0
 simpa using this
theorem ZIb{w w1:World}{b:Nat}{a0 a1 v1:Value}{T:TypeId}(h:BlockAt w b #[a0,a1] T)(h1:w.setCell ⟨b,1,none⟩ v1=w1):BlockAt w1 b #[a0,v1] T:=by
 subst h1;have:=h.set 1 v1
 simpa using this
theorem ZC{W w w1 w2:World}{b:Nat}{v0 v1:Value}(hb:Below W.heap.size W w)(hw:W.heap.size<=b)(h1:w.setCell ⟨b,0,none⟩ v0=w1)(h2:w1.setCell ⟨b,1,none⟩ v1=w2):Below W.heap.size W w2:=by
 subst h1;subst h2;exact(hb.setCell hw _).setCell hw _
theorem Z6{W w w1:World}{b k:Nat}{v0:Value}(hb:Below W.heap.size W w)(hw:W.heap.size<=b)(h1:w.setCell ⟨b,k,none⟩ v0=w1):Below W.heap.size W w1:=by
 subst h1;exact hb.setCell hw _
theorem Z4{w w1:World}{b c k:Nat}{xs:Array Value}{T:TypeId}{v:Value}(h:BlockAt w b xs T)(hn:b≠c)(h1:w.setCell ⟨c,k,none⟩ v=w1):BlockAt w1 b xs T:=by
 subst h1;exact h.other hn k v
def MRowS(Sb:Nat->Prop)(w:World)(ao:Option Addr)(ms:List Mt):Prop:=
 ms=[]\/∃b off,ao=some ⟨b,off,none⟩/\b<w.heap.size/\Sb b/\∀i (h:i<ms.length),w.cell? ⟨b,off+i*3,none⟩=some (.string ms[i].name)/\w.cell? ⟨b,off+i*3+1,none⟩=some (.bool ms[i].ptr)/\w.cell? ⟨b,off+i*3+2,none⟩=some (.int .i64 ms[i].sig)
structure NmS (Sb:Nat->Prop) (w:World) (bo mo:Option Addr) (n:Nm):Prop where
 bounds:IRowS Sb w bo n.bounds
 methods:MRowS Sb w mo n.methods
 ok:NmOk n
def URowS(Sb:Nat->Prop)(w:World)(no:Option Addr)(ns:List Nm):Prop:=
 ns=[]\/∃b off,no=some ⟨b,off,none⟩/\b<w.heap.size/\Sb b/\∀i (h:i<ns.length),∃bo bc mo mc,w.cell? ⟨b,off+i*4,none⟩=some (.string ns[i].name)/\w.cell? ⟨b,off+i*4+1,none⟩=some (.slice bo ns[i].bounds.length bc)/\w.cell? ⟨b,off+i*4+2,none⟩=some (.int .i64 ns[i].under)/\w.cell? ⟨b,off+i*4+3,none⟩=some (.slice mo ns[i].methods.length mc)/\ns[i].bounds.length<=bc/\ns[i].methods.length<=mc/\NmS Sb w bo mo ns[i]
structure UnS (Sb:Nat->Prop) (w:World) (ao no:Option Addr) (ac nc:Nat) (u:Un):Prop where
 types:ARowS Sb w ao u.types
 named:URowS Sb w no u.named
 tl:u.types.length<=1000
 nl:u.named.length<=1000
 tc:u.types.length<=ac
 nc:u.named.length<=nc
section
variable {Sb:Nat->Prop} {w w':World} {ao no bo mo:Option Addr} {ac nc:Nat}
theorem MRowS.o{ms:List Mt}(h:MRowS Sb w ao ms):MRow w ao ms:=by
 rcases h with h|⟨b,off,e,l,_,cc⟩
 ·exact .inl h
 ·exact .inr ⟨b,off,e,l,cc⟩
theorem MRowS.same{ms:List Mt}(h:MRowS Sb w ao ms)(hs:SameS Sb w w'):MRowS Sb w' ao ms:=by
 rcases h with h|⟨b,off,e,l,n,cc⟩
 ·exact .inl h
 ·exact .inr ⟨b,off,e,Yi l hs.1,n,fun i hi=>⟨(hs.2 _ _ l n).trans (cc i hi).1,(hs.2 _ _ l n).trans (cc i hi).2.1,(hs.2 _ _ l n).trans (cc i hi).2.2⟩⟩
theorem MRowS.fresh{ms:List Mt}(h:MRow w ao ms)(hS:∀b,b<w.heap.size->Sb b):MRowS Sb w ao ms:=by
 rcases h with h|⟨b,off,e,l,cc⟩
 ·exact .inl h
 ·exact .inr ⟨b,off,e,l,hS _ l,cc⟩
theorem NmS.o{n:Nm}(h:NmS Sb w bo mo n):NmC w bo mo n:=⟨h.bounds.o,h.methods.o,h.ok⟩
theorem NmS.same{n:Nm}(h:NmS Sb w bo mo n)(hs:SameS Sb w w'):NmS Sb w' bo mo n:=⟨h.bounds.same hs,h.methods.same hs,h.ok⟩
theorem NmS.fresh{n:Nm}(h:NmC w bo mo n)(hS:∀b,b<w.heap.size->Sb b):NmS Sb w bo mo n:=⟨.fresh h.bounds hS,.fresh h.methods hS,h.ok⟩
theorem URowS.o{ns:List Nm}(h:URowS Sb w no ns):URow w no ns:=by
 rcases h with h|⟨b,off,e,l,_,cc⟩
 ·exact .inl h
 ·refine .inr ⟨b,off,e,l,fun i hi=>?_⟩
  obtain⟨bo,bc,mo,mc,h1,h2,h3,h4,h5,h6,h7⟩:=cc i hi;exact⟨bo,bc,mo,mc,h1,h2,h3,h4,h5,h6,h7.o⟩
theorem URowS.same{ns:List Nm}(h:URowS Sb w no ns)(hs:SameS Sb w w'):URowS Sb w' no ns:=by
 rcases h with h|⟨b,off,e,l,n,cc⟩
 ·exact .inl h
 ·refine .inr ⟨b,off,e,Yi l hs.1,n,fun i hi=>?_⟩
  obtain⟨bo,bc,mo,mc,h1,h2,h3,h4,h5,h6,h7⟩:=cc i hi;exact⟨bo,bc,mo,mc,(hs.2 _ _ l n).trans h1,(hs.2 _ _ l n).trans h2,(hs.2 _ _ l n).trans h3,(hs.2 _ _ l n).trans h4,h5,h6,h7.same hs⟩
theorem URowS.fresh{ns:List Nm}(h:URow w no ns)(hS:∀b,b<w.heap.size->Sb b):URowS Sb w no ns:=by
 rcases h with h|⟨b,off,e,l,cc⟩
 ·exact .inl h
 ·refine .inr ⟨b,off,e,l,hS _ l,fun i hi=>?_⟩
  obtain⟨bo,bc,mo,mc,h1,h2,h3,h4,h5,h6,h7⟩:=cc i hi;exact⟨bo,bc,mo,mc,h1,h2,h3,h4,h5,h6,.fresh h7 hS⟩
theorem UnS.o{u:Un}(h:UnS Sb w ao no ac nc u):UnC w ao no ac nc u:=⟨h.types.o,h.named.o,h.tl,h.nl,h.tc,h.nc⟩
theorem UnS.same{u:Un}(h:UnS Sb w ao no ac nc u)(hs:SameS Sb w w'):UnS Sb w' ao no ac nc u:=⟨h.types.same hs,h.named.same hs,h.tl,h.nl,h.tc,h.nc⟩
theorem UnS.fresh{u:Un}(h:UnC w ao no ac nc u)(hS:∀b,b<w.heap.size->Sb b):UnS Sb w ao no ac nc u:=⟨.fresh h.types hS,.fresh h.named hS,h.tl,h.nl,h.tc,h.nc⟩
end
def UnR(Sb:Nat->Prop)(w:World)(R:Un×Int×Int)(e:Ending)(w':World):Prop:=∃ao no ac nc,e=.returned (.tuple #[unV R.1 ao ac no nc,.int .i64 R.2.1,.int .i64 R.2.2])/\UnS Sb w' ao no ac nc R.1/\Below w.heap.size w w'
def noUn:Un:=⟨[],[]⟩
theorem Zj0(Sb:Nat->Prop)(w:World):UnS Sb w none none 0 0 noUn:=⟨.inl rfl,.inl rfl,by decide,by decide,by decide,by decide⟩
def lessS(Sb:Nat->Prop)(c d:Nat):Nat->Prop:=fun b=>Sb b/\b≠c/\b≠d
theorem ZM{Sb:Nat->Prop}{c d:Nat}{w:World}{ao no:Option Addr}{ac nc:Nat}{u:Un}(h:UnS Sb w ao no ac nc u)(hc:w.heap.size<=c/\w.heap.size<=d):UnS (lessS Sb c d) w ao no ac nc u:=by
 have k:∀b,b<w.heap.size->Sb b->lessS Sb c d b:=fun b hb hs=>⟨hs,by omega,by omega⟩
 have ir:∀{ao zs},IRowS Sb w ao zs->IRowS (lessS Sb c d) w ao zs:=fun {ao zs} h=>by
  rcases h with h|⟨b,off,e,l,n,cc⟩
  ·exact .inl h
  ·exact .inr ⟨b,off,e,l,k b l n,cc⟩
 have sr:∀{ao zs},SRowS Sb w ao zs->SRowS (lessS Sb c d) w ao zs:=fun {ao zs} h=>by
  rcases h with h|⟨b,off,e,l,n,cc⟩
  ·exact .inl h
  ·exact .inr ⟨b,off,e,l,k b l n,cc⟩
 have mr:∀{ao zs},MRowS Sb w ao zs->MRowS (lessS Sb c d) w ao zs:=fun {ao zs} h=>by
  rcases h with h|⟨b,off,e,l,n,cc⟩
  ·exact .inl h
  ·exact .inr ⟨b,off,e,l,k b l n,cc⟩
 refine⟨?_,?_,h.tl,h.nl,h.tc,h.nc⟩
 ·rcases h.types with h|⟨b,off,e,l,n,cc⟩
  ·exact .inl h
  ·refine .inr ⟨b,off,e,l,k b l n,fun i hi=>?_⟩
   obtain⟨wo,wc,ko,kc,c0,c1,c2,c3,c4,g1,g2,g3⟩:=cc i hi;exact⟨wo,wc,ko,kc,c0,c1,c2,c3,c4,g1,g2,⟨sr g3.words,ir g3.kids,g3.ok⟩⟩
 ·rcases h.named with h|⟨b,off,e,l,n,cc⟩
  ·exact .inl h
  ·refine .inr ⟨b,off,e,l,k b l n,fun i hi=>?_⟩
   obtain⟨bo,bc,mo,mc,h1,h2,h3,h4,h5,h6,h7⟩:=cc i hi;exact⟨bo,bc,mo,mc,h1,h2,h3,h4,h5,h6,⟨ir h7.bounds,mr h7.methods,h7.ok⟩⟩
theorem Zd0{Sb:Nat->Prop}{c d:Nat}{w:World}{ao no:Option Addr}{ac nc:Nat}{u:Un}(h:UnS (lessS Sb c d) w ao no ac nc u):UnS Sb w ao no ac nc u:=by
 have ir:∀{ao zs},IRowS (lessS Sb c d) w ao zs->IRowS Sb w ao zs:=fun {ao zs} h=>by
  rcases h with h|⟨b,off,e,l,n,cc⟩
  ·exact .inl h
  ·exact .inr ⟨b,off,e,l,n.1,cc⟩
 have sr:∀{ao zs},SRowS (lessS Sb c d) w ao zs->SRowS Sb w ao zs:=fun {ao zs} h=>by
  rcases h with h|⟨b,off,e,l,n,cc⟩
  ·exact .inl h
  ·exact .inr ⟨b,off,e,l,n.1,cc⟩
 have mr:∀{ao zs},MRowS (lessS Sb c d) w ao zs->MRowS Sb w ao zs:=fun {ao zs} h=>by
  rcases h with h|⟨b,off,e,l,n,cc⟩
  ·exact .inl h
  ·exact .inr ⟨b,off,e,l,n.1,cc⟩
 refine⟨?_,?_,h.tl,h.nl,h.tc,h.nc⟩
 ·rcases h.types with h|⟨b,off,e,l,n,cc⟩
  ·exact .inl h
  ·refine .inr ⟨b,off,e,l,n.1,fun i hi=>?_⟩
   obtain⟨wo,wc,ko,kc,c0,c1,c2,c3,c4,g1,g2,g3⟩:=cc i hi;exact⟨wo,wc,ko,kc,c0,c1,c2,c3,c4,g1,g2,⟨sr g3.words,ir g3.kids,g3.ok⟩⟩
 ·rcases h.named with h|⟨b,off,e,l,n,cc⟩
  ·exact .inl h
  ·refine .inr ⟨b,off,e,l,n.1,fun i hi=>?_⟩
   obtain⟨bo,bc,mo,mc,h1,h2,h3,h4,h5,h6,h7⟩:=cc i hi;exact⟨bo,bc,mo,mc,h1,h2,h3,h4,h5,h6,⟨ir h7.bounds,mr h7.methods,h7.ok⟩⟩
def thereU(u:Un)(i:Int):Int:=if rightU u=false then 1 else if i<0\/(u.types.length:Int)<=i then 8 else 0
set_option maxRecDepth 100000 in
theorem ZK2(u:Un)(ao no:Option Addr)(ac nc:Nat)(i:Int)(w:World)(hU:UnC w ao no ac nc u)(hE:Env w) :
  Calls Tryz.prog 114 #[unV u ao ac no nc,.int .i64 i] w fun e w'=>e=.returned (.int .i64 (thereU u i))/\Below w.heap.size w w':=by
 obtain⟨R,hR⟩:=Yn (thereU u i);rw[hR];have HR:=Yh hR;have A2:=hU.tl;obtain⟨w1,h1,k1,q1,z1⟩:=YA w #[.slice ao u.types.length ac,.slice no u.named.length nc] 25;have B1:=Yh q1;have A0:=ZU4 u ao no ac nc w1 (hU.below q1) (hE.below q1) (hE.max.below q1);unfold unV at A0;unfold unV;obtain⟨L,hL⟩:=Yn (u.types.length);have HL:=Yh hL;rw[hL]at h1 k1 A0 A2 ⊢;have K1:=Yh k1;obtain⟨c0,c1⟩:=cell2 k1;clear hL hU hE hR k1 q1 z1;go_enter Tryz.func114,Tryz.ntmps114
 cases ht:rightU u<;>rw[ht]at A0<;>have HT:=Yh ht<;>have HP:=Yh A0<;>clear ht A0
 ·have HV:=@Yh ((1:Int)=R) (by rw[<-HR.o];unfold thereU;rw[if_pos HT.o])
  go_wp2_with fail;refine HP.o.mono ?_;rintro e w2 ⟨rfl,b2⟩;have B2:=YT B1 b2;clear b2 c0 c1 h1;go_wp2_with fail;go_ret;exact⟨Zp HV.o,B2.o⟩
 have A1:=@Yh ((if i<0\/(L:Int)<=i then(8:Int)else 0)=R) (by rw[<-HR.o];unfold thereU;rw[HL.o];simp[HT.o])
 by_cases h0:i<0
 ·have HV:=@Yh ((8:Int)=R) (by rw[<-A1.o,if_pos (.inl h0)])
  have A3:decide (i<0)=true:=Yb h0;go_wp2_with fail;refine HP.o.mono ?_;rintro e w2 ⟨rfl,b2⟩;have B2:=YT B1 b2;clear b2 c0 c1 h1;go_wp2_with fail;go_ret;exact⟨Zp HV.o,B2.o⟩
 have A3:decide (i<0)=false:=Ya h0
 by_cases h9:(L:Int)<=i
 ·have HV:=@Yh ((8:Int)=R) (by rw[<-A1.o,if_pos (.inr h9)])
  have A4:decide ((L:Int)<=i)=true:=Yb h9;go_wp2_with fail;refine HP.o.mono ?_;rintro e w2 ⟨rfl,b2⟩;have B2:=YT B1 b2;clear c0 c1 h1;obtain⟨c0,c1⟩:=cell2 (K1.o.below b2);clear b2;go_wp2_with fail;go_ret;exact⟨Zp HV.o,B2.o⟩
 ·have HV:=@Yh ((0:Int)=R) (by rw[<-A1.o,if_neg (by omega)])
  have A4:decide ((L:Int)<=i)=false:=Ya h9;go_wp2_with fail;refine HP.o.mono ?_;rintro e w2 ⟨rfl,b2⟩;have B2:=YT B1 b2;clear c0 c1 h1;obtain⟨c0,c1⟩:=cell2 (K1.o.below b2);clear b2;go_wp2_with fail;go_ret;exact⟨Zp HV.o,B2.o⟩
def fillU(u:Un)(i:Int)(ks:List Int):Un×Int×Int:=
 if ks.length=0 then(u,i,0)else if(psubT u.types i ks).2.2≠0 then(noUn,0,(psubT u.types i ks).2.2)else(⟨(psubT u.types i ks).1,u.named⟩,(psubT u.types i ks).2.1,0)
theorem ZK7(l:List Ty)(i:Int)(ks:List Int)(h:(psubT l i ks).2.2=0):(psubT l i ks).1.length<=400:=by
 unfold psubT at h ⊢
 split at h
 ·rename_i h0
  rw[if_pos h0];obtain⟨hr,g1,g2⟩:=ZM4 h0;unfold substT at h ⊢
  split at h
  ·exact absurd (show(1:Int)=0 from h) (by decide)
  ·rename_i ha
   rw[if_neg ha]
   split at h
   ·exact absurd (show(1:Int)=0 from h) (by decide)
   ·rename_i hin
    rw[if_neg hin]
    split at h
    ·rename_i he
     exact absurd h he
    ·rename_i he
     rw[if_neg he];have hI:=Zh1 hr (i:=i.toNat) (by omega) (args:=ks) (by simpa using hin) ha (i.toNat+1) (Yk _) (by simpa using he);exact(right_step hI.right).1.2
 ·rename_i h0
  rw[if_neg h0];exact Yl _
set_option maxRecDepth 100000 in
theorem Zx5(Sb:Nat->Prop)(u:Un)(ao no:Option Addr)(ac nc:Nat)(i:Int)(ks:List Int)(go:Option Addr)(gc:Nat)(w:World)(hSb:∀b,w.heap.size<=b->Sb b)(hU:UnS Sb w ao no ac nc u)(hE:Env w)(hg:IRow w go ks)(hgl:ks.length<=1000)(hg6:∀a∈ks,-9223372036854775808<=a/\a<=9223372036854775807) :
  Calls Tryz.prog 115 #[unV u ao ac no nc,.int .i64 i,.slice go ks.length gc] w (UnR Sb w (fillU u i ks)):=by
 obtain⟨w1,h1,k1,q1,z1⟩:=YA w #[.slice ao u.types.length ac,.slice no u.named.length nc] 25;obtain⟨w2,h2,k2,q2,z2⟩:=YA w1 #[.slice none 0 0,.slice none 0 0] 25;have B2:=Yh (q1.trans (q2.mono q1.size));have HU:=Yh ((ZM hU (c:=w.heap.size) (d:=w1.heap.size) ⟨Yk _,q1.size⟩).same (SameS.below B2.o));have A9:=@Yh (∀b,w2.heap.size<=b->lessS Sb w.heap.size w1.heap.size b) (fun b hb=>⟨hSb b (by omega),by omega,by omega⟩);have A5:=@Yh (¬lessS Sb w.heap.size w1.heap.size w.heap.size) (fun g=>g.2.1 rfl);have A0:=@Yh (¬lessS Sb w.heap.size w1.heap.size w1.heap.size) (fun g=>g.2.2 rfl);have A4:=Zyb (lessS Sb w.heap.size w1.heap.size) u.types ao ac i ks go gc w2 A9.o HU.o.types hU.tl hU.tc (hE.below B2.o) (hg.below B2.o) hgl hg6;have A8:=Yh (ZK7 u.types i ks);have A2:=@Yh (fillU u i ks=(if ks.length=0 then(u,i,0)else if(psubT u.types i ks).2.2≠0 then(noUn,0,(psubT u.types i ks).2.2)else(⟨(psubT u.types i ks).1,u.named⟩,(psubT u.types i ks).2.1,0))) (rfl);obtain⟨F,hF⟩:=Yn (fillU u i ks);rw[hF]at A2 ⊢;obtain⟨⟨M,p,ec⟩,hPS⟩:∃r,psubT u.types i ks=r:=⟨_,rfl⟩
 rw[hPS]at A4 A8 A2;obtain⟨kl,hkl⟩:=Yn (ks.length);rw[hkl]at A4 A2 ⊢;have HS:=Yh A4;have K1:=Yh (k1.below q2);have K2:=Yh k2;have NE:=@Yh (w.heap.size≠w1.heap.size) (by omega);have A6:=@Yh (w.heap.size<=w1.heap.size) (by omega);obtain⟨c0,c1⟩:=cell2 (k1.below q2);have f0:=k2.free 0;have f1:=k2.free 1;have t0:=(cell2 k2).1;have t1:=(cell2 k2).2;unfold unV;clear hF hPS hkl A4 k1 k2 q1 q2 z1 z2 hU hE hg hgl hg6 hSb;go_enter Tryz.func115,Tryz.ntmps115
 by_cases hk0:kl=0
 ·subst hk0
  have HF:=@Yh (F=(u,i,0)) (by rw[A2.o,if_pos rfl]);obtain⟨w3,h3⟩:=Yn (w2.setCell ⟨w1.heap.size,0,none⟩ (.slice ao u.types.length ac));obtain⟨w4,h4⟩:=Yn (w3.setCell ⟨w1.heap.size,1,none⟩ (.slice no u.named.length nc));have K4:=ZQ K2.o h3 h4;have f1:=(Zc K2.o h3).free 1;have t1:=(cell2 (Zc K2.o h3)).2;have B4:=Yh (ZC B2.o A6.o h3 h4);have Aa:=Yh (Zd0 ((HU.o.same (SameS.set A0.o h3)).same (SameS.set A0.o h4)));obtain⟨e0,e1⟩:=cell2 K4;clear K4;go_wp2_with fail
  try simp only[Exit.inBlock,Exit.then]
  refine bodyPost_ret (v:=.tuple #[.agg #[.slice ao u.types.length ac,.slice no u.named.length nc],.int .i64 i,.int .i64 0]) ?_ rfl ?_
  ·simp[results,Tryz.results115,go_sem,e0,e1]
  rw[HF.o];exact⟨ao,no,ac,nc,rfl,Aa.o,B4.o⟩
 have hq:((kl:Int)==0)=false:=by rw[Yc];omega
 by_cases he:ec=0
 ·subst he
  have HF:=@Yh (F=(⟨M,u.named⟩,p,0)) (by rw[A2.o,if_neg hk0,if_neg (fun g=>g rfl)]);have Ab:=Yh (A8.o rfl);clear hk0;go_wp2_with fail;refine HS.o.mono ?_;rintro e w3 ⟨mo,mc,rfl,hM,hmc,b3⟩;have B3:=YT B2 b3;have A7:=Yh (K1.o.below b3);have A1:=Yh (K2.o.below b3);have HN:=Yh (HU.o.named.same (SameS.below b3));obtain⟨w4,h4⟩:=Yn (w3.setCell ⟨w.heap.size,0,none⟩ (.slice mo M.length mc));have Ac:=Yh (Zc A7.o h4);have A3:=Yh (Z4 A1.o (fun g=>NE.o g.symm) h4);have g0:=A7.o.free 0;obtain⟨w5,h5⟩:=Yn (w4.setCell ⟨w1.heap.size,0,none⟩ (.slice mo M.length mc));obtain⟨w6,h6⟩:=Yn (w5.setCell ⟨w1.heap.size,1,none⟩ (.slice no u.named.length nc));have K6:=ZQ A3.o h5 h6;have B4:=Yh (Z6 B3.o (Yk _) h4);have B6:=Yh (ZC B4.o A6.o h5 h6);have AP:=Yh (Zd0 (c:=w.heap.size) (d:=w1.heap.size) (show UnS (lessS Sb w.heap.size w1.heap.size) w6 mo no mc nc ⟨M,u.named⟩from((⟨hM,HN.o,by show M.length<=1000;have:=Ab.o;omega,HU.o.nl,hmc,HU.o.nc⟩:UnS (lessS Sb w.heap.size w1.heap.size) w3 mo no mc nc ⟨M,u.named⟩).same (SameS.set A5.o h4)).same ((SameS.set A0.o h5).trans (SameS.set A0.o h6))));clear b3 hM hmc c0 c1 f0 f1 t0 t1;obtain⟨c0,c1⟩:=cell2 Ac.o;have f0:=A3.o.free 0;have f1:=(Zc A3.o h5).free 1;have t0:=(cell2 A3.o).1;have t1:=(cell2 (Zc A3.o h5)).2;have t2:=(cell2 A7.o).1;obtain⟨e0,e1⟩:=cell2 K6;clear K6;go_wp2_with fail
  try simp only[Exit.inBlock,Exit.then]
  refine bodyPost_ret (v:=.tuple #[.agg #[.slice mo M.length mc,.slice no u.named.length nc],.int .i64 p,.int .i64 0]) ?_ rfl ?_
  ·simp[results,Tryz.results115,go_sem,e0,e1]
  rw[HF.o];exact⟨mo,no,mc,nc,rfl,AP.o,B6.o⟩
 ·have HF:=@Yh (F=(noUn,0,ec)) (by rw[A2.o,if_neg hk0,if_pos he])
  have Ad:(ec != 0)=true:=by rw[YJ];exact he
  clear hk0 he;go_wp2_with fail;refine HS.o.mono ?_;rintro e w3 ⟨mo,mc,rfl,-,-,b3⟩;have B3:=YT B2 b3;have A1:=Yh (K2.o.below b3);obtain⟨w4,h4⟩:=Yn (w3.setCell ⟨w1.heap.size,0,none⟩ (.slice none 0 0));obtain⟨w5,h5⟩:=Yn (w4.setCell ⟨w1.heap.size,1,none⟩ (.slice none 0 0));have K5:=ZQ A1.o h4 h5;have B5:=Yh (ZC B3.o A6.o h4 h5);clear b3 c0 c1 f0 f1 t0 t1;have f0:=A1.o.free 0;have f1:=(Zc A1.o h4).free 1;have t0:=(cell2 A1.o).1;have t1:=(cell2 (Zc A1.o h4)).2;obtain⟨e0,e1⟩:=cell2 K5;clear K5;go_wp2_with fail
  try simp only[Exit.inBlock,Exit.then]
  refine bodyPost_ret (v:=.tuple #[.agg #[.slice none 0 0,.slice none 0 0],.int .i64 0,.int .i64 ec]) ?_ rfl ?_
  ·simp[results,Tryz.results115,go_sem,e0,e1]
  rw[HF.o];exact⟨none,none,0,0,rfl,Zj0 _ _,B5.o⟩
def underU(u:Un)(i:Int):Un×Int×Int:=
 if thereU u i≠0 then(noUn,0,thereU u i)else if kindAt u.types i≠8 then(u,i,0)
 else fillU u (u.named.getD (atU u.named (funT u.types i.toNat).name).toNat ⟨⟨#[]⟩,[],0,[]⟩).under (funT u.types i.toNat).kids
theorem Ze0{u:Un}{i:Int}(h:thereU u i=0):rightU u=true/\0<=i/\i<(u.types.length:Int):=by
 unfold thereU at h
 cases hr:rightU u
 ·simp[hr]at h
 ·rw[hr]at h
  by_cases c:i<0\/(u.types.length:Int)<=i
  ·rw[if_neg (by decide),if_pos c]at h
   exact absurd h (by decide)
  ·exact⟨rfl,by omega,by omega⟩
theorem Zy0{u:Un}(h:rightU u=true){i:Nat}(hi:i<u.types.length)(h8:u.types[i].kind=8):foundU u.named u.types[i].name=true/\atU u.named u.types[i].name=(lowU (namesU u.named) u.types[i].name:Int)/\lowU (namesU u.named) u.types[i].name<u.named.length:=by
 rw[Z8,Yd]at h;have h2:=restU_iff.1 h.2;have hf:=List.all_eq_true.1 h2.2.2.2 _ (Yq hi);rw[ZF2 h2.2.2.1 h8,Yd]at hf;refine⟨hf.1,?_,?_⟩
 ·rcases Z1c (s:=u.types[i].name) h2.2.2.1 with g|g
  ·exact g.2
  ·rw[hf.1]at g;cases g.1
 ·have:=hf.1
  unfold foundU at this;exact(Yf this).1
set_option maxRecDepth 100000 in
theorem Zqb(Sb:Nat->Prop)(u:Un)(ao no:Option Addr)(ac nc:Nat)(i:Int)(w:World)(hSb:∀b,w.heap.size<=b->Sb b)(hU:UnS Sb w ao no ac nc u)(hE:Env w) :
  Calls Tryz.prog 89 #[unV u ao ac no nc,.int .i64 i] w (UnR Sb w (underU u i)):=by
 obtain⟨w1,h1,k1,q1,z1⟩:=YA w #[.slice ao u.types.length ac,.slice no u.named.length nc] 25;obtain⟨w2,h2,k2,q2,z2⟩:=YA w1 #[.slice none 0 0,.slice none 0 0] 25;have B2:=Yh (q1.trans (q2.mono q1.size));have HU:=Yh (hU.same (SameS.below B2.o));have Ai:=Yh ((ZM hU (c:=w1.heap.size) (d:=w1.heap.size) ⟨q1.size,q1.size⟩).same (SameS.below B2.o));have Aj:=@Yh (∀b,w2.heap.size<=b->lessS Sb w1.heap.size w1.heap.size b) (fun b hb=>⟨hSb b (by omega),by omega,by omega⟩);have A8:=@Yh (¬lessS Sb w1.heap.size w1.heap.size w1.heap.size) (fun g=>g.2.2 rfl);have Ac:=@Yh (w.heap.size<=w1.heap.size) (by omega);have A2:=ZK2 u ao no ac nc i w2 HU.o.o (hE.below B2.o);have HE:=Yh (hE.below B2.o);obtain⟨F,hF⟩:=Yn (underU u i);have Ak:=Yh hF;rw[hF];unfold unV at A2;unfold unV;obtain⟨te,hte⟩:=Yn (thereU u i);have Ae:=Yh hte;rw[hte]at A2;have Ad:=Yh A2;have K1:=Yh (k1.below q2);have K2:=Yh k2;obtain⟨c0,c1⟩:=cell2 (k1.below q2);have Aq:=Yh hU.tl;have Ar:=Yh hU.nl;clear hF hte A2 k1 k2 q1 q2 z1 z2 hU hE hSb;go_enter Tryz.func89,Tryz.ntmps89
 by_cases h0:te=0
 case neg =>
  have HF:=@Yh (F=(noUn,0,te)) (by rw[<-Ak.o];unfold underU;rw[Ae.o,if_pos h0]);have hq:(te != 0)=true:=by rw[YJ];exact h0
  clear h0;go_wp2_with fail;refine Ad.o.mono ?_;rintro e w3 ⟨rfl,b3⟩;have B3:=YT B2 b3;have A3:=Yh (K2.o.below b3);obtain⟨w4,h4⟩:=Yn (w3.setCell ⟨w1.heap.size,0,none⟩ (.slice none 0 0));obtain⟨w5,h5⟩:=Yn (w4.setCell ⟨w1.heap.size,1,none⟩ (.slice none 0 0));have K5:=ZQ A3.o h4 h5;have B5:=Yh (ZC B3.o Ac.o h4 h5);clear b3 c0 c1 h1 h2;have t0:=(cell2 A3.o).1;have f0:=A3.o.free 0;have t1:=(cell2 (Zc A3.o h4)).2;have f1:=(Zc A3.o h4).free 1;obtain⟨e0,e1⟩:=cell2 K5;clear K5;go_wp2_with fail
  try simp only[Exit.inBlock,Exit.then]
  refine bodyPost_ret (v:=.tuple #[.agg #[.slice none 0 0,.slice none 0 0],.int .i64 0,.int .i64 te]) ?_ rfl ?_
  ·simp[results,Tryz.results89,go_sem,e0,e1]
  rw[HF.o];exact⟨none,none,0,0,rfl,Zj0 _ _,B5.o⟩
 subst h0;obtain⟨hru,hi0,hi1⟩:=Ze0 Ae.o;obtain⟨z,rfl⟩:∃z:Nat,i=(z:Int):=⟨i.toNat,by omega⟩
 have A9:z<u.types.length:=by omega
 have A4:=hru;rw[Z8,Yd]at A4;have As:=Yh (restU_iff.1 A4.2).2.2.1;have Al:=Yh (fun h8=>Zy0 hru A9 h8)
 have Af:=Yh (show F=if u.types[z].kind≠8 then(u,(z:Int),0)else fillU u (u.named.getD (atU u.named u.types[z].name).toNat ⟨⟨#[]⟩,[],0,[]⟩).under u.types[z].kids by
  rw[<-Ak.o];unfold underU;rw[Ae.o,if_neg (fun g=>g rfl),Ze A9,Yw];unfold funT;rw[Z3 A9])
 clear hru A4 hi0 hi1;obtain⟨ab,aof,rfl,hab,hac2⟩:=HU.o.o.types.cells (by omega);obtain⟨xw,xwc,xk,xkc,a0',a1',a2',a3',a4',-,hkc,hxc⟩:=hac2 z A9;obtain⟨x,hx⟩:=Yn (u.types[z]);rw[hx]at a0' a1' a2' a3' a4' hkc hxc Af Al;have At:=Yh hxc;obtain⟨L,hL⟩:=Yn (u.types.length);obtain⟨n,hn⟩:=Yn (u.named.length);have HL:=Yh hL;have HN:=Yh hn;rw[hL]at c0 h1 K1 Ad A9 ⊢;rw[hn]at c1 h1 K1 Ad ⊢;have Au:=Aq.o;have Av:=Ar.o;rw[hL]at Au;rw[hn]at Av;have AC:(z:Int)<(L:Int):=by omega
 clear hx hxc hac2 hL hn;go_wp2_with fail;refine Ad.o.mono ?_;rintro e w3 ⟨rfl,b3⟩;have B3:=YT B2 b3;have Ag:=Yh (K1.o.below b3);have A3:=Yh (K2.o.below b3);have Am:=Yh (HU.o.same (SameS.below b3));have A5:=Yh (Ai.o.same (SameS.below b3));have A6:=Yh (At.o.below b3);have Aw:=Yh (HE.o.below b3);have Ah:=Yh b3.size;have a0:=(b3.cell hab).trans a0';have a1:=(b3.cell hab).trans a1';have a2:=(b3.cell hab).trans a2';have a3:=(b3.cell hab).trans a3';have a4:=(b3.cell hab).trans a4';clear b3 c0 c1 h1 h2 hab a0' a1' a2' a3' a4';obtain⟨c0,c1⟩:=cell2 Ag.o;obtain⟨w4,h4,k4,q4,z4⟩:=YA w3 #[.int .i64 x.kind,.string x.name,.int .i64 x.n,.slice xw x.words.length xwc,.slice xk x.kids.length xkc] 50;have KX:=Yh k4;have Q4:=Yh q4;obtain⟨d0,d1,d2,d3,d4⟩:=cell5 k4;clear k4 q4 z4
 by_cases h8:x.kind=8
 case neg =>
  have HF:=@Yh (F=(u,(z:Int),0)) (by rw[Af.o,if_pos h8]);have hq:(x.kind != 8)=true:=by rw[YJ];exact h8
  have Aa:=Yh (Ag.o.below Q4.o);have A7:=Yh (A3.o.below Q4.o);have B4:=YT B3 Q4.o;obtain⟨w5,h5⟩:=Yn (w4.setCell ⟨w1.heap.size,0,none⟩ (.slice (some ⟨ab,aof,none⟩) L ac));obtain⟨w6,h6⟩:=Yn (w5.setCell ⟨w1.heap.size,1,none⟩ (.slice no n nc));have K6:=ZQ A7.o h5 h6;have B6:=Yh (ZC B4.o Ac.o h5 h6);have Ax:=Yh (Zd0 (((A5.o.same (SameS.below Q4.o)).same (SameS.set A8.o h5)).same (SameS.set A8.o h6)));have t0:=(cell2 A7.o).1;have f0:=A7.o.free 0;have t1:=(cell2 (Zc A7.o h5)).2;have f1:=(Zc A7.o h5).free 1;obtain⟨y0,y1⟩:=cell2 Aa.o;obtain⟨e0,e1⟩:=cell2 K6;clear K6 h8;go_wp2_with fail
  try simp only[Exit.inBlock,Exit.then]
  refine bodyPost_ret (v:=.tuple #[.agg #[.slice (some ⟨ab,aof,none⟩) L ac,.slice no n nc],.int .i64 z,.int .i64 0]) ?_ rfl ?_
  ·simp[results,Tryz.results89,go_sem,e0,e1]
  rw[HF.o];refine⟨some ⟨ab,aof,none⟩,no,ac,nc,?_,Ax.o,B6.o⟩;unfold unV;rw[HL.o,HN.o]
 have hq:(x.kind != 8)=false:=by rw[bne_eq_false_iff_eq];exact h8
 obtain⟨ffo,fat,flt⟩:=Al.o h8;have A0:=Z13 u (some ⟨ab,aof,none⟩) no ac nc x.name w4 (Am.o.o.below Q4.o) As.o;obtain⟨lo,hlo⟩:=Yn (lowU (namesU u.named) x.name);rw[hlo,ffo]at A0;rw[hlo]at fat flt;unfold unV at A0;rw[HL.o,HN.o]at A0;have Ay:=Yh A0;obtain⟨ud,hud⟩:=Yn (u.named[lo].under);have HF:=@Yh (F=fillU u ud x.kids) (by rw[Af.o,if_neg (fun g=>g h8),fat,Yw,Z3 flt,hud]);have AD:lo<n:=by rw[<-HN.o];exact flt
 have AE:(lo:Int)<(n:Int):=by omega
 obtain⟨b,o,rfl,hb,hc⟩:=Am.o.o.named.cells (by omega);obtain⟨_,_,_,_,-,-,a2n',-,-,-,-⟩:=hc lo flt;rw[hud]at a2n';have Az:=Yh a2n';have AA:=Yh hb;have Aa:=Yh (Ag.o.below Q4.o);have A7:=Yh (A3.o.below Q4.o);have B4:=YT B3 Q4.o;obtain⟨y0,y1⟩:=cell2 Aa.o;clear A0 hlo ffo fat hud hb hc a2n' h8;go_wp2_with fail;refine Ay.o.mono ?_;rintro e w5 ⟨rfl,b5⟩;have B5:=YT B4 b5;have Ab:=YT Q4 b5;have An:=Yh (A7.o.below b5);have Ao:=Yh (KX.o.below b5);clear c0 c1 d0 d1 d2 d3 d4 y0 y1 a0 a1 a2 a3 a4 h4;obtain⟨kl,hkl⟩:=Yn (x.kids.length);have A1:=Zx5 (lessS Sb w1.heap.size w1.heap.size) u (some ⟨ab,aof,none⟩) (some ⟨b,o,none⟩) ac nc ud x.kids xk xkc w5.drew (fun bb hbb=>Aj.o bb (Yj (Yj Ah.o Ab.o.size) hbb)) ((A5.o.same (SameS.below Ab.o)).same (SameS.below (Y8 _ _).drew)) ((Aw.o.below Ab.o).below (Y8 _ _).drew) ((A6.o.kids.below Ab.o).below (Y8 _ _).drew) (by have:=A6.o.ok.kl;omega) A6.o.ok.ks;unfold unV at A1;rw[HL.o,HN.o,<-HF.o]at A1;have c0:=(cell2 (Aa.o.below b5)).1;have c1:=(cell2 (Aa.o.below b5)).2;have a2:=(Ab.o.cell (p:=⟨b,o+lo*4+2,none⟩) AA.o).trans Az.o;have d4:=(cell5 Ao.o).2.2.2.2;rw[hkl]at A1 d4 Ao;have Ap:=Yh A1;obtain⟨xb,hxb⟩:=Yn (w3.heap.size);obtain⟨ub,hub⟩:=Yn (w.heap.size);obtain⟨rb,hrb⟩:=Yn (w1.heap.size);rw[hxb]at d4;rw[hub]at c0 c1;rw[hrb]at An Ac A8 Ai A5 Aj;rw[hrb]at Ap;clear A1 b5;go_upto_region 8 with fail;clear hxb hub hrb;refine GoG.start [(13,⟨ub,0,none⟩,.slice (some ⟨ab,aof,none⟩) L ac),(13,⟨ub,1,none⟩,.slice (some ⟨b,o,none⟩) n nc),(13,⟨b,o+lo*4+2,none⟩,.int .i64 ud),(13,⟨xb,4,none⟩,.slice xk kl xkc)] (by kernel_rfl) ?_ ?_
 ·exact Kd (Kd (Kd (Kd (Kn))))
 refine GoG.s2 0 0 [13] ?_;refine GoG.fr 1 ?_;refine GoG.s1 2 1 [13] ?_;refine GoG.fr 3 ?_;refine GoG.fr 4 ?_;refine GoG.fr 5 ?_;refine GoG.s1 6 2 [13] ?_;refine GoG.fr 7 ?_;refine GoG.s1 8 3 [13] ?_;refine GoG.on 9 fun K hK=>?_
 go_simp;refine Ap.o.mono ?_;rintro e w7 ⟨fo,fn,fc,fnc,rfl,hF,b7⟩;unfold unV;have B7:=Yh (B5.o.drew.trans (b7.mono B5.o.drew.size));have K7:=Yh ((An.o.below (Y8 _ _).drew).below b7);have HF:=Yh hF;refine hK.out _ _ (Kc (YR b7 c0) (Kc (YR b7 c1) (Kc (YR b7 a2) (Kc (YR b7 d4) (Kn))))) ?_;clear hK K b7 hF c0 c1 a2 d4;refine GoG.fr 10 ?_;refine GoG.fr 11 ?_;refine GoG.fr 12 ?_;obtain⟨w8,h8⟩:=Yn (w7.setCell ⟨rb,0,none⟩ (.slice fo F.1.types.length fc));obtain⟨w9,h9⟩:=Yn (w8.setCell ⟨rb,1,none⟩ (.slice fn F.1.named.length fnc));have K9:=Yh (ZQ K7.o h8 h9);have t0:=(cell2 K7.o).1;have f0:=K7.o.free 0;have t1:=(cell2 (Zc K7.o h8)).2;have f1:=(Zc K7.o h8).free 1;have B9:=Yh (ZC B7.o Ac.o h8 h9);have AB:=Yh (Zd0 ((HF.o.same (SameS.set A8.o h8)).same (SameS.set A8.o h9)));refine GoG.on 13 fun K hK=>?_
 go_simp;refine hK.out _ _ (Ku (Ku (Ku (Ku (Kn))))) ?_;clear hK K;refine GoG.fr 14 ?_;refine GoG.fr 15 ?_;refine GoG.done (by kernel_rfl) ?_ _;clear t0 f0 t1 f1 h8 h9;obtain⟨e0,e1⟩:=cell2 K9.o;go_wp2_with fail
 try simp only[Exit.inBlock,Exit.then]
 refine bodyPost_ret (v:=.tuple #[.agg #[.slice fo F.1.types.length fc,.slice fn F.1.named.length fnc],.int .i64 F.2.1,.int .i64 F.2.2]) ?_ rfl ?_
 ·simp[results,Tryz.results89,go_sem,e0,e1]
 exact⟨fo,fn,fc,fnc,rfl,AB.o,B9.o⟩
theorem ZQ2(l:List Ty)(k:Int):kindAt l k=(funT l k.toNat).kind:=by
 unfold kindAt funT;rw[List.getD_eq_getElem?_getD]
 cases l[k.toNat]?<;>rfl
def okP(l:List Ty)(n:Int)(p:ByteArray×Int):Bool:=
 if markB p.1=true then decide (2<=n/\kindAt l p.2≠7/\kindAt l p.2≠9/\¬(14<=p.2/\p.2<=19))else nameB p.1&&decide (kindAt l p.2=5)
def nextP(p q:ByteArray×Int):Prop:=if markB q.1=true then(markB p.1=true->p.2<q.2)else markB p.1=false/\Op.bytesLess p.1.toList q.1.toList=true
theorem nextP.trans{p q r:ByteArray×Int}(h:nextP p q)(h2:nextP q r):nextP p r:=by
 unfold nextP at *
 by_cases hr:markB r.1=true
 ·rw[if_pos hr]at h2 ⊢
  intro hp
  by_cases hq:markB q.1=true
  ·rw[if_pos hq]at h
   exact Int.lt_trans (h hp) (h2 hq)
  ·rw[if_neg hq,hp]at h
   cases h.1
 ·rw[if_neg hr]at h2 ⊢
  rw[if_neg (by rw[h2.1];decide)]at h;exact⟨h.1,bytes_trans _ _ _ h.2 h2.2⟩
theorem elem_ok{l:List Ty}{n:Int}{ahead:Option (ByteArray×Int)}{w:ByteArray}{k:Int}:elemB l n ahead w k=true↔okP l n (w,k)=true/\∀p,ahead=some p->nextP p (w,k):=by
 unfold elemB okP nextP
 by_cases hw:markB w=true
 ·rw[if_pos hw]
  simp only[hw,if_true]
  cases ahead with
  | none=>simp
  | some p =>
   obtain⟨v,j⟩:=p
   cases hv:markB v<;>simp[hv]
 ·rw[if_neg hw]
  simp only[hw,if_false]
  cases ahead with
  | none=>simp
  | some p =>
   obtain⟨v,j⟩:=p
   cases hv:markB v<;>simp[hv]
theorem Z07{l:List Ty}{n:Int}{ws:List ByteArray}{ks:List Int}(hl:ws.length=ks.length)(h:elemsB l n ws ks=true):(∀p∈ws.zip ks,okP l n p=true)/\(ws.zip ks).Pairwise nextP:=by
 have hz:(ws.zip ks).length=ws.length:=by rw[List.length_zip];omega
 have A1:∀i (hi:i<ws.length),elemB l n (aheadOf ws ks i) (ws.getD i ⟨#[]⟩) (ks.getD i 0)=true:=fun i hi=>Zk3 h hi
 refine⟨fun p hp=>?_,?_⟩
 ·obtain⟨i,hi,rfl⟩:=List.getElem_of_mem hp
  have h1:=(elem_ok.1 (A1 i (by omega))).1;rw[Z3 (show i<ws.length by omega),Z3 (show i<ks.length by omega)]at h1;rw[List.getElem_zip];exact h1
 ·have A0:∀b (hb:b+1<(ws.zip ks).length),nextP ((ws.zip ks)[b]'(by omega)) (ws.zip ks)[b+1]:=fun b hb=>by
   have h1:=(elem_ok.1 (A1 (b+1) (by omega))).2 (ws.getD b ⟨#[]⟩,ks.getD b 0) (by unfold aheadOf;rw[if_neg (by omega),Nat.add_sub_cancel]);rw[Z3 (show b<ws.length by omega),Z3 (show b+1<ws.length by omega),Z3 (show b<ks.length by omega),Z3 (show b+1<ks.length by omega)]at h1;rw[List.getElem_zip,List.getElem_zip];exact h1
  rw[List.pairwise_iff_getElem]
  have A2:∀b a (ha:a<b) (hb:b<(ws.zip ks).length),nextP ((ws.zip ks)[a]'(by omega)) (ws.zip ks)[b]:=fun b=>by
   induction b with
   | zero=>intro a ha;omega
   | succ b ih =>
    intro a ha hb;have hs:=A0 b hb
    rcases Ym (Ys ha)with c|c
    ·exact(ih a c (by omega)).trans hs
    ·subst c;exact hs
  exact fun a b ha hb hab=>A2 b a hab hb
theorem Zyc{l:List Ty}{n:Int}{ps:List (ByteArray×Int)}(h1:∀p∈ps,okP l n p=true)(h2:ps.Pairwise nextP):elemsB l n (ps.map (·.1)) (ps.map (·.2))=true:=by
 unfold elemsB;rw[List.all_eq_true];intro i hi;rw[List.mem_range,Yg]at hi;rw[Z3 (by rw[Yg];exact hi),Z3 (by rw[Yg];exact hi),List.getElem_map,List.getElem_map,elem_ok];refine⟨h1 _ (Yq hi),fun p hp=>?_⟩;unfold aheadOf at hp
 by_cases h0:i=0
 ·rw[if_pos h0]at hp;cases hp
 ·rw[if_neg h0,Z3 (by rw[Yg];omega),Z3 (by rw[Yg];omega),List.getElem_map,List.getElem_map]at hp
  injection hp with hp
  subst hp;exact List.pairwise_iff_getElem.1 h2 (i-1) i (by omega) hi (by omega)
theorem Zx9{l N:List Ty}{n:Int}{ps:List (ByteArray×Int)}{I:Nat->Int}(h1:∀p∈ps,okP l n p=true)(h2:ps.Pairwise nextP)
  (hI:∀p∈ps,0<=I p.2.toNat/\I p.2.toNat<(N.length:Int)) (hk:∀p∈ps,kindAt l p.2=5->kindAt N (I p.2.toNat)=5)
  (ho:∀p∈ps,markB p.1=true->badT N (I p.2.toNat)=false) :
  (∀p∈tidP N.length (mapP I ps),okP N n p=true)/\(tidP N.length (mapP I ps)).Pairwise nextP:=by
 have A0:∀q∈mapP I ps,0<=q.2/\q.2<(N.length:Int):=fun q hq=>by
  obtain⟨p,hp,rfl⟩:=Y4.1 hq;exact hI p hp
 unfold tidP;rw[ZE8];refine⟨fun q hq=>?_,?_⟩
 ·rcases Yz.1 hq with hq|hq
  ·obtain⟨p,hp,rfl⟩:=Y4.1 hq
   rw[List.mem_filter]at hp;have hm:¬markB p.1=true:=by simpa using hp.2
   have g:=h1 p hp.1;unfold okP at g ⊢;rw[if_neg hm]at g;rw[if_neg hm,Yd]at *;exact⟨g.1,Yb (hk p hp.1 (Yf g.2))⟩
  ·have hm:=ZW3 hq
   obtain⟨u,k⟩:=q;have hm:markB u=true:=hm
   have A1:(u,k)∈mapP I ps:=by
    rw[Z41 hm]at hq ⊢;exact((ZBc A0 _ _).1 hq).1
   obtain⟨p,hp,e⟩:=Y4.1 A1
   injection e with e1 e2
   have e1:p.1=u:=e1;have e2:I p.2.toNat=k:=e2;have g:=h1 p hp;have b:=ho p hp (by rw[e1];exact hm);unfold okP at g ⊢;rw[if_pos (by rw[e1];exact hm)]at g;rw[if_pos hm];unfold badT at b;rw[e2]at b;have b:=of_decide_eq_false b;exact Yb ⟨(Yf g).1,fun c=>b (.inl c),fun c=>b (.inr (.inl c)),fun c=>b (.inr (.inr c))⟩
 ·rw[List.pairwise_append]
  refine⟨?_,?_,fun p hp q hq=>?_⟩
  ·unfold mapP
   rw[List.pairwise_map];have hs:=h2.sublist (List.filter_sublist (l:=ps) (p:=fun p=>!markB p.1));refine(List.pairwise_iff_forall_sublist.2 fun {a b} hab=>?_);have hb:=hab.subset (Yx _ (Yo.2 rfl));rw[List.mem_filter]at hb;have hm:¬markB b.1=true:=by simpa using hb.2
   have g:nextP a b:=List.pairwise_iff_forall_sublist.1 hs hab;unfold nextP at g ⊢;rw[if_neg hm]at g
   show if markB b.1=true then _ else _
   rw[if_neg hm];exact g
  ·rw[Z40,List.pairwise_map]
   refine(Za1 _ _).imp fun {x y} h=>?_
   unfold nextP;rw[if_pos (show markB (decP y).1=true from Z86 _)];exact fun _=>h
  ·have A2:=ZW3 hq
   obtain⟨x,hx,rfl⟩:=Y4.1 hp;rw[List.mem_filter]at hx;unfold nextP;rw[if_pos A2];intro hc;have:markB x.1=true:=hc;rw[this]at hx;exact absurd hx.2 (by decide)
theorem ZXa{N:List Ty}{t:Ty}{I:Nat->Int}(ho:oddT N (swapT t I)=false):∀p∈t.words.zip t.kids,markB p.1=true->badT N (I p.2.toNat)=false:=fun p hp hm=>by
 unfold oddT at ho;rw[Zq8,List.any_eq_false]at ho;have:=ho (p.1,I p.2.toNat) (Y4.2 ⟨p,hp,rfl⟩)
 simpa [hm] using this
theorem Zec{l N:List Ty}{t:Ty}{I:Nat->Int}(hm:madeB l t=true)(hI:∀k∈t.kids,0<=I k.toNat/\I k.toNat<(N.length:Int))(hk:∀k∈t.kids,kindAt l k=5->kindAt N (I k.toNat)=5)(h9:t.kind≠9)
  (ho:¬(t.kind=7/\oddT N (swapT t I)=true)):madeB N (newT N t I)=true:=by
 have A1:∀k∈(swapT t I).kids,0<=k/\k<(N.length:Int):=ZE3 hI
 by_cases h7:t.kind=7
 ·have A2:oddT N (swapT t I)=false:=by
   cases h:oddT N (swapT t I)
   ·rfl
   ·exact absurd ⟨h7,h⟩ ho
  unfold newT;rw[if_pos h7];unfold madeB at hm ⊢;rw[Yd]at hm ⊢;refine⟨List.all_eq_true.2 fun k hk=>Yb (Zr8 A1 hk),?_⟩;have A0:=hm.2;have A3:(tidyT N.length (swapT t I)).kind=7:=h7;rw[h7]at A0;rw[A3];simp only[show ¬((7:Int)=1\/(7:Int)=2)by omega,show ¬(7:Int)=3 by omega,show ¬(7:Int)=4 by omega,show ¬(7:Int)=5 by omega,show ¬(7:Int)=6 by omega,if_false,if_true,Yd,decide_eq_true_eq]at A0 ⊢;obtain⟨⟨a1,a2,a3,a4,a5⟩,a6⟩:=A0;obtain⟨b1,b2⟩:=Z07 a5 a6;have hp:∀p∈t.words.zip t.kids,p.2∈t.kids:=fun p hp=>(List.of_mem_zip hp).2
  obtain⟨c1,c2⟩:=Zx9 (N:=N) (I:=I) b1 b2 (fun p h=>hI _ (hp p h)) (fun p h=>hk _ (hp p h)) (ZXa A2);rw[<-Zq8]at c1 c2;obtain⟨d1,d2⟩:=ZH7 (t:=swapT t I) A1;refine⟨⟨a1,a2,a3,?_,?_⟩,?_⟩
  ·have:(swapT t I).words.length=t.words.length:=rfl
   omega
  ·rw[Zq2];simp
  ·rw[Zq2]
   exact Zyc c1 c2
 ·unfold newT
  rw[if_neg h7];unfold madeB at hm ⊢;rw[Yd]at hm ⊢;refine⟨List.all_eq_true.2 fun k hk=>Yb (A1 k hk),?_⟩;have A0:=hm.2;have e1:(swapT t I).kids.length=t.kids.length:=by unfold swapT;simp
  have e2:bareB (swapT t I)=bareB t:=rfl;rw[e1,e2]
  show(if t.kind=1\/t.kind=2 then _ else _)=true
  by_cases c1:t.kind=1\/t.kind=2
  ·rw[if_pos c1]at A0 ⊢;exact A0
  rw[if_neg c1]at A0 ⊢
  by_cases c3:t.kind=3
  ·rw[if_pos c3]at A0;rw[if_pos (show(swapT t I).kind=3 from c3)];exact A0
  rw[if_neg c3]at A0;rw[if_neg (show ¬(swapT t I).kind=3 from c3)]
  by_cases c4:t.kind=4
  ·rw[if_pos c4]at A0;rw[if_pos (show(swapT t I).kind=4 from c4)];exact A0
  rw[if_neg c4]at A0;rw[if_neg (show ¬(swapT t I).kind=4 from c4)]
  by_cases c5:t.kind=5
  ·rw[if_pos c5]at A0;rw[if_pos (show(swapT t I).kind=5 from c5)];exact A0
  rw[if_neg c5]at A0;rw[if_neg (show ¬(swapT t I).kind=5 from c5)]
  by_cases c6:t.kind=6
  ·rw[if_pos c6]at A0;rw[if_pos (show(swapT t I).kind=6 from c6)];exact A0
  rw[if_neg c6]at A0;rw[if_neg (show ¬(swapT t I).kind=6 from c6)];rw[if_neg h7]at A0;rw[if_neg (show ¬(swapT t I).kind=7 from h7)]
  by_cases c8:t.kind=8
  ·rw[if_pos c8]at A0;rw[if_pos (show(swapT t I).kind=8 from c8)];exact A0
  rw[if_neg c8,if_neg h9]at A0
  cases A0
theorem Zm4(N:List Ty)(t:Ty)(I:Nat->Int):(newT N t I).kind=t.kind:=by unfold newT;split<;>rfl
theorem ZYc(N:List Ty)(t:Ty)(I:Nat->Int):(newT N t I).name=t.name:=by unfold newT;split<;>rfl
theorem Z4d(N:List Ty)(t:Ty)(I:Nat->Int)(h:t.kind≠7):(newT N t I).kids.length=t.kids.length:=by
 unfold newT;rw[if_neg h];unfold swapT;simp
theorem ZC6{l M:List Ty}{i c:Nat}{args:List Int}{I:Nat->Int}(hi:i<l.length)(hc:c<=i+1)(hS:Spec l i args c M I)(hx:Ext l M){m:Nat}(hm:m<c)(hn:needD (funT l) i (i+1) m=true)(h9:(funT l m).kind≠9):(funT M (I m).toNat).kind=(funT l m).kind:=by
 by_cases h0:askD (funT l) (i+1) m=0
 ·rw[hS.skip m hm hn h0,Yw,hx.fn (by omega)]
 ·rw[(hS.put m hm hn h0 h9).2,Zm4]
theorem Inv.ext{l:List Ty}{i c:Nat}{s:SS}(h:Inv l i c s):Ext l s.now:=⟨h.pre,h.len⟩
theorem Z7d{l:List Ty}(hr:rightT l=true){c i:Nat}(hc:c<=i)(hi:i<l.length)(h22:c<22):askD (funT l) (i+1) c=0:=by
 rw[Zw1 (show c<i+1 by omega)]
 have e:funT l c=bas c:=by
  unfold funT;rw[Z3 (show c<l.length by omega),Zl hr (by omega) h22]
 rw[e];have k:(bas c).kids=[]:=by unfold bas;split<;>rfl
 have z:ask0 (bas c)=0:=by
  unfold ask0;rw[Zu2 h22]
  by_cases h:c<20<;>simp[h]
 rw[k,z]
 rfl
theorem ZKa{l:List Ty}(hr:rightT l=true){i:Nat}(hi:i<l.length){args:List Int}{c:Nat}(hc:c<=i){s:SS}(hI:Inv l i c s)(hS:Spec l i args c s.now s.ins)(hn:needD (funT l) i (i+1) c=true)(hA:askD (funT l) (i+1) c≠0)(h9:(funT l c).kind≠9)
  (ho:¬((funT l c).kind=7/\oddT s.now (swapT (funT l c) s.ins)=true)):madeB s.now (newT s.now (funT l c) s.ins)=true:=by
 have A2:¬c<22:=fun g=>hA (Z7d hr hc hi g)
 have A0:c<l.length:=by omega
 have e:funT l c=l[c]:=by unfold funT;rw[Z3 A0]
 have hm:=(Zq hr A0 A2).1;rw[<-e]at hm;have A1:∀k∈(funT l c).kids,0<=k/\k<(c:Int):=fun k hk=>ZU hr hi c hc k hk
 refine Zec hm (fun k hk=>?_) (fun k hk h5=>?_) h9 ho
 ·have:=A1 k hk
  exact hI.ins _ (by omega) (ZV0 (ZU hr hi) hc hn hk)
 ·have:=A1 k hk
  have ek:kindAt l k=5:=by rw[(Zy4 l (show c<=l.length by omega)).kind this.1 (by rw[Y5];omega)];exact h5
  rw[ZQ2]at ek ⊢;rw[ZC6 hi (by omega) hS hI.ext (by omega) (ZV0 (ZU hr hi) hc hn hk) (by rw[ek];decide),ek]
theorem Zmd{l:List Ty}{t:Ty}(hm:madeB l t=true):(addT l t).2.2≠1:=by
 unfold addT;rw[if_neg (show ¬madeB l t=false by rw[hm];decide)]
 split
 ·show(0:Int)≠1;decide
 ·split
  ·show(7:Int)≠1;decide
  ·show(0:Int)≠1;decide
theorem Zcd{l:List Ty}{t x:Ty}(h:x∈(addT l t).1):x∈l\/x=t:=by
 unfold addT at h
 split at h
 ·exact .inl h
 ·split at h
  ·cases h
  ·split at h
   ·cases h
   ·rcases Yz.1 h with h|h
    ·exact .inl h
    ·exact .inr (Yo.1 h)
theorem Zj4{l:List Ty}(hr:rightT l=true){i:Nat}(hi:i<l.length){args:List Int}(hin:inArena l args=true)(ha:¬(args.length:Int)<askD (funT l) (i+1) i){P:Ty->Prop}(hP:∀(M:List Ty) (t:Ty) (I:Nat->Int),P t->P (newT M t I))(hl:∀t∈l,P t) :
  ∀c,c<=i+1->(runT l i args c).err≠1/\((runT l i args c).err=0->∀t∈(runT l i args c).now,P t)
 | 0,_=>⟨by show(0:Int)≠1;decide,fun _=>hl⟩
 | c+1,hc=>by
  have ih:=Zj4 hr hi hin ha hP hl c (by omega)
  by_cases h0:(runT l i args c).err=0
  ·have hI:=Zh1 hr hi hin ha c (by omega) h0
   have hS:=Zo4 hr hi hin ha c (by omega) h0;have hall:=ih.2 h0;rw[Zw];obtain⟨s,hs⟩:=Yn (runT l i args c);rw[hs]at h0 hI hS hall ⊢
   by_cases hsk:needD (funT l) i (i+1) c=false\/askD (funT l) (i+1) c=0
   ·rw[Zb0 h0 hsk]
    exact⟨by show(0:Int)≠1;decide,fun _=>hall⟩
   ·have hn:needD (funT l) i (i+1) c=true:=by
     cases hh:needD (funT l) i (i+1) c
     ·exact absurd (.inl hh) hsk
     ·rfl
    have hA:¬askD (funT l) (i+1) c=0:=fun g=>hsk (.inr g)
    by_cases h9:(funT l c).kind=9
    ·rw[Zx0 h0 hn hA h9]
     exact⟨by show(0:Int)≠1;decide,fun _=>hall⟩
    ·by_cases ho:(funT l c).kind=7/\oddT s.now (swapT (funT l c) s.ins)=true
     ·rw[Za0 h0 hn hA h9 (ZJ5 ho) (by decide)]
      exact⟨by show(11:Int)≠1;decide,fun g=>absurd (show(11:Int)=0 from g) (by decide)⟩
     ·have A4:=ZKa hr hi (by omega) hI hS hn hA h9 ho
      have A0:=ZR5 ho;have A2:=Zmd A4;obtain⟨M,p,e,hq⟩:∃M p e,addT s.now (newT s.now (funT l c) s.ins)=(M,p,e):=⟨_,_,_,rfl⟩
      have A1:∀x∈M,x∈s.now\/x=newT s.now (funT l c) s.ins:=fun x hx=>Zcd (by rw[hq];exact hx)
      rw[hq]at A0 A2
      by_cases he:e=0
      ·subst he
       rw[ZF0 h0 hn hA h9 A0];refine⟨by show(0:Int)≠1;decide,fun _ x hx=>?_⟩
       rcases A1 x hx with h|h
       ·exact hall x h
       ·rw[h]
        refine hP _ _ _ ?_;have A3:c<l.length:=by omega
        have e:funT l c=l[c]:=by unfold funT;rw[Z3 A3]
        rw[e];exact hl _ (Yq A3)
      ·rw[Za0 h0 hn hA h9 A0 he]
       exact⟨A2,fun g=>absurd (show e=0 from g) he⟩
  ·rw[Zw,Zl3 h0]
   exact⟨ih.1,fun g=>absurd g h0⟩
theorem Z6c{l:List Ty}(hr:rightT l=true){i:Nat}(hi:i<l.length){args:List Int}(hin:inArena l args=true)(ha:askD (funT l) (i+1) i<=(args.length:Int)) :
  (substT l i args).2.2≠1/\((substT l i args).2.2=0->rightT (substT l i args).1=true/\Ext l (substT l i args).1/\(0<=(substT l i args).2.1/\(substT l i args).2.1<((substT l i args).1.length:Int))/\((funT l i).kind≠9->kindAt (substT l i args).1 (substT l i args).2.1=(funT l i).kind) /\
   ∀{P:Ty->Prop},(∀(M:List Ty) (t:Ty) (I:Nat->Int),P t->P (newT M t I))->(∀t∈l,P t)->∀t∈(substT l i args).1,P t):=by
 have A0:¬(args.length:Int)<askD (funT l) (i+1) i:=by omega
 by_cases h0:(runT l i args (i+1)).err=0
 ·have hI:=Zh1 hr hi hin A0 (i+1) (Yk _) h0
  have hS:=Zo4 hr hi hin A0 (i+1) (Yk _) h0;rw[ZO4 A0 hin rfl h0];refine⟨by show(0:Int)≠1;decide,fun _=>⟨hI.right,hI.ext,hS.ins i (by omega) (Zb1 _ _ _),fun h9=>?_,fun {P} hP hl=>(Zj4 hr hi hin A0 hP hl (i+1) (Yk _)).2 h0⟩⟩;rw[ZQ2];exact ZC6 hi (Yk _) hS hI.ext (Nat.lt_succ_self i) (Zb1 _ _ _) h9
 ·have hw:=(Zj4 hr hi hin A0 (P:=fun _=>True) (fun _ _ _ _=>trivial) (fun _ _=>trivial) (i+1) (Yk _)).1
  rw[Ze2 A0 hin rfl h0];exact⟨hw,fun g=>absurd (show(runT l i args (i+1)).err=0 from g) h0⟩
theorem underB_iff3{l:List Ty}{n:Nm}:underB l n=true↔fitB l n.under n.bounds.length=true/\isB l n.under 8=false/\isB l n.under 9=false/\¬(14<=n.under/\n.under<=19)/\(n.methods=[]\/(isB l n.under 7=false/\isB l n.under 1=false)):=by
 unfold underB;simp only[Yd,Bool.or_eq_true,Bool.not_eq_true',decide_eq_true_eq]
 constructor
 ·rintro⟨⟨⟨⟨h1,h2⟩,h3⟩,h4⟩,h5⟩;exact⟨h1,h2,h3,h4,h5⟩
 ·rintro⟨h1,h2,h3,h4,h5⟩;exact⟨⟨⟨⟨h1,h2⟩,h3⟩,h4⟩,h5⟩
theorem Zpd{l M:List Ty}(hx:Ext l M){i:Int}(h:inL l i=true):askN M i=askN l i:=by
 unfold inL at h;have h:=Yf h;unfold askN;exact congrFun (Zt7 (fun j hj=>hx.fn (by omega))) _
theorem Zg0{l M:List Ty}(hx:Ext l M){i:Int}(h:inL l i=true):inL M i=true:=by
 unfold inL at *;have h:=Yf h;have:=hx.2;exact Yb (by omega)
theorem Zi2{l M:List Ty}(hx:Ext l M){i:Int}{most:Nat}(h:inL l i=true):fitB M i most=fitB l i most:=by
 unfold fitB;rw[Zg0 hx h,h,Zpd hx h]
theorem ZS0{l M:List Ty}(hx:Ext l M){i k:Int}(h:inL l i=true):isB M i k=isB l i k:=by
 have h2:=h;unfold inL at h2;have h2:=Yf h2;unfold isB;rw[Zg0 hx h,h,hx.kind h2.1 h2.2]
theorem Z60{l:List Ty}{i:Int}{most:Nat}(h:fitB l i most=true):inL l i=true:=by
 unfold fitB at h;rw[Yd]at h;exact h.1
theorem ZKd{l M:List Ty}(hx:Ext l M){n:Nm}(h:oneU l n=true):oneU M n=true:=by
 rw[oneU_iff]at h ⊢;obtain⟨h1,h2,h3,h4,h5,h6⟩:=h;refine⟨h1,h2,?_,fun b hb=>?_,fun m hm=>?_,h6⟩
 ·rw[underB_iff3]at h3 ⊢
  have hi:=Z60 h3.1;rw[Zi2 hx hi,ZS0 hx hi,ZS0 hx hi,ZS0 hx hi,ZS0 hx hi];exact h3
 ·have g:=h4 b hb
  unfold boundB at g ⊢;rw[Yd]at g;have hi:=Z60 g.2;rw[Zi2 hx hi,ZS0 hx hi,Yd];exact g
 ·have g:=h5 m hm
  unfold methB at g ⊢;rw[Yd]at g;have hi:=Z60 g.2;rw[Zi2 hx hi,ZS0 hx hi,Yd];exact g
theorem Zda{l M:List Ty}{ns:List Nm}(h:rightU ⟨l,ns⟩=true)(hx:Ext l M)(hr:rightT M=true)(hf:∀t∈M,fitsU ns t=true):rightU ⟨M,ns⟩=true:=by
 rw[Z8,Yd]at h ⊢;refine⟨hr,?_⟩;have g:=restU_iff.1 h.2;exact restU_iff.2 ⟨g.1,fun n hn=>ZKd hx (g.2.1 n hn),g.2.2.1,List.all_eq_true.2 hf⟩
theorem ZRc{ns:List Nm}(M:List Ty)(t:Ty)(I:Nat->Int)(h:fitsU ns t=true):fitsU ns (newT M t I)=true:=by
 by_cases h8:t.kind=8
 ·unfold fitsU at h ⊢
  rw[Zm4,ZYc,Z4d M t I (by omega)];exact h
 ·exact Zt2 (by rw[Zm4];exact h8)
theorem Zz5{l:List Ty}(hr:rightT l=true){i:Int}(h:inL l i=true)(ks:List Int):psubT l i ks=substT l i.toNat ks:=by
 unfold inL at h;have h:=Yf h;unfold psubT;rw[if_pos];unfold thereT;rw[if_neg (by rw[hr];decide),if_neg (by omega)]
theorem Zy1{u:Un}(h:rightU u=true){i:Int}{ks:List Int}(hi:inL u.types i=true)(ha:askN u.types i<=(ks.length:Int))(hin:inArena u.types ks=true)(h9:kindAt u.types i≠9) :
  (fillU u i ks).2.2≠1/\((fillU u i ks).2.2=0->rightU (fillU u i ks).1=true/\Ext u.types (fillU u i ks).1.types/\(fillU u i ks).1.named=u.named/\inL (fillU u i ks).1.types (fillU u i ks).2.1=true/\kindAt (fillU u i ks).1.types (fillU u i ks).2.1=kindAt u.types i):=by
 have h2:=h;rw[Z8,Yd]at h2;have A0:=hi;unfold inL at A0;have A0:=Yf A0;unfold fillU
 by_cases hk:ks.length=0
 ·rw[if_pos hk]
  exact⟨by show(0:Int)≠1;decide,fun _=>⟨h,Ext.refl _,rfl,hi,rfl⟩⟩
 ·rw[if_neg hk,Zz5 h2.1 hi]
  have hw:=Z6c h2.1 (i:=i.toNat) (by omega) hin (by unfold askN at ha;exact ha);obtain⟨M,p,e,hs⟩:∃M p e,substT u.types i.toNat ks=(M,p,e):=⟨_,_,_,rfl⟩
  rw[hs]at hw ⊢
  by_cases he:e=0
  ·subst he
   rw[if_neg (fun g=>g rfl)];obtain⟨w1,w2,w3,w4,w5⟩:=hw.2 rfl;refine⟨by show(0:Int)≠1;decide,fun _=>⟨Zda h w2 w1 (w5 (P:=fun t=>fitsU u.named t=true) (fun M t I ht=>ZRc M t I ht) (fun t ht=>List.all_eq_true.1 (restU_iff.1 h2.2).2.2.2 t ht)),w2,rfl,?_,?_⟩⟩
   ·unfold inL
    exact Yb w3
   ·have:=w4 (by rw[ZQ2]at h9;exact h9)
    rw[ZQ2 u.types];exact this
  ·rw[if_pos he]
   exact⟨hw.1,fun g=>absurd g he⟩
def putU(u:Un)(t:Ty):Un×Int×Int:=
 if(paddT u.types t).2.2=1\/restU u=false then(noUn,0,1)else if(paddT u.types t).2.2≠0 then(noUn,0,(paddT u.types t).2.2)
 else if fitsU u.named t=false then(noUn,0,8)else(⟨(paddT u.types t).1,u.named⟩,(paddT u.types t).2.1,0)
def methF(ks:List Int):List Mt->Un->Un×List Mt×Int
 | [],u=>(u,[],0)
 | m::r,u=>if(fillU u m.sig ks).2.2≠0 then(noUn,[],(fillU u m.sig ks).2.2)
  else if(methF ks r (fillU u m.sig ks).1).2.2≠0 then(noUn,[],(methF ks r (fillU u m.sig ks).1).2.2)
  else((methF ks r (fillU u m.sig ks).1).1,⟨m.name,m.ptr,(fillU u m.sig ks).2.1⟩::(methF ks r (fillU u m.sig ks).1).2.1,0)
theorem Z55{l M:List Ty}(hx:Ext l M){ks:List Int}(h:inArena l ks=true):inArena M ks=true:=
 List.all_eq_true.2 fun a ha=>by
  have:=Yf (List.all_eq_true.1 h a ha);have:=hx.2;exact Yb (by omega)
theorem Za2{ks:List Int}:∀{ms:List Mt} {u:Un},rightU u=true->inArena u.types ks=true->(∀m∈ms,methB u.types ks.length m=true) ->
  (methF ks ms u).2.2≠1/\((methF ks ms u).2.2=0->rightU (methF ks ms u).1=true/\Ext u.types (methF ks ms u).1.types/\(methF ks ms u).2.1.map (·.name)=ms.map (·.name)/\∀m∈(methF ks ms u).2.1,isB (methF ks ms u).1.types m.sig 5=true)
 | [],u,hr,_,_=>⟨by show(0:Int)≠1;decide,fun _=>⟨hr,Ext.refl _,rfl,fun m hm=>absurd hm (by show m ∉ ([]:List Mt);simp)⟩⟩
 | m::r,u,hr,hin,hm=>by
  have hmm:=hm m Yt;obtain⟨-,hf,hk⟩:=methB_iff.1 hmm;have hi:=Z60 hf;have hf2:=hf;unfold fitB at hf2;rw[Yd]at hf2;have hfl:=Zy1 hr (ks:=ks) hi (Yf hf2.2) hin (by rw[hk];decide);unfold methF
  by_cases c1:(fillU u m.sig ks).2.2≠0
  ·rw[if_pos c1]
   exact⟨hfl.1,fun g=>absurd g c1⟩
  rw[if_neg c1];have c1:(fillU u m.sig ks).2.2=0:=by omega
  obtain⟨f1,f2,f3,f4,f5⟩:=hfl.2 c1
  have ih:=Za2 (ks:=ks) (ms:=r) f1 (Z55 f2 hin) (fun m' hm'=>by
   have g:=hm m' (Yx _ hm');unfold methB at g ⊢;rw[Yd]at g;have A0:=Z60 g.2;rw[Zi2 f2 A0,ZS0 f2 A0,Yd];exact g)
  by_cases c2:(methF ks r (fillU u m.sig ks).1).2.2≠0
  ·rw[if_pos c2]
   exact⟨ih.1,fun g=>absurd g c2⟩
  rw[if_neg c2];have c2:(methF ks r (fillU u m.sig ks).1).2.2=0:=by omega
  obtain⟨g1,g2,g3,g4⟩:=ih.2 c2;refine⟨by show(0:Int)≠1;decide,fun _=>⟨g1,f2.trans g2,?_,fun m' hm'=>?_⟩⟩
  ·show m.name::(methF ks r (fillU u m.sig ks).1).2.1.map (·.name)=m.name::r.map (·.name)
   rw[g3]
  ·rcases List.mem_cons.1 hm' with e|e
   ·rw[e]
    rw[ZS0 g2 f4];unfold isB;rw[f4,f5,hk]
    rfl
   ·exact g4 m' e
set_option maxRecDepth 100000 in
theorem ZUa(w:World) :
  Calls Tryz.prog 23 #[] w fun e w'=>(∃ao cap,e=.returned (.slice ao 22 cap)/\OwnZ w' w.heap.size (.slice ao 22 cap) startZ)/\Below w.heap.size w w':=by
 obtain⟨i0,hi,hz0,hz1,hz2⟩:=info_parts ZD1;have A5:=fun W=>Yh (ZM6 W)
 go_enter Tryz.func23,Tryz.ntmps23;go_wp2_with fail;have O0:=@Yh (OwnZ (w.alloc (.cells #[] 50)) w.heap.size (.slice (some ⟨w.heap.size,0,none⟩) 0 0) []) (World.ownsRow_made w #[] 0 (Yk _) (by unfold maxLen;omega) rfl);obtain⟨w1,h1⟩:=Yn (w.alloc (.cells #[] 50));rw[h1]at O0 ⊢;have B1:=@Yh (Below w.heap.size w w1) (by rw[<-h1];exact(Y8 _ _).alloc (Yk _) _);have S1:=@Yh (w1.heap.size=w.heap.size+1) (by rw[<-h1];simp);clear h1;refine(A5 _).o.mono ?_;rintro e w' ⟨rfl,rfl⟩;obtain⟨w2,h2⟩:=Yn (w1.alloc (.cells nameCells 9));rw[h2];obtain⟨k2,q2,z2⟩:=Za h2;have O1:=Yh (O0.o.kept q2);have K2:=Yh k2;have B2:=YT B1 q2;clear h2 k2 q2 z2 A5;go_wp2_with fail;go_loopw [1,7] (fun vo i wr=>∃k:Nat,k<=20/\i=.int .i64 k/\Hi (OwnZ wr w.heap.size vo ((basicNames.take k).map bz))/\Hi (BlockAt wr w1.heap.size nameCells 9/\vo.ownBlock≠some w1.heap.size)/\Hi (Below w.heap.size w wr)) (fun _ i _=>20-(intOf i).toNat)
 case atStart=>exact⟨0,Yl _,rfl,O1,Yh ⟨K2.o,by intro h;have h2:some w.heap.size=some w1.heap.size:=h;rw[Option.some_inj]at h2;have:=S1.o;omega⟩,B2⟩
 case round =>
  obtain⟨k,hk,rfl,Hown,HK,HB⟩:=hrel
  by_cases hkl:k<20
  ·have ck:=HK.o.1.cell k
   rw[Zn3 hkl]at ck;obtain⟨s,hs⟩:=Yn (basicNames.getD k ⟨#[]⟩);rw[hs]at ck;have HS:=Yh hs;have BZ:=Yh HB.o.size;clear hs;have A2:((basicNames.take k).map bz).length=k:=by rw[Yg,Y5];have:basicNames.length=20:=rfl;omega
   have A1:=Yh A2;obtain⟨xs,hxs⟩:=Yn ((basicNames.take k).map bz);have A6:=Yh hxs;rw[hxs]at Hown A1;clear hxs A2;have A0:=Hown.o;unfold OwnZ at A0;rw[A1.o]at A0;have HO:=Yh A0;clear A0;go_wp2_with (at_builtin;refine wpList_append_own_at _ rfl _ _ 22 rfl w.heap.size 50 i0 (.agg #[.int .i64 0,.string ⟨#[]⟩,.int .i64 0,.slice none 0 0,.slice none 0 0]) 5 80 Tryz.underlying22 hi hz0 hz1 hz2 rfl (by decide) _ k (tzC xs) rfl (HO.o.alloc _) ⟨wr.heap.size,0,none⟩ 1 1 (tzC1 (bz s)) rfl ?c1 ?c2 ?c3 ?c4 ?c5 ?c6 ?_)
   case c1=>rfl
   case c2=>exact Z9 _ _ _
   case c3 =>
    exact ZO1 _
   case c4=>unfold maxLen;omega
   case c5=>omega
   case c6=>have:=BZ.o;simp;omega
   intro v' w3 hown3 hgrow _ hblk;have hp:=Zj1 (r:=[bz s]) (by rw[A1.o];rfl) (Yk _) Hown.o HB.o hown3 hgrow
   have A7:=Yh (show OwnZ w3 w.heap.size v' ((basicNames.take (k+1)).map bz)by
    have e:(basicNames.take (k+1)).map bz=xs++[bz s]:=by
     rw[List.take_add_one,Yu,A6.o];have hl:basicNames.length=20:=rfl;have:=HS.o;rw[List.getD_eq_getElem?_getD,Yv (by omega)]at this;rw[Yv (by omega)];simp at this;simp[this]
    rw[e];exact hp.1)
   have A8:=Yh (show BlockAt w3 w1.heap.size nameCells 9/\v'.ownBlock≠some w1.heap.size from⟨by
    unfold BlockAt;rw[hp.2.2 _ HK.o.1.lt HK.o.2];exact HK.o.1,fun h=>by
    rcases hblk with h3|h3
    ·exact HK.o.2 (h3.symm.trans h)
    ·rw[h3,Option.some_inj]at h
     have:=HK.o.1.lt
     try simp at h
     omega⟩)
   have A4:=Yh hp.2.1;clear hown3 hgrow hblk hp;go_wp2_with fail;go_roundw
   case rel=>exact⟨k+1,by omega,by go_num,A7,A8,A4⟩
   case measure=>first|(simp[intOf];done)|(simp[intOf];omega)
  ·obtain rfl:k=20:=by omega
   have BZ:=Yh HB.o.size;have A3:=@Yh (OwnZ wr w.heap.size _ (basicNames.map bz)) (Hown.o);have HO:=@Yh (wr.ownsRow w.heap.size 50 5 _ 20 (tzC (basicNames.map bz))) (Hown.o);go_wp2_with (at_builtin;refine wpList_append_own_at _ rfl _ _ 22 rfl w.heap.size 50 i0 (.agg #[.int .i64 0,.string ⟨#[]⟩,.int .i64 0,.slice none 0 0,.slice none 0 0]) 5 80 Tryz.underlying22 hi hz0 hz1 hz2 rfl (by decide) _ 20 (tzC (basicNames.map bz)) rfl (HO.o.alloc _) ⟨wr.heap.size,0,none⟩ 2 2 (tzC [iz 0,iz 1]) rfl ?c1 ?c2 ?c3 ?c4 ?c5 ?c6 ?_)
   case c1=>rfl
   case c2=>exact Z9 _ _ _
   case c3 =>
    exact ZN3 _
   case c4=>unfold maxLen;omega
   case c5=>omega
   case c6=>have:=BZ.o;simp;omega
   intro v' w3 hown3 hgrow _ hblk;have hp:=Zj1 (r:=[iz 0,iz 1]) rfl (Yk _) A3.o HB.o hown3 hgrow;have A4:=Yh hp.2.1;obtain⟨ao,cap,rfl,ha,hcap⟩:=Zp2 (show OwnZ w3 w.heap.size v' startZ from hp.1) (Z63 _);have HA:=@Yh (OwnZ w3 w.heap.size (.slice ao 22 cap) startZ) (hp.1);clear hown3 hgrow hblk hp ha hcap;go_wp2_with fail;go_ret;exact⟨⟨ao,cap,rfl,HA.o⟩,A4.o⟩
def tp0:Ty:=⟨9,⟨#[]⟩,0,[],[]⟩
def tp1:Ty:=⟨2,⟨#[]⟩,0,[],[22]⟩
def tp2:Ty:=⟨2,⟨#[]⟩,0,[],[2]⟩
def la:List Ty:=basics++[tp0,tp1]
def lb:List Ty:=la++[tp2]
theorem ZG9{w:World}{b:Nat}{xs:Array Value}{T:TypeId}{cs:List Value}(h:BlockAt w b xs T)(e:xs=cs.toArray):∀j u,cs[j]? = some u->w.cell? ((⟨b,0,none⟩:Addr).add j)=some u:=by
 intro j u hu;have A0:(⟨b,0,none⟩:Addr).add j=⟨b,j,none⟩:=by unfold Addr.add;split<;>simp_all
 rw[A0,h.cell j,e]
 simpa using hu
theorem Zub{w W w':World}{E:TypeId}{size n:Nat}{v:Value}{xs:List Value}(h:W.ownsRow w.heap.size E size v n xs)(hb:Below w.heap.size w W)(hg:W.grownBy w' v.ownBlock):Below w.heap.size w w':=
 hb.grown hg hb.size (fun k hk=>(World.ownsRow.lt h k hk).1)
structure TyIn (w:World) (wo ko:Option Addr) (wc kc:Nat) (t:Ty):Prop where
 words:SRow w wo t.words
 kids:IRow w ko t.kids
 wc1:t.words.length<=wc
 wc2:wc<=9223372036854775807
 kc1:t.kids.length<=kc
 kc2:kc<=9223372036854775807
 nl:t.name.size<=9223372036854775807
 ws:∀s∈t.words,s.size<=9223372036854775807
 nums:(-9223372036854775808<=t.kind/\t.kind<=9223372036854775807)/\-9223372036854775808<=t.n/\t.n<=9223372036854775807
 ks:∀k∈t.kids,-9223372036854775808<=k/\k<=9223372036854775807
theorem TyIn.below{w w':World}{wo ko:Option Addr}{wc kc:Nat}{t:Ty}(h:TyIn w wo ko wc kc t)(hb:Below w.heap.size w w'):TyIn w' wo ko wc kc t:=
 { h with words:=h.words.below hb,kids:=h.kids.below hb }
theorem IRow.take{w:World}{ao:Option Addr}{zs:List Int}(h:IRow w ao zs)(k:Nat):IRow w ao (zs.take k):=by
 rcases h with h|⟨b,off,h1,h2,h3⟩
 ·exact .inl (by rw[h];simp)
 ·refine .inr ⟨b,off,h1,h2,fun i hi=>?_⟩
  rw[Y5]at hi;rw[h3 i (by omega),List.getD_eq_getElem?_getD,List.getD_eq_getElem?_getD,List.getElem?_take_of_lt (by omega)]
def InRow(w:World)(ao:Option Addr)(l:List Ty):Prop:=
 l=[]\/∃b off,ao=some ⟨b,off,none⟩/\b<w.heap.size/\∀i (h:i<l.length),∃wo wc ko kc,w.cell? ⟨b,off+i*5,none⟩=some (.int .i64 l[i].kind)/\w.cell? ⟨b,off+i*5+1,none⟩=some (.string l[i].name)/\w.cell? ⟨b,off+i*5+2,none⟩=some (.int .i64 l[i].n) /\
  w.cell? ⟨b,off+i*5+3,none⟩=some (.slice wo l[i].words.length wc)/\w.cell? ⟨b,off+i*5+4,none⟩=some (.slice ko l[i].kids.length kc)/\TyIn w wo ko wc kc l[i]
theorem InRow.below{w w':World}{ao:Option Addr}{l:List Ty}(h:InRow w ao l)(hb:Below w.heap.size w w'):InRow w' ao l:=by
 rcases h with h|⟨b,off,h1,h2,h3⟩
 ·exact .inl h
 ·refine .inr ⟨b,off,h1,Yi h2 hb.size,fun i hi=>?_⟩
  obtain⟨wo,wc,ko,kc,c0,c1,c2,c3,c4,c5⟩:=h3 i hi;exact⟨wo,wc,ko,kc,(hb.cell h2).trans c0,(hb.cell h2).trans c1,(hb.cell h2).trans c2,(hb.cell h2).trans c3,(hb.cell h2).trans c4,c5.below hb⟩
theorem InRow.cells{w:World}{ao:Option Addr}{l:List Ty}(h:InRow w ao l)(hn:0<l.length):∃b off,ao=some ⟨b,off,none⟩/\b<w.heap.size/\∀i (h:i<l.length),∃wo wc ko kc,w.cell? ⟨b,off+i*5,none⟩=some (.int .i64 l[i].kind)/\w.cell? ⟨b,off+i*5+1,none⟩=some (.string l[i].name)/\w.cell? ⟨b,off+i*5+2,none⟩=some (.int .i64 l[i].n) /\
  w.cell? ⟨b,off+i*5+3,none⟩=some (.slice wo l[i].words.length wc)/\w.cell? ⟨b,off+i*5+4,none⟩=some (.slice ko l[i].kids.length kc)/\TyIn w wo ko wc kc l[i]:=by
 rcases h with h|h
 ·rw[h]at hn;exact absurd hn (by simp)
 ·exact h
theorem SRow.take{w:World}{ao:Option Addr}{ss:List ByteArray}(h:SRow w ao ss)(k:Nat):SRow w ao (ss.take k):=by
 rcases h with h|⟨b,off,h1,h2,h3⟩
 ·exact .inl (by rw[h];simp)
 ·refine .inr ⟨b,off,h1,h2,fun i hi=>?_⟩
  rw[Y5]at hi;rw[h3 i (by omega),List.getD_eq_getElem?_getD,List.getD_eq_getElem?_getD,List.getElem?_take_of_lt (by omega)]
def cutT(t:Ty)(a b c:Nat):Ty:=⟨t.kind,t.name.extract 0 a,t.n,t.words.take b,t.kids.take c⟩
theorem ZYd{w:World}{wo ko:Option Addr}{wc kc a b c:Nat}{t:Ty}(h:TyIn w wo ko wc kc t)(ha:a<=50)(ha2:a<=t.name.size)(hb:b<=18)(hb2:b<=t.words.length)(hc:c<=18)(hc2:c<=t.kids.length) :
  (cutT t a b c).words.length=b/\(cutT t a b c).kids.length=c/\InZ w ⟨cutT t a b c,wo,wc,ko,kc⟩:=by
 have e1:(t.words.take b).length=b:=by rw[Y5];omega
 have e2:(t.kids.take c).length=c:=by rw[Y5];omega
 refine⟨e1,e2,?_,?_,h.words.take b,h.kids.take c,?_⟩
 ·show(t.words.take b).length<=wc
  have:=h.wc1
  omega
 ·show(t.kids.take c).length<=kc
  have:=h.kc1
  omega
 ·refine⟨?_,by show(t.words.take b).length<=18;omega,by show(t.kids.take c).length<=18;omega,fun s hs=>h.ws s (List.mem_of_mem_take hs),h.nums,fun k hk=>h.ks k (List.mem_of_mem_take hk)⟩
  show(t.name.extract 0 a).size<=50
  rw[ByteArray.size_extract]
  omega
end Go.Proofs.YtdcajkagakikiaaGreatDoor
