import Derived.Test.YtdcajkagakikiaaGreatDoorQ04
import Derived.StillTailTactics
import Derived.Laws.AppendOwn
import Derived.Deep.RegionHeld3
namespace Go.Proofs.YtdcajkagakikiaaGreatDoor
set_option maxHeartbeats 64000000
set_option linter.unusedSimpArgs false
set_option linter.unusedVariables false
open Go.RowKit
def bas(k:Nat):Ty:=if k<20 then⟨0,basicNames.getD k ⟨#[]⟩,0,[],[]⟩else⟨7,⟨#[]⟩,(k:Int)-20,[],[]⟩
theorem ZVd:∀k,k<22->basics[k]? = some (bas k):=by decide
theorem ZN0{k:Nat}(h:k<basics.length):basics[k]=bas k:=by
 have:=ZVd k (by rw[ZH]at h;exact h);rw[Yv h]at this
 injection this
theorem Zq9:∀k,k<20->(basicNames.getD k ⟨#[]⟩).size<=50:=by decide
def EnvB(w:World):Prop:=∀i,i<20->w.cell? ⟨0,i,none⟩=some (.string (basicNames.getD i ⟨#[]⟩))
theorem Zv{w:World}{b o:Nat}{v:Value}(h:w.cell? ⟨b,o,none⟩=some v):b<w.heap.size:=by
 rcases Nat.lt_or_ge b w.heap.size with h1|h1
 ·exact h1
 ·exfalso
  unfold World.cell? at h;rw[Array.getElem?_eq_none (by simpa using h1)]at h
  cases h
theorem EnvB.below{w w':World}(h:EnvB w)(hb:Below w.heap.size w w'):EnvB w':=fun i hi=>by
 rw[hb.cell (p:=⟨0,i,none⟩) (Zv (h i hi))];exact h i hi
theorem basC(w:World)(k:Nat)(hk:k<22):TyC w none none (bas k):=by
 unfold bas
 split
 ·rename_i h
  refine⟨.inl rfl,.inl rfl,Zq9 k h,by simp,by simp,by simp,by simp,by simp⟩
 ·exact⟨.inl rfl,.inl rfl,by simp;decide,by simp,by simp,by simp,⟨by simp,by simp;omega⟩,by simp⟩
set_option maxRecDepth 100000 in
theorem Zb6(t:Ty)(wo ko:Option Addr)(wc kc:Nat)(k:Nat)(hk:k<22)(w:World)(ht:TyC w wo ko t)(hE:EnvB w) :
  Calls Tryz.prog 105 #[tyV t wo wc ko kc,.int .i64 k] w fun e w'=>e=.returned (.bool (decide (t=bas k)))/\Below w.heap.size w w':=by
 obtain⟨r,hr⟩:∃r,decide (t=bas k)=r:=⟨_,rfl⟩
 rw[hr];obtain⟨w1,h1,k1,q1,z1⟩:=YA w #[.int .i64 t.kind,.string t.name,.int .i64 t.n,.slice wo t.words.length wc,.slice ko t.kids.length kc] 50;obtain⟨c0,c1,c2,c3,c4⟩:=cell5 k1;have BW:=Yh q1;have HS:=Yh (fun W (h:Below w1.heap.size w1 W)=>ZA6 t (bas k) wo ko none none wc kc 0 0 W ((ht.below BW.o).below h) (basC W k hk));rw[hr]at HS;have HE:=hE.below q1;clear hr ht k1 q1 z1 hE;unfold tyV at HS ⊢
 by_cases h20:k<20
 ·have hc:=HE k h20
  clear HE;unfold bas at HS;rw[if_pos h20]at HS;obtain⟨s,hs⟩:=Yn (basicNames.getD k ⟨#[]⟩);rw[hs]at HS hc;clear hs;go_enter Tryz.func105,Tryz.ntmps105;go_wp2_with fail;go_still_tail 5,(by kernel_rfl);clear c0 c1 c2 c3 c4 h1 hc
  change wpList _ _ _ _ _ w1.drew
  have BD:=@Yh (Below w1.heap.size w1 w1.drew) ((Y8 _ _).drew)
  generalize w1.drew=w2 at *
  go_wp2_with fail;refine(HS.o _ BD.o).mono ?_;rintro e w3 ⟨rfl,b3⟩;have B3:=Yh (BW.o.trans ((YU BD b3).mono BW.o.size));clear b3;go_wp2_with fail;go_ret;exact⟨rfl,B3.o⟩
 ·unfold bas at HS
  rw[if_neg h20]at HS;have A0:IntKind.i64.wrap ((k:Int)-20)=(k:Int)-20:=IntWalk.i64_in _ (by omega);clear HE;go_enter Tryz.func105,Tryz.ntmps105;go_wp2_with fail;clear h1;refine(HS.o _ (Y8 _ _)).mono ?_;rintro e w3 ⟨rfl,b3⟩;have B3:=YT BW b3;clear b3 c0 c1 c2 c3 c4;go_wp2_with fail;go_ret;exact⟨rfl,B3.o⟩
theorem Zu2{k:Nat}(h:k<22):(bas k).kind=if k<20 then 0 else 7:=by unfold bas;split<;>rfl
theorem Z48{t:Ty}{k:Nat}(hk:k<22)(h:t=bas k)(hno:∀j,j<k->t≠bas j):atT basics t=(k:Int):=by
 have hl:k<basics.length:=by rw[ZH];exact hk
 exact Za4 hl (by rw[ZN0 hl,h]) (fun j hj hjk e=>hno j hjk (by rw[<-e,ZN0 hj]))
theorem Z62{t:Ty}(hno:∀j,j<22->t≠bas j):atT basics t = -1:=
 Zd4 (fun j hj e=>hno j (by rw[ZH]at hj;exact hj) (by rw[<-e,ZN0 hj]))
set_option maxRecDepth 100000 in
theorem Zg2(t:Ty)(wo ko:Option Addr)(wc kc:Nat)(w:World)(ht:TyC w wo ko t)(hE:EnvB w) :
  Calls Tryz.prog 107 #[tyV t wo wc ko kc] w fun e w'=>e=.returned (.int .i64 (atT basics t))/\Below w.heap.size w w':=by
 obtain⟨r,hr⟩:=Yn (atT basics t);rw[hr];obtain⟨w1,h1,k1,q1,z1⟩:=YA w #[.int .i64 t.kind,.string t.name,.int .i64 t.n,.slice wo t.words.length wc,.slice ko t.kids.length kc] 50;obtain⟨c0,c1,c2,c3,c4⟩:=cell5 k1;have BW:=Yh q1;have K1:=Yh k1;have HS:=Yh (fun W (h:Below w1.heap.size w1 W) k (hk:k<22)=>Zb6 t wo ko wc kc k hk W ((ht.below BW.o).below h) ((hE.below BW.o).below h));have HR:=Yh hr;clear hr ht k1 q1 z1 hE;unfold tyV at HS ⊢
 by_cases h7:t.kind=7
 ·have A0:=Yh (show(∀k,20<=k->k<22->t=bas k->(∀j,20<=j->j<k->t≠bas j)->(k:Int)=r)/\((∀j,20<=j->j<22->t≠bas j)->(-1:Int)=r)from by
   have A1:∀j,j<20->t≠bas j:=fun j hj e=>by
    have:=Zu2 (k:=j) (by omega);rw[if_pos hj,<-e,h7]at this;exact absurd this (by decide)
   refine⟨fun k h20 hk e hno=>?_,fun hno=>?_⟩
   ·rw[<-HR.o]
    exact(Z48 hk e (fun j hj=>(Nat.lt_or_ge j 20).elim (A1 j) (fun g=>hno j g hj))).symm
   ·rw[<-HR.o]
    exact(Z62 (fun j hj=>(Nat.lt_or_ge j 20).elim (A1 j) (fun g=>hno j g hj))).symm)
  rw[h7]at HS K1 h1 c0 ⊢;clear h7;go_enter Tryz.func107,Tryz.ntmps107;go_wp2_with fail;clear h1 c0 c1 c2 c3 c4;go_loopw [5] (fun i wr=>∃k:Nat,20<=k/\k<=22/\i=.int .i64 k/\Hi (∀j,20<=j->j<k->t≠bas j)/\Hi (Below w1.heap.size w1 wr)) (fun i _=>22-(intOf i).toNat)
  case atStart=>exact⟨20,by omega,by omega,rfl,Yh (fun j _ _=>by omega),Yh (Y8 _ _)⟩
  case round =>
   obtain⟨k,hk0,hk,rfl,Hno,HB⟩:=hrel;obtain⟨c0,c1,c2,c3,c4⟩:=cell5 (K1.o.below HB.o)
   by_cases hkl:k<22
   ·have HC:=Yh (HS.o wr HB.o k hkl)
    by_cases he:t=bas k
    ·rw[Yb he]at HC
     have HV:=Yh (A0.o.1 k hk0 hkl he Hno.o);clear he;go_wp2_with fail;refine HC.o.mono ?_;rintro e w3 ⟨rfl,b3⟩;have B3:=Yh (BW.o.trans ((YU HB b3).mono BW.o.size));clear b3 c0 c1 c2 c3 c4;go_wp2_with fail;go_ret;exact⟨Zp HV.o,B3.o⟩
    ·rw[Ya he]at HC
     have HN:=Yh (show ∀j,20<=j->j<k+1->t≠bas j from fun j h20 hj=>by
      rcases Ym (Ys hj)with h3|h3
      ·exact Hno.o j h20 h3
      ·rw[h3];exact he)
     clear he;go_wp2_with fail;refine HC.o.mono ?_;rintro e w3 ⟨rfl,b3⟩;have B3:=YT HB b3;clear b3 c0 c1 c2 c3 c4;go_wp2_with fail;go_roundw
     case rel=>exact⟨k+1,by omega,by omega,by go_num,HN,B3⟩
     case measure=>simp[intOf];omega
   ·obtain rfl:k=22:=by omega
    have HV:=Yh (A0.o.2 Hno.o);have BE:=YT BW HB.o;clear c0 c1 c2 c3 c4;go_wp2_with fail;go_ret;exact⟨Zp HV.o,BE.o⟩
 by_cases h0:t.kind=0
 ·have A0:=Yh (show(∀k,k<20->t=bas k->(∀j,j<k->t≠bas j)->(k:Int)=r)/\((∀j,j<20->t≠bas j)->(-1:Int)=r)from by
   have A2:∀j,20<=j->j<22->t≠bas j:=fun j hj hj2 e=>by
    have:=Zu2 hj2;rw[if_neg (by omega),<-e,h0]at this;exact absurd this (by decide)
   refine⟨fun k hk e hno=>?_,fun hno=>?_⟩
   ·rw[<-HR.o]
    exact(Z48 (by omega) e hno).symm
   ·rw[<-HR.o]
    exact(Z62 (fun j hj=>(Nat.lt_or_ge j 20).elim (hno j) (fun g=>A2 j g hj))).symm)
  rw[h0]at HS K1 h1 c0 ⊢;clear h0 h7;go_enter Tryz.func107,Tryz.ntmps107;go_wp2_with fail;clear h1 c0 c1 c2 c3 c4;go_loopw [5] (fun i wr=>∃k:Nat,k<=20/\i=.int .i64 k/\Hi (∀j,j<k->t≠bas j)/\Hi (Below w1.heap.size w1 wr)) (fun i _=>20-(intOf i).toNat)
  case atStart=>exact⟨0,by omega,rfl,Yh (fun j _=>by omega),Yh (Y8 _ _)⟩
  case round =>
   obtain⟨k,hk,rfl,Hno,HB⟩:=hrel;obtain⟨c0,c1,c2,c3,c4⟩:=cell5 (K1.o.below HB.o)
   by_cases hkl:k<20
   ·have HC:=Yh (HS.o wr HB.o k (by omega))
    by_cases he:t=bas k
    ·rw[Yb he]at HC
     have HV:=Yh (A0.o.1 k hkl he Hno.o);clear he;go_wp2_with fail;refine HC.o.mono ?_;rintro e w3 ⟨rfl,b3⟩;have B3:=Yh (BW.o.trans ((YU HB b3).mono BW.o.size));clear b3 c0 c1 c2 c3 c4;go_wp2_with fail;go_ret;exact⟨Zp HV.o,B3.o⟩
    ·rw[Ya he]at HC
     have HN:=Yh (show ∀j,j<k+1->t≠bas j from fun j hj=>by
      rcases Ym (Ys hj)with h3|h3
      ·exact Hno.o j h3
      ·rw[h3];exact he)
     clear he;go_wp2_with fail;refine HC.o.mono ?_;rintro e w3 ⟨rfl,b3⟩;have B3:=YT HB b3;clear b3 c0 c1 c2 c3 c4;go_wp2_with fail;go_roundw
     case rel=>exact⟨k+1,by omega,by go_num,HN,B3⟩
     case measure=>simp[intOf];omega
   ·obtain rfl:k=20:=by omega
    have HV:=Yh (A0.o.2 Hno.o);have BE:=YT BW HB.o;clear c0 c1 c2 c3 c4;go_wp2_with fail;go_ret;exact⟨Zp HV.o,BE.o⟩
 ·have HV:=Yh (show(-1:Int)=r from by
   rw[<-HR.o]
   exact(Z62 (fun j hj e=>by
    have:=Zu2 hj;rw[<-e]at this
    split at this<;>contradiction)).symm)
  have A3:(t.kind==7)=false:=by rw[Yc];exact h7
  have A4:(t.kind != 0)=true:=by rw[YJ];exact h0
  clear h7 h0
  generalize t.kind=kd at *
  go_enter Tryz.func107,Tryz.ntmps107;go_wp2_with fail;go_ret;exact⟨Zp HV.o,BW.o⟩
set_option maxRecDepth 100000 in
theorem Zc8(l:List Ty)(ao:Option Addr)(ac:Nat)(t:Ty)(wo ko:Option Addr)(wc kc:Nat)(w:World)(hl:ARow w ao l)(ht:TyC w wo ko t)(ll:l.length<=1000)(hwc:t.words.length<=wc) :
  Calls Tryz.prog 52 #[.slice ao l.length ac,tyV t wo wc ko kc] w fun e w'=>e=.returned (.bool (madeB l t))/\Below w.heap.size w w':=by
 obtain⟨a,s,n,ws,ks⟩:=t;obtain⟨r,hr⟩:=Yn (madeB l ⟨a,s,n,ws,ks⟩);rw[hr];have HR:=Yh hr;unfold tyV
 show Calls _ _ #[.slice ao l.length ac,.agg #[.int .i64 a,.string s,.int .i64 n,.slice wo ws.length wc,.slice ko ks.length kc]] _ _
 have l1:ws.length<=18:=ht.ok.wl;have l2:ks.length<=18:=ht.ok.kl;have l3:s.size<=50:=ht.ok.nl;have A4:=@Yh (ws.length<=wc) (hwc);obtain⟨p,hp⟩:=Yn (ws.length);obtain⟨q,hq⟩:=Yn (ks.length);obtain⟨L,hL⟩:=Yn (l.length);have HP:=Yh hp;have HQ:=Yh hq;have HL:=Yh hL;have HT:=Yh ht;have HA:=Yh hl;rw[hp]at l1 ⊢;rw[hq]at l2 ⊢;rw[hL]at ll ⊢;obtain⟨w1,h1,k1,q1,z1⟩:=YA w #[.int .i64 a,.string s,.int .i64 n,.slice wo p wc,.slice ko q kc] 50;have BW:=Yh q1;have K1:=Yh k1;clear hr hp hq hL ht hl hwc k1 q1 z1;obtain⟨x0,x1,x2,x3,x4⟩:=cell5 K1.o;go_enter Tryz.func52,Tryz.ntmps52;go_wp2_with fail;clear h1 x0 x1 x2 x3 x4;go_loopw [11] (fun i wr=>∃k:Nat,k<=q/\i=.int .i64 k/\Hi (∀j,j<k->(0<=ks.getD j 0/\ks.getD j 0<(l.length:Int)))/\wr=w1) (fun i _=>q-(intOf i).toNat)
 case atStart=>exact⟨0,Yl _,rfl,Yh (fun j hj=>absurd hj (Yr _)),by first|rfl|trivial⟩
 case round =>
  obtain⟨k,hk,rfl,Hall,rfl⟩:=hrel
  by_cases hkl:k<q
  ·obtain⟨kb,kof,rfl,hkb,hkc⟩:=(HT.o.below BW.o).kids.cells (by show 0<ks.length;rw[HQ.o];omega)
   have ck:wr.cell? ⟨kb,kof+k,none⟩=some (.int .i64 (ks.getD k 0)):=hkc k (by show k<ks.length;rw[HQ.o];exact hkl);obtain⟨z,hz⟩:=Yn (ks.getD k 0);have HZ:=Yh hz;rw[hz]at ck;clear hz hkb hkc
   by_cases d1:z<0
   ·have Hn:=@Yh (false=r) (by rw[<-HR.o];exact(ZY1 (ZN2 (k:=k) (by rw[HQ.o];exact hkl) (by rw[HZ.o];omega))).symm)
    go_wp2_with fail;go_ret;exact⟨Z0 Hn.o,BW.o⟩
   by_cases d2:(L:Int)<=z
   ·have Hn:=@Yh (false=r) (by rw[<-HR.o];exact(ZY1 (ZN2 (k:=k) (by rw[HQ.o];exact hkl) (by rw[HZ.o,HL.o];omega))).symm)
    go_wp2_with fail;go_ret;exact⟨Z0 Hn.o,BW.o⟩
   have Hx:=Yh (show ∀j,j<k+1->(0<=ks.getD j 0/\ks.getD j 0<(l.length:Int))from fun j hj=>by
    rcases Ym (Ys hj)with h1|h1
    ·exact Hall.o j h1
    ·rw[h1,HZ.o,HL.o];omega)
   go_wp2_with fail;go_roundw
   case rel=>exact⟨k+1,by omega,by go_num,Hx,by first|rfl|trivial⟩
   case measure=>first|(simp[intOf];done)|(simp[intOf];omega)
  ·obtain rfl:k=q:=by omega
   have HK:=@Yh (kidsB l ks=true) (Zv6 (fun j hj=>Hall.o j (by rw[HQ.o]at hj;exact hj)));clear Hall hkl;obtain⟨x0,x1,x2,x3,x4⟩:=cell5 K1.o
   by_cases c1:16<k
   ·have Hn:=@Yh (false=r) (by rw[<-HR.o];symm;exact(Z0b (by rw[HQ.o];exact c1)))
    go_wp2_with fail;go_ret;exact⟨Z0 Hn.o,BW.o⟩
   by_cases c8:a=8
   ·subst c8
    by_cases cp:0<p
    ·have Hn:=@Yh (false=r) (by rw[<-HR.o];symm;exact(by rw[made8 HK.o,Ya (by rintro⟨_,_,e⟩;have:=HP.o;rw[e]at this;simp at this;omega),Bool.and_false]))
     go_wp2_with fail;go_ret;exact⟨Z0 Hn.o,BW.o⟩
    obtain rfl:p=0:=by omega
    by_cases cn:n=0
    case neg =>
     have A1:(n==0)=false:=by rw[Yc];exact cn
     have Hn:=@Yh (false=r) (by rw[<-HR.o];symm;exact(by rw[made8 HK.o,Ya (by rintro⟨_,e,_⟩;exact cn e),Bool.and_false]));go_wp2_with fail;go_ret;exact⟨Z0 Hn.o,BW.o⟩
    subst cn;have A5:=Yh (Z2b s wr (by omega));have Hn:=@Yh (namedB s=r) (by rw[<-HR.o,made8 HK.o,Yb ⟨by rw[HQ.o];omega,rfl,Yp HP.o⟩,Bool.and_true]);go_wp2_with fail;refine A5.o.mono ?_;rintro e w' ⟨rfl,rfl⟩;go_wp2_with fail;go_ret;exact⟨Z0 Hn.o,BW.o⟩
   have e8:(a != 8)=true:=by rw[YJ];exact c8
   by_cases cs:s.size=0
   case neg =>
    have A3:0<s.size:=by omega
    have A6:=Zz0 A3;have A8:=Zf2 A3;have Hn:=@Yh (false=r) (by rw[<-HR.o];symm;exact(ZJb c8 cs));go_wp2_with fail;go_ret;exact⟨Z0 Hn.o,BW.o⟩
   have A6:=Za5 cs
   by_cases c6:a=6
   ·subst c6
    clear c8 e8
    by_cases cn:n=0
    case neg =>
     have A1:(n==0)=false:=by rw[Yc];exact cn
     have Hn:=@Yh (false=r) (by rw[<-HR.o];symm;exact(by rw[made6 HK.o cs,Ya (by rintro⟨e,_⟩;exact cn e),Bool.false_and]));go_wp2_with fail;go_ret;exact⟨Z0 Hn.o,BW.o⟩
    subst cn;have A0:=Z3a ⟨6,s,0,ws,ks⟩ wo ko wc kc wr (HT.o.below BW.o) A4.o;unfold tyV at A0;simp only at A0;obtain⟨rb,hrb⟩:∃rb,(fieldsB ws&&decide (ws.length=ks.length))=rb:=⟨_,rfl⟩
    rw[hrb,HP.o,HQ.o]at A0;have HF:=Yh A0
    have Hn:=Yh (show rb=r by
     rw[<-HR.o,made6 HK.o cs,<-hrb,Bool.and_comm]
     congr 1
     have hq:=HQ.o;rw[decide_eq_decide]
     omega)
    clear A0 hrb;go_wp2_with fail;refine HF.o.mono ?_;rintro e w' ⟨rfl,b⟩;have B2:=YT BW b;clear b x0 x1 x2 x3 x4;go_wp2_with fail;go_ret;exact⟨Z0 Hn.o,B2.o⟩
   by_cases c7:a=7
   ·subst c7
    clear c8 e8 c6;have A0:=ZOa l ao ac ⟨7,s,n,ws,ks⟩ wo ko wc kc wr (HA.o.below BW.o) (HT.o.below BW.o) (by rw[HL.o];exact ll) (ZG2 HK.o);unfold tyV at A0;simp only at A0;obtain⟨rb,hrb⟩:∃rb,(decide (0<=n/\n<=3/\ws.length=ks.length)&&elemsB l n ws ks)=rb:=⟨_,rfl⟩
    rw[hrb,HP.o,HQ.o,HL.o]at A0;have HF:=Yh A0
    have Hn:=Yh (show rb=r by
     rw[<-HR.o,made7 HK.o cs,<-hrb]
     congr 1
     have hq:=HQ.o;rw[decide_eq_decide]
     omega)
    clear A0 hrb;go_wp2_with fail;refine HF.o.mono ?_;rintro e w' ⟨rfl,b⟩;have B2:=YT BW b;clear b x0 x1 x2 x3 x4;go_wp2_with fail;go_ret;exact⟨Z0 Hn.o,B2.o⟩
   have e6:(a != 6)=true:=by rw[YJ];exact c6
   have e7:(a != 7)=true:=by rw[YJ];exact c7
   by_cases cp:0<p
   ·have Hn:=@Yh (false=r) (by rw[<-HR.o];symm;exact(Zs9 c6 c7 (by rw[HP.o];exact cp)))
    go_wp2_with fail;go_ret;exact⟨Z0 Hn.o,BW.o⟩
   obtain rfl:p=0:=by omega
   have HW:=Yh (Yp HP.o)
   by_cases c1':a=1
   ·subst c1'
    clear c8 e8 c6 c7 e6 e7
    by_cases cn:n=0
    case neg =>
     have A1:(n==0)=false:=by rw[Yc];exact cn
     have Hn:=@Yh (false=r) (by rw[<-HR.o];symm;exact(by have hq:=HQ.o;rw[made1 HK.o cs HW.o,Ya (by omega)]));go_wp2_with fail;go_ret;exact⟨Z0 Hn.o,BW.o⟩
    have A1:(n==0)=true:=by rw[YK];exact cn
    by_cases cq:k=1
    case neg =>
     have A2:((k:Int)==1)=false:=by rw[Yc];omega
     have Hn:=@Yh (false=r) (by rw[<-HR.o];symm;exact(by have hq:=HQ.o;rw[made1 HK.o cs HW.o,Ya (by omega)]));go_wp2_with fail;go_ret;exact⟨Z0 Hn.o,BW.o⟩
    have A2:((k:Int)==1)=true:=by rw[YK];omega
    have Hn:=@Yh (true=r) (by rw[<-HR.o];symm;exact(by have hq:=HQ.o;rw[made1 HK.o cs HW.o,Yb (by omega)]));go_wp2_with fail;go_ret;exact⟨Z0 Hn.o,BW.o⟩
   by_cases c2:a=2
   ·subst c2
    clear c8 e8 c6 c7 e6 e7
    by_cases cn:n=0
    case neg =>
     have A1:(n==0)=false:=by rw[Yc];exact cn
     have Hn:=@Yh (false=r) (by rw[<-HR.o];symm;exact(by have hq:=HQ.o;rw[made2 HK.o cs HW.o,Ya (by omega)]));go_wp2_with fail;go_ret;exact⟨Z0 Hn.o,BW.o⟩
    have A1:(n==0)=true:=by rw[YK];exact cn
    by_cases cq:k=1
    case neg =>
     have A2:((k:Int)==1)=false:=by rw[Yc];omega
     have Hn:=@Yh (false=r) (by rw[<-HR.o];symm;exact(by have hq:=HQ.o;rw[made2 HK.o cs HW.o,Ya (by omega)]));go_wp2_with fail;go_ret;exact⟨Z0 Hn.o,BW.o⟩
    have A2:((k:Int)==1)=true:=by rw[YK];omega
    have Hn:=@Yh (true=r) (by rw[<-HR.o];symm;exact(by have hq:=HQ.o;rw[made2 HK.o cs HW.o,Yb (by omega)]));go_wp2_with fail;go_ret;exact⟨Z0 Hn.o,BW.o⟩
   by_cases c3:a=3
   ·subst c3
    clear c8 e8 c6 c7 e6 e7
    by_cases cg:0<=n
    case neg =>
     have Hn:=@Yh (false=r) (by rw[<-HR.o];symm;exact(by have hq:=HQ.o;rw[made3 HK.o cs HW.o,Ya (by omega)]));go_wp2_with fail;go_ret;exact⟨Z0 Hn.o,BW.o⟩
    by_cases ch:n<=2147483648
    case neg =>
     have Hn:=@Yh (false=r) (by rw[<-HR.o];symm;exact(by have hq:=HQ.o;rw[made3 HK.o cs HW.o,Ya (by omega)]));go_wp2_with fail;go_ret;exact⟨Z0 Hn.o,BW.o⟩
    by_cases cq:k=1
    case neg =>
     have A2:((k:Int)==1)=false:=by rw[Yc];omega
     have Hn:=@Yh (false=r) (by rw[<-HR.o];symm;exact(by have hq:=HQ.o;rw[made3 HK.o cs HW.o,Ya (by omega)]));go_wp2_with fail;go_ret;exact⟨Z0 Hn.o,BW.o⟩
    have A2:((k:Int)==1)=true:=by rw[YK];omega
    have Hn:=@Yh (true=r) (by rw[<-HR.o];symm;exact(by have hq:=HQ.o;rw[made3 HK.o cs HW.o,Yb (by omega)]));go_wp2_with fail;go_ret;exact⟨Z0 Hn.o,BW.o⟩
   by_cases c4:a=4
   ·subst c4
    clear c8 e8 c6 c7 e6 e7
    by_cases cn:n=0
    case neg =>
     have A1:(n==0)=false:=by rw[Yc];exact cn
     have Hn:=@Yh (false=r) (by rw[<-HR.o];symm;exact(by have hq:=HQ.o;rw[made4 HK.o cs HW.o,Ya (by omega)]));go_wp2_with fail;go_ret;exact⟨Z0 Hn.o,BW.o⟩
    have A1:(n==0)=true:=by rw[YK];exact cn
    by_cases cq:k=2
    case neg =>
     have A2:((k:Int)==2)=false:=by rw[Yc];omega
     have Hn:=@Yh (false=r) (by rw[<-HR.o];symm;exact(by have hq:=HQ.o;rw[made4 HK.o cs HW.o,Ya (by omega)]));go_wp2_with fail;go_ret;exact⟨Z0 Hn.o,BW.o⟩
    have A2:((k:Int)==2)=true:=by rw[YK];omega
    have Hn:=@Yh (true=r) (by rw[<-HR.o];symm;exact(by have hq:=HQ.o;rw[made4 HK.o cs HW.o,Yb (by omega)]));go_wp2_with fail;go_ret;exact⟨Z0 Hn.o,BW.o⟩
   by_cases c5:a=5
   ·subst c5
    clear c8 e8 c6 c7 e6 e7
    by_cases cn:n=0
    ·have A1:(n==0)=true:=by rw[YK];exact cn
     have Hn:=@Yh (true=r) (by rw[<-HR.o];symm;exact(by have hq:=HQ.o;rw[made5 HK.o cs HW.o,Yb (by omega)]));go_wp2_with fail;go_ret;exact⟨Z0 Hn.o,BW.o⟩
    have A1:(n==0)=false:=by rw[Yc];exact cn
    by_cases cm:n=1
    case neg =>
     have A7:(n==1)=false:=by rw[Yc];exact cm
     have Hn:=@Yh (false=r) (by rw[<-HR.o];symm;exact(by have hq:=HQ.o;rw[made5 HK.o cs HW.o,Ya (by omega)]));go_wp2_with fail;go_ret;exact⟨Z0 Hn.o,BW.o⟩
    have A7:(n==1)=true:=by rw[YK];exact cm
    by_cases cq:0<k
    case neg =>
     have Hn:=@Yh (false=r) (by rw[<-HR.o];symm;exact(by have hq:=HQ.o;rw[made5 HK.o cs HW.o,Ya (by omega)]));go_wp2_with fail;go_ret;exact⟨Z0 Hn.o,BW.o⟩
    have Hn:=@Yh (true=r) (by rw[<-HR.o];symm;exact(by have hq:=HQ.o;rw[made5 HK.o cs HW.o,Yb (by omega)]));go_wp2_with fail;go_ret;exact⟨Z0 Hn.o,BW.o⟩
   by_cases c9:a=9
   ·subst c9
    clear c8 e8 c6 c7 e6 e7
    by_cases cg:0<=n
    case neg =>
     have Hn:=@Yh (false=r) (by rw[<-HR.o];symm;exact(by have hq:=HQ.o;rw[made9 HK.o cs HW.o,Ya (by omega)]));go_wp2_with fail;go_ret;exact⟨Z0 Hn.o,BW.o⟩
    by_cases ch:n<16
    case neg =>
     have Hn:=@Yh (false=r) (by rw[<-HR.o];symm;exact(by have hq:=HQ.o;rw[made9 HK.o cs HW.o,Ya (by omega)]));go_wp2_with fail;go_ret;exact⟨Z0 Hn.o,BW.o⟩
    by_cases cq:k=0
    case neg =>
     have A2:((k:Int)==0)=false:=by rw[Yc];omega
     have Hn:=@Yh (false=r) (by rw[<-HR.o];symm;exact(by have hq:=HQ.o;rw[made9 HK.o cs HW.o,Ya (by omega)]));go_wp2_with fail;go_ret;exact⟨Z0 Hn.o,BW.o⟩
    have A2:((k:Int)==0)=true:=by rw[YK];omega
    have Hn:=@Yh (true=r) (by rw[<-HR.o];symm;exact(by have hq:=HQ.o;rw[made9 HK.o cs HW.o,Yb (by omega)]));go_wp2_with fail;go_ret;exact⟨Z0 Hn.o,BW.o⟩
   have e1:(a==1)=false:=by rw[Yc];exact c1'
   have e2:(a==2)=false:=by rw[Yc];exact c2
   have e3:(a==3)=false:=by rw[Yc];exact c3
   have e4:(a==4)=false:=by rw[Yc];exact c4
   have e5:(a==5)=false:=by rw[Yc];exact c5
   have e9:(a==9)=false:=by rw[Yc];exact c9
   have f6:(a==6)=false:=by rw[Yc];exact c6
   have f7:(a==7)=false:=by rw[Yc];exact c7
   have f8:(a==8)=false:=by rw[Yc];exact c8
   have Hn:=@Yh (false=r) (by rw[<-HR.o];symm;exact(Zb5 c1' c2 c3 c4 c5 c6 c7 c8 c9));go_wp2_with fail;go_ret;exact⟨Z0 Hn.o,BW.o⟩
theorem info_parts{t:TypeId}{z:Value}{s b:Nat}(h:(Tryz.prog.info? t).map (fun i=>(i.zero,i.size,i.bytes))=some (some z,s,b)):∃i,Tryz.prog.info? t=some i/\i.zero=some z/\i.size=s/\i.bytes=b:=by
 obtain⟨i,hi,hz⟩:=Option.map_eq_some_iff.1 h;simp only[Prod.mk.injEq]at hz;exact⟨i,hi,hz.1,hz.2.1,hz.2.2⟩
theorem ZD1:(Tryz.prog.info? 50).map (fun i=>(i.zero,i.size,i.bytes))=some (some (.agg #[.int .i64 0,.string ⟨#[]⟩,.int .i64 0,.slice none 0 0,.slice none 0 0]),5,80):=by kernel_rfl
structure Tz where
 t:Ty
 wo:Option Addr
 wc:Nat
 ko:Option Addr
 kc:Nat
def tzC1(z:Tz):List Value:=[.int .i64 z.t.kind,.string z.t.name,.int .i64 z.t.n,.slice z.wo z.t.words.length z.wc,.slice z.ko z.t.kids.length z.kc]
def tzC(l:List Tz):List Value:=l.flatMap tzC1
theorem ZK3:∀l:List Tz,(tzC l).length=l.length*5
 | []=>rfl
 | t::r=>by
  have ih:=ZK3 r;unfold tzC at *;rw[List.flatMap_cons,Ye,ih,List.length_cons]
  show 5+_=_
  omega
theorem Za9(l:List Tz)(t:Tz):tzC (l++[t])=tzC l++tzC1 t:=by unfold tzC;simp
theorem ZW5(l r:List Tz):tzC (l++r)=tzC l++tzC r:=by unfold tzC;simp
theorem Zq7:∀(l:List Tz) (k:Nat) (h:k<l.length),(tzC l)[k*5]? = some (.int .i64 l[k].t.kind)/\(tzC l)[k*5+1]? = some (.string l[k].t.name)/\(tzC l)[k*5+2]? = some (.int .i64 l[k].t.n) /\
  (tzC l)[k*5+3]? = some (.slice l[k].wo l[k].t.words.length l[k].wc)/\(tzC l)[k*5+4]? = some (.slice l[k].ko l[k].t.kids.length l[k].kc)
 | [],k,h=>absurd h (Yr _)
 | t::r,0,h=>⟨rfl,rfl,rfl,rfl,rfl⟩
 | t::r,k+1,h=>by
  have ih:=Zq7 r k (Nat.lt_of_succ_lt_succ h)
  have e:∀j,(tzC (t::r))[(k+1)*5+j]? = (tzC r)[k*5+j]?:=fun j=>by
   unfold tzC;rw[List.flatMap_cons,List.getElem?_append_right (by show 5<=_;omega)];exact congrArg (fun n=>(r.flatMap tzC1)[n]?) (show(k+1)*5+j-5=k*5+j by omega)
  exact⟨(e 0).trans ih.1,(e 1).trans ih.2.1,(e 2).trans ih.2.2.1,(e 3).trans ih.2.2.2.1,(e 4).trans ih.2.2.2.2⟩
def OwnZ(w:World)(base:Nat)(v:Value)(l:List Tz):Prop:=w.ownsRow base 50 5 v l.length (tzC l)
def InZ(w:World)(z:Tz):Prop:=z.t.words.length<=z.wc/\z.t.kids.length<=z.kc/\TyC w z.wo z.ko z.t
theorem InZ.below{w w':World}{z:Tz}(h:InZ w z)(hb:Below w.heap.size w w'):InZ w' z:=⟨h.1,h.2.1,h.2.2.below hb⟩
theorem ZCd(w:World)(base:Nat):OwnZ w base (.slice none 0 0) []:=World.ownsRow_nil _ _ _ _
theorem Zp2{w:World}{base:Nat}{v:Value}{l:List Tz}(h:OwnZ w base v l)(hz:∀z∈l,InZ w z):∃ao cap,v=.slice ao (l.map (·.t)).length cap/\ARow w ao (l.map (·.t))/\(l.map (·.t)).length<=cap:=by
 obtain⟨h1,h2⟩:=h
 rcases h2 with⟨rfl,h0⟩|⟨g,cap,cur,rfl,hg,hcur,hcap1,hcap2,hcs,htk⟩
 ·exact⟨none,0,by rw[Yg,h0],.inl (by rw[List.map_eq_nil_iff];exact Yp h0),by rw[Yg,h0];exact Yk _⟩
 ·refine⟨_,_,by rw[Yg],.inr ⟨g,0,rfl,(Yy.1 hcur).1,fun k hk=>?_⟩,by rw[Yg];exact hcap1⟩
  rw[Yg]at hk;obtain⟨c0,c1,c2,c3,c4⟩:=Zq7 l k hk
  have e:∀j,j<l.length*5->w.cell? ⟨g,j,none⟩=(tzC l)[j]?:=fun j hj=>by
   simp only[World.cell?,hcur,Option.isSome_none,Bool.false_eq_true,if_false];rw[<-htk,List.getElem?_take_of_lt hj];simp
  obtain⟨i1,i2,i3⟩:=hz _ (Yq hk);rw[List.getElem_map,Nat.zero_add];exact⟨l[k].wo,l[k].wc,l[k].ko,l[k].kc,(e _ (by omega)).trans c0,(e _ (by omega)).trans c1,(e _ (by omega)).trans c2,(e _ (by omega)).trans c3,(e _ (by omega)).trans c4,i1,i2,i3⟩
theorem OwnZ.lower{w:World}{a b:Nat}{v:Value}{l:List Tz}(h:OwnZ w b v l)(hb:a<=b):OwnZ w a v l:=by
 obtain⟨h1,h2⟩:=h;refine⟨h1,?_⟩
 rcases h2 with h2|⟨g,cap,cur,hv,hg,rest⟩
 ·exact .inl h2
 ·exact .inr ⟨g,cap,cur,hv,Yj hb hg,rest⟩
theorem OwnZ.kept{w w':World}{base:Nat}{v:Value}{l:List Tz}(h:OwnZ w base v l)(hb:Below w.heap.size w w'):OwnZ w' base v l:=by
 obtain⟨h1,h2⟩:=h;refine⟨h1,?_⟩
 rcases h2 with h2|⟨g,cap,cur,hv,hg,hcur,rest⟩
 ·exact .inl h2
 ·exact .inr ⟨g,cap,cur,hv,hg,by rw[hb.block _ (Yy.1 hcur).1];exact hcur,rest⟩
theorem Z2c{w':World}{base:Nat}{v':Value}{l:List Tz}{t:Tz}{n:Nat}(hn:n=l.length+1)(h:w'.ownsRow base 50 5 v' n (tzC l++tzC1 t)):OwnZ w' base v' (l++[t]):=by
 subst hn;unfold OwnZ;rw[Za9,Ye];exact h
theorem Zh0{w:World}{base:Nat}{v:Value}{l:List Tz}(h:OwnZ w base v l){b:Nat}(hb:b<base\/w.heap.size<=b):v.ownBlock≠some b:=fun he=>by
 have:=World.ownsRow.lt h b he
 omega
theorem Zj1{W wr w1:World}{base:Nat}{v v':Value}{l r:List Tz}{o:Obj}{n:Nat}(hn:n=l.length+r.length)(hW:W.heap.size<=base)(ho:OwnZ wr base v l)(hB:Below W.heap.size W wr)
  (h1:w1.ownsRow base 50 5 v' n (tzC l++tzC r)) (hg:(wr.alloc o).grownBy w1 v.ownBlock) :
  OwnZ w1 base v' (l++r)/\Below W.heap.size W w1/\∀b,b<wr.heap.size->v.ownBlock≠some b->w1.heap[b]? = wr.heap[b]?:=by
 have ba:Below wr.heap.size wr (wr.alloc o):=(Y8 _ _).alloc (Yk _) _;have A0:=hB.trans (ba.mono hB.size);refine⟨?_,A0.grown hg (by have:=A0.size;omega) (fun k hk=>?_),fun b hb hne=>?_⟩
 ·subst hn
  unfold OwnZ;rw[ZW5,Ye];exact h1
 ·have:=World.ownsRow.lt ho k hk
  omega
 ·rw[hg.block b (by simp;omega) (fun e=>hne e.symm)]
  exact ba.block b hb
def nameCells:Array Value:=#[.string ⟨#[98,111,111,108]⟩,.string ⟨#[115,116,114,105,110,103]⟩,.string ⟨#[105,110,116]⟩,.string ⟨#[105,110,116,56]⟩,.string ⟨#[105,110,116,49,54]⟩,.string ⟨#[105,110,116,51,50]⟩,.string ⟨#[105,110,116,54,52]⟩,.string ⟨#[117,105,110,116]⟩,.string ⟨#[117,105,110,116,56]⟩,.string ⟨#[117,105,110,116,49,54]⟩,.string ⟨#[117,105,110,116,51,50]⟩,.string ⟨#[117,105,110,116,54,52]⟩,.string ⟨#[102,108,111,97,116,51,50]⟩,.string ⟨#[102,108,111,97,116,54,52]⟩,.string ⟨#[117,110,116,121,112,101,100,32,98,111,111,108]⟩,.string ⟨#[117,110,116,121,112,101,100,32,115,116,114,105,110,103]⟩,.string ⟨#[117,110,116,121,112,101,100,32,105,110,116]⟩,.string ⟨#[117,110,116,121,112,101,100,32,114,117,110,101]⟩,.string ⟨#[117,110,116,121,112,101,100,32,102,108,111,97,116]⟩,.string ⟨#[117,110,116,121,112,101,100,32,110,105,108]⟩]
theorem Ze8:nameCells=(basicNames.map Value.string).toArray:=rfl
theorem Zn3{i:Nat}(h:i<20):nameCells[i]? = some (.string (basicNames.getD i ⟨#[]⟩)):=by
 rw[Ze8];have hl:basicNames.length=20:=rfl;rw[List.getElem?_toArray,List.getElem?_map,List.getD_eq_getElem?_getD,Yv (by omega)]
 rfl
set_option maxRecDepth 100000 in
theorem ZM6(w:World) :
  Calls Tryz.prog 50 #[] w fun e w'=>e=.returned (.slice (some ⟨w.heap.size,0,none⟩) 20 20)/\w'=w.alloc (.cells nameCells 9):=by
 unfold nameCells;go_enter Tryz.func50,Tryz.ntmps50;go_wp2_with fail;go_ret;exact⟨rfl,rfl⟩
theorem ZO1(z:Tz):∀u∈tzC1 z,u.oneCell'=true:=by
 intro u hu;simp only[tzC1,List.mem_cons,List.not_mem_nil,or_false]at hu
 rcases hu with rfl|rfl|rfl|rfl|rfl<;>rfl
theorem ZN3(l:List Tz):∀u∈tzC l,u.oneCell'=true:=by
 intro u hu;obtain⟨z,hz,h⟩:=List.mem_flatMap.1 hu;exact ZO1 z u h
def bz(s:ByteArray):Tz:=⟨⟨0,s,0,[],[]⟩,none,0,none,0⟩
def iz(n:Int):Tz:=⟨⟨7,⟨#[]⟩,n,[],[]⟩,none,0,none,0⟩
theorem Z2e(w:World)(s:ByteArray)(h:s.size<=50):InZ w (bz s):=
 ⟨Yk _,Yk _,⟨.inl rfl,.inl rfl,⟨h,by simp[bz],by simp[bz],by simp[bz],by simp[bz],by simp[bz]⟩⟩⟩
theorem Z9d(w:World)(n:Int)(h:n=0\/n=1):InZ w (iz n):=
 ⟨Yk _,Yk _,⟨.inl rfl,.inl rfl,⟨by simp[iz];decide,by simp[iz],by simp[iz],by simp[iz],by simp[iz];omega,by simp[iz]⟩⟩⟩
def startZ:List Tz:=basicNames.map bz++[iz 0,iz 1]
theorem Z63(w:World):∀z∈startZ,InZ w z:=by
 intro z hz;unfold startZ at hz;rw[Yz]at hz
 rcases hz with hz|hz
 ·obtain⟨s,hs,rfl⟩:=Y4.1 hz
  refine Z2e w s ?_;have:∀s∈basicNames,s.size<=50:=by decide
  exact this s hs
 ·simp at hz
  rcases hz with rfl|rfl
  ·exact Z9d w 0 (.inl rfl)
  ·exact Z9d w 1 (.inr rfl)
theorem Z9(w:World)(xs:List Value)(t:TypeId):∀(j:Nat) (u:Value),xs[j]? = some u->(w.alloc (.cells xs.toArray t)).cell? ((⟨w.heap.size,0,none⟩:Addr).add j)=some u:=by
 intro j u hu;have A0:(⟨w.heap.size,0,none⟩:Addr).add j=⟨w.heap.size,j,none⟩:=by unfold Addr.add;split<;>simp_all
 rw[A0,World.cell?_alloc_at _ _ _ _ rfl]
 simpa using hu
set_option maxRecDepth 100000 in
theorem Z1b(w:World) :
  Calls Tryz.prog 23 #[] w fun e w'=>(∃ao cap,e=.returned (.slice ao 22 cap)/\ARow w' ao basics/\22<=cap)/\Below w.heap.size w w':=by
 obtain⟨i0,hi,hz0,hz1,hz2⟩:=info_parts ZD1;have A5:=fun W=>Yh (ZM6 W)
 go_enter Tryz.func23,Tryz.ntmps23;go_wp2_with fail;have O0:=@Yh (OwnZ (w.alloc (.cells #[] 50)) w.heap.size (.slice (some ⟨w.heap.size,0,none⟩) 0 0) []) (World.ownsRow_made w #[] 0 (Yk _) (by unfold maxLen;omega) rfl);obtain⟨w1,h1⟩:=Yn (w.alloc (.cells #[] 50));rw[h1]at O0 ⊢;have B1:=@Yh (Below w.heap.size w w1) (by rw[<-h1];exact(Y8 _ _).alloc (Yk _) _);have S1:=@Yh (w1.heap.size=w.heap.size+1) (by rw[<-h1];simp);clear h1;refine(A5 _).o.mono ?_;rintro e w' ⟨rfl,rfl⟩;obtain⟨w2,h2⟩:=Yn (w1.alloc (.cells nameCells 9));rw[h2];obtain⟨k2,q2,z2⟩:=Za h2;have O1:=Yh (O0.o.kept q2);have K2:=Yh k2;have B2:=YT B1 q2;clear h2 k2 q2 z2 A5;go_wp2_with fail;go_loopw [1,7] (fun vo i wr=>∃k:Nat,k<=20/\i=.int .i64 k/\Hi (OwnZ wr w.heap.size vo ((basicNames.take k).map bz))/\Hi (BlockAt wr w1.heap.size nameCells 9/\vo.ownBlock≠some w1.heap.size)/\Hi (Below w.heap.size w wr)) (fun _ i _=>20-(intOf i).toNat)
 case atStart=>exact⟨0,Yl _,rfl,O1,Yh ⟨K2.o,by intro h;have h2:some w.heap.size=some w1.heap.size:=h;rw[Option.some_inj]at h2;have:=S1.o;omega⟩,B2⟩
 case round =>
  obtain⟨k,hk,rfl,Hown,HK,HB⟩:=hrel
  by_cases hkl:k<20
  ·have ck:=HK.o.1.cell k
   rw[Zn3 hkl]at ck;obtain⟨s,hs⟩:=Yn (basicNames.getD k ⟨#[]⟩);rw[hs]at ck;have HS:=Yh hs;have BZ:=Yh HB.o.size;clear hs;have A2:((basicNames.take k).map bz).length=k:=by rw[Yg,Y5];have:basicNames.length=20:=rfl;omega
   have A1:=Yh A2;obtain⟨xs,hxs⟩:=Yn ((basicNames.take k).map bz);have A6:=Yh hxs;rw[hxs]at Hown A1;clear hxs A2;have A0:=Hown.o;unfold OwnZ at A0;rw[A1.o]at A0;have HO:=Yh A0;clear A0;go_wp2_with (at_builtin;refine wpList_append_own_at _ rfl _ _ 22 rfl w.heap.size 50 i0 (.agg #[.int .i64 0,.string ⟨#[]⟩,.int .i64 0,.slice none 0 0,.slice none 0 0]) 5 80 Tryz.underlying22 hi hz0 hz1 hz2 rfl (by decide) _ k (tzC xs) rfl (HO.o.alloc _) ⟨wr.heap.size,0,none⟩ 1 1 (tzC1 (bz s)) rfl ?c1 ?c2 ?c3 ?c4 ?c5 ?c6 ?_)
   case c1=>rfl
   case c2=>exact Z9 _ _ _
   case c3 =>
    exact ZO1 _
   case c4=>unfold maxLen;omega
   case c5=>omega
   case c6=>have:=BZ.o;simp;omega
   intro v' w3 hown3 hgrow _ hblk;have hp:=Zj1 (r:=[bz s]) (by rw[A1.o];rfl) (Yk _) Hown.o HB.o hown3 hgrow
   have A7:=Yh (show OwnZ w3 w.heap.size v' ((basicNames.take (k+1)).map bz)by
    have e:(basicNames.take (k+1)).map bz=xs++[bz s]:=by
     rw[List.take_add_one,Yu,A6.o];have hl:basicNames.length=20:=rfl;have:=HS.o;rw[List.getD_eq_getElem?_getD,Yv (by omega)]at this;rw[Yv (by omega)];simp at this;simp[this]
    rw[e];exact hp.1)
   have A8:=Yh (show BlockAt w3 w1.heap.size nameCells 9/\v'.ownBlock≠some w1.heap.size from⟨by
    unfold BlockAt;rw[hp.2.2 _ HK.o.1.lt HK.o.2];exact HK.o.1,fun h=>by
    rcases hblk with h3|h3
    ·exact HK.o.2 (h3.symm.trans h)
    ·rw[h3,Option.some_inj]at h
     have:=HK.o.1.lt
     try simp at h
     omega⟩)
   have A4:=Yh hp.2.1;clear hown3 hgrow hblk hp;go_wp2_with fail;go_roundw
   case rel=>exact⟨k+1,by omega,by go_num,A7,A8,A4⟩
   case measure=>first|(simp[intOf];done)|(simp[intOf];omega)
  ·obtain rfl:k=20:=by omega
   have BZ:=Yh HB.o.size;have A3:=@Yh (OwnZ wr w.heap.size _ (basicNames.map bz)) (Hown.o);have HO:=@Yh (wr.ownsRow w.heap.size 50 5 _ 20 (tzC (basicNames.map bz))) (Hown.o);go_wp2_with (at_builtin;refine wpList_append_own_at _ rfl _ _ 22 rfl w.heap.size 50 i0 (.agg #[.int .i64 0,.string ⟨#[]⟩,.int .i64 0,.slice none 0 0,.slice none 0 0]) 5 80 Tryz.underlying22 hi hz0 hz1 hz2 rfl (by decide) _ 20 (tzC (basicNames.map bz)) rfl (HO.o.alloc _) ⟨wr.heap.size,0,none⟩ 2 2 (tzC [iz 0,iz 1]) rfl ?c1 ?c2 ?c3 ?c4 ?c5 ?c6 ?_)
   case c1=>rfl
   case c2=>exact Z9 _ _ _
   case c3 =>
    exact ZN3 _
   case c4=>unfold maxLen;omega
   case c5=>omega
   case c6=>have:=BZ.o;simp;omega
   intro v' w3 hown3 hgrow _ hblk;have hp:=Zj1 (r:=[iz 0,iz 1]) rfl (Yk _) A3.o HB.o hown3 hgrow;have A4:=Yh hp.2.1;obtain⟨ao,cap,rfl,ha,hcap⟩:=Zp2 (show OwnZ w3 w.heap.size v' startZ from hp.1) (Z63 _);have HA:=Yh (YH ha hcap);clear hown3 hgrow hblk hp ha hcap;go_wp2_with fail;go_ret;exact⟨⟨ao,cap,rfl,HA.o.1,HA.o.2⟩,A4.o⟩
theorem ZE0{l:List Ty}(h:¬(22<=l.length/\l.length<=400)):rightT l=false:=by
 unfold rightT;rw[Ya h];rfl
theorem Zm0{l:List Ty}{k:Nat}(hk:k<l.length)(h:stepB l k l[k]=false):rightT l=false:=by
 unfold rightT;rw[Bool.and_eq_false_iff]
 right
 rw[Bool.eq_false_iff];intro ha;rw[List.all_eq_true]at ha;have:=ha k (List.mem_range.2 hk);rw[Yv hk]at this;simp only at this;rw[h]at this
 cases this
theorem ZT2{l:List Ty}(h0:22<=l.length/\l.length<=400)(h:∀k (hk:k<l.length),stepB l k l[k]=true):rightT l=true:=by
 unfold rightT;rw[Yb h0,Bool.true_and,List.all_eq_true];intro k hk;have hk:=List.mem_range.1 hk;rw[Yv hk];exact h k hk
theorem Z28{l:List Ty}{k:Nat}{t:Ty}(h:k<22):stepB l k t=decide (t=basics[k]'(by rw[ZH];exact h)):=by
 unfold stepB;rw[if_pos h,Yv (by rw[ZH];exact h)];simp
theorem ZE6{l:List Ty}{k:Nat}{t:Ty}(h:¬k<22)(hm:madeB (l.take k) t=false):stepB l k t=false:=by
 unfold stepB;rw[if_neg h,hm];rfl
theorem ZM5{l:List Ty}{k:Nat}{t:Ty}(h:¬k<22)(hm:0<=atT (l.take k) t):stepB l k t=false:=by
 unfold stepB;rw[if_neg h,Bool.and_eq_false_iff]
 right
 rw[Y1];intro g;have:=atT_neg.2 g
 omega
theorem Zi8{l:List Ty}{k:Nat}{t:Ty}(h:¬k<22)(hm:madeB (l.take k) t=true)(ha:atT (l.take k) t<0):stepB l k t=true:=by
 unfold stepB;rw[if_neg h,hm,Yb (atT_neg.1 ha)];rfl
theorem ZY{W w':World}{p0 p1 p2 p3 p4:Prop}(h:p0/\p1/\p2/\p3/\p4/\Below W.heap.size W w'):Below W.heap.size W w':=h.2.2.2.2.2
theorem ZC0{W w1 w2:World}{b:Nat}{v0 v1 v2 v3 v4:Value}(hb:b<W.heap.size)
  (h:w1.cell? ⟨b,0,none⟩=some v0/\w1.cell? ⟨b,1,none⟩=some v1/\w1.cell? ⟨b,2,none⟩=some v2/\w1.cell? ⟨b,3,none⟩=some v3/\w1.cell? ⟨b,4,none⟩=some v4/\Below W.heap.size W w1) (hq:Below w1.heap.size w1 w2) :
  w2.cell? ⟨b,0,none⟩=some v0/\w2.cell? ⟨b,1,none⟩=some v1/\w2.cell? ⟨b,2,none⟩=some v2/\w2.cell? ⟨b,3,none⟩=some v3/\w2.cell? ⟨b,4,none⟩=some v4/\Below W.heap.size W w2:=by
 obtain⟨h0,h1,h2,h3,h4,h5⟩:=h;have A0:b<w1.heap.size:=Yi hb h5.size;exact⟨(hq.cell A0).trans h0,(hq.cell A0).trans h1,(hq.cell A0).trans h2,(hq.cell A0).trans h3,(hq.cell A0).trans h4,h5.trans (hq.mono h5.size)⟩
set_option maxRecDepth 100000 in
theorem Zz7(l:List Ty)(ao:Option Addr)(ac:Nat)(w:World)(hl:ARow w ao l)(ll:l.length<=1000)(hac:l.length<=ac) :
  Calls Tryz.prog 24 #[.slice ao l.length ac] w fun e w'=>e=.returned (.bool (rightT l))/\Below w.heap.size w w':=by
 obtain⟨r,hr⟩:=Yn (rightT l);rw[hr];have HR:=Yh hr;clear hr;obtain⟨n,hn⟩:=Yn (l.length);have HN:=Yh hn;have HA:=Yh hl;rw[hn]at ll hac ⊢;clear hn hl;have Ac:=Yh (Z1b w);go_enter Tryz.func24,Tryz.ntmps24;go_wp2_with fail;refine Ac.o.mono ?_;rintro e w1 ⟨⟨fo,fc,rfl,hf,hfc⟩,b1⟩;have BW:=Yh b1;have HF:=Yh hf;clear hf hfc b1
 by_cases c1:n<22
 ·have Hn:=@Yh (false=r) (by rw[<-HR.o];exact(ZE0 (by rw[HN.o];omega)).symm)
  go_wp2_with fail;go_ret;exact⟨Z0 Hn.o,BW.o⟩
 by_cases c2:400<n
 ·have Hn:=@Yh (false=r) (by rw[<-HR.o];exact(ZE0 (by rw[HN.o];omega)).symm)
  go_wp2_with fail;go_ret;exact⟨Z0 Hn.o,BW.o⟩
 obtain⟨fb,fof,rfl,hfb,hfcl⟩:=HF.o.cells (by rw[ZH];decide);have FC:=Yh (YH hfb hfcl);clear hfb hfcl;go_wp2_with fail;go_loopw [19] (fun i wr=>∃k:Nat,k<=n/\i=.int .i64 k/\Hi (∀j (hj:j<l.length),j<k->stepB l j l[j]=true)/\Hi (Below w1.heap.size w1 wr)) (fun i _=>n-(intOf i).toNat)
 case atStart=>exact⟨0,Yl _,rfl,Yh (fun j _ hj=>absurd hj (Yr _)),Yh (Y8 _ _)⟩
 case round =>
  obtain⟨k,hk,rfl,Hall,HB⟩:=hrel;have BB:=YT BW HB.o
  by_cases hkl:k<n
  ·have A2:k<l.length:=by rw[HN.o];exact hkl
   obtain⟨ab,aof,rfl,hab,hcl⟩:=(HA.o.below BB.o).cells (by omega);have A6:=hcl k A2;obtain⟨x,hx⟩:=Yn (l[k]);rw[hx]at A6;have HX:=Yh hx;obtain⟨xw,xwc,xk,xkc,a0,a1,a2,a3,a4,hcap,-,hxc⟩:=A6;clear hx hcl hab;obtain⟨wn,hwn,k2,q2,z2⟩:=YA wr #[.int .i64 x.kind,.string x.name,.int .i64 x.n,.slice xw x.words.length xwc,.slice xk x.kids.length xkc] 50;obtain⟨c0,c1,c2,c3,c4⟩:=cell5 k2;have BN:=YT HB q2;have A3:=Yh (YH hcap (hxc.below q2));have ZL:=@Yh (wr.heap.size<wn.heap.size) (by omega);have KN:=Yh k2;clear k2 q2 z2 hxc hcap
   by_cases hk22:k<22
   ·obtain⟨yw,ywc,yk,ykc,b0,b1,b2,b3,b4,-,-,hyc⟩:=(FC.o.2 k (by rw[ZH];exact hk22)).below FC.o.1 BN.o
    obtain⟨y,hy⟩:=Yn (basics[k]'(by rw[ZH];exact hk22));rw[hy]at b0 b1 b2 b3 b4 hyc;have HL:=Yh (Zh4 x y xw xk yw yk xwc xkc ywc ykc wn.drew (A3.o.2.below (Y8 _ _).drew) (hyc.below (Y8 _ _).drew));unfold tyV at HL;have HE:=@Yh (stepB l k l[k]=decide (x=y)) (by rw[Z28 hk22,HX.o,hy]);clear hy hyc;go_wp2_with fail;go_still_tail 5,(by kernel_rfl);clear hwn a0 a1 a2 a3 a4 b0 b1 b2 b3 b4 c0 c1 c2 c3 c4
    change wpList _ _ _ _ _ wn.drew
    have BD:=@Yh (Below w1.heap.size w1 wn.drew) (BN.o.drew)
    generalize wn.drew=w3 at *
    by_cases he:x=y
    ·rw[Yb he]at HL HE
     have Hx:=Yh (show ∀j (hj:j<l.length),j<k+1->stepB l j l[j]=true from fun j h1 hj=>by
      rcases Ym (Ys hj)with h3|h3
      ·exact Hall.o j h1 h3
      ·subst h3;exact HE.o)
     clear he;go_wp2_with fail;refine HL.o.mono ?_;rintro e w' ⟨rfl,b⟩;have B2:=YT BD b;clear b;go_wp2_with fail;go_roundw
     case rel=>exact⟨k+1,by omega,by go_num,Hx,B2⟩
     case measure=>first|(simp[intOf];done)|(simp[intOf];omega)
    ·rw[Ya he]at HL HE
     have Hn:=@Yh (false=r) (by rw[<-HR.o];exact(Zm0 A2 HE.o).symm);clear he;go_wp2_with fail;refine HL.o.mono ?_;rintro e w' ⟨rfl,b⟩;have B2:=YT BD b;clear b;go_wp2_with fail;go_ret;exact⟨Z0 Hn.o,YU BW B2.o⟩
   ·have A7:(l.take k).length=k:=by rw[Y5];omega
    have A0:=fun W (h:Below wn.heap.size wn W)=>Zc8 (l.take k) (some ⟨ab,aof,none⟩) ac x xw xk xwc xkc W (((HA.o.below BW.o).below BN.o |>.below h).take k) (A3.o.2.below h) (by omega) A3.o.1
    have A1:=fun W (h:Below wn.heap.size wn W)=>Zta (l.take k) (some ⟨ab,aof,none⟩) ac x xw xk xwc xkc W (((HA.o.below BW.o).below BN.o |>.below h).take k) (A3.o.2.below h) (by omega)
    unfold tyV at A0 A1;rw[A7]at A0 A1;obtain⟨mb,hmb⟩:=Yn (madeB (l.take k) x);obtain⟨at0,hat0⟩:=Yn (atT (l.take k) x);rw[hmb]at A0;rw[hat0]at A1;have A8:=Yh hmb;have A9:=Yh hat0;have Aa:=Yh A0;have Ad:=Yh A1;have Af:k<=ac:=by omega
    clear A0 A1 hmb hat0 A7
    cases mb
    ·have Hn:=@Yh (false=r) (by rw[<-HR.o];exact(Zm0 A2 (by rw[HX.o];exact ZE6 hk22 A8.o)).symm)
     go_wp2_with fail;clear hwn a0 a1 a2 a3 a4;have A5:Below wn.heap.size wn wn.drew:=(Y8 _ _).drew;refine GoG.start [(4,⟨wr.heap.size,0,none⟩,.int .i64 x.kind),(4,⟨wr.heap.size,1,none⟩,.string x.name),(4,⟨wr.heap.size,2,none⟩,.int .i64 x.n),(4,⟨wr.heap.size,3,none⟩,.slice xw x.words.length xwc),(4,⟨wr.heap.size,4,none⟩,.slice xk x.kids.length xkc)] (by kernel_rfl) ?_ ?_
     ·exact Kc (by first|exact c0|assumption|simp[*]) (Kc (by first|exact c1|assumption|simp[*]) (Kc (by first|exact c2|assumption|simp[*]) (Kc (by first|exact c3|assumption|simp[*]) (Kc (by first|exact c4|assumption|simp[*]) (Kn)))))
     refine GoG.fr 0 ?_;refine GoG.fr 1 ?_;refine GoG.fr 2 ?_;refine GoG.take (i:=3) (v:=?_) [4] rfl (by kernel_rfl) (by kernel_rfl) (by kernel_rfl) (by kernel_rfl) (by kernel_rfl) (by kernel_rfl) (fun _ _ _ h=>h) (.inl ⟨by rfl,fun w hS=>?_⟩) ?_;rotate_left
     ·have g0:w.cell? ⟨wr.heap.size,0,none⟩=some (.int .i64 x.kind):=hS (4,⟨wr.heap.size,0,none⟩,.int .i64 x.kind) (by simp) (by simp)
      have g1:w.cell? ⟨wr.heap.size,1,none⟩=some (.string x.name):=hS (4,⟨wr.heap.size,1,none⟩,.string x.name) (by simp) (by simp);have g2:w.cell? ⟨wr.heap.size,2,none⟩=some (.int .i64 x.n):=hS (4,⟨wr.heap.size,2,none⟩,.int .i64 x.n) (by simp) (by simp);have g3:w.cell? ⟨wr.heap.size,3,none⟩=some (.slice xw x.words.length xwc):=hS (4,⟨wr.heap.size,3,none⟩,.slice xw x.words.length xwc) (by simp) (by simp);have g4:w.cell? ⟨wr.heap.size,4,none⟩=some (.slice xk x.kids.length xkc):=hS (4,⟨wr.heap.size,4,none⟩,.slice xk x.kids.length xkc) (by simp) (by simp);clear hS;go_simp;try (with_reducible rfl)
     try simp only[Act.put,YB,YC,YD,YE,YF,YG]
     refine GoG.on 4 fun K hK=>?_
     go_simp;refine(Aa.o _ A5).mono ?_;rintro e w' ⟨rfl,bq⟩;have A4:=A5.trans (bq.mono A5.size);refine hK.out _ _ (Ku (Ku (Ku (Ku (Ku (Kn)))))) ?_;clear hK K;refine GoG.fr 5 ?_;refine GoG.fr 6 ?_;refine GoG.uw 7 ?_;refine GoG.uw 8 ?_;refine GoG.uw 9 ?_;refine GoG.uw 10 ?_;refine GoG.uw 11 ?_;refine GoG.uw 12 ?_;refine GoG.fr 13 ?_;refine GoG.done (by kernel_rfl) ?_ _;have B2:=YT BN A4;clear A4 bq c0 c1 c2 c3 c4;go_wp2_with fail;go_ret;exact⟨Z0 Hn.o,YU BW B2.o⟩
    ·by_cases hneg:at0<0
     focus
      have Hx:=Yh (show ∀j (hj:j<l.length),j<k+1->stepB l j l[j]=true from fun j h1 hj=>by
       rcases Ym (Ys hj)with h3|h3
       ·exact Hall.o j h1 h3
       ·subst h3;rw[HX.o];exact Zi8 hk22 A8.o (by rw[A9.o];exact hneg))
      have Ae:¬(0<=at0):=by omega
     rotate_left
     focus
      have Hn:=@Yh (false=r) (by rw[<-HR.o];exact(Zm0 A2 (by rw[HX.o];exact ZM5 hk22 (by rw[A9.o];omega))).symm);have Ae:0<=at0:=by omega
     rotate_left
     all_goals
      go_wp2_with fail;clear hwn a0 a1 a2 a3 a4
      go_region_held3 (fun w'=>w'.cell? ⟨wr.heap.size,0,none⟩=some (.int .i64 x.kind)/\w'.cell? ⟨wr.heap.size,1,none⟩=some (.string x.name)/\w'.cell? ⟨wr.heap.size,2,none⟩=some (.int .i64 x.n)/\w'.cell? ⟨wr.heap.size,3,none⟩=some (.slice xw x.words.length xwc)/\w'.cell? ⟨wr.heap.size,4,none⟩=some (.slice xk x.kids.length xkc)/\Below wn.heap.size wn w')
       (first|exact⟨c0,c1,c2,c3,c4,(Y8 _ _).drew⟩|assumption)
       (first|(go_at_call 52;refine(Aa.o _ (ZY (by assumption))).mono ?_;rintro e w' ⟨rfl,bq⟩;have A4:=ZC0 ZL.o (by assumption) bq)|(go_at_call 53;refine(Ad.o _ (ZY (by assumption))).mono ?_;rintro e w' ⟨rfl,bq3⟩;have Ab:=ZC0 ZL.o (by assumption) bq3))
      have B2:=Yh (BN.o.trans ((ZY Ab).mono BN.o.size));clear A4 bq Ab bq3 c0 c1 c2 c3 c4;go_wp2_with fail
     ·go_roundw
      case rel=>exact⟨k+1,by omega,by go_num,Hx,B2⟩
      case measure=>first|(simp[intOf];done)|(simp[intOf];omega)
     ·go_ret
      exact⟨Z0 Hn.o,YU BW B2.o⟩
  ·obtain rfl:k=n:=by omega
   have Hn:=Yh (show true=r by
    rw[<-HR.o];exact(ZT2 (by rw[HN.o];omega) (fun j hj=>Hall.o j hj (by rw[<-HN.o];exact hj))).symm)
   go_wp2_with fail;go_ret;exact⟨Z0 Hn.o,BB.o⟩
end Go.Proofs.YtdcajkagakikiaaGreatDoor
