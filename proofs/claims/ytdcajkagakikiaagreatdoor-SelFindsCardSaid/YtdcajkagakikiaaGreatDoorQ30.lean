import Derived.Test.YtdcajkagakikiaaGreatDoorQ13
import Derived.Laws.StructEq
namespace Go.Proofs.YtdcajkagakikiaaGreatDoor
set_option maxHeartbeats 64000000
set_option linter.unusedSimpArgs false
set_option linter.unusedVariables false
open Go.RowKit
theorem underB_iff2{l:List Ty}{n:Nm}:underB l n=true↔fitB l n.under n.bounds.length=true/\isB l n.under 8=false/\isB l n.under 9=false/\¬(14<=n.under/\n.under<=19)/\(n.methods=[]\/(isB l n.under 7=false/\isB l n.under 1=false)):=by
 unfold underB;simp only[Yd,Bool.or_eq_true,Bool.not_eq_true',decide_eq_true_eq]
 constructor
 ·rintro⟨⟨⟨⟨h1,h2⟩,h3⟩,h4⟩,h5⟩;exact⟨h1,h2,h3,h4,h5⟩
 ·rintro⟨h1,h2,h3,h4,h5⟩;exact⟨⟨⟨⟨h1,h2⟩,h3⟩,h4⟩,h5⟩
set_option maxRecDepth 100000 in
theorem Z38(u:Un)(ao no:Option Addr)(ac nc:Nat)(n:Nm)(bo mo:Option Addr)(bc mc:Nat)(w:World)(hU:UnC w ao no ac nc u)(hr:rightT u.types=true)(hn:NmC w bo mo n)(hbc:n.bounds.length<=bc)(hmc:n.methods.length<=mc) :
  Calls Tryz.prog 25 #[unV u ao ac no nc,nmV n bo bc mo mc] w fun e w'=>e=.returned (.bool (oneU u.types n))/\Below w.heap.size w w':=by
 obtain⟨R,hR⟩:=Yn (oneU u.types n);rw[hR];have HR:=Yh hR;have HU:=Yh hU;have AU:=Yh hr;clear hR;unfold nmV;obtain⟨nb,hnb⟩:=Yn (n.bounds.length);obtain⟨nm,hnm⟩:=Yn (n.methods.length);obtain⟨s,hs⟩:=Yn (n.name);obtain⟨ud,hud⟩:=Yn (n.under);have A7:=Yh hnb;have Ab:=Yh hnm;have HS:=Yh hs;have A8:=Yh hud;have l1:=hn.ok.bl;have l2:=hn.ok.ml;have l3:=hn.ok.nl;rw[hnb]at l1 hbc ⊢;rw[hnm]at l2 hmc ⊢;rw[hs]at l3 ⊢;rw[hud];have HN:=Yh hn;obtain⟨w1,h1,k1,q1,z1⟩:=YA w #[.slice ao u.types.length ac,.slice no u.named.length nc] 25;obtain⟨w2,h2,k2,q2,z2⟩:=YA w1 #[.string s,.slice bo nb bc,.int .i64 ud,.slice mo nm mc] 53;have B2:=Yh (q1.trans (q2.mono q1.size));have K1:=Yh (k1.below q2);have K2:=Yh k2;obtain⟨c0,c1⟩:=cell2 K1.o;obtain⟨y0,y1,y2,y3⟩:=cell4 k2;have Ac:=fun(i k:Int) W (hb:Below w2.heap.size w2 W)=>Zib u ao no ac nc i k W ((hU.below B2.o).below hb)
 have Ad:=fun(i:Int) W (hb:Below w2.heap.size w2 W)=>Z27 u ao no ac nc i nb W ((hU.below B2.o).below hb) hr
 unfold unV at Ac Ad;unfold unV;have Ah:=Yh Ac;have As:=Yh Ad;have Ai:=Yh (fun W=>ZA8 s W (by omega));have A5:=@Yh ((underB u.types n=true->False)->false=R) (fun h=>Zt fun g=>h (oneU_iff.1 (HR.o.trans g)).2.2.1);have At:=Yh (Y8 w2.heap.size w2);clear Ac Ad hnb hnm hs hud hn hU hr k1 k2 q1 q2 z1 z2;go_enter Tryz.func25,Tryz.ntmps25
 cases hnb:namedB s
 ·have HV:=Yh (Zt (R:=R) fun g=>by
   have:=(oneU_iff.1 (HR.o.trans g)).1;rw[HS.o,hnb]at this
   cases this)
  rw[hnb]at Ai;clear hnb;go_wp2_with fail;refine(Ai.o _).mono ?_;rintro e w4 ⟨rfl,rfl⟩;go_wp2_with fail;go_ret;exact⟨Z0 HV.o,B2.o⟩
 have NB:=Yh hnb;rw[hnb]at Ai;clear hnb
 by_cases c1x:16<nb
 ·have HV:=Yh (Zt (R:=R) fun g=>by
   have:=(oneU_iff.1 (HR.o.trans g)).2.1.1;rw[A7.o]at this
   omega)
  have AM:decide ((16:Int)<(nb:Int))=true:=Yb (by omega);go_wp2_with fail;refine(Ai.o _).mono ?_;rintro e w4 ⟨rfl,rfl⟩;go_wp2_with fail;go_ret;exact⟨Z0 HV.o,B2.o⟩
 have AM:decide ((16:Int)<(nb:Int))=false:=Ya (by omega)
 by_cases c2x:16<nm
 ·have HV:=Yh (Zt (R:=R) fun g=>by
   have:=(oneU_iff.1 (HR.o.trans g)).2.1.2;rw[Ab.o]at this
   omega)
  have AN:decide ((16:Int)<(nm:Int))=true:=Yb (by omega);go_wp2_with fail;refine(Ai.o _).mono ?_;rintro e w4 ⟨rfl,rfl⟩;go_wp2_with fail;go_ret;exact⟨Z0 HV.o,B2.o⟩
 have AN:decide ((16:Int)<(nm:Int))=false:=Ya (by omega);go_wp2_with fail;refine(Ai.o _).mono ?_;rintro e w4 ⟨rfl,hw⟩;subst hw;clear h1 h2;have A0:=As.o ud w2 At.o
 cases hf:fitB u.types ud nb<;>rw[hf]at A0<;>have HF:=Yh hf<;>have HC:=Yh A0<;>clear hf A0
 ·have HV:=Yh (A5.o fun g=>by have:=(underB_iff2.1 g).1;rw[A8.o,A7.o,HF.o]at this;cases this)
  go_wp2_with fail;refine HC.o.mono ?_;rintro e w5 ⟨rfl,b⟩;have Ae:=YT At b;clear b c0 c1 y0 y1 y2 y3;obtain⟨c0,c1⟩:=cell2 (K1.o.below Ae.o);obtain⟨y0,y1,y2,y3⟩:=cell4 (K2.o.below Ae.o);go_wp2_with fail;go_ret;exact⟨Z0 HV.o,YU B2 Ae.o⟩
 go_wp2_with fail;refine HC.o.mono ?_;rintro e w5 ⟨rfl,b⟩;have Ae:=YT At b;clear b c0 c1 y0 y1 y2 y3;obtain⟨c0,c1⟩:=cell2 (K1.o.below Ae.o);obtain⟨y0,y1,y2,y3⟩:=cell4 (K2.o.below Ae.o);go_wp2_with fail;go_loopw [38] (fun v wr=>∃k:Nat,k<=nb/\v=.int .i64 k/\Hi (∀j,j<k->boundB u.types nb (n.bounds.getD j 0)=true)/\Hi (Below w2.heap.size w2 wr)) (fun v _=>nb-(intOf v).toNat)
 case atStart=>exact⟨0,Yl _,rfl,Yh (fun j hj=>absurd hj (Yr _)),Ae⟩
 case round =>
  obtain⟨k,hk,rfl,Hall,HB⟩:=hrel;clear c0 c1 y0 y1 y2 y3;obtain⟨c0,c1⟩:=cell2 (K1.o.below HB.o);obtain⟨y0,y1,y2,y3⟩:=cell4 (K2.o.below HB.o)
  by_cases hkn:k<nb
  ·have AO:(k:Int)<(nb:Int):=by omega
   have AC:k<n.bounds.length:=by rw[A7.o];exact hkn
   obtain⟨ib,iof,rfl,hib,hic⟩:=(HN.o.bounds.below (YU B2 HB.o)).cells (by omega);have ck:=hic k AC;obtain⟨i,hi⟩:=Yn (n.bounds.getD k 0);have HI:=Yh hi;rw[hi]at ck;clear hi hic hib
   have AD:=Yh (show(boundB u.types nb i=true->False)->false=R from fun h=>Zt fun g=>h (by
    have:=(oneU_iff.1 (HR.o.trans g)).2.2.2.1 _ (Zd AC);rw[HI.o,A7.o]at this;exact this))
   have A0:=Ah.o i 7 wr HB.o
   cases h7:isB u.types i 7<;>rw[h7]at A0<;>have H7:=Yh h7<;>have HC:=Yh A0<;>clear h7 A0
   ·have HV:=Yh (AD.o fun g=>by
     unfold boundB at g;rw[H7.o]at g
     cases g)
    go_wp2_with fail;refine HC.o.mono ?_;rintro e w6 ⟨rfl,b⟩;have A1:=YT HB b;clear b c0 c1 y0 y1 y2 y3 ck;obtain⟨c0,c1⟩:=cell2 (K1.o.below A1.o);obtain⟨y0,y1,y2,y3⟩:=cell4 (K2.o.below A1.o);go_wp2_with fail;go_ret;exact⟨Z0 HV.o,YU B2 A1.o⟩
   go_wp2_with fail;refine HC.o.mono ?_;rintro e w6 ⟨rfl,b⟩;have A1:=YT HB b;clear b c0 c1 y0 y1 y2 y3 ck;obtain⟨c0,c1⟩:=cell2 (K1.o.below A1.o);obtain⟨y0,y1,y2,y3⟩:=cell4 (K2.o.below A1.o);have A0:=As.o i w6 A1.o
   cases hf2:fitB u.types i nb<;>rw[hf2]at A0<;>have Am:=Yh hf2<;>have HC:=Yh A0<;>clear hf2 A0
   ·have HV:=Yh (AD.o fun g=>by
     unfold boundB at g;rw[Am.o,Bool.and_false]at g
     cases g)
    go_wp2_with fail;refine HC.o.mono ?_;rintro e w7 ⟨rfl,b⟩;have A2:=YT A1 b;clear b c0 c1 y0 y1 y2 y3;obtain⟨c0,c1⟩:=cell2 (K1.o.below A2.o);obtain⟨y0,y1,y2,y3⟩:=cell4 (K2.o.below A2.o);go_wp2_with fail;go_ret;exact⟨Z0 HV.o,YU B2 A2.o⟩
   have An:=Yh (show ∀j,j<k+1->boundB u.types nb (n.bounds.getD j 0)=true from fun j hj=>by
    rcases Ym (Ys hj)with h|h
    ·exact Hall.o j h
    ·rw[h,HI.o]
     unfold boundB;rw[H7.o,Am.o]
     rfl)
   go_wp2_with fail;refine HC.o.mono ?_;rintro e w7 ⟨rfl,b⟩;have A2:=YT A1 b;clear b c0 c1 y0 y1 y2 y3;obtain⟨c0,c1⟩:=cell2 (K1.o.below A2.o);obtain⟨y0,y1,y2,y3⟩:=cell4 (K2.o.below A2.o);go_wp2_with fail;go_roundw
   case rel=>exact⟨k+1,by omega,by go_num,An,A2⟩
   case measure=>first|(simp[intOf];done)|(simp[intOf];omega)
  ·obtain rfl:k=nb:=by omega
   have AP:=Yh (show ∀b∈n.bounds,boundB u.types k b=true from fun b hb=>by
    obtain⟨j,hj,rfl⟩:=List.getElem_of_mem hb;have:=Hall.o j (by rw[<-A7.o];exact hj)
    rwa [Z3 hj]at this)
   have A0:=Ah.o ud 8 wr HB.o
   cases h8:isB u.types ud 8<;>rw[h8]at A0<;>have H8:=Yh h8<;>have HC:=Yh A0<;>clear h8 A0
   case true =>
    have HV:=Yh (A5.o fun g=>by have:=(underB_iff2.1 g).2.1;rw[A8.o,H8.o]at this;cases this);go_wp2_with fail;refine HC.o.mono ?_;rintro e w6 ⟨rfl,b⟩;have A1:=YT HB b;clear b c0 c1 y0 y1 y2 y3;obtain⟨c0,c1⟩:=cell2 (K1.o.below A1.o);obtain⟨y0,y1,y2,y3⟩:=cell4 (K2.o.below A1.o);go_wp2_with fail;go_ret;exact⟨Z0 HV.o,YU B2 A1.o⟩
   go_wp2_with fail;refine HC.o.mono ?_;rintro e w6 ⟨rfl,b⟩;have A1:=YT HB b;clear b c0 c1 y0 y1 y2 y3;obtain⟨c0,c1⟩:=cell2 (K1.o.below A1.o);obtain⟨y0,y1,y2,y3⟩:=cell4 (K2.o.below A1.o);have A0:=Ah.o ud 9 w6 A1.o
   cases h9:isB u.types ud 9<;>rw[h9]at A0<;>have H9:=Yh h9<;>have HC:=Yh A0<;>clear h9 A0
   case true =>
    have HV:=Yh (A5.o fun g=>by have:=(underB_iff2.1 g).2.2.1;rw[A8.o,H9.o]at this;cases this);go_wp2_with fail;refine HC.o.mono ?_;rintro e w7 ⟨rfl,b⟩;have A2:=YT A1 b;clear b c0 c1 y0 y1 y2 y3;obtain⟨c0,c1⟩:=cell2 (K1.o.below A2.o);obtain⟨y0,y1,y2,y3⟩:=cell4 (K2.o.below A2.o);go_wp2_with fail;go_ret;exact⟨Z0 HV.o,YU B2 A2.o⟩
   by_cases hut:14<=ud/\ud<=19
   ·have HV:=Yh (A5.o fun g=>(underB_iff2.1 g).2.2.2.1 (by rw[A8.o];exact hut))
    obtain⟨hu1,Av⟩:=hut;have Ao:decide (14<=ud)=true:=Yb hu1;have Au:decide (ud<=19)=true:=Yb Av;go_wp2_with fail;refine HC.o.mono ?_;rintro e w7 ⟨rfl,b⟩;have A2:=YT A1 b;clear b c0 c1 y0 y1 y2 y3;obtain⟨c0,c1⟩:=cell2 (K1.o.below A2.o);obtain⟨y0,y1,y2,y3⟩:=cell4 (K2.o.below A2.o);go_wp2_with fail;go_ret;exact⟨Z0 HV.o,YU B2 A2.o⟩
   have AQ:=Yh hut
   by_cases hu1:14<=ud
   focus
    have Av:¬ud<=19:=fun g=>hut ⟨hu1,g⟩
    have Ao:decide (14<=ud)=true:=Yb hu1;have Au:decide (ud<=19)=false:=Ya Av
   rotate_left
   focus
    have Ao:decide (14<=ud)=false:=Ya hu1
   all_goals
    clear hut;go_wp2_with fail;refine HC.o.mono ?_;rintro e w7 ⟨rfl,b⟩;have A2:=YT A1 b;clear b c0 c1 y0 y1 y2 y3;obtain⟨c0,c1⟩:=cell2 (K1.o.below A2.o);obtain⟨y0,y1,y2,y3⟩:=cell4 (K2.o.below A2.o);go_wp2_with fail;go_loopw [77] (fun v wr=>∃k2:Nat,k2<=nm/\v=.int .i64 k2/\Hi (∀j (hj:j<n.methods.length),j<k2->methB u.types k n.methods[j]=true/\riseB (n.methods.map (·.name)) j=true)/\Hi (Below w2.heap.size w2 wr)) (fun v _=>nm-(intOf v).toNat)
    case atStart=>exact⟨0,Yl _,rfl,Yh (fun j _ hj=>absurd hj (Yr _)),A2⟩
    case round =>
     obtain⟨k2,hk2,rfl,Hall,HB6⟩:=hrel;clear c0 c1 y0 y1 y2 y3;obtain⟨c0,c1⟩:=cell2 (K1.o.below HB6.o);obtain⟨y0,y1,y2,y3⟩:=cell4 (K2.o.below HB6.o)
     by_cases hkm:k2<nm
     ·have AO:(k2:Int)<(nm:Int):=by omega
      have A6:k2<n.methods.length:=by rw[Ab.o];exact hkm
      obtain⟨mb,mof,rfl,hmb,hmcell⟩:=(HN.o.methods.below B2.o).cells (by omega);have AR:=Yh hmb;have AS:=Yh hmcell;obtain⟨m0',m1',m2'⟩:=hmcell k2 A6;have m0:=(HB6.o.cell hmb).trans m0';have m1:=(HB6.o.cell hmb).trans m1';have m2:=(HB6.o.cell hmb).trans m2';obtain⟨x,hx⟩:=Yn (n.methods[k2]);rw[hx]at m0 m1 m2;have Aw:=Yh hx;have AE:=(HN.o.ok.ms _ (Yq A6)).1;rw[hx]at AE;obtain⟨v,hv⟩:=Yn (x.name);obtain⟨sg,hsg⟩:=Yn (x.sig);have Ax:=Yh hv;have Ay:=Yh hsg;rw[hv]at m0 AE;rw[hsg]at m2;obtain⟨wn,hwn,kx,qx,zx⟩:=YA wr #[.string v,.bool x.ptr,.int .i64 sg] 112;obtain⟨xb,Ak⟩:=Yn (wr.heap.size);have AF:=Yh Ak;have KX:=@Yh (BlockAt wn xb #[.string v,.bool x.ptr,.int .i64 sg] 112) (by rw[<-Ak];exact kx);have Aj:=YT HB6 qx;clear hx hv hsg hmb hmcell m0' m1' m2' kx qx zx c0 c1 y0 y1 y2 y3;obtain⟨d0,d1,d2⟩:=cell3m KX.o;obtain⟨c0,c1⟩:=cell2 (K1.o.below Aj.o);obtain⟨y0,y1,y2,y3⟩:=cell4 (K2.o.below Aj.o)
      have Af:=Yh (show(methB u.types k x=true->False)->false=R from fun h=>Zt fun g=>h (by
       have:=(oneU_iff.1 (HR.o.trans g)).2.2.2.2.1 _ (Yq A6);rw[Aw.o,A7.o]at this;exact this))
      have Az:=Yh (show riseB (n.methods.map (·.name)) k2=false->false=R from fun h=>Zt fun g=>by
       have:=ZL1 (oneU_iff.1 (HR.o.trans g)).2.2.2.2.2 (k:=k2) (by rw[Yg];exact A6);rw[h]at this
       cases this)
      have Ap:=Yh (show methB u.types k x=true->riseB (n.methods.map (·.name)) k2=true->∀j (hj:j<n.methods.length),j<k2+1->methB u.types k n.methods[j]=true/\riseB (n.methods.map (·.name)) j=true from fun h1 h2 j hj h=>by
       rcases Ym (Ys h)with c|c
       ·exact Hall.o j hj c
       ·subst c;rw[Aw.o];exact⟨h1,h2⟩)
      have Ag:=fun W=>ZO v W (by omega)
      clear Ak
      cases hna:nameB v<;>rw[hna]at Ag<;>have NA:=Yh hna<;>have AG:=Yh Ag<;>clear hna Ag
      ·have HV:=Yh (Af.o (fun g=>by have:=(methB_iff.1 g).1;rw[Ax.o,NA.o]at this;cases this))
       have Ak:=AF.o;go_wp2_with fail;refine(AG.o _).mono ?_;rintro e w8 ⟨rfl,rfl⟩;go_wp2_with fail;go_ret;exact⟨Z0 HV.o,YU B2 Aj.o⟩
      have Ak:=AF.o;go_wp2_with fail;refine(AG.o _).mono ?_;rintro e w8 ⟨rfl,rfl⟩;clear Ak hwn m0 m1 m2;have A0:=Ah.o sg 5 wn Aj.o
      cases h5:isB u.types sg 5<;>rw[h5]at A0<;>have H5:=Yh h5<;>have HC:=Yh A0<;>clear h5 A0
      ·have HV:=Yh (Af.o fun g=>by
        unfold methB at g;rw[Ay.o,H5.o,Bool.and_false]at g
        cases g)
       go_wp2_with fail;refine HC.o.mono ?_;rintro e w8 ⟨rfl,b⟩;have Al:=Yh b;have A3:=YT Aj b;clear b c0 c1 y0 y1 y2 y3 d0 d1 d2;obtain⟨c0,c1⟩:=cell2 (K1.o.below A3.o);obtain⟨y0,y1,y2,y3⟩:=cell4 (K2.o.below A3.o);go_wp2_with fail;go_ret;exact⟨Z0 HV.o,YU B2 A3.o⟩
      go_wp2_with fail;refine HC.o.mono ?_;rintro e w8 ⟨rfl,b⟩;have Al:=Yh b;have A3:=YT Aj b;clear b c0 c1 y0 y1 y2 y3 d0 d1 d2;obtain⟨c0,c1⟩:=cell2 (K1.o.below A3.o);obtain⟨y0,y1,y2,y3⟩:=cell4 (K2.o.below A3.o);obtain⟨d0,d1,d2⟩:=cell3m (KX.o.below Al.o);have A0:=As.o sg w8 A3.o
      cases hf2:fitB u.types sg k<;>rw[hf2]at A0<;>have Am:=Yh hf2<;>have HC:=Yh A0<;>clear hf2 A0
      ·have HV:=Yh (Af.o fun g=>by
        unfold methB at g;rw[Ay.o,Am.o,Bool.and_false]at g
        cases g)
       go_wp2_with fail;refine HC.o.mono ?_;rintro e w9 ⟨rfl,b⟩
       try have Ar:=YT Al b
       have A4:=YT A3 b;clear b c0 c1 y0 y1 y2 y3 d0 d1 d2;obtain⟨c0,c1⟩:=cell2 (K1.o.below A4.o);obtain⟨y0,y1,y2,y3⟩:=cell4 (K2.o.below A4.o);go_wp2_with fail;go_ret;exact⟨Z0 HV.o,YU B2 A4.o⟩
      have Aq:=Yh (show methB u.types k x=true by
       unfold methB;rw[Ax.o,NA.o,Ay.o,H5.o,Am.o]
       rfl)
      go_wp2_with fail;refine HC.o.mono ?_;rintro e w9 ⟨rfl,b⟩
      try have Ar:=YT Al b
      have A4:=YT A3 b;clear b c0 c1 y0 y1 y2 y3 d0 d1 d2;obtain⟨c0,c1⟩:=cell2 (K1.o.below A4.o);obtain⟨y0,y1,y2,y3⟩:=cell4 (K2.o.below A4.o);obtain⟨d0,d1,d2⟩:=cell3m (KX.o.below Ar.o)
      by_cases h0:k2=0
      ·subst h0
       have Hx:=Yh (Ap.o Aq.o rfl);go_wp2_with fail;go_quiet (fail);go_wp2_with fail;go_roundw
       case rel=>exact⟨0+1,by omega,by go_num,Hx,Yh (below_drewN A4.o _)⟩
       case measure=>first|(simp[intOf];done)|(simp[intOf];omega)
      ·obtain⟨p,hp⟩:∃p,k2=p+1:=⟨k2-1,by omega⟩
       have AT:p<n.methods.length:=by omega
       have AV:p<nm:=by omega
       have AW:(p:Int)<(nm:Int):=by omega
       have cp:=(A4.o.cell AR.o).trans (AS.o p AT).1;obtain⟨v2,hv2⟩:=Yn (n.methods[p].name);rw[hv2]at cp;have AA:(0:Int)<(k2:Int):=by omega
       have AH:decide ((0:Int)<(k2:Int))=true:=Yb AA;have AI:0<k2:=by omega
       have AB:(k2:Int)-1=(p:Int):=by omega
       have AJ:IntKind.i64.wrap ((k2:Int)-1)=(p:Int):=by rw[AB];exact IntWalk.i64_in _ (by omega)
       have AK:=@Yh (riseB (n.methods.map (·.name)) k2=lessB v2 v) (by rw[Za3 A6 hp,hv2];congr 1;rw[Aw.o,Ax.o]);clear hp hv2 h0
       cases hls:Op.bytesLess v2.toList v.toList
       ·have LS:=Yh hls
        have HV:=Yh (Az.o (by rw[AK.o];exact LS.o));go_wp2_with fail;go_quiet (fail);go_wp2_with fail;go_ret;exact⟨Z0 HV.o,B2.o.trans ((below_drewN A4.o _).mono B2.o.size)⟩
       ·have LS:=Yh hls
        have Hx:=Yh (Ap.o Aq.o (by rw[AK.o];exact LS.o));go_wp2_with fail;go_quiet (fail);go_wp2_with fail;go_roundw
        case rel=>exact⟨k2+1,by omega,by go_num,Hx,Yh (below_drewN A4.o _)⟩
        case measure=>first|(simp[intOf];done)|(simp[intOf];omega)
     ·obtain rfl:k2=nm:=by omega
      have A9:=Yh (show underB u.types n=true->true=R from fun h=>by
       rw[<-HR.o]
       exact(oneU_iff.2 ⟨by rw[HS.o];exact NB.o,⟨by rw[A7.o];omega,by rw[Ab.o];omega⟩,h,by rw[A7.o];exact AP.o,fun m hm=>by
        obtain⟨j,hj,rfl⟩:=List.getElem_of_mem hm;rw[A7.o];exact(Hall.o j hj (by rw[<-Ab.o];exact hj)).1,Zp1 fun j hj=>(Hall.o j (by rw[Yg]at hj;exact hj) (by rw[Yg]at hj;rw[<-Ab.o];exact hj)).2⟩).symm)
      have Aa:=@Yh ((n.methods=[]\/(isB u.types ud 7=false/\isB u.types ud 1=false))->underB u.types n=true) (fun h=>underB_iff2.2 ⟨by rw[A8.o,A7.o];exact HF.o,by rw[A8.o];exact H8.o,by rw[A8.o];exact H9.o,by rw[A8.o];exact AQ.o,by rw[A8.o];exact h⟩)
      by_cases m0:k2=0
      ·have HV:=Yh (A9.o (Aa.o (.inl (Yp (by rw[Ab.o];exact m0)))))
       subst m0;go_wp2_with fail;go_ret;exact⟨Z0 HV.o,YU B2 HB6.o⟩
      ·have AX:((k2:Int)==0)=false:=by rw[Yc];omega
       have AL:=Yh (show(isB u.types ud 7=true\/isB u.types ud 1=true)->false=R from fun h=>A5.o fun g=>by
        have:=(underB_iff2.1 g).2.2.2.2;rw[A8.o]at this
        rcases this with g|⟨g1,g2⟩
        ·have e:=Ab.o
         rw[g]at e;exact m0 e.symm
        ·rcases h with h|h
         ·rw[g1]at h;cases h
         ·rw[g2]at h;cases h)
       clear m0;have A0:=Ah.o ud 7 wr HB6.o
       cases h7:isB u.types ud 7<;>rw[h7]at A0<;>have H7:=Yh h7<;>have HC:=Yh A0<;>clear h7 A0
       case true =>
        have HV:=Yh (AL.o (.inl H7.o));go_wp2_with fail;refine HC.o.mono ?_;rintro e w8 ⟨rfl,b⟩;have A3:=YT HB6 b;clear b c0 c1 y0 y1 y2 y3;obtain⟨c0,c1⟩:=cell2 (K1.o.below A3.o);obtain⟨y0,y1,y2,y3⟩:=cell4 (K2.o.below A3.o);go_wp2_with fail;go_ret;exact⟨Z0 HV.o,YU B2 A3.o⟩
       go_wp2_with fail;refine HC.o.mono ?_;rintro e w8 ⟨rfl,b⟩;have A3:=YT HB6 b;clear b c0 c1 y0 y1 y2 y3;obtain⟨c0,c1⟩:=cell2 (K1.o.below A3.o);obtain⟨y0,y1,y2,y3⟩:=cell4 (K2.o.below A3.o);have A0:=Ah.o ud 1 w8 A3.o
       cases h1:isB u.types ud 1<;>rw[h1]at A0<;>have H1:=Yh h1<;>have HC:=Yh A0<;>clear h1 A0
       case true =>
        have HV:=Yh (AL.o (.inr H1.o));go_wp2_with fail;refine HC.o.mono ?_;rintro e w9 ⟨rfl,b⟩
        try have Ar:=YT Al b
        have A4:=YT A3 b;clear b c0 c1 y0 y1 y2 y3;obtain⟨c0,c1⟩:=cell2 (K1.o.below A4.o);obtain⟨y0,y1,y2,y3⟩:=cell4 (K2.o.below A4.o);go_wp2_with fail;go_ret;exact⟨Z0 HV.o,YU B2 A4.o⟩
       have HV:=Yh (A9.o (Aa.o (.inr ⟨H7.o,H1.o⟩)));go_wp2_with fail;refine HC.o.mono ?_;rintro e w9 ⟨rfl,b⟩
       try have Ar:=YT Al b
       have A4:=YT A3 b;clear b c0 c1 y0 y1 y2 y3;obtain⟨c0,c1⟩:=cell2 (K1.o.below A4.o);obtain⟨y0,y1,y2,y3⟩:=cell4 (K2.o.below A4.o);go_wp2_with fail;go_ret;exact⟨Z0 HV.o,YU B2 A4.o⟩
set_option maxRecDepth 100000 in
theorem Zw8(u:Un)(ao no:Option Addr)(ac nc:Nat)(t:Ty)(wo ko:Option Addr)(wc kc:Nat)(w:World)(hU:UnC w ao no ac nc u)(ht:TyC w wo ko t) :
  Calls Tryz.prog 26 #[unV u ao ac no nc,tyV t wo wc ko kc] w fun e w'=>e=.returned (.bool (fitsU u.named t))/\Below w.heap.size w w':=by
 obtain⟨R,hR⟩:=Yn (fitsU u.named t);rw[hR];have HR:=Yh hR;have HU:=Yh hU;have A3:=hU.nl;obtain⟨w1,h1,k1,q1,z1⟩:=YA w #[.slice ao u.types.length ac,.slice no u.named.length nc] 25;obtain⟨w2,h2,k2,q2,z2⟩:=YA w1 #[.int .i64 t.kind,.string t.name,.int .i64 t.n,.slice wo t.words.length wc,.slice ko t.kids.length kc] 50;have B2:=Yh (q1.trans (q2.mono q1.size));have A0:=Zv3 u ao no ac nc t.name w2 (hU.below B2.o);unfold unV at A0;unfold unV tyV;obtain⟨kd,hkd⟩:=Yn (t.kind);obtain⟨s,hs⟩:=Yn (t.name);obtain⟨kl,hkl⟩:=Yn (t.kids.length);obtain⟨n,hn⟩:=Yn (u.named.length);obtain⟨at_,hat⟩:=Yn (atU u.named t.name);have A4:=Yh hkd;have A5:=Yh hkl;have HN:=Yh hn;have A6:=Yh hat;rw[hat,hs]at A0;rw[hkd,hs,hkl]at h2 ⊢;rw[hn]at h1 A3 A0 ⊢;obtain⟨c0,c1⟩:=cell2 (k1.below q2);obtain⟨d0,d1,d2,d3,d4⟩:=cell5 k2;rw[hn]at c1;rw[hkd]at d0;rw[hs]at d1;rw[hkl]at d4;have HF:=Yh A0
 by_cases h8:kd=8
 ·have q8:(kd != 8)=false:=by rw[bne_eq_false_iff_eq];exact h8
  have A1:=Yh (show(decide (0<=at_)&&decide ((u.named.getD at_.toNat ⟨⟨#[]⟩,[],0,[]⟩).bounds.length=kl))=R by
   rw[<-HR.o];unfold fitsU;rw[show decide (t.kind≠8)=false from Ya (fun g=>g (A4.o.trans h8)),Bool.false_or,A6.o,A5.o])
  have A7:at_<(u.named.length:Int):=by
   rw[<-hat];unfold atU
   cases hf:u.named.findIdx? (fun n=>decide (n.name=t.name))with
   | none=>simp only;omega
   | some i=>rw[List.findIdx?_eq_some_iff_getElem]at hf;obtain⟨hi,-⟩:=hf;simp only;omega
  rw[hn]at A7;clear hkd hs hkl hn hat k1 q1 z1 k2 z2 hR hU ht h8 A0
  by_cases h0:0<=at_
  ·obtain⟨z,rfl⟩:∃z:Nat,at_=(z:Int):=⟨at_.toNat,by omega⟩
   have A8:z<n:=by omega
   have hI:(z:Int)<(n:Int):=by omega
   have A9:decide ((0:Int)<=(z:Int))=true:=Yb h0;have A2:z<u.named.length:=by rw[HN.o];exact A8
   obtain⟨b,o,rfl,hb,hc⟩:=HU.o.named.cells (by omega);obtain⟨bo,bc,mo,mc,-,a1',-,-,-,-,-⟩:=hc z A2;obtain⟨bl,hbl⟩:=Yn (u.named[z].bounds.length);rw[hbl]at a1'
   have HV:=Yh (show((bl:Int)==(kl:Int))=R by
    rw[<-A1.o,Yw,Z3 A2,hbl,Yb h0,Bool.true_and,Bool.eq_iff_iff,YK,decide_eq_true_eq]
    omega)
   clear hc hbl h0;go_enter Tryz.func26,Tryz.ntmps26;go_wp2_with fail;refine HF.o.mono ?_;rintro e w3 ⟨rfl,b3⟩;have B3:=YT B2 b3;have a1:=(B3.o.cell hb).trans a1';have e1:=YR b3 c1;have e4:=YR b3 d4;clear b3 c0 c1 d0 d1 d2 d3 d4 h1 h2 a1' hb;go_wp2_with fail;go_quiet (fail);go_wp2_with fail;go_ret;exact⟨Z0 HV.o,below_drewN B3.o _⟩
  ·have A9:decide ((0:Int)<=at_)=false:=Ya h0
   have HV:=@Yh (false=R) (by rw[<-A1.o,Ya h0,Bool.false_and]);go_enter Tryz.func26,Tryz.ntmps26;go_wp2_with fail;refine HF.o.mono ?_;rintro e w3 ⟨rfl,b3⟩;have B3:=YT B2 b3;clear b3 c0 c1 d0 d1 d2 d3 d4 h1 h2;go_wp2_with fail;go_quiet (fail);go_wp2_with fail;go_ret;exact⟨Z0 HV.o,below_drewN B3.o _⟩
 ·have q8:(kd != 8)=true:=by rw[YJ];exact h8
  have HV:=@Yh (true=R) (by rw[<-HR.o,Zt2 (by rw[hkd];exact h8)]);clear hkd hs hkl hn hat k1 q1 z1 k2 q2 z2 hR hU ht h8 A0;go_enter Tryz.func26,Tryz.ntmps26;go_wp2_with fail;go_ret;exact⟨Z0 HV.o,B2.o⟩
set_option maxRecDepth 100000 in
theorem Z47(u:Un)(ao no:Option Addr)(ac nc:Nat)(w:World)(hU:UnC w ao no ac nc u) :
  Calls Tryz.prog 10 #[unV u ao ac no nc] w fun e w'=>e=.returned (.bool (rightU u))/\Below w.heap.size w w':=by
 obtain⟨R,hR⟩:=Yn (rightU u);rw[hR];have HR:=@Yh ((rightT u.types&&restU u)=R) (by rw[<-Z8];exact hR);have HU:=Yh hU;have An:=hU.nl;have Ao:=hU.tl;have Ap:=hU.tc;obtain⟨w1,h1,k1,q1,z1⟩:=YA w #[.slice ao u.types.length ac,.slice no u.named.length nc] 25;have B1:=Yh q1;have A4:=Zz7 u.types ao ac w1 (hU.types.below q1) hU.tl hU.tc;unfold unV;obtain⟨L,hL⟩:=Yn (u.types.length);obtain⟨n,hn⟩:=Yn (u.named.length);have HL:=Yh hL;have HN:=Yh hn;rw[hL,hn]at h1 k1;rw[hL]at Ao A4 Ap ⊢;rw[hn]at An ⊢;have K1:=Yh k1;obtain⟨c0,c1⟩:=cell2 k1;clear hL hn hU hR k1 q1 z1;go_enter Tryz.func10,Tryz.ntmps10
 cases ht:rightT u.types<;>rw[ht]at A4<;>have HT:=Yh ht<;>have HP:=Yh A4<;>clear ht A4
 ·have HV:=@Yh (false=R) (by rw[<-HR.o,HT.o,Bool.false_and])
  go_wp2_with fail;refine HP.o.mono ?_;rintro e w2 ⟨rfl,b2⟩;have B2:=YT B1 b2;clear b2 c0 c1 h1;go_wp2_with fail;go_ret;exact⟨Z0 HV.o,B2.o⟩
 have Ag:=@Yh (restU u=R) (by rw[<-HR.o,HT.o,Bool.true_and]);have A5:=@Yh ((restU u=true->False)->false=R) (fun h=>Zt fun g=>h (Ag.o.trans g))
 by_cases h60:60<n
 ·have hd:decide ((60:Int)<(n:Int))=true:=Yb (by omega)
  have HV:=Yh (A5.o fun g=>by have:=(restU_iff.1 g).1;rw[HN.o]at this;omega);go_wp2_with fail;refine HP.o.mono ?_;rintro e w2 ⟨rfl,b2⟩;have B2:=YT B1 b2;clear c0 c1 h1;obtain⟨c0,c1⟩:=cell2 (K1.o.below b2);clear b2;go_wp2_with fail;go_ret;exact⟨Z0 HV.o,B2.o⟩
 have hd:decide ((60:Int)<(n:Int))=false:=Ya (by omega);go_wp2_with fail;refine HP.o.mono ?_;rintro e w2 ⟨rfl,b2⟩;have B2:=YT B1 b2;have K2:=Yh (K1.o.below b2);clear c0 c1 h1 b2;obtain⟨c0,c1⟩:=cell2 K2.o;go_wp2_with fail;clear c0 c1;go_loopw [20] (fun v wr=>∃k:Nat,k<=n/\v=.int .i64 k/\Hi (∀j (hj:j<u.named.length),j<k->oneU u.types u.named[j]=true/\riseB (namesU u.named) j=true)/\Hi (Below w2.heap.size w2 wr)) (fun v _=>n-(intOf v).toNat)
 case atStart=>exact⟨0,Yl _,rfl,Yh (fun j _ hj=>absurd hj (Yr _)),Yh (Y8 _ _)⟩
 case round =>
  obtain⟨k,hk,rfl,Hall,HB⟩:=hrel;have BW:=YT B2 HB.o
  by_cases hkn:k<n
  ·have Ax:(k:Int)<(n:Int):=by omega
   have A6:k<u.named.length:=by rw[HN.o];exact hkn
   obtain⟨b,o,rfl,hb,hc⟩:=(HU.o.named.below BW.o).cells (by omega);obtain⟨bo,bc,mo,mc,a0,a1,a2,a3,hbc,hmc,hnc⟩:=hc k A6;have Aq:=Yh hc;clear hc;obtain⟨x,hx⟩:=Yn (u.named[k]);rw[hx]at a0 a1 a2 a3 hbc hmc hnc;have HX:=Yh hx;obtain⟨wn,hwn,kx,qx,zx⟩:=YA wr #[.string x.name,.slice bo x.bounds.length bc,.int .i64 x.under,.slice mo x.methods.length mc] 53;obtain⟨xb,hxb⟩:=Yn (wr.heap.size);rw[hxb]at kx;have KX:=Yh kx;have A2:=YT HB qx;have Ar:=YT B2 A2.o;obtain⟨d0,d1,d2,d3⟩:=cell4 kx;obtain⟨e0,e1⟩:=cell2 (K2.o.below A2.o);have A0:=Z38 u ao (some ⟨b,o,none⟩) ac nc x bo mo bc mc wn.drew ((HU.o.below Ar.o).below (Y8 _ _).drew) HT.o ((hnc.below qx).below (Y8 _ _).drew) hbc hmc;unfold unV nmV at A0;rw[HL.o,HN.o]at A0;have Ay:=@Yh (b<wn.heap.size) (Yi hb qx.size)
   have A7:=Yh (show oneU u.types x=false->false=R from fun h=>A5.o fun g=>by
    have:=(restU_iff.1 g).2.1 _ (Yq A6);rw[HX.o,h]at this
    cases this)
   have A8:=Yh (show riseB (namesU u.named) k=false->false=R from fun h=>A5.o fun g=>by
    have:=ZL1 (restU_iff.1 g).2.2.1 (k:=k) (by rw[Zs0];exact A6);rw[h]at this
    cases this)
   have A3:=Yh (show oneU u.types x=true->riseB (namesU u.named) k=true->∀j (hj:j<u.named.length),j<k+1->oneU u.types u.named[j]=true/\riseB (namesU u.named) j=true from fun h1 h2 j hj h=>by
    rcases Ym (Ys h)with c|c
    ·exact Hall.o j hj c
    ·subst c;rw[HX.o];exact⟨h1,h2⟩)
   obtain⟨s,hs⟩:=Yn (x.name);rw[hs]at a0 d0 hwn A0 KX;have As:=Yh hs;clear hx hnc kx qx zx hbc hmc hb hs
   cases ho:oneU u.types x<;>rw[ho]at A0<;>have HO:=Yh ho<;>have A9:=Yh A0<;>clear ho A0
   ·have HV:=Yh (A7.o HO.o)
    go_upto_region 6 with fail;clear hwn a0 a1 a2 a3 hxb;refine GoG.start [(21,⟨w.heap.size,0,none⟩,.slice ao L ac),(21,⟨w.heap.size,1,none⟩,.slice (some ⟨b,o,none⟩) n nc),(21,⟨xb,0,none⟩,.string s),(21,⟨xb,1,none⟩,.slice bo x.bounds.length bc),(21,⟨xb,2,none⟩,.int .i64 x.under),(21,⟨xb,3,none⟩,.slice mo x.methods.length mc)] (by kernel_rfl) ?_ ?_
    ·exact Kd (Kd (Kd (Kd (Kd (Kd (Kn))))))
    refine GoG.s2 0 0 [21] ?_;refine GoG.s4 1 2 [21] ?_;refine GoG.on 2 fun K hK=>?_
    go_simp;refine A9.o.mono ?_;rintro e w6 ⟨rfl,b6⟩;have B6:=Yh (A2.o.drew.trans (b6.mono A2.o.drew.size));refine hK.out _ _ (Kc (YR b6 e0) (Kc (YR b6 e1) (Kc (YR b6 d0) (Kc (YR b6 d1) (Kc (YR b6 d2) (Kc (YR b6 d3) (Kn))))))) ?_;clear hK K b6;refine GoG.fr 3 ?_;refine GoG.fr 4 ?_;refine GoG.uw 5 ?_;refine GoG.uw 6 ?_;refine GoG.uw 7 ?_;refine GoG.uw 8 ?_;refine GoG.uw 9 ?_;refine GoG.uw 10 ?_;refine GoG.uw 11 ?_;refine GoG.uw 12 ?_;refine GoG.uw 13 ?_;refine GoG.uw 14 ?_;refine GoG.uw 15 ?_;refine GoG.uw 16 ?_;refine GoG.uw 17 ?_;refine GoG.uw 18 ?_;refine GoG.fr 19 ?_;refine GoG.done (by kernel_rfl) ?_ _;clear d0 d1 d2 d3 e0 e1;go_wp2_with fail;go_ret;exact⟨Z0 HV.o,YU B2 B6.o⟩
   ·by_cases h0:k=0
    ·have RI:=@Yh (riseB (namesU u.named) k=true) (by rw[h0];rfl)
     have At:¬(0:Int)<(k:Int):=by omega
     have Az:decide ((0:Int)<(k:Int))=false:=Ya At;have AA:¬0<k:=by omega
     have Hx:=Yh (A3.o HO.o RI.o);clear h0;go_upto_region 6 with fail;clear hwn a0 a1 a2 a3 hxb;refine GoG.start [(21,⟨w.heap.size,0,none⟩,.slice ao L ac),(21,⟨w.heap.size,1,none⟩,.slice (some ⟨b,o,none⟩) n nc),(21,⟨xb,0,none⟩,.string s),(21,⟨xb,1,none⟩,.slice bo x.bounds.length bc),(21,⟨xb,2,none⟩,.int .i64 x.under),(21,⟨xb,3,none⟩,.slice mo x.methods.length mc)] (by kernel_rfl) ?_ ?_
     ·exact Kd (Kd (Kd (Kd (Kd (Kd (Kn))))))
     refine GoG.s2 0 0 [21] ?_;refine GoG.s4 1 2 [21] ?_;refine GoG.on 2 fun K hK=>?_
     go_simp;refine A9.o.mono ?_;rintro e w6 ⟨rfl,b6⟩;have B6:=Yh (A2.o.drew.trans (b6.mono A2.o.drew.size));refine hK.out _ _ (Kc (YR b6 e0) (Kc (YR b6 e1) (Kc (YR b6 d0) (Kc (YR b6 d1) (Kc (YR b6 d2) (Kc (YR b6 d3) (Kn))))))) ?_;clear hK K b6;refine GoG.fr 3 ?_;refine GoG.fr 4 ?_;refine GoG.fr 5 ?_;refine GoG.fr 6 ?_;refine GoG.fr 7 ?_;refine GoG.uw 8 ?_;refine GoG.uw 9 ?_;refine GoG.uw 10 ?_;refine GoG.uw 11 ?_;refine GoG.uw 12 ?_;refine GoG.uw 13 ?_;refine GoG.uw 14 ?_;refine GoG.uw 15 ?_;refine GoG.uw 16 ?_;refine GoG.uw 17 ?_;refine GoG.fr 18 ?_;refine GoG.fr 19 ?_;refine GoG.done (by kernel_rfl) ?_ _;clear d0 d1 d2 d3 e0 e1;go_wp2_with fail;go_roundw
     case rel=>exact⟨k+1,by omega,by go_num,Hx,B6⟩
     case measure=>first|(simp[intOf];done)|(simp[intOf];omega)
    ·obtain⟨p,hp⟩:∃p,k=p+1:=⟨k-1,by omega⟩
     have Au:p<u.named.length:=by omega
     have AB:p<n:=by omega
     have AC:(p:Int)<(n:Int):=by omega
     obtain⟨_,_,_,_,cp,-⟩:=Aq.o p Au;obtain⟨v,hv⟩:=Yn (u.named[p].name);rw[hv]at cp;have Aa:=@Yh (wn.cell? ⟨b,o+p*4,none⟩=some (.string v)) (((show Below wr.heap.size wr wn from by rw[<-hwn];exact(Y8 _ _).alloc (Yk _) _).cell (p:=⟨b,o+p*4,none⟩) (Zv cp)).trans cp);have Ab:(0:Int)<(k:Int):=by omega
     have Ah:decide ((0:Int)<(k:Int))=true:=Yb Ab;have Ai:0<k:=by omega
     have AD:IntKind.i64.wrap (p:Int)=(p:Int):=IntWalk.i64_in _ (by omega);have Ac:(k:Int)-1=(p:Int):=by omega
     have Aj:IntKind.i64.wrap ((k:Int)-1)=(p:Int):=by rw[Ac];exact IntWalk.i64_in _ (by omega)
     have Ak:=@Yh (riseB (namesU u.named) k=lessB v s) (by rw[Zv5 A6 hp,hv];congr 1;rw[HX.o,As.o]);clear hp hv cp h0
     cases hls:Op.bytesLess v.toList s.toList
     focus
      have LS:=Yh hls;have HV:=Yh (A8.o (by rw[Ak.o];exact LS.o))
     rotate_left
     focus
      have LS:=Yh hls;have RI:=@Yh (riseB (namesU u.named) k=true) (by rw[Ak.o];exact LS.o);have Hx:=Yh (A3.o HO.o RI.o)
     rotate_left
     all_goals
      go_upto_region 6 with fail;clear hwn a0 a1 a2 a3 hxb;refine GoG.start [(21,⟨w.heap.size,0,none⟩,.slice ao L ac),(21,⟨w.heap.size,1,none⟩,.slice (some ⟨b,o,none⟩) n nc),(21,⟨xb,0,none⟩,.string s),(21,⟨xb,1,none⟩,.slice bo x.bounds.length bc),(21,⟨xb,2,none⟩,.int .i64 x.under),(21,⟨xb,3,none⟩,.slice mo x.methods.length mc),(21,⟨b,o+p*4,none⟩,.string v)] (by kernel_rfl) ?_ ?_
      ·exact Kd (Kd (Kd (Kd (Kd (Kd (Kc (by first|exact Aa.o|assumption) (Kn)))))))
      refine GoG.s2 0 0 [21] ?_;refine GoG.s4 1 2 [21] ?_;refine GoG.on 2 fun K hK=>?_
      go_simp;refine A9.o.mono ?_;rintro e w6 ⟨rfl,b6⟩;have B6:=Yh (A2.o.drew.trans (b6.mono A2.o.drew.size));refine hK.out _ _ (Kc (YR b6 e0) (Kc (YR b6 e1) (Kc (YR b6 d0) (Kc (YR b6 d1) (Kc (YR b6 d2) (Kc (YR b6 d3) (Kc ((b6.cell (p:=⟨b,o+p*4,none⟩) (show _<wn.heap.size from Zv Aa.o)).trans Aa.o) (Kn)))))))) ?_;clear hK K b6;refine GoG.fr 3 ?_;refine GoG.fr 4 ?_;refine GoG.fr 5 ?_;refine GoG.fr 6 ?_;refine GoG.fr 7 ?_;refine GoG.fr 8 ?_;refine GoG.s1 9 1 [21] ?_;refine GoG.fr 10 ?_;refine GoG.fr 11 ?_;refine GoG.fr 12 ?_;refine GoG.fr 13 ?_;refine GoG.s1 14 6 [21] ?_;refine GoG.fr 15 ?_;refine GoG.s1 16 2 [21] ?_;refine GoG.fr 17 ?_;refine GoG.fr 18 ?_;refine GoG.fr 19 ?_;refine GoG.done (by kernel_rfl) ?_ _;clear d0 d1 d2 d3 e0 e1;go_wp2_with fail
     ·go_ret
      exact⟨Z0 HV.o,YU B2 B6.o⟩
     ·go_roundw
      case rel=>exact⟨k+1,by omega,by go_num,Hx,B6⟩
      case measure=>first|(simp[intOf];done)|(simp[intOf];omega)
  ·obtain rfl:k=n:=by omega
   have Av:=@Yh (risesB (namesU u.named)=true) (Zp1 fun j hj=>(Hall.o j (by rw[Zs0]at hj;exact hj) (by rw[Zs0]at hj;rw[<-HN.o];exact hj)).2)
   have Ad:=Yh (show ∀m∈u.named,oneU u.types m=true from fun m hm=>by
    obtain⟨j,hj,rfl⟩:=List.getElem_of_mem hm;exact(Hall.o j hj (by rw[<-HN.o];exact hj)).1)
   have A1:=fun(t:Ty) wo ko wc kc W (hb:Below w.heap.size w W) (ht:TyC W wo ko t)=>Zw8 u ao no ac nc t wo ko wc kc W (HU.o.below hb) ht
   unfold unV tyV at A1;rw[HL.o,HN.o]at A1;have Aw:=Yh A1;obtain⟨c0,c1⟩:=cell2 (K2.o.below HB.o);clear A1;go_wp2_with fail;clear c0 c1;go_loopw [49] (fun v wr=>∃q:Nat,q<=L/\v=.int .i64 q/\Hi (∀j (hj:j<u.types.length),j<q->fitsU u.named u.types[j]=true)/\Hi (Below w2.heap.size w2 wr)) (fun v _=>L-(intOf v).toNat)
   case atStart=>exact⟨0,Yl _,rfl,Yh (fun j _ hj=>absurd hj (Yr _)),HB⟩
   case round =>
    obtain⟨q,hq,rfl,Hfit,HQ⟩:=hrel;have BQ:=YT B2 HQ.o
    by_cases hql:q<L
    ·have AE:(q:Int)<(L:Int):=by omega
     have Al:q<u.types.length:=by rw[HL.o];exact hql
     obtain⟨b,o,rfl,hb,hc⟩:=(HU.o.types.below BQ.o).cells (by omega);obtain⟨xw,xwc,xk,xkc,a0,a1,a2,a3,a4,-,-,hxc⟩:=hc q Al;obtain⟨x,hx⟩:=Yn (u.types[q]);rw[hx]at a0 a1 a2 a3 a4 hxc;have HX:=Yh hx;obtain⟨wn,hwn,kx,qx,zx⟩:=YA wr #[.int .i64 x.kind,.string x.name,.int .i64 x.n,.slice xw x.words.length xwc,.slice xk x.kids.length xkc] 50;have Ae:=YT HQ qx;have Am:=YT B2 Ae.o;obtain⟨d0,d1,d2,d3,d4⟩:=cell5 kx;obtain⟨e0,e1⟩:=cell2 (K2.o.below Ae.o);have Af:=Aw.o x xw xk xwc xkc wn Am.o (hxc.below qx);clear hx hc hb hxc kx qx zx
     cases hf:fitsU u.named x<;>rw[hf]at Af<;>have HF:=Yh hf<;>have HC:=Yh Af<;>clear hf Af
     ·have HV:=Yh (A5.o fun g=>by
       have:=List.all_eq_true.1 (restU_iff.1 g).2.2.2 _ (Yq Al);rw[HX.o,HF.o]at this
       cases this)
      go_wp2_with fail;refine HC.o.mono ?_;rintro e w6 ⟨rfl,b6⟩;have B6:=YT Am b6;clear b6 a0 a1 a2 a3 a4 d0 d1 d2 d3 d4 e0 e1 hwn;go_wp2_with fail;go_ret;exact⟨Z0 HV.o,B6.o⟩
     ·have Hx:=Yh (show ∀j (hj:j<u.types.length),j<q+1->fitsU u.named u.types[j]=true from fun j hj h=>by
       rcases Ym (Ys h)with g|g
       ·exact Hfit.o j hj g
       ·subst g;rw[HX.o];exact HF.o)
      go_wp2_with fail;refine HC.o.mono ?_;rintro e w6 ⟨rfl,b6⟩;have B6:=YT Ae b6;clear b6 a0 a1 a2 a3 a4 d0 d1 d2 d3 d4 e0 e1 hwn;go_wp2_with fail;go_roundw
      case rel=>exact⟨q+1,by omega,by go_num,Hx,B6⟩
      case measure=>first|(simp[intOf];done)|(simp[intOf];omega)
    ·obtain rfl:q=L:=by omega
     have HV:=Yh (show true=R by
      rw[<-Ag.o]
      exact(restU_iff.2 ⟨by rw[HN.o];omega,Ad.o,Av.o,List.all_eq_true.2 fun x hx=>by
       obtain⟨j,hj,rfl⟩:=List.getElem_of_mem hx;exact Hfit.o j hj (by rw[<-HL.o];exact hj)⟩).symm)
     go_wp2_with fail;go_ret;exact⟨Z0 HV.o,BQ.o⟩
def noM:Mt:=⟨⟨#[]⟩,false,0⟩
def mtB(a b:ByteArray)(p q:Bool)(i j:Int):Bool:=decide (a=b)&&(p==q)&&(i==j)
set_option maxRecDepth 100000 in
theorem ZR8(xs ys:List Mt)(ao bo:Option Addr)(ac bc:Nat)(w:World)(hx:MRow w ao xs)(hy:MRow w bo ys)(lx:xs.length<=1000)(ly:ys.length<=1000) :
  Calls Tryz.prog 29 #[.slice ao xs.length ac,.slice bo ys.length bc] w fun e w'=>e=.returned (.bool (decide (xs=ys)))/\Below w.heap.size w w':=by
 obtain⟨r,hr⟩:∃r,decide (xs=ys)=r:=⟨_,rfl⟩
 rw[hr];have HR:=Yh hr;clear hr;obtain⟨n,hn⟩:=Yn (xs.length);obtain⟨m,hm⟩:=Yn (ys.length);have HN:=Yh hn;have HM:=Yh hm;have HX:=Yh hx;have HY:=Yh hy;rw[hn]at lx ⊢;rw[hm]at ly ⊢;clear hn hm hx hy
 by_cases hnm:n=m
 case neg =>
  have Hn:=Yh (show false=r by
   rw[<-HR.o];symm;rw[Y1];intro e;exact hnm (by rw[<-HN.o,<-HM.o,e]))
  have hq:((n:Int)==(m:Int))=false:=by rw[Yc];omega
  have A3:((n:Int) != (m:Int))=true:=by rw[bne,hq];rfl
  go_enter Tryz.func29,Tryz.ntmps29;go_wp2_with fail;go_ret;exact⟨Z0 Hn.o,Y8 _ _⟩
 subst hnm;go_enter Tryz.func29,Tryz.ntmps29;go_wp2_with fail;go_loopw [13] (fun i wr=>∃k:Nat,k<=n/\i=.int .i64 k/\Hi (∀j (h1:j<xs.length) (h2:j<ys.length),j<k->xs[j]=ys[j])/\Hi (Below w.heap.size w wr)) (fun i _=>n-(intOf i).toNat)
 case atStart=>exact⟨0,Yl _,rfl,Yh (fun j _ _ hj=>absurd hj (Yr _)),Yh (Y8 _ _)⟩
 case round =>
  obtain⟨k,hk,rfl,Hall,HB⟩:=hrel
  by_cases hkl:k<n
  ·have A6:(k:Int)<(n:Int):=by omega
   have A4:k<xs.length:=by rw[HN.o];exact hkl
   have A5:k<ys.length:=by rw[HM.o];exact hkl
   obtain⟨ab,aof,rfl,hab,hac⟩:=(HX.o.below HB.o).cells (by omega);obtain⟨bb,bof,rfl,hbb,hbc⟩:=(HY.o.below HB.o).cells (by omega);obtain⟨a0,a1,a2⟩:=hac k A4;obtain⟨b0,b1,b2⟩:=hbc k A5;obtain⟨x,hx⟩:=Yn (xs[k]);obtain⟨y,hy⟩:=Yn (ys[k]);rw[hx]at a0 a1 a2;rw[hy]at b0 b1 b2;have A1:=Yh (YH hx hy)
   have A0:=Yh (show x≠y->false=r from fun h=>by
    rw[<-HR.o];symm;rw[Y1];intro e;subst e;exact h (A1.o.1.symm.trans A1.o.2))
   have A2:=Yh (show x=y->∀j (h1:j<xs.length) (h2:j<ys.length),j<k+1->xs[j]=ys[j]from fun he j h1 h2 hj=>by
    rcases Ym (Ys hj)with h3|h3
    ·exact Hall.o j h1 h2 h3
    ·subst h3;rw[A1.o.1,A1.o.2];exact he)
   obtain⟨xn,xp,xs'⟩:=x;obtain⟨yn,yp,ys'⟩:=y
   replace a0:wr.cell? ⟨ab,aof+k*3,none⟩=some (.string xn):=a0
   replace a1:wr.cell? ⟨ab,aof+k*3+1,none⟩=some (.bool xp):=a1
   replace a2:wr.cell? ⟨ab,aof+k*3+2,none⟩=some (.int .i64 xs'):=a2
   replace b0:wr.cell? ⟨bb,bof+k*3,none⟩=some (.string yn):=b0
   replace b1:wr.cell? ⟨bb,bof+k*3+1,none⟩=some (.bool yp):=b1
   replace b2:wr.cell? ⟨bb,bof+k*3+2,none⟩=some (.int .i64 ys'):=b2
   clear hx hy hac hbc hab hbb
   by_cases en:xn=yn
   case neg =>
    have Hn:=Yh (A0.o (fun g=>en (by injection g)));have hq:(xn.toList==yn.toList)=false:=(Zk _ _).trans (Ya en);have A3:(xn.toList != yn.toList)=true:=by rw[bne,hq];rfl
    clear en;go_wp2_with fail;go_quiet (fail);go_wp2_with fail;go_ret;exact⟨Z0 Hn.o,below_drewN HB.o _⟩
   subst en
   by_cases ep:xp=yp
   case neg =>
    have Hn:=Yh (A0.o (fun g=>ep (by injection g)))
    cases xp<;>cases yp
    ·exact absurd rfl ep
    ·clear ep
     go_wp2_with fail;go_quiet (fail);go_wp2_with fail;go_ret;exact⟨Z0 Hn.o,below_drewN HB.o _⟩
    ·clear ep
     go_wp2_with fail;go_quiet (fail);go_wp2_with fail;go_ret;exact⟨Z0 Hn.o,below_drewN HB.o _⟩
    ·exact absurd rfl ep
   subst ep
   by_cases es:xs'=ys'
   case neg =>
    have Hn:=Yh (A0.o (fun g=>es (by injection g)));have hq:(xs'==ys')=false:=by rw[Yc];exact es
    have A3:(xs' != ys')=true:=by rw[bne,hq];rfl
    clear es
    cases xp
    ·skip
     go_wp2_with fail;go_quiet (fail);go_wp2_with fail;go_ret;exact⟨Z0 Hn.o,below_drewN HB.o _⟩
    ·skip
     go_wp2_with fail;go_quiet (fail);go_wp2_with fail;go_ret;exact⟨Z0 Hn.o,below_drewN HB.o _⟩
   subst es;have Hx:=Yh (A2.o rfl)
   cases xp
   ·skip
    go_wp2_with fail;go_quiet (fail);go_wp2_with fail;go_roundw
    case rel=>exact⟨k+1,by omega,by go_num,Hx,Yh (below_drewN HB.o _)⟩
    case measure=>first|(simp[intOf];done)|(simp[intOf];omega)
   ·skip
    go_wp2_with fail;go_quiet (fail);go_wp2_with fail;go_roundw
    case rel=>exact⟨k+1,by omega,by go_num,Hx,Yh (below_drewN HB.o _)⟩
    case measure=>first|(simp[intOf];done)|(simp[intOf];omega)
  ·obtain rfl:k=n:=by omega
   have Hn:=Yh (show true=r by
    rw[<-HR.o];symm;rw[decide_eq_true_iff];exact List.ext_getElem (HN.o.trans HM.o.symm) (fun j h1 h2=>Hall.o j h1 h2 (by rw[<-HN.o];exact h1)))
   go_wp2_with fail;go_ret;exact⟨Z0 Hn.o,HB.o⟩
set_option maxRecDepth 100000 in
theorem Zx3(u v:Un)(ao no bo mo:Option Addr)(ac nc bc mc:Nat)(w:World)(hU:UnC w ao no ac nc u)(hV:UnC w bo mo bc mc v) :
  Calls Tryz.prog 12 #[unV u ao ac no nc,unV v bo bc mo mc] w fun e w'=>e=.returned (.bool (decide (u=v)))/\Below w.heap.size w w':=by
 obtain⟨R,hR⟩:∃R,decide (u=v)=R:=⟨_,rfl⟩
 rw[hR];have HR:=Yh hR;have HU:=Yh hU;have HV:=Yh hV;have An:=hU.nl;have Ao:=hV.nl;obtain⟨w1,h1,k1,q1,z1⟩:=YA w #[.slice ao u.types.length ac,.slice no u.named.length nc] 25;obtain⟨w2,h2,k2,q2,z2⟩:=YA w1 #[.slice bo v.types.length bc,.slice mo v.named.length mc] 25;have B2:=Yh (q1.trans (q2.mono q1.size));have A8:=ZN9 u.types v.types ao bo ac bc w2 (hU.types.below B2.o) (hV.types.below B2.o) hU.tl hV.tl;obtain⟨n,hn⟩:=Yn (u.named.length);obtain⟨m,hm⟩:=Yn (v.named.length);have HN:=Yh hn;have HM:=Yh hm;unfold unV;rw[hn]at h1 k1 An ⊢;rw[hm]at h2 k2 Ao ⊢;have K1:=Yh (k1.below q2);have K2:=Yh k2;obtain⟨c0,c1⟩:=cell2 (k1.below q2);obtain⟨d0,d1⟩:=cell2 k2;have A1:=@Yh ((u=v->False)->false=R) (fun h=>by rw[<-HR.o,Ya h]);clear k1 k2 q1 q2 z1 z2 hU hV hR hn hm;go_enter Tryz.func12,Tryz.ntmps12
 cases hw:decide (u.types=v.types)<;>rw[hw]at A8<;>have HT:=Yh A8<;>have Ab:=Yh hw<;>clear hw A8
 ·have Hn:=Yh (A1.o fun g=>of_decide_eq_false Ab.o (by rw[g]))
  go_wp2_with fail;refine HT.o.mono ?_;rintro e w3 ⟨rfl,b⟩;have B3:=YT B2 b;clear b h1 h2 c0 c1 d0 d1;go_wp2_with fail;go_ret;exact⟨Z0 Hn.o,B3.o⟩
 by_cases hnm:n=m
 case neg =>
  have Hn:=Yh (A1.o fun g=>hnm (by rw[<-HN.o,<-HM.o,g]));have hq:((n:Int)==(m:Int))=false:=by rw[Yc];omega
  have A3:((n:Int) != (m:Int))=true:=by rw[bne,hq];rfl
  go_wp2_with fail;refine HT.o.mono ?_;rintro e w3 ⟨rfl,b⟩;have B3:=YT B2 b;clear h1 h2 c0 c1 d0 d1;obtain⟨c0,c1⟩:=cell2 (K1.o.below b);obtain⟨d0,d1⟩:=cell2 (K2.o.below b);clear b;go_wp2_with fail;go_ret;exact⟨Z0 Hn.o,B3.o⟩
 subst hnm;go_wp2_with fail;refine HT.o.mono ?_;rintro e w3 ⟨rfl,b⟩;have B3:=YT B2 b;clear h1 h2 c0 c1 d0 d1;have Ac:=Yh (K1.o.below b);have Ad:=Yh (K2.o.below b);obtain⟨c0,c1⟩:=cell2 Ac.o;obtain⟨d0,d1⟩:=cell2 Ad.o;clear b;go_wp2_with fail;clear c0 c1 d0 d1;go_loopw [27] (fun i wr=>∃k:Nat,k<=n/\i=.int .i64 k/\Hi (∀j (h1:j<u.named.length) (h2:j<v.named.length),j<k->u.named[j]=v.named[j])/\Hi (Below w3.heap.size w3 wr)) (fun i _=>n-(intOf i).toNat)
 case atStart=>exact⟨0,Yl _,rfl,Yh (fun j _ _ hj=>absurd hj (Yr _)),Yh (Y8 _ _)⟩
 case round =>
  obtain⟨k,hk,rfl,Hall,HB⟩:=hrel;have BW:=YT B3 HB.o;obtain⟨c0,c1⟩:=cell2 (Ac.o.below HB.o);obtain⟨d0,d1'⟩:=cell2 (Ad.o.below HB.o)
  by_cases hkl:k<n
  ·have Ax:(k:Int)<(n:Int):=by omega
   have Ap:k<u.named.length:=by rw[HN.o];exact hkl
   have Aq:k<v.named.length:=by rw[HM.o];exact hkl
   obtain⟨ab,aof,rfl,hab,hac⟩:=(HU.o.named.below BW.o).cells (by omega);obtain⟨bb,bof,rfl,hbb,hbc⟩:=(HV.o.named.below BW.o).cells (by omega);have Ae:=hac k Ap;have Af:=hbc k Aq;obtain⟨x,hx⟩:=Yn (u.named[k]);obtain⟨y,hy⟩:=Yn (v.named[k]);rw[hx]at Ae;rw[hy]at Af;have A4:=Yh (YH hx hy)
   have A0:=Yh (show x≠y->false=R from fun h=>A1.o fun e=>by
    subst e;exact h (A4.o.1.symm.trans A4.o.2))
   have A9:=Yh (show x=y->∀j (h1:j<u.named.length) (h2:j<v.named.length),j<k+1->u.named[j]=v.named[j]from fun he j h1 h2 hj=>by
    rcases Ym (Ys hj)with h3|h3
    ·exact Hall.o j h1 h2 h3
    ·subst h3;rw[A4.o.1,A4.o.2];exact he)
   obtain⟨xb,xbc,xm,xmc,a0,a1,a2,a3,hxb,-,hxc⟩:=Ae;obtain⟨yb,ybc,ym,ymc,b0',b1',b2',b3',hyb,-,hyc⟩:=Af;obtain⟨w4,h1,k1,q1,z1⟩:=YA wr #[.string x.name,.slice xb x.bounds.length xbc,.int .i64 x.under,.slice xm x.methods.length xmc] 53;obtain⟨w5,h2⟩:=Yn (w4.alloc (.cells #[.string y.name,.slice yb y.bounds.length ybc,.int .i64 y.under,.slice ym y.methods.length ymc] 53));obtain⟨k2,q2',z2⟩:=Za h2;have q2:=q1.trans (q2'.mono q1.size);have b0:=(q1.cell (p:=⟨bb,bof+k*4,none⟩) hbb).trans b0';have b1:=(q1.cell (p:=⟨bb,bof+k*4+1,none⟩) hbb).trans b1';have b2:=(q1.cell (p:=⟨bb,bof+k*4+2,none⟩) hbb).trans b2';have b3:=(q1.cell (p:=⟨bb,bof+k*4+3,none⟩) hbb).trans b3';have d1:=YR q1 d1';have B5:=YT HB q2;have A5:=YT B3 B5.o;have KX:=Yh (k1.below q2');have KY:=Yh k2;have A6:=Yh (hxc.below q2);have A7:=Yh (hyc.below q2);obtain⟨x0,x1,x2,x3⟩:=cell4 (k1.below q2');obtain⟨y0,y1,y2,y3⟩:=cell4 k2;have A2:=ZR8 x.methods y.methods xm ym xmc ymc w5 A6.o.methods A7.o.methods (by have:=A6.o.ok.ml;omega) (by have:=A7.o.ok.ml;omega);have Ar:=A7.o.ok.bl;have As:=A6.o.ok.bl;clear hx hy hac hbc hab hbb hxc hyc k1 k2 q1 q2 q2' z1 z2 b0' b1' b2' b3' d1';obtain⟨p,hp⟩:=Yn (x.bounds.length);obtain⟨q,hq⟩:=Yn (y.bounds.length);have HP:=Yh hp;have HQ:=Yh hq;rw[hp]at a1 h1 x1 As KX hxb;rw[hq]at b1 h2 y1 Ar KY hyb;clear hp hq
   by_cases en:x.name=y.name
   case neg =>
    have Hn:=Yh (A0.o (fun g=>en (by rw[g])));have hq:(x.name.toList==y.name.toList)=false:=(Zk _ _).trans (Ya en);have A3:(x.name.toList != y.name.toList)=true:=by rw[bne,hq];rfl
    clear en;go_wp2_with fail;go_ret;exact⟨Z0 Hn.o,A5.o⟩
   have At:(x.name.toList==y.name.toList)=true:=(Zk _ _).trans (Yb en);have Ay:(x.name.toList != y.name.toList)=false:=by rw[bne,At];rfl
   by_cases eu:x.under=y.under
   case neg =>
    have Hn:=Yh (A0.o (fun g=>eu (by rw[g])));have hq:(x.under==y.under)=false:=by rw[Yc];exact eu
    have A3:(x.under != y.under)=true:=by rw[bne,hq];rfl
    clear en eu;go_wp2_with fail;go_ret;exact⟨Z0 Hn.o,A5.o⟩
   have Au:(x.under==y.under)=true:=by rw[YK];exact eu
   have Az:(x.under != y.under)=false:=by rw[bne,Au];rfl
   by_cases eb:p=q
   case neg =>
    have Hn:=Yh (A0.o (fun g=>eb (by rw[<-HP.o,<-HQ.o,g])));have hq:((p:Int)==(q:Int))=false:=by rw[Yc];omega
    have A3:((p:Int) != (q:Int))=true:=by rw[bne,hq];rfl
    clear en eu;go_wp2_with fail;go_ret;exact⟨Z0 Hn.o,A5.o⟩
   subst eb;have EQ:=Yh (YH en eu);clear en eu
   cases hme:decide (x.methods=y.methods)<;>rw[hme]at A2<;>have Ag:=Yh A2<;>have Ah:=Yh hme<;>clear hme A2
   ·have Hn:=Yh (A0.o (fun g=>of_decide_eq_false Ah.o (by rw[g])))
    go_wp2_with fail;refine Ag.o.mono ?_;rintro e w6 ⟨rfl,b⟩;have B6:=YT A5 b;clear b h1 h2 a0 a1 a2 a3 b0 b1 b2 b3 x0 x1 x2 x3 y0 y1 y2 y3 c0 c1 d0 d1;go_wp2_with fail;go_ret;exact⟨Z0 Hn.o,B6.o⟩
   have Aa:=Yh (show x.bounds=y.bounds->x=y from fun g=>by
    have h3:=Yf Ah.o;have Ai:=EQ.o;obtain⟨c1,c2,c3,c4⟩:=x;obtain⟨d1,d2,d3,d4⟩:=y;rw[Nm.mk.injEq];exact⟨Ai.1,g,Ai.2,h3⟩)
   go_wp2_with fail;refine Ag.o.mono ?_;rintro e w6 ⟨rfl,b⟩;have B6:=YT B5 b;have Aj:=Yh (KX.o.below b);have Ak:=Yh (KY.o.below b);have Av:=Yh (A6.o.bounds.below b);have Aw:=Yh (A7.o.bounds.below b);clear b h1 h2 a0 a1 a2 a3 b0 b1 b2 b3 x0 x1 x2 x3 y0 y1 y2 y3 c0 c1 d0 d1;obtain⟨x0,x1,x2,x3⟩:=cell4 Aj.o;obtain⟨y0,y1,y2,y3⟩:=cell4 Ak.o;go_wp2_with fail;clear x0 x1 x2 x3 y0 y1 y2 y3;go_loopw [72] (fun i wq=>∃g:Nat,g<=p/\i=.int .i64 g/\Hi (∀j,j<g->x.bounds.getD j 0=y.bounds.getD j 0)/\Hi (Below w6.heap.size w6 wq)) (fun i _=>p-(intOf i).toNat)
   case atStart=>exact⟨0,Yl _,rfl,Yh (fun j hj=>absurd hj (Yr _)),Yh (Y8 _ _)⟩
   case round =>
    obtain⟨g,hg,rfl,Hsm,HQ6⟩:=hrel;have BQ:=YT B6 HQ6.o
    by_cases hgl:g<p
    ·have AA:(g:Int)<(p:Int):=by omega
     obtain⟨x0,x1,x2,x3⟩:=cell4 (Aj.o.below HQ6.o);obtain⟨y0,y1,y2,y3⟩:=cell4 (Ak.o.below HQ6.o);obtain⟨ib,io,rfl,hib,hic⟩:=(Av.o.below HQ6.o).cells (by rw[HP.o];omega);obtain⟨jb,jo,rfl,hjb,hjc⟩:=(Aw.o.below HQ6.o).cells (by rw[HQ.o];omega);have e1:=hic g (by rw[HP.o];exact hgl);have e2:=hjc g (by rw[HQ.o];exact hgl);obtain⟨s1,hs1⟩:=Yn (x.bounds.getD g 0);obtain⟨s2,hs2⟩:=Yn (y.bounds.getD g 0);rw[hs1]at e1;rw[hs2]at e2;have Al:=Yh hs1;have Am:=Yh hs2;clear hic hjc hib hjb hs1 hs2
     by_cases ee:s1=s2
     ·have hq:(s1==s2)=true:=by rw[YK];exact ee
      have A3:(s1 != s2)=false:=by rw[bne,hq];rfl
      have Hx:=Yh (show ∀j,j<g+1->x.bounds.getD j 0=y.bounds.getD j 0 from fun j hj=>by
       rcases Ym (Ys hj)with h3|h3
       ·exact Hsm.o j h3
       ·rw[h3,Al.o,Am.o];exact ee)
      clear ee;go_wp2_with fail;go_quiet (fail);go_wp2_with fail;go_roundw
      case rel=>exact⟨g+1,by omega,by go_num,Hx,Yh (below_drewN HQ6.o _)⟩
      case measure=>first|(simp[intOf];done)|(simp[intOf];omega)
     ·have hq:(s1==s2)=false:=by rw[Yc];exact ee
      have A3:(s1 != s2)=true:=by rw[bne,hq];rfl
      have Hn:=Yh (A0.o (fun gg=>ee (by rw[<-Al.o,<-Am.o,gg])));clear ee;go_wp2_with fail;go_quiet (fail);go_wp2_with fail;go_ret;exact⟨Z0 Hn.o,B3.o.trans ((below_drewN BQ.o _).mono B3.o.size)⟩
    ·obtain rfl:g=p:=by omega
     have Hx:=Yh (A9.o (Aa.o (ZK1 (d:=0) (by rw[HP.o,HQ.o]) (fun j hj=>Hsm.o j (by rw[<-HP.o];exact hj)))));go_wp2_with fail;go_roundw
     case rel=>exact⟨k+1,by omega,by go_num,Hx,BQ⟩
     case measure=>first|(simp[intOf];done)|(simp[intOf];omega)
  ·obtain rfl:k=n:=by omega
   have Hn:=Yh (show true=R by
    rw[<-HR.o];symm;rw[decide_eq_true_iff];have h1:=Yf Ab.o;have h2:u.named=v.named:=List.ext_getElem (HN.o.trans HM.o.symm) (fun j h1 h2=>Hall.o j h1 h2 (by rw[<-HN.o];exact h1));obtain⟨a,b⟩:=u;obtain⟨c,d⟩:=v;rw[Un.mk.injEq];exact⟨h1,h2⟩)
   go_wp2_with fail;go_ret;exact⟨Z0 Hn.o,BW.o⟩
end Go.Proofs.YtdcajkagakikiaaGreatDoor
