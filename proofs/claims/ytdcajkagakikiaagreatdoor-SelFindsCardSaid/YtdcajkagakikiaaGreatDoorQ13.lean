import Derived.Test.YtdcajkagakikiaaGreatDoorQ12
namespace Go.Proofs.YtdcajkagakikiaaGreatDoor
set_option maxHeartbeats 64000000
set_option linter.unusedSimpArgs false
set_option linter.unusedVariables false
open Go.RowKit
theorem Zt{R:Bool}(h:R=true->False):false=R:=by cases R with
 | false=>rfl
 | true=>exact(h rfl).elim
theorem oneU_iff{l:List Ty}{n:Nm}:oneU l n=true↔namedB n.name=true/\(n.bounds.length<=16/\n.methods.length<=16)/\underB l n=true/\(∀b∈n.bounds,boundB l n.bounds.length b=true)/\(∀m∈n.methods,methB l n.bounds.length m=true)/\risesB (n.methods.map (·.name))=true:=by
 unfold oneU;simp only[Yd,decide_eq_true_eq,List.all_eq_true]
 constructor
 ·rintro⟨⟨⟨⟨⟨h1,h2⟩,h3⟩,h4⟩,h5⟩,h6⟩;exact⟨h1,h2,h3,h4,h5,h6⟩
 ·rintro⟨h1,h2,h3,h4,h5,h6⟩;exact⟨⟨⟨⟨⟨h1,h2⟩,h3⟩,h4⟩,h5⟩,h6⟩
theorem ZE4{l:List Ty}{z:Nat}(hz:z<l.length)(k:Int):isB l (z:Int) k=decide (kindAt l (z:Int)=k):=by
 unfold isB inL;rw[Yb (by omega),Bool.true_and]
theorem ZA9{l:List Ty}{n:Nm}{z:Nat}(hz:z<l.length)(hu:n.under=(z:Int)):underB l n=true↔fitB l (z:Int) n.bounds.length=true/\nolessB l (z:Int)=true/\(n.methods=[]\/(kindAt l (z:Int)≠7/\kindAt l (z:Int)≠1)):=by
 unfold underB nolessB;rw[hu,ZE4 hz,ZE4 hz,ZE4 hz,ZE4 hz];simp only[Yd,Bool.or_eq_true,Bool.not_eq_true',decide_eq_true_eq,Y1]
 constructor
 ·rintro⟨⟨⟨⟨h1,h2⟩,h3⟩,h4⟩,h5⟩;exact⟨h1,⟨h4,h2,h3⟩,h5⟩
 ·rintro⟨h1,⟨h4,h2,h3⟩,h5⟩;exact⟨⟨⟨⟨h1,h2⟩,h3⟩,h4⟩,h5⟩
theorem Z45{l:List Ty}{i:Int}{most:Nat}(h:fitB l i most=true):0<=i/\i<(l.length:Int):=by
 unfold fitB inL at h;rw[Yd]at h;exact Yf h.1
theorem boundB_iff{l:List Ty}{most:Nat}{i:Int}:boundB l most i=true↔fitB l i most=true/\kindAt l i=7:=by
 unfold boundB isB;simp only[Yd,decide_eq_true_eq]
 constructor
 ·rintro⟨⟨h1,h2⟩,h3⟩;exact⟨h3,h2⟩
 ·rintro⟨h1,h2⟩
  refine⟨⟨?_,h2⟩,h1⟩;unfold fitB at h1;rw[Yd]at h1;exact h1.1
theorem methB_iff{l:List Ty}{most:Nat}{m:Mt}:methB l most m=true↔nameB m.name=true/\fitB l m.sig most=true/\kindAt l m.sig=5:=by
 unfold methB isB;simp only[Yd,decide_eq_true_eq]
 constructor
 ·rintro⟨⟨h0,⟨h1,h2⟩⟩,h3⟩;exact⟨h0,h3,h2⟩
 ·rintro⟨h0,h1,h2⟩
  refine⟨⟨h0,⟨?_,h2⟩⟩,h1⟩;unfold fitB at h1;rw[Yd]at h1;exact h1.1
theorem ZK4{ms:List Mt}{i:Nat}(h:i<ms.length):(ms.map (·.name)).getD i ⟨#[]⟩=ms[i].name:=by
 rw[Z3 (by rw[Yg];exact h),List.getElem_map]
theorem Za3{ms:List Mt}{k p:Nat}(hk:k<ms.length)(hp:k=p+1):riseB (ms.map (·.name)) k=lessB ms[p].name ms[k].name:=by
 subst hp;unfold riseB;rw[Ya (by omega),Bool.false_or,Nat.add_sub_cancel,ZK4 hk,ZK4 (by omega)]
theorem ZL1{xs:List ByteArray}(h:risesB xs=true){k:Nat}(hk:k<xs.length):riseB xs k=true:=List.all_eq_true.1 h k (List.mem_range.2 hk)
theorem Zp1{xs:List ByteArray}(h:∀k,k<xs.length->riseB xs k=true):risesB xs=true:=List.all_eq_true.2 fun k hk=>h k (List.mem_range.1 hk)
theorem Zl1{u v:ByteArray}:lessB v u = !(Op.bytesLess u.toList v.toList||u.toList==v.toList):=Zs4 u.toList v.toList
theorem cell3m{w:World}{b:Nat}{a0 a1 a2:Value}{T:TypeId}(h:BlockAt w b #[a0,a1,a2] T):w.cell? ⟨b,0,none⟩=some a0/\w.cell? ⟨b,1,none⟩=some a1/\w.cell? ⟨b,2,none⟩=some a2:=⟨h.cell 0,h.cell 1,h.cell 2⟩
set_option maxRecDepth 100000 in
theorem Zw9(l:List Ty)(ao:Option Addr)(ac:Nat)(n:Nm)(bo mo:Option Addr)(bc mc qb:Nat)(w:World)(hl:ARow w ao l)(hr:rightT l=true)(hac:l.length<=ac)(hq:AskC w qb l)(hn:NmC w bo mo n)(hbc:n.bounds.length<=bc)(hmc:n.methods.length<=mc)(hm:MaxAt w) :
  Calls Tryz.prog 85 #[.slice ao l.length ac,.slice (some ⟨qb,0,none⟩) l.length l.length,nmV n bo bc mo mc] w fun e w'=>e=.returned (.bool (oneU l n))/\Below w.heap.size w w':=by
 obtain⟨R,hR⟩:=Yn (oneU l n);rw[hR];have HR:=Yh hR;clear hR;unfold nmV;have ll:=(right_step hr).1;obtain⟨L,hL⟩:=Yn (l.length);obtain⟨nb,hnb⟩:=Yn (n.bounds.length);obtain⟨nm,hnm⟩:=Yn (n.methods.length);obtain⟨s,hs⟩:=Yn (n.name);obtain⟨ud,hud⟩:=Yn (n.under);have HL:=Yh hL;have A1:=Yh hnb;have A8:=Yh hnm;have HS:=Yh hs;have AD:=Yh hud;have l1:=hn.ok.bl;have l2:=hn.ok.ml;have l3:=hn.ok.nl;rw[hnb]at l1 hbc ⊢;rw[hnm]at l2 hmc ⊢;rw[hs]at l3 ⊢;rw[hL]at ll ⊢;rw[hud];have HN:=Yh hn;have HA:=Yh hl;obtain⟨w1,h1,k1,q1,z1⟩:=YA w #[.slice ao L ac] 22;obtain⟨w2,h2,k2,q2,z2⟩:=YA w1 #[.slice (some ⟨qb,0,none⟩) L L] 26;obtain⟨w3,h3,k3,q3,z3⟩:=YA w2 #[.string s,.slice bo nb bc,.int .i64 ud,.slice mo nm mc] 53;have B2:=q1.trans (q2.mono q1.size);have B3:=Yh (B2.trans (q3.mono B2.size));have K1:=Yh ((k1.below q2).below q3);have K2:=Yh (k2.below q3);have K3:=Yh k3;obtain⟨y0,y1,y2,y3⟩:=cell4 k3;have Af:=Yh (Z77 s w3 (by omega) (hm.below B3.o))
 have Ak:∀(i:Int) W,Below w3.heap.size w3 W->Calls Tryz.prog 110 #[.int .i64 i,.pointer (some ⟨w.heap.size,0,none⟩),.pointer (some ⟨w1.heap.size,0,none⟩),.pointer (some ⟨w2.heap.size,0,none⟩)] W fun e w'=>e=.returned (.bool (fitB l i nb))/\∃n,w'=W.drewN n:=fun i W hb =>
  ZB9 l ao bo ac bc nb w.heap.size w1.heap.size w2.heap.size qb i W hac (by rw[hL];omega) ((hq.below B3.o).below hb) (by rw[hL];exact(hb.cell K1.o.lt).trans (K1.o.cell 0)) (by rw[hL];exact(hb.cell K2.o.lt).trans (K2.o.cell 0)) ((hb.cell K3.o.lt).trans (K3.o.cell 1))
 have Av:=Yh Ak
 have Al:∀(z:Nat) W,Below w3.heap.size w3 W->z<L->Calls Tryz.prog 111 #[.slice ao L ac,.int .i64 z] W fun e w'=>e=.returned (.bool (nolessB l (z:Int)))/\W=w':=fun z W hb hz=>by
  have:=Zl8 l ao ac z W ((hl.below B3.o).below hb) hac (by rw[hL];omega) (by rw[hL];exact hz);rw[hL]at this;exact this
 have AN:=Yh Al;rw[hL]at hac;clear Ak Al hL hnb hnm hs hud hn hl hq hm hr k1 k2 k3 q1 q2 q3 z1 z2 z3 B2;go_enter Tryz.func85,Tryz.ntmps85
 cases hnb:namedB s
 ·have HV:=Yh (Zt (R:=R) fun g=>by
   have:=(oneU_iff.1 (HR.o.trans g)).1;rw[HS.o,hnb]at this
   cases this)
  rw[hnb]at Af;clear hnb;go_wp2_with fail;refine Af.o.mono ?_;rintro e w4 ⟨rfl,b4⟩;have B4:=YT B3 b4;clear b4 h1 h2 h3 y0 y1 y2 y3;go_wp2_with fail;go_ret;exact⟨Z0 HV.o,B4.o⟩
 have NB:=Yh hnb;rw[hnb]at Af;clear hnb
 by_cases c1:16<nb
 ·have HV:=Yh (Zt (R:=R) fun g=>by
   have:=(oneU_iff.1 (HR.o.trans g)).2.1.1;rw[A1.o]at this
   omega)
  have AO:decide ((16:Int)<(nb:Int))=true:=Yb (by omega);go_wp2_with fail;refine Af.o.mono ?_;rintro e w4 ⟨rfl,b4⟩;have B4:=YT B3 b4;obtain⟨y0,y1,y2,y3⟩:=cell4 (K3.o.below b4);clear b4 h1 h2 h3;go_wp2_with fail;go_ret;exact⟨Z0 HV.o,B4.o⟩
 have AO:decide ((16:Int)<(nb:Int))=false:=Ya (by omega)
 by_cases c2:16<nm
 ·have HV:=Yh (Zt (R:=R) fun g=>by
   have:=(oneU_iff.1 (HR.o.trans g)).2.1.2;rw[A8.o]at this
   omega)
  have AP:decide ((16:Int)<(nm:Int))=true:=Yb (by omega);go_wp2_with fail;refine Af.o.mono ?_;rintro e w4 ⟨rfl,b4⟩;have B4:=YT B3 b4;obtain⟨y0,y1,y2,y3⟩:=cell4 (K3.o.below b4);clear b4 h1 h2 h3;go_wp2_with fail;go_ret;exact⟨Z0 HV.o,B4.o⟩
 have AP:decide ((16:Int)<(nm:Int))=false:=Ya (by omega);go_wp2_with fail;refine Af.o.mono ?_;rintro e w4 ⟨rfl,b4⟩;have B4:=Yh b4;obtain⟨y0,y1,y2,y3⟩:=cell4 (K3.o.below b4);clear b4 h1 h2 h3;go_wp2_with fail;go_loopw [33] (fun v wr=>∃k:Nat,k<=nb/\v=.int .i64 k/\Hi (∀j,j<k->boundB l nb (n.bounds.getD j 0)=true)/\Hi (Below w3.heap.size w3 wr)) (fun v _=>nb-(intOf v).toNat)
 case atStart=>exact⟨0,Yl _,rfl,Yh (fun j hj=>absurd hj (Yr _)),B4⟩
 case round =>
  obtain⟨k,hk,rfl,Hall,HB⟩:=hrel;have BW:=YT B3 HB.o
  by_cases hkn:k<nb
  ·have AQ:(k:Int)<(nb:Int):=by omega
   have AE:k<n.bounds.length:=by rw[A1.o];exact hkn
   obtain⟨ib,iof,rfl,hib,hic⟩:=(HN.o.bounds.below BW.o).cells (by omega);have ck:=hic k AE;obtain⟨i,hi⟩:=Yn (n.bounds.getD k 0);have HI:=Yh hi;rw[hi]at ck;have A2:=Av.o i wr HB.o;have kl:=(HB.o.cell (p:=⟨w.heap.size,0,none⟩) K1.o.lt).trans (K1.o.cell 0);clear hi hic hib
   have Ag:=Yh (show boundB l nb i=false->false=R from fun h=>Zt fun g=>by
    have:=(oneU_iff.1 (HR.o.trans g)).2.2.2.1 _ (Zd AE);rw[HI.o,A1.o,h]at this
    cases this)
   cases hf:fitB l i nb
   ·have HV:=Yh (Ag.o (by cases hb:boundB l nb i;rfl;rw[(boundB_iff.1 hb).1]at hf;cases hf))
    rw[hf]at A2;have HC:=Yh A2;clear A2 hf;go_wp2_with fail;refine HC.o.mono ?_;rintro e w5 ⟨rfl,nq,rfl⟩;go_wp2_with fail;go_ret;exact⟨Z0 HV.o,below_drewN BW.o nq⟩
   ·have Aw:=Z45 hf
    rw[HL.o]at Aw;rw[hf]at A2;have HC:=Yh A2;have HF:=Yh hf;clear A2 hf;obtain⟨z,rfl⟩:∃z:Nat,i=(z:Int):=⟨i.toNat,by omega⟩
    have As:z<L:=by omega
    have Ah:z<l.length:=by rw[HL.o];exact As
    obtain⟨ab,aof,rfl,hab,hac2⟩:=(HA.o.below BW.o).cells (by omega);obtain⟨_,_,_,_,ca,-⟩:=hac2 z Ah;obtain⟨X,hX⟩:=Yn (l[z].kind);rw[hX]at ca;have HX:=@Yh (kindAt l (z:Int)=X) (by rw[Ze Ah];exact hX);clear hX hac2 hab
    by_cases h7:X=7
    ·have q7:(X != 7)=false:=by rw[bne_eq_false_iff_eq];exact h7
     have Am:=Yh (show ∀j,j<k+1->boundB l nb (n.bounds.getD j 0)=true from fun j hj=>by
      rcases Ym (Ys hj)with h|h
      ·exact Hall.o j h
      ·rw[h,HI.o,boundB_iff,HX.o];exact⟨HF.o,h7⟩)
     clear h7;go_wp2_with fail;refine HC.o.mono ?_;rintro e w5 ⟨rfl,nq,rfl⟩;have AR:=Yh (below_drewN HB.o nq);go_wp2_with fail;go_roundw
     case rel=>exact⟨k+1,by omega,by go_num,Am,AR⟩
     case measure=>first|(simp[intOf];done)|(simp[intOf];omega)
    ·have q7:(X != 7)=true:=by rw[YJ];exact h7
     have HV:=Yh (Ag.o (by
      cases hb:boundB l nb (z:Int)
      ·rfl
      ·have:=(boundB_iff.1 hb).2;rw[HX.o]at this;exact absurd this h7))
     clear h7;go_wp2_with fail;refine HC.o.mono ?_;rintro e w5 ⟨rfl,nq,rfl⟩;go_wp2_with fail;go_ret;exact⟨Z0 HV.o,below_drewN BW.o nq⟩
  ·obtain rfl:k=nb:=by omega
   have AF:=Yh (show ∀b∈n.bounds,boundB l k b=true from fun b hb=>by
    obtain⟨j,hj,rfl⟩:=List.getElem_of_mem hb;have:=Hall.o j (by rw[<-A1.o];exact hj)
    rwa [Z3 hj]at this)
   have A2:=Av.o ud wr HB.o;have kl:=(HB.o.cell (p:=⟨w.heap.size,0,none⟩) K1.o.lt).trans (K1.o.cell 0);obtain⟨y0,y1,y2,y3⟩:=cell4 (K3.o.below HB.o)
   have Ag:=Yh (show underB l n=false->false=R from fun h=>Zt fun g=>by
    have:=(oneU_iff.1 (HR.o.trans g)).2.2.1;rw[h]at this
    cases this)
   cases hf:fitB l ud k
   ·have HV:=Yh (Ag.o (by unfold underB;rw[AD.o,A1.o,hf];rfl))
    rw[hf]at A2;have HC:=Yh A2;clear A2 hf Hall;go_wp2_with fail;refine HC.o.mono ?_;rintro e w5 ⟨rfl,nq,rfl⟩;go_wp2_with fail;go_ret;exact⟨Z0 HV.o,below_drewN BW.o nq⟩
   have Aw:=Z45 hf;rw[HL.o]at Aw;rw[hf]at A2;have HC:=Yh A2;have HF:=Yh hf;clear A2 hf;obtain⟨z,rfl⟩:∃z:Nat,ud=(z:Int):=⟨ud.toNat,by omega⟩
   have As:z<L:=by omega
   have Ah:z<l.length:=by rw[HL.o];exact As
   have At:=Yh (ZA9 Ah AD.o);have A3:=fun m=>AN.o z (wr.drewN m) (below_drewN HB.o m) As
   cases hno:nolessB l (z:Int)
   ·have HV:=Yh (Ag.o (by
     cases hb:underB l n
     ·rfl
     ·have:=(At.o.1 hb).2.1;rw[hno]at this;cases this))
    rw[hno]at A3;have Ax:=Yh A3;clear A3 hno Hall;go_wp2_with fail;refine HC.o.mono ?_;rintro e w5 ⟨rfl,nq,rfl⟩;have kl:=((below_drewN HB.o nq).cell (p:=⟨w.heap.size,0,none⟩) K1.o.lt).trans (K1.o.cell 0);obtain⟨y0,y1,y2,y3⟩:=cell4 (K3.o.below (below_drewN HB.o nq));go_wp2_with fail;refine(Ax.o _).mono ?_;rintro e w6 ⟨rfl,rfl⟩;go_wp2_with fail;go_ret;exact⟨Z0 HV.o,below_drewN BW.o nq⟩
   rw[hno]at A3;have Ax:=Yh A3;have AG:=Yh hno;clear A3 hno Hall;obtain⟨ab,aof,rfl,hab,hac2⟩:=(HA.o.below BW.o).cells (by omega);obtain⟨_,_,_,_,ca,-⟩:=hac2 z Ah;obtain⟨X,hX⟩:=Yn (l[z].kind);rw[hX]at ca;have HX:=@Yh (kindAt l (z:Int)=X) (by rw[Ze Ah];exact hX);clear hX hac2;go_wp2_with fail;refine HC.o.mono ?_;rintro e w5 ⟨rfl,nq,rfl⟩;have An:=Yh (below_drewN HB.o nq);have kl:=(An.o.cell (p:=⟨w.heap.size,0,none⟩) K1.o.lt).trans (K1.o.cell 0);obtain⟨y0,y1,y2,y3⟩:=cell4 (K3.o.below An.o);have Ai:=((below_drewN (Y8 _ wr) nq).cell (p:=⟨ab,aof+z*5,none⟩) hab).trans ca;clear hab ca;go_wp2_with fail;refine(Ax.o _).mono ?_;rintro e w6 ⟨rfl,rfl⟩;have AH:=YT B3 An.o
   by_cases m0:nm=0
   ·have Ay:=@Yh (underB l n=true) (At.o.2 ⟨by rw[A1.o];exact HF.o,AG.o,.inl (Yp (by rw[A8.o];exact m0))⟩)
    subst m0;go_wp2_with fail;clear kl y0 y1 y2 y3 Ai;go_loopw [83] (fun v wr=>v=.int .i64 0/\Hi (Below w3.heap.size w3 wr)) (fun v _=>0)
    case atStart=>exact⟨rfl,An⟩
    case round =>
     obtain⟨rfl,HB6⟩:=hrel;have Au:=YT B3 HB6.o;have Ao:=Yh (Yp A8.o)
     have HV:=Yh (show true=R by
      rw[<-HR.o];exact(oneU_iff.2 ⟨by rw[HS.o];exact NB.o,⟨by rw[A1.o];omega,by rw[A8.o];omega⟩,Ay.o,by rw[A1.o];exact AF.o,(fun m hm=>by rw[Ao.o]at hm;exact absurd hm (by simp)),by rw[Ao.o];rfl⟩).symm)
     go_wp2_with fail;go_ret;exact⟨Z0 HV.o,Au.o⟩
   ·have AV:decide ((0:Int)<(nm:Int))=true:=Yb (by omega)
    have AS:0<nm:=by omega
    have AI:=Yh (show X=7\/X=1->false=R from fun h=>Ag.o (by
     cases hb:underB l n
     ·rfl
     ·rcases(At.o.1 hb).2.2 with g|g
      ·have:=A8.o
       rw[g]at this;exact absurd this.symm m0
      ·rw[HX.o]at g;omega))
    clear m0
    by_cases h7:X=7
    ·have q7:(X==7)=true:=by rw[YK];exact h7
     have HV:=Yh (AI.o (.inl h7));clear h7;go_wp2_with fail;go_ret;exact⟨Z0 HV.o,AH.o⟩
    have q7:(X==7)=false:=by rw[Yc];exact h7
    by_cases h1:X=1
    ·have q1:(X==1)=true:=by rw[YK];exact h1
     have HV:=Yh (AI.o (.inr h1));clear h1 h7;go_wp2_with fail;go_ret;exact⟨Z0 HV.o,AH.o⟩
    have q1:(X==1)=false:=by rw[Yc];exact h1
    have Ay:=@Yh (underB l n=true) (At.o.2 ⟨by rw[A1.o];exact HF.o,AG.o,.inr (by rw[HX.o];exact⟨h7,h1⟩)⟩);clear h1 h7;go_wp2_with fail;clear kl y0 y1 y2 y3 Ai;go_loopw [83] (fun v wr=>∃k2:Nat,k2<=nm/\v=.int .i64 k2/\Hi (∀j (hj:j<n.methods.length),j<k2->methB l k n.methods[j]=true/\riseB (n.methods.map (·.name)) j=true)/\Hi (Below w3.heap.size w3 wr)) (fun v _=>nm-(intOf v).toNat)
    case atStart=>exact⟨0,Yl _,rfl,Yh (fun j _ hj=>absurd hj (Yr _)),An⟩
    case round =>
     obtain⟨k2,hk2,rfl,Hall,HB6⟩:=hrel;have Au:=YT B3 HB6.o
     by_cases hkm:k2<nm
     ·have AQ:(k2:Int)<(nm:Int):=by omega
      have A5:k2<n.methods.length:=by rw[A8.o];exact hkm
      obtain⟨mb,mof,rfl,hmb,hmcell⟩:=(HN.o.methods.below Au.o).cells (by omega);obtain⟨m0,m1,m2⟩:=hmcell k2 A5;have AT:=Yh hmcell;clear hmcell;obtain⟨x,hx⟩:=Yn (n.methods[k2]);rw[hx]at m0 m1 m2;have Az:=Yh hx;have AJ:=(HN.o.ok.ms _ (Yq A5)).1;rw[hx]at AJ;obtain⟨u,hu⟩:=Yn (x.name);obtain⟨sg,hsg⟩:=Yn (x.sig);have HU:=Yh hu;have Ab:=Yh hsg;rw[hu]at m0 AJ;rw[hsg]at m2;obtain⟨wn,hwn,kx,qx,zx⟩:=YA wr #[.string u,.bool x.ptr,.int .i64 sg] 112;obtain⟨d0,d1,d2⟩:=cell3m kx;have Aj:=YT HB6 qx;have A9:=YT B3 Aj.o;obtain⟨y0,y1,y2,y3⟩:=cell4 (K3.o.below Aj.o);have kl:=(Aj.o.cell (p:=⟨w.heap.size,0,none⟩) K1.o.lt).trans (K1.o.cell 0);have A0:∀m,Calls Tryz.prog 110 #[.int .i64 sg,.pointer (some ⟨w.heap.size,0,none⟩),.pointer (some ⟨w1.heap.size,0,none⟩),.pointer (some ⟨w2.heap.size,0,none⟩)] (wn.drewN m) fun e w'=>e=.returned (.bool (fitB l sg k))/\∃q,w'=wn.drewN q:=fun m=>(Av.o sg (wn.drewN m) (below_drewN Aj.o m)).mono fun _ _ h=>⟨h.1,by obtain⟨q,hq⟩:=h.2;exact⟨m+q,by rw[hq,World.drewN_drewN]⟩⟩
      have Ac:∀W,Calls Tryz.prog 18 #[.string u] W fun e w'=>e=.returned (.bool (nameB u))/\w'=W:=fun W=>(Zp0 u W (by omega)).mono fun _ _ h=>⟨h.1,h.2.symm⟩
      have A6:=Yh (show ¬(methB l k x=true)->false=R from fun h=>Zt fun g=>h (by
       have:=(oneU_iff.1 (HR.o.trans g)).2.2.2.2.1 _ (Yq A5);rw[Az.o,A1.o]at this;exact this))
      have Ap:=Yh (show riseB (n.methods.map (·.name)) k2=false->false=R from fun h=>Zt fun g=>by
       have:=ZL1 (oneU_iff.1 (HR.o.trans g)).2.2.2.2.2 (k:=k2) (by rw[Yg];exact A5);rw[h]at this
       cases this)
      have Aq:=Yh (show methB l k x=true->riseB (n.methods.map (·.name)) k2=true->∀j (hj:j<n.methods.length),j<k2+1->methB l k n.methods[j]=true/\riseB (n.methods.map (·.name)) j=true from fun h1 h2 j hj h=>by
       rcases Ym (Ys h)with c|c
       ·exact Hall.o j hj c
       ·subst c;rw[Az.o];exact⟨h1,h2⟩)
      clear hx hu hsg kx qx zx
      cases hna:nameB u<;>rw[hna]at Ac<;>have NA:=Yh hna<;>have Aa:=Yh Ac<;>clear hna Ac
      ·have HV:=Yh (A6.o (fun g=>by have:=(methB_iff.1 g).1;rw[HU.o,NA.o]at this;cases this))
       have A4:=Yh A0;clear A0;go_wp2_with fail;go_quiet (first|(go_at_call 18;exact Calls.quiet_of_same (Aa.o _))|(go_at_call 110;exact A4.o _));go_wp2_with fail;go_ret;exact⟨Z0 HV.o,below_drewN A9.o _⟩
      by_cases h0:k2=0
      ·subst h0
       rw[Nat.zero_mul,Nat.add_zero]at m0 m1 m2;have RI:=@Yh (riseB (n.methods.map (·.name)) 0=true) (rfl)
       cases hf2:fitB l sg k<;>rw[hf2]at A0<;>have FF:=Yh hf2<;>have A4:=Yh A0
       ·have HV:=Yh (A6.o (fun g=>by have:=(methB_iff.1 g).2.1;rw[Ab.o,FF.o]at this;cases this))
        clear A0 hf2;go_wp2_with fail;go_quiet (first|(go_at_call 18;exact Calls.quiet_of_same (Aa.o _))|(go_at_call 110;exact A4.o _));go_wp2_with fail;go_ret;exact⟨Z0 HV.o,below_drewN A9.o _⟩
       ·have Ad:=Z45 hf2
        rw[HL.o]at Ad;clear A0 hf2;obtain⟨z2,rfl⟩:∃z2:Nat,sg=(z2:Int):=⟨sg.toNat,by omega⟩
        have Ae:z2<L:=by omega
        have A7:z2<l.length:=by rw[HL.o];exact Ae
        obtain⟨ab2,aof2,hae,hab2,hac3⟩:=(HA.o.below A9.o).cells (by omega)
        injection hae with hae
        injection hae with hae1 hae2
        subst hae1;subst hae2;obtain⟨_,_,_,_,Ai,-⟩:=hac3 z2 A7;obtain⟨X2,hX2⟩:=Yn (l[z2].kind);rw[hX2]at Ai;have Ar:=@Yh (kindAt l (z2:Int)=X2) (by rw[Ze A7];exact hX2);clear hX2 hac3 hab2
        by_cases h5:X2=5
        ·have q5:(X2 != 5)=false:=by rw[bne_eq_false_iff_eq];exact h5
         have Hx:=Yh (Aq.o (methB_iff.2 ⟨by rw[HU.o];exact NA.o,by rw[Ab.o];exact FF.o,by rw[Ab.o,Ar.o];exact h5⟩) RI.o);clear h5;go_wp2_with fail;go_quiet (first|(go_at_call 18;exact Calls.quiet_of_same (Aa.o _))|(go_at_call 110;exact A4.o _));go_wp2_with fail;go_roundw
         case rel=>exact⟨0+1,by omega,by go_num,Hx,Yh (below_drewN Aj.o _)⟩
         case measure=>first|(simp[intOf];done)|(simp[intOf];omega)
        ·have q5:(X2 != 5)=true:=by rw[YJ];exact h5
         have HV:=Yh (A6.o (fun g=>by have:=(methB_iff.1 g).2.2;rw[Ab.o,Ar.o]at this;exact h5 this));clear h5;go_wp2_with fail;go_quiet (first|(go_at_call 18;exact Calls.quiet_of_same (Aa.o _))|(go_at_call 110;exact A4.o _));go_wp2_with fail;go_ret;exact⟨Z0 HV.o,below_drewN A9.o _⟩
      ·obtain⟨p,hp⟩:∃p,k2=p+1:=⟨k2-1,by omega⟩
       have AU:p<n.methods.length:=by omega
       have AW:p<nm:=by omega
       have AX:(p:Int)<(nm:Int):=by omega
       have cp:=(AT.o p AU).1;obtain⟨v,hv⟩:=Yn (n.methods[p].name);rw[hv]at cp;have AY:=((show Below wr.heap.size wr wn from by rw[<-hwn];exact(Y8 _ _).alloc (Yk _) _).cell (p:=⟨mb,mof+p*3,none⟩) hmb).trans cp;have AA:(0:Int)<(k2:Int):=by omega
       have AK:decide ((0:Int)<(k2:Int))=true:=Yb AA;have AL:0<k2:=by omega
       have AB:(k2:Int)-1=(p:Int):=by omega
       have AM:IntKind.i64.wrap ((k2:Int)-1)=(p:Int):=by rw[AB];exact IntWalk.i64_in _ (by omega)
       have AC:=@Yh (riseB (n.methods.map (·.name)) k2=lessB v u) (by rw[Za3 A5 hp,hv];congr 1;rw[Az.o,HU.o]);clear hp hv cp h0
       cases hls:Op.bytesLess u.toList v.toList
       ·have LS:=Yh hls
        cases heq:(u.toList==v.toList)
        ·have EQ:=Yh heq
         have RI:=@Yh (riseB (n.methods.map (·.name)) k2=true) (by rw[AC.o,Zl1,LS.o,EQ.o];rfl)
         cases hf2:fitB l sg k<;>rw[hf2]at A0<;>have FF:=Yh hf2<;>have A4:=Yh A0
         ·have HV:=Yh (A6.o (fun g=>by have:=(methB_iff.1 g).2.1;rw[Ab.o,FF.o]at this;cases this))
          clear A0 hf2;go_wp2_with fail;go_quiet (first|(go_at_call 18;exact Calls.quiet_of_same (Aa.o _))|(go_at_call 110;exact A4.o _));go_wp2_with fail;go_ret;exact⟨Z0 HV.o,below_drewN A9.o _⟩
         ·have Ad:=Z45 hf2
          rw[HL.o]at Ad;clear A0 hf2;obtain⟨z2,rfl⟩:∃z2:Nat,sg=(z2:Int):=⟨sg.toNat,by omega⟩
          have Ae:z2<L:=by omega
          have A7:z2<l.length:=by rw[HL.o];exact Ae
          obtain⟨ab2,aof2,hae,hab2,hac3⟩:=(HA.o.below A9.o).cells (by omega)
          injection hae with hae
          injection hae with hae1 hae2
          subst hae1;subst hae2;obtain⟨_,_,_,_,Ai,-⟩:=hac3 z2 A7;obtain⟨X2,hX2⟩:=Yn (l[z2].kind);rw[hX2]at Ai;have Ar:=@Yh (kindAt l (z2:Int)=X2) (by rw[Ze A7];exact hX2);clear hX2 hac3 hab2
          by_cases h5:X2=5
          ·have q5:(X2 != 5)=false:=by rw[bne_eq_false_iff_eq];exact h5
           have Hx:=Yh (Aq.o (methB_iff.2 ⟨by rw[HU.o];exact NA.o,by rw[Ab.o];exact FF.o,by rw[Ab.o,Ar.o];exact h5⟩) RI.o);clear h5;go_wp2_with fail;go_quiet (first|(go_at_call 18;exact Calls.quiet_of_same (Aa.o _))|(go_at_call 110;exact A4.o _));go_wp2_with fail;go_roundw
           case rel=>exact⟨k2+1,by omega,by go_num,Hx,Yh (below_drewN Aj.o _)⟩
           case measure=>first|(simp[intOf];done)|(simp[intOf];omega)
          ·have q5:(X2 != 5)=true:=by rw[YJ];exact h5
           have HV:=Yh (A6.o (fun g=>by have:=(methB_iff.1 g).2.2;rw[Ab.o,Ar.o]at this;exact h5 this));clear h5;go_wp2_with fail;go_quiet (first|(go_at_call 18;exact Calls.quiet_of_same (Aa.o _))|(go_at_call 110;exact A4.o _));go_wp2_with fail;go_ret;exact⟨Z0 HV.o,below_drewN A9.o _⟩
        ·have EQ:=Yh heq
         have HV:=Yh (Ap.o (by rw[AC.o,Zl1,LS.o,EQ.o];rfl));have A4:=Yh A0;clear A0;go_wp2_with fail;go_quiet (first|(go_at_call 18;exact Calls.quiet_of_same (Aa.o _))|(go_at_call 110;exact A4.o _));go_wp2_with fail;go_ret;exact⟨Z0 HV.o,below_drewN A9.o _⟩
       ·have LS:=Yh hls
        have HV:=Yh (Ap.o (by rw[AC.o,Zl1,LS.o];rfl));have A4:=Yh A0;clear A0;go_wp2_with fail;go_quiet (first|(go_at_call 18;exact Calls.quiet_of_same (Aa.o _))|(go_at_call 110;exact A4.o _));go_wp2_with fail;go_ret;exact⟨Z0 HV.o,below_drewN A9.o _⟩
     ·obtain rfl:k2=nm:=by omega
      have HV:=Yh (show true=R by
       rw[<-HR.o]
       exact(oneU_iff.2 ⟨by rw[HS.o];exact NB.o,⟨by rw[A1.o];omega,by rw[A8.o];omega⟩,Ay.o,by rw[A1.o];exact AF.o,fun m hm=>by
        obtain⟨j,hj,rfl⟩:=List.getElem_of_mem hm;rw[A1.o];exact(Hall.o j hj (by rw[<-A8.o];exact hj)).1,Zp1 fun j hj=>(Hall.o j (by rw[Yg]at hj;exact hj) (by rw[Yg]at hj;rw[<-A8.o];exact hj)).2⟩).symm)
      go_wp2_with fail;go_ret;exact⟨Z0 HV.o,Au.o⟩
theorem Zt2{ns:List Nm}{t:Ty}(h:t.kind≠8):fitsU ns t=true:=by unfold fitsU;rw[Yb h];rfl
theorem ZF2{ns:List Nm}{t:Ty}(hr:risesB (namesU ns)=true)(h8:t.kind=8):fitsU ns t=(foundU ns t.name&&decide ((ns.getD (lowU (namesU ns) t.name) ⟨⟨#[]⟩,[],0,[]⟩).bounds.length=t.kids.length)):=by
 unfold fitsU foundU;rw[Ya (fun g=>g h8),Bool.false_or,ZFb (show risesB (ns.map (·.name))=true from hr)];obtain⟨L,hL⟩:=Yn (lowU (namesU ns) t.name);rw[show lowU (ns.map (·.name)) t.name=L from hL,hL]
 by_cases c:L<ns.length
 ·have e:(namesU ns).getD L ⟨#[]⟩=(ns.getD L ⟨⟨#[]⟩,[],0,[]⟩).name:=by rw[ZP0 c,Z3 c]
  rw[e];obtain⟨x,hx⟩:=Yn (ns.getD L ⟨⟨#[]⟩,[],0,[]⟩);rw[hx]
  by_cases d:x.name=t.name
  ·rw[if_pos ⟨c,d⟩,Yw,hx]
   simp[c,d]
  ·rw[if_neg (fun g=>d g.2)]
   simp[d]
 ·rw[if_neg (fun g=>c g.1)]
  simp[c]
set_option maxRecDepth 100000 in
theorem ZXc(u:Un)(ao no:Option Addr)(ac nc:Nat)(t:Ty)(wo ko:Option Addr)(wc kc:Nat)(w:World)(hU:UnC w ao no ac nc u)(ht:TyC w wo ko t)(hr:risesB (namesU u.named)=true) :
  Calls Tryz.prog 88 #[unV u ao ac no nc,tyV t wo wc ko kc] w fun e w'=>e=.returned (.bool (fitsU u.named t))/\Below w.heap.size w w':=by
 obtain⟨R,hR⟩:=Yn (fitsU u.named t);rw[hR];have HR:=Yh hR;have HU:=Yh hU;have A5:=hU.nl;obtain⟨w1,h1,k1,q1,z1⟩:=YA w #[.slice ao u.types.length ac,.slice no u.named.length nc] 25;obtain⟨w2,h2,k2,q2,z2⟩:=YA w1 #[.int .i64 t.kind,.string t.name,.int .i64 t.n,.slice wo t.words.length wc,.slice ko t.kids.length kc] 50;have B2:=Yh (q1.trans (q2.mono q1.size));have A0:=Z13 u ao no ac nc t.name w2 (hU.below B2.o) hr;unfold unV at A0;unfold unV tyV;obtain⟨kd,hkd⟩:=Yn (t.kind);obtain⟨s,hs⟩:=Yn (t.name);obtain⟨kl,hkl⟩:=Yn (t.kids.length);obtain⟨n,hn⟩:=Yn (u.named.length);obtain⟨lo,hlo⟩:=Yn (lowU (namesU u.named) t.name);have HS:=Yh hs;have A6:=Yh hkl;have HN:=Yh hn;have A4:=Yh hlo;rw[hlo,hs]at A0;rw[hkd,hs,hkl]at h2 ⊢;rw[hn]at h1 A5 A0 ⊢;obtain⟨c0,c1⟩:=cell2 (k1.below q2);obtain⟨d0,d1,d2,d3,d4⟩:=cell5 k2;rw[hn]at c1;rw[hkd]at d0;rw[hs]at d1;rw[hkl]at d4
 by_cases h8:kd=8
 ·have q8:(kd != 8)=false:=by rw[bne_eq_false_iff_eq];exact h8
  have A2:=Yh (show(foundU u.named s&&decide ((u.named.getD lo ⟨⟨#[]⟩,[],0,[]⟩).bounds.length=kl))=R by
   rw[<-HR.o,ZF2 hr (by rw[hkd];exact h8),hs,A6.o];rw[<-A4.o,hs])
  clear hkd hs hkl hn hlo k1 q1 z1 k2 q2 z2 hR hU hr ht h8
  cases hfo:foundU u.named s
  ·rw[hfo]at A0 A2
   have HF:=Yh A0;have HV:=@Yh (false=R) (A2.o);clear A0 hfo;go_enter Tryz.func88,Tryz.ntmps88;go_wp2_with fail;refine HF.o.mono ?_;rintro e w3 ⟨rfl,b3⟩;have B3:=YT B2 b3;clear b3 c0 c1 d0 d1 d2 d3 d4 h1 h2;go_wp2_with fail;go_quiet (fail)
   rename_i nq
   go_wp2_with fail;go_ret;exact⟨Z0 HV.o,below_drewN B3.o nq⟩
  ·have A1:=hfo
   unfold foundU at A1;obtain⟨g1,-⟩:=Yf A1;rw[hfo]at A0 A2;have HF:=Yh A0;have A3:lo<u.named.length:=by rw[<-A4.o,HS.o];exact g1
   have A7:lo<n:=by rw[<-HN.o];exact A3
   have hI:(lo:Int)<(n:Int):=by omega
   obtain⟨b,o,rfl,hb,hc⟩:=HU.o.named.cells (by omega);obtain⟨bo,bc,mo,mc,-,a1',-,-,-,-,-⟩:=hc lo A3;obtain⟨bl,hbl⟩:=Yn (u.named[lo].bounds.length);rw[hbl]at a1'
   have HV:=Yh (show((bl:Int)==(kl:Int))=R by
    rw[<-A2.o,Z3 A3,hbl,Bool.eq_iff_iff,YK,Bool.true_and,decide_eq_true_eq]
    omega)
   clear A0 hfo A1 hc hbl g1;go_enter Tryz.func88,Tryz.ntmps88;go_wp2_with fail;refine HF.o.mono ?_;rintro e w3 ⟨rfl,b3⟩;have B3:=YT B2 b3;have a1:=(B3.o.cell hb).trans a1';have e1:=YR b3 c1;have e4:=YR b3 d4;clear b3 c0 c1 d0 d1 d2 d3 d4 h1 h2 a1' hb;go_wp2_with fail;go_quiet (fail)
   rename_i nq
   go_wp2_with fail;go_ret;exact⟨Z0 HV.o,below_drewN B3.o nq⟩
 ·have q8:(kd != 8)=true:=by rw[YJ];exact h8
  have HV:=@Yh (true=R) (by rw[<-HR.o,Zt2 (by rw[hkd];exact h8)]);clear hkd hs hkl hn hlo k1 q1 z1 k2 q2 z2 hR hU hr ht h8 A0;go_enter Tryz.func88,Tryz.ntmps88;go_wp2_with fail;go_ret;exact⟨Z0 HV.o,B2.o⟩
set_option maxRecDepth 100000 in
theorem Zxd(u:Un)(ao no:Option Addr)(ac nc ub:Nat)(t:Ty)(wo ko:Option Addr)(wc kc:Nat)(w:World)(hU:UnC w ao no ac nc u)(ht:TyC w wo ko t)(hr:risesB (namesU u.named)=true)(hu:BlockAt w ub #[.slice ao u.types.length ac,.slice no u.named.length nc] 25) :
  Calls Tryz.prog 87 #[tyV t wo wc ko kc,.pointer (some ⟨ub,0,none⟩)] w fun e w'=>e=.returned (.bool (!fitsU u.named t))/\Below w.heap.size w w':=by
 obtain⟨w1,h1,k1,q1,z1⟩:=YA w #[.int .i64 t.kind,.string t.name,.int .i64 t.n,.slice wo t.words.length wc,.slice ko t.kids.length kc] 50;have B1:=Yh q1;have HT:=ZXc u ao no ac nc t wo ko wc kc w1 (hU.below q1) (ht.below q1) hr;obtain⟨c0,c1⟩:=cell2 (hu.below q1);obtain⟨d0,d1,d2,d3,d4⟩:=cell5 k1;unfold tyV unV at HT;unfold tyV;have HT:=Yh HT;obtain⟨f,hf⟩:=Yn (fitsU u.named t);rw[hf]at HT ⊢;clear hf k1 q1 z1 hU ht hr hu;go_enter Tryz.func87,Tryz.ntmps87;go_wp2_with fail;refine HT.o.mono ?_;rintro e w2 ⟨rfl,b2⟩;have B2:=YT B1 b2;clear b2 c0 c1 d0 d1 d2 d3 d4 h1;go_wp2_with fail;go_ret;exact⟨rfl,B2.o⟩
set_option maxRecDepth 100000 in
theorem Zaa(u:Un)(ao no:Option Addr)(ac nc ub:Nat)(w:World)(hU:UnC w ao no ac nc u)(hr:risesB (namesU u.named)=true)(hu:BlockAt w ub #[.slice ao u.types.length ac,.slice no u.named.length nc] 25) :
  Calls Tryz.prog 112 #[.slice ao u.types.length ac,.func (.func 87) #[] #[.pointer (some ⟨ub,0,none⟩)]] w fun e w'=>(∃r:Int,e=.returned (.int .i64 r)/\decide (0<=r) = !u.types.all (fitsU u.named))/\Below w.heap.size w w':=by
 have HC:=Yh (fun(t:Ty) wo wc ko kc W (hb:Below w.heap.size w W) (ht:TyC W wo ko t)=>Zxd u ao no ac nc ub t wo ko wc kc W (hU.below hb) ht hr (hu.below hb));unfold tyV at HC;have HA:=Yh hU.types;have A3:=hU.tl;obtain⟨R,hR⟩:=Yn (u.types.all (fitsU u.named));have HR:=Yh hR;rw[hR];obtain⟨n,hn⟩:=Yn (u.types.length);have HN:=Yh hn;rw[hn]at A3 ⊢;clear hn hR hU hr hu;go_enter Tryz.func112,Tryz.ntmps112;go_wp2_with fail;go_loopw [8] (fun i wr=>∃k:Nat,k<=n/\i=.int .i64 k/\Hi (∀j (hj:j<u.types.length),j<k->fitsU u.named u.types[j]=true)/\Hi (Below w.heap.size w wr)) (fun i _=>n-(intOf i).toNat)
 case atStart=>exact⟨0,Yl _,rfl,Yh (fun j _ hj=>absurd hj (Yr _)),Yh (Y8 _ _)⟩
 case round =>
  obtain⟨k,hk,rfl,Hno,HB⟩:=hrel
  by_cases hkn:k<n
  ·have A1:k<u.types.length:=by rw[HN.o];exact hkn
   have A4:(k:Int)<(n:Int):=by omega
   obtain⟨b,o,rfl,hb,hc⟩:=(HA.o.below HB.o).cells (by omega);obtain⟨xw,xwc,xk,xkc,a0,a1,a2,a3,a4,-,-,hxc⟩:=hc k A1;obtain⟨x,hx⟩:=Yn (u.types[k]);rw[hx]at a0 a1 a2 a3 a4 hxc;have HX:=Yh hx;have A0:=HC.o x xw xwc xk xkc wr HB.o hxc;clear hx hc hb hxc
   cases hf:fitsU u.named x<;>rw[hf]at A0<;>have HF:=Yh hf<;>have A2:=Yh A0<;>clear hf A0
   ·have HV:=Yh (show decide (0<=(k:Int)) = !R by
     have e:R=false:=by
      rw[<-HR.o]
      cases hh:u.types.all (fitsU u.named)
      ·rfl
      ·have:=List.all_eq_true.1 hh _ (Yq A1)
       rw[HX.o,HF.o]at this
       cases this
     rw[e,Yb (by omega)];rfl)
    go_wp2_with fail;refine A2.o.mono ?_;rintro e w2 ⟨rfl,b2⟩;have B2:=YT HB b2;clear b2 a0 a1 a2 a3 a4;go_wp2_with fail;go_ret;exact⟨⟨_,rfl,HV.o⟩,B2.o⟩
   ·have Hx:=Yh (show ∀j (hj:j<u.types.length),j<k+1->fitsU u.named u.types[j]=true from fun j hj h=>by
     rcases Ym (Ys h)with g|g
     ·exact Hno.o j hj g
     ·subst g;rw[HX.o];exact HF.o)
    go_wp2_with fail;refine A2.o.mono ?_;rintro e w2 ⟨rfl,b2⟩;have B2:=YT HB b2;clear b2 a0 a1 a2 a3 a4;go_wp2_with fail;go_roundw
    case rel=>exact⟨k+1,by omega,by go_num,Hx,B2⟩
    case measure=>first|(simp[intOf];done)|(simp[intOf];omega)
  ·obtain rfl:k=n:=by omega
   have HV:=Yh (show decide (0<=(-1:Int)) = !R by
    have e:R=true:=by
     rw[<-HR.o,List.all_eq_true];intro x hx;obtain⟨j,hj,rfl⟩:=List.getElem_of_mem hx;exact Hno.o j hj (by rw[<-HN.o];exact hj)
    rw[e];rfl)
   go_wp2_with fail;go_ret;exact⟨⟨_,rfl,HV.o⟩,HB.o⟩
theorem Z67(u:Un)(ao no:Option Addr)(ac nc ub:Nat)(w:World)(hU:UnC w ao no ac nc u)(hr:risesB (namesU u.named)=true)(hu:BlockAt w ub #[.slice ao u.types.length ac,.slice no u.named.length nc] 25) :
  Calls Tryz.prog 86 #[.slice ao u.types.length ac,.func (.func 87) #[] #[.pointer (some ⟨ub,0,none⟩)]] w fun e w'=>e=.returned (.bool (!u.types.all (fitsU u.named)))/\Below w.heap.size w w':=by
 have HI:=Yh (Zaa u ao no ac nc ub w hU hr hu);obtain⟨R,hR⟩:=Yn ((!u.types.all (fitsU u.named)));rw[hR]at HI ⊢;clear hR hU hr hu;go_enter Tryz.func86,Tryz.ntmps86;go_wp2_with fail;refine HI.o.mono ?_;rintro e w2 ⟨⟨r,rfl,hv⟩,b2⟩;have HV:=Yh hv;have B2:=Yh b2;clear hv b2;go_wp2_with fail;go_ret;exact⟨Z0 HV.o,B2.o⟩
def restU(u:Un):Bool:=decide (u.named.length<=60)&&u.named.all (oneU u.types)&&risesB (namesU u.named)&&u.types.all (fitsU u.named)
theorem Z8(u:Un):rightU u=(rightT u.types&&restU u):=by
 unfold rightU restU namesU;simp only[Bool.and_assoc]
theorem restU_iff{u:Un}:restU u=true↔u.named.length<=60/\(∀n∈u.named,oneU u.types n=true)/\risesB (namesU u.named)=true/\u.types.all (fitsU u.named)=true:=by
 unfold restU;simp only[Yd,decide_eq_true_eq,List.all_eq_true]
 constructor
 ·rintro⟨⟨⟨h1,h2⟩,h3⟩,h4⟩;exact⟨h1,h2,h3,h4⟩
 ·rintro⟨h1,h2,h3,h4⟩;exact⟨⟨⟨h1,h2⟩,h3⟩,h4⟩
theorem Zv5{ns:List Nm}{k p:Nat}(hk:k<ns.length)(hp:k=p+1):riseB (namesU ns) k=lessB ns[p].name ns[k].name:=by
 subst hp;unfold riseB;rw[Ya (by omega),Bool.false_or,Nat.add_sub_cancel,ZP0 hk,ZP0 (by omega)]
set_option maxRecDepth 100000 in
theorem ZL5(u:Un)(ao no:Option Addr)(ac nc:Nat)(w:World)(hU:UnC w ao no ac nc u)(hr:rightT u.types=true)(hm:MaxAt w) :
  Calls Tryz.prog 67 #[unV u ao ac no nc] w fun e w'=>e=.returned (.bool (restU u))/\Below w.heap.size w w':=by
 unfold unV;obtain⟨R,hR⟩:=Yn (restU u);rw[hR];have HR:=Yh hR;have HU:=Yh hU;have Aj:=Yh hr;have HM:=Yh hm;have Ak:=hU.nl;have Al:=hU.tl;have Ad:=hU.tc;obtain⟨w1,h1,k1,q1,z1⟩:=YA w #[.slice ao u.types.length ac,.slice no u.named.length nc] 25;have B1:=Yh q1;have K1:=Yh k1;have Ae:=Zx8 u.types ao ac w1 (hU.types.below q1) hr Ad;obtain⟨L,hL⟩:=Yn (u.types.length);obtain⟨n,hn⟩:=Yn (u.named.length);have HL:=Yh hL;have HN:=Yh hn;have HP:=Yh Ae;rw[hL,hn]at h1 K1;rw[hL]at Al HP Ad ⊢;rw[hn]at Ak ⊢;obtain⟨c0,c1⟩:=cell2 k1;rw[hL]at c0;rw[hn]at c1;have Aa:=@Yh ((restU u=true->False)->false=R) (fun h=>Zt fun g=>h (HR.o.trans g));clear hL hn hU hr hm hR Ae k1 q1 z1;go_enter Tryz.func67,Tryz.ntmps67
 by_cases h60:60<n
 ·have hd:decide ((60:Int)<(n:Int))=true:=Yb (by omega)
  have HV:=Yh (Aa.o fun g=>by have:=(restU_iff.1 g).1;rw[HN.o]at this;omega);go_wp2_with fail;go_ret;exact⟨Z0 HV.o,B1.o⟩
 have hd:decide ((60:Int)<(n:Int))=false:=Ya (by omega);go_wp2_with fail;refine HP.o.mono ?_;rintro e w2 ⟨qb,rfl,kq,hqb,b2⟩;have B2:=YT B1 b2;have HQ:=@Yh (AskC w2 qb u.types) (Zid (by rw[HL.o];exact kq));have K2:=Yh (K1.o.below b2);obtain⟨e0,e1⟩:=cell2 K2.o;clear c0 c1 b2 kq hqb h1;go_wp2_with fail;clear e0 e1;go_loopw [16] (fun v wr=>∃k:Nat,k<=n/\v=.int .i64 k/\Hi (∀j (hj:j<u.named.length),j<k->oneU u.types u.named[j]=true/\riseB (namesU u.named) j=true)/\Hi (Below w2.heap.size w2 wr)) (fun v _=>n-(intOf v).toNat)
 case atStart=>exact⟨0,Yl _,rfl,Yh (fun j _ hj=>absurd hj (Yr _)),Yh (Y8 _ _)⟩
 case round =>
  obtain⟨k,hk,rfl,Hall,HB⟩:=hrel;have BW:=YT B2 HB.o
  by_cases hkn:k<n
  ·have Ar:(k:Int)<(n:Int):=by omega
   have A7:k<u.named.length:=by rw[HN.o];exact hkn
   obtain⟨b,o,rfl,hb,hc⟩:=(HU.o.named.below BW.o).cells (by omega);obtain⟨bo,bc,mo,mc,a0,a1,a2,a3,hbc,hmc,hnc⟩:=hc k A7;have Am:=Yh hc;clear hc;obtain⟨x,hx⟩:=Yn (u.named[k]);rw[hx]at a0 a1 a2 a3 hbc hmc hnc;have HX:=Yh hx;obtain⟨wn,hwn,kx,qx,zx⟩:=YA wr #[.string x.name,.slice bo x.bounds.length bc,.int .i64 x.under,.slice mo x.methods.length mc] 53;have A3:=YT HB qx;have A2:=YT B2 A3.o;obtain⟨xb,hxb⟩:=Yn (wr.heap.size);rw[hxb]at kx;obtain⟨d0,d1,d2,d3⟩:=cell4 kx;obtain⟨e0,e1⟩:=cell2 (K2.o.below A3.o);have A0:=Zw9 u.types ao ac x bo mo bc mc qb wn.drew ((HU.o.types.below A2.o).below (Y8 _ _).drew) Aj.o HU.o.tc ((HQ.o.below A3.o).below (Y8 _ _).drew) ((hnc.below qx).below (Y8 _ _).drew) hbc hmc ((HM.o.below A2.o).below (Y8 _ _).drew);unfold nmV at A0;rw[HL.o]at A0
   have A4:=Yh (show oneU u.types x=false->false=R from fun h=>Aa.o fun g=>by
    have:=(restU_iff.1 g).2.1 _ (Yq A7);rw[HX.o,h]at this
    cases this)
   have A5:=Yh (show riseB (namesU u.named) k=false->false=R from fun h=>Aa.o fun g=>by
    have:=ZL1 (restU_iff.1 g).2.2.1 (k:=k) (by rw[Zs0];exact A7);rw[h]at this
    cases this)
   have A6:=Yh (show oneU u.types x=true->riseB (namesU u.named) k=true->∀j (hj:j<u.named.length),j<k+1->oneU u.types u.named[j]=true/\riseB (namesU u.named) j=true from fun h1 h2 j hj h=>by
    rcases Ym (Ys h)with c|c
    ·exact Hall.o j hj c
    ·subst c;rw[HX.o];exact⟨h1,h2⟩)
   clear hx hnc kx qx zx hbc hmc
   by_cases h0:k=0
   ·have RI:=@Yh (riseB (namesU u.named) k=true) (by rw[h0];rfl)
    have An:¬(0:Int)<(k:Int):=by omega
    have As:decide ((0:Int)<(k:Int))=false:=Ya An;have At:¬0<k:=by omega
    clear h0
    cases ho:oneU u.types x<;>rw[ho]at A0<;>have HO:=Yh ho<;>have A8:=Yh A0<;>clear ho A0
    focus
     have HV:=Yh (A4.o HO.o)
    rotate_left
    focus
     have Hx:=Yh (A6.o HO.o RI.o)
    rotate_left
    all_goals
     go_upto_region 7 with fail;clear hwn a0 a1 a2 a3 hxb;refine GoG.start [(19,⟨w.heap.size,0,none⟩,.slice ao L ac),(19,⟨xb,0,none⟩,.string x.name),(19,⟨xb,1,none⟩,.slice bo x.bounds.length bc),(19,⟨xb,2,none⟩,.int .i64 x.under),(19,⟨xb,3,none⟩,.slice mo x.methods.length mc)] (by kernel_rfl) ?_ ?_
     ·exact Kd (Kd (Kd (Kd (Kd (Kn)))))
     refine GoG.fr 0 ?_;refine GoG.fr 1 ?_;refine GoG.fr 2 ?_;refine GoG.uw 3 ?_;refine GoG.uw 4 ?_;refine GoG.uw 5 ?_;refine GoG.uw 6 ?_;refine GoG.uw 7 ?_;refine GoG.uw 8 ?_;refine GoG.uw 9 ?_;refine GoG.uw 10 ?_;refine GoG.uw 11 ?_;refine GoG.uw 12 ?_;refine GoG.fr 13 ?_;refine GoG.fr 14 ?_;refine GoG.fr 15 ?_;refine GoG.s1 16 0 [19] ?_;refine GoG.fr 17 ?_;refine GoG.take (i:=18) (v:=?_) [19] rfl (by kernel_rfl) (by kernel_rfl) (by kernel_rfl) (by kernel_rfl) (by kernel_rfl) (by kernel_rfl) (fun _ _ _ h=>h) (.inl ⟨by rfl,fun w hS=>?_⟩) ?_;rotate_left
     ·have g0:w.cell? ⟨xb,0,none⟩=some (.string x.name):=hS (19,⟨xb,0,none⟩,.string x.name) (by simp) (by simp)
      have g1:w.cell? ⟨xb,1,none⟩=some (.slice bo x.bounds.length bc):=hS (19,⟨xb,1,none⟩,.slice bo x.bounds.length bc) (by simp) (by simp);have g2:w.cell? ⟨xb,2,none⟩=some (.int .i64 x.under):=hS (19,⟨xb,2,none⟩,.int .i64 x.under) (by simp) (by simp);have g3:w.cell? ⟨xb,3,none⟩=some (.slice mo x.methods.length mc):=hS (19,⟨xb,3,none⟩,.slice mo x.methods.length mc) (by simp) (by simp);clear hS;go_simp;try (with_reducible rfl)
     try simp only[Act.put,YB,YC,YD,YE,YF,YG]
     refine GoG.on 19 fun K hK=>?_
     go_simp;refine A8.o.mono ?_;rintro e w6 ⟨rfl,b6⟩;have Ao:=Yh (A2.o.drew.trans (b6.mono A2.o.drew.size));have B6:=Yh (A3.o.drew.trans (b6.mono A3.o.drew.size));clear b6;refine hK.out _ _ (Ku (Ku (Ku (Ku (Ku (Kn)))))) ?_;clear hK K;refine GoG.fr 20 ?_;refine GoG.fr 21 ?_;refine GoG.done (by kernel_rfl) ?_ _;clear d0 d1 d2 d3 e0 e1;go_wp2_with fail
    ·go_ret
     exact⟨Z0 HV.o,Ao.o⟩
    ·go_roundw
     case rel=>exact⟨k+1,by omega,by go_num,Hx,B6⟩
     case measure=>first|(simp[intOf];done)|(simp[intOf];omega)
   ·obtain⟨p,hp⟩:∃p,k=p+1:=⟨k-1,by omega⟩
    have Ap:p<u.named.length:=by omega
    have Au:p<n:=by omega
    have Av:(p:Int)<(n:Int):=by omega
    obtain⟨_,_,_,_,cp,-⟩:=Am.o p Ap;obtain⟨v,hv⟩:=Yn (u.named[p].name);rw[hv]at cp;have Aw:=((show Below wr.heap.size wr wn from by rw[<-hwn];exact(Y8 _ _).alloc (Yk _) _).cell (p:=⟨b,o+p*4,none⟩) hb).trans cp;have Ab:(0:Int)<(k:Int):=by omega
    have Af:decide ((0:Int)<(k:Int))=true:=Yb Ab;have Ag:0<k:=by omega
    have Ax:IntKind.i64.wrap (p:Int)=(p:Int):=IntWalk.i64_in _ (by omega);have Ac:(k:Int)-1=(p:Int):=by omega
    have Ah:IntKind.i64.wrap ((k:Int)-1)=(p:Int):=by rw[Ac];exact IntWalk.i64_in _ (by omega)
    have A9:=@Yh (riseB (namesU u.named) k=lessB v x.name) (by rw[Zv5 A7 hp,hv];congr 1;rw[HX.o]);obtain⟨s,hs⟩:=Yn (x.name);rw[hs]at a0 d0 hwn A0 A9;clear hp hv cp h0 hb hs
    cases hls:Op.bytesLess s.toList v.toList
    ·have LS:=Yh hls
     cases heq:(s.toList==v.toList)
     ·have EQ:=Yh heq
      have RI:=@Yh (riseB (namesU u.named) k=true) (by rw[A9.o,Zl1,LS.o,EQ.o];rfl)
      cases ho:oneU u.types x<;>rw[ho]at A0<;>have HO:=Yh ho<;>have A8:=Yh A0<;>clear ho A0
      ·have HV:=Yh (A4.o HO.o)
       go_wp2_with fail;go_still_tail 19,(by kernel_rfl)
       change wpList _ _ _ _ _ wn.drew
       have BD:=@Yh (Below w.heap.size w wn.drew) (A2.o.drew);clear a0 a1 a2 a3 d0 d1 d2 d3 e0 e1 hwn hxb
       generalize wn.drew=w5 at *
       go_wp2_with fail;refine A8.o.mono ?_;rintro e w6 ⟨rfl,b6⟩;have B6:=YT BD b6;clear b6;go_wp2_with fail;go_ret;exact⟨Z0 HV.o,B6.o⟩
      ·have Hx:=Yh (A6.o HO.o RI.o)
       go_wp2_with fail;go_still_tail 19,(by kernel_rfl)
       change wpList _ _ _ _ _ wn.drew
       have BD:=@Yh (Below w2.heap.size w2 wn.drew) (A3.o.drew);clear a0 a1 a2 a3 d0 d1 d2 d3 e0 e1 hwn hxb
       generalize wn.drew=w5 at *
       go_wp2_with fail;refine A8.o.mono ?_;rintro e w6 ⟨rfl,b6⟩;have B6:=YT BD b6;clear b6;go_wp2_with fail;go_roundw
       case rel=>exact⟨k+1,by omega,by go_num,Hx,B6⟩
       case measure=>first|(simp[intOf];done)|(simp[intOf];omega)
     ·have EQ:=Yh heq
      have HV:=Yh (A5.o (by rw[A9.o,Zl1,LS.o,EQ.o];rfl));clear A0;go_wp2_with fail;go_quiet (fail);go_wp2_with fail;go_ret;exact⟨Z0 HV.o,below_drewN A2.o _⟩
    ·have LS:=Yh hls
     have HV:=Yh (A5.o (by rw[A9.o,Zl1,LS.o];rfl));clear A0;go_wp2_with fail;go_quiet (fail);go_wp2_with fail;go_ret;exact⟨Z0 HV.o,below_drewN A2.o _⟩
  ·obtain rfl:k=n:=by omega
   have Ai:=@Yh (risesB (namesU u.named)=true) (Zp1 fun j hj=>(Hall.o j (by rw[Zs0]at hj;exact hj) (by rw[Zs0]at hj;rw[<-HN.o];exact hj)).2);have A1:=Z67 u ao no ac nc w.heap.size wr (HU.o.below BW.o) Ai.o (by rw[HL.o,HN.o];exact K2.o.below HB.o);rw[HL.o]at A1
   have HV:=Yh (show(!(!u.types.all (fitsU u.named)))=R by
    rw[<-HR.o,Bool.not_not,Bool.eq_iff_iff,restU_iff]
    constructor
    ·intro h
     exact⟨by rw[HN.o];omega,fun m hm=>by
      obtain⟨j,hj,rfl⟩:=List.getElem_of_mem hm;exact(Hall.o j hj (by rw[<-HN.o];exact hj)).1,Ai.o,h⟩
    ·exact fun h=>h.2.2.2)
   obtain⟨f,hf⟩:=Yn ((!u.types.all (fitsU u.named)));rw[hf]at A1 HV;have Aq:=Yh A1;obtain⟨e0,e1⟩:=cell2 (K2.o.below HB.o);clear hf A1;go_wp2_with fail;refine Aq.o.mono ?_;rintro e w6 ⟨rfl,b6⟩;have B6:=YT BW b6;clear b6 e0 e1;go_wp2_with fail;go_ret;exact⟨Z0 HV.o,B6.o⟩
set_option maxRecDepth 100000 in
theorem ZU4(u:Un)(ao no:Option Addr)(ac nc:Nat)(w:World)(hU:UnC w ao no ac nc u)(hE:Env w)(hm:MaxAt w) :
  Calls Tryz.prog 42 #[unV u ao ac no nc] w fun e w'=>e=.returned (.bool (rightU u))/\Below w.heap.size w w':=by
 obtain⟨w1,h1,k1,q1,z1⟩:=YA w #[.slice ao u.types.length ac,.slice no u.named.length nc] 25;have B1:=Yh q1;have K1:=Yh k1;have A0:=Ze5 u.types ao ac w1 (hU.types.below q1) hU.tl hU.tc (hE.below q1);have A1:=fun W (hb:Below w.heap.size w W) (hr:rightT u.types=true)=>ZL5 u ao no ac nc W (hU.below hb) hr (hm.below hb)
 unfold unV at A1;unfold unV;rw[Z8];have HN:=Yh A1;obtain⟨c0,c1⟩:=cell2 k1;clear hU hE hm A1 k1 q1 z1
 cases ht:rightT u.types<;>rw[ht]at A0<;>have HT:=Yh ht<;>have HP:=Yh A0<;>clear ht A0
 ·rw[Bool.false_and]
  go_enter Tryz.func42,Tryz.ntmps42;go_wp2_with fail;refine HP.o.mono ?_;rintro e w2 ⟨rfl,b2⟩;have B2:=YT B1 b2;clear b2 c0 c1 h1;go_wp2_with fail;go_ret;exact⟨rfl,B2.o⟩
 ·rw[Bool.true_and]
  go_enter Tryz.func42,Tryz.ntmps42;go_wp2_with fail;refine HP.o.mono ?_;rintro e w2 ⟨rfl,b2⟩;have B2:=YT B1 b2;obtain⟨e0,e1⟩:=cell2 (K1.o.below b2);have A2:=Yh (HN.o w2 B2.o HT.o);clear b2 c0 c1 h1;go_wp2_with fail;refine A2.o.mono ?_;rintro e w3 ⟨rfl,b3⟩;have B3:=YT B2 b3;clear b3 e0 e1;go_wp2_with fail;go_ret;exact⟨rfl,B3.o⟩
def findU(u:Un)(s:ByteArray):Int×Int:=if rightU u=false then(0,1)else if atU u.named s<0 then(0,8)else(atU u.named s,0)
theorem Z1c{ns:List Nm}{s:ByteArray}(hr:risesB (namesU ns)=true):(foundU ns s=true/\atU ns s=(lowU (namesU ns) s:Int))\/(foundU ns s=false/\atU ns s = -1):=by
 have h:=ZFb (show risesB (ns.map (·.name))=true from hr) s;unfold foundU
 by_cases c:lowU (ns.map (·.name)) s<ns.length
 ·have e:(namesU ns).getD (lowU (namesU ns) s) ⟨#[]⟩=(ns.getD (lowU (ns.map (·.name)) s) ⟨⟨#[]⟩,[],0,[]⟩).name:=by
   rw[show lowU (namesU ns) s=lowU (ns.map (·.name)) s from rfl,ZP0 c,Z3 c]
  by_cases d:(ns.getD (lowU (ns.map (·.name)) s) ⟨⟨#[]⟩,[],0,[]⟩).name=s
  ·rw[if_pos ⟨c,d⟩]at h
   exact .inl ⟨Yb ⟨c,by rw[e];exact d⟩,h⟩
  ·rw[if_neg (fun g=>d g.2)]at h
   exact .inr ⟨Ya (fun g=>d (by rw[<-e];exact g.2)),h⟩
 ·rw[if_neg (fun g=>c g.1)]at h
  exact .inr ⟨Ya (fun g=>c g.1),h⟩
end Go.Proofs.YtdcajkagakikiaaGreatDoor
