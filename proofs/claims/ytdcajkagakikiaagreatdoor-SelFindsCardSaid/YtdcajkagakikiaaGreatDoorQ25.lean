import Derived.Test.YtdcajkagakikiaaGreatDoorQ24
namespace Go.Proofs.YtdcajkagakikiaaGreatDoor
set_option maxHeartbeats 64000000
set_option linter.unusedSimpArgs false
set_option linter.unusedVariables false
open Go.RowKit
set_option maxRecDepth 100000 in
theorem ZH8(Sb:Nat->Prop)(u:Un)(es:List Sp)(vl:Value)(wb:Nat)(W0 w:World)(hB:Below W0.heap.size W0 w)(hwb:W0.heap.size<=wb)(hSb:∀b,w.heap.size<=b->Sb b)(hns:¬Sb wb)(hK:WkAt Sb w wb u 0)(hE:Env W0)(hG:Gl u es)(hP:PRow Sb w vl es)(hel:es.length<=1000) :
  Calls Tryz.prog 46 #[.pointer (some ⟨wb,0,none⟩),vl] w fun e w'=>∃v V,e=.returned v/\LRow Sb w' v (lookT es u).2.1/\WkR Sb W0 w wb V (lookT es u).2.2 w'/\((lookT es u).2.2=0->V=(lookT es u).1):=by
 obtain⟨lo0,cap0,zs,rfl,hm,hR,hc0,hpz⟩:=hP;have e1:zs.length=es.length:=by rw[<-hm,Yg]
 have A4:=@Yh (wb<w.heap.size) (by obtain⟨_,_,_,_,hk,_⟩:=hK;exact hk.lt);obtain⟨n,hn⟩:=Yn (es.length);obtain⟨F,hF⟩:=Yn (lookT es u);have HF:=@Yh (F=joinL [] (lookT (es.drop 0) u)) (by rw[Z71,List.drop_zero,hF]);have HN:=Yh hn;rw[hn]at e1 hel ⊢;rw[hF];have BX:=Yh e1;have HM:=Yh hm;have HR:=Yh hR;have BY:=Yh hpz;have HB:=Yh hB;have BO:=Yh hSb;have Aj:=Yh hns;have B0:=Yh hE;have B1:=Yh hwb;have HG:=Yh hG;have BZ:=@Yh (WkAt (fun b=>Sb b/\(Value.slice none 0 0).ownBlock≠some b) w wb u 0) (WkAt.sub hK (fun b _ g=>⟨g,fun h=>by cases h⟩));obtain⟨i0,hi,hz0,hz1,hz2⟩:=info_parts Zha;clear hn hF hm hR hpz hB hSb hns hK hE hG hwb e1;go_enter Tryz.func46,Tryz.ntmps46;go_wp2_with fail;go_loopw [5,11] (fun v i wr=>∃(k:Nat) (V:Un) (d:List Lk),k<=n/\i=.int .i64 k/\Hi (F=joinL d (lookT (es.drop k) V))/\Hi (d.length=k)/\Hi (Gl V (es.drop k))/\Hi (WkAt (fun b=>Sb b/\v.ownBlock≠some b) wr wb V 0)/\Hi (LooI Sb w.heap.size wr v d)/\Hi (SameX wb w wr)/\Hi (Below W0.heap.size W0 wr)) (fun _ i _=>n-(intOf i).toNat)
 case atStart=>exact⟨0,u,[],Yl _,rfl,HF,Yh rfl,Yh (by rw[List.drop_zero];exact HG.o),BZ,Yh ⟨[],ZY0 _ _,rfl,fun z hz=>absurd hz (by simp)⟩,Yh (SameX.below (Y8 _ _)),HB⟩
 case round =>
  obtain⟨k,V,d,hk,rfl,HFK,HD,HGK,HWK,HLO,HSX,HBR⟩:=hrel;obtain⟨lo1,cap1,hv1⟩:=HLO.o.row;rw[HD.o]at hv1;subst hv1
  by_cases hkn:k<n
  ·have Bb:k<zs.length:=by rw[BX.o];exact hkn
   obtain⟨b,off,rfl,hb,hbS,hc⟩:=HR.o.cells (by omega);have hc:=hc k Bb;have Bc:=BY.o _ (Yq Bb);have Bj:k<es.length:=by rw[HN.o];exact hkn
   have Bk:zs[k].sp=es[k]:=by
    have:=congrArg (fun l=>l[k]?) HM.o
    simpa [Bb,Bj] using this
   obtain⟨y,hy⟩:=Yn (zs[k]);rw[hy]at hc Bc Bk;have Bl:es.drop k=y.sp::es.drop (k+1):=by rw[List.drop_eq_getElem_cons Bj,Bk]
   have Ax:=@Yh (F=joinL d (lookT (y.sp::es.drop (k+1)) V)) (by rw[<-Bl];exact HFK.o);have Ay:=@Yh (Gl V (y.sp::es.drop (k+1))) (by rw[<-Bl];exact HGK.o);have Bd:=@Yh (b≠wb) (fun g=>Aj.o (by rw[<-g];exact hbS));obtain⟨pl,hpl⟩:=Yn (y.sp.path.length);have Be:=Yh hpl;have Bf:=Yh Bc.1;have At:=Yh Bc.2;have r0:=(Z5 HSX.o hb Bd.o (o:=off+k*4+0)).trans (hc 0 _ rfl);have r1:=(Z5 HSX.o hb Bd.o (o:=off+k*4+1)).trans (hc 1 _ rfl);have r2:=(Z5 HSX.o hb Bd.o (o:=off+k*4+2)).trans (hc 2 _ rfl);have r3:=(Z5 HSX.o hb Bd.o (o:=off+k*4+3)).trans (hc 3 _ rfl);rw[Nat.add_zero]at r0;rw[hpl]at r2;have Bm:=Ay.o.2 y.sp Yt;have Au:=Bm;unfold inL at Au;have Au:=Yf Au;obtain⟨zt,hzt⟩:∃zt:Nat,y.sp.typ=(zt:Int):=⟨y.sp.typ.toNat,by omega⟩
   have AX:=Yh hzt;have BP:=@Yh (zt<V.types.length) (by omega);rw[hzt]at r0;obtain⟨wa,ha,ka,qa,za⟩:=YA wr #[.int .i64 zt,.bool y.sp.via,.slice y.po pl y.pc,.bool y.sp.many] 100;have KA:=Yh ka;have QA:=@Yh (wr.heap.size<wa.heap.size/\w.heap.size<=wr.heap.size) (⟨by omega,HSX.o.1⟩);have B2:=YT HBR qa;have AA:=@Yh (wb<w.heap.size) (A4.o);have A0:=@Yh (wr.heap.size≠wb) (by have:=AA.o;have:=QA.o;omega);have B3:=Yh (HWK.o.below qa);have Av:=Yh (HLO.o.keptX (SameX.below (c:=wb) qa) A4.o Aj.o);have Ad:=Yh (HSX.o.trans (SameX.below qa));obtain⟨p0,p1,p2,p3⟩:=cell4 ka
   have AB:=Yh (show ∀b,wr.heap.size<=b->(fun b=>(Sb b/\(Value.slice lo1 k cap1).ownBlock≠some b)) b from fun b hb=>⟨BO.o b (by have:=QA.o;omega),fun he=>by
    obtain⟨zs',ho,-,-⟩:=HLO.o;have:=World.ownsRow.lt ho b he
    omega⟩)
   have B4:=@Yh (¬(fun b=>(Sb b/\(Value.slice lo1 k cap1).ownBlock≠some b)) wb) (fun g=>Aj.o g.1);have AC:=fun W (hb:Below wa.heap.size wa W)=>Zx2 (fun b=>(Sb b/\(Value.slice lo1 k cap1).ownBlock≠some b)) V (zt:Int) wb W0 W (YU B2 hb) B1.o (fun b hbb=>AB.o b (by have:=QA.o;have:=hb.size;omega)) B4.o (B3.o.below hb) B0.o
   have AD:=fun(c:Nat) W (hb:Below wa.heap.size wa W) (hc1:wa.heap.size<=c) (hc2:c<W.heap.size)=>Zx2 (fun b=>(fun b=>(Sb b/\(Value.slice lo1 k cap1).ownBlock≠some b)) b/\b≠c) V (zt:Int) wb W0 W (YU B2 hb) B1.o (fun b hbb=>⟨AB.o b (by have:=QA.o;have:=hb.size;omega),by omega⟩) (fun g=>B4.o g.1) ((B3.o.sub (R:=fun b=>(fun b=>(Sb b/\(Value.slice lo1 k cap1).ownBlock≠some b)) b/\b≠c) (fun b hlt g=>⟨g,by omega⟩)).below hb) B0.o
   obtain⟨⟨V2,f,e1⟩,hUR⟩:∃R,underU V (zt:Int)=R:=⟨_,rfl⟩
   rw[hUR]at AC AD;have Ae:=@Yh (underU V y.sp.typ=(V2,f,e1)) (by rw[hzt];exact hUR);have C0:=Yh Bm;have C1:=Yh AC;have C2:=Yh AD;have C8:(k:Int)<(n:Int):=by omega
   clear hc Bc Bj Bk hy Bl hpl ka qa za Bm Au hzt AC AD hUR hb hbS Bb;go_upto_region 5 with fail;clear r0 r1 r2 r3 ha;go_cut [8] (fun v8 wx=>∃xb,v8=.pointer (some ⟨xb,0,none⟩)/\Hi (LSt (fun b=>(Sb b/\(Value.slice lo1 k cap1).ownBlock≠some b)) W0 wa wb xb #[.int .i64 zt,.bool y.sp.via,.slice y.po pl y.pc,.bool y.sp.many,.int .i64 f,.slice none 0 0] V2 e1 wx)/\Hi (wa.heap.size<=xb))
   case first =>
     refine GoG.start [(8,⟨wr.heap.size,0,none⟩,.int .i64 zt),(8,⟨wr.heap.size,1,none⟩,.bool y.sp.via),(8,⟨wr.heap.size,2,none⟩,.slice y.po pl y.pc),(8,⟨wr.heap.size,3,none⟩,.bool y.sp.many)] (by kernel_rfl) ?_ ?_
     ·exact Kd (Kd (Kd (Kd (Kn))))
     refine GoG.s4 0 0 [8] ?_;refine GoG.fr 1 ?_;refine GoG.fr 2 ?_;refine GoG.s1 3 0 [8] ?_;refine GoG.two (i:=4) (j:=6) rfl rfl (by kernel_rfl) (fun K hK=>?_) (fun K hK=>?_)
     ·go_simp
      refine(C1.o _ (Y8 _ _).drew).mono ?_;rintro e9 wv ⟨rfl,hW⟩;have XV:=@Yh (SameX wb wa wv) ((SameX.below (c:=wb) (Y8 wa.heap.size wa).drew).trans hW.2.1);have HW:=Yh hW;obtain⟨wn,hwn,kn,qn,zn⟩:=YA wv #[.int .i64 0,.bool false,.slice none 0 0,.bool false,.int .i64 0,.slice none 0 0] 103;have KN:=Yh kn;have NB:=Yh XV.o.1;have SN:=Yh (XV.o.trans (SameX.below qn));have BN:=Yh (hW.2.2.trans (qn.mono hW.2.2.size));have Ak:=Yh ((hW.1.sub (R:=fun b=>(fun b=>(Sb b/\(Value.slice lo1 k cap1).ownBlock≠some b)) b/\b≠wv.heap.size) (fun b hlt g=>⟨g,Nat.ne_of_lt hlt⟩)).below qn);clear hW kn qn zn;refine hK.out _ _ (Kc ((Z5 XV.o QA.o.1 A0.o).trans p0) (Kc ((Z5 XV.o QA.o.1 A0.o).trans p1) (Kc ((Z5 XV.o QA.o.1 A0.o).trans p2) (Kc ((Z5 XV.o QA.o.1 A0.o).trans p3) (Kn))))) ?_;clear hK K;refine GoG.fr 5 ?_;refine GoG.on 6 fun K hK=>?_
      go_simp
      try rw[hwn]
      refine hK.out _ _ (Kc ((Z5 SN.o QA.o.1 A0.o).trans p0) (Kc ((Z5 SN.o QA.o.1 A0.o).trans p1) (Kc ((Z5 SN.o QA.o.1 A0.o).trans p2) (Kc ((Z5 SN.o QA.o.1 A0.o).trans p3) (Kn))))) ?_;clear hK K hwn
      try simp only[Act.put,YB,YC,YD,YE,YF,YG]
      obtain⟨s,hs⟩:=Yn (((((((wn.setCell ⟨wv.heap.size,0,none⟩ (.int .i64 zt)).setCell ⟨wv.heap.size,1,none⟩ (.bool y.sp.via)).setCell ⟨wv.heap.size,2,none⟩ (.slice y.po pl y.pc)).setCell ⟨wv.heap.size,3,none⟩ (.bool y.sp.many)).setCell ⟨wv.heap.size,4,none⟩ (.int .i64 f)).setCell ⟨wv.heap.size,5,none⟩ (.slice none 0 0)));have KS:=Yh (Zf1 KN.o hs);have NX:=@Yh (wb≠wv.heap.size) (by have:=AA.o;have:=QA.o;have:=NB.o;omega);have XS:=@Yh (SameX wb wa s) (Zo (Zo (Zo (Zo (Zo (Zo SN.o NB.o rfl) NB.o rfl) NB.o rfl) NB.o rfl) NB.o rfl) NB.o hs);have Bn:=@Yh (Below W0.heap.size W0 s) (by rw[<-hs];exact Zj BN.o (by have:=NB.o;have:=B2.o.size;omega) _ _ _ _ _ _);have Bo:=@Yh (WkAt (fun b=>(fun b=>(Sb b/\(Value.slice lo1 k cap1).ownBlock≠some b)) b/\b≠wv.heap.size) s wb V2 e1) ((((((Ak.o.set (fun g=>g.2 rfl) NX.o rfl).set (fun g=>g.2 rfl) NX.o rfl).set (fun g=>g.2 rfl) NX.o rfl).set (fun g=>g.2 rfl) NX.o rfl).set (fun g=>g.2 rfl) NX.o rfl).set (fun g=>g.2 rfl) NX.o hs);obtain⟨⟨g0,g1,g2,g3,g4,g5⟩,q0,q1,q2,q3,q4,q5⟩:=Zu KN.o;refine GoG.on 7 fun K hK=>?_
      go_simp
      try rw[hs]
      refine hK.out _ _ (Kc ((Z5 XS.o QA.o.1 A0.o).trans p0) (Kc ((Z5 XS.o QA.o.1 A0.o).trans p1) (Kc ((Z5 XS.o QA.o.1 A0.o).trans p2) (Kc ((Z5 XS.o QA.o.1 A0.o).trans p3) (Kn))))) ?_;clear hK K hs p0 p1 p2 p3 g0 g1 g2 g3 g4 g5 q0 q1 q2 q3 q4 q5
      try simp only[Act.put,YB,YC,YD,YE,YF,YG]
      refine GoG.done (by kernel_rfl) ?_ _;go_wp2_with fail;go_meet
      case rel=>exact⟨wv.heap.size,rfl,Yh ⟨Bo.o,XS.o,Bn.o,KS.o⟩,NB⟩
     ·obtain⟨wn,hwn⟩:∃wn,wa.drew.alloc (.cells #[.int .i64 0,.bool false,.slice none 0 0,.bool false,.int .i64 0,.slice none 0 0] 103)=wn:=⟨_,rfl⟩
      obtain⟨kn,qn,zn⟩:=Za hwn;have BQ:=@Yh (BlockAt wn wa.heap.size _ _) (kn);have BR:=Yh (((Y8 wa.heap.size wa).drew).trans qn);have NB:=Yh (Yk wa.heap.size);have B5:=Yh (SameX.below (c:=wb) BR.o);go_simp
      try rw[hwn]
      refine hK.out _ _ (Kc ((Z5 B5.o QA.o.1 A0.o).trans p0) (Kc ((Z5 B5.o QA.o.1 A0.o).trans p1) (Kc ((Z5 B5.o QA.o.1 A0.o).trans p2) (Kc ((Z5 B5.o QA.o.1 A0.o).trans p3) (Kn))))) ?_;clear hK K hwn kn qn zn
      try simp only[Act.put,YB,YC,YD,YE,YF,YG]
      refine GoG.on 4 fun K hK=>?_
      go_simp;refine(C2.o wa.heap.size _ BR.o (Yk _) BQ.o.lt).mono ?_;rintro e9 wv ⟨rfl,hW⟩;have SN:=Yh (B5.o.trans hW.2.1);have KN:=Yh (hW.2.1.block BQ.o (show wa.heap.size≠wb by have:=AA.o;have:=QA.o;omega));have BN:=Yh hW.2.2;have Ak:=Yh hW.1;clear hW;refine hK.out _ _ (Kc ((Z5 SN.o QA.o.1 A0.o).trans p0) (Kc ((Z5 SN.o QA.o.1 A0.o).trans p1) (Kc ((Z5 SN.o QA.o.1 A0.o).trans p2) (Kc ((Z5 SN.o QA.o.1 A0.o).trans p3) (Kn))))) ?_;clear hK K;refine GoG.fr 5 ?_;obtain⟨s,hs⟩:=Yn (((((((wv.setCell ⟨wa.heap.size,0,none⟩ (.int .i64 zt)).setCell ⟨wa.heap.size,1,none⟩ (.bool y.sp.via)).setCell ⟨wa.heap.size,2,none⟩ (.slice y.po pl y.pc)).setCell ⟨wa.heap.size,3,none⟩ (.bool y.sp.many)).setCell ⟨wa.heap.size,4,none⟩ (.int .i64 f)).setCell ⟨wa.heap.size,5,none⟩ (.slice none 0 0)));have KS:=Yh (Zf1 KN.o hs);have NX:=@Yh (wb≠wa.heap.size) (by have:=AA.o;have:=QA.o;have:=NB.o;omega);have XS:=@Yh (SameX wb wa s) (Zo (Zo (Zo (Zo (Zo (Zo SN.o NB.o rfl) NB.o rfl) NB.o rfl) NB.o rfl) NB.o rfl) NB.o hs);have Bn:=@Yh (Below W0.heap.size W0 s) (by rw[<-hs];exact Zj BN.o (by have:=NB.o;have:=B2.o.size;omega) _ _ _ _ _ _);have Bo:=@Yh (WkAt (fun b=>(fun b=>(Sb b/\(Value.slice lo1 k cap1).ownBlock≠some b)) b/\b≠wa.heap.size) s wb V2 e1) ((((((Ak.o.set (fun g=>g.2 rfl) NX.o rfl).set (fun g=>g.2 rfl) NX.o rfl).set (fun g=>g.2 rfl) NX.o rfl).set (fun g=>g.2 rfl) NX.o rfl).set (fun g=>g.2 rfl) NX.o rfl).set (fun g=>g.2 rfl) NX.o hs);obtain⟨⟨g0,g1,g2,g3,g4,g5⟩,q0,q1,q2,q3,q4,q5⟩:=Zu KN.o;refine GoG.on 7 fun K hK=>?_
      go_simp
      try rw[hs]
      refine hK.out _ _ (Kc ((Z5 XS.o QA.o.1 A0.o).trans p0) (Kc ((Z5 XS.o QA.o.1 A0.o).trans p1) (Kc ((Z5 XS.o QA.o.1 A0.o).trans p2) (Kc ((Z5 XS.o QA.o.1 A0.o).trans p3) (Kn))))) ?_;clear hK K hs p0 p1 p2 p3 g0 g1 g2 g3 g4 g5 q0 q1 q2 q3 q4 q5
      try simp only[Act.put,YB,YC,YD,YE,YF,YG]
      refine GoG.done (by kernel_rfl) ?_ _;go_wp2_with fail;go_meet
      case rel=>exact⟨wa.heap.size,rfl,Yh ⟨Bo.o,XS.o,Bn.o,KS.o⟩,NB⟩
   case rest =>
    obtain⟨xb,rfl,ST,NX⟩:=hcut;clear p0 p1 p2 p3;have Aq:=@Yh (xb≠wb) (by have:=AA.o;have:=QA.o;have:=NX.o;omega);have B6:=@Yh (W0.heap.size<=xb) (by have:=B2.o.size;have:=NX.o;omega);obtain⟨wc0,hwc0⟩:=Yn (wc);rw[hwc0]at ST ⊢;clear hwc0;have AY:=ST
    by_cases he:e1=0
    case neg =>
     have A1:=@Yh (F=(noUn,[],e1)) (by rw[Ax.o];exact Zz1 Ae.o he);have hq:(e1==0)=false:=by rw[Yc];exact he
     have Bp:(e1 != 0)=true:=by rw[YJ];exact he
     have Al:=Yh he;clear he;have Am:=AY.o;obtain⟨ao,no,ac,nc,kb,hu⟩:=Am.wk;obtain⟨-,-,w2⟩:=cell3m kb;have tp:=(Z5 Am.sx QA.o.1 A0.o (o:=0)).trans (cell4 KA.o).1;go_upto_region 6 with fail;refine GoG.start [(18,⟨wb,2,none⟩,.int .i64 e1)] (by kernel_rfl) ?_ ?_
     ·exact Kd (Kn)
     refine GoG.fr 0 ?_;refine GoG.fr 1 ?_;refine GoG.fr 2 ?_;refine GoG.s1 3 0 [18] ?_;refine GoG.fr 4 ?_;refine GoG.fr 5 ?_;refine GoG.uw 6 ?_;refine GoG.uw 7 ?_;refine GoG.uw 8 ?_;refine GoG.uw 9 ?_;refine GoG.uw 10 ?_;refine GoG.uw 11 ?_;refine GoG.uw 12 ?_;refine GoG.uw 13 ?_;refine GoG.uw 14 ?_;refine GoG.uw 15 ?_;refine GoG.uw 16 ?_;refine GoG.fr 17 ?_;refine GoG.done (by kernel_rfl) ?_ _;clear w2 tp Am kb hu;have A7:=Yh (AY.o.below ((Y8 _ wc0).drew));have B7:=@Yh (Below (wc0).heap.size (wc0) (wc0).drew) ((Y8 _ _).drew);obtain⟨wd2,hwd⟩:=Yn ((wc0).drew);rw[hwd]at A7 B7 ⊢;clear hwd;have AE:=A7.o;obtain⟨ao,no,ac,nc,kb,hu⟩:=AE.wk;obtain⟨-,-,w2⟩:=cell3m kb;have tp:=(cell6L AE.bx).2.2.2.2.1;go_upto_region 8 with fail;refine GoG.start [(18,⟨wb,2,none⟩,.int .i64 e1)] (by kernel_rfl) ?_ ?_
     ·exact Kd (Kn)
     refine GoG.fr 0 ?_;refine GoG.fr 1 ?_;refine GoG.fr 2 ?_;refine GoG.s1 3 0 [18] ?_;refine GoG.fr 4 ?_;refine GoG.fr 5 ?_;refine GoG.uw 6 ?_;refine GoG.uw 7 ?_;refine GoG.uw 8 ?_;refine GoG.uw 9 ?_;refine GoG.uw 10 ?_;refine GoG.uw 11 ?_;refine GoG.uw 12 ?_;refine GoG.uw 13 ?_;refine GoG.uw 14 ?_;refine GoG.uw 15 ?_;refine GoG.uw 16 ?_;refine GoG.fr 17 ?_;refine GoG.done (by kernel_rfl) ?_ _;clear w2 tp AE kb hu;have Ar:=Yh (A7.o.below ((Y8 _ wd2).drew));have Bq:=@Yh (Below (wd2).heap.size (wd2) (wd2).drew) ((Y8 _ _).drew);obtain⟨wd3,hwd⟩:=Yn ((wd2).drew);rw[hwd]at Ar Bq ⊢;clear hwd;have A8:=Ar.o;obtain⟨ao,no,ac,nc,kb,hu⟩:=A8.wk;obtain⟨-,-,w2⟩:=cell3m kb;have An:=@Yh (WkR Sb W0 w wb V2 e1 wd3) (⟨A8.wk.sub (fun b _ g=>g.1.1),Ad.o.trans A8.sx,A8.bw⟩);clear A8 kb hu;go_wp2_with fail;go_ret
     first|exact⟨_,V2,rfl,by rw[A1.o];exact ZA0 _ _,by rw[A1.o];exact An.o,fun h=>absurd (show e1=0 by rw[A1.o]at h;exact h) Al.o⟩|exact⟨_,rfl,by rw[A1.o];exact ZA0 _ _,V2,by rw[A1.o];exact An.o,fun h=>absurd (show e1=0 by rw[A1.o]at h;exact h) Al.o⟩
    subst he;have C9:((0:Int)==0)=true:=rfl;have Ca:((0:Int) != 0)=false:=rfl;obtain⟨hown,hof,hrV,hext⟩:=Zf3 Ay.o.1 C0.o Ae.o
    have BS:inL V2.types f=true:=by
     have:=(ZV Ay.o.1 y.sp.typ).2 (by rw[Ae.o]);rw[Ae.o]at this;exact this.2.2.1
    have Aw:=BS;unfold inL at Aw;have Aw:=Yf Aw;obtain⟨zf,rfl⟩:∃zf:Nat,f=(zf:Int):=⟨f.toNat,by omega⟩
    have HKFL:=@Yh (zf<V2.types.length) (by omega);have HKTL:=@Yh (zt<V2.types.length) (Yi BP.o hext.2);have As:=Yh hrV;obtain⟨kt,hkt⟩:=Yn ((V2.types[zt]'HKTL.o).kind);obtain⟨kf,hkf⟩:=Yn ((V2.types[zf]'HKFL.o).kind);have HKT:=Yh hkt;have HKF:=Yh hkf;have B8:=@Yh (kindAt V2.types (zt:Int)=kt/\kindAt V2.types (zf:Int)=kf) (⟨by rw[Ze HKTL.o,hkt],by rw[Ze HKFL.o,hkf]⟩);have Bg:=@Yh (ownU V2 y.sp.typ (zf:Int)=if kf=7 then methU V2 (zf:Int)else if kt=8 then methU V2 (zt:Int)else(V2,[],0)) (by unfold ownU;rw[AX.o,B8.o.1,B8.o.2]);clear hown hof hrV hext BS Aw hkt hkf
    by_cases h8:kt=8
    ·have C3:(kt==8)=true:=by rw[YK];exact h8
     have Am:=AY.o;obtain⟨ao,no,ac,nc,kb,hu⟩:=Am.wk;obtain⟨ab,af,rfl,hab,hac⟩:=hu.o.types.cells (ZK As.o);obtain⟨L9,hL9⟩:=Yn ((V2).types.length);have Ai:=Yh hL9;rw[hL9]at kb;obtain⟨w0,-,w2⟩:=cell3m kb;have A2:(zt:Int)<(L9:Int):=by rw[<-hL9];have:=HKTL.o;omega
     obtain⟨_,_,_,_,kt0,-,-,-,-,-,-,-⟩:=hac zt HKTL.o;rw[HKT.o]at kt0;have tp:=(Z5 Am.sx QA.o.1 A0.o (o:=0)).trans (cell4 KA.o).1;go_upto_region 6 with fail;refine GoG.start [(18,⟨wb,0,none⟩,.slice (some ⟨ab,af,none⟩) L9 ac),(18,⟨wb,2,none⟩,.int .i64 0),(18,⟨wr.heap.size,0,none⟩,.int .i64 zt),(18,⟨ab,af+zt*5,none⟩,.int .i64 kt)] (by kernel_rfl) ?_ ?_
     ·exact Kd (Kd (Kd (Kd (Kn))))
     refine GoG.fr 0 ?_;refine GoG.fr 1 ?_;refine GoG.fr 2 ?_;refine GoG.s1 3 1 [18] ?_;refine GoG.fr 4 ?_;refine GoG.fr 5 ?_;refine GoG.fr 6 ?_;refine GoG.fr 7 ?_;refine GoG.fr 8 ?_;refine GoG.fr 9 ?_;refine GoG.s1 10 0 [18] ?_;refine GoG.fr 11 ?_;refine GoG.s1 12 2 [18] ?_;refine GoG.fr 13 ?_;refine GoG.fr 14 ?_;refine GoG.s1 15 3 [18] ?_;refine GoG.fr 16 ?_;refine GoG.fr 17 ?_;refine GoG.done (by kernel_rfl) ?_ _;clear w2 tp Am kb hu w0 kt0 hac hab A2 hL9;have A7:=Yh (AY.o.below ((Y8 _ wc0).drew));have B7:=@Yh (Below (wc0).heap.size (wc0) (wc0).drew) ((Y8 _ _).drew);obtain⟨wd2,hwd⟩:=Yn ((wc0).drew);rw[hwd]at A7 B7 ⊢;clear hwd;have AF:=ZAa (fun b=>(fun b=>(Sb b/\(Value.slice lo1 k cap1).ownBlock≠some b)) b/\b≠xb) V2 (zt:Int) wb W0 wd2 A7.o.bw B1.o (fun b hb=>⟨AB.o b (by have:=A7.o.sx.1;have:=QA.o;omega),by have:=A7.o.bx.lt;omega⟩) (fun g=>B4.o g.1) A7.o.wk B0.o As.o zt rfl HKTL.o (by rw[HKT.o];exact h8);obtain⟨⟨X1,ms1,e2⟩,hM1⟩:∃R,methU V2 (zt:Int)=R:=⟨_,rfl⟩
     rw[hM1]at AF;obtain⟨m1,hm1⟩:=Yn (ms1.length);have AG:=Yh hm1;have C4:=Yh AF;have Bh:=Yh hM1;have tp:=(Z5 A7.o.sx QA.o.1 A0.o (o:=0)).trans (cell4 KA.o).1;clear AF hM1 hm1;go_wp2_with fail;refine C4.o.mono ?_;rintro e9 wm ⟨mo,mc,⟨rfl,hmr,hml,hoe⟩,hW⟩
     try rw[AG.o]
     clear tp;have Br:=Yh (hW.2.1.block A7.o.bx Aq.o);obtain⟨wp,hwp⟩:=Yn (wm.setCell ⟨xb,5,none⟩ (.slice mo m1 mc));have BT:=@Yh (WkAt (offS (fun b=>(fun b=>(Sb b/\(Value.slice lo1 k cap1).ownBlock≠some b)) b/\b≠xb) mo) wp wb X1 e2) (hW.1.set (fun g=>g.1.2 rfl) Aq.o.symm hwp);have Az:=@Yh (LSt (fun b=>(Sb b/\(Value.slice lo1 k cap1).ownBlock≠some b)) W0 wa wb xb #[.int .i64 zt,.bool y.sp.via,.slice y.po pl y.pc,.bool y.sp.many,.int .i64 zf,.slice mo m1 mc] X1 e2 wp) (⟨BT.o.sub (fun b _ g=>g.1),Zo (A7.o.sx.trans hW.2.1) NX.o hwp,Z6 hW.2.2 B6.o hwp,Zn0 Br.o hwp⟩);have Bs:=@Yh (MRowS (fun b=>(fun b=>(Sb b/\(Value.slice lo1 k cap1).ownBlock≠some b)) b/\b≠xb) wp mo ms1) (hmr.same (SameS.set (fun g=>g.2 rfl) hwp));have Bt:=Yh hml;have B9:=@Yh (xb<wd2.heap.size/\wb<wd2.heap.size/\wa.heap.size<=wd2.heap.size/\wd2.heap.size<=wp.heap.size) (⟨A7.o.bx.lt,by have:=AA.o;have:=QA.o;have:=A7.o.sx.1;omega,A7.o.sx.1,by rw[<-hwp];simpa using hW.2.1.1⟩);have Bu:=@Yh (ms1=[]->OwnM wp wd2.heap.size (.slice mo 0 mc) []) (fun h=>(hoe h).otherS B9.o.1 hwp);have m5:=(cell6L Br.o).2.2.2.2.2;have C5:=Br.o.free 5;clear hmr hml hoe hW;go_upto_region 8 with fail;clear m5 C5 hwp
     by_cases h7:kf=7
     focus
      have Bv:=ZU9 Ay.o.1 BP.o (show underU V (zt:Int)=(V2,(zf:Int),0)from by rw[<-AX.o];exact Ae.o) (B8.o.1.trans h8) (B8.o.2.trans h7);rw[Bh.o]at Bv;simp only[Prod.mk.injEq]at Bv;obtain⟨hx1,hx2,hx3⟩:=Bv;subst hx2;subst hx3;have C6:=hx1.symm;subst C6;have Bw:m1=0:=AG.o.symm;subst Bw;have Bx:(kf==7)=true:=by rw[YK];exact h7
      have H7:=Yh h7;clear h7 h8;have A3:=Az.o;obtain⟨ao,no,ac,nc,kb,hu⟩:=A3.wk;obtain⟨ab,af,rfl,hab,hac⟩:=hu.o.types.cells (ZK As.o);obtain⟨L9,hL9⟩:=Yn ((V2).types.length);have Ai:=Yh hL9;rw[hL9]at kb;obtain⟨w0,-,w2⟩:=cell3m kb;have A2:(zf:Int)<(L9:Int):=by rw[<-hL9];have:=HKFL.o;omega
      obtain⟨_,_,_,_,kt0,-,-,-,-,-,-,-⟩:=hac zf HKFL.o;rw[HKF.o]at kt0
     rotate_left
     focus
      have Bx:(kf==7)=false:=by rw[Yc];exact h7
      have HO:=@Yh (ownU V2 y.sp.typ (zf:Int)=(X1,ms1,e2)) (by rw[Bg.o,if_neg h7,if_pos h8,Bh.o]);clear h7 h8
      by_cases he2:e2=0
      case neg =>
       have A1:=@Yh (F=(noUn,[],e2)) (by rw[Ax.o];exact Zo0 Ae.o HO.o he2);have hq:(e2==0)=false:=by rw[Yc];exact he2
       have Bp:(e2 != 0)=true:=by rw[YJ];exact he2
       have Al:=Yh he2;clear he2;have A3:=Az.o;obtain⟨ao,no,ac,nc,kb,hu⟩:=A3.wk;obtain⟨-,-,w2⟩:=cell3m kb;have tp:=(cell6L A3.bx).2.2.2.2.1;go_upto_region 8 with fail;refine GoG.start [(18,⟨wb,2,none⟩,.int .i64 e2)] (by kernel_rfl) ?_ ?_
       ·exact Kd (Kn)
       refine GoG.fr 0 ?_;refine GoG.fr 1 ?_;refine GoG.fr 2 ?_;refine GoG.s1 3 0 [18] ?_;refine GoG.fr 4 ?_;refine GoG.fr 5 ?_;refine GoG.uw 6 ?_;refine GoG.uw 7 ?_;refine GoG.uw 8 ?_;refine GoG.uw 9 ?_;refine GoG.uw 10 ?_;refine GoG.uw 11 ?_;refine GoG.uw 12 ?_;refine GoG.uw 13 ?_;refine GoG.uw 14 ?_;refine GoG.uw 15 ?_;refine GoG.uw 16 ?_;refine GoG.fr 17 ?_;refine GoG.done (by kernel_rfl) ?_ _;clear w2 tp A3 kb hu;have AZ:=Yh (Az.o.below ((Y8 _ wp).drew));have AH:=@Yh (Below (wp).heap.size (wp) (wp).drew) ((Y8 _ _).drew);obtain⟨wd5,hwd⟩:=Yn ((wp).drew);rw[hwd]at AZ AH ⊢;clear hwd;have A9:=AZ.o;obtain⟨ao,no,ac,nc,kb,hu⟩:=A9.wk;obtain⟨-,-,w2⟩:=cell3m kb;have An:=@Yh (WkR Sb W0 w wb X1 e2 wd5) (⟨A9.wk.sub (fun b _ g=>g.1.1),Ad.o.trans A9.sx,A9.bw⟩);clear A9 kb hu;go_wp2_with fail;go_ret
       first|exact⟨_,X1,rfl,by rw[A1.o];exact ZA0 _ _,by rw[A1.o];exact An.o,fun h=>absurd (show e2=0 by rw[A1.o]at h;exact h) Al.o⟩|exact⟨_,rfl,by rw[A1.o];exact ZA0 _ _,X1,by rw[A1.o];exact An.o,fun h=>absurd (show e2=0 by rw[A1.o]at h;exact h) Al.o⟩
      subst he2;have AI:=@Yh (F=joinL (d++[⟨y.sp,(zf:Int),ms1⟩]) (lookT (es.drop (k+1)) X1)) (by rw[Ax.o];exact ZO0 Ae.o HO.o);have AJ:=Yh (Z31 Ay.o Ae.o HO.o);have Bi:=Yh (ZC4 As.o (i:=(zt:Int)) (by unfold inL;exact Yb (by have:=HKTL.o;omega)) (by rw[Bh.o]));rw[Bh.o]at Bi;have C7:=@Yh (rightU X1=true) (Bi.o.1);have HKXL:=@Yh (zf<X1.types.length) (Yi HKFL.o Bi.o.2.2)
      have HKX:=Yh (show(X1.types[zf]'HKXL.o).kind=kf from by
       have h1:=Bi.o.2.kind (k:=(zf:Int)) (by omega) (by have:=HKFL.o;omega);rw[B8.o.2]at h1;rw[<-Ze HKXL.o];exact h1)
      have A3:=Az.o;obtain⟨ao,no,ac,nc,kb,hu⟩:=A3.wk;obtain⟨ab,af,rfl,hab,hac⟩:=hu.o.types.cells (ZK C7.o);obtain⟨L9,hL9⟩:=Yn ((X1).types.length);have Ai:=Yh hL9;rw[hL9]at kb;obtain⟨w0,-,w2⟩:=cell3m kb;have A2:(zf:Int)<(L9:Int):=by rw[<-hL9];have:=HKXL.o;omega
      obtain⟨_,_,_,_,kt0,-,-,-,-,-,-,-⟩:=hac zf HKXL.o;rw[HKX.o]at kt0
     rotate_left
     all_goals
      have tp:=(cell6L A3.bx).2.2.2.2.1;go_upto_region 8 with fail;refine GoG.start [(18,⟨wb,0,none⟩,.slice (some ⟨ab,af,none⟩) L9 ac),(18,⟨wb,2,none⟩,.int .i64 0),(18,⟨xb,4,none⟩,.int .i64 zf),(18,⟨ab,af+zf*5,none⟩,.int .i64 kf)] (by kernel_rfl) ?_ ?_
      ·exact Kd (Kd (Kd (Kd (Kn))))
      refine GoG.fr 0 ?_;refine GoG.fr 1 ?_;refine GoG.fr 2 ?_;refine GoG.s1 3 1 [18] ?_;refine GoG.fr 4 ?_;refine GoG.fr 5 ?_;refine GoG.fr 6 ?_;refine GoG.fr 7 ?_;refine GoG.fr 8 ?_;refine GoG.fr 9 ?_;refine GoG.s1 10 0 [18] ?_;refine GoG.fr 11 ?_;refine GoG.s1 12 2 [18] ?_;refine GoG.fr 13 ?_;refine GoG.fr 14 ?_;refine GoG.s1 15 3 [18] ?_;refine GoG.fr 16 ?_;refine GoG.fr 17 ?_;refine GoG.done (by kernel_rfl) ?_ _;clear w2 tp A3 kb hu w0 kt0 hac hab A2 hL9;have AZ:=Yh (Az.o.below ((Y8 _ wp).drew));have AH:=@Yh (Below (wp).heap.size (wp) (wp).drew) ((Y8 _ _).drew);obtain⟨wd5,hwd⟩:=Yn ((wp).drew);rw[hwd]at AZ AH ⊢;clear hwd
     ·have BU:=Yh (OwnM.keptS (Bu.o rfl) AH.o)
      have A5:=@Yh (xb<wd2.heap.size/\wb<wd2.heap.size/\wa.heap.size<=wd2.heap.size/\wd2.heap.size<=wd5.heap.size) (⟨B9.o.1,B9.o.2.1,B9.o.2.2.1,Yj B9.o.2.2.2 AH.o.size⟩);have By:=Yh ((BT.o.below AH.o).sub (R:=(fun b=>((fun b=>(fun b=>(Sb b/\(Value.slice lo1 k cap1).ownBlock≠some b)) b/\b≠xb) b)/\(Value.slice mo 0 mc).ownBlock≠some b)) (fun b _ g=>⟨g.1,Zhd g.2⟩));obtain⟨⟨X9,ms,e3⟩,hM9⟩:∃R,methU V2 (zf:Int)=R:=⟨_,rfl⟩
      have A9:=AZ.o
      have AK:=Yh (show ms.length<=1000 from by
       have h1:=ZU3 As.o (zf:Int);rw[hM9]at h1;exact Yj h1 (by decide))
      have Af:=Zp7 (fun b=>((fun b=>(fun b=>(Sb b/\(Value.slice lo1 k cap1).ownBlock≠some b)) b/\b≠xb) b)/\(Value.slice mo 0 mc).ownBlock≠some b) V2 (zf:Int) wb W0 (wd5).drew (A9.bw.drew) B1.o (fun b hb=>⟨⟨AB.o b (by have h1:=A5.o;have h2:(wd5).heap.size<=b:=hb;have:=QA.o;have:=NX.o;omega),by have h1:=A5.o;have h2:(wd5).heap.size<=b:=hb;omega⟩,fun he=>by have h1:=(World.ownsRow.lt BU.o b he);have h2:(wd5).heap.size<=b:=hb;omega⟩) (fun g=>B4.o g.1.1) (By.o.below (Y8 _ _).drew) B0.o As.o zf rfl HKFL.o (by rw[HKF.o];exact H7.o);rw[hM9]at Af;obtain⟨ml,hml9⟩:=Yn (ms.length);have Aa:=Yh hml9;have Bz:=Yh Af;have BA:=Yh hM9;obtain⟨-,-,-,-,x4,x5⟩:=cell6L A9.bx;have AL:=Yh A9.bx;have BB:=Yh A9.sx;clear Af hM9 hml9 A9;go_upto_region 9 with fail;refine GoG.start [(8,⟨xb,5,none⟩,Value.slice mo 0 mc),(8,⟨xb,4,none⟩,.int .i64 zf)] (by kernel_rfl) ?_ ?_
      ·exact Kd (Kd (Kn))
      refine GoG.fr 0 ?_;refine GoG.s1 1 0 [8] ?_;refine GoG.fr 2 ?_;refine GoG.fr 3 ?_;refine GoG.s1 4 1 [8] ?_;refine GoG.on 5 fun K hK=>?_
      go_simp;refine Bz.o.mono ?_;rintro e9 wm ⟨⟨lo2,lc2,rfl,hmr,hml⟩,hW⟩;have XM:=@Yh (SameX wb (wd5) wm) ((SameX.below (c:=wb) (Y8 (wd5).heap.size (wd5)).drew).trans hW.2.1);have BC:=Yh hW.1;have Ba:=Yh hW.2.2;have Ao:=Yh (BU.o.keptX XM.o (show wb<wd2.heap.size from A5.o.2.1));obtain⟨v8,w8,hap,hO8,hg8,hb8⟩:=Zm6 (lc:=lc2) Ao.o hmr.o AK.o (show wd2.heap.size<=wm.heap.size from Yj A5.o.2.2.2 XM.o.1);obtain⟨lo8,cap8,hv8,hmb8,hlc8,-⟩:=ZM0 hO8;rw[Aa.o]at hv8 hlc8;subst hv8;refine hK.out _ _ (Kc ((Z5 XM.o (show xb<(wd5).heap.size from AL.o.lt) Aq.o).trans x5) (Kc ((Z5 XM.o (show xb<(wd5).heap.size from AL.o.lt) Aq.o).trans x4) Kn)) ?_;have BD:=Yh (XM.o.block AL.o Aq.o);have BE:=@Yh ((Value.slice mo 0 mc).ownBlock≠some xb) (fun he=>by have h1:=(World.ownsRow.lt Ao.o xb he).1;have:=A5.o.1;omega);have BF:=@Yh ((Value.slice mo 0 mc).ownBlock≠some wb) (fun he=>by have h1:=(World.ownsRow.lt Ao.o wb he).1;have:=A5.o.2.1;omega);have AM:=Yh (bgrown BD.o hg8 BE.o)
      have BG:=Yh (show WkAt (fun b=>((fun b=>(fun b=>(Sb b/\(Value.slice lo1 k cap1).ownBlock≠some b)) b/\b≠xb) b)/\(Value.slice mo 0 mc).ownBlock≠some b) w8 wb X9 e3 from by
       obtain⟨ao,no,ac,nc,hk,hu⟩:=BC.o;exact⟨ao,no,ac,nc,bgrown hk hg8 BF.o,hu.same (ZP hg8 (fun b hs=>hs.2))⟩)
      have BH:=Yh (Z92 (BB.o.trans XM.o) hg8 (fun g hg=>Yj A5.o.2.2.1 (World.ownsRow.lt Ao.o g hg).1));have BI:=@Yh (Below W0.heap.size W0 w8) (Ba.o.grown hg8 (by have:=Ba.o.size;omega) (fun q hq=>by have h1:=(World.ownsRow.lt Ao.o q hq).1;have:=A5.o.1;have:=B6.o;omega));have AN:=Yh hmb8;have AO:=Yh hlc8;clear hK K hmr hml hW hmb8 hlc8 hO8 hb8
      try simp only[Act.put,YB,YC,YD,YE,YF,YG]
      obtain⟨-,-,-,-,z4,z5⟩:=cell6L AM.o;refine GoG.run (i:=6) rfl (by kernel_rfl) rfl (.tmp 63) (.tmp 67) 51 rfl (Value.slice mo 0 mc) (.slice lo2 ms.length lc2) (.slice lo8 ml cap8) rfl rfl hap ⟨Kc z5 (Kc z4 Kn),?_⟩;clear hap hg8 x4 x5;refine GoG.fr 7 ?_;obtain⟨s9,hs9⟩:=Yn (w8.setCell ⟨xb,5,none⟩ (.slice lo8 ml cap8));have BJ:=AM.o.free 5;have BV:=@Yh (LSt (fun b=>(Sb b/\(Value.slice lo1 k cap1).ownBlock≠some b)) W0 wa wb xb #[.int .i64 zt,.bool y.sp.via,.slice y.po pl y.pc,.bool y.sp.many,.int .i64 zf,.slice lo8 ml cap8] X9 e3 s9) (⟨(BG.o.set (fun g=>g.1.2 rfl) Aq.o.symm hs9).sub (fun b _ g=>g.1),Zo BH.o NX.o hs9,Z6 BI.o B6.o hs9,Zn0 AM.o hs9⟩);have AP:=@Yh (MRowS (fun b=>(Sb b/\(Value.slice lo1 k cap1).ownBlock≠some b)) s9 lo8 ms) ((AN.o.other (show xb<wd2.heap.size from A5.o.1) hs9).rowS (fun b hb=>AB.o b (by have h1:=A5.o;have:=NX.o;have:=QA.o;omega)));refine GoG.on 8 fun K hK=>?_
      go_simp;refine hK.out _ _ (Ku (Ku Kn)) ?_;clear hK K z4 z5 BJ hs9
      try simp only[Act.put,YB,YC,YD,YE,YF,YG]
      refine GoG.done (by kernel_rfl) ?_ _;have HO:=@Yh (ownU V2 y.sp.typ (zf:Int)=(X9,ms,e3)) (by rw[Bg.o,if_pos H7.o,BA.o])
      by_cases he3:e3=0
      case neg =>
       have A1:=@Yh (F=(noUn,[],e3)) (by rw[Ax.o];exact Zo0 Ae.o HO.o he3);have Bp:(e3 != 0)=true:=by rw[YJ];exact he3
       have Al:=Yh he3;clear he3;have Ah:=BV.o;obtain⟨ao,no,ac,nc,kb,hu⟩:=Ah.wk;obtain⟨-,-,w2⟩:=cell3m kb;have An:=@Yh (WkR Sb W0 w wb X9 e3 s9) (⟨Ah.wk.sub (fun b _ g=>g.1.1),Ad.o.trans Ah.sx,Ah.bw⟩);clear Ah kb hu;go_wp2_with fail;go_ret
       first|exact⟨_,X9,rfl,by rw[A1.o];exact ZA0 _ _,by rw[A1.o];exact An.o,fun h=>absurd (show e3=0 by rw[A1.o]at h;exact h) Al.o⟩|exact⟨_,rfl,by rw[A1.o];exact ZA0 _ _,X9,by rw[A1.o];exact An.o,fun h=>absurd (show e3=0 by rw[A1.o]at h;exact h) Al.o⟩
      subst he3;have AI:=@Yh (F=joinL (d++[⟨y.sp,(zf:Int),ms⟩]) (lookT (es.drop (k+1)) X9)) (by rw[Ax.o];exact ZO0 Ae.o HO.o);have AJ:=Yh (Z31 Ay.o Ae.o HO.o);have Ah:=BV.o;obtain⟨ao,no,ac,nc,kb,hu⟩:=Ah.wk;obtain⟨-,-,w2⟩:=cell3m kb;obtain⟨x0,x1,x2,x3,x4,x5⟩:=cell6L Ah.bx;have Ap:=Yh (Av.o.keptX Ah.sx A4.o Aj.o);have Ag:=Yh (Ad.o.trans Ah.sx);have AQ:=Yh Ah.bw;have Ak:=Yh (Ah.wk.sub (R:=(fun b=>(Sb b/\(Value.slice lo1 k cap1).ownBlock≠some b))) (fun b _ g=>g.1));obtain⟨NZ,hNZ⟩:∃NZ:Lz,NZ=⟨⟨y.sp,y.po,y.pc⟩,(zf:Int),ms,lo8,cap8⟩:=⟨_,rfl⟩
      have AR:=Yh hNZ;have Ab:=@Yh (lC NZ=[.int .i64 zt,.bool y.sp.via,.slice y.po pl y.pc,.bool y.sp.many,.int .i64 zf,.slice lo8 ml cap8]) (by rw[hNZ,<-Be.o];unfold lC;rw[AX.o];rw[Aa.o]);have AS:=@Yh (LkIn (fun b=>(Sb b/\(Value.slice lo1 k cap1).ownBlock≠some b)) s9 NZ) (by rw[hNZ];exact⟨⟨Ap.o.old Aj.o Ag.o Bf.o,At.o⟩,AP.o,by rw[Aa.o];exact AO.o⟩);obtain⟨zs9,ho9,hm9,hs9⟩:=Ap.o;have A2:zs9.length=k:=by rw[<-HD.o,<-hm9,Yg]
      have AT:=@Yh ((s9).ownsRow w.heap.size 103 6 (.slice lo1 k cap1) k (encs lC zs9)) (by have:=ho9;unfold OwnG at this;rw[A2]at this;exact this);have Ac:=Yh (YH ho9 (YH hm9 (YH hs9 A2)));have WV:=Yh Ag.o.1;clear Ah kb hu hNZ ho9 hm9 hs9 A2;go_wp2_with (at_builtin;refine wpList_append_own_at _ rfl _ _ 61 rfl w.heap.size 103 i0 (.agg #[.int .i64 0,.bool false,.slice none 0 0,.bool false,.int .i64 0,.slice none 0 0]) 6 80 Tryz.underlying61 hi hz0 hz1 hz2 rfl (by decide) _ k (encs lC zs9) rfl (AT.o.alloc _) ⟨(s9).heap.size,0,none⟩ 1 1 (lC NZ) rfl ?c1 ?c2 ?c3 ?c4 ?c5 ?c6 ?_)
      case c1=>rfl
      case c2=>rw[Ab.o];first|exact Z9 _ _ _|exact fun j u h=>h
      case c3=>exact Zh5 _
      case c4=>unfold maxLen;omega
      case c5=>omega
      case c6=>have:=WV.o;simp;omega
      intro v9 w9 hown hgrow _ hblk;have hp:=LooI.push (wn:=_) (z:=NZ) Ac.o.1 Ac.o.2.1 Ac.o.2.2.1 Ak.o Ag.o AQ.o HB.o.size A4.o ((Y8 _ _).alloc (Yk _) (.cells (lC NZ).toArray 103)) AS.o (by rw[Ac.o.2.2.2]) (by first|exact hown|(rw[Ab.o];rw[Ab.o]at hown;exact hown)) (by first|exact hgrow|(rw[Ab.o];exact hgrow)) (by simpa using hblk);have Ai:=@Yh (LooI Sb w.heap.size w9 v9 (d++[⟨y.sp,(zf:Int),ms⟩])) (by have:=hp.1;rw[AR.o]at this;exact this);have AU:=Yh hp.2.1;have AV:=Yh hp.2.2.1;have AW:=Yh hp.2.2.2;clear hown hgrow hblk hp;go_wp2_with fail;go_roundw
      case rel=>exact⟨k+1,X9,d++[⟨y.sp,(zf:Int),ms⟩],by omega,by go_num,AI,Yh (by have:=HD.o;simp;omega),AJ,AU,Ai,AV,AW⟩
      case measure=>first|(simp[intOf];done)|(simp[intOf];omega)
     ·have Aa:=AG
      have BK:=@Yh (MRowS (fun b=>(Sb b/\(Value.slice lo1 k cap1).ownBlock≠some b)) wd5 mo ms1) (ZF (Bs.o.same (SameS.below AH.o)) (fun b _ g=>g.1));have A9:=AZ.o;obtain⟨ao,no,ac,nc,kb,hu⟩:=A9.wk;obtain⟨-,-,w2⟩:=cell3m kb;obtain⟨x0,x1,x2,x3,x4,x5⟩:=cell6L A9.bx;have Ap:=Yh (Av.o.keptX A9.sx A4.o Aj.o);have Ag:=Yh (Ad.o.trans A9.sx);have AQ:=Yh A9.bw;have Ak:=Yh (A9.wk.sub (R:=(fun b=>(Sb b/\(Value.slice lo1 k cap1).ownBlock≠some b))) (fun b _ g=>g.1));obtain⟨NZ,hNZ⟩:∃NZ:Lz,NZ=⟨⟨y.sp,y.po,y.pc⟩,(zf:Int),ms1,mo,mc⟩:=⟨_,rfl⟩
      have AR:=Yh hNZ;have Ab:=@Yh (lC NZ=[.int .i64 zt,.bool y.sp.via,.slice y.po pl y.pc,.bool y.sp.many,.int .i64 zf,.slice mo m1 mc]) (by rw[hNZ,<-Be.o];unfold lC;rw[AX.o];rw[Aa.o]);have AS:=@Yh (LkIn (fun b=>(Sb b/\(Value.slice lo1 k cap1).ownBlock≠some b)) wd5 NZ) (by rw[hNZ];exact⟨⟨Ap.o.old Aj.o Ag.o Bf.o,At.o⟩,BK.o,Bt.o⟩);obtain⟨zs9,ho9,hm9,hs9⟩:=Ap.o;have A2:zs9.length=k:=by rw[<-HD.o,<-hm9,Yg]
      have AT:=@Yh ((wd5).ownsRow w.heap.size 103 6 (.slice lo1 k cap1) k (encs lC zs9)) (by have:=ho9;unfold OwnG at this;rw[A2]at this;exact this);have Ac:=Yh (YH ho9 (YH hm9 (YH hs9 A2)));have WV:=Yh Ag.o.1;clear A9 kb hu hNZ ho9 hm9 hs9 A2;go_wp2_with (at_builtin;refine wpList_append_own_at _ rfl _ _ 61 rfl w.heap.size 103 i0 (.agg #[.int .i64 0,.bool false,.slice none 0 0,.bool false,.int .i64 0,.slice none 0 0]) 6 80 Tryz.underlying61 hi hz0 hz1 hz2 rfl (by decide) _ k (encs lC zs9) rfl (AT.o.alloc _) ⟨(wd5).heap.size,0,none⟩ 1 1 (lC NZ) rfl ?c1 ?c2 ?c3 ?c4 ?c5 ?c6 ?_)
      case c1=>rfl
      case c2=>rw[Ab.o];first|exact Z9 _ _ _|exact fun j u h=>h
      case c3=>exact Zh5 _
      case c4=>unfold maxLen;omega
      case c5=>omega
      case c6=>have:=WV.o;simp;omega
      intro v9 w9 hown hgrow _ hblk;have hp:=LooI.push (wn:=_) (z:=NZ) Ac.o.1 Ac.o.2.1 Ac.o.2.2.1 Ak.o Ag.o AQ.o HB.o.size A4.o ((Y8 _ _).alloc (Yk _) (.cells (lC NZ).toArray 103)) AS.o (by rw[Ac.o.2.2.2]) (by first|exact hown|(rw[Ab.o];rw[Ab.o]at hown;exact hown)) (by first|exact hgrow|(rw[Ab.o];exact hgrow)) (by simpa using hblk);have Ai:=@Yh (LooI Sb w.heap.size w9 v9 (d++[⟨y.sp,(zf:Int),ms1⟩])) (by have:=hp.1;rw[AR.o]at this;exact this);have AU:=Yh hp.2.1;have AV:=Yh hp.2.2.1;have AW:=Yh hp.2.2.2;clear hown hgrow hblk hp;go_wp2_with fail;go_roundw
      case rel=>exact⟨k+1,X1,d++[⟨y.sp,(zf:Int),ms1⟩],by omega,by go_num,AI,Yh (by have:=HD.o;simp;omega),AJ,AU,Ai,AV,AW⟩
      case measure=>first|(simp[intOf];done)|(simp[intOf];omega)
    ·have C3:(kt==8)=false:=by rw[Yc];exact h8
     have Am:=AY.o;obtain⟨ao,no,ac,nc,kb,hu⟩:=Am.wk;obtain⟨ab,af,rfl,hab,hac⟩:=hu.o.types.cells (ZK As.o);obtain⟨L9,hL9⟩:=Yn ((V2).types.length);have Ai:=Yh hL9;rw[hL9]at kb;obtain⟨w0,-,w2⟩:=cell3m kb;have A2:(zt:Int)<(L9:Int):=by rw[<-hL9];have:=HKTL.o;omega
     obtain⟨_,_,_,_,kt0,-,-,-,-,-,-,-⟩:=hac zt HKTL.o;rw[HKT.o]at kt0;have tp:=(Z5 Am.sx QA.o.1 A0.o (o:=0)).trans (cell4 KA.o).1;go_upto_region 6 with fail;refine GoG.start [(18,⟨wb,0,none⟩,.slice (some ⟨ab,af,none⟩) L9 ac),(18,⟨wb,2,none⟩,.int .i64 0),(18,⟨wr.heap.size,0,none⟩,.int .i64 zt),(18,⟨ab,af+zt*5,none⟩,.int .i64 kt)] (by kernel_rfl) ?_ ?_
     ·exact Kd (Kd (Kd (Kd (Kn))))
     refine GoG.fr 0 ?_;refine GoG.fr 1 ?_;refine GoG.fr 2 ?_;refine GoG.s1 3 1 [18] ?_;refine GoG.fr 4 ?_;refine GoG.fr 5 ?_;refine GoG.fr 6 ?_;refine GoG.fr 7 ?_;refine GoG.fr 8 ?_;refine GoG.fr 9 ?_;refine GoG.s1 10 0 [18] ?_;refine GoG.fr 11 ?_;refine GoG.s1 12 2 [18] ?_;refine GoG.fr 13 ?_;refine GoG.fr 14 ?_;refine GoG.s1 15 3 [18] ?_;refine GoG.fr 16 ?_;refine GoG.fr 17 ?_;refine GoG.done (by kernel_rfl) ?_ _;clear w2 tp Am kb hu w0 kt0 hac hab A2 hL9;have A7:=Yh (AY.o.below ((Y8 _ wc0).drew));have B7:=@Yh (Below (wc0).heap.size (wc0) (wc0).drew) ((Y8 _ _).drew);obtain⟨wd2,hwd⟩:=Yn ((wc0).drew);rw[hwd]at A7 B7 ⊢;clear hwd
     by_cases h7:kf=7
     focus
      have Bx:(kf==7)=true:=by rw[YK];exact h7
      have H7:=Yh h7;clear h8 h7
     rotate_left
     focus
      have Bx:(kf==7)=false:=by rw[Yc];exact h7
      have HO:=@Yh (ownU V2 y.sp.typ (zf:Int)=(V2,[],0)) (by rw[Bg.o,if_neg h7,if_neg h8]);have AI:=@Yh (F=joinL (d++[⟨y.sp,(zf:Int),[]⟩]) (lookT (es.drop (k+1)) V2)) (by rw[Ax.o];exact ZO0 Ae.o HO.o);have AJ:=Yh (Z31 Ay.o Ae.o HO.o);clear h7 h8
     rotate_left
     all_goals
      have AE:=A7.o;obtain⟨ao,no,ac,nc,kb,hu⟩:=AE.wk;obtain⟨ab,af,rfl,hab,hac⟩:=hu.o.types.cells (ZK As.o);obtain⟨L9,hL9⟩:=Yn ((V2).types.length);have Ai:=Yh hL9;rw[hL9]at kb;obtain⟨w0,-,w2⟩:=cell3m kb;have A2:(zf:Int)<(L9:Int):=by rw[<-hL9];have:=HKFL.o;omega
      obtain⟨_,_,_,_,kt0,-,-,-,-,-,-,-⟩:=hac zf HKFL.o;rw[HKF.o]at kt0;have tp:=(cell6L AE.bx).2.2.2.2.1;go_upto_region 8 with fail;refine GoG.start [(18,⟨wb,0,none⟩,.slice (some ⟨ab,af,none⟩) L9 ac),(18,⟨wb,2,none⟩,.int .i64 0),(18,⟨xb,4,none⟩,.int .i64 zf),(18,⟨ab,af+zf*5,none⟩,.int .i64 kf)] (by kernel_rfl) ?_ ?_
      ·exact Kd (Kd (Kd (Kd (Kn))))
      refine GoG.fr 0 ?_;refine GoG.fr 1 ?_;refine GoG.fr 2 ?_;refine GoG.s1 3 1 [18] ?_;refine GoG.fr 4 ?_;refine GoG.fr 5 ?_;refine GoG.fr 6 ?_;refine GoG.fr 7 ?_;refine GoG.fr 8 ?_;refine GoG.fr 9 ?_;refine GoG.s1 10 0 [18] ?_;refine GoG.fr 11 ?_;refine GoG.s1 12 2 [18] ?_;refine GoG.fr 13 ?_;refine GoG.fr 14 ?_;refine GoG.s1 15 3 [18] ?_;refine GoG.fr 16 ?_;refine GoG.fr 17 ?_;refine GoG.done (by kernel_rfl) ?_ _;clear w2 tp AE kb hu w0 kt0 hac hab A2 hL9;have Ar:=Yh (A7.o.below ((Y8 _ wd2).drew));have Bq:=@Yh (Below (wd2).heap.size (wd2) (wd2).drew) ((Y8 _ _).drew);obtain⟨wd3,hwd⟩:=Yn ((wd2).drew);rw[hwd]at Ar Bq ⊢;clear hwd
     ·have BW:=@Yh (OwnM wd3 wd3.heap.size (.slice none 0 0) []) (World.ownsRow_nil _ _ _ _)
      have A6:=@Yh (xb<wd3.heap.size/\wb<wd3.heap.size/\wa.heap.size<=wd3.heap.size/\wd3.heap.size<=wd3.heap.size) (⟨Ar.o.bx.lt,by have:=AA.o;have:=QA.o;have:=Ar.o.sx.1;omega,Ar.o.sx.1,Yk _⟩);have BL:=Yh (Ar.o.wk.sub (R:=(fun b=>((fun b=>(fun b=>(Sb b/\(Value.slice lo1 k cap1).ownBlock≠some b)) b/\b≠xb) b)/\(Value.slice none 0 0).ownBlock≠some b)) (fun b _ g=>⟨g,fun he=>by cases he⟩));obtain⟨⟨X9,ms,e3⟩,hM9⟩:∃R,methU V2 (zf:Int)=R:=⟨_,rfl⟩
      have A8:=Ar.o
      have AK:=Yh (show ms.length<=1000 from by
       have h1:=ZU3 As.o (zf:Int);rw[hM9]at h1;exact Yj h1 (by decide))
      have Af:=Zp7 (fun b=>((fun b=>(fun b=>(Sb b/\(Value.slice lo1 k cap1).ownBlock≠some b)) b/\b≠xb) b)/\(Value.slice none 0 0).ownBlock≠some b) V2 (zf:Int) wb W0 (wd3).drew (A8.bw.drew) B1.o (fun b hb=>⟨⟨AB.o b (by have h1:=A6.o;have h2:(wd3).heap.size<=b:=hb;have:=QA.o;have:=NX.o;omega),by have h1:=A6.o;have h2:(wd3).heap.size<=b:=hb;omega⟩,fun he=>by have h1:=(World.ownsRow.lt BW.o b he);have h2:(wd3).heap.size<=b:=hb;omega⟩) (fun g=>B4.o g.1.1) (BL.o.below (Y8 _ _).drew) B0.o As.o zf rfl HKFL.o (by rw[HKF.o];exact H7.o);rw[hM9]at Af;obtain⟨ml,hml9⟩:=Yn (ms.length);have Aa:=Yh hml9;have Bz:=Yh Af;have BA:=Yh hM9;obtain⟨-,-,-,-,x4,x5⟩:=cell6L A8.bx;have AL:=Yh A8.bx;have BB:=Yh A8.sx;clear Af hM9 hml9 A8;go_upto_region 9 with fail;refine GoG.start [(8,⟨xb,5,none⟩,Value.slice none 0 0),(8,⟨xb,4,none⟩,.int .i64 zf)] (by kernel_rfl) ?_ ?_
      ·exact Kd (Kd (Kn))
      refine GoG.fr 0 ?_;refine GoG.s1 1 0 [8] ?_;refine GoG.fr 2 ?_;refine GoG.fr 3 ?_;refine GoG.s1 4 1 [8] ?_;refine GoG.on 5 fun K hK=>?_
      go_simp;refine Bz.o.mono ?_;rintro e9 wm ⟨⟨lo2,lc2,rfl,hmr,hml⟩,hW⟩;have XM:=@Yh (SameX wb (wd3) wm) ((SameX.below (c:=wb) (Y8 (wd3).heap.size (wd3)).drew).trans hW.2.1);have BC:=Yh hW.1;have Ba:=Yh hW.2.2;have Ao:=Yh (BW.o.keptX XM.o (show wb<wd3.heap.size from A6.o.2.1));obtain⟨v8,w8,hap,hO8,hg8,hb8⟩:=Zm6 (lc:=lc2) Ao.o hmr.o AK.o (show wd3.heap.size<=wm.heap.size from Yj A6.o.2.2.2 XM.o.1);obtain⟨lo8,cap8,hv8,hmb8,hlc8,-⟩:=ZM0 hO8;rw[Aa.o]at hv8 hlc8;subst hv8;refine hK.out _ _ (Kc ((Z5 XM.o (show xb<(wd3).heap.size from AL.o.lt) Aq.o).trans x5) (Kc ((Z5 XM.o (show xb<(wd3).heap.size from AL.o.lt) Aq.o).trans x4) Kn)) ?_;have BD:=Yh (XM.o.block AL.o Aq.o);have BE:=@Yh ((Value.slice none 0 0).ownBlock≠some xb) (fun he=>by have h1:=(World.ownsRow.lt Ao.o xb he).1;have:=A6.o.1;omega);have BF:=@Yh ((Value.slice none 0 0).ownBlock≠some wb) (fun he=>by have h1:=(World.ownsRow.lt Ao.o wb he).1;have:=A6.o.2.1;omega);have AM:=Yh (bgrown BD.o hg8 BE.o)
      have BG:=Yh (show WkAt (fun b=>((fun b=>(fun b=>(Sb b/\(Value.slice lo1 k cap1).ownBlock≠some b)) b/\b≠xb) b)/\(Value.slice none 0 0).ownBlock≠some b) w8 wb X9 e3 from by
       obtain⟨ao,no,ac,nc,hk,hu⟩:=BC.o;exact⟨ao,no,ac,nc,bgrown hk hg8 BF.o,hu.same (ZP hg8 (fun b hs=>hs.2))⟩)
      have BH:=Yh (Z92 (BB.o.trans XM.o) hg8 (fun g hg=>Yj A6.o.2.2.1 (World.ownsRow.lt Ao.o g hg).1));have BI:=@Yh (Below W0.heap.size W0 w8) (Ba.o.grown hg8 (by have:=Ba.o.size;omega) (fun q hq=>by have h1:=(World.ownsRow.lt Ao.o q hq).1;have:=A6.o.1;have:=B6.o;omega));have AN:=Yh hmb8;have AO:=Yh hlc8;clear hK K hmr hml hW hmb8 hlc8 hO8 hb8
      try simp only[Act.put,YB,YC,YD,YE,YF,YG]
      obtain⟨-,-,-,-,z4,z5⟩:=cell6L AM.o;refine GoG.run (i:=6) rfl (by kernel_rfl) rfl (.tmp 63) (.tmp 67) 51 rfl (Value.slice none 0 0) (.slice lo2 ms.length lc2) (.slice lo8 ml cap8) rfl rfl hap ⟨Kc z5 (Kc z4 Kn),?_⟩;clear hap hg8 x4 x5;refine GoG.fr 7 ?_;obtain⟨s9,hs9⟩:=Yn (w8.setCell ⟨xb,5,none⟩ (.slice lo8 ml cap8));have BJ:=AM.o.free 5;have Az:=@Yh (LSt (fun b=>(Sb b/\(Value.slice lo1 k cap1).ownBlock≠some b)) W0 wa wb xb #[.int .i64 zt,.bool y.sp.via,.slice y.po pl y.pc,.bool y.sp.many,.int .i64 zf,.slice lo8 ml cap8] X9 e3 s9) (⟨(BG.o.set (fun g=>g.1.2 rfl) Aq.o.symm hs9).sub (fun b _ g=>g.1),Zo BH.o NX.o hs9,Z6 BI.o B6.o hs9,Zn0 AM.o hs9⟩);have AP:=@Yh (MRowS (fun b=>(Sb b/\(Value.slice lo1 k cap1).ownBlock≠some b)) s9 lo8 ms) ((AN.o.other (show xb<wd3.heap.size from A6.o.1) hs9).rowS (fun b hb=>AB.o b (by have h1:=A6.o;have:=NX.o;have:=QA.o;omega)));refine GoG.on 8 fun K hK=>?_
      go_simp;refine hK.out _ _ (Ku (Ku Kn)) ?_;clear hK K z4 z5 BJ hs9
      try simp only[Act.put,YB,YC,YD,YE,YF,YG]
      refine GoG.done (by kernel_rfl) ?_ _;have HO:=@Yh (ownU V2 y.sp.typ (zf:Int)=(X9,ms,e3)) (by rw[Bg.o,if_pos H7.o,BA.o])
      by_cases he3:e3=0
      case neg =>
       have A1:=@Yh (F=(noUn,[],e3)) (by rw[Ax.o];exact Zo0 Ae.o HO.o he3);have Bp:(e3 != 0)=true:=by rw[YJ];exact he3
       have Al:=Yh he3;clear he3;have A3:=Az.o;obtain⟨ao,no,ac,nc,kb,hu⟩:=A3.wk;obtain⟨-,-,w2⟩:=cell3m kb;have An:=@Yh (WkR Sb W0 w wb X9 e3 s9) (⟨A3.wk.sub (fun b _ g=>g.1.1),Ad.o.trans A3.sx,A3.bw⟩);clear A3 kb hu;go_wp2_with fail;go_ret
       first|exact⟨_,X9,rfl,by rw[A1.o];exact ZA0 _ _,by rw[A1.o];exact An.o,fun h=>absurd (show e3=0 by rw[A1.o]at h;exact h) Al.o⟩|exact⟨_,rfl,by rw[A1.o];exact ZA0 _ _,X9,by rw[A1.o];exact An.o,fun h=>absurd (show e3=0 by rw[A1.o]at h;exact h) Al.o⟩
      subst he3;have AI:=@Yh (F=joinL (d++[⟨y.sp,(zf:Int),ms⟩]) (lookT (es.drop (k+1)) X9)) (by rw[Ax.o];exact ZO0 Ae.o HO.o);have AJ:=Yh (Z31 Ay.o Ae.o HO.o);have A3:=Az.o;obtain⟨ao,no,ac,nc,kb,hu⟩:=A3.wk;obtain⟨-,-,w2⟩:=cell3m kb;obtain⟨x0,x1,x2,x3,x4,x5⟩:=cell6L A3.bx;have Ap:=Yh (Av.o.keptX A3.sx A4.o Aj.o);have Ag:=Yh (Ad.o.trans A3.sx);have AQ:=Yh A3.bw;have Ak:=Yh (A3.wk.sub (R:=(fun b=>(Sb b/\(Value.slice lo1 k cap1).ownBlock≠some b))) (fun b _ g=>g.1));obtain⟨NZ,hNZ⟩:∃NZ:Lz,NZ=⟨⟨y.sp,y.po,y.pc⟩,(zf:Int),ms,lo8,cap8⟩:=⟨_,rfl⟩
      have AR:=Yh hNZ;have Ab:=@Yh (lC NZ=[.int .i64 zt,.bool y.sp.via,.slice y.po pl y.pc,.bool y.sp.many,.int .i64 zf,.slice lo8 ml cap8]) (by rw[hNZ,<-Be.o];unfold lC;rw[AX.o];rw[Aa.o]);have AS:=@Yh (LkIn (fun b=>(Sb b/\(Value.slice lo1 k cap1).ownBlock≠some b)) s9 NZ) (by rw[hNZ];exact⟨⟨Ap.o.old Aj.o Ag.o Bf.o,At.o⟩,AP.o,by rw[Aa.o];exact AO.o⟩);obtain⟨zs9,ho9,hm9,hs9⟩:=Ap.o;have A2:zs9.length=k:=by rw[<-HD.o,<-hm9,Yg]
      have AT:=@Yh ((s9).ownsRow w.heap.size 103 6 (.slice lo1 k cap1) k (encs lC zs9)) (by have:=ho9;unfold OwnG at this;rw[A2]at this;exact this);have Ac:=Yh (YH ho9 (YH hm9 (YH hs9 A2)));have WV:=Yh Ag.o.1;clear A3 kb hu hNZ ho9 hm9 hs9 A2;go_wp2_with (at_builtin;refine wpList_append_own_at _ rfl _ _ 61 rfl w.heap.size 103 i0 (.agg #[.int .i64 0,.bool false,.slice none 0 0,.bool false,.int .i64 0,.slice none 0 0]) 6 80 Tryz.underlying61 hi hz0 hz1 hz2 rfl (by decide) _ k (encs lC zs9) rfl (AT.o.alloc _) ⟨(s9).heap.size,0,none⟩ 1 1 (lC NZ) rfl ?c1 ?c2 ?c3 ?c4 ?c5 ?c6 ?_)
      case c1=>rfl
      case c2=>rw[Ab.o];first|exact Z9 _ _ _|exact fun j u h=>h
      case c3=>exact Zh5 _
      case c4=>unfold maxLen;omega
      case c5=>omega
      case c6=>have:=WV.o;simp;omega
      intro v9 w9 hown hgrow _ hblk;have hp:=LooI.push (wn:=_) (z:=NZ) Ac.o.1 Ac.o.2.1 Ac.o.2.2.1 Ak.o Ag.o AQ.o HB.o.size A4.o ((Y8 _ _).alloc (Yk _) (.cells (lC NZ).toArray 103)) AS.o (by rw[Ac.o.2.2.2]) (by first|exact hown|(rw[Ab.o];rw[Ab.o]at hown;exact hown)) (by first|exact hgrow|(rw[Ab.o];exact hgrow)) (by simpa using hblk);have Ai:=@Yh (LooI Sb w.heap.size w9 v9 (d++[⟨y.sp,(zf:Int),ms⟩])) (by have:=hp.1;rw[AR.o]at this;exact this);have AU:=Yh hp.2.1;have AV:=Yh hp.2.2.1;have AW:=Yh hp.2.2.2;clear hown hgrow hblk hp;go_wp2_with fail;go_roundw
      case rel=>exact⟨k+1,X9,d++[⟨y.sp,(zf:Int),ms⟩],by omega,by go_num,AI,Yh (by have:=HD.o;simp;omega),AJ,AU,Ai,AV,AW⟩
      case measure=>first|(simp[intOf];done)|(simp[intOf];omega)
     ·have A8:=Ar.o
      obtain⟨ao,no,ac,nc,kb,hu⟩:=A8.wk;obtain⟨-,-,w2⟩:=cell3m kb;obtain⟨x0,x1,x2,x3,x4,x5⟩:=cell6L A8.bx;have Ap:=Yh (Av.o.keptX A8.sx A4.o Aj.o);have Ag:=Yh (Ad.o.trans A8.sx);have AQ:=Yh A8.bw;have Ak:=Yh (A8.wk.sub (R:=(fun b=>(Sb b/\(Value.slice lo1 k cap1).ownBlock≠some b))) (fun b _ g=>g.1));obtain⟨NZ,hNZ⟩:∃NZ:Lz,NZ=⟨⟨y.sp,y.po,y.pc⟩,(zf:Int),[],none,0⟩:=⟨_,rfl⟩
      have AR:=Yh hNZ;have Ab:=@Yh (lC NZ=[.int .i64 zt,.bool y.sp.via,.slice y.po pl y.pc,.bool y.sp.many,.int .i64 zf,.slice none 0 0]) (by rw[hNZ,<-Be.o];unfold lC;rw[AX.o];rfl);have AS:=@Yh (LkIn (fun b=>(Sb b/\(Value.slice lo1 k cap1).ownBlock≠some b)) wd3 NZ) (by rw[hNZ];exact⟨⟨Ap.o.old Aj.o Ag.o Bf.o,At.o⟩,.inl rfl,Yk _⟩);obtain⟨zs9,ho9,hm9,hs9⟩:=Ap.o;have A2:zs9.length=k:=by rw[<-HD.o,<-hm9,Yg]
      have AT:=@Yh ((wd3).ownsRow w.heap.size 103 6 (.slice lo1 k cap1) k (encs lC zs9)) (by have:=ho9;unfold OwnG at this;rw[A2]at this;exact this);have Ac:=Yh (YH ho9 (YH hm9 (YH hs9 A2)));have WV:=Yh Ag.o.1;clear A8 kb hu hNZ ho9 hm9 hs9 A2;go_wp2_with (at_builtin;refine wpList_append_own_at _ rfl _ _ 61 rfl w.heap.size 103 i0 (.agg #[.int .i64 0,.bool false,.slice none 0 0,.bool false,.int .i64 0,.slice none 0 0]) 6 80 Tryz.underlying61 hi hz0 hz1 hz2 rfl (by decide) _ k (encs lC zs9) rfl (AT.o.alloc _) ⟨(wd3).heap.size,0,none⟩ 1 1 (lC NZ) rfl ?c1 ?c2 ?c3 ?c4 ?c5 ?c6 ?_)
      case c1=>rfl
      case c2=>rw[Ab.o];first|exact Z9 _ _ _|exact fun j u h=>h
      case c3=>exact Zh5 _
      case c4=>unfold maxLen;omega
      case c5=>omega
      case c6=>have:=WV.o;simp;omega
      intro v9 w9 hown hgrow _ hblk;have hp:=LooI.push (wn:=_) (z:=NZ) Ac.o.1 Ac.o.2.1 Ac.o.2.2.1 Ak.o Ag.o AQ.o HB.o.size A4.o ((Y8 _ _).alloc (Yk _) (.cells (lC NZ).toArray 103)) AS.o (by rw[Ac.o.2.2.2]) (by first|exact hown|(rw[Ab.o];rw[Ab.o]at hown;exact hown)) (by first|exact hgrow|(rw[Ab.o];exact hgrow)) (by simpa using hblk);have Ai:=@Yh (LooI Sb w.heap.size w9 v9 (d++[⟨y.sp,(zf:Int),[]⟩])) (by have:=hp.1;rw[AR.o]at this;exact this);have AU:=Yh hp.2.1;have AV:=Yh hp.2.2.1;have AW:=Yh hp.2.2.2;clear hown hgrow hblk hp;go_wp2_with fail;go_roundw
      case rel=>exact⟨k+1,V2,d++[⟨y.sp,(zf:Int),[]⟩],by omega,by go_num,AI,Yh (by have:=HD.o;simp;omega),AJ,AU,Ai,AV,AW⟩
      case measure=>first|(simp[intOf];done)|(simp[intOf];omega)
  ·obtain rfl:k=n:=by omega
   have BM:=@Yh (F=(V,d,0)) (by rw[HFK.o,List.drop_of_length_le (by rw[HN.o];exact Yk _)];exact Zd6 d V);go_wp2_with fail;go_ret;exact⟨_,V,rfl,by rw[BM.o];exact HLO.o.lrow BO.o,by rw[BM.o];exact⟨HWK.o.sub (fun b _ g=>g.1),HSX.o,HBR.o⟩,fun _=>by rw[BM.o]⟩
theorem Z22{β:Type}{enc:β->List Value}(z:β)(r:List β):encs enc (z::r)=enc z++encs enc r:=by
 unfold encs;rw[List.flatMap_cons]
theorem Zb3(t:Int):∀(zs:List Ez) (j:Nat) (hj:j<zs.length),zs[j].sp.typ=t->(∀i (hi:i<zs.length),i≠j->zs[i].sp.typ≠t)->(encs pC zs).set (j*4+3) (.bool true)=encs pC (zs.map (mkE t))
 | [],_,hj,_,_=>absurd hj (Yr _)
 | z::r,0,_,ht,hu=>by
  have hr:r.map (mkE t)=r:=Z78 (by
   unfold anyE;rw[List.any_eq_false];intro x hx;obtain⟨i,hi,rfl⟩:=List.getElem_of_mem hx;have:=hu (i+1) (Nat.succ_lt_succ hi) (by omega)
   simpa using this)
  have hz:z.sp.typ=t:=ht;rw[List.map_cons,hr,Z22,Z22];have e:mkE t z = { z with sp:={ z.sp with many:=true } }:=by unfold mkE;rw[if_pos hz]
  rw[e]
  rfl
 | z::r,j+1,hj,ht,hu=>by
  have hz:z.sp.typ≠t:=hu 0 (Nat.zero_lt_succ _) (by omega);have ih:=Zb3 t r j (Nat.lt_of_succ_lt_succ hj) ht (fun i hi hne=>hu (i+1) (Nat.succ_lt_succ hi) (by omega));have e:mkE t z=z:=by unfold mkE;rw[if_neg hz]
  rw[List.map_cons,e,Z22,Z22,<-ih,show(j+1)*4+3=(j*4+3)+4 by omega]
  rfl
theorem OwnG.mark{w:World}{base:Nat}{v:Value}{zs:List Ez}{t:Int}(h:OwnG 4 pC 100 w base v zs){j:Nat}(hj:j<zs.length)(ht:zs[j].sp.typ=t)(hu:∀i (hi:i<zs.length),i≠j->zs[i].sp.typ≠t) :
  ∃g cap,v=.slice (some ⟨g,0,none⟩) zs.length cap/\base<=g/\(∃x,w.cell? ⟨g,j*4+3,none⟩=some x)/\w.frozen? ⟨g,j*4+3,none⟩=false/\∀w',w.setCell ⟨g,j*4+3,none⟩ (.bool true)=w'->OwnG 4 pC 100 w' base v (zs.map (mkE t)):=by
 obtain⟨h1,h2⟩:=h
 rcases h2 with⟨-,h0⟩|⟨g,cap,cur,rfl,hg,hcur,hcap1,hcap2,hcs,htk⟩
 ·rw[h0]at hj;exact absurd hj (Yr _)
 have hB:BlockAt w g cur 100:=hcur;have A1:j*4+3<zs.length*4:=by omega
 have A0:j*4+3<cur.size:=by rw[hcs];omega
 refine⟨g,cap,rfl,hg,⟨cur[j*4+3],?_⟩,hB.free _,fun w' hw=>?_⟩
 ·rw[hB.cell]
  simp[A0]
 ·subst hw
  refine⟨by rw[<-Zb3 t zs j hj ht hu,List.length_set,Yg];exact h1,.inr ⟨g,cap,_,by rw[Yg],hg,hB.set (j*4+3) (.bool true),by rw[Yg];exact hcap1,hcap2,by simpa using hcs,?_⟩⟩;rw[Yg,<-Zb3 t zs j hj ht hu,<-htk,Array.toList_setIfInBounds,List.take_set]
def idxE:Nat->List Ez->List (Int×Nat)
 | _,[]=>[]
 | n,z::r=>(z.sp.typ,n)::idxE (n+1) r
theorem Zt8:∀(n:Nat) (l:List Ez) (x:Ez),idxE n (l++[x])=idxE n l++[(x.sp.typ,n+l.length)]
 | n,[],x=>rfl
 | n,z::r,x=>by
  show(z.sp.typ,n)::idxE (n+1) (r++[x])=(z.sp.typ,n)::(idxE (n+1) r++_)
  rw[Zt8 (n+1) r x,List.length_cons,show n+1+r.length=n+(r.length+1)by omega]
theorem Zr4:∀(n:Nat) (l:List Ez),(idxE n l).length=l.length
 | _,[]=>rfl
 | n,z::r=>congrArg (· + 1) (Zr4 (n+1) r)
theorem Zz4:∀(n:Nat) (l:List Ez) (j:Nat) (hj:j<l.length),(l[j].sp.typ,n+j)∈idxE n l
 | _,[],_,hj=>absurd hj (Yr _)
 | n,z::r,0,_=>Yt
 | n,z::r,j+1,hj=>by
  have:=Zz4 (n+1) r j (Nat.lt_of_succ_lt_succ hj);rw[show n+1+j=n+(j+1)by omega]at this;exact Yx _ this
theorem ZP1{t:Int}:∀(n:Nat) (l:List Ez),(∀z∈l,z.sp.typ≠t)->∀p∈idxE n l,p.1≠t
 | _,[],_,p,hp=>absurd hp (by simp[idxE])
 | n,z::r,h,p,hp=>by
  rcases List.mem_cons.1 hp with g|g
  ·rw[g];exact h z Yt
  ·exact ZP1 (n+1) r (fun x hx=>h x (Yx _ hx)) p g
theorem ZId(t:Int)(z:Ez):(mkE t z).sp.typ=z.sp.typ:=by
 unfold mkE
 split<;>rfl
theorem Z36(t:Int):∀(n:Nat) (l:List Ez),idxE n (l.map (mkE t))=idxE n l
 | _,[]=>rfl
 | n,z::r=>by
  show((mkE t z).sp.typ,n)::idxE (n+1) (r.map (mkE t))=_
  rw[ZId,Z36 t (n+1) r]
  rfl
structure NxI (base pm:Nat) (wr:World) (v:Value) (zs:List Ez):Prop where
 own:OwnG 4 pC 100 wr base v zs
 ps:∀z∈zs,IRowS (fun b=>base<=b/\v.ownBlock≠some b) wr z.po z.sp.path/\z.sp.path.length<=z.pc
 mp:IntMap wr pm (idxE 0 zs)
theorem NxI.kept{base pm:Nat}{wr w':World}{v:Value}{zs:List Ez}(h:NxI base pm wr v zs)(hb:Below wr.heap.size wr w'):NxI base pm w' v zs:=
 ⟨h.own.kept hb,fun z hz=>⟨Z7 (h.ps z hz).1 (SameS.below hb),(h.ps z hz).2⟩,h.mp.below hb⟩
theorem NxI.box{base pm:Nat}{wr w':World}{v:Value}{zs:List Ez}{xs:Array Value}{T:TypeId}(h:NxI base pm wr v zs)(hb:wr.alloc (.cells xs T)=w'):BxI w' v wr.heap.size xs T:=⟨(Za hb).1,h.own.not (.inr (Yk _))⟩
theorem NxI.mark{base pm:Nat}{wr:World}{v:Value}{zs:List Ez}{t:Int}(h:NxI base pm wr v zs)(hpm:pm<base){j:Nat}(hj:j<zs.length)(ht:zs[j].sp.typ=t)(hu:∀i (hi:i<zs.length),i≠j->zs[i].sp.typ≠t) :
  ∃g cap,v=.slice (some ⟨g,0,none⟩) zs.length cap/\base<=g/\(∃x,wr.cell? ⟨g,j*4+3,none⟩=some x)/\wr.frozen? ⟨g,j*4+3,none⟩=false/\∀w',wr.setCell ⟨g,j*4+3,none⟩ (.bool true)=w'->NxI base pm w' v (zs.map (mkE t))/\∀b xs T,BxI wr v b xs T->BxI w' v b xs T:=by
 obtain⟨g,cap,e,hg,hc,hf,hn⟩:=h.own.mark hj ht hu;refine⟨g,cap,e,hg,hc,hf,fun w' hw=>⟨⟨hn w' hw,fun z hz=>?_,?_⟩,fun b xs T hB=>⟨Z4 hB.1 (fun e2=>hB.2 (by rw[e,e2];rfl)) hw,hB.2⟩⟩⟩
 ·obtain⟨y,hy,rfl⟩:=Y4.1 hz
  have:=h.ps y hy;have e1:(mkE t y).po=y.po/\(mkE t y).pc=y.pc/\(mkE t y).sp.path=y.sp.path:=by unfold mkE;split<;>exact⟨rfl,rfl,rfl⟩
  rw[e1.1,e1.2.1,e1.2.2];exact⟨Z7 this.1 (SameS.set (fun q=>q.2 (by rw[e];rfl)) hw),this.2⟩
 ·rw[Z36]
  exact h.mp.set (by omega) hw
theorem NxI.push{base pm n:Nat}{W wr wm wn w':World}{v v':Value}{zs:List Ez}{x:Ez}(h:NxI base pm wr v zs)(hpm:pm<base)(hW:W.heap.size<=pm)(hB:Below W.heap.size W wr)(hmp:IntMap wm pm (idxE 0 zs++[(x.sp.typ,zs.length)]))(hgm:wr.grownBy wm (some pm))(hwn:Below wm.heap.size wm wn)(hx:IRowS (fun b=>base<=b/\v.ownBlock≠some b) wr x.po x.sp.path/\x.sp.path.length<=x.pc)(hn:n=zs.length+1)
  (h1:w'.ownsRow base 100 4 v' n (encs pC zs++pC x)) (hg:wn.grownBy w' v.ownBlock) (hb:v'.ownBlock=v.ownBlock\/v'.ownBlock=some wn.heap.size) :
  NxI base pm w' v' (zs++[x])/\Below W.heap.size W w'/\∀b xs T,base<=b->BxI wr v b xs T->BxI w' v' b xs T:=by
 have A1:∀b,base<=b->(some pm:Option Nat)≠some b:=fun b hb e=>by injection e;omega
 have A0:OwnG 4 pC 100 wm base v zs:=by
  obtain⟨a1,a2⟩:=h.own;refine⟨a1,?_⟩
  rcases a2 with a2|⟨g,cap,cur,rfl,hg2,hcur,rest⟩
  ·exact .inl a2
  ·exact .inr ⟨g,cap,cur,rfl,hg2,(show BlockAt wm g cur _ from bgrown (show BlockAt wr g cur _ from hcur) hgm (A1 g hg2)),rest⟩
 have A3:Below W.heap.size W wm:=hB.grown hgm (by have:=hB.size;omega) (fun q hq=>by injection hq;omega);have hp:=pushG (l:=zs) (r:=[x]) hn (show W.heap.size<=base by omega) A0 A3 hwn (by rw[Zs];exact h1) hg hb
 have A2:∀z:Ez,(IRowS (fun b=>base<=b/\v.ownBlock≠some b) wr z.po z.sp.path/\z.sp.path.length<=z.pc)->(IRowS (fun b=>base<=b/\v'.ownBlock≠some b) w' z.po z.sp.path/\z.sp.path.length<=z.pc):=fun z hz=>by
  have a1:=Z7 (Z7 hz.1 (ZP hgm (fun b hs=>A1 b hs.1))) (SameS.below hwn)
  have a2:IRowS (fun b=>(base<=b/\v.ownBlock≠some b)/\v'.ownBlock≠some b) wn z.po z.sp.path:=ZJ0 a1 (fun b hlt hs=>⟨hs,fun he=>by
   rcases hb with g|g
   ·rw[g]at he;exact hs.2 he
   ·rw[g]at he;injection he with he;omega⟩)
  exact⟨ZJ0 (Z7 a2 (ZP hg (fun b hs=>hs.1.2))) (fun b _ hs=>⟨hs.1.1,hs.2⟩),hz.2⟩
 refine⟨⟨hp.1,fun z hz=>?_,?_⟩,hp.2.1,fun b xs T hbb hBx=>⟨hp.2.2.1 b xs T (bgrown hBx.1 hgm (A1 b hbb)) hBx.2,fun he=>?_⟩⟩
 ·rcases Yz.1 hz with g|g
  ·exact A2 z (h.ps z g)
  ·obtain rfl:=Yo.1 g
   exact A2 _ hx
 ·rw[Zt8,Nat.zero_add]
  exact(hmp.below hwn).grown hg (A0.not (.inl hpm))
 ·rcases hb with g|g
  ·rw[g]at he;exact hBx.2 he
  ·rw[g]at he
   injection he with he
   have h2:=hBx.1.lt;have h3:=hgm.size;have h4:=hwn.size
   omega
end Go.Proofs.YtdcajkagakikiaaGreatDoor
