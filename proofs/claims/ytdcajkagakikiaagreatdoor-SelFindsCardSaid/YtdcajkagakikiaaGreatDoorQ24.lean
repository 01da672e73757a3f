import Derived.Test.YtdcajkagakikiaaGreatDoorQ23
namespace Go.Proofs.YtdcajkagakikiaaGreatDoor
set_option maxHeartbeats 64000000
set_option linter.unusedSimpArgs false
set_option linter.unusedVariables false
open Go.RowKit
def HadR(Sb:Nat->Prop)(w:World)(R:List Se)(e:Ending)(w':World):Prop:=∃v,e=.returned v/\(∃zs:List Sz,OwnG 5 selC 28 w' w.heap.size v zs/\zs.map (·.se)=R/\∀z∈zs,SelIn Sb w' z)/\Below w.heap.size w w'
set_option maxRecDepth 100000 in
theorem ZL9(Sb:Nat->Prop)(n0:Nat)(u:Un)(es:List Sp)(ls:List Lk)(seen:List Int)(val:Value)(name:ByteArray)(w:World)(hSb:∀b,w.heap.size<=b->Sb b)(hL:LvA Sb w val ⟨u,es,ls,seen,0⟩)(hok:Lok n0 ⟨u,es,ls,seen,0⟩)(hn0:n0<=900) :
  Calls Tryz.prog 31 #[val,.string name] w (HadR Sb w (hadT u ls name)):=by
 obtain⟨ao,no,ac,nc,eo,ec,wo,wcap,so,sc,ez,wz,rfl,hU,hE,hm,hp,hec,hW,hI,hwcap,hd,hs,hsc,hsn⟩:=hL;have hr:rightU u=true:=hok.r;have hU:UnS Sb w ao no ac nc u:=hU;have hm:ez.map (·.sp)=es:=hm;have hd:wz.map (fun z=>(z.form,z.ms))=ls.map dataW:=hd;have Au:ls.map (·.sp)=es:=hok.sp;have Av:∀l∈ls,inL u.types l.form=true:=hok.ls;have A5:∀s∈es,s.path.length<=n0:=hok.pl;have Ab:∀l∈ls,l.ms.length<=16:=hok.ml;have Aw:es.length<=400/\seen.length<=400:=hok.len;have A3:=hr;rw[Z8,Yd]at A3;have e1:ez.length=es.length:=by rw[<-hm,Yg]
 have e2:ls.length=es.length:=by rw[<-Au,Yg]
 have e3:wz.length=ls.length:=by have:=congrArg List.length hd;simpa using this
 obtain⟨n9,hn9⟩:=Yn (es.length);rw[hn9]at e1 e2 Aw;rw[e2]at e3
 have Ba:=Yh (show ∀k (h1:k<ez.length) (h2:k<ls.length) (h3:k<wz.length),ls[k].sp=ez[k].sp/\ls[k].form=wz[k].form/\ls[k].ms=wz[k].ms/\inL u.types wz[k].form=true/\ez[k].sp.path.length<=n0/\wz[k].ms.length<=16 from fun k h1 h2 h3=>by
  have a1:=Zw3 (Au.trans hm.symm) h2 h1;have a2:=congrArg Prod.fst (Zw3 hd h3 h2);have a2:wz[k].form=ls[k].form:=a2;have a3:=congrArg Prod.snd (Zw3 hd h3 h2);have a3:wz[k].ms=ls[k].ms:=a3;refine⟨a1,a2.symm,a3.symm,by rw[a2];exact Av _ (Yq h2),?_,by rw[a3];exact Ab _ (Yq h2)⟩;refine A5 _ ?_;rw[<-hm];exact List.mem_map_of_mem (Yq h1))
 have Bb:=Yh e1;have AX:=Yh e2;have Bc:=Yh e3;have Bd:=Yh A3.1;have Be:=Yh hSb;have Bf:=Yh hE;have Bg:=Yh hp;have Bh:=Yh hI;have Bi:=Zx1 A3.1;obtain⟨ab,aof,rfl,hab,hac2⟩:=hU.o.types.cells (by omega);have Bj:=Yh hac2;have Ag:=Yh hab;have Bk:=Yh hW
 have Ah:∀l∈ls,l.ms.length<=16/\(tyU u l.form).words.length<=18/\((tyU u l.form).kind=6->(tyU u l.form).words.length=(tyU u l.form).kids.length):=fun l hl=>by
  have hi:=Av l hl;unfold inL at hi;have hi:=Yf hi;obtain⟨z,hz⟩:∃z:Nat,l.form=(z:Int):=⟨l.form.toNat,by omega⟩
  have Ax:z<u.types.length:=by omega
  rw[hz,Z80 Ax];obtain⟨_,_,_,_,-,-,-,-,-,-,-,hxc⟩:=hac2 z Ax;exact⟨Ab l hl,hxc.ok.wl,fun h6=>(ZB0 A3.1 Ax h6).1⟩
 have Ay:=Yh Ah;obtain⟨L,hL⟩:=Yn (u.types.length);obtain⟨n,hn⟩:=Yn (u.named.length);obtain⟨sl,hsl⟩:=Yn (seen.length);have HL:=Yh hL;rw[hL]at Bi
 show Calls _ _ #[.agg #[.slice (some ⟨ab,aof,none⟩) u.types.length ac,.slice no u.named.length nc,.slice eo ez.length ec,.slice wo wz.length wcap,.slice so seen.length sc,.int .i64 0],.string name] w _
 rw[hL,hn,hsl,e1,e3];obtain⟨w1,h1,k1,q1,z1⟩:=YA w #[.slice (some ⟨ab,aof,none⟩) L ac,.slice no n nc,.slice eo n9 ec,.slice wo n9 wcap,.slice so sl sc,.int .i64 0] 78;obtain⟨w2,h2⟩:=Yn (w1.alloc (.cells #[] 28));have q2:=(Za h2).2.1;have K1:=Yh k1;have Q1:=Yh q1;have Z1:=@Yh (w1.heap.size=w.heap.size+1) (z1);have O2:=@Yh (w2.ownsRow w1.heap.size 28 5 (.slice (some ⟨w1.heap.size,0,none⟩) 0 0) 0 []) (by rw[<-h2];exact World.ownsRow_made w1 #[] 0 (Yk _) (by unfold maxLen;omega) rfl);have Bl:=@Yh (HadI Sb w1 w2 (.slice (some ⟨w1.heap.size,0,none⟩) 0 0) []) (⟨⟨[],O2.o,rfl,fun z hz=>absurd hz (by simp)⟩,q2⟩);have l2:=(cell6L (k1.below q2)).2.2.1;obtain⟨R,hR⟩:=Yn (hadT u ls name);have HR:=Yh hR;rw[hR];obtain⟨i0,hi,hz0,hz1,hz2⟩:=info_parts ZUd;clear hr hm hd hs Au Av A5 Ab A3 hn9 e1 e2 e3 hac2 hab hW hE hp hI hU hL hn hsl hSb hok hsn k1 q1 q2 z1 Ah hR;go_enter Tryz.func31,Tryz.ntmps31;go_wp2_with fail;clear h1 h2 l2;go_loopw [5,19] (fun v i wr=>∃k:Nat,k<=n9/\i=.int .i64 k/\Hi (HadI Sb w1 wr v (hadT u (ls.take k) name))) (fun _ i _=>n9-(intOf i).toNat)
 case atStart=>exact⟨0,Yl _,rfl,Yh (by rw[List.take_zero];exact Bl.o)⟩
 case round =>
  obtain⟨k,hk,rfl,HI1⟩:=hrel;have HB:=Yh HI1.o.below;have Ai:=YT Q1 HB.o;obtain⟨lo1,cap1,hv1⟩:=HI1.o.row;obtain⟨P,hP⟩:=Yn (hadT u (ls.take k) name);have HP:=Yh hP;rw[hP]at HI1 hv1;obtain⟨m1,hm1⟩:=Yn (P.length);have Bm:=Yh hm1;rw[hm1]at hv1
  have AY:m1<=27200:=by
   have h2:=ZHd (name:=name) (fun l (hl:l∈ls.take k)=>Ay.o l (List.mem_of_mem_take hl));have h3:=List.length_take_le k ls;rw[hP,hm1]at h2
   omega
  have Bn:=Yh AY;subst hv1;clear hP hm1 AY
  by_cases hkn:k<n9
  ·have Aq:k<ez.length:=by rw[Bb.o];exact hkn
   have Az:k<ls.length:=by rw[AX.o];exact hkn
   have Aj:k<wz.length:=by rw[Bc.o];exact hkn
   obtain⟨b,off,rfl,hb,-,hc⟩:=Bf.o.cells (by omega);have hc:=hc k Aq;obtain⟨wb,wof,rfl,hwb,-,hwcl⟩:=Bk.o.cells (by omega);have hf:=hwcl k Aj 0 _ rfl;have hg:=hwcl k Aj 1 _ rfl;obtain⟨d1,d2,d3,d4,d5,d6⟩:=Ba.o k Aq Az Aj;have Ar:=Bg.o _ (Yq Aq);have Ak:=Bh.o _ (Yq Aj);obtain⟨y,hy⟩:=Yn (ez[k]);obtain⟨fm,hfm⟩:=Yn (wz[k].form);obtain⟨ms,hms⟩:∃ms,wz[k].ms=ms:=⟨_,rfl⟩
   obtain⟨mo,hmo⟩:∃mo,wz[k].mo=mo:=⟨_,rfl⟩
   obtain⟨mc,hmc⟩:∃mc,wz[k].mc=mc:=⟨_,rfl⟩
   rw[hy]at hc Ar d1 d5;rw[hfm]at hf d2 d4;rw[hms,hmo,hmc]at hg;have AZ:MRowS Sb w mo ms:=by have:=Ak.1;rw[hms,hmo]at this;exact this
   rw[hms]at d3 d6;unfold inL at d4;have d4:=Yf d4;obtain⟨zf,rfl⟩:∃zf:Nat,fm=(zf:Int):=⟨fm.toNat,by omega⟩
   have Al:zf<u.types.length:=by omega
   obtain⟨xw,xwc,xk,xkc,a0',a1',a2',a3',a4',hwc9,hkc9,hxc⟩:=Bj.o zf Al;have AA:=Yh (fun h6=>ZB0 Bd.o Al h6)
   have AB:=Yh (show hadT u (ls.take (k+1)) name=P++repT (if y.sp.many=true then 2 else 1) (oneT name y.sp ms u.types[zf])by
    have:=Zkc (u:=u) (name:=name) Az (by rw[d2,Z80 Al];exact fun h6=>(AA.o h6).1);rw[d1,d2,d3,Z80 Al,HP.o]at this;exact this)
   obtain⟨x,hx⟩:=Yn (u.types[zf]);rw[hx]at a0' a1' a2' a3' a4' hwc9 hkc9 hxc AA AB;have HX:=Yh hxc;have Bo:=Yh AZ.o;have B0:=Yh Ar.1;have Am:=Yh Ar.2;have AC:=Yh d5;have An:=Yh d6;obtain⟨m,hm⟩:=Yn (x.words.length);obtain⟨kl,hkl⟩:=Yn (x.kids.length);obtain⟨pl,A5⟩:=Yn (y.sp.path.length);obtain⟨ml,Ab⟩:=Yn (ms.length);have HM:=Yh hm;have Bp:m<=18:=by have:=hxc.ok.wl;omega
   have Bq:ml<=16:=by omega
   have Br:=Yh hkl;have AD:=Yh A5;have AE:=Yh Ab;rw[hm]at a3' hwc9;rw[hkl]at a4' hkc9;rw[Ab]at hg;have r0:=(Ai.o.cell (p:=⟨b,off+k*4+0,none⟩) hb).trans (hc 0 _ rfl);have r1:=(Ai.o.cell (p:=⟨b,off+k*4+1,none⟩) hb).trans (hc 1 _ rfl);have r2:=(Ai.o.cell (p:=⟨b,off+k*4+2,none⟩) hb).trans (hc 2 _ rfl);have r3:=(Ai.o.cell (p:=⟨b,off+k*4+3,none⟩) hb).trans (hc 3 _ rfl);rw[Nat.add_zero]at r0;rw[A5]at r3;obtain⟨wa,ha,ka,qa,za⟩:=YA wr #[.int .i64 y.sp.typ,.bool y.sp.via,.bool y.sp.many,.slice y.po pl y.pc] 115;have B1:=Yh (HI1.o.kept qa);have Bs:=Yh (HI1.o.box ha);have BA:=YT Ai qa;have B2:=YT HB qa;have AF:=@Yh (w.heap.size<w1.heap.size) (by have:=Z1.o;omega);have x0:=(B2.o.cell (p:=⟨w.heap.size,0,none⟩) AF.o).trans (cell6L K1.o).1;have x3:=(B2.o.cell (p:=⟨w.heap.size,3,none⟩) AF.o).trans (cell6L K1.o).2.2.2.1;have fo:=(BA.o.cell (p:=⟨wb,wof+k*2+0,none⟩) hwb).trans hf;rw[Nat.add_zero]at fo;have t0:=(BA.o.cell (p:=⟨ab,aof+zf*5,none⟩) Ag.o).trans a0';have t1:=(BA.o.cell (p:=⟨ab,aof+zf*5+1,none⟩) Ag.o).trans a1';have t2:=(BA.o.cell (p:=⟨ab,aof+zf*5+2,none⟩) Ag.o).trans a2';have t3:=(BA.o.cell (p:=⟨ab,aof+zf*5+3,none⟩) Ag.o).trans a3';have t4:=(BA.o.cell (p:=⟨ab,aof+zf*5+4,none⟩) Ag.o).trans a4';have Bt:=Yh hg;have Bu:=Yh hwb;have e2:=(cell4 ka).2.2.1;have BR:(k:Int)<(n9:Int):=by omega
   have BS:(zf:Int)<(L:Int):=by rw[<-HL.o];omega
   obtain⟨tn,htn⟩:∃tn:Nat,tn=if y.sp.many=true then 2 else 1:=⟨_,rfl⟩
   have B3:=Yh htn;rw[<-htn]at AB;have AG:tn<=2:=by rw[htn];split<;>omega
   have Bv:=Yh AG;clear hc hwcl hf hg d1 d2 d3 d4 d5 d6 Ar AZ Ak hy hfm hms hmo hmc hx hxc a0' a1' a2' a3' a4' hm hkl A5 Ab ka qa za hb hwb Aq Az Aj Al htn;go_upto_region 6 with fail;clear r0 r1 r2 r3 ha;go_upto_if 25 with fail
   go_cut [8] (fun v8 wx=>v8=.int .i64 (tn:Int)/\wa=wx)
   case first =>
    go_wp2_with fail
    ·go_meet
     case rel=>exact⟨by rw[B3.o,if_pos (by first|assumption|simp[*])];rfl,rfl⟩
    ·go_meet
     case rel=>exact⟨by rw[B3.o,if_neg (by first|assumption|simp[*])];rfl,rfl⟩
   case rest =>
    obtain⟨rfl,rfl⟩:=hcut;clear e2;go_upto_region 8 with fail;refine GoG.start [(13,⟨w.heap.size,0,none⟩,.slice (some ⟨ab,aof,none⟩) L ac),(13,⟨w.heap.size,3,none⟩,.slice (some ⟨wb,wof,none⟩) n9 wcap),(13,⟨wb,wof+k*2,none⟩,.int .i64 zf),(13,⟨ab,aof+zf*5,none⟩,.int .i64 x.kind),(13,⟨ab,aof+zf*5+1,none⟩,.string x.name),(13,⟨ab,aof+zf*5+2,none⟩,.int .i64 x.n),(13,⟨ab,aof+zf*5+3,none⟩,.slice xw m xwc),(13,⟨ab,aof+zf*5+4,none⟩,.slice xk kl xkc)] (by kernel_rfl) ?_ ?_
    ·exact Kd (Kd (Kd (Kd (Kd (Kd (Kd (Kd (Kn))))))))
    refine GoG.fr 0 ?_;refine GoG.fr 1 ?_;refine GoG.s1 2 0 [13] ?_;refine GoG.fr 3 ?_;refine GoG.s1 4 1 [13] ?_;refine GoG.fr 5 ?_;refine GoG.fr 6 ?_;refine GoG.fr 7 ?_;refine GoG.s1 8 2 [13] ?_;refine GoG.fr 9 ?_;refine GoG.s5 10 3 [13] ?_;obtain⟨w5,h5,k5,q5,z5⟩:=YA wa.drew #[.int .i64 0,.string ⟨#[]⟩,.int .i64 0,.slice none 0 0,.slice none 0 0] 50;have K5:=@Yh (BlockAt w5 wa.heap.size _ _) (k5);have B5:=Yh (((Y8 wa.heap.size wa).drew).trans q5);have N5:=Yh (Yk wa.heap.size);clear k5 q5 z5;refine GoG.on 11 fun K hK=>?_
    go_simp
    try rw[h5]
    refine hK.out _ _ (Kc (YR B5.o x0) (Kc (YR B5.o x3) (Kc (YR B5.o fo) (Kc (YR B5.o t0) (Kc (YR B5.o t1) (Kc (YR B5.o t2) (Kc (YR B5.o t3) (Kc (YR B5.o t4) (Kn))))))))) ?_;clear hK K
    try simp only[Act.put,YB,YC,YD,YE,YF,YG]
    obtain⟨w6,h6⟩:=Yn ((((((w5.setCell ⟨wa.heap.size,0,none⟩ (.int .i64 x.kind)).setCell ⟨wa.heap.size,1,none⟩ (.string x.name)).setCell ⟨wa.heap.size,2,none⟩ (.int .i64 x.n)).setCell ⟨wa.heap.size,3,none⟩ (.slice xw m xwc)).setCell ⟨wa.heap.size,4,none⟩ (.slice xk kl xkc)));have K6:=Yh (Z70 K5.o h6);have B6:=@Yh (Below wa.heap.size wa w6) (by rw[<-h6];exact Zh B5.o N5.o _ _ _ _ _);obtain⟨⟨g0,g1,g2,g3,g4⟩,p0,p1,p2,p3,p4⟩:=ZD K5.o;refine GoG.on 12 fun K hK=>?_
    go_simp
    try rw[h6]
    refine hK.out _ _ (Kc (YR B6.o x0) (Kc (YR B6.o x3) (Kc (YR B6.o fo) (Kc (YR B6.o t0) (Kc (YR B6.o t1) (Kc (YR B6.o t2) (Kc (YR B6.o t3) (Kc (YR B6.o t4) (Kn))))))))) ?_;clear x0 x3 fo t0 t1 t2 t3 t4;clear hK K h5 h6 g0 g1 g2 g3 g4 p0 p1 p2 p3 p4
    try simp only[Act.put,YB,YC,YD,YE,YF,YG]
    refine GoG.done (by kernel_rfl) ?_ _;have Bw:=Yh (B1.o.kept B6.o);have Bx:=Yh (Bs.o.kept B6.o)
    have By:=Yh (show BxI w6 (.slice lo1 m1 cap1) wa.heap.size #[.int .i64 x.kind,.string x.name,.int .i64 x.n,.slice xw m xwc,.slice xk kl xkc] 50 from⟨K6.o,by
     obtain⟨⟨zs0,o0,-⟩,-⟩:=B1.o;exact o0.not (.inr N5.o)⟩)
    go_wp2_with fail;go_loopw [5,10] (fun v2 i2 w2'=>∃nn:Nat,nn<=tn/\i2=.int .i64 nn/\Hi (HadI Sb w1 w2' v2 (P++repT nn (oneT name y.sp ms x)))/\Hi (BxI w2' v2 wr.heap.size #[.int .i64 y.sp.typ,.bool y.sp.via,.bool y.sp.many,.slice y.po pl y.pc] 115)/\Hi (BxI w2' v2 wa.heap.size #[.int .i64 x.kind,.string x.name,.int .i64 x.n,.slice xw m xwc,.slice xk kl xkc] 50)) (fun _ i2 _=>tn-(intOf i2).toNat)
    case atStart=>exact⟨0,Yl _,rfl,Yh (by show HadI _ _ _ _ (P++[]);rw[List.append_nil];exact Bw.o),Bx,By⟩
    case round =>
     rename World=>w2'
     obtain⟨nn,hnn,rfl,HI2,HX2,HB2⟩:=hrel;have W2:=@Yh (Below w.heap.size w w2') (Q1.o.trans (HI2.o.below.mono Q1.o.size));have V2:=Yh HI2.o.below
     by_cases hnt:nn<tn
     ·have Bz:(nn:Int)<(tn:Int):=by omega
      obtain⟨lo2,cap2,hv2⟩:=HI2.o.row;obtain⟨P2,hP2⟩:=Yn (P++repT nn (oneT name y.sp ms x));have BB:=Yh hP2
      have B4:P2.length<=27300:=by
       have h1:=Z58 (name:=name) (s:=y.sp) (t:=x) An.o HX.o.ok.wl;have h3:=Nat.mul_le_mul (show nn<=2 by have:=Bv.o;omega) h1;rw[<-hP2,Ye,Zu7,Bm.o];have:=Bn.o
       omega
      have AH:=Yh B4;rw[hP2]at HI2 hv2;obtain⟨m2,hm2⟩:=Yn (P2.length);rw[hm2]at hv2;subst hv2;clear hP2 B4 hm2;have BC:=(V2.o.cell (p:=⟨w.heap.size,3,none⟩) AF.o).trans (cell6L K1.o).2.2.2.1;have mg:=(W2.o.cell (p:=⟨wb,wof+k*2+1,none⟩) Bu.o).trans Bt.o;go_wp2_with fail;clear BC mg;go_loopw [5,49] (fun v3 i3 w3'=>∃jj:Nat,jj<=ml/\i3=.int .i64 jj/\Hi (HadI Sb w1 w3' v3 (P2++hmT name y.sp (ms.take jj)))/\Hi (BxI w3' v3 wr.heap.size #[.int .i64 y.sp.typ,.bool y.sp.via,.bool y.sp.many,.slice y.po pl y.pc] 115)/\Hi (BxI w3' v3 wa.heap.size #[.int .i64 x.kind,.string x.name,.int .i64 x.n,.slice xw m xwc,.slice xk kl xkc] 50)) (fun _ i3 _=>ml-(intOf i3).toNat)
      case atStart=>exact⟨0,Yl _,rfl,Yh (by rw[List.take_zero];show HadI _ _ _ _ (P2++[]);rw[List.append_nil];exact HI2.o),HX2,HB2⟩
      case round =>
       rename World=>w3'
       obtain⟨jj,hjj,rfl,HI3,HX3,HB3⟩:=hrel;have W3:=@Yh (Below w.heap.size w w3') (Q1.o.trans (HI3.o.below.mono Q1.o.size));obtain⟨lo3,cap3,hv3⟩:=HI3.o.row;obtain⟨R3,hR3⟩:=Yn (P2++hmT name y.sp (ms.take jj));have AI:=Yh hR3
       have B7:R3.length<=27400:=by
        have h1:=Zl9 name y.sp (ms.take jj);have h2:=List.length_take_le jj ms;rw[<-hR3,Ye];have:=AH.o;have:=An.o;have:=AE.o
        omega
       have AJ:=Yh B7;rw[hR3]at HI3 hv3;obtain⟨m3,hm3⟩:=Yn (R3.length);have BD:=Yh hm3;rw[hm3]at hv3 B7;subst hv3;clear hR3 hm3
       by_cases hjm:jj<ml
       ·have As:jj<ms.length:=by rw[AE.o];exact hjm
        obtain⟨mb,mof,rfl,hmb,hmcell⟩:=Bo.o.cells (by omega);obtain⟨gm0,gm1,gm2⟩:=hmcell jj As;obtain⟨q,hq⟩:=Yn (ms[jj]);rw[hq]at gm0 gm1 gm2;have A9:=Yh (ZDc (name:=name) (s:=y.sp) As hq);have c0:=(W3.o.cell (p:=⟨mb,mof+jj*3,none⟩) hmb).trans gm0;have c1:=(W3.o.cell (p:=⟨mb,mof+jj*3+1,none⟩) hmb).trans gm1;have c2:=(W3.o.cell (p:=⟨mb,mof+jj*3+2,none⟩) hmb).trans gm2;obtain⟨wm,hwm,km,qm,zm⟩:=YA w3' #[.string q.name,.bool q.ptr,.int .i64 q.sig] 112;have AK:=Yh (HI3.o.kept qm);have AL:=Yh (HX3.o.kept qm);have B8:=Yh (HB3.o.kept qm);have WM:=@Yh (Below w.heap.size w wm) (YU W3 qm);obtain⟨n0',n1',n2'⟩:=cell3A km;have BT:(jj:Int)<(ml:Int):=by omega
        by_cases hnm:q.name=name
        ·have AM:(q.name.toList==name.toList)=true:=(Zk q.name name).trans (Yb hnm)
         have Ac:=@Yh (P2++hmT name y.sp (ms.take (jj+1))=R3++[⟨true,q.sig,q.ptr,y.sp.via,y.sp.path⟩]) (by rw[A9.o,if_pos hnm,<-AI.o,Y6]);obtain⟨-,y1,-,y3⟩:=cell4 AL.o.1;obtain⟨NZ,hNZ⟩:∃NZ:Sz,NZ=⟨⟨true,q.sig,q.ptr,y.sp.via,y.sp.path⟩,y.po,y.pc⟩:=⟨_,rfl⟩
         have AN:=Yh hNZ;have A6:=@Yh (selC NZ=[.bool true,.int .i64 q.sig,.bool q.ptr,.bool y.sp.via,.slice y.po pl y.pc]) (by rw[hNZ,<-AD.o];rfl);have AO:=@Yh (SelIn (fun b=>Sb b/\(Value.slice lo3 m3 cap3).ownBlock≠some b) wm NZ) (by rw[hNZ];exact⟨AK.o.old (by have:=Z1.o;omega) B0.o WM.o,Am.o.1⟩);obtain⟨⟨zs9,ho9,hm9,hs9⟩,hB9⟩:=AK.o;have Ad:zs9.length=m3:=by rw[<-BD.o,<-hm9,Yg]
         have AP:=@Yh (wm.ownsRow w1.heap.size 28 5 (.slice lo3 m3 cap3) m3 (encs selC zs9)) (by have:=ho9;unfold OwnG at this;rw[Ad]at this;exact this);have A2:=Yh (YH ho9 (YH hm9 (YH hs9 (YH hB9 Ad))));have WV:=Yh hB9.size;clear hnm hNZ ho9 hm9 hs9 hB9 Ad hmcell gm0 gm1 gm2 hmb hq As km qm zm;go_wp2_with (at_builtin;refine wpList_append_own_at _ rfl _ _ 80 rfl w1.heap.size 28 i0 (.agg #[.bool false,.int .i64 0,.bool false,.bool false,.slice none 0 0]) 5 48 Tryz.underlying80 hi hz0 hz1 hz2 rfl (by decide) _ m3 (encs selC zs9) rfl (AP.o.alloc _) ⟨wm.heap.size,0,none⟩ 1 1 (selC NZ) rfl ?c1 ?c2 ?c3 ?c4 ?c5 ?c6 ?_)
         case c1=>rfl
         case c2=>rw[A6.o];first|exact Z9 _ _ _|exact fun j u h=>h
         case c3=>exact Z18 _
         case c4=>unfold maxLen;omega
         case c5=>omega
         case c6=>have:=WV.o;simp;omega
         intro v5 w9 hown hgrow _ hblk;have hp:=HadI.push (wr:=wm) (wn:=_) (z:=NZ) A2.o.1 A2.o.2.1 A2.o.2.2.1 A2.o.2.2.2.1 ((Y8 _ _).alloc (Yk _) (.cells (selC NZ).toArray 28)) AO.o (by rw[A2.o.2.2.2.2]) (by first|exact hown|(rw[A6.o];rw[A6.o]at hown;exact hown)) (by first|exact hgrow|(rw[A6.o];exact hgrow)) (by simpa using hblk);have A7:=@Yh (HadI Sb w1 w9 v5 (P2++hmT name y.sp (ms.take (jj+1)))) (by rw[Ac.o];have:=hp.1;rw[AN.o]at this;exact this);have AQ:=Yh (hp.2 _ _ _ AL.o);have BE:=Yh (hp.2 _ _ _ B8.o);clear hown hgrow hblk hp;go_wp2_with fail;go_roundw
         case rel=>exact⟨jj+1,by omega,by go_num,A7,AQ,BE⟩
         case measure=>first|(simp[intOf];done)|(simp[intOf];omega)
        ·have AM:(q.name.toList==name.toList)=false:=(Zk q.name name).trans (Ya hnm)
         have A7:=@Yh (HadI Sb w1 wm (.slice lo3 m3 cap3) (P2++hmT name y.sp (ms.take (jj+1)))) (by rw[A9.o,if_neg hnm,List.append_nil,AI.o];exact AK.o);clear hnm hmcell gm0 gm1 gm2 hmb hq As km qm zm;go_wp2_with fail;go_roundw
         case rel=>exact⟨jj+1,by omega,by go_num,A7,AL,B8⟩
         case measure=>first|(simp[intOf];done)|(simp[intOf];omega)
       ·obtain rfl:jj=ml:=by omega
        have AR:=@Yh (R3=P2++hmT name y.sp ms) (by rw[<-AI.o,Y3 (by rw[AE.o];exact Yk _)]);have tw:=(cell5 HB3.o.1).2.2.2.1;go_wp2_with fail;clear tw;go_loopw [5,73] (fun v4 i4 wi=>∃kk:Nat,kk<=m/\i4=.int .i64 kk/\Hi (HadI Sb w1 wi v4 (R3++hfT name y.sp x kk))/\Hi (BxI wi v4 wr.heap.size #[.int .i64 y.sp.typ,.bool y.sp.via,.bool y.sp.many,.slice y.po pl y.pc] 115)/\Hi (BxI wi v4 wa.heap.size #[.int .i64 x.kind,.string x.name,.int .i64 x.n,.slice xw m xwc,.slice xk kl xkc] 50)) (fun _ i4 _=>m-(intOf i4).toNat)
        case atStart=>exact⟨0,Yl _,rfl,Yh (by rw[ZCc,List.append_nil];exact HI3.o),HX3,HB3⟩
        case round =>
         rename World=>wi
         obtain⟨kk,hkk,rfl,HI4,HX4,HT4⟩:=hrel;have W4:=@Yh (Below w.heap.size w wi) (Q1.o.trans (HI4.o.below.mono Q1.o.size));have BF:=@Yh (w.heap.size<=wi.heap.size) (W4.o.size)
         by_cases hkm:kk<m
         ·obtain⟨lo4,cap4,hv4⟩:=HI4.o.row
          obtain⟨R4,hR4⟩:=Yn (R3++hfT name y.sp x kk);have AS:=Yh hR4
          have AT:R4.length<=27500:=by
           have h1:=ZZ8 name y.sp x kk;rw[<-hR4,Ye];have:=AJ.o;have:=HX.o.ok.wl;have:=HM.o
           omega
          rw[hR4]at HI4 hv4;obtain⟨m4,hm4⟩:=Yn (R4.length);have BG:=Yh hm4;rw[hm4]at hv4 AT;have Ao:=Yh AT;subst hv4;clear hR4 hm4 AT;have Aa:kk<x.words.length:=by rw[HM.o];exact hkm
          obtain⟨xb,xof,rfl,hxb,hxcl⟩:=HX.o.words.cells (by omega);have hw:=hxcl kk Aa;rw[Z3 Aa]at hw;obtain⟨wd,hwd⟩:=Yn (x.words[kk]);rw[hwd]at hw;have BH:=(W4.o.cell (p:=⟨xb,xof+kk,none⟩) hxb).trans hw;have d0:=(cell5 HT4.o.1).1;have BI:(kk:Int)<(m:Int):=by omega
          by_cases h6:x.kind=6
          ·obtain⟨s1,s2,s3⟩:=AA.o h6
           have Af:kk<x.kids.length:=by rw[<-s1];exact Aa
           have AU:=@Yh (wd.size<=9223372036854775807) (by rw[<-hwd];exact HX.o.ok.ws _ (Yq Aa));have BJ:(x.kind==6)=true:=by rw[YK];exact h6
           obtain⟨kb,kof,rfl,hkb,hkcl⟩:=HX.o.kids.cells (by omega);have A4:=hkcl kk Af;rw[Z3 Af]at A4;obtain⟨kq,hkq⟩:=Yn (x.kids[kk]);rw[hkq]at A4;have A0:=Zgc (name:=name) (s:=y.sp) h6 Aa Af hwd hkq;have A8:=ZW7 wd wi AU.o;obtain⟨fw,hfw⟩:=Yn (fieldT wd);rw[hfw]at A0 A8;have B9:=Yh A8
           by_cases hnm:fw=name
           ·have AM:(fw.toList==name.toList)=true:=(Zk fw name).trans (Yb hnm)
            have Ac:=@Yh (R3++hfT name y.sp x (kk+1)=R4++[⟨false,kq,false,y.sp.via,y.sp.path++[(kk:Int)]⟩]) (by rw[A0,if_pos hnm,<-AS.o,Y6]);have BK:(kk:Int)<(kl:Int):=by rw[Br.o]at Af;omega
            have At:=(W4.o.cell (p:=⟨kb,kof+kk,none⟩) hkb).trans A4;have Ae:=fun W (hb:Below wi.heap.size wi W)=>Z53 y.po y.pc y.sp.path (kk:Int) W ((B0.o.same (SameS.below (YU W4 hb))).o) (by have:=AC.o;omega) Am.o.2
            rw[AD.o]at Ae;have BL:=Yh Ae;clear h6 hnm A0 hwd hw hxcl hxb hkcl hkb A4 hkq s1 s2 s3 Aa Af Ae A8 hfw;go_upto_region 22 with(go_at_call 60;refine B9.o.mono ?_;rintro e9 w9' ⟨rfl,rfl⟩)
            clear BH d0;have d4:=(cell5 HT4.o.1).2.2.2.2;obtain⟨-,y1,-,y3⟩:=cell4 HX4.o.1;refine GoG.start [(14,⟨wa.heap.size,4,none⟩,.slice (some ⟨kb,kof,none⟩) kl xkc),(14,⟨kb,kof+kk,none⟩,.int .i64 kq),(14,⟨wr.heap.size,1,none⟩,.bool y.sp.via),(14,⟨wr.heap.size,3,none⟩,.slice y.po pl y.pc)] (by kernel_rfl) ?_ ?_
            ·exact Kd (Kd (Kd (Kd (Kn))))
            refine GoG.fr 0 ?_;refine GoG.fr 1 ?_;refine GoG.s1 2 0 [14,13,12,5,4] ?_;refine GoG.fr 3 ?_;refine GoG.fr 4 ?_;refine GoG.s1 5 1 [14,13,12] ?_;refine GoG.fr 6 ?_;refine GoG.s1 7 2 [14,13,12] ?_;refine GoG.fr 8 ?_;refine GoG.s1 9 3 [14,13,12,11] ?_;refine GoG.fr 10 ?_;refine GoG.on 11 fun K hK=>?_
            go_simp;refine(BL.o _ (Y8 _ _).drew).mono ?_;rintro e9 wv ⟨pv,rfl,hO,bq⟩;have QV:=Yh (((Y8 wi.heap.size wi).drew).trans bq);have A2:=Yh (OwnG.base (ZT0 hO) (show wi.heap.size<=wi.drew.heap.size from((Y8 wi.heap.size wi).drew).size));obtain⟨po,pc,hv,A5,-,-⟩:=A2.o.row ZW;have el:(y.sp.path++[(kk:Int)]).length=pl+1:=by rw[Ye,AD.o];rfl
            have PI:=Yh (HI4.o.new (fun b hb=>Be.o b (by have:=BF.o;omega)) A2.o hv);rw[el]at hv A5;subst hv;have BM:=Yh (HI4.o.kept QV.o);have BN:=Yh (HX4.o.kept QV.o);have BO:=Yh (HT4.o.kept QV.o);obtain⟨NZ,hNZ⟩:∃NZ:Sz,NZ=⟨⟨false,kq,false,y.sp.via,y.sp.path++[(kk:Int)]⟩,po,pc⟩:=⟨_,rfl⟩
            have AN:=Yh hNZ;have A6:=@Yh (selC NZ=[.bool false,.int .i64 kq,.bool false,.bool y.sp.via,.slice po (pl+1) pc]) (by rw[hNZ,<-el];rfl);have AO:=@Yh (SelIn (fun b=>Sb b/\(Value.slice lo4 m4 cap4).ownBlock≠some b) wv NZ) (by rw[hNZ];exact⟨PI.o,by show(y.sp.path++[(kk:Int)]).length<=pc;rw[el];exact A5⟩);obtain⟨⟨zs9,ho9,hm9,hs9⟩,hB9⟩:=BM.o;have Ad:zs9.length=m4:=by rw[<-BG.o,<-hm9,Yg]
            have AP:=@Yh (wv.ownsRow w1.heap.size 28 5 (.slice lo4 m4 cap4) m4 (encs selC zs9)) (by have:=ho9;unfold OwnG at this;rw[Ad]at this;exact this);have A2:=Yh (YH ho9 (YH hm9 (YH hs9 (YH hB9 Ad))));have WV:=Yh hB9.size;clear hO bq A5 hNZ el ho9 hm9 hs9 hB9 Ad;refine hK.out _ _ (Kc (YR QV.o d4) (Kc (YR QV.o At) (Kc (YR QV.o y1) (Kc (YR QV.o y3) (Kn))))) ?_;clear hK K;refine GoG.fr 12 ?_;refine GoG.on 13 fun K hK=>?_
            go_simp;refine hK.out _ _ (Kc (((QV.o.trans ((Y8 _ _).alloc (Yk _) _ |>.mono QV.o.size)).cell (p:=⟨wa.heap.size,4,none⟩) (show _<wi.heap.size from Zv d4)).trans d4) (Kc (((QV.o.trans ((Y8 _ _).alloc (Yk _) _ |>.mono QV.o.size)).cell (p:=⟨kb,kof+kk,none⟩) (show _<wi.heap.size from Zv At)).trans At) (Kc (((QV.o.trans ((Y8 _ _).alloc (Yk _) _ |>.mono QV.o.size)).cell (p:=⟨wr.heap.size,1,none⟩) (show _<wi.heap.size from Zv y1)).trans y1) (Kc (((QV.o.trans ((Y8 _ _).alloc (Yk _) _ |>.mono QV.o.size)).cell (p:=⟨wr.heap.size,3,none⟩) (show _<wi.heap.size from Zv y3)).trans y3) (Kn))))) ?_;clear hK K d4 At y1 y3
            try simp only[Act.put,YB,YC,YD,YE,YF,YG]
            refine GoG.append (i:=14) rfl (by kernel_rfl) rfl _ _ 80 rfl w1.heap.size 28 i0 (.agg #[.bool false,.int .i64 0,.bool false,.bool false,.slice none 0 0]) 5 48 Tryz.underlying80 hi hz0 hz1 hz2 rfl (by decide) (.slice lo4 m4 cap4) m4 (encs selC zs9) rfl (AP.o.alloc _) ⟨wv.heap.size,0,none⟩ 1 1 (selC NZ) rfl rfl (by rw[A6.o];first|exact Z9 _ _ _|exact fun j u h=>h) (Z18 _) (by have:=Ao.o;unfold maxLen;omega) (by have:=Ao.o;omega) (by have:=WV.o;simp;omega) (fun v5 w9 hown hgrow hblk=>?_);refine⟨(Ku (Ku (Ku (Ku (Kn))))),?_⟩;have hp:=HadI.push (wr:=wv) (wn:=_) (z:=NZ) A2.o.1 A2.o.2.1 A2.o.2.2.1 A2.o.2.2.2.1 ((Y8 _ _).alloc (Yk _) (.cells (selC NZ).toArray 28)) AO.o (by rw[A2.o.2.2.2.2]) (by first|exact hown|(rw[A6.o];rw[A6.o]at hown;exact hown)) (by first|exact hgrow|(rw[A6.o];exact hgrow)) (by simpa using hblk);have A7:=Yh hp.1;have AQ:=Yh (hp.2 _ _ _ BN.o);have BP:=Yh (hp.2 _ _ _ BO.o);clear hown hgrow hblk hp;refine GoG.fr 15 ?_;refine GoG.done (by kernel_rfl) ?_ _;have AV:=@Yh (HadI Sb w1 w9 v5 (R3++hfT name y.sp x (kk+1))) (by rw[Ac.o];have:=A7.o;rw[AN.o]at this;exact this);go_wp2_with fail;go_roundw
            case rel=>exact⟨kk+1,by omega,by go_num,AV,AQ,BP⟩
            case measure=>first|(simp[intOf];done)|(simp[intOf];omega)
           ·have AM:(fw.toList==name.toList)=false:=(Zk fw name).trans (Ya hnm)
            have A7:=@Yh (HadI Sb w1 wi (.slice lo4 m4 cap4) (R3++hfT name y.sp x (kk+1))) (by rw[A0,if_neg hnm,List.append_nil,AS.o];exact HI4.o);clear h6 hnm A0 hwd hw hxcl hxb hkcl hkb A4 hkq s1 s2 s3 Aa Af A8 hfw;go_wp2_with (go_at_call 60;refine B9.o.mono ?_;rintro e9 w9' ⟨rfl,rfl⟩);go_roundw
            case rel=>exact⟨kk+1,by omega,by go_num,A7,HX4,HT4⟩
            case measure=>first|(simp[intOf];done)|(simp[intOf];omega)
          ·have BJ:(x.kind==6)=false:=by rw[Yc];exact h6
           have A7:=@Yh (HadI Sb w1 wi (.slice lo4 m4 cap4) (R3++hfT name y.sp x (kk+1))) (by rw[Zza h6,<-Zza (name:=name) (s:=y.sp) h6 kk,AS.o];exact HI4.o);clear h6 hwd hw hxcl hxb Aa;go_wp2_with fail;go_roundw
           case rel=>exact⟨kk+1,by omega,by go_num,A7,HX4,HT4⟩
           case measure=>first|(simp[intOf];done)|(simp[intOf];omega)
         ·obtain rfl:kk=m:=by omega
          have e:R3++hfT name y.sp x kk=P++repT (nn+1) (oneT name y.sp ms x):=by
           show _=P++(repT nn (oneT name y.sp ms x)++oneT name y.sp ms x)
           rw[<-Y6,BB.o,AR.o];unfold oneT;rw[HM.o,Y6]
          have A1:=HI4.o;rw[e]at A1;have AW:=Yh A1;clear A1 e;go_wp2_with fail;go_roundw
          case rel=>exact⟨nn+1,by omega,by go_num,AW,HX4,HT4⟩
          case measure=>first|(simp[intOf];done)|(simp[intOf];omega)
     ·obtain rfl:nn=tn:=by omega
      have A1:=HI2.o;rw[<-AB.o]at A1;have AW:=Yh A1;clear A1;go_wp2_with fail;go_roundw
      case rel=>exact⟨k+1,by omega,by go_num,AW⟩
      case measure=>first|(simp[intOf];done)|(simp[intOf];omega)
  ·obtain rfl:k=n9:=by omega
   have Ap:ls.take k=ls:=Y3 (by rw[AX.o];exact Yk _);have BQ:=@Yh (P=R) (by rw[<-HP.o,Ap,HR.o]);clear Ap;go_wp2_with fail;go_ret;obtain⟨⟨zs9,ho9,hm9,hs9⟩,hB9⟩:=HI1.o;exact⟨_,rfl,⟨zs9,ho9.base (by have:=Z1.o;omega),by rw[hm9,BQ.o],fun z hz=>(hs9 z hz).sub (fun b _ g=>g.1)⟩,YU Q1 hB9⟩
theorem Zf7(Sb:Nat->Prop)(u:Un)(ao no:Option Addr)(ac nc:Nat)(z:Nat)(w:World)(hSb:∀b,w.heap.size<=b->Sb b)(hU:UnS Sb w ao no ac nc u)(hr:rightU u=true)(hzl:z<u.types.length) :
  Calls Tryz.prog 30 #[unV u ao ac no nc,.int .i64 z] w fun e w'=>∃val,e=.returned val/\LvA Sb w' val (firstL u (z:Int))/\Below w.heap.size w w':=by
 by_cases h:u.types[z].kind=1
 ·exact ZQ7 Sb u ao no ac nc z w hSb hU hr hzl h
 ·exact ZF5 Sb u ao no ac nc z w hSb hU hr hzl h
section
variable {w:World} {b:Nat} {a0 a1 a2 a3 a4 a5 a6 a7:Value} {T:TypeId}
theorem cell8(h:BlockAt w b #[a0,a1,a2,a3,a4,a5,a6,a7] T):w.cell? ⟨b,0,none⟩=some a0/\w.cell? ⟨b,1,none⟩=some a1/\w.cell? ⟨b,2,none⟩=some a2/\w.cell? ⟨b,3,none⟩=some a3/\w.cell? ⟨b,4,none⟩=some a4/\w.cell? ⟨b,5,none⟩=some a5/\w.cell? ⟨b,6,none⟩=some a6/\w.cell? ⟨b,7,none⟩=some a7:=
 ⟨h.cell 0,h.cell 1,h.cell 2,h.cell 3,h.cell 4,h.cell 5,h.cell 6,h.cell 7⟩
theorem ZT1(h:BlockAt w b #[a0,a1,a2,a3,a4,a5,a6,a7] T):(w.cell? ⟨b,0,none⟩=some a0/\w.cell? ⟨b,1,none⟩=some a1/\w.cell? ⟨b,2,none⟩=some a2/\w.cell? ⟨b,3,none⟩=some a3/\w.cell? ⟨b,4,none⟩=some a4/\w.cell? ⟨b,5,none⟩=some a5/\w.cell? ⟨b,6,none⟩=some a6/\w.cell? ⟨b,7,none⟩=some a7) /\
  (w.frozen? ⟨b,0,none⟩=false/\w.frozen? ⟨b,1,none⟩=false/\w.frozen? ⟨b,2,none⟩=false/\w.frozen? ⟨b,3,none⟩=false/\w.frozen? ⟨b,4,none⟩=false/\w.frozen? ⟨b,5,none⟩=false/\w.frozen? ⟨b,6,none⟩=false/\w.frozen? ⟨b,7,none⟩=false):=
 ⟨cell8 h,h.free 0,h.free 1,h.free 2,h.free 3,h.free 4,h.free 5,h.free 6,h.free 7⟩
def set8(w:World)(b:Nat)(v0 v1 v2 v3 v4 v5 v6 v7:Value):World:=(((((((w.setCell ⟨b,0,none⟩ v0).setCell ⟨b,1,none⟩ v1).setCell ⟨b,2,none⟩ v2).setCell ⟨b,3,none⟩ v3).setCell ⟨b,4,none⟩ v4).setCell ⟨b,5,none⟩ v5).setCell ⟨b,6,none⟩ v6).setCell ⟨b,7,none⟩ v7
theorem ZHb{Sb:Nat->Prop}{b:Nat}(hb:¬Sb b)(w:World)(v0 v1 v2 v3 v4 v5 v6 v7:Value):SameS Sb w (set8 w b v0 v1 v2 v3 v4 v5 v6 v7):=
 (((((((SameS.set hb rfl).trans (SameS.set hb rfl)).trans (SameS.set hb rfl)).trans (SameS.set hb rfl)).trans (SameS.set hb rfl)).trans (SameS.set hb rfl)).trans (SameS.set hb rfl)).trans (SameS.set hb rfl)
theorem Z91{W w:World}{b:Nat}(h:Below W.heap.size W w)(hb:W.heap.size<=b)(v0 v1 v2 v3 v4 v5 v6 v7:Value):Below W.heap.size W (set8 w b v0 v1 v2 v3 v4 v5 v6 v7):=(((((((h.setCell hb _).setCell hb _).setCell hb _).setCell hb _).setCell hb _).setCell hb _).setCell hb _).setCell hb _
theorem Zic{s:World}{v0 v1 v2 v3 v4 v5 v6 v7:Value}(h:BlockAt w b #[a0,a1,a2,a3,a4,a5,a6,a7] T)(hs:set8 w b v0 v1 v2 v3 v4 v5 v6 v7=s):BlockAt s b #[v0,v1,v2,v3,v4,v5,v6,v7] T:=by
 subst hs;have:=(((((((h.set 0 v0).set 1 v1).set 2 v2).set 3 v3).set 4 v4).set 5 v5).set 6 v6).set 7 v7
 simpa [set8] using this
theorem Zf1{s:World}{v0 v1 v2 v3 v4 v5:Value}(h:BlockAt w b #[a0,a1,a2,a3,a4,a5] T)(hs:set6 w b v0 v1 v2 v3 v4 v5=s):BlockAt s b #[v0,v1,v2,v3,v4,v5] T:=by
 subst hs;have:=(((((h.set 0 v0).set 1 v1).set 2 v2).set 3 v3).set 4 v4).set 5 v5
 simpa [set6] using this
end
theorem IRowS.sub{S R:Nat->Prop}{w:World}{ao:Option Addr}{zs:List Int}(h:IRowS S w ao zs)(hs:∀b,b<w.heap.size->S b->R b):IRowS R w ao zs:=by
 rcases h with g|⟨b,off,e,hb,hS,hc⟩
 ·exact .inl g
 ·exact .inr ⟨b,off,e,hb,hs b hb hS,hc⟩
theorem Z69{S:Nat->Prop}{w:World}{a1 o1 eo wo so:Option Addr}{tl nl el wl sl c1 c2 ec wcp sc:Nat}{e:Int}{l:Lv}(h:LvA S w (.agg #[.slice a1 tl c1,.slice o1 nl c2,.slice eo el ec,.slice wo wl wcp,.slice so sl sc,.int .i64 e]) l):l.u.types.length=tl/\l.u.named.length=nl/\l.es.length=el/\l.e=e/\UnS S w a1 o1 c1 c2 l.u:=by
 obtain⟨ao,no,ac,nc,eo',ec',wo',wc',so',sc',ez,wz,hv,hU,-,hm,-⟩:=h;simp only[Value.agg.injEq,Array.mk.injEq,List.cons.injEq,Value.slice.injEq,Value.int.injEq,true_and,and_true]at hv;obtain⟨⟨rfl,rfl,rfl⟩,⟨rfl,rfl,rfl⟩,⟨rfl,rfl,rfl⟩,-,-,rfl⟩:=hv;exact⟨rfl,rfl,by rw[<-hm,Yg],rfl,hU⟩
def FRes(Sb:Nat->Prop)(w:World)(R:Un×Se×Int)(e:Ending)(w':World):Prop:=∃ao no ac nc po pc,e=.returned (.agg #[.slice ao R.1.types.length ac,.slice no R.1.named.length nc,.bool R.2.1.meth,.int .i64 R.2.1.typ,.bool R.2.1.ptr,.bool R.2.1.via,.slice po R.2.1.path.length pc,.int .i64 R.2.2])/\UnS Sb w' ao no ac nc R.1/\IRowS Sb w' po R.2.1.path/\R.2.1.path.length<=pc/\Below w.heap.size w w'
theorem ZH4(name:ByteArray)(m:Nat)(l:Lv):loopL name (m+1) l=if l.e≠0 then(noUn,noSe,l.e)else match hadT l.u l.ls name with
  | [s]=>(l.u,s,0)
  | _::_::_=>(noUn,noSe,9)
  | []=>if l.es=[]then(noUn,noSe,8)else loopL name m (nextL l):=rfl
set_option maxRecDepth 100000 in
theorem Zv8(Sb:Nat->Prop)(u:Un)(ao no:Option Addr)(ac nc:Nat)(z:Nat)(name:ByteArray)(w:World)(hSb:∀b,w.heap.size<=b->Sb b)(hU:UnS Sb w ao no ac nc u)(hr:rightU u=true)(hzl:z<u.types.length) :
  Calls Tryz.prog 13 #[unV u ao ac no nc,.int .i64 z,.string name] w (FRes Sb w (selT u (z:Int) name)):=by
 obtain⟨w1,h1,k1,q1,z1⟩:=YA w #[.slice ao u.types.length ac,.slice no u.named.length nc] 25;obtain⟨w2,h2,k2,q2,z2⟩:=YA w1 #[.slice none 0 0,.slice none 0 0,.bool false,.int .i64 0,.bool false,.bool false,.slice none 0 0,.int .i64 0] 39;have B2:=Yh (q1.trans (q2.mono q1.size));have A8:=@Yh (w.heap.size<=w1.heap.size) (q1.size);have A2:=@Yh (w1.heap.size<w2.heap.size) (k2.lt);have Ao:inL u.types (z:Int)=true:=by unfold inL;exact Yb (by omega)
 have Aa:=Zf7 (fun b=>Sb b/\b≠w1.heap.size) u ao no ac nc z w2 (fun b hb=>⟨hSb b (by have:=B2.o.size;omega),by have:=A2.o;omega⟩) ((Zf (T:=fun b=>Sb b/\b≠w1.heap.size) hU (fun b hlt g=>⟨g,by have:=A8.o;omega⟩)).same (SameS.below B2.o)) hr hzl;have Ap:=Yh (fun h0=>Z9b hr Ao h0);obtain⟨FL,hFL⟩:=Yn (firstL u (z:Int));obtain⟨F,hF⟩:=Yn (selT u (z:Int) name);have Az:=@Yh (loopL name 7 FL=F) (by rw[<-hFL,Z3c,hF]);rw[hFL]at Aa Ap;rw[hF];obtain⟨L,hL⟩:=Yn (u.types.length);obtain⟨n,hn⟩:=Yn (u.named.length);unfold unV at Aa ⊢;rw[hL,hn]at Aa ⊢ h1 k1;have AA:=Yh Aa;have Aq:=Yh hSb;have K2:=Yh k2;obtain⟨u0,u1⟩:=cell2 (k1.below q2);clear hFL hF hL hn Aa Ao k1 k2 q1 q2 z1 z2 hU hr hSb hzl;go_enter Tryz.func13,Tryz.ntmps13;go_wp2_with fail;refine AA.o.mono ?_;rintro e9 w3 ⟨val,rfl,hLV,b3⟩;have Af:=Yh hLV;obtain⟨a1,o1,c1,c2,eo,ec,wo,wcp,so,sc,ez,wz,hv,-⟩:=hLV;subst hv;obtain⟨w4,h4,k4,q4,z4⟩:=YA w3 #[.slice a1 FL.u.types.length c1,.slice o1 FL.u.named.length c2,.slice eo ez.length ec,.slice wo wz.length wcp,.slice so FL.seen.length sc,.int .i64 FL.e] 78;obtain⟨lb,hlb⟩:=Yn (w3.heap.size);obtain⟨S2,hS2⟩:∃S2:Nat->Prop,(fun b=>(Sb b/\b≠w1.heap.size)/\b≠lb)=S2:=⟨_,rfl⟩
 have A9:=@Yh (∀b,S2 b↔((Sb b/\b≠w1.heap.size)/\b≠lb)) (fun b=>by rw[<-hS2]);have B4:=Yh (b3.trans (q4.mono b3.size));have A5:=@Yh (w2.heap.size<=lb/\lb<w4.heap.size) (⟨by rw[<-hlb];exact b3.size,by omega⟩);have K4:=@Yh (BlockAt w4 lb _ _) (by rw[<-hlb];exact k4);have Ag:=Yh ((Af.o.sub (R:=S2) (fun b hlt g=>(A9.o b).2 ⟨g,by omega⟩)).same (SameS.below q4));have AB:=Yh (K2.o.below B4.o);have Ar:=@Yh (∀b,S2 b->Sb b) (fun b g=>((A9.o b).1 g).1.1);have AC:=@Yh (¬S2 w1.heap.size) (fun g=>((A9.o _).1 g).1.2 rfl);have AD:=@Yh (¬S2 lb) (fun g=>((A9.o _).1 g).2 rfl);clear b3 k4 q4 z4 hS2 u0 u1;go_wp2_with fail;clear h4 h1 h2
 try rw[hlb]
 clear hlb;go_loopw [8] (fun i wr=>∃(nn:Nat) (l:Lv) (a1 o1 eo wo so:Option Addr) (c1 c2 ec wcp sc tl nl el wl sl:Nat) (e:Int),nn<=7/\i=.int .i64 nn/\Hi (loopL name (7-nn) l=F)/\Hi (l.e=0->Lok nn l)/\Hi (BlockAt wr lb #[.slice a1 tl c1,.slice o1 nl c2,.slice eo el ec,.slice wo wl wcp,.slice so sl sc,.int .i64 e] 78)/\Hi (LvA S2 wr (.agg #[.slice a1 tl c1,.slice o1 nl c2,.slice eo el ec,.slice wo wl wcp,.slice so sl sc,.int .i64 e]) l)/\Hi (BlockAt wr w1.heap.size #[.slice none 0 0,.slice none 0 0,.bool false,.int .i64 0,.bool false,.bool false,.slice none 0 0,.int .i64 0] 39)/\Hi (Below w2.heap.size w2 wr)) (fun i _=>7-(intOf i).toNat)
 case atStart=>exact⟨0,FL,a1,o1,eo,wo,so,c1,c2,ec,wcp,sc,_,_,_,_,_,_,Yl _,rfl,Az,Ap,K4,Ag,AB,B4⟩
 case round =>
  obtain⟨nn,⟨V,es,ls,seen,e'⟩,a1,o1,eo,wo,so,c1,c2,ec,wcp,sc,tl,nl,el,wl,sl,e,hnn,rfl,HFN,HLO,HK,HLA,HRB,HB⟩:=hrel;obtain⟨t1,t2,t3,t4,t5⟩:=Z69 HLA.o;have t1:V.types.length=tl:=t1;have t2:V.named.length=nl:=t2;have t3:es.length=el:=t3;have t4:e'=e:=t4;subst t4;have As:=@Yh (V.types.length=tl/\V.named.length=nl) (⟨t1,t2⟩);have At:=Yh t3;have Ac:=@Yh (Below w.heap.size w wr) (YU B2 HB.o);obtain⟨x0,x1,x2,x3,x4,x5⟩:=cell6L HK.o;clear t1 t2 t3 t5
  by_cases hn7:nn<7
  ·have AE:(nn:Int)<7:=by omega
   have Au:=@Yh (F=loopL name ((6-nn)+1) ⟨V,es,ls,seen,e'⟩) (by rw[<-HFN.o];congr 1;omega)
   by_cases he:e'=0
   case neg =>
    have A3:=@Yh (F=(noUn,noSe,e')) (by rw[Au.o,ZH4,if_pos he]);have hq:(e' != 0)=true:=by rw[YJ];exact he
    clear he;obtain⟨⟨e0,e1,e2,e3,e4,e5,e6,e7⟩,f0,f1,f2,f3,f4,f5,f6,f7⟩:=ZT1 HRB.o;have BS:=Yh (Z91 (Ac.o) A8.o (.slice none 0 0) (.slice none 0 0) (.bool false) (.int .i64 0) (.bool false) (.bool false) (.slice none 0 0) (.int .i64 e'));unfold set8 at BS;go_wp2_with fail
    try simp only[Exit.inBlock,Exit.then]
    refine bodyPost_ret (v:=.agg #[.slice none 0 0,.slice none 0 0,.bool false,.int .i64 0,.bool false,.bool false,.slice none 0 0,.int .i64 e']) ?_ rfl ?_
    ·simp[results,Tryz.results13,go_sem,e0,e1,e2,e3,e4,e5,e6,e7]
    rw[A3.o];exact⟨none,none,0,0,none,0,rfl,Zj0 _ _,.inl rfl,Yk _,BS.o⟩
   subst he;have A0:=Yh (HLO.o rfl)
   have Ah:=Yh (show F=match hadT V ls name with
     | [s]=>(V,s,0)
     | _::_::_=>(noUn,noSe,9)
     | []=>if es=[]then(noUn,noSe,8)else loopL name (6-nn) (nextL ⟨V,es,ls,seen,0⟩)from by rw[Au.o,ZH4,if_neg (fun g=>g rfl)])
   have AF:=Yh (ZL9 S2 nn V es ls seen _ name wr (fun b hb=>(A9.o b).2 ⟨⟨Aq.o b (by have:=Ac.o.size;omega),by have:=A2.o;have:=HB.o.size;omega⟩,by have:=HK.o.lt;omega⟩) HLA.o A0.o (by omega));have AR:((0:Int) != 0)=false:=rfl;go_wp2_with fail;refine AF.o.mono ?_;rintro e9 wh ⟨v9,rfl,⟨zs,hzo,hzm,hzs⟩,bh⟩;obtain⟨lo,cap,hv,-,-,hrow⟩:=hzo.row ZO7;obtain⟨hl,hhl⟩:=Yn (zs.length);rw[hhl]at hv;subst hv;have Ai:=Yh hzm;have A1:=Yh (HRB.o.below bh);have Ad:=Yh (HK.o.below bh);have Ae:=YT Ac bh;have Aj:=YT HB bh;have A6:=Yh (HLA.o.same (SameS.below bh));obtain⟨y0,y1,y2,y3,y4,y5⟩:=cell6L Ad.o;clear x0 x1 x2 x3 x4 x5
   by_cases hl1:hl=1
   ·subst hl1
    obtain⟨z,hz⟩:∃z,zs=[z]:=List.length_eq_one_iff.1 hhl
    subst hz;have A3:=@Yh (F=(V,z.se,0)) (by rw[Ah.o,<-Ai.o];rfl);have Av:=Yh (hzs z Yt);have Ak:=Yh ((Z69 A6.o).2.2.2.2);have Ak:Hi (UnS S2 wh a1 o1 c1 c2 V):=Ak;obtain⟨hb,hof,hlo,hhb,-,A4⟩:=(hrow (fun _=>True) (fun _ _=>trivial)).cells Nat.one_pos;subst hlo;have A4:=A4 0 Nat.one_pos;obtain⟨zl,hzl⟩:=Yn (z.se.path.length);have AG:=Yh hzl;have s0:=A4 0 _ rfl;have s1:=A4 1 _ rfl;have s2:=A4 2 _ rfl;have s3:=A4 3 _ rfl;have s4:=A4 4 _ rfl;simp only[List.getElem_cons_zero,Nat.zero_mul,Nat.add_zero]at s0 s1 s2 s3 s4;rw[hzl]at s4;clear A4 hzl hhl hzm hzs hzo hrow bh;go_upto_region 9 with fail;have u0:=y0;have u1:=y1;clear y0 y1 y2 y3 y4 y5;refine GoG.start [(6,⟨lb,0,none⟩,.slice a1 tl c1),(6,⟨lb,1,none⟩,.slice o1 nl c2),(6,⟨hb,hof,none⟩,.bool z.se.meth),(6,⟨hb,hof+1,none⟩,.int .i64 z.se.typ),(6,⟨hb,hof+2,none⟩,.bool z.se.ptr),(6,⟨hb,hof+3,none⟩,.bool z.se.via),(6,⟨hb,hof+4,none⟩,.slice z.po zl z.pc)] (by kernel_rfl) ?_ ?_
    ·exact Kd (Kd (Kd (Kd (Kd (Kd (Kd (Kn)))))))
    refine GoG.fr 0 ?_;refine GoG.s2 1 0 [6] ?_;refine GoG.fr 2 ?_;refine GoG.fr 3 ?_;refine GoG.s5 4 2 [6] ?_;refine GoG.fr 5 ?_;obtain⟨s,hs⟩:=Yn (((((((((wh.setCell ⟨w1.heap.size,0,none⟩ (.slice a1 tl c1)).setCell ⟨w1.heap.size,1,none⟩ (.slice o1 nl c2)).setCell ⟨w1.heap.size,2,none⟩ (.bool z.se.meth)).setCell ⟨w1.heap.size,3,none⟩ (.int .i64 z.se.typ)).setCell ⟨w1.heap.size,4,none⟩ (.bool z.se.ptr)).setCell ⟨w1.heap.size,5,none⟩ (.bool z.se.via)).setCell ⟨w1.heap.size,6,none⟩ (.slice z.po zl z.pc)).setCell ⟨w1.heap.size,7,none⟩ (.int .i64 0)));have KS:=Yh (Zic A1.o hs);have BS:=@Yh (Below w.heap.size w s.drew) ((show Below w.heap.size w s from by rw[<-hs];exact Z91 Ae.o A8.o _ _ _ _ _ _ _ _).drew);have SS:=Yh ((show SameS S2 wh s from by rw[<-hs];exact ZHb AC.o _ _ _ _ _ _ _ _ _).trans (SameS.below ((Y8 s.heap.size s).drew)));obtain⟨⟨e0,e1,e2,e3,e4,e5,e6,e7⟩,f0,f1,f2,f3,f4,f5,f6,f7⟩:=ZT1 A1.o;refine GoG.on 6 fun K hK=>?_
    go_simp
    try rw[hs]
    refine hK.out _ _ (Ku (Ku (Ku (Ku (Ku (Ku (Ku (Kn)))))))) ?_;clear hK K hs u0 u1 s0 s1 s2 s3 s4 e0 e1 e2 e3 e4 e5 e6 e7 f0 f1 f2 f3 f4 f5 f6 f7
    try simp only[Act.put,YB,YC,YD,YE,YF,YG]
    refine GoG.done (by kernel_rfl) ?_ _;obtain⟨e0,e1,e2,e3,e4,e5,e6,e7⟩:=cell8 KS.o;have AH:=Yh (Zf (T:=Sb) (Ak.o.same SS.o) (fun b _ g=>Ar.o b g));have AI:=Yh ((Z7 Av.o.1 SS.o).sub (fun b _ g=>Ar.o b g));go_wp2_with fail
    try simp only[Exit.inBlock,Exit.then]
    refine bodyPost_ret (v:=.agg #[.slice a1 tl c1,.slice o1 nl c2,.bool z.se.meth,.int .i64 z.se.typ,.bool z.se.ptr,.bool z.se.via,.slice z.po zl z.pc,.int .i64 0]) ?_ rfl ?_
    ·simp[results,Tryz.results13,go_sem,e0,e1,e2,e3,e4,e5,e6,e7]
    rw[A3.o];exact⟨a1,o1,c1,c2,z.po,z.pc,by rw[<-As.o.1,<-As.o.2,<-AG.o],AH.o,AI.o,Av.o.2,BS.o⟩
   ·by_cases hl2:1<hl
    ·have A3:=Yh (show F=(noUn,noSe,9)from by
      rw[Ah.o,<-Ai.o]
      match zs,hhl with
      | [],h=>exact absurd hl2 (by rw[<-h];decide)
      | [_],h=>exact absurd hl2 (by rw[<-h];exact Nat.lt_irrefl 1)
      | _::_::_,_=>rfl)
     have AJ:((hl:Int)==1)=false:=by rw[Yc];omega
     have AK:decide ((1:Int)<(hl:Int))=true:=Yb (by omega);clear hhl hzm hzs hzo hrow bh;obtain⟨⟨e0,e1,e2,e3,e4,e5,e6,e7⟩,f0,f1,f2,f3,f4,f5,f6,f7⟩:=ZT1 A1.o;have BS:=Yh (Z91 (Ae.o) A8.o (.slice none 0 0) (.slice none 0 0) (.bool false) (.int .i64 0) (.bool false) (.bool false) (.slice none 0 0) (.int .i64 9));unfold set8 at BS;go_wp2_with fail
     try simp only[Exit.inBlock,Exit.then]
     refine bodyPost_ret (v:=.agg #[.slice none 0 0,.slice none 0 0,.bool false,.int .i64 0,.bool false,.bool false,.slice none 0 0,.int .i64 9]) ?_ rfl ?_
     ·simp[results,Tryz.results13,go_sem,e0,e1,e2,e3,e4,e5,e6,e7]
     rw[A3.o];exact⟨none,none,0,0,none,0,rfl,Zj0 _ _,.inl rfl,Yk _,BS.o⟩
    ·obtain rfl:hl=0:=by omega
     have hz:zs=[]:=Yp hhl;have Ab:=@Yh (F=if es=[]then(noUn,noSe,8)else loopL name (6-nn) (nextL ⟨V,es,ls,seen,0⟩)) (by rw[Ah.o,<-Ai.o,hz];rfl);clear hhl hzm hzs hzo hrow bh hz
     by_cases hel:el=0
     ·subst hel
      have A3:=@Yh (F=(noUn,noSe,8)) (by rw[Ab.o,if_pos (Yp At.o)]);obtain⟨⟨e0,e1,e2,e3,e4,e5,e6,e7⟩,f0,f1,f2,f3,f4,f5,f6,f7⟩:=ZT1 A1.o;have BS:=Yh (Z91 (Ae.o) A8.o (.slice none 0 0) (.slice none 0 0) (.bool false) (.int .i64 0) (.bool false) (.bool false) (.slice none 0 0) (.int .i64 8));unfold set8 at BS;go_wp2_with fail
      try simp only[Exit.inBlock,Exit.then]
      refine bodyPost_ret (v:=.agg #[.slice none 0 0,.slice none 0 0,.bool false,.int .i64 0,.bool false,.bool false,.slice none 0 0,.int .i64 8]) ?_ rfl ?_
      ·simp[results,Tryz.results13,go_sem,e0,e1,e2,e3,e4,e5,e6,e7]
      rw[A3.o];exact⟨none,none,0,0,none,0,rfl,Zj0 _ _,.inl rfl,Yk _,BS.o⟩
     ·have A7:=@Yh (F=loopL name (6-nn) (nextL ⟨V,es,ls,seen,0⟩)) (by rw[Ab.o,if_neg (fun g=>hel (by rw[<-At.o,g];rfl))])
      have AL:((el:Int)==0)=false:=by rw[Yc];omega
      by_cases hn6:nn<6
      ·have AM:(nn:Int)<6:=by omega
       have Aw:=Yh (Zu8 S2 nn V es ls seen _ wh (fun b hb=>(A9.o b).2 ⟨⟨Aq.o b (by have:=Ae.o.size;omega),by have:=A2.o;have:=Aj.o.size;omega⟩,by have:=Ad.o.lt;omega⟩) A6.o A0.o (by omega));have Ax:=Yh (fun h0=>ZQb A0.o h0);obtain⟨NL,hNL⟩:=Yn (nextL ⟨V,es,ls,seen,0⟩);rw[hNL]at Aw A7 Ax;clear hNL;go_wp2_with fail;refine Aw.o.mono ?_;rintro e9 wn ⟨val,rfl,hLV,bn⟩;have Af:=Yh hLV;obtain⟨a1',o1',c1',c2',eo',ec',wo',wcp',so',sc',ez',wz',hv,-⟩:=hLV;subst hv;have Al:=Yh (A1.o.below bn);have Ay:=Yh (Ad.o.below bn);have AN:=YT Aj bn;obtain⟨ws,hws⟩:=Yn (set6 wn lb (.slice a1' NL.u.types.length c1') (.slice o1' NL.u.named.length c2') (.slice eo' ez'.length ec') (.slice wo' wz'.length wcp') (.slice so' NL.seen.length sc') (.int .i64 NL.e));have AO:=Yh (Zf1 Ay.o hws);have Ag:=@Yh (LvA S2 ws _ NL) (by rw[<-hws];exact Af.o.same (Z51 AD.o wn _ _ _ _ _ _));have Am:=@Yh (BlockAt ws w1.heap.size _ _) (by rw[<-hws];unfold set6;exact(((((Al.o.other (show w1.heap.size≠lb from by have:=A5.o;have:=A2.o;omega) _ _).other (show w1.heap.size≠lb from by have:=A5.o;have:=A2.o;omega) _ _).other (show w1.heap.size≠lb from by have:=A5.o;have:=A2.o;omega) _ _).other (show w1.heap.size≠lb from by have:=A5.o;have:=A2.o;omega) _ _).other (show w1.heap.size≠lb from by have:=A5.o;have:=A2.o;omega) _ _).other (show w1.heap.size≠lb from by have:=A5.o;have:=A2.o;omega) _ _);have AP:=@Yh (Below w2.heap.size w2 ws) (by rw[<-hws];exact Zj AN.o A5.o.1 _ _ _ _ _ _);obtain⟨⟨g0,g1,g2,g3,g4,g5⟩,p0,p1,p2,p3,p4,p5⟩:=Zu Ay.o;unfold set6 at hws;clear bn y0 y1 y2 y3 y4 y5;go_wp2_with fail;clear g0 g1 g2 g3 g4 g5 p0 p1 p2 p3 p4 p5
       try rw[hws]
       go_roundw
       case rel=>exact⟨nn+1,NL,a1',o1',eo',wo',so',c1',c2',ec',wcp',sc',_,_,_,_,_,_,by omega,by go_num,Yh (by rw[A7.o];congr 1;omega),Ax,AO,Ag,Am,AP⟩
       case measure=>first|(simp[intOf];done)|(simp[intOf];omega)
      ·obtain rfl:nn=6:=by omega
       have AQ:=@Yh (loopL name (7-7) ⟨V,es,ls,seen,0⟩=F) (by rw[A7.o];rfl);have An:=@Yh (Lok 7 ⟨V,es,ls,seen,0⟩) (⟨A0.o.r,A0.o.es,A0.o.ls,A0.o.sp,A0.o.ed,A0.o.nd,A0.o.si,fun s hs=>Yj (A0.o.pl s hs) (by decide),A0.o.ml⟩);go_wp2_with fail;go_roundw
       case rel=>exact⟨7,⟨V,es,ls,seen,0⟩,a1,o1,eo,wo,so,c1,c2,ec,wcp,sc,tl,nl,el,wl,sl,0,Yk _,by go_num,AQ,Yh (fun _=>An.o),Ad,A6,A1,Aj⟩
       case measure=>first|(simp[intOf];done)|(simp[intOf];omega)
  ·obtain rfl:nn=7:=by omega
   have A3:=@Yh (F=(noUn,noSe,8)) (by rw[<-HFN.o];rfl);clear x0 x1 x2 x3 x4 x5;obtain⟨⟨e0,e1,e2,e3,e4,e5,e6,e7⟩,f0,f1,f2,f3,f4,f5,f6,f7⟩:=ZT1 HRB.o;have BS:=Yh (Z91 (Ac.o) A8.o (.slice none 0 0) (.slice none 0 0) (.bool false) (.int .i64 0) (.bool false) (.bool false) (.slice none 0 0) (.int .i64 8));unfold set8 at BS;go_wp2_with fail
   try simp only[Exit.inBlock,Exit.then]
   refine bodyPost_ret (v:=.agg #[.slice none 0 0,.slice none 0 0,.bool false,.int .i64 0,.bool false,.bool false,.slice none 0 0,.int .i64 8]) ?_ rfl ?_
   ·simp[results,Tryz.results13,go_sem,e0,e1,e2,e3,e4,e5,e6,e7]
   rw[A3.o];exact⟨none,none,0,0,none,0,rfl,Zj0 _ _,.inl rfl,Yk _,BS.o⟩
end Go.Proofs.YtdcajkagakikiaaGreatDoor
