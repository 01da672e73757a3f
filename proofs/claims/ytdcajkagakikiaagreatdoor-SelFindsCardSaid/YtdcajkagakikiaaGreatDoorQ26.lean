import Derived.Test.YtdcajkagakikiaaGreatDoorQ25
namespace Go.Proofs.YtdcajkagakikiaaGreatDoor
set_option maxHeartbeats 64000000
set_option linter.unusedSimpArgs false
set_option linter.unusedVariables false
open Go.RowKit
theorem ZG6{seen:List Int}{es:List Sp}{x:Sp}(h:(seen++es.map (·.typ)).Nodup)(hx:x.typ∈seen):addS seen es x=es:=by
 unfold addS;rw[if_neg,if_pos (List.contains_iff_mem.2 hx)];intro g;obtain⟨e,he,ht⟩:=List.any_eq_true.1 g;exact(List.nodup_append.1 h).2.2 _ hx _ (List.mem_map_of_mem he) (Yf ht).symm
theorem ZT4{seen:List Int}{es:List Sp}{x:Sp}(h:∃e∈es,e.typ=x.typ):addS seen es x=es.map (fun e=>if e.typ=x.typ then { e with many:=true } else e):=by
 obtain⟨e,he,ht⟩:=h;unfold addS;rw[if_pos (List.any_eq_true.2 ⟨e,he,Yb ht⟩)]
theorem Zk8{seen:List Int}{es:List Sp}{x:Sp}(h1:x.typ ∉ seen)(h2:∀e∈es,e.typ≠x.typ):addS seen es x=es++[x]:=by
 unfold addS;rw[if_neg (fun g=>by obtain⟨e,he,ht⟩:=List.any_eq_true.1 g;exact h2 e he (Yf ht)),if_neg (fun g=>h1 (List.contains_iff_mem.1 g))]
theorem Zfa(t:Int)(zs:List Ez):(zs.map (mkE t)).map (·.sp)=(zs.map (·.sp)).map (fun e=>if e.typ=t then { e with many:=true } else e):=by
 rw[List.map_map,List.map_map]
 apply List.map_congr_left
 intro z _
 show(mkE t z).sp=if z.sp.typ=t then { z.sp with many:=true } else z.sp
 unfold mkE
 split<;>rfl
set_option maxRecDepth 100000 in
theorem Z8b(Sb:Nat->Prop)(u:Un)(e0:Int)(ls:List Lk)(vl:Value)(seen:List Int)(Ls:List (Int×Nat))(mb wb n0:Nat)(w:World)(hSb:∀b,w.heap.size<=b->Sb b)(hK:WkAt Sb w wb u e0)(hR:LRow Sb w vl ls)(hM:IntMap w mb Ls)(hLs:Ls.map (·.1)=seen)(hr:rightU u=true)(hlf:∀l∈ls,inL u.types l.form=true)(hpl:∀l∈ls,l.sp.path.length<=n0)(hn0:n0<=900)(hsd:seen.Nodup)(hll:ls.length<=400) :
  Calls Tryz.prog 47 #[.pointer (some ⟨wb,0,none⟩),vl,.map (some mb)] w fun e w'=>∃v,e=.returned v/\PRow Sb w' v (nextT u ls seen)/\Below w.heap.size w w':=by
 obtain⟨lo0,cap0,zs0,rfl,hm,hG0,hc0,hz0⟩:=hR;obtain⟨ao,no,ac,nc,hkb,hU⟩:=hK;have e1:zs0.length=ls.length:=by rw[<-hm,Yg]
 obtain⟨n9,hn9⟩:=Yn (ls.length);have Bq:=Yh (e1.trans hn9);have Bb:=Yh hn9
 have Br:=Yh (show ∀k (h1:k<zs0.length) (h2:k<ls.length),ls[k]=lkZ zs0[k]/\inL u.types zs0[k].form=true/\zs0[k].ez.sp.path.length<=n0 from fun k h1 h2=>by
  have a1:ls[k]=lkZ zs0[k]:=by
   have:=congrArg (fun l=>l[k]?) hm
   simpa [h1,h2] using this.symm
  have a2:=hlf _ (Yq h2);have a3:=hpl _ (Yq h2);rw[a1]at a2 a3;exact⟨a1,a2,a3⟩)
 obtain⟨NT,hNT⟩:=Yn (nextT u ls seen);have Bs:=@Yh (NT=(allEmbs u ls).foldl (addS seen) []) (by rw[<-hNT];rfl);rw[hNT,hn9];rw[hn9]at hll;have Aa:=hr;rw[Z8,Yd]at Aa;have AI:=Yh Aa.1;have AO:=Yh hr;have H47:=Yh hlf;have Bc:=Yh hsd;have Bt:=Yh hSb;have Bu:=Yh hG0;have Bv:=Yh hz0;have Bd:=Yh hM;have AJ:=Yh hLs;have Bw:=Zx1 Aa.1;obtain⟨ab,aof,rfl,hab,hac2⟩:=hU.o.types.cells (by omega);have Be:=Yh hac2;have A9:=Yh hab;obtain⟨L,hL⟩:=Yn (u.types.length);have HL:=Yh hL;rw[hL]at Bw hkb;have AK:=Yh hkb;obtain⟨w1,h1⟩:=Yn (w.alloc (.map #[] 0));have q1:Below w.heap.size w w1:=by rw[<-h1];exact(Y8 _ _).alloc (Yk _) _
 have Q1:=Yh q1;have Z1:=@Yh (w1.heap.size=w.heap.size+1) (by rw[<-h1];simp);have Bx:=@Yh (IntMap w1 w.heap.size []) (by rw[<-h1];exact Zk5 w);have By:=@Yh (NxI w1.heap.size w.heap.size w1 (.slice none 0 0) []) (⟨ZY0 _ _,fun z hz=>absurd hz (by simp),Bx.o⟩);have Bz:=@run_makeMap Tryz.prog;obtain⟨i0,hi,hz0',hz1,hz2⟩:=info_parts ZFa;clear hr hm hlf hpl hsd Aa hn9 e1 hNT hac2 hab hG0 hz0 hU hL hSb hM hLs hkb q1;go_enter Tryz.func47,Tryz.ntmps47;go_wp2_with fail
 try rw[h1]
 clear h1 Bz;go_loopw [7,23] (fun v i wr=>∃(k:Nat) (zs:List Ez),k<=n9/\i=.int .i64 k/\Hi (NxI w1.heap.size w.heap.size wr v zs)/\Hi (zs.map (·.sp)=(allEmbs u (ls.take k)).foldl (addS seen) [])/\Hi (Below w.heap.size w wr)) (fun _ i _=>n9-(intOf i).toNat)
 case atStart=>exact⟨0,[],Yl _,rfl,By,Yh (by rw[List.take_zero];rfl),Q1⟩
 case round =>
  obtain⟨k,zs,hk,rfl,HNI,HZ,HB⟩:=hrel;obtain⟨lo1,cap1,hv1,-,-,-⟩:=HNI.o.own.row Z08;obtain⟨m1,hm1⟩:=Yn (zs.length);have AP:=Yh hm1;rw[hm1]at hv1;subst hv1;clear hm1
  by_cases hkn:k<n9
  ·have Ag:k<zs0.length:=by rw[Bq.o];exact hkn
   have AQ:k<ls.length:=by rw[Bb.o];exact hkn
   obtain⟨b,off,rfl,hb,-,hc⟩:=Bu.o.cells (by omega);have hc:=hc k Ag;obtain⟨d1,d3,d4⟩:=Br.o k Ag AQ;have AR:=Bv.o _ (Yq Ag);obtain⟨y,hy⟩:=Yn (zs0[k]);rw[hy]at hc AR d1 d3 d4;obtain⟨fm,hfm⟩:=Yn (y.form);rw[hfm]at d3;unfold inL at d3;have d3:=Yf d3;obtain⟨zf,rfl⟩:∃zf:Nat,fm=(zf:Int):=⟨fm.toNat,by omega⟩
   have Ay:zf<u.types.length:=by omega
   obtain⟨xw,xwc,xk,xkc,a0',a1',a2',a3',a4',hwc9,hkc9,hxc⟩:=Be.o zf Ay;have AS:=Yh (fun h6=>ZB0 AI.o Ay h6);have Bf:=Yh (fun kk=>Zd7 AO.o Ay y.ez.sp kk)
   have AT:=Yh (show allEmbs u (ls.take (k+1))=allEmbs u (ls.take k)++(if u.types[zf].kind=6 then embsT u y.ez.sp 0 (u.types[zf].words.zip u.types[zf].kids)else[])by
    rw[ZU7 AQ,d1];unfold lkZ;simp only;rw[hfm,Z80 Ay])
   have Bg:=Yh (fun j=>Zu1 AI.o (by omega) Ay j);obtain⟨x,hx⟩:=Yn (u.types[zf]);rw[hx]at a0' a1' a2' a3' a4' hwc9 hkc9 hxc AS Bf AT Bg;have HX:=Yh hxc;have BB:=Yh AR.1.1;have AU:=Yh d4;obtain⟨m,hm⟩:=Yn (x.words.length);obtain⟨kl,hkl⟩:=Yn (x.kids.length);obtain⟨pl,hpl⟩:=Yn (y.ez.sp.path.length);obtain⟨ml,hml⟩:=Yn (y.ms.length);have HM:=Yh hm;have BC:m<=18:=by have:=hxc.ok.wl;omega
   have BD:=Yh hkl;have Ah:=Yh hpl;rw[hm]at a3' hwc9;rw[hkl]at a4' hkc9;have r0:=(HB.o.cell (p:=⟨b,off+k*6+0,none⟩) hb).trans (hc 0 _ rfl);have r1:=(HB.o.cell (p:=⟨b,off+k*6+1,none⟩) hb).trans (hc 1 _ rfl);have r2:=(HB.o.cell (p:=⟨b,off+k*6+2,none⟩) hb).trans (hc 2 _ rfl);have r3:=(HB.o.cell (p:=⟨b,off+k*6+3,none⟩) hb).trans (hc 3 _ rfl);have r4:=(HB.o.cell (p:=⟨b,off+k*6+4,none⟩) hb).trans (hc 4 _ rfl);have r5:=(HB.o.cell (p:=⟨b,off+k*6+5,none⟩) hb).trans (hc 5 _ rfl);rw[Nat.add_zero]at r0;rw[hpl]at r2;rw[hfm]at r4;rw[hml]at r5;obtain⟨wa,ha,ka,qa,za⟩:=YA wr #[.int .i64 y.ez.sp.typ,.bool y.ez.sp.via,.slice y.ez.po pl y.ez.pc,.bool y.ez.sp.many,.int .i64 zf,.slice y.mo ml y.mc] 103;have KA:=Yh ka;have QA:=Yh qa;have BA:=YT HB qa;have Bh:=Yh (HNI.o.kept qa);have BE:=Yh (HNI.o.box ha);have y0:=(BA.o.cell (p:=⟨wb,0,none⟩) AK.o.lt).trans (cell3m AK.o).1;have fo:=(cell6L ka).2.2.2.2.1;have t0:=(BA.o.cell (p:=⟨ab,aof+zf*5,none⟩) A9.o).trans a0';have t1:=(BA.o.cell (p:=⟨ab,aof+zf*5+1,none⟩) A9.o).trans a1';have t2:=(BA.o.cell (p:=⟨ab,aof+zf*5+2,none⟩) A9.o).trans a2';have t3:=(BA.o.cell (p:=⟨ab,aof+zf*5+3,none⟩) A9.o).trans a3';have t4:=(BA.o.cell (p:=⟨ab,aof+zf*5+4,none⟩) A9.o).trans a4';have C3:(k:Int)<(n9:Int):=by omega
   have C4:(zf:Int)<(L:Int):=by rw[<-HL.o];omega
   have AL:=@Yh (w1.heap.size<=wr.heap.size/\wr.heap.size+1=wa.heap.size) (⟨by have:=Z1.o;have:=HNI.o.mp.lt;omega,za.symm⟩);clear hc d1 d3 d4 AR hy hfm hx hxc a0' a1' a2' a3' a4' hm hkl hpl hml ka qa za hb Ag AQ Ay;go_upto_region 6 with fail;clear r0 r1 r2 r3 r4 r5 ha;refine GoG.start [(13,⟨wb,0,none⟩,.slice (some ⟨ab,aof,none⟩) L ac),(13,⟨wr.heap.size,4,none⟩,.int .i64 zf),(13,⟨ab,aof+zf*5,none⟩,.int .i64 x.kind),(13,⟨ab,aof+zf*5+1,none⟩,.string x.name),(13,⟨ab,aof+zf*5+2,none⟩,.int .i64 x.n),(13,⟨ab,aof+zf*5+3,none⟩,.slice xw m xwc),(13,⟨ab,aof+zf*5+4,none⟩,.slice xk kl xkc)] (by kernel_rfl) ?_ ?_
   ·exact Kd (Kd (Kd (Kd (Kd (Kd (Kd (Kn)))))))
   refine GoG.fr 0 ?_;refine GoG.fr 1 ?_;refine GoG.fr 2 ?_;refine GoG.fr 3 ?_;refine GoG.s1 4 0 [13] ?_;refine GoG.fr 5 ?_;refine GoG.s1 6 1 [13] ?_;refine GoG.fr 7 ?_;refine GoG.s5 8 2 [13] ?_;obtain⟨w5,h5,k5,q5,z5⟩:=YA wa.drew #[.int .i64 0,.string ⟨#[]⟩,.int .i64 0,.slice none 0 0,.slice none 0 0] 50;have K5:=@Yh (BlockAt w5 wa.heap.size _ _) (k5);have B5:=Yh (((Y8 wa.heap.size wa).drew).trans q5);have N5:=Yh (Yk wa.heap.size);clear k5 q5 z5;refine GoG.on 9 fun K hK=>?_
   go_simp
   try rw[h5]
   refine hK.out _ _ (Kc (YR B5.o y0) (Kc (YR B5.o fo) (Kc (YR B5.o t0) (Kc (YR B5.o t1) (Kc (YR B5.o t2) (Kc (YR B5.o t3) (Kc (YR B5.o t4) (Kn)))))))) ?_;clear hK K
   try simp only[Act.put,YB,YC,YD,YE,YF,YG]
   obtain⟨w6,h6⟩:=Yn ((((((w5.setCell ⟨wa.heap.size,0,none⟩ (.int .i64 x.kind)).setCell ⟨wa.heap.size,1,none⟩ (.string x.name)).setCell ⟨wa.heap.size,2,none⟩ (.int .i64 x.n)).setCell ⟨wa.heap.size,3,none⟩ (.slice xw m xwc)).setCell ⟨wa.heap.size,4,none⟩ (.slice xk kl xkc)));have K6:=Yh (Z70 K5.o h6);have B6:=@Yh (Below wa.heap.size wa w6) (by rw[<-h6];exact Zh B5.o N5.o _ _ _ _ _);obtain⟨⟨g0,g1,g2,g3,g4⟩,p0,p1,p2,p3,p4⟩:=ZD K5.o;refine GoG.on 10 fun K hK=>?_
   go_simp
   try rw[h6]
   refine hK.out _ _ (Kc (YR B6.o y0) (Kc (YR B6.o fo) (Kc (YR B6.o t0) (Kc (YR B6.o t1) (Kc (YR B6.o t2) (Kc (YR B6.o t3) (Kc (YR B6.o t4) (Kn)))))))) ?_;clear y0 fo t0 t1 t2 t3 t4;clear hK K h5 h6 g0 g1 g2 g3 g4 p0 p1 p2 p3 p4
   try simp only[Act.put,YB,YC,YD,YE,YF,YG]
   refine GoG.done (by kernel_rfl) ?_ _;have R6:=@Yh (Below wr.heap.size wr w6) (YU QA B6.o);have Bi:=Yh (Bh.o.kept B6.o);have BF:=Yh (BE.o.kept B6.o);have BG:=@Yh (BxI w6 (.slice lo1 m1 cap1) wa.heap.size #[.int .i64 x.kind,.string x.name,.int .i64 x.n,.slice xw m xwc,.slice xk kl xkc] 50) (⟨K6.o,Bh.o.own.not (.inr (Yk _))⟩);have d0:=(cell5 K6.o).1;have d3:=(cell5 K6.o).2.2.2.1
   by_cases h6:x.kind=6
   case neg =>
    have BH:(x.kind != 6)=true:=by rw[YJ];exact h6
    have AV:=@Yh (zs.map (·.sp)=(allEmbs u (ls.take (k+1))).foldl (addS seen) []) (by rw[AT.o,if_neg h6,List.append_nil];exact HZ.o);have BI:=YT HB R6.o;clear h6;go_wp2_with fail;go_roundw
    case rel=>exact⟨k+1,zs,by omega,by go_num,Bi,AV,BI⟩
    case measure=>first|(simp[intOf];done)|(simp[intOf];omega)
   have BH:(x.kind != 6)=false:=by rw[bne_eq_false_iff_eq];exact h6
   have BJ:=Yh (AS.o h6);have H6:=Yh h6;clear h6;go_wp2_with fail;clear d0 d3;go_loopw [7,42] (fun v2 i2 w2'=>∃(kk:Nat) (zs2:List Ez),kk<=m/\i2=.int .i64 kk/\Hi (NxI w1.heap.size w.heap.size w2' v2 zs2)/\Hi (zs2.map (·.sp)=(allEmbs u (ls.take k)++inner u y.ez.sp x kk).foldl (addS seen) [])/\Hi (BxI w2' v2 wr.heap.size #[.int .i64 y.ez.sp.typ,.bool y.ez.sp.via,.slice y.ez.po pl y.ez.pc,.bool y.ez.sp.many,.int .i64 zf,.slice y.mo ml y.mc] 103)/\Hi (BxI w2' v2 wa.heap.size #[.int .i64 x.kind,.string x.name,.int .i64 x.n,.slice xw m xwc,.slice xk kl xkc] 50)/\Hi (Below w.heap.size w w2')) (fun _ i2 _=>m-(intOf i2).toNat)
   case atStart=>exact⟨0,zs,Yl _,rfl,Bi,Yh (by rw[Zc5,List.append_nil];exact HZ.o),BF,BG,Yh (YU HB R6.o)⟩
   case round =>
    rename World=>wi
    obtain⟨kk,zs2,hkk,rfl,HN2,HZ2,HX2,HT2,HB2⟩:=hrel;obtain⟨lo2,cap2,hv2,hcap2,-,-⟩:=HN2.o.own.row Z08;obtain⟨m2,hm2⟩:=Yn (zs2.length);have A4:=Yh hm2;rw[hm2]at hv2 hcap2;subst hv2;clear hm2
    by_cases hkm:kk<m
    ·have Ai:kk<x.words.length:=by rw[HM.o];exact hkm
     obtain⟨s1,s2,s3⟩:=BJ.o;have Az:kk<x.kids.length:=by rw[<-s1];exact Ai
     obtain⟨xb,xof,rfl,hxb,hxcl⟩:=HX.o.words.cells (by omega);have hw:=hxcl kk Ai;rw[Z3 Ai]at hw;obtain⟨wd,hwd⟩:=Yn (x.words[kk]);rw[hwd]at hw;have AW:0<wd.size:=by rw[<-hwd];exact s3 _ (Yq Ai)
     have BK:=(HB2.o.cell (p:=⟨xb,xof+kk,none⟩) hxb).trans hw;have BL:(kk:Int)<(m:Int):=by omega
     obtain⟨kb,kof,rfl,hkb,hkcl⟩:=HX.o.kids.cells (by omega);have A6:=hkcl kk Az;have AA:=Bg.o kk;rw[Z3 Az]at A6 AA;obtain⟨kq,hkq⟩:=Yn (x.kids[kk]);rw[hkq]at A6 AA;have A2:=ZG4 (u:=u) (s:=y.ez.sp) H6.o Ai Az hwd hkq
     by_cases h43:byteAt wd 0=43
     ·have A3:=@Yh (inner u y.ez.sp x (kk+1)=inner u y.ez.sp x kk++[downS u y.ez.sp kk kq]) (by rw[A2,if_pos (by unfold embB;exact Yb ⟨AW,h43⟩)])
      have h2:(wd[0].toNat:Int)=43:=by rw[<-Zm AW];exact h43
      have BM:(kk:Int)<(kl:Int):=by rw[BD.o]at Az;omega
      have Ab:=(HB2.o.cell (p:=⟨kb,kof+kk,none⟩) hkb).trans A6;unfold inL at AA;have AX:=Yf AA;obtain⟨zk,rfl⟩:∃zk:Nat,kq=(zk:Int):=⟨kq.toNat,by omega⟩
      have HZK:=@Yh (zk<u.types.length) (by omega)
      have Bj:∀a∈allEmbs u (ls.take k)++inner u y.ez.sp x kk,inL u.types a.typ=true:=fun a ha=>by
       rcases Yz.1 ha with g|g
       ·exact all_in AO.o (fun l hl=>H47.o l (List.mem_of_mem_take hl)) a g
       ·exact Bf.o kk a g
      have BO:=ZN7 (u:=u) AO.o Bc.o Bj;rw[<-HZ2.o,Yg,A4.o]at BO;have AM:=@Yh ((seen++(zs2.map (·.sp)).map (·.typ)).Nodup) (by rw[HZ2.o];exact ZD3 _ [] (by simpa using Bc.o));have Aj:=fun W (hb:Below wi.heap.size wi W)=>ZX4 y.ez.po y.ez.pc y.ez.sp.path (kk:Int) W ((BB.o.same (SameS.below (YU HB2 hb))).o) (by have:=AU.o;omega)
      rw[Ah.o]at Aj;have Bk:=Yh Aj;have AB:=@Yh (w1.heap.size<=wi.heap.size) (by have:=HN2.o.mp.lt;have:=Z1.o;omega);clear h43 A2 AA AX hwd hw hxcl hxb hkcl hkb A6 hkq s1 s2 s3 Ai Az Aj Bj;go_upto_region 12 with fail;clear BK;have d4:=(cell5 HT2.o.1).2.2.2.2;obtain⟨-,e1,e2,e3,-,-⟩:=cell6L HX2.o.1;go_cut [14] (fun v9 wx=>∃xb9 po pc,v9=.pointer (some ⟨xb9,0,none⟩)/\Hi (BlockAt wx xb9 #[.int .i64 zk,.bool y.ez.sp.via,.slice po (pl+1) pc,.bool y.ez.sp.many] 100)/\Hi (IRowS (fun b=>wi.heap.size<=b/\b≠xb9) wx po (y.ez.sp.path++[(kk:Int)]))/\Hi (pl+1<=pc)/\Hi (Below wi.heap.size wi wx)/\Hi (wi.heap.size<=xb9))
      case first =>
       refine GoG.start [(19,⟨wa.heap.size,4,none⟩,.slice (some ⟨kb,kof,none⟩) kl xkc),(19,⟨kb,kof+kk,none⟩,.int .i64 zk),(19,⟨wr.heap.size,1,none⟩,.bool y.ez.sp.via),(19,⟨wr.heap.size,2,none⟩,.slice y.ez.po pl y.ez.pc),(19,⟨wr.heap.size,3,none⟩,.bool y.ez.sp.many)] (by kernel_rfl) ?_ ?_
       ·exact Kd (Kd (Kd (Kd (Kd (Kn)))))
       refine GoG.fr 0 ?_;refine GoG.s1 1 0 [19] ?_;refine GoG.fr 2 ?_;refine GoG.fr 3 ?_;refine GoG.s1 4 1 [19] ?_;refine GoG.fr 5 ?_;refine GoG.fr 6 ?_;refine GoG.s1 7 2 [19] ?_;refine GoG.fr 8 ?_;refine GoG.fr 9 ?_;refine GoG.s1 10 3 [19] ?_;refine GoG.fr 11 ?_;refine GoG.fr 13 ?_;refine GoG.fr 14 ?_;refine GoG.s1 15 4 [19] ?_;refine GoG.two (i:=12) (j:=17) rfl rfl (by kernel_rfl) (fun K hK=>?_) (fun K hK=>?_)
       ·go_simp
        refine(Bk.o _ (Y8 _ _).drew).mono ?_;rintro e9 wv ⟨pv,rfl,hO,bq⟩;have BV:=Yh (((Y8 wi.heap.size wi).drew).trans bq);obtain⟨po,pc,hv,hpl,hpb,hpr⟩:=(ZT0 hO).row ZW;have el:(y.ez.sp.path++[(kk:Int)]).length=pl+1:=by rw[Ye,Ah.o];rfl
        rw[el]at hv hpl;subst hv;have PL:=Yh hpl;obtain⟨wn,hwn,kn,qn,zn⟩:=YA wv #[.int .i64 0,.bool false,.slice none 0 0,.bool false] 100;have KN:=Yh kn;have BN:=YT BV qn;have NB:=Yh BV.o.size
        have PI:=Yh (show IRowS (fun b=>wi.heap.size<=b/\b≠wv.heap.size) wn po (y.ez.sp.path++[(kk:Int)])from by
         refine Z7 ?_ (SameS.below qn)
         rcases ZX (hpr (fun b=>wi.heap.size<=b) (fun b hb=>hb))with g|⟨b,off,e,hb,hS,hc⟩
         ·exact .inl g
         ·exact .inr ⟨b,off,e,hb,⟨hS,Nat.ne_of_lt hb⟩,hc⟩)
        clear hO bq hpl hpb hpr el kn qn zn;refine hK.out _ _ (Kc (YR BV.o d4) (Kc (YR BV.o Ab) (Kc (YR BV.o e1) (Kc (YR BV.o e2) (Kc (YR BV.o e3) (Kn)))))) ?_;clear hK K;refine GoG.fr 16 ?_;refine GoG.on 17 fun K hK=>?_
        go_simp
        try rw[hwn]
        refine hK.out _ _ (Kc (YR BN.o d4) (Kc (YR BN.o Ab) (Kc (YR BN.o e1) (Kc (YR BN.o e2) (Kc (YR BN.o e3) (Kn)))))) ?_;clear hK K hwn
        try simp only[Act.put,YB,YC,YD,YE,YF,YG]
        obtain⟨s,hs⟩:=Yn (((((wn.setCell ⟨wv.heap.size,0,none⟩ (.int .i64 zk)).setCell ⟨wv.heap.size,1,none⟩ (.bool y.ez.sp.via)).setCell ⟨wv.heap.size,2,none⟩ (.slice po (pl+1) pc)).setCell ⟨wv.heap.size,3,none⟩ (.bool y.ez.sp.many)));have KS:=Yh (ZJ1 KN.o hs);have BS:=@Yh (Below wi.heap.size wi s) (by rw[<-hs];exact(((BN.o.setCell NB.o _).setCell NB.o _).setCell NB.o _).setCell NB.o _);have PS:=@Yh (IRowS (fun b=>wi.heap.size<=b/\b≠wv.heap.size) s po (y.ez.sp.path++[(kk:Int)])) (Z7 PI.o (by rw[<-hs];exact(((SameS.set (fun g=>g.2 rfl) rfl).trans (SameS.set (fun g=>g.2 rfl) rfl)).trans (SameS.set (fun g=>g.2 rfl) rfl)).trans (SameS.set (fun g=>g.2 rfl) rfl)));obtain⟨⟨g0,g1,g2,g3⟩,p0,p1,p2,p3⟩:=ZI1 KN.o;refine GoG.on 18 fun K hK=>?_
        go_simp
        try rw[hs]
        clear g0 g1 g2 g3 p0 p1 p2 p3;refine hK.out _ _ (Kc (YR BS.o d4) (Kc (YR BS.o Ab) (Kc (YR BS.o e1) (Kc (YR BS.o e2) (Kc (YR BS.o e3) (Kn)))))) ?_;clear hK K hs d4 Ab e1 e2 e3
        try simp only[Act.put,YB,YC,YD,YE,YF,YG]
        refine GoG.done (by kernel_rfl) ?_ _;go_wp2_with fail;go_meet
        case rel=>exact⟨wv.heap.size,po,pc,rfl,KS,PS,PL,BS,NB⟩
       ·obtain⟨wn,hwn⟩:∃wn,wi.drew.alloc (.cells #[.int .i64 0,.bool false,.slice none 0 0,.bool false] 100)=wn:=⟨_,rfl⟩
        obtain⟨kn,qn,zn⟩:=Za hwn;have BP:=@Yh (BlockAt wn wi.heap.size _ _) (kn);have Ak:=Yh (((Y8 wi.heap.size wi).drew).trans qn);have NB:=Yh (Yk wi.heap.size);have ZN:=@Yh (wn.heap.size=wi.heap.size+1) (zn);go_simp
        try rw[hwn]
        refine hK.out _ _ (Kc (YR Ak.o d4) (Kc (YR Ak.o Ab) (Kc (YR Ak.o e1) (Kc (YR Ak.o e2) (Kc (YR Ak.o e3) (Kn)))))) ?_;clear hK K qn kn zn hwn
        try simp only[Act.put,YB,YC,YD,YE,YF,YG]
        refine GoG.on 12 fun K hK=>?_
        go_simp;refine(Bk.o _ Ak.o).mono ?_;rintro e9 wv ⟨pv,rfl,hO,bq⟩;obtain⟨po,pc,hv,hpl,hpb,hpr⟩:=(ZT0 hO).row ZW;have el:(y.ez.sp.path++[(kk:Int)]).length=pl+1:=by rw[Ye,Ah.o];rfl
        rw[el]at hv hpl;subst hv;have PL:=Yh hpl;have KN:=Yh (BP.o.below bq);have BN:=YT Ak bq;have PI:=@Yh (IRowS (fun b=>wi.heap.size<=b/\b≠wi.heap.size) wv po (y.ez.sp.path++[(kk:Int)])) (ZX (hpr (fun b=>wi.heap.size<=b/\b≠wi.heap.size) (fun b hb=>by have:=ZN.o;have:=NB.o;omega)));clear hO bq hpl hpb hpr el;refine hK.out _ _ (Kc (YR BN.o d4) (Kc (YR BN.o Ab) (Kc (YR BN.o e1) (Kc (YR BN.o e2) (Kc (YR BN.o e3) (Kn)))))) ?_;clear hK K;refine GoG.fr 16 ?_;obtain⟨s,hs⟩:=Yn (((((wv.setCell ⟨wi.heap.size,0,none⟩ (.int .i64 zk)).setCell ⟨wi.heap.size,1,none⟩ (.bool y.ez.sp.via)).setCell ⟨wi.heap.size,2,none⟩ (.slice po (pl+1) pc)).setCell ⟨wi.heap.size,3,none⟩ (.bool y.ez.sp.many)));have KS:=Yh (ZJ1 KN.o hs);have BS:=@Yh (Below wi.heap.size wi s) (by rw[<-hs];exact(((BN.o.setCell NB.o _).setCell NB.o _).setCell NB.o _).setCell NB.o _);have PS:=@Yh (IRowS (fun b=>wi.heap.size<=b/\b≠wi.heap.size) s po (y.ez.sp.path++[(kk:Int)])) (Z7 PI.o (by rw[<-hs];exact(((SameS.set (fun g=>g.2 rfl) rfl).trans (SameS.set (fun g=>g.2 rfl) rfl)).trans (SameS.set (fun g=>g.2 rfl) rfl)).trans (SameS.set (fun g=>g.2 rfl) rfl)));obtain⟨⟨g0,g1,g2,g3⟩,p0,p1,p2,p3⟩:=ZI1 KN.o;refine GoG.on 18 fun K hK=>?_
        go_simp
        try rw[hs]
        clear g0 g1 g2 g3 p0 p1 p2 p3;refine hK.out _ _ (Kc (YR BS.o d4) (Kc (YR BS.o Ab) (Kc (YR BS.o e1) (Kc (YR BS.o e2) (Kc (YR BS.o e3) (Kn)))))) ?_;clear hK K hs d4 Ab e1 e2 e3
        try simp only[Act.put,YB,YC,YD,YE,YF,YG]
        refine GoG.done (by kernel_rfl) ?_ _;go_wp2_with fail;go_meet
        case rel=>exact⟨wi.heap.size,po,pc,rfl,KS,PS,PL,BS,NB⟩
      case rest =>
       obtain⟨xb9,po,pc,rfl,KB9,HPI,HPC,HB9,NB9⟩:=hcut;clear d4 e1 e2 e3 Ab;have Al:=@Yh (Below w.heap.size w wc) (YU HB2 HB9.o);obtain⟨vw,vwc,vk,vkc,b0',b1',b2',b3',Ac,hvw,hvk,hvc⟩:=Be.o zk HZK.o;have Bl:=Yh (fun h1=>ZD2 AI.o HZK.o h1);have Bm:=Yh (Zu1 AI.o (by have:=HZK.o;omega) HZK.o 0);have Am:=Yh (Z80 HZK.o);obtain⟨tv,htv⟩:=Yn (u.types[zk]'HZK.o);rw[htv]at b0' b1' b2' b3' Ac hvw hvk hvc Bl Am Bm;clear htv;obtain⟨mv,hmv⟩:=Yn (tv.words.length);rw[hmv]at b3';have b0:=(Al.o.cell (p:=⟨ab,aof+zk*5,none⟩) A9.o).trans b0';have b1:=(Al.o.cell (p:=⟨ab,aof+zk*5+1,none⟩) A9.o).trans b1';have b2:=(Al.o.cell (p:=⟨ab,aof+zk*5+2,none⟩) A9.o).trans b2';have b3:=(Al.o.cell (p:=⟨ab,aof+zk*5+3,none⟩) A9.o).trans b3';have Ac:=(Al.o.cell (p:=⟨ab,aof+zk*5+4,none⟩) A9.o).trans Ac;have y0:=(Al.o.cell (p:=⟨wb,0,none⟩) AK.o.lt).trans (cell3m AK.o).1;have AC:=(cell4 KB9.o).1;have BQ:(zk:Int)<(L:Int):=by rw[<-HL.o];have:=HZK.o;omega
       have C5:=@Yh (xb9<wc.heap.size) (KB9.o.lt);clear b0' b1' b2' b3' hmv hvw hvk
       by_cases h1:tv.kind=1
       focus
        have Ag:=Bl.o h1;rw[Ag]at Ac;obtain⟨vb,vof,rfl,hvb,hvcl⟩:=hvc.kids.cells (by omega);have AN:=hvcl 0 (by omega);rw[Nat.add_zero]at AN;obtain⟨q1,hq1'⟩:=Yn (tv.kids.getD 0 0);rw[hq1']at AN;have AY:=Bm.o;rw[hq1']at AY;have AZ:=Yh AY;have B0:=@Yh (downS u y.ez.sp kk (zk:Int)=⟨q1,true,y.ez.sp.path++[(kk:Int)],y.ez.sp.many⟩) (by unfold downS;rw[Am.o,if_pos h1,hq1']);have BR:(tv.kind==1)=true:=by rw[YK];exact h1
        have q0:=(Al.o.cell (p:=⟨vb,vof,none⟩) hvb).trans AN;clear h1 Ag hvb hvcl AN hq1' AY;have b4:=Ac;clear Ac hvc;go_upto_region 13 with fail;refine GoG.start [(13,⟨wb,0,none⟩,.slice (some ⟨ab,aof,none⟩) L ac),(13,⟨xb9,0,none⟩,.int .i64 zk),(13,⟨ab,aof+zk*5,none⟩,.int .i64 tv.kind),(13,⟨ab,aof+zk*5+1,none⟩,.string tv.name),(13,⟨ab,aof+zk*5+2,none⟩,.int .i64 tv.n),(13,⟨ab,aof+zk*5+3,none⟩,.slice vw mv vwc),(13,⟨ab,aof+zk*5+4,none⟩,.slice (some ⟨vb,vof,none⟩) 1 vkc)] (by kernel_rfl) ?_ ?_
        ·exact Kd (Kd (Kd (Kd (Kd (Kd (Kd (Kn)))))))
       rotate_left
       focus
        have B0:=@Yh (downS u y.ez.sp kk (zk:Int)=⟨(zk:Int),y.ez.sp.via,y.ez.sp.path++[(kk:Int)],y.ez.sp.many⟩) (by unfold downS;rw[Am.o,if_neg h1]);have BR:(tv.kind==1)=false:=by rw[Yc];exact h1
        obtain⟨kv,hkv⟩:=Yn (tv.kids.length);rw[hkv]at Ac;have AZ:=@Yh (inL u.types (zk:Int)=true) (by unfold inL;exact Yb (by have:=HZK.o;omega));clear h1 hkv;have b4:=Ac;clear Ac hvc;go_upto_region 13 with fail;refine GoG.start [(13,⟨wb,0,none⟩,.slice (some ⟨ab,aof,none⟩) L ac),(13,⟨xb9,0,none⟩,.int .i64 zk),(13,⟨ab,aof+zk*5,none⟩,.int .i64 tv.kind),(13,⟨ab,aof+zk*5+1,none⟩,.string tv.name),(13,⟨ab,aof+zk*5+2,none⟩,.int .i64 tv.n),(13,⟨ab,aof+zk*5+3,none⟩,.slice vw mv vwc),(13,⟨ab,aof+zk*5+4,none⟩,.slice vk kv vkc)] (by kernel_rfl) ?_ ?_
        ·exact Kd (Kd (Kd (Kd (Kd (Kd (Kd (Kn)))))))
       rotate_left
       all_goals
        refine GoG.fr 0 ?_;refine GoG.fr 1 ?_;refine GoG.fr 2 ?_;refine GoG.fr 3 ?_;refine GoG.s1 4 0 [13] ?_;refine GoG.fr 5 ?_;refine GoG.s1 6 1 [13] ?_;refine GoG.fr 7 ?_
       ·refine GoG.take (i:=8) (v:=?_) [13] rfl (by kernel_rfl) (by kernel_rfl) (by kernel_rfl) (by kernel_rfl) (by kernel_rfl) (by kernel_rfl) (fun _ _ _ h=>h) (.inl ⟨by rfl,fun WW hS=>?_⟩) ?_
        rotate_left
        ·have g0:WW.cell? ⟨ab,aof+zk*5,none⟩=some (.int .i64 tv.kind):=hS (13,⟨ab,aof+zk*5,none⟩,.int .i64 tv.kind) (by simp) (by simp)
         have g1:WW.cell? ⟨ab,aof+zk*5+1,none⟩=some (.string tv.name):=hS (13,⟨ab,aof+zk*5+1,none⟩,.string tv.name) (by simp) (by simp);have g2:WW.cell? ⟨ab,aof+zk*5+2,none⟩=some (.int .i64 tv.n):=hS (13,⟨ab,aof+zk*5+2,none⟩,.int .i64 tv.n) (by simp) (by simp);have g3:WW.cell? ⟨ab,aof+zk*5+3,none⟩=some (.slice vw mv vwc):=hS (13,⟨ab,aof+zk*5+3,none⟩,.slice vw mv vwc) (by simp) (by simp);have g4:WW.cell? ⟨ab,aof+zk*5+4,none⟩=some (.slice (some ⟨vb,vof,none⟩) 1 vkc):=hS (13,⟨ab,aof+zk*5+4,none⟩,.slice (some ⟨vb,vof,none⟩) 1 vkc) (by simp) (by simp);clear hS;go_simp;try (with_reducible rfl)
        try simp only[Act.put,YB,YC,YD,YE,YF,YG]
        obtain⟨wf5,h5,k5,q5,z5⟩:=YA wc.drew #[.int .i64 0,.string ⟨#[]⟩,.int .i64 0,.slice none 0 0,.slice none 0 0] 50;have K5:=@Yh (BlockAt wf5 wc.heap.size _ _) (k5);have B5:=Yh (((Y8 wc.heap.size wc).drew).trans q5);have N5:=Yh (Yk wc.heap.size);clear k5 q5 z5;refine GoG.on 9 fun K hK=>?_
        go_simp
        try rw[h5]
        refine hK.out _ _ (Kc (YR B5.o y0) (Kc (YR B5.o AC) (Kc (YR B5.o b0) (Kc (YR B5.o b1) (Kc (YR B5.o b2) (Kc (YR B5.o b3) (Kc (YR B5.o b4) (Kn)))))))) ?_;clear hK K
        try simp only[Act.put,YB,YC,YD,YE,YF,YG]
        obtain⟨wf,h6⟩:=Yn ((((((wf5.setCell ⟨wc.heap.size,0,none⟩ (.int .i64 tv.kind)).setCell ⟨wc.heap.size,1,none⟩ (.string tv.name)).setCell ⟨wc.heap.size,2,none⟩ (.int .i64 tv.n)).setCell ⟨wc.heap.size,3,none⟩ (.slice vw mv vwc)).setCell ⟨wc.heap.size,4,none⟩ (.slice (some ⟨vb,vof,none⟩) 1 vkc)));have KF:=Yh (Z70 K5.o h6);have QF:=@Yh (Below wc.heap.size wc wf) (by rw[<-h6];exact Zh B5.o N5.o _ _ _ _ _);obtain⟨⟨g0,g1,g2,g3,g4⟩,p0,p1,p2,p3,p4⟩:=ZD K5.o;refine GoG.on 10 fun K hK=>?_
        go_simp
        try rw[h6]
        refine hK.out _ _ (Kc (YR QF.o y0) (Kc (YR QF.o AC) (Kc (YR QF.o b0) (Kc (YR QF.o b1) (Kc (YR QF.o b2) (Kc (YR QF.o b3) (Kc (YR QF.o b4) (Kn)))))))) ?_;clear y0 AC b0 b1 b2 b3 b4;clear hK K h5 h6 g0 g1 g2 g3 g4 p0 p1 p2 p3 p4
        try simp only[Act.put,YB,YC,YD,YE,YF,YG]
        refine GoG.done (by kernel_rfl) ?_ _;have AD:=Yh (KB9.o.below QF.o);have WF:=YT HB9 QF.o;have AE:=(cell5 KF.o).1;have BT:=YR QF.o q0;have BU:=(cell5 KF.o).2.2.2.2;obtain⟨wg,hg⟩:=Yn (wf.setCell ⟨xb9,0,none⟩ (.int .i64 q1));obtain⟨wh,hh⟩:=Yn (wg.setCell ⟨xb9,1,none⟩ (.bool true));have B1:=Yh (ZN6 AD.o hg);have AF:=Yh (Z56 B1.o hh);have WH:=Yh (Z6 (Z6 WF.o NB9.o hg) NB9.o hh);have PH:=Yh ((Z7 HPI.o (SameS.below QF.o)).same ((SameS.set (fun g=>g.2 rfl) hg).trans (SameS.set (fun g=>g.2 rfl) hh)));have BW:=(cell4 AD.o).1;have BX:=AD.o.free 0;have BY:=(cell4 B1.o).2.1;have BZ:=B1.o.free 1;go_upto_region 16 with fail;clear BW BX BY BZ AE BU q0 BT hg hh;have Ad:=YT HB2 WH.o;obtain⟨XX,hXX⟩:∃XX:Ez,XX=⟨⟨q1,true,y.ez.sp.path++[(kk:Int)],y.ez.sp.many⟩,po,pc⟩:=⟨_,rfl⟩
        have C0:=Yh hXX;have Ae:=@Yh (pC XX=[.int .i64 q1,.bool true,.slice po (pl+1) pc,.bool y.ez.sp.many]) (by rw[hXX];unfold pC;simp only[Ye,List.length_cons,List.length_nil];rw[Ah.o]);have A0:=Yh (HN2.o.kept WH.o);have An:=Yh (HX2.o.kept WH.o);have Ao:=Yh (HT2.o.kept WH.o);have AG:=Yh (Bd.o.below Ad.o)
        have B2:=Yh (show IRowS (fun b=>w1.heap.size<=b/\(Value.slice lo2 m2 cap2).ownBlock≠some b) wh XX.po XX.sp.path/\XX.sp.path.length<=XX.pc from by
         rw[hXX];exact⟨ZJ0 PH.o (fun b _ g=>⟨Yj AB.o g.1,HN2.o.own.not (.inr g.1)⟩),by show(y.ez.sp.path++[(kk:Int)]).length<=pc;rw[Ye,Ah.o];exact HPC.o⟩)
        have AH:WfI q1:=by
         have h1:=AZ.o;unfold inL at h1;have h1:=Yf h1;rw[HL.o]at h1;unfold WfI
         omega
        have A7:=Yh AH;have A5:=@Yh (XX.sp.typ=q1) (by rw[hXX])
        have Ap:=Yh (show(allEmbs u (ls.take k)++inner u y.ez.sp x (kk+1)).foldl (addS seen) []=addS seen (zs2.map (·.sp)) XX.sp by
         rw[A3.o,<-Y6,List.foldl_append (l:=allEmbs u (ls.take k)++inner u y.ez.sp x kk),HZ2.o,B0.o,hXX]
         rfl)
        obtain⟨eh0,eh1,eh2,eh3⟩:=cell4 AF.o;clear hXX AH
        by_cases hsn:q1∈seen
        ·have Aq:=hsn
         rw[<-AJ.o]at Aq;obtain⟨⟨t9,i9⟩,hp9,Ar⟩:=Y4.1 Aq;have Ar:t9=q1:=Ar;subst Ar;have B3:=AG.o.hit A7.o hp9;have A8:=@Yh (zs2.map (·.sp)=(allEmbs u (ls.take k)++inner u y.ez.sp x (kk+1)).foldl (addS seen) []) (by rw[Ap.o,ZG6 AM.o (by rw[A5.o];exact hsn)]);clear hsn Aq hp9;go_wp2_with fail;go_roundw
         case rel=>exact⟨kk+1,zs2,by omega,by go_num,A0,A8,An,Ao,Ad⟩
         case measure=>first|(simp[intOf];done)|(simp[intOf];omega)
        ·have B3:=AG.o.miss A7.o (fun p hp e=>hsn (by rw[<-AJ.o,<-e];exact List.mem_map_of_mem hp))
         have As:=Yh hsn;clear hsn
         by_cases hjn:∃j,∃hj:j<zs2.length,zs2[j].sp.typ=q1
         ·obtain⟨j,hj,hjt⟩:=hjn
          have At:=A0.o.mp.hit A7.o (show(q1,j)∈idxE 0 zs2 from by have:=Zz4 0 zs2 j hj;rw[hjt,Nat.zero_add]at this;exact this)
          have hu:∀i (hi:i<zs2.length),i≠j->zs2[i].sp.typ≠q1:=fun i hi hne e=>by
           have h1:=(List.nodup_append.1 AM.o).2.1;rw[List.map_map]at h1;have h2:=List.pairwise_iff_getElem.1 h1
           rcases Nat.lt_or_gt_of_ne hne with g|g
           ·exact h2 i j (by simpa using hi) (by simpa using hj) g (by simp[e,hjt])
           ·exact h2 j i (by simpa using hj) (by simpa using hi) g (by simp[e,hjt])
          obtain⟨g9,cap9,hv9,hg9,⟨x9,hx9⟩,hf9,hn9'⟩:=A0.o.mark (by have:=Z1.o;omega) hj hjt hu;rw[A4.o]at hv9
          injection hv9 with i1 _ i3
          subst i1;subst i3;obtain⟨wz,hwz⟩:=Yn (wh.setCell ⟨g9,j*4+3,none⟩ (.bool true));obtain⟨a1,a2⟩:=hn9' wz hwz;have Au:=Yh a1;have Av:=Yh (a2 _ _ _ An.o);have Aw:=Yh (a2 _ _ _ Ao.o);have A1:=Yh (Z6 Ad.o (by have:=Z1.o;omega) hwz);have C1:(j:Int)<(m2:Int):=by rw[A4.o]at hj;omega
          have A8:=@Yh ((zs2.map (mkE q1)).map (·.sp)=(allEmbs u (ls.take k)++inner u y.ez.sp x (kk+1)).foldl (addS seen) []) (by rw[Ap.o,ZT4 ⟨zs2[j].sp,List.mem_map_of_mem (Yq hj),by rw[A5.o];exact hjt⟩,Zfa,A5.o]);clear hu a1 a2 hjt hj;go_wp2_with fail;go_roundw
          case rel=>exact⟨kk+1,zs2.map (mkE q1),by omega,by go_num,Au,A8,Av,Aw,A1⟩
          case measure=>first|(simp[intOf];done)|(simp[intOf];omega)
         ·have Af:∀z∈zs2,z.sp.typ≠q1:=fun z hz e=>by
           obtain⟨i,hi,rfl⟩:=List.getElem_of_mem hz;exact hjn ⟨i,hi,e⟩
          have At:=A0.o.mp.miss A7.o (ZP1 0 zs2 Af);obtain⟨ws,hst,hms,hgs⟩:=A0.o.mp.store A7.o (ZP1 0 zs2 Af) (i:=m2) (by omega) (by rw[Zr4,A4.o];omega);have B4:=Yh hms;have B7:=Yh hgs;have Ax:=@Yh (w.heap.size<w1.heap.size) (by have:=Z1.o;omega);have B8:=Yh (bgrown AF.o hgs (fun e=>by injection e with e;have:=NB9.o;have:=AB.o;have:=Ax.o;omega));obtain⟨es0,es1,es2,es3⟩:=cell4 B8.o
          have B9:=Yh (show ws.ownsRow w1.heap.size 100 4 (.slice lo2 m2 cap2) m2 (encs pC zs2)from by
           obtain⟨a1,a2⟩:=A0.o.own;rw[A4.o]at a1 a2;refine⟨a1,?_⟩
           rcases a2 with a2|⟨g,cap,cur,e,hg,hcur,rest⟩
           ·exact .inl a2
           ·exact .inr ⟨g,cap,cur,e,hg,(show BlockAt ws g cur _ from bgrown (show BlockAt wh g cur _ from hcur) hgs (fun q=>by injection q with q;have:=Ax.o;omega)),rest⟩)
          have Ba:=@Yh (w1.heap.size<=ws.heap.size) (by have h1:=WH.o.size;have h2:=hgs.size;have:=AB.o;omega);have A8:=@Yh ((zs2++[XX]).map (·.sp)=(allEmbs u (ls.take k)++inner u y.ez.sp x (kk+1)).foldl (addS seen) []) (by rw[Ap.o,Zk8 (by rw[A5.o];exact As.o) (fun e he=>by obtain⟨z,hz,rfl⟩:=Y4.1 he;rw[A5.o];exact Af z hz),Yu];rfl);clear Af hjn hms hgs;go_wp2_with (at_builtin;refine wpList_append_own_at _ rfl _ _ 96 rfl w1.heap.size 100 i0 (.agg #[.int .i64 0,.bool false,.slice none 0 0,.bool false]) 4 48 Tryz.underlying96 hi hz0' hz1 hz2 rfl (by decide) _ m2 (encs pC zs2) rfl (B9.o.alloc _) ⟨ws.heap.size,0,none⟩ 1 1 (pC XX) rfl ?c1 ?c2 ?c3 ?c4 ?c5 ?c6 ?_)
          case c1=>rfl
          case c2=>rw[Ae.o];first|exact Z9 _ _ _|exact fun j u h=>h
          case c3=>exact Zpa _
          case c4=>unfold maxLen;omega
          case c5=>omega
          case c6=>have:=Ba.o;simp;omega
          intro v9 w9 hown hgrow _ hblk;have hp:=NxI.push (W:=w) (wn:=_) (x:=XX) A0.o Ax.o (Yk _) Ad.o (by rw[A4.o,A5.o];exact B4.o) B7.o ((Y8 _ _).alloc (Yk _) (.cells (pC XX).toArray 100)) B2.o (by rw[A4.o]) (by first|exact hown|(rw[Ae.o];rw[Ae.o]at hown;exact hown)) (by first|exact hgrow|(rw[Ae.o];exact hgrow)) (by simpa using hblk);have Au:=Yh hp.1;have A1:=Yh hp.2.1;have Av:=Yh (hp.2.2 _ _ _ AL.o.1 An.o);have Aw:=Yh (hp.2.2 _ _ _ (by have:=AL.o;omega) Ao.o);clear hown hgrow hblk hp;go_wp2_with fail;go_roundw
          case rel=>exact⟨kk+1,zs2++[XX],by omega,by go_num,Au,A8,Av,Aw,A1⟩
          case measure=>first|(simp[intOf];done)|(simp[intOf];omega)
       ·refine GoG.take (i:=8) (v:=?_) [13] rfl (by kernel_rfl) (by kernel_rfl) (by kernel_rfl) (by kernel_rfl) (by kernel_rfl) (by kernel_rfl) (fun _ _ _ h=>h) (.inl ⟨by rfl,fun WW hS=>?_⟩) ?_
        rotate_left
        ·have g0:WW.cell? ⟨ab,aof+zk*5,none⟩=some (.int .i64 tv.kind):=hS (13,⟨ab,aof+zk*5,none⟩,.int .i64 tv.kind) (by simp) (by simp)
         have g1:WW.cell? ⟨ab,aof+zk*5+1,none⟩=some (.string tv.name):=hS (13,⟨ab,aof+zk*5+1,none⟩,.string tv.name) (by simp) (by simp);have g2:WW.cell? ⟨ab,aof+zk*5+2,none⟩=some (.int .i64 tv.n):=hS (13,⟨ab,aof+zk*5+2,none⟩,.int .i64 tv.n) (by simp) (by simp);have g3:WW.cell? ⟨ab,aof+zk*5+3,none⟩=some (.slice vw mv vwc):=hS (13,⟨ab,aof+zk*5+3,none⟩,.slice vw mv vwc) (by simp) (by simp);have g4:WW.cell? ⟨ab,aof+zk*5+4,none⟩=some (.slice vk kv vkc):=hS (13,⟨ab,aof+zk*5+4,none⟩,.slice vk kv vkc) (by simp) (by simp);clear hS;go_simp;try (with_reducible rfl)
        try simp only[Act.put,YB,YC,YD,YE,YF,YG]
        obtain⟨wf5,h5,k5,q5,z5⟩:=YA wc.drew #[.int .i64 0,.string ⟨#[]⟩,.int .i64 0,.slice none 0 0,.slice none 0 0] 50;have K5:=@Yh (BlockAt wf5 wc.heap.size _ _) (k5);have B5:=Yh (((Y8 wc.heap.size wc).drew).trans q5);have N5:=Yh (Yk wc.heap.size);clear k5 q5 z5;refine GoG.on 9 fun K hK=>?_
        go_simp
        try rw[h5]
        refine hK.out _ _ (Kc (YR B5.o y0) (Kc (YR B5.o AC) (Kc (YR B5.o b0) (Kc (YR B5.o b1) (Kc (YR B5.o b2) (Kc (YR B5.o b3) (Kc (YR B5.o b4) (Kn)))))))) ?_;clear hK K
        try simp only[Act.put,YB,YC,YD,YE,YF,YG]
        obtain⟨wf,h6⟩:=Yn ((((((wf5.setCell ⟨wc.heap.size,0,none⟩ (.int .i64 tv.kind)).setCell ⟨wc.heap.size,1,none⟩ (.string tv.name)).setCell ⟨wc.heap.size,2,none⟩ (.int .i64 tv.n)).setCell ⟨wc.heap.size,3,none⟩ (.slice vw mv vwc)).setCell ⟨wc.heap.size,4,none⟩ (.slice vk kv vkc)));have KF:=Yh (Z70 K5.o h6);have QF:=@Yh (Below wc.heap.size wc wf) (by rw[<-h6];exact Zh B5.o N5.o _ _ _ _ _);obtain⟨⟨g0,g1,g2,g3,g4⟩,p0,p1,p2,p3,p4⟩:=ZD K5.o;refine GoG.on 10 fun K hK=>?_
        go_simp
        try rw[h6]
        refine hK.out _ _ (Kc (YR QF.o y0) (Kc (YR QF.o AC) (Kc (YR QF.o b0) (Kc (YR QF.o b1) (Kc (YR QF.o b2) (Kc (YR QF.o b3) (Kc (YR QF.o b4) (Kn)))))))) ?_;clear y0 AC b0 b1 b2 b3 b4;clear hK K h5 h6 g0 g1 g2 g3 g4 p0 p1 p2 p3 p4
        try simp only[Act.put,YB,YC,YD,YE,YF,YG]
        refine GoG.done (by kernel_rfl) ?_ _;have AD:=Yh (KB9.o.below QF.o);have WF:=YT HB9 QF.o;have AE:=(cell5 KF.o).1;obtain⟨wh,hh⟩:=Yn (wf);have AF:=@Yh (BlockAt wh xb9 _ _) (by rw[<-hh];exact AD.o);have WH:=@Yh (Below wi.heap.size wi wh) (by rw[<-hh];exact WF.o);have PH:=@Yh (IRowS (fun b=>wi.heap.size<=b/\b≠xb9) wh po (y.ez.sp.path++[(kk:Int)])) (by rw[<-hh];exact Z7 HPI.o (SameS.below QF.o));have AE:wh.cell? ⟨wc.heap.size,0,none⟩=some (.int .i64 tv.kind):=by rw[<-hh];exact AE
        try rw[hh]
        clear hh;go_upto_region 16 with fail;clear AE;have Ad:=YT HB2 WH.o;obtain⟨XX,hXX⟩:∃XX:Ez,XX=⟨⟨(zk:Int),y.ez.sp.via,y.ez.sp.path++[(kk:Int)],y.ez.sp.many⟩,po,pc⟩:=⟨_,rfl⟩
        have C0:=Yh hXX;have Ae:=@Yh (pC XX=[.int .i64 zk,.bool y.ez.sp.via,.slice po (pl+1) pc,.bool y.ez.sp.many]) (by rw[hXX];unfold pC;simp only[Ye,List.length_cons,List.length_nil];rw[Ah.o]);have A0:=Yh (HN2.o.kept WH.o);have An:=Yh (HX2.o.kept WH.o);have Ao:=Yh (HT2.o.kept WH.o);have AG:=Yh (Bd.o.below Ad.o)
        have B2:=Yh (show IRowS (fun b=>w1.heap.size<=b/\(Value.slice lo2 m2 cap2).ownBlock≠some b) wh XX.po XX.sp.path/\XX.sp.path.length<=XX.pc from by
         rw[hXX];exact⟨ZJ0 PH.o (fun b _ g=>⟨Yj AB.o g.1,HN2.o.own.not (.inr g.1)⟩),by show(y.ez.sp.path++[(kk:Int)]).length<=pc;rw[Ye,Ah.o];exact HPC.o⟩)
        have AH:WfI (zk:Int):=by
         have h1:=AZ.o;unfold inL at h1;have h1:=Yf h1;rw[HL.o]at h1;unfold WfI
         omega
        have A7:=Yh AH;have A5:=@Yh (XX.sp.typ=(zk:Int)) (by rw[hXX])
        have Ap:=Yh (show(allEmbs u (ls.take k)++inner u y.ez.sp x (kk+1)).foldl (addS seen) []=addS seen (zs2.map (·.sp)) XX.sp by
         rw[A3.o,<-Y6,List.foldl_append (l:=allEmbs u (ls.take k)++inner u y.ez.sp x kk),HZ2.o,B0.o,hXX]
         rfl)
        obtain⟨eh0,eh1,eh2,eh3⟩:=cell4 AF.o;clear hXX AH
        by_cases hsn:(zk:Int)∈seen
        ·have Aq:=hsn
         rw[<-AJ.o]at Aq;obtain⟨⟨t9,i9⟩,hp9,Ar⟩:=Y4.1 Aq;have Ar:t9=(zk:Int):=Ar;subst Ar;have B3:=AG.o.hit A7.o hp9;have A8:=@Yh (zs2.map (·.sp)=(allEmbs u (ls.take k)++inner u y.ez.sp x (kk+1)).foldl (addS seen) []) (by rw[Ap.o,ZG6 AM.o (by rw[A5.o];exact hsn)]);clear hsn Aq hp9;go_wp2_with fail;go_roundw
         case rel=>exact⟨kk+1,zs2,by omega,by go_num,A0,A8,An,Ao,Ad⟩
         case measure=>first|(simp[intOf];done)|(simp[intOf];omega)
        ·have B3:=AG.o.miss A7.o (fun p hp e=>hsn (by rw[<-AJ.o,<-e];exact List.mem_map_of_mem hp))
         have As:=Yh hsn;clear hsn
         by_cases hjn:∃j,∃hj:j<zs2.length,zs2[j].sp.typ=(zk:Int)
         ·obtain⟨j,hj,hjt⟩:=hjn
          have At:=A0.o.mp.hit A7.o (show((zk:Int),j)∈idxE 0 zs2 from by have:=Zz4 0 zs2 j hj;rw[hjt,Nat.zero_add]at this;exact this)
          have hu:∀i (hi:i<zs2.length),i≠j->zs2[i].sp.typ≠(zk:Int):=fun i hi hne e=>by
           have h1:=(List.nodup_append.1 AM.o).2.1;rw[List.map_map]at h1;have h2:=List.pairwise_iff_getElem.1 h1
           rcases Nat.lt_or_gt_of_ne hne with g|g
           ·exact h2 i j (by simpa using hi) (by simpa using hj) g (by simp[e,hjt])
           ·exact h2 j i (by simpa using hj) (by simpa using hi) g (by simp[e,hjt])
          obtain⟨g9,cap9,hv9,hg9,⟨x9,hx9⟩,hf9,hn9'⟩:=A0.o.mark (by have:=Z1.o;omega) hj hjt hu;rw[A4.o]at hv9
          injection hv9 with i1 _ i3
          subst i1;subst i3;obtain⟨wz,hwz⟩:=Yn (wh.setCell ⟨g9,j*4+3,none⟩ (.bool true));obtain⟨a1,a2⟩:=hn9' wz hwz;have Au:=Yh a1;have Av:=Yh (a2 _ _ _ An.o);have Aw:=Yh (a2 _ _ _ Ao.o);have A1:=Yh (Z6 Ad.o (by have:=Z1.o;omega) hwz);have C1:(j:Int)<(m2:Int):=by rw[A4.o]at hj;omega
          have A8:=@Yh ((zs2.map (mkE (zk:Int))).map (·.sp)=(allEmbs u (ls.take k)++inner u y.ez.sp x (kk+1)).foldl (addS seen) []) (by rw[Ap.o,ZT4 ⟨zs2[j].sp,List.mem_map_of_mem (Yq hj),by rw[A5.o];exact hjt⟩,Zfa,A5.o]);clear hu a1 a2 hjt hj;go_wp2_with fail;go_roundw
          case rel=>exact⟨kk+1,zs2.map (mkE (zk:Int)),by omega,by go_num,Au,A8,Av,Aw,A1⟩
          case measure=>first|(simp[intOf];done)|(simp[intOf];omega)
         ·have Af:∀z∈zs2,z.sp.typ≠(zk:Int):=fun z hz e=>by
           obtain⟨i,hi,rfl⟩:=List.getElem_of_mem hz;exact hjn ⟨i,hi,e⟩
          have At:=A0.o.mp.miss A7.o (ZP1 0 zs2 Af);obtain⟨ws,hst,hms,hgs⟩:=A0.o.mp.store A7.o (ZP1 0 zs2 Af) (i:=m2) (by omega) (by rw[Zr4,A4.o];omega);have B4:=Yh hms;have B7:=Yh hgs;have Ax:=@Yh (w.heap.size<w1.heap.size) (by have:=Z1.o;omega);have B8:=Yh (bgrown AF.o hgs (fun e=>by injection e with e;have:=NB9.o;have:=AB.o;have:=Ax.o;omega));obtain⟨es0,es1,es2,es3⟩:=cell4 B8.o
          have B9:=Yh (show ws.ownsRow w1.heap.size 100 4 (.slice lo2 m2 cap2) m2 (encs pC zs2)from by
           obtain⟨a1,a2⟩:=A0.o.own;rw[A4.o]at a1 a2;refine⟨a1,?_⟩
           rcases a2 with a2|⟨g,cap,cur,e,hg,hcur,rest⟩
           ·exact .inl a2
           ·exact .inr ⟨g,cap,cur,e,hg,(show BlockAt ws g cur _ from bgrown (show BlockAt wh g cur _ from hcur) hgs (fun q=>by injection q with q;have:=Ax.o;omega)),rest⟩)
          have Ba:=@Yh (w1.heap.size<=ws.heap.size) (by have h1:=WH.o.size;have h2:=hgs.size;have:=AB.o;omega);have A8:=@Yh ((zs2++[XX]).map (·.sp)=(allEmbs u (ls.take k)++inner u y.ez.sp x (kk+1)).foldl (addS seen) []) (by rw[Ap.o,Zk8 (by rw[A5.o];exact As.o) (fun e he=>by obtain⟨z,hz,rfl⟩:=Y4.1 he;rw[A5.o];exact Af z hz),Yu];rfl);clear Af hjn hms hgs;go_wp2_with (at_builtin;refine wpList_append_own_at _ rfl _ _ 96 rfl w1.heap.size 100 i0 (.agg #[.int .i64 0,.bool false,.slice none 0 0,.bool false]) 4 48 Tryz.underlying96 hi hz0' hz1 hz2 rfl (by decide) _ m2 (encs pC zs2) rfl (B9.o.alloc _) ⟨ws.heap.size,0,none⟩ 1 1 (pC XX) rfl ?c1 ?c2 ?c3 ?c4 ?c5 ?c6 ?_)
          case c1=>rfl
          case c2=>rw[Ae.o];first|exact Z9 _ _ _|exact fun j u h=>h
          case c3=>exact Zpa _
          case c4=>unfold maxLen;omega
          case c5=>omega
          case c6=>have:=Ba.o;simp;omega
          intro v9 w9 hown hgrow _ hblk;have hp:=NxI.push (W:=w) (wn:=_) (x:=XX) A0.o Ax.o (Yk _) Ad.o (by rw[A4.o,A5.o];exact B4.o) B7.o ((Y8 _ _).alloc (Yk _) (.cells (pC XX).toArray 100)) B2.o (by rw[A4.o]) (by first|exact hown|(rw[Ae.o];rw[Ae.o]at hown;exact hown)) (by first|exact hgrow|(rw[Ae.o];exact hgrow)) (by simpa using hblk);have Au:=Yh hp.1;have A1:=Yh hp.2.1;have Av:=Yh (hp.2.2 _ _ _ AL.o.1 An.o);have Aw:=Yh (hp.2.2 _ _ _ (by have:=AL.o;omega) Ao.o);clear hown hgrow hblk hp;go_wp2_with fail;go_roundw
          case rel=>exact⟨kk+1,zs2++[XX],by omega,by go_num,Au,A8,Av,Aw,A1⟩
          case measure=>first|(simp[intOf];done)|(simp[intOf];omega)
     ·have A3:=@Yh (inner u y.ez.sp x (kk+1)=inner u y.ez.sp x kk) (by rw[A2,if_neg (by unfold embB;rw[decide_eq_true_eq];exact fun g=>h43 g.2),List.append_nil])
      have h2:¬(wd[0].toNat:Int)=43:=by rw[<-Zm AW];exact h43
      clear h43 A2 AA hwd hw hxcl hxb hkcl hkb A6 hkq s1 s2 s3 Ai Az;go_wp2_with fail;go_roundw
      case rel=>exact⟨kk+1,zs2,by omega,by go_num,HN2,Yh (by rw[A3.o];exact HZ2.o),HX2,HT2,HB2⟩
      case measure=>first|(simp[intOf];done)|(simp[intOf];omega)
    ·obtain rfl:kk=m:=by omega
     have AV:=@Yh (zs2.map (·.sp)=(allEmbs u (ls.take (k+1))).foldl (addS seen) []) (by rw[AT.o,<-ZP6 (fun h=>(AS.o h).1),HM.o];exact HZ2.o);go_wp2_with fail;go_roundw
     case rel=>exact⟨k+1,zs2,by omega,by go_num,HN2,AV,HB2⟩
     case measure=>first|(simp[intOf];done)|(simp[intOf];omega)
  ·obtain rfl:k=n9:=by omega
   have Bn:=@Yh (zs.map (·.sp)=NT) (by rw[Bs.o,HZ.o,Y3 (by rw[Bb.o];exact Yk _)]);have C2:=@Yh (NT.length=m1) (by rw[<-Bn.o,Yg,AP.o]);obtain⟨lo3,cap3,hv3,hcap3,-,hr3⟩:=HNI.o.own.row Z08;rw[AP.o]at hv3 hcap3
   injection hv3 with i1 _ i3
   subst i1;subst i3;have Bo:=@Yh (∀b,w1.heap.size<=b->Sb b) (fun b hb=>Bt.o b (by have:=Z1.o;omega));have Bp:=@Yh (PRow Sb wr (.slice lo1 m1 cap1) NT) (⟨lo1,cap1,zs,by rw[C2.o],Bn.o,hr3 Sb Bo.o,by rw[AP.o];exact hcap3,fun z hz=>⟨ZJ0 (HNI.o.ps z hz).1 (fun b _ g=>Bo.o b g.1),(HNI.o.ps z hz).2⟩⟩);clear hcap3 hr3;go_wp2_with fail;go_ret
   first|exact⟨_,rfl,Bp.o,HB.o⟩|exact⟨Bp.o,HB.o⟩
theorem ZF9(nm name:ByteArray)(nb:Nat)(w:World)(h:w.cell? ⟨nb,0,none⟩=some (.string name)) :
  Calls Tryz.prog 21 #[.string nm,.pointer (some ⟨nb,0,none⟩)] w fun e w'=>e=.returned (.bool (decide (nm=name)))/\w=w':=by
 have HE:=Yh (Zk nm name);go_enter Tryz.func21,Tryz.ntmps21;go_wp2_with fail;go_ret
 first|exact⟨Z0 HE.o,rfl⟩|exact⟨by rw[<-HE.o],rfl⟩
def fV(z:Sz)(c:Nat):Value:=.agg #[.bool z.se.meth,.int .i64 z.se.typ,.bool z.se.ptr,.bool z.se.via,.slice z.po z.se.path.length z.pc,.int .i64 c]
def FMz(w:World)(b n:Nat)(M:ByteArray->Option (Sz×Nat)):Prop:=FMap w b n (fun s=>(M s).map fun p=>fV p.1 p.2)
def incF(many:Bool):Nat:=if many=true then 2 else 1
def addF(M:ByteArray->Option (Sz×Nat))(nm:ByteArray)(z:Sz)(many:Bool):ByteArray->Option (Sz×Nat):=fun t=>if t=nm then some (match M nm with|none=>(z,incF many)|some p=>(p.1,p.2+incF many))else M t
set_option maxRecDepth 100000 in
theorem ZM8(nm name:ByteArray)(z:Sz)(many:Bool)(sb hb xb nb mp n:Nat)(M:ByteArray->Option (Sz×Nat))(w:World)(hnm:name.size<=maxLen)(hSK:w.cell? ⟨sb,0,none⟩=some (.func (.func 21) #[] #[.pointer (some ⟨nb,0,none⟩)]))(hN:w.cell? ⟨nb,0,none⟩=some (.string name))(hH:w.cell? ⟨hb,0,none⟩=some (.map (some mp)))(hX:w.cell? ⟨xb,3,none⟩=some (.bool many))
  (hM:FMz w mp n M) (hn:n<=100000) (hc:∀p,M nm=some p->p.2<=100000) :
  Calls Tryz.prog 49 #[.string nm,.agg #[.bool z.se.meth,.int .i64 z.se.typ,.bool z.se.ptr,.bool z.se.via,.slice z.po z.se.path.length z.pc],.pointer (some ⟨sb,0,none⟩),.pointer (some ⟨hb,0,none⟩),.pointer (some ⟨xb,0,none⟩)] w fun e w'=>(∃v,e=.returned v)/\(SameX mp w w'/\Below mp w w')/\FMz w' mp (n+1) (if nm=name then addF M nm z many else M):=by
 obtain⟨pl,hpl⟩:=Yn (z.se.path.length);have Ab:=Yh hpl;rw[hpl];obtain⟨w1,h1,k1,q1,z1⟩:=YA w #[.bool z.se.meth,.int .i64 z.se.typ,.bool z.se.ptr,.bool z.se.via,.slice z.po pl z.pc] 28;have Q1:=Yh q1;have M1:=@Yh (FMz w1 mp n M) (FMap.below hM q1);have sk:=YR q1 hSK;have Ac:=YR q1 hN;have Ad:=YR q1 hH;have Ae:=YR q1 hX;have A1:=Yh (FMap.lt hM);have XL:=Yh (Zv hX);have XV:=Yh hX;have HL:=Yh (Zv hH);have HV:=Yh hH;have A6:=Yh (ZF9 nm name nb w1 Ac);have HC:=Yh hc;have A2:=Yh hnm;have K1:=Yh k1;clear hpl q1 hSK hN hH hX hM hc hnm z1;go_enter Tryz.func49,Tryz.ntmps49
 by_cases hq:nm=name
 case neg =>
  have hd:decide (nm=name)=false:=Ya hq;rw[hd]at A6;have HQ:=Yh hq;clear hq hd
  have HR:=Yh (show FMz w1 mp (n+1) M from by
   obtain⟨D,h1,h2⟩:=M1.o;exact⟨D,h1.mono (Nat.le_succ _),h2⟩)
  go_wp2_with fail;refine A6.o.mono ?_;rintro e9 w9 ⟨rfl,rfl⟩;go_wp2_with fail
  try simp only[Exit.inBlock,Exit.then]
  refine bodyPost_ret (results_none rfl _ _ _) rfl ?_
  try rw[if_neg HQ.o]
  exact⟨⟨_,rfl⟩,⟨SameX.below Q1.o,Q1.o.mono (Nat.le_of_lt A1.o)⟩,HR.o⟩
 have hd:decide (nm=name)=true:=Yb hq;rw[hd]at A6;have HQ:=Yh hq;have A2:=@Yh (nm.size<=maxLen) (by rw[hq];exact A2.o);clear hq hd;go_wp2_with fail;refine A6.o.mono ?_;rintro e9 w9 ⟨rfl,rfl⟩;clear sk Ac;obtain⟨d0,d1,d2,d3,d4⟩:=cell5 k1
 cases hMn:M nm with
 | none =>
  have A4:=FMap.miss M1.o A2.o (by show(M nm).map _=none;rw[hMn];rfl);unfold noFound at A4;obtain⟨w2,h2,k2,q2,z2⟩:=YA w1 #[.bool false,.int .i64 0,.bool false,.bool false,.slice none 0 0,.int .i64 0] 63;have K2:=Yh k2;have Q2:=YT Q1 q2;have FB:=@Yh (w.heap.size<=w1.heap.size/\mp<w1.heap.size) (⟨Q1.o.size,Yi A1.o Q1.o.size⟩);have Af:=YR q2 Ad;have Ag:=YR q2 Ae;obtain⟨w3,h3⟩:=Yn (((((w2.setCell ⟨w1.heap.size,0,none⟩ (.bool z.se.meth)).setCell ⟨w1.heap.size,1,none⟩ (.int .i64 z.se.typ)).setCell ⟨w1.heap.size,2,none⟩ (.bool z.se.ptr)).setCell ⟨w1.heap.size,3,none⟩ (.bool z.se.via)).setCell ⟨w1.heap.size,4,none⟩ (.slice z.po pl z.pc));have K3:=@Yh (BlockAt w3 w1.heap.size #[.bool z.se.meth,.int .i64 z.se.typ,.bool z.se.ptr,.bool z.se.via,.slice z.po pl z.pc,.int .i64 0] 63) (by rw[<-h3];have:=((((K2.o.set 0 (.bool z.se.meth)).set 1 (.int .i64 z.se.typ)).set 2 (.bool z.se.ptr)).set 3 (.bool z.se.via)).set 4 (.slice z.po pl z.pc);simpa using this);have B3:=@Yh (Below w.heap.size w w3) (by rw[<-h3];exact((((Q2.o.setCell FB.o.1 _).setCell FB.o.1 _).setCell FB.o.1 _).setCell FB.o.1 _).setCell FB.o.1 _);obtain⟨⟨g0,g1,g2,g3,g4,g5⟩,f0,f1,f2,f3,f4,f5⟩:=Zu K2.o;have Ai:=(q2.cell (p:=⟨w.heap.size,0,none⟩) K1.o.lt).trans d0;have Aj:=(q2.cell (p:=⟨w.heap.size,1,none⟩) K1.o.lt).trans d1;have Ak:=(q2.cell (p:=⟨w.heap.size,2,none⟩) K1.o.lt).trans d2;have Al:=(q2.cell (p:=⟨w.heap.size,3,none⟩) K1.o.lt).trans d3;have Am:=(q2.cell (p:=⟨w.heap.size,4,none⟩) K1.o.lt).trans d4;obtain⟨w4,h4⟩:=Yn (w3.setCell ⟨w1.heap.size,5,none⟩ (.int .i64 1));have K4:=Yh (Zn0 K3.o h4);have B4:=Yh (Z6 B3.o FB.o.1 h4);have A7:=(cell6L K3.o).2.2.2.2.2;have A8:=K3.o.free 5;have u0:=K2.o.same (k:=0) (v:=.bool false) rfl;have u1:=K2.o.same (k:=1) (v:=.int .i64 0) rfl;have u2:=K2.o.same (k:=2) (v:=.bool false) rfl;have u3:=K2.o.same (k:=3) (v:=.bool false) rfl;have u4:=K2.o.same (k:=4) (v:=.slice none 0 0) rfl;have u5:=K2.o.same (k:=5) (v:=.int .i64 0) rfl;go_upto_region 3 with fail
  try rw[u0]
  try rw[u1]
  try rw[u2]
  try rw[u3]
  try rw[u4]
  try rw[u5]
  clear u0 u1 u2 u3 u4 u5;go_upto_region 5 with fail;clear g0 g1 g2 g3 g4 g5 f0 f1 f2 f3 f4 f5 Ai Aj Ak Al Am A4 h2 h3;go_upto_region 6 with fail;clear A7 A8 h4;have An:=(show w4.cell? ⟨xb,3,none⟩=some (.bool many)from(B4.o.cell (p:=⟨xb,3,none⟩) XL.o).trans XV.o);have Ao:=(show w4.cell? ⟨hb,0,none⟩=some (.map (some mp))from(B4.o.cell (p:=⟨hb,0,none⟩) HL.o).trans HV.o)
  by_cases A0:many=true
  ·obtain⟨w5,h5⟩:∃w5,w4.setCell ⟨w1.heap.size,5,none⟩ (.int .i64 2)=w5:=⟨_,rfl⟩
   have K5:=Yh (Zn0 K4.o h5);have B5:=Yh (Z6 B4.o FB.o.1 h5);have A9:=(cell6L K4.o).2.2.2.2.2;have Aa:=K4.o.free 5;have Ap:=(show w5.cell? ⟨hb,0,none⟩=some (.map (some mp))from(B5.o.cell (p:=⟨hb,0,none⟩) HL.o).trans HV.o);subst A0;go_upto_region 8 with fail;clear A9 Aa h5;have MW:=@Yh (FMz w5 mp n M) (FMap.block M1.o (B5.o.block mp A1.o |>.trans (Q1.o.block mp A1.o).symm));obtain⟨w6,hst,hm6,hg6⟩:=FMap.store MW.o (.agg #[.bool z.se.meth,.int .i64 z.se.typ,.bool z.se.ptr,.bool z.se.via,.slice z.po pl z.pc,.int .i64 2]) A2.o (by omega)
   have HR:=Yh (show FMz w6 mp (n+1) (addF M nm z true)from by
    have e:(fun t=>((addF M nm z true) t).map fun p=>fV p.1 p.2)=(fun t=>if t=nm then some (Value.agg #[.bool z.se.meth,.int .i64 z.se.typ,.bool z.se.ptr,.bool z.se.via,.slice z.po pl z.pc,.int .i64 2])else(M t).map fun p=>fV p.1 p.2):=by
     funext t
     unfold addF
     by_cases ht:t=nm
     ·rw[if_pos ht,if_pos ht,hMn]
      unfold incF;rw[if_pos rfl]
      show some (fV z _)=_
      unfold fV;rw[Ab.o]
      rfl
      skip
     ·rw[if_neg ht,if_neg ht]
    unfold FMz;rw[e];exact hm6)
   have A3:=@Yh (SameX mp w w6/\Below mp w w6) (⟨⟨Yj B5.o.size hg6.size,fun b hb hc=>(hg6.block b (Yi hb B5.o.size) (fun e=>by injection e with e;exact hc e)).trans (B5.o.block b hb)⟩,(B5.o.mono (Nat.le_of_lt A1.o)).grown hg6 (Yj (Nat.le_of_lt A1.o) B5.o.size) (fun k e=>by injection e with e;omega)⟩);obtain⟨l0,l1,l2,l3,l4,l5⟩:=cell6L K5.o;clear hm6 hg6;go_wp2_with fail;go_end0
   try rw[if_pos HQ.o]
   exact⟨⟨_,rfl⟩,A3.o,by first|exact HR.o|(rw[<-HQ.o];exact HR.o)⟩
  ·have A0:many=false:=by simpa using A0
   subst A0;go_upto_region 8 with fail;have MW:=@Yh (FMz w4 mp n M) (FMap.block M1.o (B4.o.block mp A1.o |>.trans (Q1.o.block mp A1.o).symm));obtain⟨w6,hst,hm6,hg6⟩:=FMap.store MW.o (.agg #[.bool z.se.meth,.int .i64 z.se.typ,.bool z.se.ptr,.bool z.se.via,.slice z.po pl z.pc,.int .i64 1]) A2.o (by omega)
   have HR:=Yh (show FMz w6 mp (n+1) (addF M nm z false)from by
    have e:(fun t=>((addF M nm z false) t).map fun p=>fV p.1 p.2)=(fun t=>if t=nm then some (Value.agg #[.bool z.se.meth,.int .i64 z.se.typ,.bool z.se.ptr,.bool z.se.via,.slice z.po pl z.pc,.int .i64 1])else(M t).map fun p=>fV p.1 p.2):=by
     funext t
     unfold addF
     by_cases ht:t=nm
     ·rw[if_pos ht,if_pos ht,hMn]
      unfold incF;rw[if_neg (by decide)]
      show some (fV z _)=_
      unfold fV;rw[Ab.o]
      rfl
      skip
     ·rw[if_neg ht,if_neg ht]
    unfold FMz;rw[e];exact hm6)
   have A3:=@Yh (SameX mp w w6/\Below mp w w6) (⟨⟨Yj B4.o.size hg6.size,fun b hb hc=>(hg6.block b (Yi hb B4.o.size) (fun e=>by injection e with e;exact hc e)).trans (B4.o.block b hb)⟩,(B4.o.mono (Nat.le_of_lt A1.o)).grown hg6 (Yj (Nat.le_of_lt A1.o) B4.o.size) (fun k e=>by injection e with e;omega)⟩);obtain⟨l0,l1,l2,l3,l4,l5⟩:=cell6L K4.o;clear hm6 hg6;go_wp2_with fail;go_end0
   try rw[if_pos HQ.o]
   exact⟨⟨_,rfl⟩,A3.o,by first|exact HR.o|(rw[<-HQ.o];exact HR.o)⟩
 | some p =>
  obtain⟨z0,c⟩:=p;have Ar:c<=100000:=HC.o _ hMn;have A4:=FMap.hit M1.o A2.o (by show(M nm).map _=some (fV z0 c);rw[hMn];rfl);unfold fV at A4;obtain⟨pl0,hpl0⟩:=Yn (z0.se.path.length);have A5:=Yh hpl0;rw[hpl0]at A4;clear hpl0;obtain⟨w2,h2,k2,q2,z2⟩:=YA w1 #[.bool z0.se.meth,.int .i64 z0.se.typ,.bool z0.se.ptr,.bool z0.se.via,.slice z0.po pl0 z0.pc,.int .i64 c] 63;have K2:=Yh k2;have Q2:=YT Q1 q2;have FB:=@Yh (w.heap.size<=w1.heap.size/\mp<w1.heap.size) (⟨Q1.o.size,Yi A1.o Q1.o.size⟩);have Af:=YR q2 Ad;have Ag:=YR q2 Ae;obtain⟨w3,h3⟩:=Yn (w2);have K3:=@Yh (BlockAt w3 w1.heap.size #[.bool z0.se.meth,.int .i64 z0.se.typ,.bool z0.se.ptr,.bool z0.se.via,.slice z0.po pl0 z0.pc,.int .i64 (c:Int)] 63) (by rw[<-h3];exact K2.o);have B3:=@Yh (Below w.heap.size w w3) (by rw[<-h3];exact Q2.o);rw[h3]at h2 Af Ag;obtain⟨c1,hc1e⟩:=Yn (c+1);obtain⟨c2,hc2e⟩:=Yn (c+2);have As:(c:Int)+1=(c1:Int):=by omega
  have At:(c1:Int)+1=(c2:Int):=by omega
  have Aq:c1<=100001:=by omega
  have Ah:=Yh (YH hc1e hc2e);clear h3 hc1e hc2e;obtain⟨w4,h4⟩:=Yn (w3.setCell ⟨w1.heap.size,5,none⟩ (.int .i64 (c1:Int)));have K4:=Yh (Zn0 K3.o h4);have B4:=Yh (Z6 B3.o FB.o.1 h4);have A7:=(cell6L K3.o).2.2.2.2.2;have A8:=K3.o.free 5;go_upto_region 5 with fail;clear A4 h2;go_upto_region 6 with fail;clear A7 A8 h4;have An:=(show w4.cell? ⟨xb,3,none⟩=some (.bool many)from(B4.o.cell (p:=⟨xb,3,none⟩) XL.o).trans XV.o);have Ao:=(show w4.cell? ⟨hb,0,none⟩=some (.map (some mp))from(B4.o.cell (p:=⟨hb,0,none⟩) HL.o).trans HV.o)
  by_cases A0:many=true
  ·obtain⟨w5,h5⟩:∃w5,w4.setCell ⟨w1.heap.size,5,none⟩ (.int .i64 (c2:Int))=w5:=⟨_,rfl⟩
   have K5:=Yh (Zn0 K4.o h5);have B5:=Yh (Z6 B4.o FB.o.1 h5);have A9:=(cell6L K4.o).2.2.2.2.2;have Aa:=K4.o.free 5;have Ap:=(show w5.cell? ⟨hb,0,none⟩=some (.map (some mp))from(B5.o.cell (p:=⟨hb,0,none⟩) HL.o).trans HV.o);subst A0;go_upto_region 8 with fail;clear A9 Aa h5;have MW:=@Yh (FMz w5 mp n M) (FMap.block M1.o (B5.o.block mp A1.o |>.trans (Q1.o.block mp A1.o).symm));obtain⟨w6,hst,hm6,hg6⟩:=FMap.store MW.o (.agg #[.bool z0.se.meth,.int .i64 z0.se.typ,.bool z0.se.ptr,.bool z0.se.via,.slice z0.po pl0 z0.pc,.int .i64 (c2:Int)]) A2.o (by omega)
   have HR:=Yh (show FMz w6 mp (n+1) (addF M nm z true)from by
    have e:(fun t=>((addF M nm z true) t).map fun p=>fV p.1 p.2)=(fun t=>if t=nm then some (Value.agg #[.bool z0.se.meth,.int .i64 z0.se.typ,.bool z0.se.ptr,.bool z0.se.via,.slice z0.po pl0 z0.pc,.int .i64 (c2:Int)])else(M t).map fun p=>fV p.1 p.2):=by
     funext t
     unfold addF
     by_cases ht:t=nm
     ·rw[if_pos ht,if_pos ht,hMn]
      unfold incF;rw[if_pos rfl]
      show some (fV z0 _)=_
      unfold fV;rw[A5.o]
      show some (Value.agg #[.bool z0.se.meth,.int .i64 z0.se.typ,.bool z0.se.ptr,.bool z0.se.via,.slice z0.po pl0 z0.pc,.int .i64 ((c+2:Nat):Int)])=_
      rw[Ah.o.2]
     ·rw[if_neg ht,if_neg ht]
    unfold FMz;rw[e];exact hm6)
   have A3:=@Yh (SameX mp w w6/\Below mp w w6) (⟨⟨Yj B5.o.size hg6.size,fun b hb hc=>(hg6.block b (Yi hb B5.o.size) (fun e=>by injection e with e;exact hc e)).trans (B5.o.block b hb)⟩,(B5.o.mono (Nat.le_of_lt A1.o)).grown hg6 (Yj (Nat.le_of_lt A1.o) B5.o.size) (fun k e=>by injection e with e;omega)⟩);obtain⟨l0,l1,l2,l3,l4,l5⟩:=cell6L K5.o;clear hm6 hg6;go_wp2_with fail;go_end0
   try rw[if_pos HQ.o]
   exact⟨⟨_,rfl⟩,A3.o,by first|exact HR.o|(rw[<-HQ.o];exact HR.o)⟩
  ·have A0:many=false:=by simpa using A0
   subst A0;go_upto_region 8 with fail;have MW:=@Yh (FMz w4 mp n M) (FMap.block M1.o (B4.o.block mp A1.o |>.trans (Q1.o.block mp A1.o).symm));obtain⟨w6,hst,hm6,hg6⟩:=FMap.store MW.o (.agg #[.bool z0.se.meth,.int .i64 z0.se.typ,.bool z0.se.ptr,.bool z0.se.via,.slice z0.po pl0 z0.pc,.int .i64 (c1:Int)]) A2.o (by omega)
   have HR:=Yh (show FMz w6 mp (n+1) (addF M nm z false)from by
    have e:(fun t=>((addF M nm z false) t).map fun p=>fV p.1 p.2)=(fun t=>if t=nm then some (Value.agg #[.bool z0.se.meth,.int .i64 z0.se.typ,.bool z0.se.ptr,.bool z0.se.via,.slice z0.po pl0 z0.pc,.int .i64 (c1:Int)])else(M t).map fun p=>fV p.1 p.2):=by
     funext t
     unfold addF
     by_cases ht:t=nm
     ·rw[if_pos ht,if_pos ht,hMn]
      unfold incF;rw[if_neg (by decide)]
      show some (fV z0 _)=_
      unfold fV;rw[A5.o]
      show some (Value.agg #[.bool z0.se.meth,.int .i64 z0.se.typ,.bool z0.se.ptr,.bool z0.se.via,.slice z0.po pl0 z0.pc,.int .i64 ((c+1:Nat):Int)])=_
      rw[Ah.o.1]
     ·rw[if_neg ht,if_neg ht]
    unfold FMz;rw[e];exact hm6)
   have A3:=@Yh (SameX mp w w6/\Below mp w w6) (⟨⟨Yj B4.o.size hg6.size,fun b hb hc=>(hg6.block b (Yi hb B4.o.size) (fun e=>by injection e with e;exact hc e)).trans (B4.o.block b hb)⟩,(B4.o.mono (Nat.le_of_lt A1.o)).grown hg6 (Yj (Nat.le_of_lt A1.o) B4.o.size) (fun k e=>by injection e with e;omega)⟩);obtain⟨l0,l1,l2,l3,l4,l5⟩:=cell6L K4.o;clear hm6 hg6;go_wp2_with fail;go_end0
   try rw[if_pos HQ.o]
   exact⟨⟨_,rfl⟩,A3.o,by first|exact HR.o|(rw[<-HQ.o];exact HR.o)⟩
end Go.Proofs.YtdcajkagakikiaaGreatDoor
