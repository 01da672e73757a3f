import Derived.Test.YtdcajkagakikiaaGreatDoorQ22
namespace Go.Proofs.YtdcajkagakikiaaGreatDoor
set_option maxHeartbeats 64000000
set_option linter.unusedSimpArgs false
set_option linter.unusedVariables false
open Go.RowKit
set_option maxRecDepth 100000 in
theorem Zu8(Sb:Nat->Prop)(n0:Nat)(u:Un)(es:List Sp)(ls:List Lk)(seen:List Int)(val:Value)(w:World)(hSb:∀b,w.heap.size<=b->Sb b)(hL:LvA Sb w val ⟨u,es,ls,seen,0⟩)(hok:Lok n0 ⟨u,es,ls,seen,0⟩)(hn0:n0<=900) :
  Calls Tryz.prog 32 #[val] w fun e w'=>∃val',e=.returned val'/\LvA Sb w' val' (nextL ⟨u,es,ls,seen,0⟩)/\Below w.heap.size w w':=by
 obtain⟨ao,no,ac,nc,eo,ec,wo,wcap,so,sc,ez,wz,rfl,hU,hE,hm,hp,hec,hW,hI,hwc,hd,hs,Aq,hsn⟩:=hL;have hr:rightU u=true:=hok.r;have hU:UnS Sb w ao no ac nc u:=hU;have hm:ez.map (·.sp)=es:=hm;have hd:wz.map (fun z=>(z.form,z.ms))=ls.map dataW:=hd;have hs:IRowS Sb w so seen:=hs;have Aq:seen.length<=sc:=Aq;have AG:ls.map (·.sp)=es:=hok.sp;have AH:∀l∈ls,inL u.types l.form=true:=hok.ls;have A0:∀s∈es,s.path.length<=n0:=hok.pl;have B4:seen.Nodup:=hok.nd;have Ar:es.length<=400/\seen.length<=400:=hok.len;have Ay:Gl u (nextT u ls seen):=ZO5 hok;have AI:(seen++(nextT u ls seen).map (·.typ)).Nodup:=ZK5 hok;have Br:∀t∈seen,inL u.types t=true:=hok.si;have A5:=hr;rw[Z8,Yd]at A5;have e1:ez.length=es.length:=by rw[<-hm,Yg]
 have e2:ls.length=es.length:=by rw[<-AG,Yg]
 have e3:wz.length=ls.length:=by have:=congrArg List.length hd;simpa using this
 obtain⟨n9,hn9⟩:=Yn (es.length);rw[hn9]at e1 e2 Ar;rw[e2]at e3
 have Bs:=Yh (show ∀k (h1:k<ez.length) (h2:k<ls.length) (h3:k<wz.length),ls[k].sp=ez[k].sp/\ls[k].form=wz[k].form/\inL u.types wz[k].form=true/\ez[k].sp.path.length<=n0 from fun k h1 h2 h3=>by
  have a1:=Zw3 (AG.trans hm.symm) h2 h1;have a2:=congrArg Prod.fst (Zw3 hd h3 h2);have a2:wz[k].form=ls[k].form:=a2;refine⟨a1,a2.symm,by rw[a2];exact AH _ (Yq h2),?_⟩;refine A0 _ ?_;rw[<-hm];exact List.mem_map_of_mem (Yq h1))
 have Bt:=Yh e1;have B7:=Yh e2;have Bu:=Yh e3;have AJ:=@Yh (nextL ⟨u,es,ls,seen,0⟩=lkL u (nextT u ls seen) (seen++(nextT u ls seen).map (·.typ))) (rfl);obtain⟨NT,hNT⟩:=Yn (nextT u ls seen);rw[hNT]at AJ Ay AI;have Bv:=@Yh (NT=(allEmbs u ls).foldl (addS seen) []) (by rw[<-hNT];rfl);have Bw:=Yh Ay
 have Cn:NT.length<=400:=by
  have:=ZN1 A5.1 (List.nodup_append.1 AI).2.1 (fun t ht=>by obtain⟨y,hy,rfl⟩:=Y4.1 ht;exact Ay.2 y hy)
  simpa using this
 have H32:=Yh AH;have Bx:=Yh B4;have AK:=Yh hr;have AL:=Yh A5.1;have B8:=Yh hSb;have By:=Yh hE;have Bz:=Yh hp;have Az:=Yh hs;have BB:=Yh hsn;obtain⟨FL,hFL⟩:=Yn (nextL ⟨u,es,ls,seen,0⟩);rw[hFL]at AJ ⊢;have BC:=Zx1 A5.1;obtain⟨ab,aof,rfl,hab,hac2⟩:=hU.o.types.cells (by omega);have Ba:=Yh hac2;have A2:=Yh hab;have BD:=Yh hW;obtain⟨L,hL⟩:=Yn (u.types.length);obtain⟨n,hn⟩:=Yn (u.named.length);obtain⟨sl,hsl⟩:=Yn (seen.length);have HL:=Yh hL;have HN:=Yh hn;have A6:=Yh hsl;rw[hL]at BC;rw[hsl]at Ar Aq
 show Calls _ _ #[.agg #[.slice (some ⟨ab,aof,none⟩) u.types.length ac,.slice no u.named.length nc,.slice eo ez.length ec,.slice wo wz.length wcap,.slice so seen.length sc,.int .i64 0]] w _
 rw[hL,hn,hsl,e1,e3];obtain⟨w1,h1,k1,q1,z1⟩:=YA w #[.slice (some ⟨ab,aof,none⟩) L ac,.slice no n nc,.slice eo n9 ec,.slice wo n9 wcap,.slice so sl sc,.int .i64 0] 78;obtain⟨w2,h2,k2,q2,z2⟩:=YA w1 #[.slice none 0 0,.slice none 0 0,.slice none 0 0,.slice none 0 0,.slice none 0 0,.int .i64 0] 78;obtain⟨w3,h3,k3,q3,z3⟩:=YA w2 #[] 115;have B2:=Yh (q1.trans (q2.mono q1.size));have B3:=YT B2 q3;have SZ:=@Yh (w1.heap.size=w.heap.size+1/\w2.heap.size=w.heap.size+2/\w3.heap.size=w.heap.size+3) (by omega);have Ac:=Yh ((k1.below q2).below q3);have BE:=Yh (k2.below q3);have BF:=Yh ((ZM hU (c:=w.heap.size) (d:=w1.heap.size) ⟨Yk _,q1.size⟩).same (SameS.below B3.o));obtain⟨i0,hi,hz0,hz1,hz2⟩:=info_parts ZI0;have c2:=(cell6L Ac.o).2.2.1;clear hr hm hd hs AG AH A0 B4 Ay AI Br A5 hn9 e1 e2 e3 hNT hFL hac2 hab hW hE hp hI hU hL hn hsl hSb hok hsn k1 k2 k3 q1 q2 q3 z1 z2 z3;go_enter Tryz.func32,Tryz.ntmps32;go_wp2_with fail;clear h1 h2 h3 c2;go_loopw [3,18] (fun v i wr=>∃(k:Nat) (zs:List Ez) (a1:Option Addr) (c1 m1:Nat),k<=n9/\i=.int .i64 k/\v=.slice a1 m1 c1/\Hi (zs.length=m1)/\Hi (GRow 4 eC (fun b=>w2.heap.size<=b) wr a1 zs)/\Hi (m1<=c1)/\Hi (∀z∈zs,PathIn (fun b=>w2.heap.size<=b) wr z)/\Hi (zs.map (·.sp)=(allEmbs u (ls.take k)).foldl (addS seen) [])/\Hi (Below w3.heap.size w3 wr)) (fun _ i _=>n9-(intOf i).toNat)
 case atStart=>exact⟨0,[],some ⟨w2.heap.size,0,none⟩,0,0,Yl _,rfl,rfl,Yh rfl,Yh (.inl rfl),Yh (Yk _),Yh (fun z hz=>absurd hz (by simp)),Yh (by rw[List.take_zero];rfl),Yh (Y8 _ _)⟩
 case round =>
  obtain⟨k,zs,a1,c1,m1,hk,rfl,rfl,HM1,HG,HC1,HP,HZ,HB⟩:=hrel;have Aa:=YT B3 HB.o;have Ag:=@Yh (w.heap.size<w3.heap.size) (by have:=SZ.o;omega)
  by_cases hkn:k<n9
  ·have Ah:k<ez.length:=by rw[Bt.o];exact hkn
   have AM:k<ls.length:=by rw[B7.o];exact hkn
   have AN:k<wz.length:=by rw[Bu.o];exact hkn
   obtain⟨b,off,rfl,hb,-,hc⟩:=By.o.cells (by omega);have hc:=hc k Ah;obtain⟨wb,wof,rfl,hwb,-,hwcl⟩:=BD.o.cells (by omega);have hf:=hwcl k AN 0 _ rfl;obtain⟨d1,d2,d3,d4⟩:=Bs.o k Ah AM AN;have AA:=Bz.o _ (Yq Ah);obtain⟨y,hy⟩:=Yn (ez[k]);obtain⟨fm,hfm⟩:=Yn (wz[k].form);rw[hy]at hc AA d1 d4;rw[hfm]at hf d2 d3;unfold inL at d3;have d3:=Yf d3;obtain⟨zf,rfl⟩:∃zf:Nat,fm=(zf:Int):=⟨fm.toNat,by omega⟩
   have Ai:zf<u.types.length:=by omega
   obtain⟨xw,xwc,xk,xkc,a0',a1',a2',a3',a4',hwc9,hkc9,hxc⟩:=Ba.o zf Ai;have AO:=Yh (fun h6=>ZB0 AL.o Ai h6);have Bb:=Yh (fun kk=>Zd7 AK.o Ai y.sp kk)
   have Bc:=Yh (show allEmbs u (ls.take (k+1))=allEmbs u (ls.take k)++(if u.types[zf].kind=6 then embsT u y.sp 0 (u.types[zf].words.zip u.types[zf].kids)else[])by
    rw[ZU7 AM,d1,d2,Z80 Ai])
   have Bd:=Yh (fun j=>Zu1 AL.o (by omega) Ai j);obtain⟨x,hx⟩:=Yn (u.types[zf]);rw[hx]at a0' a1' a2' a3' a4' hwc9 hkc9 hxc AO Bb Bc Bd;have HX:=Yh (hxc.below Aa.o);have BG:=Yh (AA.1.same (SameS.below Aa.o));have AP:=Yh AA.2;have AQ:=Yh d4;obtain⟨m,hm⟩:=Yn (x.words.length);obtain⟨kl,hkl⟩:=Yn (x.kids.length);obtain⟨pl,A0⟩:=Yn (y.sp.path.length);have HM:=Yh hm;have BH:m<=18:=by have:=hxc.ok.wl;omega
   have BI:=Yh hkl;have An:=Yh A0;rw[hm]at a3' hwc9;rw[hkl]at a4' hkc9;have r0:=(Aa.o.cell (p:=⟨b,off+k*4+0,none⟩) hb).trans (hc 0 _ rfl);have r1:=(Aa.o.cell (p:=⟨b,off+k*4+1,none⟩) hb).trans (hc 1 _ rfl);have r2:=(Aa.o.cell (p:=⟨b,off+k*4+2,none⟩) hb).trans (hc 2 _ rfl);have r3:=(Aa.o.cell (p:=⟨b,off+k*4+3,none⟩) hb).trans (hc 3 _ rfl);rw[Nat.add_zero]at r0;rw[A0]at r3;obtain⟨wa,ha,ka,qa,za⟩:=YA wr #[.int .i64 y.sp.typ,.bool y.sp.via,.bool y.sp.many,.slice y.po pl y.pc] 115;have KA:=Yh ka;have QA:=Yh qa;have BA:=YT Aa qa;have Be:=YT HB qa;have x0:=(Be.o.cell (p:=⟨w.heap.size,0,none⟩) Ag.o).trans (cell6L Ac.o).1;have x3:=(Be.o.cell (p:=⟨w.heap.size,3,none⟩) Ag.o).trans (cell6L Ac.o).2.2.2.1;have fo:=(BA.o.cell (p:=⟨wb,wof+k*2+0,none⟩) hwb).trans hf;rw[Nat.add_zero]at fo;have t0:=(BA.o.cell (p:=⟨ab,aof+zf*5,none⟩) A2.o).trans a0';have t1:=(BA.o.cell (p:=⟨ab,aof+zf*5+1,none⟩) A2.o).trans a1';have t2:=(BA.o.cell (p:=⟨ab,aof+zf*5+2,none⟩) A2.o).trans a2';have t3:=(BA.o.cell (p:=⟨ab,aof+zf*5+3,none⟩) A2.o).trans a3';have t4:=(BA.o.cell (p:=⟨ab,aof+zf*5+4,none⟩) A2.o).trans a4';have Co:(k:Int)<(n9:Int):=by omega
   have Cp:(zf:Int)<(L:Int):=by rw[<-HL.o];omega
   have Cq:=Yh Ai;have ZA:=@Yh (wr.heap.size+1=wa.heap.size) (za.symm);have BJ:=@Yh (w3.heap.size<=wr.heap.size) (HB.o.size);clear hc hwcl hf d1 d2 d3 d4 AA hy hfm hx hxc a0' a1' a2' a3' a4' hm hkl A0 ka qa za hb hwb Ah AM AN Ai;go_upto_region 5 with fail;clear r0 r1 r2 r3 ha;refine GoG.start [(13,⟨w.heap.size,0,none⟩,.slice (some ⟨ab,aof,none⟩) L ac),(13,⟨w.heap.size,3,none⟩,.slice (some ⟨wb,wof,none⟩) n9 wcap),(13,⟨wb,wof+k*2,none⟩,.int .i64 zf),(13,⟨ab,aof+zf*5,none⟩,.int .i64 x.kind),(13,⟨ab,aof+zf*5+1,none⟩,.string x.name),(13,⟨ab,aof+zf*5+2,none⟩,.int .i64 x.n),(13,⟨ab,aof+zf*5+3,none⟩,.slice xw m xwc),(13,⟨ab,aof+zf*5+4,none⟩,.slice xk kl xkc)] (by kernel_rfl) ?_ ?_
   ·exact Kd (Kd (Kd (Kd (Kd (Kd (Kd (Kd (Kn))))))))
   refine GoG.fr 0 ?_;refine GoG.fr 1 ?_;refine GoG.s1 2 0 [13] ?_;refine GoG.fr 3 ?_;refine GoG.s1 4 1 [13] ?_;refine GoG.fr 5 ?_;refine GoG.fr 6 ?_;refine GoG.fr 7 ?_;refine GoG.s1 8 2 [13] ?_;refine GoG.fr 9 ?_;refine GoG.s5 10 3 [13] ?_;obtain⟨w5,h5,k5,q5,z5⟩:=YA wa.drew #[.int .i64 0,.string ⟨#[]⟩,.int .i64 0,.slice none 0 0,.slice none 0 0] 50;have K5:=@Yh (BlockAt w5 wa.heap.size _ _) (k5);have B5:=Yh (((Y8 wa.heap.size wa).drew).trans q5);have N5:=Yh (Yk wa.heap.size);clear k5 q5 z5;refine GoG.on 11 fun K hK=>?_
   go_simp
   try rw[h5]
   refine hK.out _ _ (Kc (YR B5.o x0) (Kc (YR B5.o x3) (Kc (YR B5.o fo) (Kc (YR B5.o t0) (Kc (YR B5.o t1) (Kc (YR B5.o t2) (Kc (YR B5.o t3) (Kc (YR B5.o t4) (Kn))))))))) ?_;clear hK K
   try simp only[Act.put,YB,YC,YD,YE,YF,YG]
   obtain⟨w6,h6⟩:=Yn ((((((w5.setCell ⟨wa.heap.size,0,none⟩ (.int .i64 x.kind)).setCell ⟨wa.heap.size,1,none⟩ (.string x.name)).setCell ⟨wa.heap.size,2,none⟩ (.int .i64 x.n)).setCell ⟨wa.heap.size,3,none⟩ (.slice xw m xwc)).setCell ⟨wa.heap.size,4,none⟩ (.slice xk kl xkc)));have K6:=Yh (Z70 K5.o h6);have B6:=@Yh (Below wa.heap.size wa w6) (by rw[<-h6];exact Zh B5.o N5.o _ _ _ _ _);obtain⟨⟨g0,g1,g2,g3,g4⟩,p0,p1,p2,p3,p4⟩:=ZD K5.o;refine GoG.on 12 fun K hK=>?_
   go_simp
   try rw[h6]
   refine hK.out _ _ (Kc (YR B6.o x0) (Kc (YR B6.o x3) (Kc (YR B6.o fo) (Kc (YR B6.o t0) (Kc (YR B6.o t1) (Kc (YR B6.o t2) (Kc (YR B6.o t3) (Kc (YR B6.o t4) (Kn))))))))) ?_;clear x0 x3 fo t0 t1 t2 t3 t4;clear hK K h5 h6 g0 g1 g2 g3 g4 p0 p1 p2 p3 p4
   try simp only[Act.put,YB,YC,YD,YE,YF,YG]
   refine GoG.done (by kernel_rfl) ?_ _;have BK:=(cell5 K6.o).2.2.2.1;have R6:=@Yh (Below wr.heap.size wr w6) (YU QA B6.o);go_wp2_with fail;clear BK;go_loopw [3,37] (fun v2 i2 wi=>∃(kk:Nat) (zs2:List Ez) (a2:Option Addr) (c2 m2:Nat),kk<=m/\i2=.int .i64 kk/\v2=.slice a2 m2 c2/\Hi (zs2.length=m2)/\Hi (GRow 4 eC (fun b=>w2.heap.size<=b) wi a2 zs2)/\Hi (m2<=c2)/\Hi (∀z∈zs2,PathIn (fun b=>w2.heap.size<=b) wi z)/\Hi (zs2.map (·.sp)=(allEmbs u (ls.take k)++inner u y.sp x kk).foldl (addS seen) [])/\Hi (Below w6.heap.size w6 wi)) (fun _ i2 _=>m-(intOf i2).toNat)
   case atStart=>exact⟨0,zs,a1,c1,m1,Yl _,rfl,rfl,HM1,Yh (HG.o.below R6.o),HC1,Yh (fun z hz=>(HP.o z hz).same (SameS.below R6.o)),Yh (by rw[Zc5,List.append_nil];exact HZ.o),Yh (Y8 _ _)⟩
   case round =>
    rename World=>wi
    obtain⟨kk,zs2,a2,c2,m2,hkk,rfl,rfl,HM2,HG2,HC2,HP2,HZ2,HB6⟩:=hrel;have RW:=@Yh (Below wr.heap.size wr wi) (YU R6 HB6.o);have AW:=@Yh (Below wa.heap.size wa wi) (YU B6 HB6.o);have KW:=Yh (K6.o.below HB6.o)
    by_cases hkm:kk<m
    ·have A4:kk<x.words.length:=by rw[HM.o];exact hkm
     obtain⟨xb,xof,rfl,hxb,hxcl⟩:=HX.o.words.cells (by omega);have hw:=hxcl kk A4;rw[Z3 A4]at hw;obtain⟨wd,hwd⟩:=Yn (x.words[kk]);rw[hwd]at hw;have BL:=(RW.o.cell (p:=⟨xb,xof+kk,none⟩) hxb).trans hw;have d0:=(cell5 KW.o).1;have BM:(kk:Int)<(m:Int):=by omega
     by_cases h6:x.kind=6
     ·obtain⟨s1,s2,s3⟩:=AO.o h6
      have Ao:kk<x.kids.length:=by rw[<-s1];exact A4
      have AR:0<wd.size:=by rw[<-hwd];exact s3 _ (Yq A4)
      have Cr:wd.size<=9223372036854775807:=by rw[<-hwd];exact HX.o.ok.ws _ (Yq A4)
      have BO:(x.kind != 6)=false:=by rw[bne_eq_false_iff_eq];exact h6
      obtain⟨kb,kof,rfl,hkb,hkcl⟩:=HX.o.kids.cells (by omega);have A7:=hkcl kk Ao;have Ap:=Bd.o kk;rw[Z3 Ao]at A7 Ap;obtain⟨kq,hkq⟩:=Yn (x.kids[kk]);rw[hkq]at A7 Ap;have A3:=ZG4 (u:=u) (s:=y.sp) h6 A4 Ao hwd hkq
      by_cases h43:byteAt wd 0=43
      ·have A1:=@Yh (inner u y.sp x (kk+1)=inner u y.sp x kk++[downS u y.sp kk kq]) (by rw[A3,if_pos (by unfold embB;exact Yb ⟨AR,h43⟩)])
       have h2:(wd[0].toNat:Int)=43:=by rw[<-Zm AR];exact h43
       have BP:(kk:Int)<(kl:Int):=by rw[BI.o]at Ao;omega
       have Ad:=(RW.o.cell (p:=⟨kb,kof+kk,none⟩) hkb).trans A7;unfold inL at Ap;have AS:=Yf Ap;obtain⟨zk,rfl⟩:∃zk:Nat,kq=(zk:Int):=⟨kq.toNat,by omega⟩
       have HZK:=@Yh (zk<u.types.length) (by omega);have Bf:(allEmbs u (ls.take k)++inner u y.sp x kk).foldl (addS seen) []=zs2.map (·.sp):=HZ2.o.symm
       have As:=ZN7 (u:=u) AK.o Bx.o (X:=allEmbs u (ls.take k)++inner u y.sp x kk) (fun a ha=>by
        rcases Yz.1 ha with g|g
        ·exact all_in AK.o (fun l hl=>H32.o l (List.mem_of_mem_take hl)) a g
        ·exact Bb.o kk a g)
       rw[Bf,Yg,HM2.o]at As;have AB:=Yh As;have Aj:=fun W (hb:Below wi.heap.size wi W)=>Z53 y.po y.pc y.sp.path (kk:Int) W ((BG.o.same (SameS.below (YU RW hb))).o) (by have:=AQ.o;omega) AP.o.2
       rw[An.o]at Aj;have Bg:=Yh Aj;clear h6 h43 A3 Ap AS Bf As hwd hw hxcl hxb hkcl hkb A7 hkq s1 s2 s3 A4 Ao Aj;go_upto_region 10 with fail;clear BL d0;have d4:=(cell5 KW.o).2.2.2.2;have BQ:=Yh (KA.o.below AW.o);obtain⟨-,y1,y2,y3⟩:=cell4 BQ.o;go_cut [9] (fun v9 wx=>∃xb9 po pc,v9=.pointer (some ⟨xb9,0,none⟩)/\Hi (BlockAt wx xb9 #[.int .i64 zk,.bool y.sp.via,.bool y.sp.many,.slice po (pl+1) pc] 115)/\Hi (IRowS (fun b=>wi.heap.size<=b/\b≠xb9) wx po (y.sp.path++[(kk:Int)]))/\Hi (pl+1<=pc/\(po=none->pc=0))/\Hi (Below wi.heap.size wi wx)/\Hi (wi.heap.size<=xb9))
       case first =>
        refine GoG.start [(16,⟨wa.heap.size,4,none⟩,.slice (some ⟨kb,kof,none⟩) kl xkc),(16,⟨kb,kof+kk,none⟩,.int .i64 zk),(16,⟨wr.heap.size,1,none⟩,.bool y.sp.via),(16,⟨wr.heap.size,2,none⟩,.bool y.sp.many),(16,⟨wr.heap.size,3,none⟩,.slice y.po pl y.pc)] (by kernel_rfl) ?_ ?_
        ·exact Kd (Kd (Kd (Kd (Kd (Kn)))))
        refine GoG.fr 0 ?_;refine GoG.s1 1 0 [16] ?_;refine GoG.fr 2 ?_;refine GoG.fr 3 ?_;refine GoG.s1 4 1 [16] ?_;refine GoG.fr 5 ?_;refine GoG.s1 6 2 [16] ?_;refine GoG.fr 7 ?_;refine GoG.s1 8 3 [16] ?_;refine GoG.fr 9 ?_;refine GoG.s1 10 4 [16] ?_;refine GoG.fr 11 ?_;refine GoG.two (i:=12) (j:=14) rfl rfl (by kernel_rfl) (fun K hK=>?_) (fun K hK=>?_)
        ·go_simp
         refine(Bg.o _ (Y8 _ _).drew).mono ?_;rintro e9 wv ⟨pv,rfl,hO,bq⟩;have BV:=Yh (((Y8 wi.heap.size wi).drew).trans bq);obtain⟨po,pc,hv,A0,hpb,hpr⟩:=(ZT0 hO).row ZW;have At:=fun g=>(OwnG.none0 (hv▸ZT0 hO)) g
         have el:(y.sp.path++[(kk:Int)]).length=pl+1:=by rw[Ye,An.o];rfl
         rw[el]at hv A0;subst hv;have PL:=Yh (YH A0 At);obtain⟨wn,hwn,kn,qn,zn⟩:=YA wv #[.int .i64 0,.bool false,.bool false,.slice none 0 0] 115;have KN:=Yh kn;have BN:=YT BV qn;have NB:=Yh BV.o.size
         have PI:=Yh (show IRowS (fun b=>wi.heap.size<=b/\b≠wv.heap.size) wn po (y.sp.path++[(kk:Int)])from by
          refine Z7 ?_ (SameS.below qn)
          rcases ZX (hpr (fun b=>wi.heap.size<=b) (fun b hb=>hb))with g|⟨b,off,e,hb,hS,hc⟩
          ·exact .inl g
          ·exact .inr ⟨b,off,e,hb,⟨hS,Nat.ne_of_lt hb⟩,hc⟩)
         clear hO bq A0 hpb hpr At el kn qn zn;refine hK.out _ _ (Kc (YR BV.o d4) (Kc (YR BV.o Ad) (Kc (YR BV.o y1) (Kc (YR BV.o y2) (Kc (YR BV.o y3) (Kn)))))) ?_;clear hK K;refine GoG.fr 13 ?_;refine GoG.on 14 fun K hK=>?_
         go_simp
         try rw[hwn]
         refine hK.out _ _ (Kc (YR BN.o d4) (Kc (YR BN.o Ad) (Kc (YR BN.o y1) (Kc (YR BN.o y2) (Kc (YR BN.o y3) (Kn)))))) ?_;clear hK K hwn
         try simp only[Act.put,YB,YC,YD,YE,YF,YG]
         obtain⟨s,hs⟩:=Yn (((((wn.setCell ⟨wv.heap.size,0,none⟩ (.int .i64 zk)).setCell ⟨wv.heap.size,1,none⟩ (.bool y.sp.via)).setCell ⟨wv.heap.size,2,none⟩ (.bool y.sp.many)).setCell ⟨wv.heap.size,3,none⟩ (.slice po (pl+1) pc)));have KS:=Yh (ZJ1 KN.o hs);have BS:=@Yh (Below wi.heap.size wi s) (by rw[<-hs];exact(((BN.o.setCell NB.o _).setCell NB.o _).setCell NB.o _).setCell NB.o _);have PS:=@Yh (IRowS (fun b=>wi.heap.size<=b/\b≠wv.heap.size) s po (y.sp.path++[(kk:Int)])) (Z7 PI.o (by rw[<-hs];exact(((SameS.set (fun g=>g.2 rfl) rfl).trans (SameS.set (fun g=>g.2 rfl) rfl)).trans (SameS.set (fun g=>g.2 rfl) rfl)).trans (SameS.set (fun g=>g.2 rfl) rfl)));obtain⟨⟨g0,g1,g2,g3⟩,p0,p1,p2,p3⟩:=ZI1 KN.o;refine GoG.on 15 fun K hK=>?_
         go_simp
         try rw[hs]
         clear g0 g1 g2 g3 p0 p1 p2 p3;refine hK.out _ _ (Kc (YR BS.o d4) (Kc (YR BS.o Ad) (Kc (YR BS.o y1) (Kc (YR BS.o y2) (Kc (YR BS.o y3) (Kn)))))) ?_;clear hK K hs d4 Ad y1 y2 y3
         try simp only[Act.put,YB,YC,YD,YE,YF,YG]
         refine GoG.done (by kernel_rfl) ?_ _;go_wp2_with fail;go_meet
         case rel=>exact⟨wv.heap.size,po,pc,rfl,KS,PS,PL,BS,NB⟩
        ·obtain⟨wn,hwn⟩:∃wn,wi.drew.alloc (.cells #[.int .i64 0,.bool false,.bool false,.slice none 0 0] 115)=wn:=⟨_,rfl⟩
         obtain⟨kn,qn,zn⟩:=Za hwn;have BR:=@Yh (BlockAt wn wi.heap.size _ _) (kn);have Ak:=Yh (((Y8 wi.heap.size wi).drew).trans qn);have NB:=Yh (Yk wi.heap.size);have ZN:=@Yh (wn.heap.size=wi.heap.size+1) (zn);go_simp
         try rw[hwn]
         refine hK.out _ _ (Kc (YR Ak.o d4) (Kc (YR Ak.o Ad) (Kc (YR Ak.o y1) (Kc (YR Ak.o y2) (Kc (YR Ak.o y3) (Kn)))))) ?_;clear hK K qn kn zn hwn
         try simp only[Act.put,YB,YC,YD,YE,YF,YG]
         refine GoG.on 12 fun K hK=>?_
         go_simp;refine(Bg.o _ Ak.o).mono ?_;rintro e9 wv ⟨pv,rfl,hO,bq⟩;obtain⟨po,pc,hv,A0,hpb,hpr⟩:=(ZT0 hO).row ZW;have At:=fun g=>(OwnG.none0 (hv▸ZT0 hO)) g
         have el:(y.sp.path++[(kk:Int)]).length=pl+1:=by rw[Ye,An.o];rfl
         rw[el]at hv A0;subst hv;have PL:=Yh (YH A0 At);have KN:=Yh (BR.o.below bq);have BN:=YT Ak bq;have PI:=@Yh (IRowS (fun b=>wi.heap.size<=b/\b≠wi.heap.size) wv po (y.sp.path++[(kk:Int)])) (ZX (hpr (fun b=>wi.heap.size<=b/\b≠wi.heap.size) (fun b hb=>by have:=ZN.o;have:=NB.o;omega)));clear hO bq A0 hpb hpr At el;refine hK.out _ _ (Kc (YR BN.o d4) (Kc (YR BN.o Ad) (Kc (YR BN.o y1) (Kc (YR BN.o y2) (Kc (YR BN.o y3) (Kn)))))) ?_;clear hK K;refine GoG.fr 13 ?_;obtain⟨s,hs⟩:=Yn (((((wv.setCell ⟨wi.heap.size,0,none⟩ (.int .i64 zk)).setCell ⟨wi.heap.size,1,none⟩ (.bool y.sp.via)).setCell ⟨wi.heap.size,2,none⟩ (.bool y.sp.many)).setCell ⟨wi.heap.size,3,none⟩ (.slice po (pl+1) pc)));have KS:=Yh (ZJ1 KN.o hs);have BS:=@Yh (Below wi.heap.size wi s) (by rw[<-hs];exact(((BN.o.setCell NB.o _).setCell NB.o _).setCell NB.o _).setCell NB.o _);have PS:=@Yh (IRowS (fun b=>wi.heap.size<=b/\b≠wi.heap.size) s po (y.sp.path++[(kk:Int)])) (Z7 PI.o (by rw[<-hs];exact(((SameS.set (fun g=>g.2 rfl) rfl).trans (SameS.set (fun g=>g.2 rfl) rfl)).trans (SameS.set (fun g=>g.2 rfl) rfl)).trans (SameS.set (fun g=>g.2 rfl) rfl)));obtain⟨⟨g0,g1,g2,g3⟩,p0,p1,p2,p3⟩:=ZI1 KN.o;refine GoG.on 15 fun K hK=>?_
         go_simp
         try rw[hs]
         clear g0 g1 g2 g3 p0 p1 p2 p3;refine hK.out _ _ (Kc (YR BS.o d4) (Kc (YR BS.o Ad) (Kc (YR BS.o y1) (Kc (YR BS.o y2) (Kc (YR BS.o y3) (Kn)))))) ?_;clear hK K hs d4 Ad y1 y2 y3
         try simp only[Act.put,YB,YC,YD,YE,YF,YG]
         refine GoG.done (by kernel_rfl) ?_ _;go_wp2_with fail;go_meet
         case rel=>exact⟨wi.heap.size,po,pc,rfl,KS,PS,PL,BS,NB⟩
       case rest =>
        obtain⟨xb9,po,pc,rfl,KB9,HPI,HPC,Ax,NB9⟩:=hcut;clear d4 y1 y2 y3 Ad;have WC:=@Yh (Below wr.heap.size wr wc) (YU RW Ax.o);have Bh:=@Yh (Below w3.heap.size w3 wc) (YU HB WC.o);have A8:=@Yh (Below w.heap.size w wc) (YU Aa WC.o);obtain⟨vw,vwc,vk,vkc,b0',b1',b2',b3',b4',hvw,hvk,hvc⟩:=Ba.o zk HZK.o;have Bi:=Yh (fun h1=>ZD2 AL.o HZK.o h1);have Al:=Yh (Z80 HZK.o);obtain⟨tv,htv⟩:=Yn (u.types[zk]'HZK.o);rw[htv]at b0' b1' b2' b3' b4' hvw hvk hvc Bi Al;clear htv
        by_cases h1:tv.kind=1
        focus
         have Ah:=Bi.o h1;rw[Ah]at b4';obtain⟨vb,vof,rfl,hvb,hvcl⟩:=hvc.kids.cells (by omega);have AC:=hvcl 0 (by omega);rw[Nat.add_zero]at AC;obtain⟨q1,hq1'⟩:=Yn (tv.kids.getD 0 0);rw[hq1']at AC;have Bj:=@Yh (downS u y.sp kk (zk:Int)=⟨q1,true,y.sp.path++[(kk:Int)],y.sp.many⟩) (by unfold downS;rw[Al.o,if_pos h1,hq1']);have BT:(tv.kind==1)=true:=by rw[YK];exact h1
         have q0:=(A8.o.cell (p:=⟨vb,vof,none⟩) hvb).trans AC;have VK:=@Yh (vb<w.heap.size) (hvb);obtain⟨kl2,hkl2⟩:∃kl2:Nat,kl2=1:=⟨_,rfl⟩
         clear h1 Ah hvb hvcl AC hq1';obtain⟨mv,hmv⟩:=Yn (tv.words.length);rw[hmv]at b3';clear hmv;obtain⟨wf,hf,kf,qf,zf9⟩:=YA wc #[.int .i64 tv.kind,.string tv.name,.int .i64 tv.n,.slice vw mv vwc,.slice (some ⟨vb,vof,none⟩) 1 vkc] 50;have KF:=Yh kf;have QF:=Yh qf;have b0:=(A8.o.cell (p:=⟨ab,aof+zk*5,none⟩) A2.o).trans b0';have b1:=(A8.o.cell (p:=⟨ab,aof+zk*5+1,none⟩) A2.o).trans b1';have b2:=(A8.o.cell (p:=⟨ab,aof+zk*5+2,none⟩) A2.o).trans b2';have b3:=(A8.o.cell (p:=⟨ab,aof+zk*5+3,none⟩) A2.o).trans b3';have b4:=(A8.o.cell (p:=⟨ab,aof+zk*5+4,none⟩) A2.o).trans b4';have BU:=(Bh.o.cell (p:=⟨w.heap.size,0,none⟩) Ag.o).trans (cell6L Ac.o).1;have BW:=(cell4 KB9.o).1;have Au:=Yh (KB9.o.below qf);have WF:=YT Ax qf;have BX:=@Yh (xb9<wc.heap.size) (KB9.o.lt);have AT:=(cell5 kf).1;have Cs:=(cell5 kf).2.2.2.2;have Ct:=YR qf q0;obtain⟨wg,hg⟩:=Yn (wf.setCell ⟨xb9,0,none⟩ (.int .i64 q1));obtain⟨wh,hh⟩:=Yn (wg.setCell ⟨xb9,1,none⟩ (.bool true));have AU:=Yh (ZN6 Au.o hg);have AV:=Yh (Z56 AU.o hh);have WH:=Yh (Z6 (Z6 WF.o NB9.o hg) NB9.o hh);have PH:=Yh ((Z7 HPI.o (SameS.below QF.o)).same ((SameS.set (fun g=>g.2 rfl) hg).trans (SameS.set (fun g=>g.2 rfl) hh)));have Cu:=(cell4 Au.o).1;have Cv:=Au.o.free 0;have Cw:=(cell4 AU.o).2.1;have Cx:=AU.o.free 1;have Av:=@Yh (Below wr.heap.size wr wh) (YU RW WH.o);have AX:=@Yh (Below w3.heap.size w3 wh) (YU HB Av.o);have BY:=(AX.o.cell (p:=⟨w.heap.size,4,none⟩) Ag.o).trans (cell6L Ac.o).2.2.2.2.1;obtain⟨eh0,eh1,eh2,eh3⟩:=cell4 AV.o;obtain⟨XX,hXX⟩:∃XX:Ez,XX=⟨⟨q1,true,y.sp.path++[(kk:Int)],y.sp.many⟩,po,pc⟩:=⟨_,rfl⟩
         have AY:=Yh hXX;have A9:=Z94 zs2 a2 c2 seen so sc XX wh ((HG2.o.sub (fun _ _ _=>trivial)).below WH.o) (by have:=AB.o;have:=HM2.o;omega) (by rw[HM2.o];exact HC2.o) ((Az.o.same (SameS.below (YU Aa Av.o))).o) (by have:=A6.o;omega) (by rw[A6.o];exact Aq);rw[HM2.o,A6.o,show XX.sp.typ=q1 by rw[hXX],show XX.sp.via=true by rw[hXX],show XX.sp.many=y.sp.many by rw[hXX],show XX.po=po by rw[hXX],show XX.pc=pc by rw[hXX],show XX.sp.path.length=pl+1 by rw[hXX,Ye,An.o];rfl]at A9
        rotate_left
        focus
         have Bj:=@Yh (downS u y.sp kk (zk:Int)=⟨(zk:Int),y.sp.via,y.sp.path++[(kk:Int)],y.sp.many⟩) (by unfold downS;rw[Al.o,if_neg h1]);have BT:(tv.kind==1)=false:=by rw[Yc];exact h1
         obtain⟨kv,hkv⟩:=Yn (tv.kids.length);rw[hkv]at b4';clear h1 hkv;obtain⟨mv,hmv⟩:=Yn (tv.words.length);rw[hmv]at b3';clear hmv;obtain⟨wf,hf,kf,qf,zf9⟩:=YA wc #[.int .i64 tv.kind,.string tv.name,.int .i64 tv.n,.slice vw mv vwc,.slice vk kv vkc] 50;have KF:=Yh kf;have QF:=Yh qf;have b0:=(A8.o.cell (p:=⟨ab,aof+zk*5,none⟩) A2.o).trans b0';have b1:=(A8.o.cell (p:=⟨ab,aof+zk*5+1,none⟩) A2.o).trans b1';have b2:=(A8.o.cell (p:=⟨ab,aof+zk*5+2,none⟩) A2.o).trans b2';have b3:=(A8.o.cell (p:=⟨ab,aof+zk*5+3,none⟩) A2.o).trans b3';have b4:=(A8.o.cell (p:=⟨ab,aof+zk*5+4,none⟩) A2.o).trans b4';have BU:=(Bh.o.cell (p:=⟨w.heap.size,0,none⟩) Ag.o).trans (cell6L Ac.o).1;have BW:=(cell4 KB9.o).1;have Au:=Yh (KB9.o.below qf);have WF:=YT Ax qf;have BX:=@Yh (xb9<wc.heap.size) (KB9.o.lt);have AT:=(cell5 kf).1;obtain⟨wh,hh⟩:=Yn (wf);have AV:=@Yh (BlockAt wh xb9 _ _) (by rw[<-hh];exact Au.o);have WH:=@Yh (Below wi.heap.size wi wh) (by rw[<-hh];exact WF.o);have PH:=@Yh (IRowS (fun b=>wi.heap.size<=b/\b≠xb9) wh po (y.sp.path++[(kk:Int)])) (by rw[<-hh];exact Z7 HPI.o (SameS.below QF.o));have AT:wh.cell? ⟨wc.heap.size,0,none⟩=some (.int .i64 tv.kind):=by rw[<-hh];exact AT
         rw[hh]at hf;clear hh;have Av:=@Yh (Below wr.heap.size wr wh) (YU RW WH.o);have AX:=@Yh (Below w3.heap.size w3 wh) (YU HB Av.o);have BY:=(AX.o.cell (p:=⟨w.heap.size,4,none⟩) Ag.o).trans (cell6L Ac.o).2.2.2.2.1;obtain⟨eh0,eh1,eh2,eh3⟩:=cell4 AV.o;obtain⟨XX,hXX⟩:∃XX:Ez,XX=⟨⟨(zk:Int),y.sp.via,y.sp.path++[(kk:Int)],y.sp.many⟩,po,pc⟩:=⟨_,rfl⟩
         have AY:=Yh hXX;have A9:=Z94 zs2 a2 c2 seen so sc XX wh ((HG2.o.sub (fun _ _ _=>trivial)).below WH.o) (by have:=AB.o;have:=HM2.o;omega) (by rw[HM2.o];exact HC2.o) ((Az.o.same (SameS.below (YU Aa Av.o))).o) (by have:=A6.o;omega) (by rw[A6.o];exact Aq);rw[HM2.o,A6.o,show XX.sp.typ=(zk:Int)by rw[hXX],show XX.sp.via=y.sp.via by rw[hXX],show XX.sp.many=y.sp.many by rw[hXX],show XX.po=po by rw[hXX],show XX.pc=pc by rw[hXX],show XX.sp.path.length=pl+1 by rw[hXX,Ye,An.o];rfl]at A9
        all_goals
         have BZ:=Yh A9;have C0:(zk:Int)<(L:Int):=by rw[<-HL.o];have:=HZK.o;omega
         clear hXX A9 kf qf zf9 b0' b1' b2' b3' b4' hvw hvk hvc;go_wp2_with fail;refine BZ.o.mono ?_;rintro e9 w9 ⟨v9,rfl,hO9,b9⟩;have B9:=YT WH b9;obtain⟨lo9,cap9,hv9,hcap9,-,hrow9⟩:=hO9.row Zk2;obtain⟨m9,hm9⟩:=Yn ((addZ seen zs2 XX).length);rw[hm9]at hv9 hcap9;subst hv9;have C1:=Yh hm9;have C2:=Yh hcap9;have Bk:=@Yh (w2.heap.size<=wi.heap.size/\wi.heap.size<=wh.heap.size) (⟨by have:=SZ.o;have:=BJ.o;have:=RW.o.size;omega,WH.o.size⟩);have C3:=Yh (hrow9 (fun b=>w2.heap.size<=b) (fun b hb=>by have:=Bk.o;omega))
         have C4:=Yh (show ∀z∈addZ seen zs2 XX,PathIn (fun b=>w2.heap.size<=b) w9 z from Zs8 (P:=fun z=>PathIn (fun b=>w2.heap.size<=b) w9 z) Z46 (fun z hz=>(HP2.o z hz).same (SameS.below B9.o)) (by
          rw[AY.o];refine⟨?_,by show(y.sp.path++[(kk:Int)]).length<=pc;rw[Ye,An.o];exact HPC.o.1,HPC.o.2⟩
          rcases Z7 PH.o (SameS.below b9)with g|⟨b,off,e,hb,hS,hc⟩
          ·exact .inl g
          ·exact .inr ⟨b,off,e,hb,Yj Bk.o.1 hS.1,hc⟩))
         have C5:=Yh (show(addZ seen zs2 XX).map (·.sp)=(allEmbs u (ls.take k)++inner u y.sp x (kk+1)).foldl (addS seen) []by
          rw[ZW8,HZ2.o,A1.o,Bj.o,<-Y6,List.foldl_append (l:=allEmbs u (ls.take k)++inner u y.sp x kk),AY.o]
          rfl)
         have AZ:=@Yh (Below w6.heap.size w6 w9) (YU HB6 B9.o);clear hO9 b9 hrow9 hm9 hcap9;go_wp2_with fail;go_roundw
         case rel=>exact⟨kk+1,addZ seen zs2 XX,lo9,cap9,m9,by omega,by go_num,rfl,C1,C3,C2,C4,C5,AZ⟩
         case measure=>first|(simp[intOf];done)|(simp[intOf];omega)
      ·have A1:=@Yh (inner u y.sp x (kk+1)=inner u y.sp x kk) (by rw[A3,if_neg (by unfold embB;rw[decide_eq_true_eq];exact fun g=>h43 g.2),List.append_nil])
       have h2:¬(wd[0].toNat:Int)=43:=by rw[<-Zm AR];exact h43
       clear h6 h43 A3 Ap hwd hw hxcl hxb hkcl hkb A7 hkq s1 s2 s3 A4 Ao;go_wp2_with fail;go_roundw
       case rel=>exact⟨kk+1,zs2,a2,c2,m2,by omega,by go_num,rfl,HM2,HG2,HC2,HP2,Yh (by rw[A1.o];exact HZ2.o),HB6⟩
       case measure=>first|(simp[intOf];done)|(simp[intOf];omega)
     ·have BO:(x.kind != 6)=true:=by rw[YJ];exact h6
      have A1:=@Yh (inner u y.sp x (kk+1)=inner u y.sp x kk) (by rw[Zn7 h6,Zn7 h6]);clear h6 hwd hw hxcl hxb A4;go_wp2_with fail;go_roundw
      case rel=>exact⟨kk+1,zs2,a2,c2,m2,by omega,by go_num,rfl,HM2,HG2,HC2,HP2,Yh (by rw[A1.o];exact HZ2.o),HB6⟩
      case measure=>first|(simp[intOf];done)|(simp[intOf];omega)
    ·obtain rfl:kk=m:=by omega
     have C6:=@Yh (zs2.map (·.sp)=(allEmbs u (ls.take (k+1))).foldl (addS seen) []) (by rw[Bc.o,<-ZP6 (fun h=>(AO.o h).1),HM.o];exact HZ2.o);have C7:=@Yh (Below w3.heap.size w3 wi) (YU HB RW.o);go_wp2_with fail;go_roundw
     case rel=>exact⟨k+1,zs2,a2,c2,m2,by omega,by go_num,rfl,HM2,HG2,HC2,HP2,C6,C7⟩
     case measure=>first|(simp[intOf];done)|(simp[intOf];omega)
  ·obtain rfl:k=n9:=by omega
   have Aw:ls.take k=ls:=Y3 (by rw[B7.o];exact Yk _);have AD:=@Yh (zs.map (·.sp)=NT) (by rw[Bv.o,HZ.o,Aw]);have As:m1<=400:=by have:=congrArg List.length AD.o;rw[Yg,HM1.o]at this;omega
   have AB:=Yh As;have Cy:=@Yh (w1.heap.size<w3.heap.size) (by have:=SZ.o;omega);obtain⟨w7,h7⟩:=Yn (wr.alloc (.cells #[] 3));have q7:=(Za h7).2.1;have Q7:=Yh q7;have O7:=@Yh (w7.ownsRow wr.heap.size 3 1 (.slice (some ⟨wr.heap.size,0,none⟩) 0 0) 0 []) (by rw[<-h7];exact World.ownsRow_made wr #[] 0 (Yk _) (by unfold maxLen;omega) rfl);have Bl:=YT HB q7;have W7:=YT B3 Bl.o;have l4:=(Bl.o.cell (p:=⟨w.heap.size,4,none⟩) Ag.o).trans (cell6L Ac.o).2.2.2.2.1;clear q7 Aw;go_upto_region 19 with fail;clear h7;go_cut [11] (fun v11 wx=>Hi (OwnG 1 iC 3 wx wr.heap.size v11 seen)/\Hi (Below wr.heap.size wr wx))
   case first =>
    cases so with
    | none =>
     obtain rfl:=BB.o rfl
     have hz:seen=[]:=by
      rcases Az.o with h|⟨b,off,h,-⟩
      ·exact h
      ·cases h
     have Bm:sl=0:=by rw[<-A6.o,hz];rfl
     have C8:=@Yh (OwnG 1 iC 3 w7 wr.heap.size (.slice (some ⟨wr.heap.size,0,none⟩) 0 0) seen) (by rw[hz];exact O7.o);rw[Bm]at l4;clear hz Bm;go_wp2_with fail;go_meet
     case rel=>exact⟨C8,Q7⟩
    | some ad =>
     have HC:=Yh (show ∀j v,(encs iC seen)[j]? = some v->w7.cell? (ad.add j)=some v from fun j v hv=>by
      have e:encs iC seen=intC seen:=by
       have:∀l:List Int,encs iC l=intC l:=fun l=>by
        induction l with
        | nil=>rfl
        | cons a r ih=>unfold encs at *;rw[List.flatMap_cons,ih];rfl
       exact this seen
      rw[e]at hv;obtain⟨hj,rfl⟩:=YI.1 hv;rw[ZM1]at hj;obtain⟨b,off,e,hb,hc⟩:=Az.o.o.cells (by omega)
      injection e with e
      subst e;rw[addr_add,W7.o.cell (p:=⟨b,off+j,none⟩) hb,hc j hj,Z3 hj];simp[intC])
     go_wp2_with (at_builtin;refine wpList_append_own_at _ rfl _ _ 26 rfl wr.heap.size 3 i0 (.int .i64 0) 1 8 Tryz.underlying26 hi hz0 hz1 hz2 rfl (by decide) _ 0 [] rfl O7.o ad sl sc (encs iC seen) rfl ?c1 ?c2 ?c3 ?c4 ?c5 ?c6 ?_)
     case c1=>rw[Zi7 ZW,A6.o]
     case c2=>exact HC.o
     case c3=>exact Z3d ZW4 seen
     case c4=>unfold maxLen;omega
     case c5=>omega
     case c6=>exact Q7.o.size
     intro v8 w8 hown hgrow _ hblk;have hp:=pushG (k:=1) (enc:=iC) (T:=3) (W:=wr) (wr:=w7) (wn:=w7) (base:=wr.heap.size) (v:=.slice (some ⟨wr.heap.size,0,none⟩) 0 0) (l:=([]:List Int)) (r:=seen) (by rw[A6.o];simp) (Yk _) O7.o Q7.o (Y8 _ _) hown hgrow hblk;have AE:=Yh hp.1;have B0:=Yh hp.2.1;clear hown hgrow hblk hp;go_wp2_with fail;go_meet
     case rel=>exact⟨AE,B0⟩
   case rest =>
    obtain⟨AE,B0⟩:=hcut;clear l4;obtain⟨lo8,cap8,hv8,-,-,-⟩:=AE.o.row ZW;rw[A6.o]at hv8;subst hv8;go_wp2_with fail;go_loopw [11,94] (fun v j wj=>∃jj:Nat,jj<=m1/\j=.int .i64 jj/\Hi (OwnG 1 iC 3 wj wr.heap.size v (seen++(zs.take jj).map (·.sp.typ)))/\Hi (Below wr.heap.size wr wj)) (fun _ j _=>m1-(intOf j).toNat)
    case atStart=>exact⟨0,Yl _,rfl,Yh (by rw[List.take_zero,List.map_nil,List.append_nil];exact AE.o),B0⟩
    case round =>
     rename World=>wj
     obtain⟨jj,hjj,rfl,HOJ,HBJ⟩:=hrel;obtain⟨loj,capj,hvj,hcapj,-,-⟩:=HOJ.o.row ZW;have Ab:=@Yh ((seen++(zs.take jj).map (·.sp.typ)).length=sl+jj) (by rw[Ye,A6.o,Yg,Y5,HM1.o];omega);obtain⟨lj,hlj⟩:=Yn (sl+jj);rw[hlj]at Ab;rw[Ab.o]at hvj hcapj;subst hvj
     by_cases hjm:jj<m1
     ·have A4:jj<zs.length:=by rw[HM1.o];exact hjm
      obtain⟨rb,rof,rfl,hrb,-,Af⟩:=HG.o.cells (by omega);have Af:=Af jj A4;have B1:=@Yh (seen++(zs.take (jj+1)).map (·.sp.typ)=(seen++(zs.take jj).map (·.sp.typ))++[zs[jj].sp.typ]) (by rw[Zl0 A4,Yu,Y6];rfl);obtain⟨y,hy⟩:=Yn (zs[jj]);rw[hy]at Af B1;obtain⟨pl,A0⟩:=Yn (y.sp.path.length);have r0:=(HBJ.o.cell (p:=⟨rb,rof+jj*4+0,none⟩) hrb).trans (Af 0 _ rfl);have r1:=(HBJ.o.cell (p:=⟨rb,rof+jj*4+1,none⟩) hrb).trans (Af 1 _ rfl);have r2:=(HBJ.o.cell (p:=⟨rb,rof+jj*4+2,none⟩) hrb).trans (Af 2 _ rfl);have r3:=(HBJ.o.cell (p:=⟨rb,rof+jj*4+3,none⟩) hrb).trans (Af 3 _ rfl);rw[Nat.add_zero]at r0;rw[A0]at r3;obtain⟨X,hX⟩:=Yn (seen++(zs.take jj).map (·.sp.typ));have HX:=Yh hX;rw[hX]at HOJ B1 Ab;obtain⟨wa,ha,ka,qa,za⟩:=YA wj #[.int .i64 y.sp.typ,.bool y.sp.via,.bool y.sp.many,.slice y.po pl y.pc] 115;have Bn:=YT HBJ qa;have Bo:=Yh (HOJ.o.kept qa);have C9:=@Yh (wa.ownsRow wr.heap.size 3 1 (.slice loj lj capj) lj (encs iC X)) (by have:=Bo.o;unfold OwnG at this;rw[Ab.o]at this;exact this);have Cz:=(cell4 ka).1;have CA:(jj:Int)<(m1:Int):=by omega
      have LJ:=@Yh (lj<=1000) (by omega);have WA:=Yh Bn.o.size;clear Af hrb hy A0 hX A4 ka qa za hcapj hlj;go_wp2_with (at_builtin;refine wpList_append_own_at _ rfl _ _ 26 rfl wr.heap.size 3 i0 (.int .i64 0) 1 8 Tryz.underlying26 hi hz0 hz1 hz2 rfl (by decide) _ lj (encs iC X) rfl (C9.o.alloc _) ⟨wa.heap.size,0,none⟩ 1 1 (iC y.sp.typ) rfl ?c1 ?c2 ?c3 ?c4 ?c5 ?c6 ?_)
      case c1=>rfl
      case c2=>first|exact Z9 _ _ _|exact fun j u h=>h
      case c3=>exact ZW4 _
      case c4=>have:=LJ.o;unfold maxLen;omega
      case c5=>have:=LJ.o;omega
      case c6=>have:=WA.o;simp;omega
      intro v9 w9 hown hgrow _ hblk;have hp:=pushG (k:=1) (enc:=iC) (T:=3) (l:=X) (r:=[y.sp.typ]) (by first|(rw[Ab.o];done)|(rw[Ab.o];rfl)) (Yk _) Bo.o Bn.o ((Y8 _ _).alloc (Yk _) (.cells #[.int .i64 y.sp.typ] 3)) (by rw[Zs];exact hown) hgrow (by simpa using hblk);have Ca:=Yh hp.1;have Ax:=Yh hp.2.1;clear hown hgrow hblk hp;go_wp2_with fail;go_roundw
      case rel=>exact⟨jj+1,by omega,by go_num,Yh (by rw[B1.o];exact Ca.o),Ax⟩
      case measure=>first|(simp[intOf];done)|(simp[intOf];omega)
     ·obtain rfl:jj=m1:=by omega
      have Bp:zs.take jj=zs:=Y3 (by rw[HM1.o];exact Yk _);have Cb:=@Yh (seen++(zs.take jj).map (·.sp.typ)=seen++NT.map (·.typ)) (by rw[Bp,<-AD.o,List.map_map];rfl);rw[Cb.o]at HOJ Ab;obtain⟨loj2,capj2,hvj,hcapj,-,hrj⟩:=HOJ.o.row ZW;rw[Ab.o]at hvj hcapj
      injection hvj with i1 _ i3
      subst i1;subst i3;have AF:=@Yh (Below w3.heap.size w3 wj) (YU HB HBJ.o);have WJ:=@Yh (Below w.heap.size w wj) (YU B3 AF.o);have Cc:=Yh (BF.o.same (SameS.below AF.o));have WS:=@Yh (w3.heap.size<=wr.heap.size/\wr.heap.size<=wj.heap.size) (⟨HB.o.size,HBJ.o.size⟩);have Cd:=Yh (ZX (hrj (lessS Sb w.heap.size w1.heap.size) (fun b hb=>⟨B8.o b (by have:=SZ.o;have:=WS.o;omega),by have:=SZ.o;have:=WS.o;omega,by have:=SZ.o;have:=WS.o;omega⟩)));have Ae:∀b,w2.heap.size<=b->lessS Sb w.heap.size w1.heap.size b:=fun b hb=>⟨B8.o b (by have:=SZ.o;omega),by have:=SZ.o;omega,by have:=SZ.o;omega⟩
      have Bq:=Yh ((HG.o.below HBJ.o).sub (S:=fun b=>w2.heap.size<=b) (R:=lessS Sb w.heap.size w1.heap.size) (fun b _ hb=>Ae b hb));have Ce:=@Yh (∀z∈zs,PathIn (lessS Sb w.heap.size w1.heap.size) wj z) (fun z hz=>((HP.o z hz).same (SameS.below HBJ.o)).sub (fun b _ hb=>Ae b hb));have Am:=Z82 (lessS Sb w.heap.size w1.heap.size) u (some ⟨ab,aof,none⟩) no ac nc zs a1 c1 none 0 0 loj lj capj wj (fun b hb=>Ae b (by have:=SZ.o;have:=WS.o;omega)) Cc.o (by rw[AD.o];exact Bw.o) (Bq.o.sub (fun _ _ _=>trivial)) (by have:=AB.o;have:=HM1.o;omega) (by rw[HM1.o];exact HC1.o);rw[HL.o,HN.o,HM1.o]at Am;have Cf:=Yh Am;have Cg:=@Yh ((seen++NT.map (·.typ)).length<=capj) (by rw[Ab.o];exact hcapj);have Ch:=Yh (OwnG.none0 HOJ.o);obtain⟨o0,o1,-,-,-,-⟩:=cell6L ((Ac.o.below AF.o));have Ci:=Yh (BE.o.below AF.o);clear Bp hcapj hrj Am Ae;go_wp2_with fail;refine Cf.o.mono ?_;rintro e w10 hLR;rw[<-HM1.o,<-Ab.o]at hLR;obtain⟨val,rfl,hLV,b10⟩:=ZD5 hLR Bq.o Ce.o (by rw[HM1.o];exact HC1.o) Cd.o Cg.o Ch.o;rw[AD.o,<-AJ.o]at hLV;have Cj:=Yh hLV;obtain⟨ao',no',ac',nc',eo',ec',wo',wc',so',sc',ez',wz',hv,-⟩:=hLV;subst hv;have Ck:=YT WJ b10;obtain⟨⟨e0,e1,e2,e3,e4,e5⟩,f0,f1,f2,f3,f4,f5⟩:=Zu (Ci.o.below b10);have Cl:=@Yh (¬lessS Sb w.heap.size w1.heap.size w1.heap.size) (fun g=>g.2.2 rfl);have Cm:=@Yh (w.heap.size<=w1.heap.size) (by have:=SZ.o;omega);clear hLR b10 o0 o1;go_wp2_with fail
      try simp only[Exit.inBlock,Exit.then]
      refine bodyPost_ret (v:=.agg #[.slice ao' FL.u.types.length ac',.slice no' FL.u.named.length nc',.slice eo' ez'.length ec',.slice wo' wz'.length wc',.slice so' FL.seen.length sc',.int .i64 FL.e]) ?_ rfl ?_
      ·simp[results,Tryz.results32,go_sem,e0,e1,e2,e3,e4,e5]
      exact⟨_,rfl,(Cj.o.same (Z51 Cl.o w10 _ _ _ _ _ _)).sub (fun b _ hs=>hs.1),Zj Ck.o Cm.o _ _ _ _ _ _⟩
theorem ZW7(s:ByteArray)(w:World)(hs:s.size<=9223372036854775807) :
  Calls Tryz.prog 60 #[.string s] w fun e w'=>e=.returned (.string (fieldT s))/\w=w':=by
 by_cases h0:s.size=0
 ·have HR:=@Yh (s=fieldT s) (by unfold fieldT;rw[if_neg (by omega)])
  go_enter Tryz.func60,Tryz.ntmps60;go_wp2_with fail;go_ret;exact⟨ZF1 HR.o,rfl⟩
 ·have hk:0<s.size:=by omega
  have hb:=Zm hk
  by_cases h1:byteAt s 0=43
  ·have HR:=@Yh (s.extract 1 s.size=fieldT s) (by unfold fieldT;rw[if_pos ⟨hk,h1⟩])
   have h2:(s[0].toNat:Int)=43:=by rw[<-hb];exact h1
   clear h1 hb h0;go_enter Tryz.func60,Tryz.ntmps60;go_wp2_with fail;go_ret;exact⟨ZF1 HR.o,rfl⟩
  ·have HR:=@Yh (s=fieldT s) (by unfold fieldT;rw[if_neg (by omega)])
   have h2:¬(s[0].toNat:Int)=43:=by rw[<-hb];exact h1
   clear h1 hb h0;go_enter Tryz.func60,Tryz.ntmps60;go_wp2_with fail;go_ret;exact⟨ZF1 HR.o,rfl⟩
structure Sz where
 se:Se
 po:Option Addr
 pc:Nat
def selC(z:Sz):List Value:=[.bool z.se.meth,.int .i64 z.se.typ,.bool z.se.ptr,.bool z.se.via,.slice z.po z.se.path.length z.pc]
theorem ZO7(z:Sz):(selC z).length=5:=rfl
theorem Z18(z:Sz):∀u∈selC z,u.oneCell'=true:=by
 intro u hu;simp only[selC,List.mem_cons,List.not_mem_nil,or_false]at hu
 rcases hu with rfl|rfl|rfl|rfl|rfl<;>rfl
theorem ZUd:(Tryz.prog.info? 28).map (fun i=>(i.zero,i.size,i.bytes))=some (some (.agg #[.bool false,.int .i64 0,.bool false,.bool false,.slice none 0 0]),5,48):=by kernel_rfl
def SelIn(Sb:Nat->Prop)(w:World)(z:Sz):Prop:=IRowS Sb w z.po z.se.path/\z.se.path.length<=z.pc
theorem SelIn.same{Sb:Nat->Prop}{w w':World}{z:Sz}(h:SelIn Sb w z)(hs:SameS Sb w w'):SelIn Sb w' z:=⟨Z7 h.1 hs,h.2⟩
theorem SelIn.sub{S R:Nat->Prop}{w:World}{z:Sz}(h:SelIn S w z)(hs:∀b,b<w.heap.size->S b->R b):SelIn R w z:=by
 refine⟨?_,h.2⟩
 rcases h.1 with g|⟨b,off,e,hb,hS,hc⟩
 ·exact .inl g
 ·exact .inr ⟨b,off,e,hb,hs b hb hS,hc⟩
theorem ZC1(name:ByteArray)(a b:List (ByteArray×Se)):ofName name (a++b)=ofName name a++ofName name b:=by
 unfold ofName;rw[List.filter_append,Yu]
theorem Zo2(name:ByteArray)(x:ByteArray)(s:Se):ofName name [(x,s)]=if x=name then[s]else[]:=by
 unfold ofName
 by_cases h:x=name
 ·rw[if_pos h,List.filter_cons_of_pos (by simp[h])]
  rfl
 ·rw[if_neg h,List.filter_cons_of_neg (by simp[h])]
  rfl
def hmT(name:ByteArray)(s:Sp)(ms:List Mt):List Se:=ofName name (ms.map fun m=>(m.name,⟨true,m.sig,m.ptr,s.via,s.path⟩))
theorem ZDc{name:ByteArray}{s:Sp}{ms:List Mt}{k:Nat}{m:Mt}(hk:k<ms.length)(e:ms[k]=m):hmT name s (ms.take (k+1))=hmT name s (ms.take k)++(if m.name=name then[⟨true,m.sig,m.ptr,s.via,s.path⟩]else[]):=by
 unfold hmT;rw[Zl0 hk,e,Yu,ZC1]
 show _++ofName name [(m.name,_)]=_
 rw[Zo2]
theorem ZX1(s:Sp):∀(ps:List (ByteArray×Int)) (n k:Nat) (hk:k<ps.length),hitF s n (ps.take (k+1))=hitF s n (ps.take k)++[(fieldT ps[k].1,⟨false,ps[k].2,false,s.via,s.path++[((n+k:Nat):Int)]⟩)]
 | [],_,_,hk=>absurd hk (Yr _)
 | (w,q)::r,n,0,_=>by
  show(fieldT w,_)::hitF s (n+1) (r.take 0)=[]++[_]
  rw[List.take_zero,List.nil_append,Nat.add_zero]
  rfl
 | (w,q)::r,n,k+1,hk=>by
  have ih:=ZX1 s r (n+1) k (Nat.lt_of_succ_lt_succ hk)
  show(fieldT w,_)::hitF s (n+1) (r.take (k+1))=((fieldT w,_)::hitF s (n+1) (r.take k))++[_]
  rw[ih,List.cons_append,show n+1+k=n+(k+1)by omega]
  rfl
def hfT(name:ByteArray)(s:Sp)(t:Ty)(k:Nat):List Se:=if t.kind=6 then ofName name (hitF s 0 ((t.words.zip t.kids).take k))else[]
theorem ZCc(name:ByteArray)(s:Sp)(t:Ty):hfT name s t 0=[]:=by
 unfold hfT;rw[List.take_zero]
 split<;>rfl
theorem Zza{name:ByteArray}{s:Sp}{t:Ty}(h:t.kind≠6)(k:Nat):hfT name s t k=[]:=by
 unfold hfT;rw[if_neg h]
theorem Zgc{name:ByteArray}{s:Sp}{t:Ty}{k:Nat}{x:ByteArray}{q:Int}(h6:t.kind=6)(h1:k<t.words.length)(h2:k<t.kids.length)(e1:t.words[k]=x)(e2:t.kids[k]=q):hfT name s t (k+1)=hfT name s t k++(if fieldT x=name then[⟨false,q,false,s.via,s.path++[(k:Int)]⟩]else[]):=by
 unfold hfT;rw[if_pos h6,if_pos h6,ZX1 s _ 0 k (by rw[List.length_zip];omega),List.getElem_zip,e1,e2,Nat.zero_add,ZC1,Zo2]
theorem Zed{name:ByteArray}{s:Sp}{t:Ty}(h:t.kind=6->t.words.length=t.kids.length):hfT name s t t.words.length=if t.kind=6 then ofName name (hitF s 0 (t.words.zip t.kids))else[]:=by
 unfold hfT
 by_cases h6:t.kind=6
 ·rw[if_pos h6,if_pos h6,Y3 (by rw[List.length_zip];omega)]
 ·rw[if_neg h6,if_neg h6]
def oneT(name:ByteArray)(s:Sp)(ms:List Mt)(t:Ty):List Se:=hmT name s ms++hfT name s t t.words.length
theorem Zlb{name:ByteArray}{u:Un}{l:Lk}(h:(tyU u l.form).kind=6->(tyU u l.form).words.length=(tyU u l.form).kids.length):ofName name (hitsT u l)=oneT name l.sp l.ms (tyU u l.form):=by
 unfold oneT hitsT;rw[ZC1,Zed h];unfold hmT hitM
 by_cases h6:(tyU u l.form).kind=6
 ·rw[if_pos h6,if_pos h6]
 ·rw[if_neg h6,if_neg h6]
  rfl
def repT:Nat->List Se->List Se
 | 0,_=>[]
 | n+1,A=>repT n A++A
theorem Zu7(A:List Se):∀n,(repT n A).length=n*A.length
 | 0=>by show 0=_;rw[Nat.zero_mul]
 | n+1=>by
  show(repT n A++A).length=_
  rw[Ye,Zu7 A n,Nat.add_mul,Nat.one_mul]
theorem Zkc{u:Un}{name:ByteArray}{ls:List Lk}{k:Nat}(hk:k<ls.length)(h:(tyU u ls[k].form).kind=6->(tyU u ls[k].form).words.length=(tyU u ls[k].form).kids.length):hadT u (ls.take (k+1)) name=hadT u (ls.take k) name++repT (if ls[k].sp.many=true then 2 else 1) (oneT name ls[k].sp ls[k].ms (tyU u ls[k].form)):=by
 unfold hadT;rw[Zl0 hk,List.flatMap_append]
 congr 1
 show(if ls[k].sp.many=true then _ else _)++[]=_
 rw[List.append_nil,Zlb h]
 split
 ·show _=([]++_)++_
  rw[List.nil_append]
 ·show _=[]++_
  rw[List.nil_append]
theorem Z95(name:ByteArray)(h:List (ByteArray×Se)):(ofName name h).length<=h.length:=by
 unfold ofName;rw[Yg];exact List.length_filter_le _ _
theorem Zl9(name:ByteArray)(s:Sp)(ms:List Mt):(hmT name s ms).length<=ms.length:=by
 have:=Z95 name (ms.map fun m=>(m.name,(⟨true,m.sig,m.ptr,s.via,s.path⟩:Se)));unfold hmT;rw[Yg]at this;exact this
theorem Zi4(s:Sp):∀(ps:List (ByteArray×Int)) (n:Nat),(hitF s n ps).length=ps.length
 | [],_=>rfl
 | (w,q)::r,n=>by
  show(hitF s (n+1) r).length+1=r.length+1
  rw[Zi4 s r (n+1)]
theorem ZZ8(name:ByteArray)(s:Sp)(t:Ty)(k:Nat):(hfT name s t k).length<=k:=by
 unfold hfT
 split
 ·have:=Z95 name (hitF s 0 ((t.words.zip t.kids).take k))
  rw[Zi4,Y5]at this
  omega
 ·exact Yl _
theorem Z58{name:ByteArray}{s:Sp}{ms:List Mt}{t:Ty}(h1:ms.length<=16)(h2:t.words.length<=18):(oneT name s ms t).length<=34:=by
 unfold oneT;rw[Ye];have:=Zl9 name s ms;have:=ZZ8 name s t t.words.length
 omega
theorem ZHd{u:Un}{name:ByteArray}{ls:List Lk}(h:∀l∈ls,l.ms.length<=16/\(tyU u l.form).words.length<=18/\((tyU u l.form).kind=6->(tyU u l.form).words.length=(tyU u l.form).kids.length)):(hadT u ls name).length<=ls.length*68:=by
 induction ls with
 | nil=>exact Yk _
 | cons l r ih =>
  have h1:=h l Yt;have h2:=ih (fun x hx=>h x (Yx _ hx));have h3:=Z58 (name:=name) (s:=l.sp) h1.1 h1.2.1;unfold hadT at h2 ⊢;rw[List.flatMap_cons,Ye,List.length_cons,Zlb h1.2.2]
  split
  ·rw[Ye];omega
  ·omega
structure HadI (Sb:Nat->Prop) (w1 wr:World) (v:Value) (R:List Se):Prop where
 ex:∃zs:List Sz,OwnG 5 selC 28 wr w1.heap.size v zs/\zs.map (·.se)=R/\∀z∈zs,SelIn (fun b=>Sb b/\v.ownBlock≠some b) wr z
 below:Below w1.heap.size w1 wr
def BxI(wr:World)(v:Value)(b:Nat)(xs:Array Value)(T:TypeId):Prop:=BlockAt wr b xs T/\v.ownBlock≠some b
theorem BxI.kept{wr w':World}{v:Value}{b:Nat}{xs:Array Value}{T:TypeId}(h:BxI wr v b xs T)(hb:Below wr.heap.size wr w'):BxI w' v b xs T:=⟨h.1.below hb,h.2⟩
theorem HadI.kept{Sb:Nat->Prop}{w1 wr w':World}{v:Value}{R:List Se}(h:HadI Sb w1 wr v R)(hb:Below wr.heap.size wr w'):HadI Sb w1 w' v R:=by
 obtain⟨⟨zs,h1,h2,h3⟩,h4⟩:=h;exact⟨⟨zs,h1.kept hb,h2,fun z hz=>(h3 z hz).same (SameS.below hb)⟩,h4.trans (hb.mono h4.size)⟩
theorem HadI.box{Sb:Nat->Prop}{w1 wr w':World}{v:Value}{R:List Se}{xs:Array Value}{T:TypeId}(h:HadI Sb w1 wr v R)(hb:wr.alloc (.cells xs T)=w'):BxI w' v wr.heap.size xs T:=by
 obtain⟨⟨zs,h1,h2,h3⟩,h4⟩:=h;exact⟨(Za hb).1,h1.not (.inr (Yk _))⟩
theorem HadI.row{Sb:Nat->Prop}{w1 wr:World}{v:Value}{R:List Se}(h:HadI Sb w1 wr v R):∃lo cap,v=.slice lo R.length cap:=by
 obtain⟨⟨zs,h1,h2,h3⟩,h4⟩:=h;obtain⟨lo,cap,hv,-⟩:=h1.row ZO7;have:zs.length=R.length:=by rw[<-h2,Yg]
 exact⟨lo,cap,by rw[hv,this]⟩
theorem HadI.push{Sb:Nat->Prop}{w1 wr wn w':World}{v v':Value}{R:List Se}{zs:List Sz}{z:Sz}{n:Nat}(ho:OwnG 5 selC 28 wr w1.heap.size v zs)(hm:zs.map (·.se)=R)(hs:∀z∈zs,SelIn (fun b=>Sb b/\v.ownBlock≠some b) wr z)(hB:Below w1.heap.size w1 wr)(hwn:Below wr.heap.size wr wn)(hz:SelIn (fun b=>Sb b/\v.ownBlock≠some b) wr z)(hn:n=zs.length+1)
  (h1:w'.ownsRow w1.heap.size 28 5 v' n (encs selC zs++selC z)) (hg:wn.grownBy w' v.ownBlock) (hb:v'.ownBlock=v.ownBlock\/v'.ownBlock=some wn.heap.size) :
  HadI Sb w1 w' v' (R++[z.se])/\∀b xs T,BxI wr v b xs T->BxI w' v' b xs T:=by
 have hp:=pushG (l:=zs) (r:=[z]) hn (Yk _) ho hB hwn (by rw[Zs];exact h1) hg hb
 have A0:∀x,SelIn (fun b=>Sb b/\v.ownBlock≠some b) wr x->SelIn (fun b=>Sb b/\v'.ownBlock≠some b) w' x:=fun x hx=>by
  have a1:=hx.same (SameS.below hwn)
  have a2:SelIn (fun b=>(Sb b/\v.ownBlock≠some b)/\v'.ownBlock≠some b) wn x:=a1.sub (fun b hlt hs=>⟨hs,fun he=>by
   rcases hb with g|g
   ·rw[g]at he;exact hs.2 he
   ·rw[g]at he;injection he with he;omega⟩)
  exact(a2.same (ZP hg (fun b hs=>hs.1.2))).sub (fun b _ hs=>⟨hs.1.1,hs.2⟩)
 refine⟨⟨⟨zs++[z],hp.1,by rw[Yu,hm];rfl,fun x hx=>?_⟩,hp.2.1⟩,fun b xs T hB=>⟨hp.2.2.1 b xs T hB.1 hB.2,fun he=>?_⟩⟩
 ·rcases Yz.1 hx with g|g
  ·exact A0 x (hs x g)
  ·obtain rfl:=Yo.1 g
   exact A0 _ hz
 ·rcases hb with g|g
  ·rw[g]at he;exact hB.2 he
  ·rw[g]at he
   injection he with he
   have:=hB.1.lt;have:=hwn.size
   omega
theorem HadI.old{Sb:Nat->Prop}{w w1 wr:World}{v:Value}{R:List Se}{ao:Option Addr}{zs:List Int}(h:HadI Sb w1 wr v R)(hw:w.heap.size<=w1.heap.size)(hi:IRowS Sb w ao zs)(hb:Below w.heap.size w wr):IRowS (fun b=>Sb b/\v.ownBlock≠some b) wr ao zs:=by
 obtain⟨⟨xs,h1,h2,h3⟩,h4⟩:=h
 rcases hi with g|⟨b,off,e,hlt,hS,hc⟩
 ·exact .inl g
 ·exact .inr ⟨b,off,e,Yi hlt hb.size,⟨hS,h1.not (.inl (Yi hlt hw))⟩,fun i hi=>(hb.cell (p:=⟨b,off+i,none⟩) hlt).trans (hc i hi)⟩
theorem HadI.new{Sb:Nat->Prop}{w1 wr w':World}{v pv:Value}{R:List Se}{ao:Option Addr}{zs:List Int}{c:Nat}(h:HadI Sb w1 wr v R)(hSb:∀b,wr.heap.size<=b->Sb b)(hi:OwnG 1 iC 3 w' wr.heap.size pv zs)(hp:pv=.slice ao zs.length c):IRowS (fun b=>Sb b/\v.ownBlock≠some b) w' ao zs:=by
 obtain⟨⟨xs,h1,h2,h3⟩,h4⟩:=h;obtain⟨lo,cap,hv,-,-,hr⟩:=hi.row ZW;rw[hp]at hv
 injection hv with i1
 subst i1;exact ZX (hr _ (fun b hb=>⟨hSb b hb,h1.not (.inr hb)⟩))
end Go.Proofs.YtdcajkagakikiaaGreatDoor
