import Derived.Test.YtdcajkagakikiaaGreatDoorQ26
import Derived.RangeFuncNested
import Derived.RangeFuncBound
import Derived.RangeFuncLeaves
import Derived.OwnWalkIn
import Derived.TacticsInMore
namespace Go.Proofs.YtdcajkagakikiaaGreatDoor
set_option maxHeartbeats 64000000
set_option linter.unusedSimpArgs false
set_option linter.unusedVariables false
open Go.RowKit
def KX(w w':World):Prop:=w.heap.size<=w'.heap.size/\∀b o v,w.cell? ⟨b,o,none⟩=some v->w'.cell? ⟨b,o,none⟩=some v
theorem KX.refl(w:World):KX w w:=⟨Yk _,fun _ _ _ h=>h⟩
theorem KX.trans{a b c:World}(h:KX a b)(g:KX b c):KX a c:=⟨Yj h.1 g.1,fun x o v e=>g.2 x o v (h.2 x o v e)⟩
theorem KX.below{w w':World}(h:Below w.heap.size w w'):KX w w':=⟨h.size,fun b o v e=>YR h e⟩
theorem FMap.none{w:World}{b n:Nat}{M:ByteArray->Option Value}(h:FMap w b n M){a:Addr}{v:Value}(hc:w.cell? a=some v):a.block≠b:=fun e=>by
 obtain⟨D,⟨es,clock,h1,h2⟩,h3⟩:=h;unfold World.cell? at hc;rw[e,h1]at hc
 cases hc
theorem KX.of{c:Nat}{w w':World}(h:SameX c w w')(hn:∀b o v,w.cell? ⟨b,o,none⟩=some v->b≠c):KX w w':=⟨h.1,fun b o v e=>(Z5 h (Zv e) (hn b o v e)).trans e⟩
theorem KX.irow{w w':World}{ao:Option Addr}{zs:List Int}(h:KX w w')(hi:IRow w ao zs):IRow w' ao zs:=by
 rcases hi with g|⟨b,off,e,hb,hc⟩
 ·exact .inl g
 ·exact .inr ⟨b,off,e,Yi hb h.1,fun i hi=>h.2 _ _ _ (hc i hi)⟩
theorem KX.irowS{S:Nat->Prop}{w w':World}{ao:Option Addr}{zs:List Int}(h:KX w w')(hi:IRowS S w ao zs):IRowS S w' ao zs:=by
 rcases hi with g|⟨b,off,e,hb,hS,hc⟩
 ·exact .inl g
 ·exact .inr ⟨b,off,e,Yi hb h.1,hS,fun i hi=>h.2 _ _ _ (hc i hi)⟩
theorem KX.selIn{S:Nat->Prop}{w w':World}{z:Sz}(h:KX w w')(hi:SelIn S w z):SelIn S w' z:=⟨h.irowS hi.1,hi.2⟩
def mS(s:Sp)(m:Mt):ByteArray×Se:=(m.name,⟨true,m.sig,m.ptr,s.via,s.path⟩)
theorem Zrd{u:Un}{y:Lz}{zf:Nat}{x:Ty}(hf:y.form=(zf:Int))(hz:zf<u.types.length)(hx:u.types[zf]=x):hitsT u (lkZ y)=y.ms.map (mS y.ez.sp)++if x.kind=6 then hitF y.ez.sp 0 (x.words.zip x.kids)else[]:=by
 unfold hitsT lkZ;simp only;rw[hf,Z80 hz,hx]
 rfl
theorem ZY7{α:Type}{l:List α}{k:Nat}(hk:k<l.length):l=l.take k++l[k]::l.drop (k+1):=by
 rw[<-List.drop_eq_getElem_cons hk,List.take_append_drop]
theorem ZE9{s:Sp}{ps:List (ByteArray×Int)}{k:Nat}(hk:k<ps.length):∃R,hitF s 0 ps=hitF s 0 (ps.take k)++(fieldT ps[k].1,⟨false,ps[k].2,false,s.via,s.path++[(k:Int)]⟩)::R:=by
 have h1:hitF s 0 ps=(hitF s 0 ps).take (k+1)++(hitF s 0 ps).drop (k+1):=(List.take_append_drop _ _).symm
 have tk:∀(ps:List (ByteArray×Int)) (n j:Nat),(hitF s n ps).take j=hitF s n (ps.take j):=by
  intro ps
  induction ps with
  | nil=>intro n j;rw[List.take_nil];exact List.take_nil
  | cons p r ih =>
   intro n j;obtain⟨a,b⟩:=p
   cases j with
   | zero=>rw[List.take_zero,List.take_zero];rfl
   | succ j =>
    show List.take (j+1) (_::hitF s (n+1) r)=_
    rw[List.take_succ_cons,ih]
    rfl
 rw[tk,ZX1 s ps 0 k hk,Nat.zero_add,Y6]at h1;exact⟨_,h1⟩
set_option maxRecDepth 100000 in
theorem Zua(Sb:Nat->Prop)(u:Un)(e0:Int)(y:Lz)(sa ha xa:Option Addr)(I:World->List (ByteArray×Se)->Prop)(wb:Nat)(w:World)(hSb:∀b,w.heap.size<=b->Sb b)(hK:WkAt Sb w wb u e0)(hy:LkIn Sb w y)(hr:rightU u=true)(hf:inL u.types y.form=true)(hp:y.ez.sp.path.length<=900)(hml:y.ms.length<=16)
  (hI:I w []) (hIb:∀W W' L,I W L->Below W.heap.size W W'->I W' L)
  (hhit:∀W L nm z,KX w W->I W L->(∃R,hitsT u (lkZ y)=L++(nm,z.se)::R)->SelIn Sb W z->Calls Tryz.prog 49 #[.string nm,.agg #[.bool z.se.meth,.int .i64 z.se.typ,.bool z.se.ptr,.bool z.se.via,.slice z.po z.se.path.length z.pc],.pointer sa,.pointer ha,.pointer xa] W fun e W'=>(∃v,e=.returned v)/\KX W W'/\I W' (L++[(nm,z.se)])) :
  Calls Tryz.prog 48 #[.pointer (some ⟨wb,0,none⟩),.agg #[.int .i64 y.ez.sp.typ,.bool y.ez.sp.via,.slice y.ez.po y.ez.sp.path.length y.ez.pc,.bool y.ez.sp.many,.int .i64 y.form,.slice y.mo y.ms.length y.mc],.func (.func 49) #[] #[.pointer sa,.pointer ha,.pointer xa]] w fun e w'=>(∃v,e=.returned v)/\KX w w'/\I w' (hitsT u (lkZ y)):=by
 obtain⟨ao,no,ac,nc,hkb,hU⟩:=hK;have A2:=hr;rw[Z8,Yd]at A2;have AR:=Yh A2.1;have AI:=Yh hSb;have Ad:=Yh hIb;have A9:=Yh hhit;have AS:=Zx1 A2.1;obtain⟨ab,aof,rfl,hab,hac2⟩:=hU.o.types.cells (by omega);obtain⟨fm,hfm⟩:=Yn (y.form);rw[hfm]at hf;unfold inL at hf;have d3:=Yf hf;obtain⟨zf,rfl⟩:∃zf:Nat,fm=(zf:Int):=⟨fm.toNat,by omega⟩
 have Ae:zf<u.types.length:=by omega
 obtain⟨xw,xwc,xk,xkc,a0',a1',a2',a3',a4',hwc9,hkc9,hxc⟩:=hac2 zf Ae;have AJ:=Yh (fun h6=>ZB0 AR.o Ae h6);have Am:=Zrd hfm Ae rfl;obtain⟨x,hx⟩:=Yn (u.types[zf]);rw[hx]at a0' a1' a2' a3' a4' hwc9 hkc9 hxc AJ Am;have HX:=Yh hxc;have AK:=Yh (IRowS.o hy.1.1);have An:=MRowS.o hy.2.1;obtain⟨mo,hmo⟩:∃mo,y.mo=mo:=⟨_,rfl⟩
 rw[hmo]at An;have AT:=Yh An;obtain⟨L,hL⟩:=Yn (u.types.length);have HL:=Yh hL;rw[hL]at AS hkb;have AU:=Yh hkb;obtain⟨m,hm⟩:=Yn (x.words.length);obtain⟨kl,hkl⟩:=Yn (x.kids.length);obtain⟨pl,hpl⟩:=Yn (y.ez.sp.path.length);obtain⟨ml,hmle⟩:=Yn (y.ms.length);have HM:=Yh hm;have AV:m<=18:=by have:=hxc.ok.wl;omega
 have AW:=Yh hkl;have Af:=Yh hpl;have AL:=Yh hmle;have AM:=Yh hp;rw[hm]at a3' hwc9;rw[hkl]at a4' hkc9;rw[hfm,hpl,hmle,hmo];rw[hmle]at hml;have Ao:=Yh Am;have TC:=@Yh (w.cell? ⟨ab,aof+zf*5,none⟩=some (.int .i64 x.kind)/\w.cell? ⟨ab,aof+zf*5+1,none⟩=some (.string x.name)/\w.cell? ⟨ab,aof+zf*5+2,none⟩=some (.int .i64 x.n)/\w.cell? ⟨ab,aof+zf*5+3,none⟩=some (.slice xw m xwc)/\w.cell? ⟨ab,aof+zf*5+4,none⟩=some (.slice xk kl xkc)) (⟨a0',a1',a2',a3',a4'⟩);obtain⟨w1,h1,k1,q1,z1⟩:=YA w #[.int .i64 y.ez.sp.typ,.bool y.ez.sp.via,.slice y.ez.po pl y.ez.pc,.bool y.ez.sp.many,.int .i64 zf,.slice mo ml y.mc] 103;obtain⟨yb,hyb⟩:=Yn (w.heap.size);have AX:=Yh hyb;have Q1:=Yh q1;have AY:=Yh (KX.below q1);have AZ:=Yh (hIb w w1 [] hI q1);have Ag:=@Yh (BlockAt w1 yb _ _) (by rw[<-hyb];exact k1);obtain⟨-,-,-,-,-,c5⟩:=cell6L Ag.o;have c5:=c5;rw[<-hyb]at c5;have A5:=fun W (hb:KX w W)=>Zf5 y.ez.po y.ez.pc y.ez.sp.path W (hb.irow AK.o) (by have:=AM.o;omega)
 have A6:=fun(kk:Nat) W (hb:KX w W)=>ZX4 y.ez.po y.ez.pc y.ez.sp.path (kk:Int) W (hb.irow AK.o) (by have:=AM.o;omega)
 rw[hpl]at A5 A6;have Ap:=Yh A5;have Aq:=Yh A6;have Bc:(zf:Int)<(L:Int):=by omega
 clear An hmo hyb hSb hIb hhit hI hac2 hab hU hkb A2 hr hf d3 Ae hx hxc a0' a1' a2' a3' a4' hwc9 hkc9 hm hkl hpl hmle hp hy hL hfm Am A5 A6 k1 q1 z1;go_enter Tryz.func48,Tryz.ntmps48;go_wp2_with fail
 try rw[AX.o]
 clear h1 c5;go_loopw [14] (fun i wr=>∃(k:Nat),k<=ml/\i=.int .i64 k/\Hi (I wr ((y.ms.take k).map (mS y.ez.sp)))/\Hi (KX w wr)/\Hi (KX w1 wr)) (fun i _=>ml-(intOf i).toNat)
 case atStart=>exact⟨0,Yl _,rfl,Yh (by rw[List.take_zero];exact AZ.o),AY,Yh (KX.refl _)⟩
 case round =>
  obtain⟨k,hk,rfl,HIr,HKr,HKr1⟩:=hrel
  by_cases hkn:k<ml
  ·have Ah:k<y.ms.length:=by rw[AL.o];exact hkn
   obtain⟨mb,mof,rfl,hb,hc⟩:=AT.o.cells (by omega);obtain⟨hc0,hc1,hc2⟩:=hc k Ah
   have Ai:=Yh (show ∃R,hitsT u (lkZ y)=(y.ms.take k).map (mS y.ez.sp)++(y.ms[k].name,(⟨true,y.ms[k].sig,y.ms[k].ptr,y.ez.sp.via,y.ez.sp.path⟩:Se))::R from⟨(y.ms.drop (k+1)).map (mS y.ez.sp)++if x.kind=6 then hitF y.ez.sp 0 (x.words.zip x.kids)else[],by
    have e2:=congrArg (List.map (mS y.ez.sp)) (ZY7 Ah);rw[Yu,List.map_cons]at e2;rw[Ao.o,e2,Y6]
    rfl⟩)
   have Aj:=@Yh ((y.ms.take (k+1)).map (mS y.ez.sp)=(y.ms.take k).map (mS y.ez.sp)++[(y.ms[k].name,(⟨true,y.ms[k].sig,y.ms[k].ptr,y.ez.sp.via,y.ez.sp.path⟩:Se))]) (by rw[Zl0 Ah,Yu];rfl);obtain⟨q,hq⟩:=Yn (y.ms[k]);rw[hq]at hc0 hc1 hc2 Ai Aj;have r0:=HKr.o.2 _ _ _ hc0;have r1:=HKr.o.2 _ _ _ hc1;have r2:=HKr.o.2 _ _ _ hc2;obtain⟨wm,ha,ka,qa,za⟩:=YA wr #[.string q.name,.bool q.ptr,.int .i64 q.sig] 112;have QA:=Yh qa;have A3:=@Yh (KX w wm) (HKr.o.trans (KX.below qa));have Ar:=Yh (Ad.o wr wm _ HIr.o qa);obtain⟨n0,n1,n2⟩:=cell3m ka;obtain⟨-,e1,e2,-,-,-⟩:=cell6L Ag.o;have e1:=(KX.below qa).2 _ _ _ (HKr1.o.2 _ _ _ e1);have e2:=(KX.below qa).2 _ _ _ (HKr1.o.2 _ _ _ e2);have B0:=Yh (fun W (hb:KX wm W)=>Ap.o W (A3.o.trans hb));have Bd:(k:Int)<(ml:Int):=by omega
   clear hc hc0 hc1 hc2 hq Ah ka qa za hb;go_upto_region 4 with fail;clear r0 r1 r2 ha;refine GoG.start [(16,⟨wr.heap.size,0,none⟩,.string q.name),(16,⟨wr.heap.size,2,none⟩,.int .i64 q.sig),(16,⟨wr.heap.size,1,none⟩,.bool q.ptr),(16,⟨yb,1,none⟩,.bool y.ez.sp.via),(16,⟨yb,2,none⟩,.slice y.ez.po pl y.ez.pc)] (by kernel_rfl) ?_ ?_
   ·exact Kd (Kd (Kd (Kd (Kd (Kn)))))
   refine GoG.fr 0 ?_;refine GoG.fr 1 ?_;refine GoG.s1 2 0 [16] ?_;refine GoG.fr 3 ?_;refine GoG.s1 4 1 [16] ?_;refine GoG.fr 5 ?_;refine GoG.s1 6 2 [16] ?_;refine GoG.fr 7 ?_;refine GoG.fr 8 ?_;refine GoG.s1 9 3 [16] ?_;refine GoG.fr 10 ?_;refine GoG.fr 11 ?_;refine GoG.s1 12 4 [16] ?_;refine GoG.on 13 fun K hK=>?_
   go_simp;refine(B0.o _ (KX.below ((Y8 _ _).drew))).mono ?_;rintro e9 wv ⟨pv,rfl,hO,bq⟩;have QV:=Yh (((Y8 wm.heap.size wm).drew).trans bq);have As:=Yh (OwnG.base (ZT0 hO) (show wm.heap.size<=wm.drew.heap.size from((Y8 wm.heap.size wm).drew).size));obtain⟨po,pc,hv,hpl9,-,hpr⟩:=As.o.row ZW;have el:(y.ez.sp.path).length=pl:=Af.o;rw[el]at hv hpl9;subst hv;have At:=@Yh (w.heap.size<=wm.heap.size) (A3.o.1);have PI:=Yh (ZX (hpr Sb (fun b hb=>AI.o b (Yj At.o hb))));have Au:=Yh hpl9;obtain⟨NZ,hNZ⟩:∃NZ:Sz,NZ=⟨⟨true,q.sig,q.ptr,y.ez.sp.via,y.ez.sp.path⟩,po,pc⟩:=⟨_,rfl⟩
   have Av:=Yh hNZ;have Aa:=@Yh (NZ.se=⟨true,q.sig,q.ptr,y.ez.sp.via,y.ez.sp.path⟩) (by rw[hNZ]);have Aw:=@Yh (#[Value.bool NZ.se.meth,.int .i64 NZ.se.typ,.bool NZ.se.ptr,.bool NZ.se.via,.slice NZ.po NZ.se.path.length NZ.pc]=#[.bool true,.int .i64 q.sig,.bool q.ptr,.bool y.ez.sp.via,.slice po pl pc]) (by rw[hNZ];simp only;rw[el]);have Ax:=Yh (Ad.o wm wv ((y.ms.take k).map (mS y.ez.sp)) Ar.o QV.o);have Ay:=@Yh (KX w wv) (A3.o.trans (KX.below QV.o));have A0:=A9.o wv ((y.ms.take k).map (mS y.ez.sp)) q.name NZ Ay.o Ax.o (by rw[Aa.o];exact Ai.o) (show SelIn Sb wv NZ from by rw[Av.o];exact⟨PI.o,by show(y.ez.sp.path).length<=pc;rw[Af.o];exact Au.o⟩);rw[Aw.o,Aa.o]at A0;have Az:=Yh A0;clear A0 hNZ hO bq hpl9 hpr el;refine hK.out _ _ (Kc (YR QV.o n0) (Kc (YR QV.o n2) (Kc (YR QV.o n1) (Kc (YR QV.o e1) (Kc (YR QV.o e2) (Kn)))))) ?_;clear hK K;refine GoG.fr 14 ?_;refine GoG.on 15 fun K hK=>?_
   go_simp;refine Az.o.mono ?_;rintro e9 w9 ⟨⟨v9,rfl⟩,hx9,hm9⟩;have A1:=@Yh (KX wm w9) ((KX.below QV.o).trans hx9);have AA:=Yh (A3.o.trans A1.o);have AB:=Yh hm9;refine hK.out _ _ (Kc (A1.o.2 _ _ _ n0) (Kc (A1.o.2 _ _ _ n2) (Kc (A1.o.2 _ _ _ n1) (Kc (A1.o.2 _ _ _ e1) (Kc (A1.o.2 _ _ _ e2) (Kn)))))) ?_;clear hK K hx9 hm9
   try simp only[Act.put,YB,YC,YD,YE,YF,YG]
   refine GoG.done (by kernel_rfl) ?_ _;have AC:=Yh (HKr1.o.trans ((KX.below QA.o).trans A1.o));have AD:=@Yh (I w9 ((y.ms.take (k+1)).map (mS y.ez.sp))) (by rw[Aj.o];exact AB.o);go_wp2_with fail;go_roundw
   case rel=>exact⟨k+1,by omega,by go_num,AD,AA,AC⟩
   case measure=>first|(simp[intOf];done)|(simp[intOf];omega)
  ·obtain rfl:k=ml:=by omega
   have B1:=@Yh ((y.ms.take k).map (mS y.ez.sp)=y.ms.map (mS y.ez.sp)) (by rw[Y3 (by rw[AL.o];exact Yk _)]);have B2:=@Yh (I wr (y.ms.map (mS y.ez.sp))) (by rw[<-B1.o];exact HIr.o);have y0:=HKr.o.2 _ _ _ (cell3m AU.o).1;have fo:=HKr1.o.2 _ _ _ (cell6L Ag.o).2.2.2.2.1;have t0:=HKr.o.2 _ _ _ TC.o.1;have t1:=HKr.o.2 _ _ _ TC.o.2.1;have t2:=HKr.o.2 _ _ _ TC.o.2.2.1;have t3:=HKr.o.2 _ _ _ TC.o.2.2.2.1;have t4:=HKr.o.2 _ _ _ TC.o.2.2.2.2;clear HIr;go_upto_region 6 with fail;refine GoG.start [(13,⟨wb,0,none⟩,.slice (some ⟨ab,aof,none⟩) L ac),(13,⟨yb,4,none⟩,.int .i64 zf),(13,⟨ab,aof+zf*5,none⟩,.int .i64 x.kind),(13,⟨ab,aof+zf*5+1,none⟩,.string x.name),(13,⟨ab,aof+zf*5+2,none⟩,.int .i64 x.n),(13,⟨ab,aof+zf*5+3,none⟩,.slice xw m xwc),(13,⟨ab,aof+zf*5+4,none⟩,.slice xk kl xkc)] (by kernel_rfl) ?_ ?_
   ·exact Kd (Kd (Kd (Kd (Kd (Kd (Kd (Kn)))))))
   refine GoG.fr 0 ?_;refine GoG.fr 1 ?_;refine GoG.fr 2 ?_;refine GoG.fr 3 ?_;refine GoG.s1 4 0 [13] ?_;refine GoG.fr 5 ?_;refine GoG.s1 6 1 [13] ?_;refine GoG.fr 7 ?_;refine GoG.s5 8 2 [13] ?_;obtain⟨w5,h5,k5,q5,z5⟩:=YA wr.drew #[.int .i64 0,.string ⟨#[]⟩,.int .i64 0,.slice none 0 0,.slice none 0 0] 50;have K5:=@Yh (BlockAt w5 wr.heap.size _ _) (k5);have B5:=Yh (((Y8 wr.heap.size wr).drew).trans q5);have N5:=Yh (Yk wr.heap.size);clear k5 q5 z5;refine GoG.on 9 fun K hK=>?_
   go_simp
   try rw[h5]
   refine hK.out _ _ (Kc (YR B5.o y0) (Kc (YR B5.o fo) (Kc (YR B5.o t0) (Kc (YR B5.o t1) (Kc (YR B5.o t2) (Kc (YR B5.o t3) (Kc (YR B5.o t4) (Kn)))))))) ?_;clear hK K
   try simp only[Act.put,YB,YC,YD,YE,YF,YG]
   obtain⟨w6,h6⟩:=Yn ((((((w5.setCell ⟨wr.heap.size,0,none⟩ (.int .i64 x.kind)).setCell ⟨wr.heap.size,1,none⟩ (.string x.name)).setCell ⟨wr.heap.size,2,none⟩ (.int .i64 x.n)).setCell ⟨wr.heap.size,3,none⟩ (.slice xw m xwc)).setCell ⟨wr.heap.size,4,none⟩ (.slice xk kl xkc)));have K6:=Yh (Z70 K5.o h6);have B6:=@Yh (Below wr.heap.size wr w6) (by rw[<-h6];exact Zh B5.o N5.o _ _ _ _ _);obtain⟨⟨g0,g1,g2,g3,g4⟩,p0,p1,p2,p3,p4⟩:=ZD K5.o;refine GoG.on 10 fun K hK=>?_
   go_simp
   try rw[h6]
   refine hK.out _ _ (Kc (YR B6.o y0) (Kc (YR B6.o fo) (Kc (YR B6.o t0) (Kc (YR B6.o t1) (Kc (YR B6.o t2) (Kc (YR B6.o t3) (Kc (YR B6.o t4) (Kn)))))))) ?_;clear y0 fo t0 t1 t2 t3 t4;clear hK K h5 h6 g0 g1 g2 g3 g4 p0 p1 p2 p3 p4
   try simp only[Act.put,YB,YC,YD,YE,YF,YG]
   refine GoG.done (by kernel_rfl) ?_ _;obtain⟨tb,htb⟩:=Yn (wr.heap.size);have k6:=K6.o;rw[htb]at k6;have K7:=Yh k6;have AN:=Yh (HKr.o.trans (KX.below B6.o));have AE:=Yh (HKr1.o.trans (KX.below B6.o));have AO:=Yh (Ad.o wr w6 _ B2.o B6.o);have d0:=(cell5 K7.o).1;have d3:=(cell5 K7.o).2.2.2.1;clear k6
   by_cases h6:x.kind=6
   case neg =>
    have B3:(x.kind != 6)=true:=by rw[YJ];exact h6
    have HE:=@Yh (I w6 (hitsT u (lkZ y))) (by rw[Ao.o,if_neg h6,List.append_nil];exact AO.o);clear h6;go_wp2_with fail
    try simp only[Exit.inBlock,Exit.then]
    refine bodyPost_ret (results_none rfl _ _ _) rfl ?_;exact⟨⟨_,rfl⟩,AN.o,HE.o⟩
   have B3:(x.kind != 6)=false:=by rw[bne_eq_false_iff_eq];exact h6
   have B4:=Yh (AJ.o h6);have Ab:=@Yh (hitsT u (lkZ y)=y.ms.map (mS y.ez.sp)++hitF y.ez.sp 0 (x.words.zip x.kids)) (by rw[Ao.o,if_pos h6]);clear h6;go_wp2_with fail
   try rw[htb]
   clear d0 d3 htb;go_loopw [50] (fun i2 w2'=>∃(kk:Nat),kk<=m/\i2=.int .i64 kk/\Hi (I w2' (y.ms.map (mS y.ez.sp)++hitF y.ez.sp 0 ((x.words.zip x.kids).take kk)))/\Hi (KX w w2')/\Hi (KX w1 w2')/\Hi (KX w6 w2')) (fun i2 _=>m-(intOf i2).toNat)
   case atStart=>exact⟨0,Yl _,rfl,Yh (by rw[List.take_zero];show I w6 (_++[]);rw[List.append_nil];exact AO.o),AN,AE,Yh (KX.refl _)⟩
   case round =>
    rename World=>wi
    obtain⟨kk,hkk,rfl,HI2,HK2,HK21,HK26⟩:=hrel
    by_cases hkm:kk<m
    ·have Ac:kk<x.words.length:=by rw[HM.o];exact hkm
     obtain⟨s1,s2,s3⟩:=B4.o;have Ak:kk<x.kids.length:=by rw[<-s1];exact Ac
     obtain⟨xb,xof,rfl,hxb,hxcl⟩:=HX.o.words.cells (by omega);have hw:=hxcl kk Ac;rw[Z3 Ac]at hw;obtain⟨kb,kof,rfl,hkb,hkcl⟩:=HX.o.kids.cells (by omega);have A4:=hkcl kk Ak;rw[Z3 Ak]at A4;have AF:kk<(x.words.zip x.kids).length:=by rw[List.length_zip];omega
     have A8:=ZE9 (s:=y.ez.sp) AF;have A7:=ZX1 y.ez.sp (x.words.zip x.kids) 0 kk AF;rw[List.getElem_zip]at A8 A7;rw[Nat.zero_add]at A7;simp only at A8 A7;obtain⟨wd,hwd⟩:=Yn (x.words[kk]);rw[hwd]at hw A8 A7;have Al:0<wd.size:=by rw[<-hwd];exact s3 _ (Yq Ac)
     obtain⟨kq,hkq⟩:=Yn (x.kids[kk]);rw[hkq]at A4 A8 A7;have AP:=HK2.o.2 _ _ _ hw;have AQ:=HK2.o.2 _ _ _ A4;have B7:(kk:Int)<(m:Int):=by omega
     have B8:(kk:Int)<(kl:Int):=by rw[AW.o]at Ak;omega
     have d4:=HK26.o.2 _ _ _ (cell5 K7.o).2.2.2.2;obtain⟨-,e1,e2,-,-,-⟩:=cell6L Ag.o;have e1:=HK21.o.2 _ _ _ e1;have e2:=HK21.o.2 _ _ _ e2;have A3:=HK2;have Ar:=HI2;have B9:=Yh (fun W (hb:KX wi W)=>Aq.o kk W (A3.o.trans hb));obtain⟨fw,hfw⟩:=Yn (fieldT wd)
     have Ai:=Yh (show ∃R,hitsT u (lkZ y)=(y.ms.map (mS y.ez.sp)++hitF y.ez.sp 0 ((x.words.zip x.kids).take kk))++(fw,(⟨false,kq,false,y.ez.sp.via,y.ez.sp.path++[(kk:Int)]⟩:Se))::R from by
      obtain⟨R,hR⟩:=A8;exact⟨R,by rw[Ab.o,hR,hfw,Y6]⟩)
     have Aj:=@Yh (y.ms.map (mS y.ez.sp)++hitF y.ez.sp 0 ((x.words.zip x.kids).take (kk+1))=(y.ms.map (mS y.ez.sp)++hitF y.ez.sp 0 ((x.words.zip x.kids).take kk))++[(fw,(⟨false,kq,false,y.ez.sp.via,y.ez.sp.path++[(kk:Int)]⟩:Se))]) (by rw[A7,hfw,Y6]);clear A8 A7 hw hxb hxcl hkb hkcl A4 hwd hkq s1 s2 s3 Ac Ak AF
     by_cases h43:byteAt wd 0=43
     focus
      have h2:(wd[0].toNat:Int)=43:=by rw[<-Zm Al];exact h43
      have AG:wd.extract 1 wd.size=fw:=by rw[<-hfw];unfold fieldT;rw[if_pos ⟨Al,h43⟩]
      have Ba:(1:Int)<=(wd.size:Int):=by omega
      have AH:1<=wd.size:=Al;clear h43 hfw;go_upto_region 13 with fail;clear AP h2 AG Ba AH
     rotate_left
     focus
      have h2:¬(wd[0].toNat:Int)=43:=by rw[<-Zm Al];exact h43
      have AG:fw=wd:=by rw[<-hfw];unfold fieldT;rw[if_neg (fun g=>h43 g.2)]
      clear h43 hfw;subst AG;go_upto_region 13 with fail;clear AP h2
     all_goals
      refine GoG.start [(17,⟨tb,4,none⟩,.slice (some ⟨kb,kof,none⟩) kl xkc),(17,⟨kb,kof+kk,none⟩,.int .i64 kq),(17,⟨yb,1,none⟩,.bool y.ez.sp.via),(17,⟨yb,2,none⟩,.slice y.ez.po pl y.ez.pc)] (by kernel_rfl) ?_ ?_
      ·exact Kd (Kd (Kd (Kd (Kn))))
      refine GoG.fr 0 ?_;refine GoG.fr 1 ?_;refine GoG.fr 2 ?_;refine GoG.s1 3 0 [17] ?_;refine GoG.fr 4 ?_;refine GoG.fr 5 ?_;refine GoG.s1 6 1 [17] ?_;refine GoG.fr 7 ?_;refine GoG.fr 8 ?_;refine GoG.s1 9 2 [17] ?_;refine GoG.fr 10 ?_;refine GoG.fr 11 ?_;refine GoG.s1 12 3 [17] ?_;refine GoG.fr 13 ?_;refine GoG.on 14 fun K hK=>?_
      go_simp;refine(B9.o _ (KX.below ((Y8 _ _).drew))).mono ?_;rintro e9 wv ⟨pv,rfl,hO,bq⟩;have QV:=Yh (((Y8 wi.heap.size wi).drew).trans bq);have As:=Yh (OwnG.base (ZT0 hO) (show wi.heap.size<=wi.drew.heap.size from((Y8 wi.heap.size wi).drew).size));obtain⟨po,pc,hv,hpl9,-,hpr⟩:=As.o.row ZW;have el:(y.ez.sp.path++[(kk:Int)]).length=(pl+1):=by rw[Ye,Af.o];rfl
      rw[el]at hv hpl9;subst hv;have At:=@Yh (w.heap.size<=wi.heap.size) (A3.o.1);have PI:=Yh (ZX (hpr Sb (fun b hb=>AI.o b (Yj At.o hb))));have Au:=Yh hpl9;obtain⟨NZ,hNZ⟩:∃NZ:Sz,NZ=⟨⟨false,kq,false,y.ez.sp.via,y.ez.sp.path++[(kk:Int)]⟩,po,pc⟩:=⟨_,rfl⟩
      have Av:=Yh hNZ;have Aa:=@Yh (NZ.se=⟨false,kq,false,y.ez.sp.via,y.ez.sp.path++[(kk:Int)]⟩) (by rw[hNZ]);have Aw:=@Yh (#[Value.bool NZ.se.meth,.int .i64 NZ.se.typ,.bool NZ.se.ptr,.bool NZ.se.via,.slice NZ.po NZ.se.path.length NZ.pc]=#[.bool false,.int .i64 kq,.bool false,.bool y.ez.sp.via,.slice po (pl+1) pc]) (by rw[hNZ];simp only;rw[el]);have Ax:=Yh (Ad.o wi wv (y.ms.map (mS y.ez.sp)++hitF y.ez.sp 0 ((x.words.zip x.kids).take kk)) Ar.o QV.o);have Ay:=@Yh (KX w wv) (A3.o.trans (KX.below QV.o));have A0:=A9.o wv (y.ms.map (mS y.ez.sp)++hitF y.ez.sp 0 ((x.words.zip x.kids).take kk)) fw NZ Ay.o Ax.o (by rw[Aa.o];exact Ai.o) (show SelIn Sb wv NZ from by rw[Av.o];exact⟨PI.o,by show(y.ez.sp.path++[(kk:Int)]).length<=pc;rw[Ye,Af.o];exact Au.o⟩);rw[Aw.o,Aa.o]at A0;have Az:=Yh A0;clear A0 hNZ hO bq hpl9 hpr el;refine hK.out _ _ (Kc (YR QV.o d4) (Kc (YR QV.o AQ) (Kc (YR QV.o e1) (Kc (YR QV.o e2) (Kn))))) ?_;clear hK K;refine GoG.fr 15 ?_;refine GoG.on 16 fun K hK=>?_
      go_simp;refine Az.o.mono ?_;rintro e9 w9 ⟨⟨v9,rfl⟩,hx9,hm9⟩;have A1:=@Yh (KX wi w9) ((KX.below QV.o).trans hx9);have AA:=Yh (A3.o.trans A1.o);have AB:=Yh hm9;refine hK.out _ _ (Kc (A1.o.2 _ _ _ d4) (Kc (A1.o.2 _ _ _ AQ) (Kc (A1.o.2 _ _ _ e1) (Kc (A1.o.2 _ _ _ e2) (Kn))))) ?_;clear hK K hx9 hm9
      try simp only[Act.put,YB,YC,YD,YE,YF,YG]
      refine GoG.done (by kernel_rfl) ?_ _;have AC:=Yh (HK21.o.trans A1.o);have Bb:=Yh (HK26.o.trans A1.o);have AD:=@Yh (I w9 (y.ms.map (mS y.ez.sp)++hitF y.ez.sp 0 ((x.words.zip x.kids).take (kk+1)))) (by rw[Aj.o];exact AB.o);go_wp2_with fail;go_roundw
      case rel=>exact⟨kk+1,by omega,by go_num,AD,AA,AC,Bb⟩
      case measure=>first|(simp[intOf];done)|(simp[intOf];omega)
    ·obtain rfl:kk=m:=by omega
     have HE:=Yh (show I wi (hitsT u (lkZ y))from by
      have:=HI2.o;rw[Y3 (by rw[List.length_zip,HM.o];exact Nat.min_le_left _ _)]at this;rw[Ab.o];exact this)
     go_wp2_with fail;go_end0;exact⟨⟨_,rfl⟩,HK2.o,HE.o⟩
def mhits(u:Un)(ls:List Lk):List ((ByteArray×Se)×Bool):=ls.flatMap fun l=>(hitsT u l).map fun h=>(h,l.sp.many)
def addM(M:ByteArray->Option (Se×Nat))(h:(ByteArray×Se)×Bool):ByteArray->Option (Se×Nat):=fun t=>if t=h.1.1 then some (match M h.1.1 with|none=>(h.1.2,incF h.2)|some q=>(q.1,q.2+incF h.2))else M t
def gath(p:ByteArray->Bool)(M:ByteArray->Option (Se×Nat))(H:List ((ByteArray×Se)×Bool)):ByteArray->Option (Se×Nat):=H.foldl (fun M h=>if p h.1.1=true then addM M h else M) M
theorem Zga(p:ByteArray->Bool)(M:ByteArray->Option (Se×Nat))(H:List ((ByteArray×Se)×Bool))(h:(ByteArray×Se)×Bool):gath p M (H++[h])=if p h.1.1=true then addM (gath p M H) h else gath p M H:=by
 unfold gath;rw[List.foldl_append]
 rfl
def cmbn(o:Option (Se×Nat))(R:List Se)(c:Nat):Option (Se×Nat):=match o with
 | none=>(match R with | []=>none|s::_=>some (s,c))
 | some q=>some (q.1,q.2+c)
theorem Zx4(o:Option (Se×Nat))(A B:List Se)(a b:Nat)(hA:A=[]->a=0):cmbn (cmbn o A a) B b=cmbn o (A++B) (a+b):=by
 cases o with
 | some q=>show some (q.1,q.2+a+b)=some (q.1,q.2+(a+b));rw[Nat.add_assoc]
 | none =>
  cases A with
  | nil=>rw[hA rfl,Nat.zero_add];rfl
  | cons x r=>rfl
theorem Z88(nm:ByteArray)(many:Bool):∀(hs:List (ByteArray×Se)) (M:ByteArray->Option (Se×Nat)),gath (fun s=>decide (s=nm)) M (hs.map fun h=>(h,many)) nm=cmbn (M nm) (ofName nm hs) ((ofName nm hs).length*incF many)
 | [],M=>by
  show M nm=cmbn (M nm) [] (0*_)
  rw[Nat.zero_mul]
  cases M nm with
  | none=>rfl
  | some q=>rfl
 | (x,s)::r,M=>by
  have e:gath (fun s=>decide (s=nm)) M (((x,s)::r).map fun h=>(h,many))=gath (fun s=>decide (s=nm)) (if decide (x=nm)=true then addM M ((x,s),many)else M) (r.map fun h=>(h,many)):=rfl;rw[e,Z88 nm many r];have e2:ofName nm ((x,s)::r)=(if x=nm then[s]else[])++ofName nm r:=by rw[<-Zo2,<-ZC1];rfl
  rw[e2]
  by_cases h:x=nm
  ·subst h
   rw[if_pos (Yb rfl),if_pos rfl]
   have e3:addM M ((x,s),many) x=cmbn (M x) [s] (incF many):=by
    unfold addM;rw[if_pos rfl]
    cases M x with
    | none=>rfl
    | some q=>rfl
   rw[e3,Zx4 _ _ _ _ _ (fun h=>by cases h)]
   congr 1
   rw[Ye,Nat.add_mul]
   show _=1*_+_
   omega
  ·rw[if_neg (by simpa using h),if_neg h]
   rfl
theorem ZVc(p:ByteArray->Bool)(M:ByteArray->Option (Se×Nat))(A B:List ((ByteArray×Se)×Bool)):gath p M (A++B)=gath p (gath p M A) B:=List.foldl_append
theorem Zo7(u:Un)(nm:ByteArray):∀(ls:List Lk) (M:ByteArray->Option (Se×Nat)),gath (fun s=>decide (s=nm)) M (mhits u ls) nm=cmbn (M nm) (hadT u ls nm) (hadT u ls nm).length
 | [],M=>by
  show M nm=cmbn (M nm) [] 0
  cases M nm with
  | none=>rfl
  | some q=>rfl
 | l::r,M=>by
  have e1:mhits u (l::r)=((hitsT u l).map fun h=>(h,l.sp.many))++mhits u r:=List.flatMap_cons;have e2:hadT u (l::r) nm=(if l.sp.many=true then ofName nm (hitsT u l)++ofName nm (hitsT u l)else ofName nm (hitsT u l))++hadT u r nm:=List.flatMap_cons;rw[e1,ZVc,Zo7 u nm r,Z88,e2]
  by_cases hm:l.sp.many=true
  ·rw[if_pos hm,hm]
   obtain⟨R,hR⟩:=Yn (ofName nm (hitsT u l));rw[hR]
   have e3:cmbn (M nm) R (R.length*incF true)=cmbn (M nm) (R++R) (R++R).length:=by
    have e4:R.length*incF true=(R++R).length:=by rw[Ye];unfold incF;rw[if_pos rfl];omega
    rw[e4]
    cases M nm with
    | none=>cases R<;>rfl
    | some q=>rfl
   have e5:(R++R++hadT u r nm).length=(R++R).length+(hadT u r nm).length:=Ye;rw[e3,Zx4 _ _ _ _ _ (fun h=>by rw[h];rfl),e5]
  ·rw[if_neg hm]
   have e4:(ofName nm (hitsT u l)).length*incF l.sp.many=(ofName nm (hitsT u l)).length:=by unfold incF;rw[if_neg hm,Nat.mul_one]
   rw[e4,Zx4 _ _ _ _ _ (fun h=>by rw[h];rfl),Ye]
def AG(p:ByteArray->Bool)(Sb:Nat->Prop)(w:World)(mp:Nat)(H:List ((ByteArray×Se)×Bool)):Prop:=
 ∃(n:Nat) (M:ByteArray->Option (Sz×Nat)),FMz w mp n M/\n<=H.length/\(∀s,(M s).map (fun q=>(q.1.se,q.2))=gath p (fun _=>none) H s)/\∀s q,M s=some q->SelIn Sb w q.1/\q.2<=2*H.length
theorem AG.below{p:ByteArray->Bool}{Sb:Nat->Prop}{w w':World}{mp:Nat}{H:List ((ByteArray×Se)×Bool)}(h:AG p Sb w mp H)(hb:Below w.heap.size w w'):AG p Sb w' mp H:=by
 obtain⟨n,M,h1,h2,h3,h4⟩:=h;exact⟨n,M,FMap.below h1 hb,h2,h3,fun s q hq=>⟨(KX.below hb).selIn (h4 s q hq).1,(h4 s q hq).2⟩⟩
theorem AG.lt{p:ByteArray->Bool}{Sb:Nat->Prop}{w:World}{mp:Nat}{H:List ((ByteArray×Se)×Bool)}(h:AG p Sb w mp H):mp<w.heap.size:=by
 obtain⟨n,M,h1,-⟩:=h;exact FMap.lt h1
theorem AG.kx{p:ByteArray->Bool}{Sb:Nat->Prop}{w w':World}{mp:Nat}{H:List ((ByteArray×Se)×Bool)}(h:AG p Sb w mp H)(hx:SameX mp w w'):KX w w':=by
 obtain⟨n,M,h1,-⟩:=h;exact KX.of hx (fun b o v hc=>FMap.none (a:=⟨b,o,none⟩) h1 hc)
theorem AG.new(p:ByteArray->Bool)(Sb:Nat->Prop)(w:World):AG p Sb (w.alloc (.map #[] 0)) w.heap.size []:=
 ⟨0,fun _=>none,ZTb w,Yk _,fun s=>rfl,fun s q h=>by cases h⟩
theorem AG.step{p:ByteArray->Bool}{Sb:Nat->Prop}{w w':World}{mp n:Nat}{H:List ((ByteArray×Se)×Bool)}{M:ByteArray->Option (Sz×Nat)}{nm:ByteArray}{z:Sz}{many:Bool}(h0:FMz w mp n M)(h2:n<=H.length)(h3:∀s,(M s).map (fun q=>(q.1.se,q.2))=gath p (fun _=>none) H s)(h4:∀s q,M s=some q->SelIn Sb w q.1/\q.2<=2*H.length)
  (hz:SelIn Sb w z) (hx:SameX mp w w') (h1:FMz w' mp (n+1) (if p nm=true then addF M nm z many else M)):AG p Sb w' mp (H++[((nm,z.se),many)]):=by
 have kx:KX w w':=KX.of hx (fun b o v hc=>FMap.none (a:=⟨b,o,none⟩) h0 hc);have hi:incF many<=2:=by unfold incF;split<;>omega
 refine⟨n+1,_,h1,by rw[Ye];exact Nat.add_le_add_right h2 1,fun s=>?_,fun s q hq=>?_⟩
 ·rw[Zga]
  show _=(if p nm=true then addM (gath p (fun _=>none) H) ((nm,z.se),many)else gath p (fun _=>none) H) s
  by_cases hp:p nm=true
  ·rw[if_pos hp,if_pos hp]
   unfold addF addM;simp only
   by_cases hs:s=nm
   ·rw[if_pos hs,if_pos hs,<-h3 nm]
    cases M nm with
    | none=>rfl
    | some q=>rfl
   ·rw[if_neg hs,if_neg hs]
    exact h3 s
  ·rw[if_neg hp,if_neg hp]
   exact h3 s
 ·rw[Ye]
  show _/\_<=2*(H.length+1)
  by_cases hp:p nm=true
  ·rw[if_pos hp]at hq
   unfold addF at hq
   by_cases hs:s=nm
   ·rw[if_pos hs]at hq
    injection hq with hq
    subst hq
    cases hM:M nm with
    | none=>exact⟨kx.selIn hz,by show incF many<=_;omega⟩
    | some q =>
     obtain⟨g1,g2⟩:=h4 nm q hM;exact⟨kx.selIn g1,by show q.2+incF many<=_;omega⟩
   ·rw[if_neg hs]at hq
    obtain⟨g1,g2⟩:=h4 s q hq;exact⟨kx.selIn g1,by omega⟩
  ·rw[if_neg hp]at hq
   obtain⟨g1,g2⟩:=h4 s q hq;exact⟨kx.selIn g1,by omega⟩
theorem Z9c{u:Un}{l:Lk}(h1:l.ms.length<=16)(h2:(tyU u l.form).words.length<=18):(hitsT u l).length<=34:=by
 unfold hitsT hitM;rw[Ye,Yg]
 split
 ·rw[Zi4,List.length_zip]
  omega
 ·show _+0<=_
  omega
theorem Zba{u:Un}{ls:List Lk}{k:Nat}(hk:k<ls.length):mhits u (ls.take (k+1))=mhits u (ls.take k)++(hitsT u ls[k]).map fun h=>(h,ls[k].sp.many):=by
 unfold mhits;rw[Zl0 hk,List.flatMap_append]
 congr 1
 exact List.append_nil _
theorem Z16{u:Un}:∀{ls:List Lk},(∀l∈ls,(hitsT u l).length<=34)->(mhits u ls).length<=ls.length*34
 | [],_=>Yk _
 | l::r,h=>by
  have h1:=h l Yt;have h2:=Z16 (u:=u) (ls:=r) (fun x hx=>h x (Yx _ hx));unfold mhits at h2 ⊢;rw[List.flatMap_cons,Ye,Yg,List.length_cons]
  omega
theorem Zzd{n mp:Nat}{w w' w2:World}(h:Below n w w')(hx:Below mp w' w2)(hm:n<=mp):Below n w w2:=h.trans (hx.mono hm)
set_option maxRecDepth 100000 in
theorem Zr5(Sb:Nat->Prop)(u:Un)(e0:Int)(ls:List Lk)(vl:Value)(name:ByteArray)(nb wb:Nat)(w:World)(hSb:∀b,w.heap.size<=b->Sb b)(hK:WkAt Sb w wb u e0)(hR:LRow Sb w vl ls)(hN:w.cell? ⟨nb,0,none⟩=some (.string name))(hns:name.size<=maxLen)(hr:rightU u=true)(hlf:∀l∈ls,inL u.types l.form=true)(hpl:∀l∈ls,l.sp.path.length<=900)(hml:∀l∈ls,l.ms.length<=16)(hll:ls.length<=400) :
  Calls Tryz.prog 20 #[.pointer (some ⟨wb,0,none⟩),vl,.func (.func 21) #[] #[.pointer (some ⟨nb,0,none⟩)]] w fun e w'=>∃mp,e=.returned (.map (some mp))/\AG (fun s=>decide (s=name)) Sb w' mp (mhits u ls)/\Below w.heap.size w w':=by
 obtain⟨lo0,cap0,zs0,rfl,hm,hG0,hc0,hz0⟩:=hR;have Ad:=Yh hK
 have A1:∀l∈ls,(hitsT u l).length<=34:=fun l hl=>by
  have hi:=hlf l hl;obtain⟨ao,no,ac,nc,hkb,hU⟩:=hK;have A2:=hr;rw[Z8,Yd]at A2;have Ar:=Zx1 A2.1;obtain⟨ab,aof,rfl,hab,hac2⟩:=hU.o.types.cells (by omega);unfold inL at hi;have hi:=Yf hi;obtain⟨z,hz⟩:∃z:Nat,l.form=(z:Int):=⟨l.form.toNat,by omega⟩
  have A8:z<u.types.length:=by omega
  obtain⟨_,_,_,_,-,-,-,-,-,-,-,hxc⟩:=hac2 z A8;exact Z9c (hml l hl) (by rw[hz,Z80 A8];exact hxc.ok.wl)
 have A9:∀k,(mhits u (ls.take k)).length<=13600:=fun k=>by
  have h1:=Z16 (u:=u) (ls:=ls.take k) (fun l hl=>A1 l (List.mem_of_mem_take hl));have h2:(ls.take k).length<=ls.length:=by rw[Y5];exact Nat.min_le_right _ _
  omega
 have Ae:=Yh A9;have e1:zs0.length=ls.length:=by rw[<-hm,Yg]
 obtain⟨n9,hn9⟩:=Yn (ls.length);have Af:=Yh (e1.trans hn9);have Aa:=Yh hn9
 have Ag:=Yh (show ∀k (h1:k<zs0.length) (h2:k<ls.length),ls[k]=lkZ zs0[k]/\inL u.types zs0[k].form=true/\zs0[k].ez.sp.path.length<=900/\zs0[k].ms.length<=16 from fun k h1 h2=>by
  have a1:ls[k]=lkZ zs0[k]:=by
   have:=congrArg (fun l=>l[k]?) hm
   simpa [h1,h2] using this.symm
  have a2:=hlf _ (Yq h2);have a3:=hpl _ (Yq h2);have a4:=hml _ (Yq h2);rw[a1]at a2 a3 a4;exact⟨a1,a2,a3,a4⟩)
 rw[hn9]at hll ⊢;have Ah:=Yh hr;have Ai:=Yh hSb;have Aj:=Yh hG0;have Ak:=Yh hz0;have Al:=Yh hns;obtain⟨w1,h1,k1,q1,z1⟩:=YA w #[.func (.func 21) #[] #[.pointer (some ⟨nb,0,none⟩)]] 36;obtain⟨w2,h2⟩:=Yn (w1.alloc (.map #[] 0));have q2:Below w1.heap.size w1 w2:=by rw[<-h2];exact(Y8 _ _).alloc (Yk _) _
 have g2:AG (fun s=>decide (s=name)) Sb w2 w1.heap.size []:=by rw[<-h2];exact AG.new _ _ _
 obtain⟨w3,h3,k3,q3,z3⟩:=YA w2 #[.map (some w1.heap.size)] 65;obtain⟨mp,hmp⟩:=Yn (w1.heap.size);rw[hmp]at g2 h3 k3;obtain⟨sb,hsb⟩:=Yn (w.heap.size);obtain⟨hb',hhb⟩:=Yn (w2.heap.size);have G3:=Yh (g2.below q3);have Q2:=@Yh (Below w.heap.size w w2) (q1.trans (q2.mono q1.size));have Q3:=@Yh (Below w.heap.size w w3) (YU Q2 q3);have sk:=(show w3.cell? ⟨w.heap.size,0,none⟩=some (.func (.func 21) #[] #[.pointer (some ⟨nb,0,none⟩)])from(q3.cell (p:=⟨w.heap.size,0,none⟩) (Yi k1.lt q2.size)).trans ((q2.cell (p:=⟨w.heap.size,0,none⟩) k1.lt).trans (k1.cell 0)));have A4:w3.cell? ⟨w2.heap.size,0,none⟩=some (.map (some mp)):=k3.cell 0;rw[hhb]at A4;rw[hsb]at sk;have Am:=Yh sk;have Ab:=Yh A4;have An:=Yh ((KX.below Q3.o).2 _ _ _ hN);have Ao:=@Yh (w.heap.size<=mp) (by rw[<-hmp];exact q1.size);have Ap:=@run_makeMap Tryz.prog;obtain⟨VF,hVF⟩:∃V:Value,V=.func (.func 21) #[] #[.pointer (some ⟨nb,0,none⟩)]:=⟨_,rfl⟩
 clear hK hr hm hlf hpl hml hn9 e1 hG0 hz0 hSb hN hns A1 A9 k1 q1 z1 q2 g2 k3 q3 z3 hVF;go_enter Tryz.func20,Tryz.ntmps20;go_wp2_with fail
 try rw[h2]
 clear h1 h2 h3 Ap sk A4;go_loopw [13] (fun i wr=>∃(k:Nat),k<=n9/\i=.int .i64 k/\Hi (AG (fun s=>decide (s=name)) Sb wr mp (mhits u (ls.take k)))/\Hi (KX w3 wr)/\Hi (Below w.heap.size w wr)) (fun i _=>n9-(intOf i).toNat)
 case atStart=>exact⟨0,Yl _,rfl,Yh (by rw[List.take_zero];exact G3.o),Yh (KX.refl _),Q3⟩
 case round =>
  obtain⟨k,hk,rfl,HG,HKX,HB⟩:=hrel
  by_cases hkn:k<n9
  ·have A3:k<zs0.length:=by rw[Af.o];exact hkn
   have A5:k<ls.length:=by rw[Aa.o];exact hkn
   obtain⟨b,off,rfl,hb,-,hc⟩:=Aj.o.cells (by omega);have hc:=hc k A3;obtain⟨d1,d3,d4,d5⟩:=Ag.o k A3 A5;have A6:=Ak.o _ (Yq A3);have A7:=Yh (Zba (u:=u) A5);obtain⟨y,hy⟩:=Yn (zs0[k]);rw[hy]at hc A6 d1 d3 d4 d5;have r0:=(HB.o.cell (p:=⟨b,off+k*6+0,none⟩) hb).trans (hc 0 _ rfl);have r1:=(HB.o.cell (p:=⟨b,off+k*6+1,none⟩) hb).trans (hc 1 _ rfl);have r2:=(HB.o.cell (p:=⟨b,off+k*6+2,none⟩) hb).trans (hc 2 _ rfl);have r3:=(HB.o.cell (p:=⟨b,off+k*6+3,none⟩) hb).trans (hc 3 _ rfl);have r4:=(HB.o.cell (p:=⟨b,off+k*6+4,none⟩) hb).trans (hc 4 _ rfl);have r5:=(HB.o.cell (p:=⟨b,off+k*6+5,none⟩) hb).trans (hc 5 _ rfl);rw[Nat.add_zero]at r0;obtain⟨wa,ha,ka,qa,za⟩:=YA wr #[.int .i64 y.ez.sp.typ,.bool y.ez.sp.via,.slice y.ez.po y.ez.sp.path.length y.ez.pc,.bool y.ez.sp.many,.int .i64 y.form,.slice y.mo y.ms.length y.mc] 103;obtain⟨xb,hxb⟩:=Yn (wr.heap.size);rw[hxb]at ka;have BA:=YT HB qa;have XA:=Yh (HKX.o.trans (KX.below qa));have GA:=Yh (HG.o.below qa);obtain⟨x0,x1,x2,x3,x4,x5⟩:=cell6L ka;have X3:=Yh x3;have A0:=@Yh (ls[k]=lkZ y) (d1)
   have Ac:Hi (Calls Tryz.prog 48 #[.pointer (some ⟨wb,0,none⟩),.agg #[.int .i64 y.ez.sp.typ,.bool y.ez.sp.via,.slice y.ez.po y.ez.sp.path.length y.ez.pc,.bool y.ez.sp.many,.int .i64 y.form,.slice y.mo y.ms.length y.mc],.func (.func 49) #[] #[.pointer (some ⟨sb,0,none⟩),.pointer (some ⟨hb',0,none⟩),.pointer (some ⟨xb,0,none⟩)]] wa fun e w'=>(∃v,e=.returned v)/\KX wa w'/\AG (fun s=>decide (s=name)) Sb w' mp (mhits u (ls.take (k+1)))/\Below w.heap.size w w'):=Yh (by
    refine(Zua Sb u e0 y (some ⟨sb,0,none⟩) (some ⟨hb',0,none⟩) (some ⟨xb,0,none⟩) (fun W L=>AG (fun s=>decide (s=name)) Sb W mp (mhits u (ls.take k)++L.map fun h=>(h,y.ez.sp.many))/\Below w.heap.size w W) wb wa (fun b hb=>Ai.o b (Yj BA.o.size hb)) (Ad.o.below BA.o) (A6.same (SameS.below BA.o)) Ah.o d3 d4 d5 ⟨by rw[List.map_nil,List.append_nil];exact GA.o,BA.o⟩ (fun W W' L hI hb=>⟨hI.1.below hb,hI.2.trans (hb.mono hI.2.size)⟩) (fun W L nm z hkx hI hR hz=>?_)).mono ?_
    ·obtain⟨⟨n,M,m1,m2,m3,m4⟩,hbw⟩:=hI
     have Aq:(mhits u (ls.take k)++L.map fun h=>(h,y.ez.sp.many)).length<=13600:=by
      obtain⟨R,hR⟩:=hR;have h1:=Ae.o (k+1);rw[A7.o,A0.o]at h1;rw[hR]at h1;simp only[Ye,Yg,List.length_cons]at h1 ⊢
      omega
     refine(ZM8 nm name z y.ez.sp.many sb hb' xb nb mp n M W Al.o ((XA.o.trans hkx).2 _ _ _ Am.o) ((XA.o.trans hkx).2 _ _ _ An.o) ((XA.o.trans hkx).2 _ _ _ Ab.o) (hkx.2 _ _ _ X3.o) m1 (by omega) (fun p hp=>by have:=(m4 _ _ hp).2;omega)).mono ?_;rintro e W' ⟨g1,⟨g2,g3⟩,g4⟩;refine⟨g1,KX.of g2 (fun b o v hc=>FMap.none (a:=⟨b,o,none⟩) m1 hc),?_,Zzd hbw g3 Ao.o⟩;rw[Yu,<-Y6];refine AG.step m1 m2 m3 m4 hz g2 ?_;simp only[decide_eq_true_eq];exact g4
    ·rintro e w' ⟨g1,g2,g3,g4⟩
     refine⟨g1,g2,?_,g4⟩;rw[A7.o,A0.o];exact g3)
   have As:(k:Int)<(n9:Int):=by omega
   clear A7 A0 hc d1 d3 d4 d5 A6 hy A3 A5 ka qa za hb;go_wp2_with fail;refine Ac.o.mono ?_;rintro e9 w9 ⟨⟨v9,rfl⟩,g2,g3,g4⟩;have G9:=Yh g3;have X9:=Yh (XA.o.trans g2);have B9:=Yh g4;clear Ac g2 g3 g4 x0 x1 x2 x3 x4 x5 r0 r1 r2 r3 r4 r5 ha hxb;go_wp2_with fail;go_roundw
   case rel=>exact⟨k+1,by omega,by go_num,G9,X9,B9⟩
   case measure=>first|(simp[intOf];done)|(simp[intOf];omega)
  ·obtain rfl:k=n9:=by omega
   have At:=HKX.o.2 _ _ _ Ab.o
   have GE:=Yh (show AG (fun s=>decide (s=name)) Sb wr mp (mhits u ls)from by
    have h1:=HG.o;rw[Y3 (by rw[Aa.o];exact Yk _)]at h1;exact h1)
   go_wp2_with fail;go_ret;exact⟨_,rfl,GE.o,HB.o⟩
def levT:Nat->Un->List Sp->List Int->List (Un×List Lk)×Int
 | 0,_,_,_=>([],0)
 | n+1,u,es,seen=>if es=[]then([],0)else if(lookT es u).2.2≠0 then([],(lookT es u).2.2)
  else(((lookT es u).1,(lookT es u).2.1)::(levT n (lookT es u).1 (nextT (lookT es u).1 (lookT es u).2.1 (seen++es.map (·.typ))) (seen++es.map (·.typ))).1,(levT n (lookT es u).1 (nextT (lookT es u).1 (lookT es u).2.1 (seen++es.map (·.typ))) (seen++es.map (·.typ))).2)
def allT(u:Un)(i:Int):List (Un×List Lk)×Int:=if(frontT u i).2.2≠0 then([],(frontT u i).2.2)else levT 7 (frontT u i).1 (frontT u i).2.1 []
def pickT(name:ByteArray):List (Un×List Lk)->Int->Un×Se×Int
 | [],e=>(noUn,noSe,if e≠0 then e else 8)
 | (U,ls)::r,e=>match hadT U ls name with
  | [s]=>(U,s,0)
  | _::_::_=>(noUn,noSe,9)
  | []=>pickT name r e
theorem Zq6(name:ByteArray):∀(n:Nat) (u:Un) (es:List Sp) (seen:List Int),seekT name n u es seen=pickT name (levT n u es seen).1 (levT n u es seen).2
 | 0,_,_,_=>rfl
 | n+1,u,es,seen=>by
  unfold seekT levT
  by_cases h0:es=[]
  ·rw[if_pos h0,if_pos h0]
   rfl
  ·rw[if_neg h0,if_neg h0]
   by_cases c:(lookT es u).2.2≠0
   ·rw[if_pos c,if_pos c]
    show _=(noUn,noSe,if(lookT es u).2.2≠0 then _ else _)
    rw[if_pos c]
   ·rw[if_neg c,if_neg c,Zq6 name n]
    rfl
theorem Zcc(u:Un)(i:Int)(name:ByteArray):selT u i name=pickT name (allT u i).1 (allT u i).2:=by
 unfold selT allT
 by_cases c:(frontT u i).2.2≠0
 ·rw[if_pos c,if_pos c]
  show _=(noUn,noSe,if(frontT u i).2.2≠0 then _ else _)
  rw[if_pos c]
 ·rw[if_neg c,if_neg c,Zq6]
theorem ZZ2(name:ByteArray)(e:Int):∀(pre r:List (Un×List Lk)),(∀p∈pre,hadT p.1 p.2 name=[])->pickT name (pre++r) e=pickT name r e
 | [],_,_=>rfl
 | (U,ls)::pre,r,h=>by
  have h1:=h (U,ls) Yt
  have h2:pickT name ((U,ls)::(pre++r)) e=(match hadT U ls name with
   | [s]=>(U,s,(0:Int))
   | _::_::_=>(noUn,noSe,9)
   | []=>pickT name (pre++r) e):=rfl
  show pickT name ((U,ls)::(pre++r)) e=_
  simp only at h1;rw[h2,h1];exact ZZ2 name e pre r (fun p hp=>h p (Yx _ hp))
structure Hd (n:Nat) (V:Un) (es:List Sp) (seen:List Int):Prop where
 gl:Gl V es
 nd:(seen++es.map (·.typ)).Nodup
 si:∀t∈seen,inL V.types t=true
 pl:∀s∈es,s.path.length<=n
theorem Hd.len{n:Nat}{V:Un}{es:List Sp}{seen:List Int}(h:Hd n V es seen):es.length<=400:=by
 have hr:=h.gl.1;rw[Z8,Yd]at hr;have:=ZN1 hr.1 (List.nodup_append.1 h.nd).2.1 (fun t ht=>by obtain⟨y,hy,rfl⟩:=Y4.1 ht;exact h.gl.2 y hy)
 simpa using this
theorem Hd.look{n:Nat}{V:Un}{es:List Sp}{seen:List Int}(h:Hd n V es seen)(h0:(lookT es V).2.2=0):Lok n ⟨(lookT es V).1,es,(lookT es V).2.1,seen++es.map (·.typ),0⟩:=by
 have hl:lkL V es (seen++es.map (·.typ))=⟨(lookT es V).1,es,(lookT es V).2.1,seen++es.map (·.typ),0⟩:=by unfold lkL;rw[if_neg (by rw[h0];exact fun g=>g rfl)]
 have:=ZI7 (n:=n) h.gl (List.nodup_append.1 h.nd).2.1 h.nd (fun t ht=>by
  rcases Yz.1 ht with g|g
  ·exact h.si t g
  ·obtain⟨y,hy,rfl⟩:=Y4.1 g
   exact h.gl.2 y hy) h.pl (by rw[hl])
 rw[hl]at this;exact this
theorem Lok.hd{n:Nat}{U:Un}{es:List Sp}{ls:List Lk}{sn:List Int}(h:Lok n ⟨U,es,ls,sn,0⟩):Hd (n+1) U (nextT U ls sn) sn:=⟨ZO5 h,ZK5 h,h.si,ZY5 h⟩
theorem Zb8{u:Un}{i:Int}(hr:rightU u=true)(hi:inL u.types i=true)(h0:(frontT u i).2.2=0):Hd 0 (frontT u i).1 (frontT u i).2.1 []:=by
 have A1:∀{V:Un} {s:Sp},rightU V=true->inL V.types s.typ=true->s.path=[]->Hd 0 V [s] []:=fun {V s} h1 h2 h3 =>
  ⟨⟨h1,fun x hx=>by obtain rfl:=Yo.1 hx;exact h2⟩,by simp,fun t ht=>absurd ht (by simp),fun x hx=>by obtain rfl:=Yo.1 hx;rw[h3];exact Yk _⟩
 unfold frontT at h0 ⊢
 by_cases h1:(tyU u i).kind≠1
 ·rw[if_pos h1]
  exact A1 hr hi rfl
 ·rw[if_neg h1]at h0 ⊢
  by_cases h2:(underU u ((tyU u i).kids.getD 0 0)).2.2≠0
  ·rw[if_pos h2]at h0
   exact absurd h0 h2
  ·rw[if_neg h2]at h0 ⊢
   have hu:=(ZV hr ((tyU u i).kids.getD 0 0)).2 (Y7 h2)
   by_cases h3:(tyU (underU u ((tyU u i).kids.getD 0 0)).1 (underU u ((tyU u i).kids.getD 0 0)).2.1).kind=1\/(tyU (underU u ((tyU u i).kids.getD 0 0)).1 (underU u ((tyU u i).kids.getD 0 0)).2.1).kind=7
   ·rw[if_pos h3]
    exact⟨⟨hu.1,fun x hx=>absurd hx (by simp)⟩,by simp,fun t ht=>absurd ht (by simp),fun x hx=>absurd hx (by simp)⟩
   ·rw[if_neg h3]
    have A0:=hi;unfold inL at A0;have A0:=Yf A0;obtain⟨z,rfl⟩:∃z:Nat,i=(z:Int):=⟨i.toNat,by omega⟩
    have hz:z<u.types.length:=by omega
    have A2:=hr;rw[Z8,Yd]at A2;refine A1 (s:=⟨(tyU u (z:Int)).kids.getD 0 0,true,[],false⟩) hu.1 ?_ rfl;exact Zg0 hu.2.1 (by rw[Z80 hz];exact Zu1 A2.1 (ZK hr) hz 0)
theorem Ztc(n:Nat)(u:Un)(seen:List Int):levT n u [] seen=([],0):=by
 cases n with
 | zero=>rfl
 | succ n=>unfold levT;rw[if_pos rfl]
theorem ZGc{n:Nat}{u:Un}{es:List Sp}{seen:List Int}(h0:es≠[])(h:(lookT es u).2.2≠0):levT (n+1) u es seen=([],(lookT es u).2.2):=by
 unfold levT;rw[if_neg h0,if_pos h]
theorem Zud{n:Nat}{u:Un}{es:List Sp}{seen:List Int}(h0:es≠[])(h:(lookT es u).2.2=0):levT (n+1) u es seen=(((lookT es u).1,(lookT es u).2.1)::(levT n (lookT es u).1 (nextT (lookT es u).1 (lookT es u).2.1 (seen++es.map (·.typ))) (seen++es.map (·.typ))).1,(levT n (lookT es u).1 (nextT (lookT es u).1 (lookT es u).2.1 (seen++es.map (·.typ))) (seen++es.map (·.typ))).2):=by
 rw[levT,if_neg h0,if_neg (by rw[h];exact fun g=>g rfl)]
def IStep(base wb:Nat)(w w':World):Prop:=w.heap.size<=w'.heap.size/\∀b,b<base->b≠wb->w'.heap[b]? = w.heap[b]?
theorem IStep.refl(base wb:Nat)(w:World):IStep base wb w w:=⟨Yk _,fun _ _ _=>rfl⟩
theorem IStep.trans{base wb:Nat}{a b c:World}(h:IStep base wb a b)(g:IStep base wb b c):IStep base wb a c:=⟨Yj h.1 g.1,fun x hx hn=>(g.2 x hx hn).trans (h.2 x hx hn)⟩
theorem IStep.below{base wb n:Nat}{w w':World}(h:Below n w w')(hb:base<=n):IStep base wb w w':=⟨h.size,fun x hx _=>h.block x (Yi hx hb)⟩
theorem IStep.sameX{base wb:Nat}{w w':World}(h:SameX wb w w')(hb:base<=w.heap.size):IStep base wb w w':=⟨h.1,fun x hx hn=>h.2 x (Yi hx hb) hn⟩
theorem IStep.grown{base wb mb:Nat}{w w':World}(h:w.grownBy w' (some mb))(hb:base<=w.heap.size)(hm:base<=mb):IStep base wb w w':=⟨h.size,fun x hx _=>h.block x (Yi hx hb) (fun e=>by injection e;omega)⟩
theorem IStep.cell{base wb b o:Nat}{w w':World}{v:Value}(h:IStep base wb w w')(hb:b<base)(hn:b≠wb)(hc:w.cell? ⟨b,o,none⟩=some v):w'.cell? ⟨b,o,none⟩=some v:=(World.cell?_of_block (w:=w) (h.2 b hb hn)).trans hc
theorem IntMap.keepX{w w':World}{b c:Nat}{L:List (Int×Nat)}(h:IntMap w b L)(hx:SameX c w w')(hne:b≠c):IntMap w' b L:=h.block (hx.2 b h.lt hne)
theorem PRow.keep{S:Nat->Prop}{w w':World}{v:Value}{es:List Sp}(h:PRow S w v es)(hs:SameS S w w'):PRow S w' v es:=by
 obtain⟨lo,cap,zs,h1,h2,h3,h4,h5⟩:=h;exact⟨lo,cap,zs,h1,h2,h3.same hs,h4,fun z hz=>⟨Z7 (h5 z hz).1 hs,(h5 z hz).2⟩⟩
theorem LRow.keep{S:Nat->Prop}{w w':World}{v:Value}{ls:List Lk}(h:LRow S w v ls)(hs:SameS S w w'):LRow S w' v ls:=by
 obtain⟨lo,cap,zs,h1,h2,h3,h4,h5⟩:=h;exact⟨lo,cap,zs,h1,h2,h3.same hs,h4,fun z hz=>(h5 z hz).same hs⟩
theorem WkAt.keepX{S:Nat->Prop}{w w':World}{wb c:Nat}{U:Un}{e:Int}(h:WkAt S w wb U e)(hx:SameX c w w')(hn:¬S c)(hne:wb≠c):WkAt S w' wb U e:=by
 obtain⟨ao,no,ac,nc,hk,hu⟩:=h;exact⟨ao,no,ac,nc,hx.block hk hne,hu.same (Zi1 hx hn)⟩
theorem IntMap.ncell{w:World}{b:Nat}{L:List (Int×Nat)}(h:IntMap w b L){a:Addr}{v:Value}(hc:w.cell? a=some v):a.block≠b:=fun e=>by
 obtain⟨D,⟨es,clock,h1,h2⟩,h3⟩:=h;unfold World.cell? at hc;rw[e,h1]at hc
 cases hc
theorem ZYa{S:Nat->Prop}{w w':World}{c:Nat}{L L':List (Int×Nat)}(h:SameX c w w')(h1:IntMap w c L)(h2:IntMap w' c L'):SameS S w w':=⟨h.1,fun b o hb _=>by
 by_cases e:b=c
 ·subst e
  have g1:w.cell? ⟨b,o,none⟩=none:=by
   cases hq:w.cell? ⟨b,o,none⟩with
   | none=>rfl
   | some v=>exact absurd rfl (h1.ncell hq)
  have g2:w'.cell? ⟨b,o,none⟩=none:=by
   cases hq:w'.cell? ⟨b,o,none⟩with
   | none=>rfl
   | some v=>exact absurd rfl (h2.ncell hq)
  rw[g1,g2]
 ·exact Z5 h hb e⟩
theorem WkAt.keepM{S:Nat->Prop}{w w':World}{wb c:Nat}{U:Un}{e:Int}(h:WkAt S w wb U e)(hx:SameX c w w')(hs:SameS S w w')(hne:wb≠c):WkAt S w' wb U e:=by
 obtain⟨ao,no,ac,nc,hk,hu⟩:=h;exact⟨ao,no,ac,nc,hx.block hk hne,hu.same hs⟩
theorem ZRb{α:Type}{A B:List α}{k:Nat}(h:(A++B).Nodup)(hk:k<B.length):B[k] ∉ A++B.take k:=by
 rw[ZY7 hk,<-Y6]at h;intro g;exact(List.nodup_append.1 h).2.2 _ g _ Yt rfl
theorem Z7b{u:Un}{i:Int}(h:(frontT u i).2.2≠0):(frontT u i).2.1=[]:=by
 unfold frontT at h ⊢
 by_cases h1:(tyU u i).kind≠1
 ·rw[if_pos h1]at h
  exact absurd rfl h
 ·rw[if_neg h1]at h ⊢
  by_cases h2:(underU u ((tyU u i).kids.getD 0 0)).2.2≠0
  ·rw[if_pos h2]
  ·rw[if_neg h2]at h ⊢
   by_cases h3:(tyU (underU u ((tyU u i).kids.getD 0 0)).1 (underU u ((tyU u i).kids.getD 0 0)).2.1).kind=1\/(tyU (underU u ((tyU u i).kids.getD 0 0)).1 (underU u ((tyU u i).kids.getD 0 0)).2.1).kind=7
   ·rw[if_pos h3]
   ·rw[if_neg h3]at h
    exact absurd rfl h
def LvI(Sb:Nat->Prop)(W0:World)(wb base c1:Nat)(A:List (Un×List Lk)×Int)(J:List (Un×List Lk)->World->Prop)(nn:Nat)(v:Value)(wr:World):Prop:=
 ∃(V:Un) (es:List Sp) (Ls:List (Int×Nat)) (pre:List (Un×List Lk)) (e:Int),PRow Sb wr v es/\IntMap wr base Ls/\WkAt Sb wr wb V e/\Below W0.heap.size W0 wr/\base<wr.heap.size/\J pre wr/\wr.cell? ⟨c1,0,none⟩=some (.pointer (some ⟨wb,0,none⟩)) /\
  ((e=0/\Hd nn V es (Ls.map (·.1))/\A=(pre++(levT (7-nn) V es (Ls.map (·.1))).1,(levT (7-nn) V es (Ls.map (·.1))).2))\/(e≠0/\es=[]/\A=(pre,e)))
def LvE(Sb:Nat->Prop)(W0:World)(wb:Nat)(A:List (Un×List Lk)×Int)(J Jx:List (Un×List Lk)->World->Prop)(w':World):Prop:=
 (∃V,J A.1 w'/\WkAt Sb w' wb V A.2/\Below W0.heap.size W0 w')\/∃pre,pre <+: A.1/\Jx pre w'
set_option maxRecDepth 100000 in
theorem Zv7(Sb:Nat->Prop)(u:Un)(z:Nat)(wb c1 c2 tm l:Nat)(W0 w:World)(J Jx:List (Un×List Lk)->World->Prop)
  (hB:Below W0.heap.size W0 w) (hwb:W0.heap.size<=wb) (hSb:∀b,w.heap.size<=b->Sb b) (hns:¬Sb wb) (hK:WkAt Sb w wb u 0) (hE:Env W0) (hr:rightU u=true) (hzl:z<u.types.length)
  (hc1:w.cell? ⟨c1,0,none⟩=some (.pointer (some ⟨wb,0,none⟩))) (hc2:w.cell? ⟨c2,0,none⟩=some (.int .i64 z)) (hn1:c1≠wb/\c1≠tm) (hn2:c2≠wb/\c2≠tm) (htm:¬Sb tm/\tm≠wb/\tm<w.heap.size)
  (hJ:∀pre W W',J pre W->IStep w.heap.size wb W W'->Below W0.heap.size W0 W'->J pre W')
  (hY:∀(pre:List (Un×List Lk)) (n:Nat) (U:Un) (es:List Sp) (ls:List Lk) (sn:List Int) (vl:Value) (W:World),J pre W->(pre++[(U,ls)]) <+: (allT u z).1->n<=6->Lok n ⟨U,es,ls,sn,0⟩->Below W0.heap.size W0 W->w.heap.size<=W.heap.size->WkAt Sb W wb U 0->LRow Sb W vl ls ->
   YieldAt Fence.wide 2 Tryz.prog l #[vl] W fun e W'=>(e=.returned (.bool true)/\J (pre++[(U,ls)]) W'/\SameX tm W W'/\Below W0.heap.size W0 W')\/(e=.returned (.bool false)/\Jx (pre++[(U,ls)]) W'))
  (hJ0:J [] w) :
  Calls Tryz.prog 44 #[.func (.yield l) #[] #[],.pointer (some ⟨c1,0,none⟩),.pointer (some ⟨c2,0,none⟩)] w fun e w'=>(∃v,e=.returned v) /\
   LvE Sb W0 wb (allT u z) J Jx w':=by
 obtain⟨base,hbase⟩:=Yn (w.heap.size);rw[hbase]at hJ hY;obtain⟨A,hA⟩:=Yn (allT u (z:Int));have Ax:inL u.types (z:Int)=true:=by unfold inL;exact Yb (by omega)
 have AT:=Yh (fun h0=>Zb8 hr Ax h0);have Ay:=@Yh (A=if(frontT u z).2.2≠0 then([],(frontT u z).2.2)else levT 7 (frontT u z).1 (frontT u z).2.1 []) (by rw[<-hA];rfl);rw[hA]at hY ⊢;have HJ:=Yh hJ;have HY:=Yh hY;have Ak:=@Yh (∀b,base<=b->Sb b) (by rw[<-hbase];exact hSb);have Az:=Yh hns;have Ac:=@Yh (¬Sb tm/\tm≠wb/\tm<base) (by rw[<-hbase];exact htm);have Ad:=@Yh (W0.heap.size<=wb/\wb<base) (⟨hwb,by rw[<-hbase];obtain⟨_,_,_,_,hk,_⟩:=hK;exact hk.lt⟩);have AU:=@Yh (W0.heap.size<=base) (by rw[<-hbase];exact hB.size);have A4:=@Yh (c1<base/\c1≠wb/\c1≠tm) (⟨by rw[<-hbase];exact Zv hc1,hn1⟩);obtain⟨w1,h1⟩:=Yn (w.alloc (.map #[] 0));have q1:Below w.heap.size w w1:=by rw[<-h1];exact(Y8 _ _).alloc (Yk _) _
 have AV:=@Yh (IntMap w1 base []) (by rw[<-h1,<-hbase];exact Zk5 w);have d1:=YR q1 hc1;have d2:=YR q1 hc2;have D1:=Yh d1;have B1:=Yh (hB.trans (q1.mono hB.size));have Al:=@Yh (base<w1.heap.size) (by rw[<-hbase,<-h1];simp);have J1:=Yh (hJ [] w w1 hJ0 (IStep.below q1 (by omega)) B1.o);have AW:=Yh (ZS9 Sb u z wb W0 w1 B1.o hwb (fun b hb=>Ak.o b (by have:=Al.o;omega)) hns (hK.below q1) hE hr hzl);have AX:=Yh hE;have AY:=@run_makeMap Tryz.prog;clear hB hwb hSb hns hK hE hr hzl hc1 hc2 hn1 hn2 htm hJ hY hJ0 hA Ax q1;go_enter Tryz.func44,Tryz.ntmps44;go_wp2_with fail
 try rw[h1]
 clear AY h1;refine AW.o.mono ?_;rintro e9 w2 ⟨v2,V2,rfl,hP2,⟨hK2,hX2,hB2⟩,hV2⟩
 have AA:=Yh (show LvI Sb W0 wb base c1 A J 0 v2 w2 from by
  have AB:IStep base wb w1 w2:=IStep.sameX hX2 (Nat.le_of_lt Al.o);have j2:=HJ.o [] w1 w2 J1.o AB hB2;refine⟨V2,_,[],[],(frontT u (z:Int)).2.2,hP2,AV.o.keepX hX2 (Nat.ne_of_gt Ad.o.2),hK2,hB2,Yi Al.o hX2.1,j2,IStep.cell AB A4.o.1 A4.o.2.1 D1.o,?_⟩
  by_cases c:(frontT u (z:Int)).2.2=0
  ·refine .inl ⟨c,?_,?_⟩
   ·rw[hV2 c];exact AT.o c
   ·rw[Ay.o,if_neg (fun g=>g c),hV2 c];rfl
  ·exact .inr ⟨c,Z7b c,by rw[Ay.o,if_pos c]⟩)
 obtain⟨lo2,cap2,-,rfl,-⟩:=hP2;clear hK2 hX2 hB2 hV2 d1 d2;go_wp2_with fail;go_loopw [5,6] (fun v n wr=>∃nn:Nat,nn<=7/\n=.int .i64 nn/\Hi (LvI Sb W0 wb base c1 A J nn v wr)) (fun _ n _=>7-(intOf n).toNat)
 case atStart=>exact⟨0,by omega,rfl,AA⟩
 case round =>
  clear AA;obtain⟨nn,hnn,rfl,⟨V,es,Ls,pre,e,hP,hM,hK,hB,hbs,hj,hc,hst⟩⟩:=hrel;have HP:=Yh hP;obtain⟨lo,cap,zs,rfl,hm,-,-,-⟩:=hP;obtain⟨el,hel⟩:=Yn (es.length);have A5:=Yh hel;have HM:=Yh hM;have HK:=Yh hK;have HB:=Yh hB;have Ae:=Yh hbs;have Am:=Yh hj;have AC:=Yh hst;rw[hel]at HP ⊢
  have A6:=Yh (show(nn=7\/es=[])->A=(pre,e)from fun h=>by
   rcases AC.o with⟨h0,h1,h2⟩|⟨h0,h1,h2⟩
   ·have:levT (7-nn) V es (Ls.map (·.1))=([],0):=by
     rcases h with rfl|rfl
     ·rfl
     ·exact Ztc _ _ _
    rw[this,List.append_nil]at h2;rw[h2,h0]
   ·exact h2)
  clear hm hel hM hK hB hbs hj hst
  by_cases h6:nn<=6
  case neg =>
   have AZ:¬(nn:Int)<=6:=by omega
   have A2:=A6.o (.inl (by omega));have HR:=@Yh (LvE Sb W0 wb A J Jx wr) (by rw[A2];exact .inl ⟨V,Am.o,HK.o,HB.o⟩);clear A2 h6;go_wp2_with fail;go_end0;exact⟨⟨_,rfl⟩,HR.o⟩
  have AZ:(nn:Int)<=6:=by omega
  by_cases h0:es=[]
  ·have A2:=A6.o (.inr h0)
   have HR:=@Yh (LvE Sb W0 wb A J Jx wr) (by rw[A2];exact .inl ⟨V,Am.o,HK.o,HB.o⟩);obtain rfl:el=0:=by rw[<-A5.o,h0];rfl
   clear A2 h6 h0;go_wp2_with fail;go_end0;exact⟨⟨_,rfl⟩,HR.o⟩
  have B0:0<(el:Int):=by
   have:0<es.length:=List.length_pos_iff.2 h0;have:=A5.o
   omega
  obtain⟨he0,hhd,A2⟩:e=0/\Hd nn V es (Ls.map (·.1))/\A=(pre++(levT (7-nn) V es (Ls.map (·.1))).1,(levT (7-nn) V es (Ls.map (·.1))).2):=by
   rcases AC.o with h|h
   ·exact h
   ·exact absurd h.2.1 h0
  subst he0;rw[show 7-nn=(6-nn)+1 by omega]at A2;have A7:=Yh hhd;have A3:=Yh A2;have AD:=Yh h0;have AE:=Yh (ZH8 Sb V es (.slice lo el cap) wb W0 wr HB.o Ad.o.1 (fun b hb=>Ak.o b (by have:=Ae.o;omega)) Az.o HK.o AX.o hhd.gl HP.o (by have:=hhd.len;omega));clear hhd A2 h0;go_wp2_with fail;refine AE.o.mono ?_;rintro e9 w3 ⟨vl,V3,rfl,hL3,⟨hK3,hX3,hB3⟩,A8⟩;have An:=Yh hL3;have Ao:=Yh hX3;have B2:=Yh hB3;have Af:IStep base wb wr w3:=IStep.sameX hX3 (Nat.le_of_lt Ae.o);have B3:=IStep.cell Af A4.o.1 A4.o.2.1 hc;have AF:=Yh B3;have AG:=Yh (HJ.o pre wr w3 Am.o Af hB3);obtain⟨lo3,cap3,zs3,rfl,-⟩:=hL3;obtain⟨ll,hll⟩:=Yn ((lookT es V).2.1.length);rw[hll]at An;have AH:=Yh hll
  try rw[hll]
  clear hll;have AI:=Yh hK3;have k3:=hK3;obtain⟨ao3,no3,ac3,nc3,hk3,-⟩:=k3;have B4:=(cell3m hk3).2.2
  by_cases hle:(lookT es V).2.2=0
  case neg =>
   have hq:((lookT es V).2.2 != 0)=true:=by rw[YJ];exact hle
   have HR:=Yh (show LvE Sb W0 wb A J Jx w3 from by
    rw[A3.o,ZGc AD.o hle,List.append_nil];exact .inl ⟨V3,AG.o,AI.o,B2.o⟩)
   clear hle hK3 hX3 hB3 Af hk3 A8;go_wp2_with fail
   try simp only[Exit.inBlock,Exit.then]
   refine bodyPost_ret (results_none rfl _ _ _) rfl ?_;exact⟨⟨_,rfl⟩,HR.o⟩
  have Ag:=A7.o.look hle;have A8:=A8 hle;have A9:=A3.o;rw[Zud AD.o hle]at A9;rw[hle]at hK3 B4;have Ah:=An.o;have Aa:=AH.o;have B5:=HP.o;clear AE hle;obtain⟨U,hU⟩:=Yn ((lookT es V).1);obtain⟨ls,hls⟩:=Yn ((lookT es V).2.1);obtain⟨sn,hsn⟩:=Yn (Ls.map (·.1)++es.map (·.typ));rw[hU,hls,hsn]at Ag A9;rw[hls]at Ah Aa;rw[A8,hU]at hK3;have B6:=Yh hK3;have A0:=Yh Ag;have AJ:=Yh A9;have AK:=Yh hsn;have B7:=Yh Ah;have B8:=HY.o pre nn U es ls sn (.slice lo3 ll cap3) w3 AG.o (by rw[A9];exact⟨_,by rw[Y6];rfl⟩) (by omega) Ag hB3 (Yj (Nat.le_of_lt Ae.o) hX3.1) hK3 Ah;obtain⟨fnY,tmpsY,assignY,bodyY,hyy,hRR⟩:=B8;have B9:=Yh hRR;clear An AH AI hK3 hX3 hB3 Af hk3 A8 Ag A9 hsn Ah Aa B5 hU hls hRR A3;go_upto_region 6 with fail;refine(wpIn_wide (n:=3)).1 ?_;gi_wp2;refine B9.o.mono ?_;rintro e9 w4 (⟨rfl,hJ4,hX4,hB4⟩|⟨rfl,hJx⟩)
  case inr =>
   have HR:=@Yh (LvE Sb W0 wb A J Jx w4) (.inr ⟨_,by rw[AJ.o];exact⟨_,by rw[Y6];rfl⟩,hJx⟩);clear hyy hJx;gi_wp2;go_wp2_with fail
   try simp only[Exit.inBlock,Exit.then]
   refine bodyPost_ret (results_none rfl _ _ _) rfl ?_;exact⟨⟨_,rfl⟩,HR.o⟩
  have Ba:=Yh hJ4;have Bb:=Yh hB4;have ss:=Zi1 (S:=Sb) hX4 Ac.o.1;have K4:=Yh (B6.o.keepX hX4 Ac.o.1 (Ne.symm Ac.o.2.1));have L4:=Yh (B7.o.keep ss);have M3:=Yh ((HM.o).keepX Ao.o (Nat.ne_of_gt Ad.o.2));have M4:=Yh (M3.o.keepX hX4 (Nat.ne_of_gt Ac.o.2.2));have P3:=Yh (HP.o.keep (Zi1 Ao.o Az.o));have P4:=Yh (P3.o.keep ss);have AL:=@Yh (base<w4.heap.size) (Yi Ae.o (Yj Ao.o.1 hX4.1));have C4:=Yh ((Z5 hX4 (Zv AF.o) A4.o.2.2).trans AF.o);clear hyy hJ4 hX4 hB4 ss;gi_wp2;go_wp2_with fail;obtain⟨lo4,cap4,zs4,hv4,hm4,hG4,-,-⟩:=P4.o
  injection hv4 with i1 i2 i3
  subst i1;subst i3;have Bc:=Yh hG4;have AM:zs4.length=el:=by rw[<-A5.o,<-hm4,Yg]
  have Bd:=Yh AM
  have Be:=Yh (show ∀k (h1:k<zs4.length) (h2:k<es.length),es[k]=zs4[k].sp from fun k h1 h2=>by
   have:=congrArg (fun l=>l[k]?) hm4
   simpa [h1,h2] using this.symm)
  have Bf:=Yh (show ∀k (h:k<es.length),WfI es[k].typ/\∀p∈Ls++(es.take k).map (fun s=>(s.typ,nn)),p.1≠es[k].typ from fun k h=>by
   refine⟨?_,fun p hp e=>?_⟩
   ·have h1:=A7.o.gl.2 _ (Yq h)
    have hr:=A7.o.gl.1;rw[Z8,Yd]at hr;have:=Zx1 hr.1;unfold inL at h1;have h1:=Yf h1;unfold WfI
    omega
   ·have h1:=ZRb A7.o.nd (k:=k) (by rw[Yg];exact h)
    rw[List.getElem_map,<-List.map_take]at h1
    apply h1
    rw[<-e]
    rcases Yz.1 hp with g|g
    ·exact List.mem_append_left _ (List.mem_map_of_mem g)
    ·obtain⟨s,hs,rfl⟩:=Y4.1 g
     exact List.mem_append_right _ (List.mem_map_of_mem hs))
  have Ap:=Yh (show ∀k,(Ls++(es.take k).map (fun s=>(s.typ,nn))).length<=1000 from fun k=>by
   have h1:=A0.o.len;have h2:sn.length<=400:=h1.2;have h3:es.length<=400:=h1.1;rw[<-AK.o,Ye,Yg,Yg]at h2;rw[Ye,Yg,Y5]
   omega)
  clear hm4 hG4 AM;have Bg:el<=400:=by rw[<-A5.o];exact A7.o.len
  go_loopw [39] (fun i wr2=>∃k:Nat,k<=el/\i=.int .i64 k/\Hi (IntMap wr2 base (Ls++(es.take k).map (fun s=>(s.typ,nn))))/\Hi (SameX base w4 wr2)/\Hi (Below W0.heap.size W0 wr2)) (fun i _=>el-(intOf i).toNat)
  case atStart=>exact⟨0,Yl _,rfl,Yh (by rw[List.take_zero,List.map_nil,List.append_nil];exact M4.o),Yh (SameX.below (Y8 _ _)),Bb⟩
  case round =>
   rename World=>wi
   obtain⟨k,hk,rfl,HMi,HXi,HBi⟩:=hrel
   by_cases hkn:k<el
   ·have Aq:k<zs4.length:=by rw[Bd.o];exact hkn
    have Ai:k<es.length:=by rw[A5.o];exact hkn
    obtain⟨b,off,rfl,hb,-,A1⟩:=Bc.o.cells (by omega);have A1:=A1 k Aq;have Ar:=Be.o k Aq Ai;obtain⟨hwf,hno⟩:=Bf.o k Ai;have AN:=Zl0 Ai;have As:=@Yh (Ls++(es.take (k+1)).map (fun s=>(s.typ,nn))=(Ls++(es.take k).map (fun s=>(s.typ,nn)))++[(es[k].typ,nn)]) (by rw[AN,Yu,Y6];rfl);obtain⟨y,hy⟩:=Yn (zs4[k]);rw[hy]at Ar A1;rw[Ar]at hwf hno As;have r0:=(Z5 HXi.o hb (M4.o.ncell (A1 0 _ rfl))).trans (A1 0 _ rfl);have r1:=(Z5 HXi.o hb (M4.o.ncell (A1 0 _ rfl))).trans (A1 1 _ rfl);have r2:=(Z5 HXi.o hb (M4.o.ncell (A1 0 _ rfl))).trans (A1 2 _ rfl);have r3:=(Z5 HXi.o hb (M4.o.ncell (A1 0 _ rfl))).trans (A1 3 _ rfl);rw[Nat.add_zero]at r0;obtain⟨wa,ha,ka,qa,za⟩:=YA wi #[.int .i64 y.sp.typ,.bool y.sp.via,.slice y.po y.sp.path.length y.pc,.bool y.sp.many] 100;obtain⟨e0,-,-,-⟩:=cell4 ka;obtain⟨ws,hst,hms,hgs⟩:=(HMi.o.below qa).store hwf hno (i:=nn) (by omega) (by have:=Ap.o k;omega);have Bh:=@Yh (IntMap ws base (Ls++(es.take (k+1)).map (fun s=>(s.typ,nn)))) (by rw[As.o];exact hms);have Bi:=@Yh (SameX base w4 wa) (HXi.o.trans (SameX.below qa));have Bj:=@Yh (SameX base w4 ws) (Bi.o.trans ⟨hgs.size,fun b hb hc=>hgs.block b hb (fun e=>by injection e with e;exact hc e)⟩);have Bk:=@Yh (Below W0.heap.size W0 ws) ((YU HBi qa).grown hgs (Yj HBi.o.size qa.size) (fun k e=>by injection e with e;rw[<-e];exact AU.o));have Bp:(k:Int)<(el:Int):=by omega
    clear A1 Ar hwf hno hy Aq Ai hb AN As ka qa za hms hgs;go_wp2_with fail;go_roundw
    case rel=>exact⟨k+1,by omega,by go_num,Bh,Bj,Bk⟩
    case measure=>first|(simp[intOf];done)|(simp[intOf];omega)
   ·obtain rfl:k=el:=by omega
    obtain⟨Ls5,hLs5⟩:=Yn (Ls++es.map (fun s=>(s.typ,nn)))
    have Aj:IntMap wi base Ls5:=by
     have h1:=HMi.o;rw[Y3 (by rw[A5.o];exact Yk _),hLs5]at h1;exact h1
    have At:Ls5.map (·.1)=sn:=by
     rw[<-hLs5,Yu,List.map_map,<-AK.o]
     rfl
    have ss:=ZYa (S:=Sb) HXi.o M4.o Aj;have Au:WkAt Sb wi wb U 0:=K4.o.keepM HXi.o ss (Nat.ne_of_lt Ad.o.2);have AO:=L4.o.keep ss;have C5:=(Z5 HXi.o (Zv C4.o) (Nat.ne_of_lt A4.o.1)).trans C4.o;have AP:=Yh C5;have Av:=Yh (Yi AL.o HXi.o.1);have Ab:=A0.o.len;have Aw:ls.map (·.sp)=es:=A0.o.sp
    have AQ:=Yh (Z8b Sb U 0 ls (.slice lo3 ll cap3) sn Ls5 base wb 900 wi (fun b hb=>Ak.o b (by have:=Av.o;omega)) Au AO Aj At A0.o.r A0.o.ls (fun l hl=>by
     have h1:=A0.o.pl l.sp (by show l.sp∈es;rw[<-Aw];exact List.mem_map_of_mem hl)
     omega) (Yk _) A0.o.nd (by
     have h1:es.length<=400:=Ab.1;rw[<-Aw,Yg]at h1;exact h1))
    have Bl:=Yh Aj;have Bm:=Yh Au;have AR:=Yh At;clear hLs5 Aj At ss Au AO Ab Aw;go_wp2_with fail;refine AQ.o.mono ?_;rintro e9 w6 ⟨v6,rfl,hP6,b6⟩
    have Bn:=Yh (show LvI Sb W0 wb base c1 A J (nn+1) v6 w6 from by
     have AS:Below W0.heap.size W0 w6:=YU HBi b6;have Bo:IStep base wb w4 w6:=IStep.trans ⟨HXi.o.1,fun b hb hn=>HXi.o.2 b (Nat.lt_trans hb AL.o) (Nat.ne_of_lt hb)⟩ (IStep.below b6 (Nat.le_of_lt Av.o));refine⟨U,_,Ls5,pre++[(U,ls)],0,hP6,Bl.o.below b6,Bm.o.below b6,AS,Yi Av.o b6.size,HJ.o _ w4 w6 Ba.o Bo AS,(b6.cell (p:=⟨c1,0,none⟩) (Zv AP.o)).trans AP.o,.inl ⟨rfl,?_,?_⟩⟩
     ·rw[AR.o];exact A0.o.hd
     ·rw[AR.o,show 7-(nn+1)=6-nn by omega,AJ.o,Y6]
      rfl)
    clear AQ hP6 b6 C5;go_wp2_with fail;go_roundw
    case rel=>exact⟨nn+1,by omega,by go_num,Bn⟩
    case measure=>first|(simp[intOf];done)|(simp[intOf];omega)
end Go.Proofs.YtdcajkagakikiaaGreatDoor
