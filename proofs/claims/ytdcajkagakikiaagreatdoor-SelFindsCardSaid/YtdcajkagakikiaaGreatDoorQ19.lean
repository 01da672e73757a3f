import Derived.Test.YtdcajkagakikiaaGreatDoorQ18
namespace Go.Proofs.YtdcajkagakikiaaGreatDoor
set_option maxHeartbeats 64000000
set_option linter.unusedSimpArgs false
set_option linter.unusedVariables false
open Go.RowKit
theorem Z70{w s:World}{b:Nat}{a0 a1 a2 a3 a4 v0 v1 v2 v3 v4:Value}{T:TypeId}(h:BlockAt w b #[a0,a1,a2,a3,a4] T)(hs:((((w.setCell ⟨b,0,none⟩ v0).setCell ⟨b,1,none⟩ v1).setCell ⟨b,2,none⟩ v2).setCell ⟨b,3,none⟩ v3).setCell ⟨b,4,none⟩ v4=s):BlockAt s b #[v0,v1,v2,v3,v4] T:=by
 subst hs;have:=((((h.set 0 v0).set 1 v1).set 2 v2).set 3 v3).set 4 v4
 simpa using this
def undR(u:Un)(i:Int):Un×Int×List Mt×Int:=((underU u i).1,(underU u i).2.1,[],(underU u i).2.2)
set_option maxRecDepth 100000 in
theorem ZV1(Sb:Nat->Prop)(u:Un)(ao no:Option Addr)(ac nc:Nat)(i:Int)(w:World)(hSb:∀b,w.heap.size<=b->Sb b)(hU:UnS Sb w ao no ac nc u)(hr:rightU u=true)(hi:inL u.types i=true) :
  Calls Tryz.prog 58 #[unV u ao ac no nc,.int .i64 i] w (TRes Sb w (undR u i)):=by
 obtain⟨w1,h1,k1,q1,z1⟩:=YA w #[.slice ao u.types.length ac,.slice no u.named.length nc] 25;obtain⟨w2,h2,k2,q2,z2⟩:=YA w1 #[.slice none 0 0,.slice none 0 0,.int .i64 0,.slice none 0 0,.int .i64 0] 117;have B2:=Yh (q1.trans (q2.mono q1.size));have HU:=Yh (hU.same (SameS.below B2.o));have Ad:=Yh ((ZM hU (c:=w1.heap.size) (d:=w1.heap.size) ⟨q1.size,q1.size⟩).same (SameS.below B2.o));have Al:=@Yh (∀b,w2.heap.size<=b->lessS Sb w1.heap.size w1.heap.size b) (fun b hb=>⟨hSb b (by omega),by omega,by omega⟩);have Ae:=@Yh (¬lessS Sb w1.heap.size w1.heap.size w1.heap.size) (fun g=>g.2.2 rfl);have Af:=@Yh (w.heap.size<=w1.heap.size) (by omega);have Ab:=hi;unfold inL at Ab;have Ab:=Yf Ab;obtain⟨z,rfl⟩:∃z:Nat,i=(z:Int):=⟨i.toNat,by omega⟩
 have A4:z<u.types.length:=by omega
 have A2:=hr;rw[Z8,Yd]at A2;have Au:=Yh A2.1;have Av:=Yh hr;have Am:=Yh (fun h8=>Zy0 hr A4 h8);have An:=Yh (fun h8=>ZX0 hr A4 h8);obtain⟨F,hF⟩:=Yn (undR u (z:Int));have Ao:=@Yh (F=((underU u (z:Int)).1,(underU u (z:Int)).2.1,[],(underU u (z:Int)).2.2)) (by rw[<-hF];rfl);rw[hF]
 have Ag:=Yh (show underU u (z:Int)=if u.types[z].kind≠8 then(u,(z:Int),0)else fillU u (u.named.getD (atU u.named u.types[z].name).toNat ⟨⟨#[]⟩,[],0,[]⟩).under u.types[z].kids by
  unfold underU;rw[Z01 hr hi,if_neg (fun g=>g rfl),Ze A4,Yw];unfold funT;rw[Z3 A4])
 have Aw:=Yh (ZR0 A2.1 A4);obtain⟨ab,aof,rfl,hab,hac2⟩:=hU.o.types.cells (by omega);obtain⟨xw,xwc,xk,xkc,a0',a1',a2',a3',a4',-,hkc,hxc⟩:=hac2 z A4;obtain⟨x,hx⟩:=Yn (u.types[z]);rw[hx]at a0' a1' a2' a3' a4' hkc hxc Am An Ag Aw;have Ah:=Yh (hxc.below B2.o);have a0:=(B2.o.cell hab).trans a0';have a1:=(B2.o.cell hab).trans a1';have a2:=(B2.o.cell hab).trans a2';have a3:=(B2.o.cell hab).trans a3';have a4:=(B2.o.cell hab).trans a4';obtain⟨L,hL⟩:=Yn (u.types.length);obtain⟨n,hn⟩:=Yn (u.named.length);have HL:=Yh hL;have HN:=Yh hn;have Ax:=hU.tl;have Ay:=hU.nl;rw[hL]at h1 k1 A4 Ax;rw[hn]at h1 k1 Ay;have AF:(z:Int)<(L:Int):=by omega
 have K1:=Yh (k1.below q2);have K2:=Yh k2;obtain⟨c0,c1⟩:=cell2 (k1.below q2);unfold unV;rw[hL,hn];obtain⟨w3,h3,k3,q3,z3⟩:=YA w2 #[.int .i64 x.kind,.string x.name,.int .i64 x.n,.slice xw x.words.length xwc,.slice xk x.kids.length xkc] 50;have Q3:=Yh q3;have B4:=YT B2 q3;have Ai:=Yh (K2.o.below q3);have Az:=Yh (K1.o.below q3);obtain⟨d0,d1,d2,d3,d4⟩:=cell5 k3;obtain⟨y0,y1⟩:=cell2 Az.o;clear hF hx hxc hac2 hab a0' a1' a2' a3' a4' hL hn k1 k2 k3 q1 q2 q3 z1 z2 z3 hU hr hi Ab A2 hSb hkc;go_enter Tryz.func58,Tryz.ntmps58
 by_cases h8:x.kind=8
 case neg =>
  have HF:=@Yh (F=(u,(z:Int),[],0)) (by rw[Ao.o,Ag.o,if_pos h8]);have hq:(x.kind != 8)=true:=by rw[YJ];exact h8
  obtain⟨⟨e0,e1,e2,e3,e4⟩,f0,f1,f2,f3,f4⟩:=ZD Ai.o;have HX:=Yh (Zd0 (c:=w1.heap.size) (d:=w1.heap.size) ((Ad.o.same (SameS.below Q3.o)).same (Zk0 Ae.o w3 (.slice (some ⟨ab,aof,none⟩) L ac) (.slice no n nc) (.int .i64 z) (.slice none 0 0) (.int .i64 0))));clear h8;go_wp2_with fail
  try simp only[Exit.inBlock,Exit.then]
  refine bodyPost_ret (v:=.agg #[.slice (some ⟨ab,aof,none⟩) L ac,.slice no n nc,.int .i64 z,.slice none 0 0,.int .i64 0]) ?_ rfl ?_
  ·simp[results,Tryz.results58,go_sem,e0,e1,e2,e3,e4]
  rw[HF.o];refine⟨some ⟨ab,aof,none⟩,no,ac,nc,none,0,?_,HX.o,.inl rfl,Yk _,Zh B4.o Af.o _ _ _ _ _⟩
  show _=Ending.returned (.agg #[.slice _ u.types.length _,.slice _ u.named.length _,_,_,_])
  rw[HL.o,HN.o]
  rfl
 have hq:(x.kind != 8)=false:=by rw[bne_eq_false_iff_eq];exact h8
 obtain⟨ffo,fat,flt⟩:=Am.o h8;obtain⟨nm,hnm,hone,hbl⟩:=An.o h8;obtain⟨lo,hlo⟩:=Yn (lowU (namesU u.named) x.name);rw[hlo]at fat flt;have A5:u.named[lo]=nm:=by rw[fat,Yw,Z3 flt]at hnm;exact hnm
 obtain⟨-,-,hub,-,-,-⟩:=oneU_iff.1 hone;obtain⟨u1,-,-,-,-⟩:=underB_iff3.1 hub;have Ac:=Z60 u1;have A3:=u1;unfold fitB at A3;rw[Yd]at A3;have Aj:askN u.types nm.under<=(x.kids.length:Int):=by have:=Yf A3.2;omega
 obtain⟨ud,hud⟩:=Yn (nm.under);rw[hud]at Ac Aj;have HF:=@Yh (F=withR u ud x.kids) (by rw[Ao.o,Ag.o,if_neg (fun g=>g h8),hnm,hud,Ze6 Av.o Ac Aj];rfl);have AG:lo<n:=by rw[<-HN.o];exact flt
 have AH:(lo:Int)<(n:Int):=by omega
 obtain⟨b,o,rfl,hb,hc⟩:=(HU.o.same (SameS.below Q3.o)).o.named.cells (by omega);obtain⟨_,_,_,_,-,-,a2n',-,-,-,-⟩:=hc lo flt;rw[A5,hud]at a2n';have A1:=fun W (hb:Below w3.heap.size w3 W)=>Zv3 u (some ⟨ab,aof,none⟩) (some ⟨b,o,none⟩) ac nc x.name W ((HU.o.same (SameS.below (YU Q3 hb))).o)
 have A0:=fun W (hb:Below w3.heap.size w3 W)=>ZX3 (lessS Sb w1.heap.size w1.heap.size) u (some ⟨ab,aof,none⟩) (some ⟨b,o,none⟩) ac nc ud x.kids xk xkc W (fun bb hbb=>Al.o bb (Yj (YU Q3 hb).size hbb)) (Ad.o.same (SameS.below (YU Q3 hb))) Au.o Ac ((Ah.o.kids.below Q3.o).below hb) (by have:=Ah.o.ok.kl;omega) Ah.o.ok.ks
 rw[fat]at A1;rw[<-HF.o]at A0;unfold unV at A1 A0;rw[HL.o,HN.o]at A1 A0;obtain⟨kl,hkl⟩:=Yn (x.kids.length);rw[hkl]at A0 d4 h3 a4;have AA:=Yh A1;have Ap:=Yh A0;have AB:=Yh a2n';clear A1 A0 hlo ffo fat hnm A5 hone hbl hub u1 Ac A3 Aj hud hb hc a2n' h8 hkl;go_upto_region 4 with fail;have a2:=AB.o;obtain⟨ub,hub⟩:=Yn (w.heap.size);obtain⟨rb,hrb⟩:=Yn (w1.heap.size);obtain⟨xb,hxb⟩:=Yn (w2.heap.size);rw[hub]at y0 y1;rw[hxb]at d1 d4;rw[hrb]at Ai Af Ae Ad Al Ap
 try rw[hub]
 try rw[hrb]
 try rw[hxb]
 have c0:=y0;have c1:=y1;clear y0 y1 h1 h2 h3 hub hrb hxb a0 a1 a3 a4 d0 d2 d3;have Aq:=Yh (Y8 w3.heap.size w3).drew;refine GoG.start [(13,⟨ub,0,none⟩,.slice (some ⟨ab,aof,none⟩) L ac),(13,⟨ub,1,none⟩,.slice (some ⟨b,o,none⟩) n nc),(13,⟨xb,1,none⟩,.string x.name),(13,⟨xb,4,none⟩,.slice xk kl xkc),(13,⟨b,o+lo*4+2,none⟩,.int .i64 ud)] (by kernel_rfl) ?_ ?_
 ·exact Kd (Kd (Kd (Kd (Kd (Kn)))))
 refine GoG.s2 0 0 [13] ?_;refine GoG.fr 1 ?_;refine GoG.s1 2 1 [13] ?_;refine GoG.s2 3 0 [13] ?_;refine GoG.fr 4 ?_;refine GoG.s1 5 2 [13] ?_;refine GoG.fr 10 ?_;refine GoG.s1 11 3 [13] ?_;refine GoG.on 6 fun K hK=>?_
 go_simp;refine(AA.o _ Aq.o).mono ?_;rintro e v1 ⟨rfl,bq⟩;have Ar:=YT Aq bq;have A6:=YR bq c0;have A7:=YR bq c1;have A8:=YR bq d1;have A9:=YR bq d4;have Aa:=YR bq a2;clear c0 c1 d1 d4 a2;have c0:=A6;have c1:=A7;have d1:=A8;have d4:=A9;have a2:=Aa;clear bq A6 A7 A8 A9 Aa;refine hK.out _ _ (Kd (Kd (Kd (Kd (Kd (Kn)))))) ?_;clear hK K;refine GoG.fr 7 ?_;refine GoG.fr 8 ?_;refine GoG.s1 9 4 [13] ?_;refine GoG.on 12 fun K hK=>?_
 go_simp;refine(Ap.o _ Ar.o).mono ?_;rintro e v2 ⟨fo,fn,fc,fnc,fm,fmc,rfl,hX,hMs,hml,bq⟩;have As:=YT Ar bq;have HX:=Yh hX;have AC:=Yh hMs;have Ak:=Yh hml;clear hX hMs hml;have A6:=YR bq c0;have A7:=YR bq c1;have A8:=YR bq d1;have A9:=YR bq d4;have Aa:=YR bq a2;clear c0 c1 d1 d4 a2;have c0:=A6;have c1:=A7;have d1:=A8;have d4:=A9;have a2:=Aa;clear bq A6 A7 A8 A9 Aa;refine hK.out _ _ (Kd (Kd (Kd (Kd (Kd (Kn)))))) ?_;clear hK K
 try simp only[Act.put,YB,YC,YD,YE,YF,YG]
 have At:=Yh (Ai.o.below As.o);obtain⟨s,hs⟩:=Yn ((((((v2.setCell ⟨rb,0,none⟩ (.slice fo F.1.types.length fc)).setCell ⟨rb,1,none⟩ (.slice fn F.1.named.length fnc)).setCell ⟨rb,2,none⟩ (.int .i64 F.2.1)).setCell ⟨rb,3,none⟩ (.slice fm F.2.2.1.length fmc)).setCell ⟨rb,4,none⟩ (.int .i64 F.2.2.2)));have KS:=Yh (Z70 At.o hs);have SS:=@Yh (SameS (lessS Sb rb rb) v2 s) (by rw[<-hs];exact Zk0 Ae.o _ _ _ _ _ _);have BS:=@Yh (Below w.heap.size w s) (by rw[<-hs];exact Zh (YU B4 As.o) Af.o _ _ _ _ _);obtain⟨⟨e0,e1,e2,e3,e4⟩,f0,f1,f2,f3,f4⟩:=ZD At.o;refine GoG.on 13 fun K hK=>?_
 go_simp;clear e0 e1 e2 e3 e4 f0 f1 f2 f3 f4;refine hK.out _ _ (Ku (Ku (Ku (Ku (Ku (Kn)))))) ?_;clear hK K hs
 try simp only[Act.put,YB,YC,YD,YE,YF,YG]
 refine GoG.done (by kernel_rfl) ?_ _;obtain⟨e0,e1,e2,e3,e4⟩:=cell5 KS.o;have AD:=Yh (Zd0 (HX.o.same SS.o));have AE:=Yh (ZF (T:=Sb) (AC.o.same SS.o) (fun b _ g=>g.1));go_wp2_with fail
 try simp only[Exit.inBlock,Exit.then]
 refine bodyPost_ret (v:=.agg #[.slice fo F.1.types.length fc,.slice fn F.1.named.length fnc,.int .i64 F.2.1,.slice fm F.2.2.1.length fmc,.int .i64 F.2.2.2]) ?_ rfl ?_
 ·simp[results,Tryz.results58,go_sem,e0,e1,e2,e3,e4]
 exact⟨fo,fn,fc,fnc,fm,fmc,rfl,AD.o,AE.o,Ak.o,BS.o⟩
theorem Zx{w w':World}{base b j:Nat}{v u:Value}{l:List Mt}(h:OwnM w base v l)(hb:b<base)(h1:w.setCell ⟨b,j,none⟩ u=w'):OwnM w' base v l:=by
 subst h1;obtain⟨h1,h2⟩:=h;refine⟨h1,?_⟩
 rcases h2 with h2|⟨g,cap,cur,rfl,hg,hcur,rest⟩
 ·exact .inl h2
 ·exact .inr ⟨g,cap,cur,rfl,hg,(show BlockAt (w.setCell ⟨b,j,none⟩ u) g cur _ from BlockAt.other (show BlockAt w g cur _ from hcur) (by omega) j u),rest⟩
theorem Zt6{w w1:World}{b:Nat}{a0 a1 a2 a3 a4 v:Value}{T:TypeId}(h:BlockAt w b #[a0,a1,a2,a3,a4] T)(h1:w.setCell ⟨b,3,none⟩ v=w1):BlockAt w1 b #[a0,a1,a2,v,a4] T:=by
 subst h1;have:=h.set 3 v
 simpa using this
theorem bgrown{w w':World}{b:Nat}{xs:Array Value}{T:TypeId}{row:Option Nat}(h:BlockAt w b xs T)(hg:w.grownBy w' row)(hn:row≠some b):BlockAt w' b xs T:=by
 unfold BlockAt at *;rw[hg.block b (Yy.1 h).1 (fun e=>hn e.symm)];exact h
theorem BlockAt.same{w:World}{b:Nat}{xs:Array Value}{t:TypeId}(h:BlockAt w b xs t){k:Nat}{v:Value}(hk:xs[k]? = some v):w.setCell ⟨b,k,none⟩ v=w:=by
 have A0:=lt_of_block h
 have h':w.heap[b]=.cells xs t (0,0):=by
  have h2:w.heap[b]? = some (.cells xs t (0,0)):=h
  simpa [Array.getElem?_eq_getElem A0] using h2
 have hs:xs.setIfInBounds k v=xs:=by
  obtain⟨hl,hv⟩:=Yy.1 hk;refine Array.ext (by simp) fun i h1 h2=>?_
  by_cases e:i=k
  ·subst e;rw[Array.getElem_setIfInBounds_self];exact hv.symm
  ·rw[Array.getElem_setIfInBounds_ne _ (fun g=>e g.symm)]
 have hm:(w.setCell ⟨b,k,none⟩ v).heap=w.heap:=by
  refine Array.ext (by simp[World.setCell]) fun i h1 h2=>?_
  simp only[World.setCell,Array.getElem_modify]
  split
  ·next e=>subst e;rw[h'];simp only[Option.isSome_none,Bool.false_eq_true,if_false];rw[hs]
  ·rfl
 show({ w with heap:=(w.setCell ⟨b,k,none⟩ v).heap }:World)=w
 rw[hm]
def ownR(u:Un)(i:Int):Un×Int×List Mt×Int:=((methU u i).1,0,(methU u i).2.1,(methU u i).2.2)
theorem ZF3{u:Un}{z:Nat}(hr:rightU u=true)(hz:z<u.types.length):methU u (z:Int)=if u.types[z].kind=8 then methF u.types[z].kids (u.named.getD (atU u.named u.types[z].name).toNat ⟨⟨#[]⟩,[],0,[]⟩).methods u else if u.types[z].kind=7 then(u,ifaceM (u.types[z].words.zip u.types[z].kids),0)else(u,[],0):=by
 unfold methU;rw[Z01 hr (by unfold inL;exact Yb (by omega)),if_neg (fun g=>g rfl),Ze hz,Yw];unfold funT;rw[Z3 hz]
set_option maxRecDepth 100000 in
theorem ZF7(Sb:Nat->Prop)(u:Un)(ao no:Option Addr)(ac nc:Nat)(z:Nat)(w:World)(hSb:∀b,w.heap.size<=b->Sb b)(hU:UnS Sb w ao no ac nc u)(hr:rightU u=true)(hzl:z<u.types.length)(h8:u.types[z].kind≠8) :
  Calls Tryz.prog 78 #[unV u ao ac no nc,.int .i64 z] w (TRes Sb w (ownR u z)):=by
 obtain⟨w1,h1,k1,q1,z1⟩:=YA w #[.slice ao u.types.length ac,.slice no u.named.length nc] 25;obtain⟨w2,h2,k2,q2,z2⟩:=YA w1 #[.slice none 0 0,.slice none 0 0,.int .i64 0,.slice none 0 0,.int .i64 0] 117;have B2:=Yh (q1.trans (q2.mono q1.size));have An:=Yh ((ZM hU (c:=w1.heap.size) (d:=w1.heap.size) ⟨q1.size,q1.size⟩).same (SameS.below B2.o));have Ao:=@Yh (¬lessS Sb w1.heap.size w1.heap.size w1.heap.size) (fun g=>g.2.2 rfl);have Ap:=@Yh (w.heap.size<=w1.heap.size) (by omega);have A0:=hr;rw[Z8,Yd]at A0;have Aq:=Yh (fun h7=>Z72 A0.1 hzl h7);obtain⟨F,hF⟩:=Yn (ownR u (z:Int));have Ac:=Yh (ZF3 hr hzl);have Ar:=@Yh (F=((methU u (z:Int)).1,0,(methU u (z:Int)).2.1,(methU u (z:Int)).2.2)) (by rw[<-hF];rfl);rw[hF];obtain⟨ab,aof,rfl,hab,hac2⟩:=hU.o.types.cells (by omega);obtain⟨xw,xwc,xk,xkc,a0',a1',a2',a3',a4',hwc,hkc,hxc⟩:=hac2 z hzl;obtain⟨x,hx⟩:=Yn (u.types[z]);rw[hx]at a0' a1' a2' a3' a4' hwc hkc hxc Ac Aq h8;have a0:=(B2.o.cell hab).trans a0';have a1:=(B2.o.cell hab).trans a1';have a2:=(B2.o.cell hab).trans a2';have a3:=(B2.o.cell hab).trans a3';have a4:=(B2.o.cell hab).trans a4';obtain⟨L,hL⟩:=Yn (u.types.length);obtain⟨n,hn⟩:=Yn (u.named.length);have HL:=Yh hL;have HN:=Yh hn;have AA:=hU.tl;have AB:=hU.nl;rw[hL]at h1 k1 hzl AA;rw[hn]at h1 k1 AB;have AT:(z:Int)<(L:Int):=by omega
 have K2:=Yh k2;obtain⟨c0,c1⟩:=cell2 (k1.below q2);unfold unV;rw[hL,hn];obtain⟨m,hm⟩:=Yn (x.words.length);have HM:=Yh hm;obtain⟨kl,hkl⟩:=Yn (x.kids.length);have A7:=Yh hkl;obtain⟨w3,h3,k3,q3,z3⟩:=YA w2 #[.int .i64 x.kind,.string x.name,.int .i64 x.n,.slice xw m xwc,.slice xk kl xkc] 50;obtain⟨w4,h4,k4,q4,z4⟩:=YA w3 #[.slice (some ⟨ab,aof,none⟩) L ac,.slice no n nc,.int .i64 0,.slice none 0 0,.int .i64 0] 117;have Ad:=Yh ((hxc.below B2.o).below q3);have AC:=Yh z4;have B3:=YT B2 q3;have Ae:=Yh q4.size;have B4:=YT B3 q4;have Q4:=Yh q4;have As:=Yh ((K2.o.below q3).below q4);have AD:=Yh (K2.o.below q3);have Af:=Yh k3;have AE:=Yh k4;have AF:=Yh ((An.o.same (SameS.below q3)).same (SameS.below q4));have AG:=Yh (An.o.same (SameS.below q3));have AH:=@Yh (w3.heap.size<w4.heap.size) (k4.lt);have AI:=Yh hSb;obtain⟨d0,d1,d2,d3,d4⟩:=cell5 (k3.below q4);obtain⟨y0,y1⟩:=cell2 ((k1.below q2).below q3);obtain⟨o0,o1,o2,o3,o4⟩:=cell5 k4;have g2:=k4.same (k:=2) (v:=.int .i64 0) rfl;have g3:=k4.same (k:=3) (v:=.slice none 0 0) rfl;have g4:=k4.same (k:=4) (v:=.int .i64 0) rfl;have f2:=k4.free 2;have f3:=k4.free 3;have f4:=k4.free 4;rw[hm]at a3 hwc;rw[hkl]at a4 hkc;have AJ:m<=18:=by rw[<-hm];exact hxc.ok.wl
 have AU:(x.kind != 8)=true:=by rw[YJ];exact h8
 clear hF hx hxc hac2 hab a0' a1' a2' a3' a4' hL hn hm hkl k1 k2 k3 k4 q1 q2 q3 q4 z1 z2 z3 z4 hU hr A0 hSb;obtain⟨i0,hi,hz0,hz1,hz2⟩:=info_parts Zn2;go_enter Tryz.func78,Tryz.ntmps78;go_upto_region 3 with fail
 try rw[g2]
 try rw[g3]
 try rw[g4]
 clear g2 g3 g4 f2 f3 f4 y0 y1 a0 a1 a2 a3 a4 c0 c1 h1 h2 h3 h4
 by_cases h7:x.kind=7
 case neg =>
  have AK:(x.kind==7)=false:=by rw[Yc];exact h7
  have HF:=@Yh (F=(u,0,[],0)) (by rw[Ar.o,Ac.o,if_neg h8,if_neg h7]);obtain⟨⟨e0,e1,e2,e3,e4⟩,f0,f1,f2,f3,f4⟩:=ZD As.o;have HX:=Yh (Zd0 (AF.o.same (Zk0 Ao.o w4 (.slice (some ⟨ab,aof,none⟩) L ac) (.slice no n nc) (.int .i64 0) (.slice none 0 0) (.int .i64 0))));clear h8 h7;go_wp2_with fail
  try simp only[Exit.inBlock,Exit.then]
  refine bodyPost_ret (v:=.agg #[.slice (some ⟨ab,aof,none⟩) L ac,.slice no n nc,.int .i64 0,.slice none 0 0,.int .i64 0]) ?_ rfl ?_
  ·simp[results,Tryz.results78,go_sem,e0,e1,e2,e3,e4]
  rw[HF.o];refine⟨some ⟨ab,aof,none⟩,no,ac,nc,none,0,?_,HX.o,.inl rfl,Yk _,Zh B4.o Ap.o _ _ _ _ _⟩
  show _=Ending.returned (.agg #[.slice _ u.types.length _,.slice _ u.named.length _,_,_,_])
  rw[HL.o,HN.o]
  rfl
 have AK:(x.kind==7)=true:=by rw[YK];exact h7
 have HF:=@Yh (F=(u,0,ifaceM (x.words.zip x.kids),0)) (by rw[Ar.o,Ac.o,if_neg h8,if_pos h7]);have A8:kl=m:=by rw[<-A7.o,<-HM.o,Aq.o h7]
 subst A8;clear h8 h7;go_wp2_with fail;clear d0 d1 d2 d3 d4 o0 o1 o2 o3 o4;go_loopw [25] (fun i wr=>∃(k:Nat) (v:Value),k<=kl/\i=.int .i64 k/\Hi (OwnM wr w4.heap.size v (ifaceM ((x.words.zip x.kids).take k)))/\Hi (BlockAt wr w3.heap.size #[.slice (some ⟨ab,aof,none⟩) L ac,.slice no n nc,.int .i64 0,v,.int .i64 0] 117)/\Hi (Below w3.heap.size w3 wr)) (fun i _=>kl-(intOf i).toNat)
 case atStart=>exact⟨0,_,Yl _,rfl,Yh (Zq4 _ _),Yh AE.o,Yh Q4.o⟩
 case round =>
  obtain⟨k,v,hk,rfl,HO,HK,HB⟩:=hrel;obtain⟨lo,cap,hv,-,-,-⟩:=ZM0 HO.o;subst hv
  by_cases A8:k<kl
  ·have A1:k<x.words.length:=by rw[HM.o];exact A8
   have A2:k<x.kids.length:=by rw[A7.o];exact A8
   obtain⟨wb,wof,rfl,hwb,hwcell⟩:=Ad.o.words.cells (by omega);obtain⟨kb,kof,rfl,hkb,hkcell⟩:=Ad.o.kids.cells (by omega);have A9:=hwcell k A1;have A3:=hkcell k A2;rw[Z3 A1]at A9;rw[Z3 A2]at A3;have At:=Yh (Ad.o.ok.ws _ (Yq A1));obtain⟨s,hs⟩:=Yn (x.words[k]);obtain⟨q,hq⟩:=Yn (x.kids[k]);rw[hs]at A9 At;rw[hq]at A3;have A4:=Yh (YH hs hq);have gw:=(HB.o.cell (p:=⟨wb,wof+k,none⟩) hwb).trans A9;have gk:=(HB.o.cell (p:=⟨kb,kof+k,none⟩) hkb).trans A3;have Au:=@Yh (kb<w3.heap.size) (hkb);have GK:=Yh A3;have Ag:=@Yh (w2.heap.size<w3.heap.size) (Af.o.lt);have XC:=Yh (cell5 Af.o).2.2.2.2;have d4:=(HB.o.cell (p:=⟨w2.heap.size,4,none⟩) Ag.o).trans XC.o;have Ah:=Zr2 ((x.words.zip x.kids).take k);rw[Y5,List.length_zip,HM.o,A7.o]at Ah;have Aa:=fun W:World=>ZO s W At.o
   have AV:(k:Int)<(kl:Int):=by omega
   clear hwcell hkcell hs hq A9 A3 hwb hkb
   cases hnb:nameB s
   ·have Hn:=Yh (ZT6 A1 A2 A4.o.1 hnb)
    have A5:=Yh (fun W=>Aa W);rw[hnb]at A5;clear Aa A4 A1 A2 gk d4;go_wp2_with fail;refine(A5.o _).mono ?_;rintro e w5 ⟨rfl,rfl⟩;go_wp2_with fail;go_roundw
    case rel=>exact⟨k+1,_,by omega,by go_num,Yh (by rw[Hn.o];exact HO.o),HK,HB⟩
    case measure=>first|(simp[intOf];done)|(simp[intOf];omega)
   ·have Hn:=Yh (Zn5 A1 A2 A4.o.1 A4.o.2 hnb)
    have A5:=Yh (fun W=>Aa W);rw[hnb]at A5;obtain⟨xs,hxs⟩:=Yn (ifaceM ((x.words.zip x.kids).take k));have AL:=Yh hxs;rw[hxs]at HO HK Ah;obtain⟨xl,hxl⟩:=Yn (xs.length);have Ai:=Yh hxl;rw[hxl]at Ah HK;have Aj:=@Yh (wr.drew.ownsRow w4.heap.size 112 3 (.slice lo xl cap) xl (mtC xs)) (by have:=HO.o;unfold OwnM at this;rw[hxl]at this;exact this);have AM:=Yh HB.o.drew;have AN:=Yh (HK.o.below (Y8 _ _).drew);have Av:=@Yh (w3.heap.size<w4.heap.size) (AH.o);have AO:=Yh (Yk w3.heap.size)
    have A6:=Yh (show w4.heap.size<=(wr.drew.alloc (.cells #[.string s,.bool false,.int .i64 q] 112)).heap.size from by
     have g1:=HK.o.lt;have g2:=AC.o;have g3:wr.drew.heap.size<=(wr.drew.alloc (.cells #[.string s,.bool false,.int .i64 q] 112)).heap.size:=((Y8 _ _).alloc (Yk _) _).size;exact Yj (by rw[g2];exact g1) g3)
    have o3:=(cell5 HK.o).2.2.2.1;clear Aa A4 A1 A2 hxs hxl HO;go_wp2_with fail;refine(A5.o _).mono ?_;rintro e w5 ⟨rfl,rfl⟩;go_upto_region 8 with fail;refine GoG.start [(12,⟨w3.heap.size,3,none⟩,.slice lo xl cap),(13,⟨w2.heap.size,4,none⟩,.slice (some ⟨kb,kof,none⟩) kl xkc),(13,⟨kb,kof+k,none⟩,.int .i64 q)] (by kernel_rfl) ?_ ?_
    ·exact Kd (Kd (Kd (Kn)))
    refine GoG.fr 0 ?_;refine GoG.s1 1 0 [12] ?_;refine GoG.fr 2 ?_;refine GoG.fr 3 ?_;refine GoG.s1 4 1 [13] ?_;refine GoG.fr 5 ?_;refine GoG.fr 6 ?_;refine GoG.s1 7 2 [13] ?_;refine GoG.fr 8 ?_;have bq:Below wr.drew.heap.size wr.drew (wr.drew.alloc (.cells #[.string s,.bool false,.int .i64 q] 112)):=(Y8 _ _).alloc (Yk _) _;have Aw:=YR bq o3;have Ax:=YR bq d4;have Ay:=YR bq gk;clear o3 d4 gk;have o3:=Aw;have d4:=Ax;have gk:=Ay;clear bq Aw Ax Ay;refine GoG.on 9 fun K hK=>?_
    go_simp;refine hK.out _ _ (Kd (Kd (Kd (Kn)))) ?_;clear hK K
    try simp only[Act.put,YB,YC,YD,YE,YF,YG]
    refine GoG.append (i:=10) rfl (by kernel_rfl) rfl _ _ 51 rfl w4.heap.size 112 i0 (.agg #[.string ⟨#[]⟩,.bool false,.int .i64 0]) 3 32 Tryz.underlying51 hi hz0 hz1 hz2 rfl (by decide) (.slice lo xl cap) xl (mtC xs) rfl (World.ownsRow.alloc Aj.o _) ⟨wr.drew.heap.size,0,none⟩ 1 1 (mtC1 ⟨s,false,q⟩) rfl rfl (Z9 _ _ _) (fun u hu=>Zj2 [⟨s,false,q⟩] u (by unfold mtC;simpa using hu)) (by unfold maxLen;omega) (by omega) A6.o (fun v2 w6 hown hgrow _=>?_);have hp:=Zo3 (l:=xs) (r:=[⟨s,false,q⟩]) (by first|(rw[Ai.o];done)|(rw[Ai.o];rfl)) Ae.o (show OwnM wr.drew w4.heap.size _ xs by unfold OwnM;rw[Ai.o];exact Aj.o) AM.o (by rw[show mtC [(⟨s,false,q⟩:Mt)]=mtC1 ⟨s,false,q⟩from by unfold mtC;simp];exact hown) hgrow;have Az:=Yh hp.1;have Ak:=Yh hp.2;have Ab:=Yh (bgrown (AN.o.below ((Y8 _ _).alloc (Yk _) (.cells #[.string s,.bool false,.int .i64 q] 112))) hgrow (fun he=>by have:=World.ownsRow.lt Aj.o _ he;have:=Av.o;omega));clear hown hgrow hp;obtain⟨lo2,cap2,hv2,-⟩:=ZM0 Az.o;obtain⟨yl,hyl⟩:=Yn ((xs++[(⟨s,false,q⟩:Mt)]).length);rw[hyl]at hv2;subst hv2;clear hyl;refine⟨Kc (cell5 Ab.o).2.2.2.1 (Kc ((Ak.o.cell (p:=⟨w2.heap.size,4,none⟩) Ag.o).trans XC.o) (Kc ((Ak.o.cell (p:=⟨kb,kof+k,none⟩) Au.o).trans GK.o) Kn)),?_⟩;clear o3 d4 gk;refine GoG.fr 11 ?_;obtain⟨w7,h7⟩:=Yn (w6.setCell ⟨w3.heap.size,3,none⟩ (.slice lo2 yl cap2));have AP:=Yh (Zx Az.o Av.o h7);have Al:=@Yh (Below w3.heap.size w3 w7) (by rw[<-h7];exact Ak.o.setCell AO.o _);have AQ:=Yh (Zt6 Ab.o h7);have f3:=Ab.o.free 3;have e3:=(cell5 Ab.o).2.2.2.1;refine GoG.on 12 fun K hK=>?_
    go_simp;clear e3 f3;have d4:=(Al.o.cell (p:=⟨w2.heap.size,4,none⟩) Ag.o).trans XC.o;have gk:=(Al.o.cell (p:=⟨kb,kof+k,none⟩) Au.o).trans GK.o;refine hK.out _ _ (Ku (Kd (Kd (Kn)))) ?_;clear hK K h7
    try simp only[Act.put,YB,YC,YD,YE,YF,YG]
    refine GoG.done (by kernel_rfl) ?_ _;go_wp2_with fail;go_roundw
    case rel=>exact⟨k+1,_,by omega,by go_num,Yh (by rw[Hn.o,AL.o];exact AP.o),AQ,Al⟩
    case measure=>first|(simp[intOf];done)|(simp[intOf];omega)
  ·obtain rfl:k=kl:=by omega
   have hz:(x.words.zip x.kids).take k=x.words.zip x.kids:=Y3 (by rw[List.length_zip,HM.o,A7.o];omega);rw[hz]at HO HK;obtain⟨ml,hml⟩:=Yn ((ifaceM (x.words.zip x.kids)).length);have Am:=Yh hml;rw[hml]at HK;have AR:=Yh (AD.o.below HB.o);have AW:=(cell5 (Af.o.below HB.o)).1;have Br:=YT B3 HB.o;have LT:=@Yh (w1.heap.size<w4.heap.size) (As.o.lt);obtain⟨o0,o1,o2,o3,o4⟩:=cell5 HK.o;obtain⟨⟨e0,e1,e2,e3,e4⟩,f0,f1,f2,f3,f4⟩:=ZD AR.o;have HX:=Yh (Zd0 ((AG.o.same (SameS.below HB.o)).same (Zk0 Ao.o wr (.slice (some ⟨ab,aof,none⟩) L ac) (.slice no n nc) (.int .i64 0) (.slice lo ml cap) (.int .i64 0))));have AS:=Yh (Zx (Zx (Zx (Zx (Zx HO.o LT.o rfl (j:=0) (u:=.slice (some ⟨ab,aof,none⟩) L ac)) LT.o rfl (j:=1) (u:=.slice no n nc)) LT.o rfl (j:=2) (u:=.int .i64 0)) LT.o rfl (j:=3) (u:=.slice lo ml cap)) LT.o rfl (j:=4) (u:=.int .i64 0));clear HO hz hml hi hz0 hz1 hz2;go_wp2_with fail
   try simp only[Exit.inBlock,Exit.then]
   refine bodyPost_ret (v:=.agg #[.slice (some ⟨ab,aof,none⟩) L ac,.slice no n nc,.int .i64 0,.slice lo ml cap,.int .i64 0]) ?_ rfl ?_
   ·simp[results,Tryz.results78,go_sem,e0,e1,e2,e3,e4]
   rw[HF.o];obtain⟨lo3,cap3,hv3,hmb,hlc,-⟩:=ZM0 AS.o;rw[Am.o]at hv3 hlc
   injection hv3 with i1 i2 i3
   subst i1;subst i3;refine⟨some ⟨ab,aof,none⟩,no,ac,nc,lo,cap,?_,HX.o,hmb.rowS (fun b hb=>AI.o b (Yj B4.o.size hb)),by rw[Am.o];exact hlc,Zh Br.o Ap.o _ _ _ _ _⟩
   show _=Ending.returned (.agg #[.slice _ u.types.length _,.slice _ u.named.length _,_,.slice lo (ifaceM (x.words.zip x.kids)).length cap,_])
   rw[HL.o,HN.o,Am.o]
def Gd(ks:List Int)(V:Un)(ms:List Mt):Prop:=rightU V=true/\inArena V.types ks=true/\∀m∈ms,methB V.types ks.length m=true
theorem ZXd{ks:List Int}{V:Un}{m:Mt}{r:List Mt}(h:Gd ks V (m::r)):rightT V.types=true/\inL V.types m.sig=true/\fillU V m.sig ks=withU V m.sig ks:=by
 obtain⟨h1,h2,h3⟩:=h;obtain⟨-,hf,-⟩:=methB_iff.1 (h3 m Yt);have A0:=hf;unfold fitB at A0;rw[Yd]at A0;have h4:=h1;rw[Z8,Yd]at h4;exact⟨h4.1,Z60 hf,Ze6 h1 (Z60 hf) (Yf A0.2)⟩
theorem Zgd{ks:List Int}{V V2:Un}{q:Int}{m:Mt}{r:List Mt}(h:Gd ks V (m::r))(he:fillU V m.sig ks=(V2,q,0)):Gd ks V2 r:=by
 obtain⟨h1,h2,h3⟩:=h;obtain⟨-,hf,hk⟩:=methB_iff.1 (h3 m Yt);have A0:=hf;unfold fitB at A0;rw[Yd]at A0;obtain⟨f1,f2,-,-,-⟩:=(Zy1 h1 (ks:=ks) (Z60 hf) (Yf A0.2) h2 (by rw[hk];decide)).2 (by rw[he]);rw[he]at f1 f2;refine⟨f1,Z55 f2 h2,fun m' hm'=>?_⟩;have g:=h3 m' (Yx _ hm');unfold methB at g ⊢;rw[Yd]at g;have A1:=Z60 g.2;rw[Zi2 f2 A1,ZS0 f2 A1,Yd];exact g
theorem ZP{S:Nat->Prop}{w w':World}{row:Option Nat}(hg:w.grownBy w' row)(h:∀b,S b->row≠some b):SameS S w w':=
 ⟨hg.size,fun b o hb hs=>World.cell?_of_block (a:=⟨b,o,none⟩) (hg.block b hb (fun e=>h b hs e.symm))⟩
def apS(Sb:Nat->Prop)(c d:Nat)(v:Value):Nat->Prop:=fun b=>lessS Sb c d b/\v.ownBlock≠some b
theorem Zwb{w w1:World}{b:Nat}{a0 a1 a2 a3 a4 v:Value}{T:TypeId}(h:BlockAt w b #[a0,a1,a2,a3,a4] T)(h1:w.setCell ⟨b,0,none⟩ v=w1):BlockAt w1 b #[v,a1,a2,a3,a4] T:=by
 subst h1;have:=h.set 0 v
 simpa using this
theorem Zwa{w w1:World}{b:Nat}{a0 a1 a2 a3 a4 v:Value}{T:TypeId}(h:BlockAt w b #[a0,a1,a2,a3,a4] T)(h1:w.setCell ⟨b,1,none⟩ v=w1):BlockAt w1 b #[a0,v,a2,a3,a4] T:=by
 subst h1;have:=h.set 1 v
 simpa using this
theorem Zeb{w w1:World}{b:Nat}{a0 a1 a2 v:Value}{T:TypeId}(h:BlockAt w b #[a0,a1,a2] T)(h1:w.setCell ⟨b,2,none⟩ v=w1):BlockAt w1 b #[a0,a1,v] T:=by
 subst h1;have:=h.set 2 v
 simpa using this
theorem ZZb{w w':World}{base b j:Nat}{v u:Value}{l:List Mt}(h:OwnM w base v l)(hb:v.ownBlock≠some b)(h1:w.setCell ⟨b,j,none⟩ u=w'):OwnM w' base v l:=by
 subst h1;obtain⟨h1,h2⟩:=h;refine⟨h1,?_⟩
 rcases h2 with h2|⟨g,cap,cur,rfl,hg,hcur,rest⟩
 ·exact .inl h2
 ·exact .inr ⟨g,cap,cur,rfl,hg,(show BlockAt (w.setCell ⟨b,j,none⟩ u) g cur _ from BlockAt.other (show BlockAt w g cur _ from hcur) (fun e=>hb (by rw[<-e];rfl)) j u),rest⟩
theorem OwnM.kept{w w':World}{base:Nat}{v:Value}{l:List Mt}(h:OwnM w base v l)(hb:Below w.heap.size w w'):OwnM w' base v l:=by
 obtain⟨h1,h2⟩:=h;refine⟨h1,?_⟩
 rcases h2 with h2|⟨g,cap,cur,rfl,hg,hcur,rest⟩
 ·exact .inl h2
 ·exact .inr ⟨g,cap,cur,rfl,hg,(show BlockAt w' g cur _ from BlockAt.below (show BlockAt w g cur _ from hcur) hb),rest⟩
set_option maxRecDepth 100000 in
theorem ZJ7(Sb:Nat->Prop)(u:Un)(ao no:Option Addr)(ac nc:Nat)(z:Nat)(w:World)(hSb:∀b,w.heap.size<=b->Sb b)(hU:UnS Sb w ao no ac nc u)(hr:rightU u=true)(hzl:z<u.types.length)(h8:u.types[z].kind=8) :
  Calls Tryz.prog 78 #[unV u ao ac no nc,.int .i64 z] w (TRes Sb w (ownR u z)):=by
 obtain⟨w1,h1,k1,q1,z1⟩:=YA w #[.slice ao u.types.length ac,.slice no u.named.length nc] 25;obtain⟨w2,h2,k2,q2,z2⟩:=YA w1 #[.slice none 0 0,.slice none 0 0,.int .i64 0,.slice none 0 0,.int .i64 0] 117;have B2:=Yh (q1.trans (q2.mono q1.size));have AD:=@Yh (w.heap.size<=w1.heap.size) (by omega);have A2:=hr;rw[Z8,Yd]at A2;have A3:=ZR0 A2.1 hzl;obtain⟨ffo,fat,flt⟩:=Zy0 hr hzl h8;obtain⟨nm,hnm,hone,hbl⟩:=ZX0 hr hzl h8;obtain⟨lo,hlo⟩:=Yn (lowU (namesU u.named) u.types[z].name);rw[hlo]at fat flt;have A9:u.named[lo]=nm:=by rw[fat,Yw,Z3 flt]at hnm;exact hnm
 obtain⟨b,o,rfl,hb,hc⟩:=hU.o.named.cells (by omega);obtain⟨bo,bc,mo,mc,n0',n1',n2',n3',hbc,hmc,hnc⟩:=hc lo flt;rw[A9]at n0' n1' n2' n3' hbc hmc hnc;obtain⟨F,hF⟩:=Yn (ownR u (z:Int));have AE:=Yh (ZF3 hr hzl);have AW:=@Yh (F=((methU u (z:Int)).1,0,(methU u (z:Int)).2.1,(methU u (z:Int)).2.2)) (by rw[<-hF];rfl);rw[hF];obtain⟨ab,aof,rfl,hab,hac2⟩:=hU.o.types.cells (by omega);obtain⟨xw,xwc,xk,xkc,a0',a1',a2',a3',a4',hwc,hkc,hxc⟩:=hac2 z hzl;obtain⟨x,hx⟩:=Yn (u.types[z]);rw[hx]at a0' a1' a2' a3' a4' hwc hkc hxc AE h8 fat hnm hbl A3;have a0:=(B2.o.cell hab).trans a0';have a1:=(B2.o.cell hab).trans a1';have a2:=(B2.o.cell hab).trans a2';have a3:=(B2.o.cell hab).trans a3';have a4:=(B2.o.cell hab).trans a4';obtain⟨L,hL⟩:=Yn (u.types.length);obtain⟨n,hn⟩:=Yn (u.named.length);have HL:=Yh hL;have HN:=Yh hn;have AX:=hU.tl;have AY:=hU.nl;rw[hL]at h1 k1 hzl AX;rw[hn]at h1 k1 AY;have Bw:(z:Int)<(L:Int):=by omega
 have K2:=Yh k2;obtain⟨c0,c1⟩:=cell2 (k1.below q2);unfold unV;rw[hL,hn];obtain⟨m,hm⟩:=Yn (x.words.length);obtain⟨kl,A4⟩:=Yn (x.kids.length);have AZ:=Yh A4;obtain⟨w3,h3,k3,q3,z3⟩:=YA w2 #[.int .i64 x.kind,.string x.name,.int .i64 x.n,.slice xw m xwc,.slice xk kl xkc] 50;obtain⟨w4,h4,k4,q4,z4⟩:=YA w3 #[.slice (some ⟨ab,aof,none⟩) L ac,.slice (some ⟨b,o,none⟩) n nc,.int .i64 0,.slice none 0 0,.int .i64 0] 117;have B0:=Yh z4;have B3:=YT B2 q3;have Aa:=Yh q4.size;have B4:=YT B3 q4;have Q4:=Yh q4;have B1:=Yh ((K2.o.below q3).below q4);have Ah:=Yh (K2.o.below q3);have AF:=Yh k3;have B5:=Yh k4;have B6:=@Yh (w3.heap.size<w4.heap.size) (k4.lt);have AG:=Yh hSb;obtain⟨d0,d1,d2,d3,d4⟩:=cell5 (k3.below q4);obtain⟨y0,y1⟩:=cell2 ((k1.below q2).below q3);obtain⟨o0,o1,o2,o3,o4⟩:=cell5 k4;have g2:=k4.same (k:=2) (v:=.int .i64 0) rfl;have g3:=k4.same (k:=3) (v:=.slice none 0 0) rfl;have g4:=k4.same (k:=4) (v:=.int .i64 0) rfl;have f2:=k4.free 2;have f3:=k4.free 3;have f4:=k4.free 4;rw[hm]at a3 hwc;rw[A4]at a4 hkc;have B7:m<=18:=by rw[<-hm];exact hxc.ok.wl
 have Bx:(x.kind != 8)=false:=by rw[bne_eq_false_iff_eq];exact h8
 have HF:=@Yh (F=((joinM [] (methF x.kids nm.methods u)).1,0,(joinM [] (methF x.kids nm.methods u)).2.1,(joinM [] (methF x.kids nm.methods u)).2.2)) (by rw[AW.o,AE.o,if_pos h8,hnm,join_nil]);obtain⟨ms,hms⟩:=Yn (nm.methods);obtain⟨ks,hks⟩:=Yn (x.kids);rw[hms,hks]at HF;obtain⟨-,hl16,-,-,hmB,-⟩:=oneU_iff.1 hone;have GD:=@Yh (Gd ks u ms) (⟨hr,by rw[<-hks];exact A3,fun m hm=>by rw[<-hks,<-hbl];exact hmB m (by rw[hms];exact hm)⟩);have AH:=Yh (((hnc.methods.below B2.o).below q3));rw[hms]at AH hmc n3' hl16;obtain⟨n9,hn9⟩:=Yn (ms.length);have AI:=Yh hn9;rw[hn9]at hmc n3' hl16;have N3:=Yh n3';have BW:=Yh hb;have B9:=@Yh (IRow w3 xk ks) (by rw[<-hks];exact(hxc.kids.below B2.o).below q3);have AJ:=@Yh (ks.length<=18/\∀a∈ks,-9223372036854775808<=a/\a<=9223372036854775807) (by rw[<-hks];exact⟨hxc.ok.kl,hxc.ok.ks⟩);have Ai:=@Yh (ks.length=kl) (by rw[<-hks];exact AZ.o);have Aj:=Yh fat;have By:lo<n:=by rw[<-HN.o];exact flt
 have Bz:(lo:Int)<(n:Int):=by omega
 have Ba:(x.kind==7)=false:=by rw[h8];rfl
 clear h8 A3 hbl hnm fat hone A9 hb hc n0' n1' n2' n3' hbc hnc flt ffo hlo hmB hms hks hn9;have u0:=YR Q4.o y0;have u1:=YR Q4.o y1;have n3:=(B4.o.cell (p:=⟨b,o+lo*4+3,none⟩) BW.o).trans N3.o;have Bb:=Yh ((Zf (T:=apS Sb w1.heap.size w3.heap.size (.slice none 0 0)) (ZM hU (c:=w1.heap.size) (d:=w3.heap.size) ⟨q1.size,B3.o.size⟩) (fun b _ hs=>⟨hs,fun e=>by cases e⟩)).same (SameS.below B4.o));have A1:=Zv3 u (some ⟨ab,aof,none⟩) (some ⟨b,o,none⟩) ac nc x.name w4.drew ((hU.o.below B4.o).below (Y8 _ _).drew);unfold unV at A1;rw[HL.o,HN.o,Aj.o]at A1;have Bc:=Yh A1;obtain⟨J,hJ⟩:=Yn (joinM [] (methF ks ms u));rw[hJ]at HF;have HJ:=Yh hJ.symm;have BA:n9<=16:=hl16.2;clear A1 hJ hl16;clear hF hx hxc hac2 hab a0' a1' a2' a3' a4' hL hn hm A4 k1 k2 k3 k4 q1 q2 q3 q4 z1 z2 z3 z4 hU hr A2 hSb;go_enter Tryz.func78,Tryz.ntmps78;go_upto_region 3 with fail
 try rw[g2]
 try rw[g3]
 try rw[g4]
 clear g2 g3 g4 f2 f3 f4 y0 y1 a0 a1 a2 a3 a4 c0 c1 h1 h2 h3 h4;clear o0 o1 o2 o3 o4;obtain⟨i0,hi,hz0,hz1,hz2⟩:=info_parts Zn2;go_upto_region 12 with fail;refine GoG.start [(11,⟨w.heap.size,0,none⟩,.slice (some ⟨ab,aof,none⟩) L ac),(11,⟨w.heap.size,1,none⟩,.slice (some ⟨b,o,none⟩) n nc),(11,⟨w2.heap.size,1,none⟩,.string x.name),(11,⟨b,o+lo*4+3,none⟩,.slice mo n9 mc)] (by kernel_rfl) ?_ ?_
 ·exact Kd (Kd (Kd (Kd (Kn))))
 refine GoG.fr 0 ?_;refine GoG.s1 1 1 [11] ?_;refine GoG.s2 2 0 [11] ?_;refine GoG.fr 3 ?_;refine GoG.s1 4 2 [11] ?_;refine GoG.fr 10 ?_;refine GoG.on 5 fun K hK=>?_
 go_simp;refine Bc.o.mono ?_;rintro e w5 ⟨rfl,bq⟩;have AK:=YR bq u0;have AL:=YR bq u1;have AM:=YR bq d1;have AN:=YR bq n3;have Ak:=Yh ((Y8 w4.heap.size w4).drew.trans bq);clear bq u0 u1 d1 n3;have u0:=AK;have u1:=AL;have d1:=AM;have n3:=AN;clear AK AL AM AN;refine hK.out _ _ (Kd (Kd (Kd (Kd (Kn))))) ?_;clear hK K;refine GoG.fr 6 ?_;refine GoG.fr 7 ?_;refine GoG.s1 8 3 [11] ?_;refine GoG.fr 9 ?_;refine GoG.done (by kernel_rfl) ?_ _;clear u0 u1 d0 d1 d2 d3 d4 n3 Ba hwc;go_wp2_with fail;go_loopw [59] (fun i wr=>∃(k:Nat) (cu:Un) (a1 o1:Option Addr) (c1 c2:Nat) (d:List Mt) (v:Value),k<=n9/\i=.int .i64 k/\Hi (J=joinM d (methF ks (ms.drop k) cu))/\Hi (d.length=k)/\Hi (Gd ks cu (ms.drop k))/\Hi (UnS (apS Sb w1.heap.size w3.heap.size v) wr a1 o1 c1 c2 cu)/\Hi (BlockAt wr w3.heap.size #[.slice a1 cu.types.length c1,.slice o1 cu.named.length c2,.int .i64 0,v,.int .i64 0] 117)/\Hi (OwnM wr w4.heap.size v d)/\Hi (Below w3.heap.size w3 wr)) (fun i _=>n9-(intOf i).toNat)
 case atStart=>exact⟨0,u,_,_,ac,nc,[],.slice none 0 0,Yl _,rfl,HJ,Yh rfl,GD,Yh (Bb.o.same (SameS.below Ak.o)),Yh (by rw[HL.o,HN.o];exact B5.o.below Ak.o),Yh (Zq4 _ _),Yh (Q4.o.trans (Ak.o.mono Aa.o))⟩
 case round =>
  obtain⟨k,cu,a1,o1,c1,c2,d,v,hk,rfl,HJK,HD,HG,HUR,HK,HO,HB⟩:=hrel;obtain⟨lo1,cap,hv,-,-,-⟩:=ZM0 HO.o;rw[HD.o]at hv;subst hv
  by_cases hkn:k<n9
  ·have A4:k<ms.length:=by rw[AI.o];exact hkn
   have Ac:=List.drop_eq_getElem_cons A4;obtain⟨mb,mof,rfl,hmb,hmcell⟩:=AH.o.cells (by omega);obtain⟨gm0,gm1,gm2⟩:=hmcell k A4;obtain⟨y,hy⟩:=Yn (ms[k]);rw[hy]at Ac gm0 gm1 gm2;have AO:=@Yh (J=joinM d (methF ks (y::ms.drop (k+1)) cu)) (by rw[<-Ac];exact HJK.o);have AP:=@Yh (Gd ks cu (y::ms.drop (k+1))) (by rw[<-Ac];exact HG.o);have m0:=(HB.o.cell (p:=⟨mb,mof+k*3,none⟩) hmb).trans gm0;have m1:=(HB.o.cell (p:=⟨mb,mof+k*3+1,none⟩) hmb).trans gm1;have m2:=(HB.o.cell (p:=⟨mb,mof+k*3+2,none⟩) hmb).trans gm2;have Ad:=ZXd AP.o;obtain⟨wa,ha,ka,qa,za⟩:=YA wr #[.string y.name,.bool y.ptr,.int .i64 y.sig] 112;have KM:=Yh ka;have QA:=Yh qa;have ZA:=Yh za;have Ae:=YT HB qa;have Al:=Yh (HK.o.below qa);have Af:=@Yh (w3.heap.size<wr.heap.size) (HK.o.lt);have Bd:=@Yh (w1.heap.size<w3.heap.size) (Ah.o.lt);have Be:=@Yh (w2.heap.size<w3.heap.size) (AF.o.lt);have Bf:=(Ae.o.cell (p:=⟨w2.heap.size,4,none⟩) Be.o).trans (cell5 AF.o).2.2.2.2;obtain⟨S,hS⟩:∃S:Nat->Prop,(fun b=>apS Sb w1.heap.size w3.heap.size (.slice lo1 k cap) b/\b≠wr.heap.size)=S:=⟨_,rfl⟩
   have A5:=@Yh (∀b,S b↔(apS Sb w1.heap.size w3.heap.size (.slice lo1 k cap) b/\b≠wr.heap.size)) (fun b=>by rw[<-hS])
   have Bg:=Yh (show ∀b,wa.heap.size<=b->S b from fun b hb=>by
    have g1:=ZA.o;have g2:=Af.o;have g3:=Bd.o;have g4:=B3.o.size;refine(A5.o b).2 ⟨⟨⟨AG.o b (by omega),by omega,by omega⟩,fun he=>?_⟩,by omega⟩;have:=World.ownsRow.lt HO.o b he
    omega)
   have Bh:=Yh ((Zf (T:=S) HUR.o (fun b hb hs=>(A5.o b).2 ⟨hs,by omega⟩)).same (SameS.below qa));have A0:=ZX3 S cu a1 o1 c1 c2 y.sig ks xk xkc wa Bg.o Bh.o Ad.1 Ad.2.1 ((B9.o.below Ae.o)) (by have:=AJ.o.1;omega) AJ.o.2;obtain⟨⟨V,q,ec⟩,hR⟩:∃R,fillU cu y.sig ks=R:=⟨_,rfl⟩
   have hW:withR cu y.sig ks=(V,q,[],ec):=by unfold withR;rw[<-Ad.2.2,hR]
   rw[hW]at A0;have HR:=Yh hR;unfold unV TRes at A0;rw[Ai.o]at A0;obtain⟨L1,hL1⟩:=Yn (cu.types.length);obtain⟨n1,hn1⟩:=Yn (cu.named.length);rw[hL1,hn1]at A0 Al;simp only[List.length_nil]at A0;have Bi:=Yh A0;obtain⟨o0,o1',-,-,-⟩:=cell5 Al.o;have s2:=(cell3A KM.o).2.2;have BB:(k:Int)<(n9:Int):=by omega
   clear A4 Ac hmcell hmb gm0 gm1 gm2 hy Ad ka qa za hS A0 hR hW hL1 hn1;go_wp2_with fail;refine Bi.o.mono ?_;rintro e9 w7 ⟨fo,fn,fc,fnc,fm,fmc,rfl,hX,hMs,hml,b7⟩;have Bj:=Yh hX;obtain⟨w8,h8,k8,q8,z8⟩:=YA w7 #[.slice fo V.types.length fc,.slice fn V.named.length fnc,.int .i64 q,.slice fm 0 fmc,.int .i64 ec] 117;have Q8:=Yh q8;have Bk:=Yh b7.size;have Am:=Yh ((YU Ae b7).trans (q8.mono (YU Ae b7).size));have An:=Yh ((Al.o.below b7).below q8);have Bl:=Yh ((KM.o.below b7).below q8);have AQ:=Yh k8;have Bm:=@Yh (OwnM w8 w4.heap.size (.slice lo1 k cap) d) (((HO.o.kept QA.o).kept b7).kept q8);obtain⟨x0,x1,x2,x3,x4⟩:=cell5 k8;clear hX hMs hml b7 k8 q8 z8 o0 o1' s2 Bf m0 m1 m2;go_upto_region 16 with fail;clear h8 ha
   by_cases he:ec=0
   case neg =>
    have HN:=@Yh (F=(noUn,0,[],ec)) (by rw[HF.o,AO.o,Z98 HR.o he]);have hq:(ec != 0)=true:=by rw[YJ];exact he
    clear he;have B8:=YT B3 Am.o;obtain⟨⟨e0,e1,e2,e3,e4⟩,f0,f1,f2,f3,f4⟩:=ZD (Ah.o.below Am.o);go_wp2_with fail
    try simp only[Exit.inBlock,Exit.then]
    refine bodyPost_ret (v:=.agg #[.slice none 0 0,.slice none 0 0,.int .i64 0,.slice none 0 0,.int .i64 ec]) ?_ rfl ?_
    ·simp[results,Tryz.results78,go_sem,e0,e1,e2,e3,e4]
    rw[HN.o];exact ZW6 (Zh B8.o AD.o _ _ _ _ _)
   subst he;have Bn:=@Yh (J=joinM (d++[⟨y.name,y.ptr,q⟩]) (methF ks (ms.drop (k+1)) V)) (by rw[AO.o];exact join_step HR.o);have Bo:=Yh (Zgd AP.o HR.o);have Bp:=@Yh (wr.heap.size<wa.heap.size) (KM.o.lt);have Ao:=@Yh (¬S w3.heap.size) (fun g=>((A5.o _).1 g).1.1.2.2 rfl);have Bq:=@Yh (¬S wr.heap.size) (fun g=>((A5.o _).1 g).2 rfl);have Ap:=@Yh (w3.heap.size≠wr.heap.size) (Nat.ne_of_lt Af.o)
   have AR:=Yh (show w3.heap.size≠w7.heap.size/\wr.heap.size≠w7.heap.size from by
    have g1:=AQ.o.lt;have g3:=Af.o;have g4:=Bp.o;have g5:=Bk.o
    omega)
   have Ag:=@Yh (w3.heap.size<w4.heap.size) (B6.o);obtain⟨w9,h9⟩:=Yn (w8.setCell ⟨w3.heap.size,0,none⟩ (.slice fo V.types.length fc));obtain⟨w10,h10⟩:=Yn (w9.setCell ⟨w3.heap.size,1,none⟩ (.slice fn V.named.length fnc));obtain⟨w11,h11⟩:=Yn (w10.setCell ⟨wr.heap.size,2,none⟩ (.int .i64 q));have Aq:=Yh (Zwb An.o h9);have Ar:=Yh (Zwa Aq.o h10);have A6:=Yh (Z4 Ar.o Ap.o h11);have A7:=Yh (Z4 (Z4 Bl.o Ap.o.symm h9) Ap.o.symm h10);have As:=Yh (Zeb A7.o h11);have At:=Yh (Z4 (Z4 AQ.o AR.o.1.symm h9) AR.o.1.symm h10);have Au:=Yh (Z6 (Z6 (Z6 Am.o (Yk _) h9) (Yk _) h10) (Nat.le_of_lt Af.o) h11);have Av:=Yh ((((Bj.o.same (SameS.below Q8.o)).same (SameS.set Ao.o h9)).same (SameS.set Ao.o h10)).same (SameS.set Bq.o h11));have ON:(Value.slice lo1 k cap).ownBlock≠some wr.heap.size:=fun he=>by have:=World.ownsRow.lt HO.o _ he;omega
   have Ab:=Yh (ZZb (Zx (Zx Bm.o Ag.o h9) Ag.o h10) ON h11);have AS:=@Yh (w11.ownsRow w4.heap.size 112 3 (.slice lo1 k cap) k (mtC d)) (by have:=Ab.o;unfold OwnM at this;rw[HD.o]at this;exact this);have t0:=(cell5 An.o).1;have f0:=An.o.free 0;have t1:=(cell5 Aq.o).2.1;have f1:=Aq.o.free 1;have y2:=(cell5 At.o).2.2.1;have t2:=(cell3A A7.o).2.2;have f2:=A7.o.free 2;have o3:=(cell5 A6.o).2.2.2.1;obtain⟨s0,s1,s2⟩:=cell3A As.o;have Aw:=@Yh (w4.heap.size<=w11.heap.size) (by have:=A6.o.lt;have:=B0.o;omega);have Bs:k<16:=by omega
   clear ON;go_wp2_with (at_builtin;refine wpList_append_own_at _ rfl _ _ 51 rfl w4.heap.size 112 i0 (.agg #[.string ⟨#[]⟩,.bool false,.int .i64 0]) 3 32 Tryz.underlying51 hi hz0 hz1 hz2 rfl (by decide) _ k (mtC d) rfl (AS.o.alloc _) ⟨w11.heap.size,0,none⟩ 1 1 (mtC1 ⟨y.name,y.ptr,q⟩) rfl ?c1 ?c2 ?c3 ?c4 ?c5 ?c6 ?_)
   case c1=>rfl
   case c2=>exact Z9 _ _ _
   case c3=>exact fun u hu=>Zj2 [⟨y.name,y.ptr,q⟩] u (by unfold mtC;simpa using hu)
   case c4=>unfold maxLen;omega
   case c5=>omega
   case c6=>have:=Aw.o;simp;omega
   intro v' w12 hown hgrow _ hblk;have hp:=Zo3 (l:=d) (r:=[⟨y.name,y.ptr,q⟩]) (by first|(rw[HD.o];done)|(rw[HD.o];rfl)) Aa.o Ab.o Au.o (by rw[show mtC [(⟨y.name,y.ptr,q⟩:Mt)]=mtC1 ⟨y.name,y.ptr,q⟩from by unfold mtC;simp];exact hown) hgrow;have AT:=Yh hp.1;have Bt:=Yh hp.2;obtain⟨wn,hwn⟩:=Yn (w11.alloc (.cells #[.string y.name,.bool y.ptr,.int .i64 q] 112));have Ax:wn.grownBy w12 (Value.slice lo1 k cap).ownBlock:=by rw[<-hwn];exact hgrow
   have AU:v'.ownBlock=(Value.slice lo1 k cap).ownBlock\/v'.ownBlock=some wn.heap.size:=by rw[(Za hwn).2.2];exact hblk
   have qn:=(Za hwn).2.1;have A8:=Yh (bgrown (A6.o.below qn) Ax (fun he=>by have:=World.ownsRow.lt AS.o _ he;have:=Ag.o;omega))
   have Ay:=Yh ((Zf (T:=fun b=>S b/\v'.ownBlock≠some b) (Av.o.same (SameS.below qn)) (fun b hb hs=>⟨hs,fun he=>by
    rcases AU with g|g
    ·rw[g]at he;exact((A5.o b).1 hs).1.2 he
    ·rw[g]at he;injection he with he;omega⟩)).same (ZP Ax (fun b hs=>((A5.o b).1 hs.1).1.2)))
   clear hown hgrow hblk hp Ax AU qn hwn;obtain⟨lo2,cap2,hv2,-⟩:=ZM0 AT.o;obtain⟨yl,hyl⟩:=Yn ((d++[(⟨y.name,y.ptr,q⟩:Mt)]).length);rw[hyl]at hv2;subst hv2;clear hyl;obtain⟨w13,h13⟩:=Yn (w12.setCell ⟨w3.heap.size,3,none⟩ (.slice lo2 yl cap2));have Az:=Yh (Zx AT.o Ag.o h13);have AA:=Yh (Z6 Bt.o (Yk _) h13);have AB:=Yh (Zt6 A8.o h13);have AC:=Yh (Zf (T:=apS Sb w1.heap.size w3.heap.size (.slice lo2 yl cap2)) (Ay.o.same (SameS.set (fun g=>Ao.o g.1) h13)) (fun b hb hs=>⟨((A5.o b).1 hs.1).1.1,hs.2⟩));have f3:=A8.o.free 3;have e3:=(cell5 A8.o).2.2.2.1;clear t0 f0 t1 f1 t2 f2 o3 s0 s1 s2 x0 x1 x2 x3 x4 y2;go_wp2_with fail;go_roundw
   case rel=>exact⟨k+1,V,fo,fn,fc,fnc,d++[⟨y.name,y.ptr,q⟩],_,by omega,by go_num,Bn,Yh (by have:=HD.o;simp;omega),Bo,AC,AB,Az,AA⟩
   case measure=>first|(simp[intOf];done)|(simp[intOf];omega)
  ·obtain rfl:k=n9:=by omega
   have HN:=@Yh (F=(cu,0,d,0)) (by rw[HF.o,HJK.o,List.drop_of_length_le (by rw[AI.o];exact Yk _),ZG7]);obtain⟨L1,hL1⟩:=Yn (cu.types.length);obtain⟨n1,hn1⟩:=Yn (cu.named.length);have AV:=Yh (YH hL1 hn1);rw[hL1,hn1]at HK;clear hL1 hn1;have Bu:=Yh (Ah.o.below HB.o);have Br:=YT B3 HB.o;have LT:=@Yh (w1.heap.size<w4.heap.size) (B1.o.lt);obtain⟨o0,o1',o2,o3,o4⟩:=cell5 HK.o;obtain⟨⟨e0,e1,e2,e3,e4⟩,f0,f1,f2,f3,f4⟩:=ZD Bu.o;have HX:=Yh (Zf (T:=Sb) (HUR.o.same (Zk0 (show ¬apS Sb w1.heap.size w3.heap.size (.slice lo1 k cap) w1.heap.size from fun g=>g.1.2.1 rfl) wr (.slice a1 L1 c1) (.slice o1 n1 c2) (.int .i64 0) (.slice lo1 k cap) (.int .i64 0))) (fun b _ hs=>hs.1.1));have Bv:=Yh (Zx (Zx (Zx (Zx (Zx HO.o LT.o rfl (j:=0) (u:=.slice a1 L1 c1)) LT.o rfl (j:=1) (u:=.slice o1 n1 c2)) LT.o rfl (j:=2) (u:=.int .i64 0)) LT.o rfl (j:=3) (u:=.slice lo1 k cap)) LT.o rfl (j:=4) (u:=.int .i64 0));clear HO hi hz0 hz1 hz2;go_wp2_with fail
   try simp only[Exit.inBlock,Exit.then]
   refine bodyPost_ret (v:=.agg #[.slice a1 L1 c1,.slice o1 n1 c2,.int .i64 0,.slice lo1 k cap,.int .i64 0]) ?_ rfl ?_
   ·simp[results,Tryz.results78,go_sem,e0,e1,e2,e3,e4]
   rw[HN.o];obtain⟨lo3,cap3,hv3,hmb,hlc,-⟩:=ZM0 Bv.o;rw[HD.o]at hv3 hlc
   injection hv3 with i1 i2 i3
   subst i1;subst i3;refine⟨a1,o1,c1,c2,lo1,cap,?_,HX.o,hmb.rowS (fun b hb=>AG.o b (Yj B4.o.size hb)),by show d.length<=cap;rw[HD.o];exact hlc,Zh Br.o AD.o _ _ _ _ _⟩
   show _=Ending.returned (.agg #[.slice _ cu.types.length _,.slice _ cu.named.length _,_,.slice lo1 d.length cap,_])
   rw[AV.o.1,AV.o.2,HD.o]
theorem Z9a(Sb:Nat->Prop)(u:Un)(ao no:Option Addr)(ac nc:Nat)(i:Int)(w:World)(hSb:∀b,w.heap.size<=b->Sb b)(hU:UnS Sb w ao no ac nc u)(hr:rightU u=true)(hi:inL u.types i=true) :
  Calls Tryz.prog 78 #[unV u ao ac no nc,.int .i64 i] w (TRes Sb w (ownR u i)):=by
 unfold inL at hi;have hi:=Yf hi;obtain⟨z,rfl⟩:∃z:Nat,i=(z:Int):=⟨i.toNat,by omega⟩
 have hz:z<u.types.length:=by omega
 by_cases h8:u.types[z].kind=8
 ·exact ZJ7 Sb u ao no ac nc z w hSb hU hr hz h8
 ·exact ZF7 Sb u ao no ac nc z w hSb hU hr hz h8
section
variable {β:Type} {k:Nat} {enc:β->List Value} {T:TypeId}
def encs(enc:β->List Value)(l:List β):List Value:=l.flatMap enc
theorem ZSb(l r:List β):encs enc (l++r)=encs enc l++encs enc r:=by unfold encs;simp
theorem Zs(z:β):encs enc [z]=enc z:=by unfold encs;simp
theorem Zi7(hk:∀z,(enc z).length=k):∀l:List β,(encs enc l).length=l.length*k
 | []=>by unfold encs;simp
 | z::r=>by
  have ih:=Zi7 hk r;unfold encs at *;rw[List.flatMap_cons,Ye,ih,hk,List.length_cons,Nat.add_mul,Nat.one_mul,Nat.add_comm]
theorem ZY8(hk:∀z,(enc z).length=k):∀(l:List β) (i:Nat) (h:i<l.length) (j:Nat),j<k->(encs enc l)[i*k+j]? = (enc l[i])[j]?
 | [],i,h,_,_=>absurd h (Yr _)
 | z::r,0,h,j,hj=>by
  unfold encs;rw[List.flatMap_cons,Nat.zero_mul,Nat.zero_add,List.getElem?_append_left (by rw[hk];exact hj)]
  rfl
 | z::r,i+1,h,j,hj=>by
  have ih:=ZY8 hk r i (Nat.lt_of_succ_lt_succ h) j hj;have e:(i+1)*k+j=i*k+j+k:=by rw[Nat.add_mul,Nat.one_mul];omega
  unfold encs at *;rw[List.flatMap_cons,e,List.getElem?_append_right (by rw[hk];omega),hk,Nat.add_sub_cancel];exact ih
theorem Z3d(h1:∀z,∀u∈enc z,u.oneCell'=true)(l:List β):∀u∈encs enc l,u.oneCell'=true:=by
 intro u hu;obtain⟨z,_,hz⟩:=List.mem_flatMap.1 hu;exact h1 z u hz
def GRow(k:Nat)(enc:β->List Value)(Sb:Nat->Prop)(w:World)(ao:Option Addr)(l:List β):Prop:=
 l=[]\/∃b off,ao=some ⟨b,off,none⟩/\b<w.heap.size/\Sb b/\∀i (h:i<l.length) j v,(enc l[i])[j]? = some v->w.cell? ⟨b,off+i*k+j,none⟩=some v
theorem GRow.same{Sb:Nat->Prop}{w w':World}{ao:Option Addr}{l:List β}(h:GRow k enc Sb w ao l)(hs:SameS Sb w w'):GRow k enc Sb w' ao l:=by
 rcases h with h|⟨b,off,e,hb,hS,hc⟩
 ·exact .inl h
 ·exact .inr ⟨b,off,e,Yi hb hs.1,hS,fun i hi j v hv=>(hs.2 b _ hb hS).trans (hc i hi j v hv)⟩
theorem GRow.below{Sb:Nat->Prop}{w w':World}{ao:Option Addr}{l:List β}(h:GRow k enc Sb w ao l)(hs:Below w.heap.size w w'):GRow k enc Sb w' ao l:=h.same (SameS.below hs)
theorem GRow.sub{S R:Nat->Prop}{w:World}{ao:Option Addr}{l:List β}(h:GRow k enc S w ao l)(hs:∀b,b<w.heap.size->S b->R b):GRow k enc R w ao l:=by
 rcases h with h|⟨b,off,e,hb,hS,hc⟩
 ·exact .inl h
 ·exact .inr ⟨b,off,e,hb,hs b hb hS,hc⟩
theorem GRow.cells{Sb:Nat->Prop}{w:World}{ao:Option Addr}{l:List β}(h:GRow k enc Sb w ao l)(h0:0<l.length):∃b off,ao=some ⟨b,off,none⟩/\b<w.heap.size/\Sb b/\∀i (h:i<l.length) j v,(enc l[i])[j]? = some v->w.cell? ⟨b,off+i*k+j,none⟩=some v:=by
 rcases h with h|h
 ·rw[h]at h0;exact absurd h0 (Nat.lt_irrefl _)
 ·exact h
def OwnG(k:Nat)(enc:β->List Value)(T:TypeId)(w:World)(base:Nat)(v:Value)(l:List β):Prop:=w.ownsRow base T k v l.length (encs enc l)
theorem ZY0(w:World)(base:Nat):OwnG k enc T w base (.slice none 0 0) ([]:List β):=World.ownsRow_nil _ _ _ _
theorem OwnG.kept{w w':World}{base:Nat}{v:Value}{l:List β}(h:OwnG k enc T w base v l)(hb:Below w.heap.size w w'):OwnG k enc T w' base v l:=by
 obtain⟨h1,h2⟩:=h;refine⟨h1,?_⟩
 rcases h2 with h2|⟨g,cap,cur,rfl,hg,hcur,rest⟩
 ·exact .inl h2
 ·exact .inr ⟨g,cap,cur,rfl,hg,(show BlockAt w' g cur _ from BlockAt.below (show BlockAt w g cur _ from hcur) hb),rest⟩
theorem OwnG.set{w w':World}{base b j:Nat}{v u:Value}{l:List β}(h:OwnG k enc T w base v l)(hb:v.ownBlock≠some b)(h1:w.setCell ⟨b,j,none⟩ u=w'):OwnG k enc T w' base v l:=by
 subst h1;obtain⟨h1,h2⟩:=h;refine⟨h1,?_⟩
 rcases h2 with h2|⟨g,cap,cur,rfl,hg,hcur,rest⟩
 ·exact .inl h2
 ·exact .inr ⟨g,cap,cur,rfl,hg,(show BlockAt (w.setCell ⟨b,j,none⟩ u) g cur _ from BlockAt.other (show BlockAt w g cur _ from hcur) (fun e=>hb (by rw[<-e];rfl)) j u),rest⟩
theorem OwnG.not{w:World}{base b:Nat}{v:Value}{l:List β}(h:OwnG k enc T w base v l)(hb:b<base\/w.heap.size<=b):v.ownBlock≠some b:=fun he=>by
 have:=World.ownsRow.lt h b he
 omega
theorem OwnG.other{w w':World}{base b j:Nat}{v u:Value}{l:List β}(h:OwnG k enc T w base v l)(hb:b<base)(h1:w.setCell ⟨b,j,none⟩ u=w'):OwnG k enc T w' base v l:=h.set (h.not (.inl hb)) h1
theorem OwnG.row(hk:∀z,(enc z).length=k){w:World}{base:Nat}{v:Value}{l:List β}(h:OwnG k enc T w base v l) :
  ∃lo cap,v=.slice lo l.length cap/\l.length<=cap/\(∀a,lo=some a->base<=a.block)/\∀S:Nat->Prop,(∀b,base<=b->S b)->GRow k enc S w lo l:=by
 obtain⟨h1,h2⟩:=h
 rcases h2 with⟨rfl,h0⟩|⟨g,cap,cur,rfl,hg,hcur,hcap1,hcap2,hcs,htk⟩
 ·exact⟨none,0,by rw[h0],by rw[h0];exact Yk _,fun a h=>absurd h (by simp),fun S _=>.inl (Yp h0)⟩
 ·refine⟨_,_,rfl,hcap1,fun a h=>by injection h with h;subst h;exact hg,fun S hS=>.inr ⟨g,0,rfl,(show BlockAt w g cur _ from hcur).lt,hS g hg,fun i hi j u hu=>?_⟩⟩
  have hj:j<k:=by
   have:=(YI.1 hu).1;rw[hk]at this;exact this
  have A0:i*k+j<l.length*k:=by
   have h3:(i+1)*k<=l.length*k:=Nat.mul_le_mul_right k hi;rw[Nat.add_mul,Nat.one_mul]at h3
   omega
  rw[(show BlockAt w g cur _ from hcur).cell,Nat.zero_add]
  have e:cur[i*k+j]? = (encs enc l)[i*k+j]?:=by
   rw[<-htk,List.getElem?_take_of_lt A0];simp
  rw[e,ZY8 hk l i hi j hj];exact hu
theorem pushG{W wr wn w1:World}{base:Nat}{v v':Value}{l r:List β}{n:Nat}(hn:n=l.length+r.length)(hW:W.heap.size<=base)(ho:OwnG k enc T wr base v l)(hB:Below W.heap.size W wr)(hwn:Below wr.heap.size wr wn)
  (h1:w1.ownsRow base T k v' n (encs enc l++encs enc r)) (hg:wn.grownBy w1 v.ownBlock) (hb:v'.ownBlock=v.ownBlock\/v'.ownBlock=some wn.heap.size) :
  OwnG k enc T w1 base v' (l++r)/\Below W.heap.size W w1/\(∀b xs U,BlockAt wr b xs U->v.ownBlock≠some b->BlockAt w1 b xs U) /\
  (∀S:Nat->Prop,(∀b,S b->v.ownBlock≠some b)->∀(ao no:Option Addr) (ac nc:Nat) (u:Un),UnS S wr ao no ac nc u->UnS (fun b=>S b/\v'.ownBlock≠some b) w1 ao no ac nc u):=by
 have A0:=hB.trans (hwn.mono hB.size);refine⟨?_,A0.grown hg (by have:=A0.size;omega) (fun q hq=>?_),fun b xs U hB hne=>bgrown (hB.below hwn) hg hne,fun S hS ao no ac nc u hU=>?_⟩
 ·subst hn
  unfold OwnG;rw[ZSb,Ye];exact h1
 ·have:=World.ownsRow.lt ho q hq
  have:=hwn.size
  omega
 ·refine(Zf (T:=fun b=>S b/\v'.ownBlock≠some b) (hU.same (SameS.below hwn)) (fun b hlt hs=>⟨hs,fun he=>?_⟩)).same (ZP hg (fun b hs=>hS b hs.1))
  rcases hb with g|g
  ·rw[g]at he;exact hS b hs he
  ·rw[g]at he;injection he with he;omega
theorem GRow.grown{S:Nat->Prop}{w wn w1:World}{v:Value}{ao:Option Addr}{l:List β}(h:GRow k enc S w ao l)(hwn:Below w.heap.size w wn)(hg:wn.grownBy w1 v.ownBlock)(hS:∀b,S b->v.ownBlock≠some b):GRow k enc S w1 ao l:=
 (h.below hwn).same (ZP hg hS)
end
end Go.Proofs.YtdcajkagakikiaaGreatDoor
