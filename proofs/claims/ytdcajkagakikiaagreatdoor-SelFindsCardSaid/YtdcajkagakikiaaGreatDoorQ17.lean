import Derived.Test.YtdcajkagakikiaaGreatDoorQ16
namespace Go.Proofs.YtdcajkagakikiaaGreatDoor
set_option maxHeartbeats 64000000
set_option linter.unusedSimpArgs false
set_option linter.unusedVariables false
open Go.RowKit
theorem ZE5{w w1:World}{b:Nat}{a0 a1 a2 v:Value}{T:TypeId}(h:BlockAt w b #[a0,a1,a2] T)(h1:w.setCell ⟨b,0,none⟩ v=w1):BlockAt w1 b #[v,a1,a2] T:=by
 subst h1;have:=h.set 0 v
 simpa using this
theorem ZB5{w w1:World}{b:Nat}{a0 a1 a2 v:Value}{T:TypeId}(h:BlockAt w b #[a0,a1,a2] T)(h1:w.setCell ⟨b,1,none⟩ v=w1):BlockAt w1 b #[a0,v,a2] T:=by
 subst h1;have:=h.set 1 v
 simpa using this
theorem ZI3{w w1:World}{b:Nat}{a0 a1 a2 v:Value}{T:TypeId}(h:BlockAt w b #[a0,a1,a2] T)(h1:w.setCell ⟨b,2,none⟩ v=w1):BlockAt w1 b #[a0,a1,v] T:=by
 subst h1;have:=h.set 2 v
 simpa using this
def WkAt(Sb:Nat->Prop)(w:World)(wb:Nat)(u:Un)(e:Int):Prop:=∃ao no ac nc,BlockAt w wb #[.slice ao u.types.length ac,.slice no u.named.length nc,.int .i64 e] 57/\UnS Sb w ao no ac nc u
set_option maxRecDepth 100000 in
theorem Zu9(u:Un)(ao no:Option Addr)(ac nc:Nat)(i:Int)(w:World)(hU:UnC w ao no ac nc u)(hE:Env w) :
  Calls Tryz.prog 17 #[unV u ao ac no nc,.int .i64 i] w fun e w'=>e=.returned (.int .i64 (thereU u i))/\Below w.heap.size w w':=by
 obtain⟨R,hR⟩:=Yn (thereU u i);rw[hR];have HR:=Yh hR;have A2:=hU.tl;obtain⟨w1,h1,k1,q1,z1⟩:=YA w #[.slice ao u.types.length ac,.slice no u.named.length nc] 25;have B1:=Yh q1;have A0:=ZU4 u ao no ac nc w1 (hU.below q1) (hE.below q1) (hE.max.below q1);unfold unV at A0;unfold unV;obtain⟨L,hL⟩:=Yn (u.types.length);have HL:=Yh hL;rw[hL]at h1 k1 A0 A2 ⊢;have K1:=Yh k1;obtain⟨c0,c1⟩:=cell2 k1;clear hL hU hE hR k1 q1 z1;go_enter Tryz.func17,Tryz.ntmps17
 cases ht:rightU u<;>rw[ht]at A0<;>have HT:=Yh ht<;>have HP:=Yh A0<;>clear ht A0
 ·have HV:=@Yh ((1:Int)=R) (by rw[<-HR.o];unfold thereU;rw[if_pos HT.o])
  go_wp2_with fail;refine HP.o.mono ?_;rintro e w2 ⟨rfl,b2⟩;have B2:=YT B1 b2;clear b2 c0 c1 h1;go_wp2_with fail;go_ret;exact⟨Zp HV.o,B2.o⟩
 have A1:=@Yh ((if i<0\/(L:Int)<=i then(8:Int)else 0)=R) (by rw[<-HR.o];unfold thereU;rw[HL.o];simp[HT.o])
 by_cases h0:i<0
 ·have HV:=@Yh ((8:Int)=R) (by rw[<-A1.o,if_pos (.inl h0)])
  have A3:decide (i<0)=true:=Yb h0;go_wp2_with fail;refine HP.o.mono ?_;rintro e w2 ⟨rfl,b2⟩;have B2:=YT B1 b2;clear b2 c0 c1 h1;go_wp2_with fail;go_ret;exact⟨Zp HV.o,B2.o⟩
 have A3:decide (i<0)=false:=Ya h0
 by_cases h9:(L:Int)<=i
 ·have HV:=@Yh ((8:Int)=R) (by rw[<-A1.o,if_pos (.inr h9)])
  have A4:decide ((L:Int)<=i)=true:=Yb h9;go_wp2_with fail;refine HP.o.mono ?_;rintro e w2 ⟨rfl,b2⟩;have B2:=YT B1 b2;clear c0 c1 h1;obtain⟨c0,c1⟩:=cell2 (K1.o.below b2);clear b2;go_wp2_with fail;go_ret;exact⟨Zp HV.o,B2.o⟩
 ·have HV:=@Yh ((0:Int)=R) (by rw[<-A1.o,if_neg (by omega)])
  have A4:decide ((L:Int)<=i)=false:=Ya h9;go_wp2_with fail;refine HP.o.mono ?_;rintro e w2 ⟨rfl,b2⟩;have B2:=YT B1 b2;clear c0 c1 h1;obtain⟨c0,c1⟩:=cell2 (K1.o.below b2);clear b2;go_wp2_with fail;go_ret;exact⟨Zp HV.o,B2.o⟩
theorem ZAc(u:Un)(i:Int)(ks:List Int)(h:(fillU u i ks).2.2≠0):(fillU u i ks).2.1=0:=by
 unfold fillU at h ⊢
 split
 ·rename_i c
  rw[if_pos c]at h;exact absurd rfl h
 ·rename_i c
  rw[if_neg c]at h
  split
  ·rfl
  ·rename_i c2
   rw[if_neg c2]at h;exact absurd rfl h
theorem Zea(u:Un)(i:Int)(h:(underU u i).2.2≠0):(underU u i).2.1=0:=by
 unfold underU at h ⊢
 split
 ·rfl
 ·rename_i c
  rw[if_neg c]at h
  split
  ·rename_i c2
   rw[if_pos c2]at h;exact absurd rfl h
  ·rename_i c2
   rw[if_neg c2]at h;exact ZAc _ _ _ h
def WkR(Sb:Nat->Prop)(W0 w:World)(wb:Nat)(u:Un)(e:Int)(w':World):Prop:=WkAt Sb w' wb u e/\SameX wb w w'/\Below W0.heap.size W0 w'
set_option maxRecDepth 100000 in
theorem Zx2(Sb:Nat->Prop)(u:Un)(i:Int)(wb:Nat)(W0 w:World)(hB:Below W0.heap.size W0 w)(hwb:W0.heap.size<=wb)(hSb:∀b,w.heap.size<=b->Sb b)(hns:¬Sb wb)(hK:WkAt Sb w wb u 0)(hE:Env W0) :
  Calls Tryz.prog 69 #[.pointer (some ⟨wb,0,none⟩),.int .i64 i] w fun e w'=>e=.returned (.int .i64 (underU u i).2.1)/\WkR Sb W0 w wb (underU u i).1 (underU u i).2.2 w':=by
 obtain⟨ao,no,ac,nc,hK,hU⟩:=hK;have A0:=Zqb Sb u ao no ac nc i w hSb hU (hE.below hB);have A1:=Yh hns;have HB:=Yh hB;have A2:=Yh hwb;have HK:=Yh hK;have A3:=Yh (Zea u i);obtain⟨⟨V,f,e⟩,hR⟩:∃R,underU u i=R:=⟨_,rfl⟩
 rw[hR]at A0 A3 ⊢;unfold unV at A0;have HU:=Yh A0;obtain⟨c0,c1,c2⟩:=cell3m hK;obtain⟨L,hL⟩:=Yn (u.types.length);obtain⟨n,hn⟩:=Yn (u.named.length);rw[hL]at c0 HU HK;rw[hn]at c1 HU HK;clear A0 hR hU hK hB hE hSb hns hwb hL hn;go_enter Tryz.func69,Tryz.ntmps69;go_wp2_with fail;refine HU.o.mono ?_;rintro e1 w1 ⟨fo,fn,fc,fnc,rfl,hX,b1⟩;have HX:=Yh hX;have B1:=YT HB b1;have K1:=Yh (HK.o.below b1);have S1:=Yh (SameX.below (c:=wb) b1);clear hX b1 c0 c1 c2;unfold unV;obtain⟨s0,h0⟩:=Yn (w1.setCell ⟨wb,0,none⟩ (.slice fo V.types.length fc));obtain⟨s1,h1⟩:=Yn (s0.setCell ⟨wb,1,none⟩ (.slice fn V.named.length fnc));obtain⟨s2,h2⟩:=Yn (s1.setCell ⟨wb,2,none⟩ (.int .i64 e));have k0:=ZE5 K1.o h0;have k1:=ZB5 k0 h1;have K2:=Yh (ZI3 k1 h2);have t0:=(cell3m K1.o).1;have f0:=K1.o.free 0;have t1:=(cell3m k0).2.1;have f1:=k0.free 1;have t2:=(cell3m k1).2.2;have f2:=k1.free 2;obtain⟨r0,r1,r2⟩:=cell3m K2.o;have A4:=Yh (((HX.o.same (SameS.set A1.o h0)).same (SameS.set A1.o h1)).same (SameS.set A1.o h2));have S2:=Yh (((S1.o.trans (SameX.set h0)).trans (SameX.set h1)).trans (SameX.set h2));have B2:=Yh (Z6 (Z6 (Z6 B1.o A2.o h0) A2.o h1) A2.o h2);clear k0 k1
 by_cases he:e=0
 ·subst he
  go_wp2_with fail;go_ret;exact⟨rfl,⟨fo,fn,fc,fnc,K2.o,A4.o⟩,S2.o,B2.o⟩
 ·have hq:(e != 0)=true:=by rw[YJ];exact he
  have hf:(0:Int)=f:=(A3.o he).symm;have HF:=Yh hf;clear he hf;go_wp2_with fail;go_ret;exact⟨Zp HF.o,⟨fo,fn,fc,fnc,K2.o,A4.o⟩,S2.o,B2.o⟩
set_option maxRecDepth 100000 in
theorem Z8a(Sb:Nat->Prop)(u:Un)(ao no:Option Addr)(ac nc:Nat)(i:Int)(w:World)(hSb:∀b,w.heap.size<=b->Sb b)(hU:UnS Sb w ao no ac nc u)(hE:Env w)(hru0:rightU u=true)(z0:Nat)(hi0:i=(z0:Int))(hz0:z0<u.types.length)(h70:u.types[z0].kind=7) :
  Calls Tryz.prog 90 #[unV u ao ac no nc,.int .i64 i] w (MethR Sb w (methU u i)):=by
 obtain⟨w1,h1,k1,q1,z1⟩:=YA w #[.slice ao u.types.length ac,.slice no u.named.length nc] 25;obtain⟨w2,h2,k2,q2,z2⟩:=YA w1 #[.slice none 0 0,.slice none 0 0] 25;have B2:=Yh (q1.trans (q2.mono q1.size));have HU:=Yh (hU.same (SameS.below B2.o));have Aq:=Yh ((ZM hU (c:=w1.heap.size) (d:=w1.heap.size) ⟨q1.size,q1.size⟩).same (SameS.below B2.o));have Ah:=@Yh (¬lessS Sb w1.heap.size w1.heap.size w1.heap.size) (fun g=>g.2.2 rfl);have Ar:=@Yh (w.heap.size<=w1.heap.size) (by omega);have A0:=ZK2 u ao no ac nc i w2 HU.o.o (hE.below B2.o);have As:=Yh hSb;obtain⟨F,hF⟩:=Yn (methU u i);have At:=Yh hF;rw[hF];unfold unV at A0;unfold unV;obtain⟨te,hte⟩:=Yn (thereU u i);have Ad:=Yh hte;rw[hte]at A0;have Ab:=Yh A0;have K1:=Yh (k1.below q2);have K2:=Yh k2;obtain⟨c0,c1⟩:=cell2 (k1.below q2);have Au:=Yh hU.tl;have Av:=Yh hU.nl;clear hF hte A0 k1 k2 q1 q2 z1 z2 hU hE hSb;go_enter Tryz.func90,Tryz.ntmps90
 by_cases h0:te=0
 case neg =>
  exact absurd (by rw[<-Ad.o,hi0];exact Z01 hru0 (by unfold inL;exact Yb (by omega))) h0
 subst h0;obtain⟨hru,hi0',hi1⟩:=Ze0 Ad.o;obtain⟨z,rfl⟩:∃z:Nat,i=(z:Int):=⟨i.toNat,by omega⟩
 have A4:z<u.types.length:=by omega
 have A1:=hru;rw[Z8,Yd]at A1;have Ai:=Yh (fun h7=>Z72 A1.1 A4 h7);have Aw:=Yh (fun h8=>Zy0 hru A4 h8)
 have Aj:=Yh (show F=if u.types[z].kind=8 then methF u.types[z].kids (u.named.getD (atU u.named u.types[z].name).toNat ⟨⟨#[]⟩,[],0,[]⟩).methods u else if u.types[z].kind=7 then(u,ifaceM (u.types[z].words.zip u.types[z].kids),0)else(u,[],0)by
  rw[<-At.o];unfold methU;rw[Ad.o,if_neg (fun g=>g rfl),Ze A4,Yw];unfold funT;rw[Z3 A4])
 obtain rfl:z=z0:=by omega
 have Ae:=Yh h70;clear hru A1 hi0 hi0' hi1 hru0 h70;obtain⟨ab,aof,rfl,hab,hac2⟩:=HU.o.o.types.cells (by omega);obtain⟨xw,xwc,xk,xkc,a0',a1',a2',a3',a4',hwc,hkc,hxc⟩:=hac2 z A4;obtain⟨x,hx⟩:=Yn (u.types[z]);rw[hx]at a0' a1' a2' a3' a4' hwc hkc hxc Aj Aw Ai Ae;have Ax:=Yh hxc;have Ak:=Yh (YH hwc hkc);obtain⟨L,hL⟩:=Yn (u.types.length);obtain⟨n,hn⟩:=Yn (u.named.length);have HL:=Yh hL;have HN:=Yh hn;rw[hL]at c0 h1 K1 Ab A4 hz0 ⊢;rw[hn]at c1 h1 K1 Ab ⊢;have Ay:=Au.o;have Az:=Av.o;rw[hL]at Ay;rw[hn]at Az;have AQ:(z:Int)<(L:Int):=by omega
 clear hx hxc hac2 hL hn hwc hkc;go_wp2_with fail;refine Ab.o.mono ?_;rintro e w3 ⟨rfl,b3⟩;have B3:=YT B2 b3;have Al:=Yh (K1.o.below b3);have AA:=Yh (K2.o.below b3);have Af:=Yh (Aq.o.same (SameS.below b3));have A6:=Yh (Ax.o.below b3);have a0:=(b3.cell hab).trans a0';have a1:=(b3.cell hab).trans a1';have a2:=(b3.cell hab).trans a2';have a3:=(b3.cell hab).trans a3';have a4:=(b3.cell hab).trans a4';clear b3 c0 c1 h1 h2 hab a0' a1' a2' a3' a4' Ab;obtain⟨c0,c1⟩:=cell2 Al.o;obtain⟨w4,h4,k4,q4,z4⟩:=YA w3 #[.int .i64 x.kind,.string x.name,.int .i64 x.n,.slice xw x.words.length xwc,.slice xk x.kids.length xkc] 50;have KX:=Yh k4;have Q4:=Yh q4;obtain⟨d0,d1,d2,d3,d4⟩:=cell5 k4;clear k4 q4 z4;have Am:=Yh (Al.o.below Q4.o);have An:=Yh (AA.o.below Q4.o);have B4:=YT B3 Q4.o
 by_cases h8:x.kind=8
 case neg =>
  have AR:(x.kind==8)=false:=by rw[Yc];exact h8
  by_cases h7:x.kind=7
  case neg=>exact absurd Ae.o h7
  have AS:(x.kind==7)=true:=by rw[YK];exact h7
  have HF:=@Yh (F=(u,ifaceM (x.words.zip x.kids),0)) (by rw[Aj.o,if_neg h8,if_pos h7]);have AB:=Yh (Ai.o h7);obtain⟨m,hm⟩:=Yn (x.words.length);have HM:=Yh hm;have A7:=@Yh (x.kids.length=m) (by rw[<-AB.o,hm]);have AC:m<=xwc:=by rw[<-hm];exact Ak.o.1
  have AD:m<=xkc:=by rw[<-A7.o];exact Ak.o.2
  have AE:m<=18:=by rw[<-hm];exact A6.o.ok.wl
  rw[hm]at a3 h4 KX d3;rw[A7.o]at a4 h4 KX d4;obtain⟨y0,y1⟩:=cell2 Am.o;have A2:=Yh (A6.o.below Q4.o);have AF:=Yh (Af.o.same (SameS.below Q4.o));obtain⟨i0,hi,hz0,hz1,hz2⟩:=info_parts Zn2;clear hm h8 h7;go_wp2_with fail;clear a0 a1 a2 a3 a4 c0 c1 d0 d1 d2 d3 d4 y0 y1 h4;go_loopw [11,54] (fun v i wr=>∃k:Nat,k<=m/\i=.int .i64 k/\Hi (OwnM wr w4.heap.size v (ifaceM ((x.words.zip x.kids).take k)))/\Hi (Below w4.heap.size w4 wr)) (fun _ i _=>m-(intOf i).toNat)
  case atStart=>exact⟨0,Yl _,rfl,Yh (Zq4 _ _),Yh (Y8 _ _)⟩
  case round =>
   obtain⟨k,hk,rfl,HO,HB⟩:=hrel
   by_cases hkm:k<m
   ·have A3:k<x.words.length:=by rw[HM.o];exact hkm
    have A5:k<x.kids.length:=by rw[A7.o];exact hkm
    obtain⟨wb,wof,rfl,hwb,hwcell⟩:=(A2.o.words.below HB.o).cells (by omega);obtain⟨kb,kof,rfl,hkb,hkcell⟩:=(A2.o.kids.below HB.o).cells (by omega);have gw:=hwcell k A3;have gk:=hkcell k A5;rw[Z3 A3]at gw;rw[Z3 A5]at gk;have Ao:=Yh (A2.o.ok.ws _ (Yq A3));obtain⟨s,hs⟩:=Yn (x.words[k]);obtain⟨q,hq⟩:=Yn (x.kids[k]);rw[hs]at gw Ao;rw[hq]at gk;have A8:=Yh (YH hs hq);have Ag:=Zr2 ((x.words.zip x.kids).take k);rw[Y5,List.length_zip,HM.o,A7.o]at Ag;have Ac:=fun W:World=>Zp0 s W Ao.o
    have AT:=(cell5 (KX.o.below HB.o)).2.2.2.2;have AU:(k:Int)<(m:Int):=by omega
    clear hwcell hkcell hs hq
    cases hnb:nameB s
    ·have Hn:=Yh (ZT6 A3 A5 A8.o.1 hnb)
     have A9:=Yh (fun W=>Ac W);rw[hnb]at A9;clear Ac A8 A3 A5;go_wp2_with fail;refine(A9.o _).mono ?_;rintro e w5 ⟨rfl,rfl⟩;go_wp2_with fail;go_roundw
     case rel=>exact⟨k+1,by omega,by go_num,Yh (by rw[Hn.o];exact HO.o),HB⟩
     case measure=>first|(simp[intOf];done)|(simp[intOf];omega)
    ·have Hn:=Yh (Zn5 A3 A5 A8.o.1 A8.o.2 hnb)
     have A9:=Yh (fun W=>Ac W);rw[hnb]at A9;obtain⟨xs,hxs⟩:=Yn (ifaceM ((x.words.zip x.kids).take k));have AG:=Yh hxs;rw[hxs]at HO Ag;obtain⟨xl,hxl⟩:=Yn (xs.length);have Ap:=Yh hxl;rw[hxl]at Ag;have AH:=@Yh (wr.ownsRow w4.heap.size 112 3 _ xl (mtC xs)) (by have:=HO.o;unfold OwnM at this;rw[hxl]at this;exact this);have BZ:=Yh HB.o.size;clear Ac A8 A3 A5 hxs hxl;go_wp2_with fail;refine(A9.o _).mono ?_;rintro e w5 ⟨rfl,rfl⟩;go_wp2_with (at_builtin;refine wpList_append_own_at _ rfl _ _ 51 rfl w4.heap.size 112 i0 (.agg #[.string ⟨#[]⟩,.bool false,.int .i64 0]) 3 32 Tryz.underlying51 hi hz0 hz1 hz2 rfl (by decide) _ xl (mtC xs) rfl (AH.o.alloc _) ⟨wr.heap.size,0,none⟩ 1 1 (mtC1 ⟨s,false,q⟩) rfl ?c1 ?c2 ?c3 ?c4 ?c5 ?c6 ?_)
     case c1=>rfl
     case c2=>exact Z9 _ _ _
     case c3=>exact fun u hu=>Zj2 [⟨s,false,q⟩] u (by unfold mtC;simpa using hu)
     case c4=>unfold maxLen;omega
     case c5=>omega
     case c6=>have:=BZ.o;simp;omega
     intro v' w6 hown hgrow _ hblk;have hp:=Zo3 (r:=[⟨s,false,q⟩]) (by first|(rw[Ap.o];done)|(rw[Ap.o];rfl)) (Yk _) HO.o HB.o (by rw[show mtC [(⟨s,false,q⟩:Mt)]=mtC1 ⟨s,false,q⟩from by unfold mtC;simp];exact hown) hgrow;have AI:=Yh hp.1;have AJ:=Yh hp.2;clear hown hgrow hblk hp;go_wp2_with fail;go_roundw
     case rel=>exact⟨k+1,by omega,by go_num,Yh (by rw[Hn.o,AG.o];exact AI.o),AJ⟩
     case measure=>first|(simp[intOf];done)|(simp[intOf];omega)
   ·obtain rfl:k=m:=by omega
    have hz:(x.words.zip x.kids).take k=x.words.zip x.kids:=Y3 (by rw[List.length_zip,HM.o,A7.o];omega);obtain⟨lo,lc,hv,hmb,hlc,hba⟩:=ZM0 HO.o;subst hv;rw[hz]at hmb hlc ⊢;have AK:=Yh hmb;have AL:=Yh hlc;obtain⟨ml,hml⟩:=Yn ((ifaceM (x.words.zip x.kids)).length);have AM:=Yh hml;rw[hml];have AN:=Yh (Am.o.below HB.o);have Aa:=Yh (An.o.below HB.o);have Br:=YT B4 HB.o;have LT:=@Yh (w1.heap.size<w4.heap.size) (An.o.lt);obtain⟨y0,y1⟩:=cell2 AN.o;obtain⟨v1,g1⟩:=Yn (wr.setCell ⟨w1.heap.size,0,none⟩ (.slice (some ⟨ab,aof,none⟩) L ac));obtain⟨v2,g2⟩:=Yn (v1.setCell ⟨w1.heap.size,1,none⟩ (.slice no n nc));have K6:=ZQ Aa.o g1 g2;have B6:=Yh (ZC Br.o Ar.o g1 g2);have AO:=Yh (Zd0 (((AF.o.same (SameS.below HB.o)).same (SameS.set Ah.o g1)).same (SameS.set Ah.o g2)));have AP:=Yh ((AK.o.other LT.o g1).other LT.o g2);have t0:=(cell2 Aa.o).1;have f0:=Aa.o.free 0;have t1:=(cell2 (Zc Aa.o g1)).2;have f1:=(Zc Aa.o g1).free 1;obtain⟨e0,e1⟩:=cell2 K6;clear K6 hmb hlc hba hz hml;go_wp2_with fail
    try simp only[Exit.inBlock,Exit.then]
    refine bodyPost_ret (v:=.tuple #[.agg #[.slice (some ⟨ab,aof,none⟩) L ac,.slice no n nc],.slice lo ml lc,.int .i64 0]) ?_ rfl ?_
    ·simp[results,Tryz.results90,go_sem,e0,e1]
    rw[HF.o];refine⟨some ⟨ab,aof,none⟩,no,ac,nc,lo,lc,?_,AO.o,AP.o.rowS (fun b hb=>As.o b (Yj B4.o.size hb)),AL.o,B6.o⟩;unfold unV;rw[HL.o,HN.o]
    show _=Ending.returned (.tuple #[_,.slice lo (ifaceM (x.words.zip x.kids)).length lc,_])
    rw[AM.o]
 exact absurd (h8.symm.trans Ae.o) (by decide)
set_option maxRecDepth 100000 in
theorem Zp7(Sb:Nat->Prop)(u:Un)(i:Int)(wb:Nat)(W0 w:World)(hB:Below W0.heap.size W0 w)(hwb:W0.heap.size<=wb)(hSb:∀b,w.heap.size<=b->Sb b)(hns:¬Sb wb)(hK:WkAt Sb w wb u 0)(hE:Env W0)(hru0:rightU u=true)(z0:Nat)(hi0:i=(z0:Int))(hz0:z0<u.types.length)(h70:u.types[z0].kind=7) :
  Calls Tryz.prog 70 #[.pointer (some ⟨wb,0,none⟩),.int .i64 i] w fun e w'=>(∃lo lc,e=.returned (.slice lo (methU u i).2.1.length lc)/\MRowS Sb w' lo (methU u i).2.1/\(methU u i).2.1.length<=lc)/\WkR Sb W0 w wb (methU u i).1 (methU u i).2.2 w':=by
 obtain⟨ao,no,ac,nc,hK,hU⟩:=hK;have A1:=Z8a Sb u ao no ac nc i w hSb hU (hE.below hB) hru0 z0 hi0 hz0 h70;have A0:=Yh hns;have HB:=Yh hB;have A2:=Yh hwb;have HK:=Yh hK;obtain⟨⟨V,ms,e⟩,hR⟩:∃R,methU u i=R:=⟨_,rfl⟩
 rw[hR]at A1 ⊢;unfold unV at A1;have HU:=Yh A1;obtain⟨c0,c1,c2⟩:=cell3m hK;obtain⟨L,hL⟩:=Yn (u.types.length);obtain⟨n,hn⟩:=Yn (u.named.length);rw[hL]at c0 HU HK;rw[hn]at c1 HU HK;clear A1 hR hU hK hB hE hSb hns hwb hL hn hru0 hi0 h70 hz0;go_enter Tryz.func70,Tryz.ntmps70;go_wp2_with fail;refine HU.o.mono ?_;rintro e1 w1 ⟨fo,fn,fc,fnc,lo,lc,rfl,hX,hMR,hlc,b1⟩;have HX:=Yh hX;have A3:=Yh hMR;have A4:=Yh hlc;have B1:=YT HB b1;have K1:=Yh (HK.o.below b1);have S1:=Yh (SameX.below (c:=wb) b1);clear hX hMR hlc b1 c0 c1 c2;unfold unV;obtain⟨s0,h0⟩:=Yn (w1.setCell ⟨wb,0,none⟩ (.slice fo V.types.length fc));obtain⟨s1,h1⟩:=Yn (s0.setCell ⟨wb,1,none⟩ (.slice fn V.named.length fnc));obtain⟨s2,h2⟩:=Yn (s1.setCell ⟨wb,2,none⟩ (.int .i64 e));have k0:=ZE5 K1.o h0;have k1:=ZB5 k0 h1;have K2:=Yh (ZI3 k1 h2);have t0:=(cell3m K1.o).1;have f0:=K1.o.free 0;have t1:=(cell3m k0).2.1;have f1:=k0.free 1;have t2:=(cell3m k1).2.2;have f2:=k1.free 2;obtain⟨r0,r1,r2⟩:=cell3m K2.o;have A5:=Yh (((HX.o.same (SameS.set A0.o h0)).same (SameS.set A0.o h1)).same (SameS.set A0.o h2));have S2:=Yh (((S1.o.trans (SameX.set h0)).trans (SameX.set h1)).trans (SameX.set h2));have B2:=Yh (Z6 (Z6 (Z6 B1.o A2.o h0) A2.o h1) A2.o h2);clear k0 k1;have A6:=Yh (((A3.o.same (SameS.set A0.o h0)).same (SameS.set A0.o h1)).same (SameS.set A0.o h2));obtain⟨ml,hml⟩:=Yn (ms.length);clear hml;go_wp2_with fail;go_ret;exact⟨⟨lo,lc,rfl,A6.o,A4.o⟩,⟨fo,fn,fc,fnc,K2.o,A5.o⟩,S2.o,B2.o⟩
end Go.Proofs.YtdcajkagakikiaaGreatDoor
