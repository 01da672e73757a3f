import Derived.Test.YtdcajkagakikiaaGreatDoorQ17
namespace Go.Proofs.YtdcajkagakikiaaGreatDoor
set_option maxHeartbeats 64000000
set_option linter.unusedSimpArgs false
set_option linter.unusedVariables false
open Go.RowKit
theorem Zs1{S T:Nat->Prop}{w:World}{ao:Option Addr}{l:List Ty}(h:ARowS S w ao l)(k:∀b,b<w.heap.size->S b->T b):ARowS T w ao l:=by
 rcases h with h|⟨b,off,e,l1,n,cc⟩
 ·exact .inl h
 ·refine .inr ⟨b,off,e,l1,k b l1 n,fun i hi=>?_⟩
  obtain⟨wo,wc,ko,kc,c0,c1,c2,c3,c4,g1,g2,g3⟩:=cc i hi;refine⟨wo,wc,ko,kc,c0,c1,c2,c3,c4,g1,g2,?_,?_,g3.ok⟩
  ·rcases g3.words with g|⟨b,off,e,l,n,cc⟩
   ·exact .inl g
   ·exact .inr ⟨b,off,e,l,k b l n,cc⟩
  ·rcases g3.kids with g|⟨b,off,e,l,n,cc⟩
   ·exact .inl g
   ·exact .inr ⟨b,off,e,l,k b l n,cc⟩
theorem ZA7{Sb:Nat->Prop}{c:Nat}{w X:World}(hs:∀b,w.heap.size<=b->Sb b)(h:c<X.heap.size/\w.heap.size<X.heap.size):∀b,X.heap.size<=b->lessS Sb c w.heap.size b:=fun b hb=>⟨hs b (by omega),by omega,by omega⟩
theorem Zp9{Sb:Nat->Prop}{c d c2:Nat}{w w':World}{ao:Option Addr}{l:List Ty}(h:ARowS (lessS Sb c d) w ao l)(hg:w.grownBy w' (some c))(hd:c2=c\/w.heap.size<=c2):ARowS (lessS Sb c2 d) w' ao l:=by
 have h1:ARowS (fun b=>lessS Sb c d b/\b≠c2) w ao l:=by
  rcases hd with rfl|hd
  ·exact Zs1 h (fun b _ g=>⟨g,g.2.1⟩)
  ·exact Zs1 h (fun b hb g=>⟨g,by omega⟩)
 have h2:=h1.same (w':=w') ⟨hg.size,fun b o hb hn=>World.cell?_of_block (a:=⟨b,o,none⟩) (hg.block b hb (fun e=>hn.1.2.1 (by injection e)))⟩;exact Zs1 h2 (fun b _ g=>⟨g.1.1,g.2,g.1.2.2⟩)
def AddRS(Sb:Nat->Prop)(w:World)(R:List Ty×Int×Int)(e:Ending)(w':World):Prop:=∃ao cap,e=.returned (.agg #[.slice ao R.1.length cap,.int .i64 R.2.1,.int .i64 R.2.2])/\ARowS Sb w' ao R.1/\R.1.length<=cap/\Below w.heap.size w w'
set_option maxRecDepth 100000 in
theorem Z25(Sb:Nat->Prop)(l:List Ty)(ao:Option Addr)(ac:Nat)(t:Ty)(wo ko:Option Addr)(wc kc:Nat)(w:World)(hc:∀b,w.heap.size<=b->Sb b)(hla:ARowS Sb w ao l)(hta:TyCS Sb w wo ko t)(ll:l.length<=1000)(hac:l.length<=ac)(l0:0<l.length)(hwc:t.words.length<=wc)(hkc:t.kids.length<=kc) :
  Calls Tryz.prog 120 #[.slice ao l.length ac,tyV t wo wc ko kc] w (AddRS Sb w (addT l t)):=by
 have Af:=Yh hla;have Ag:=Yh hta;have Ah:=Yh hc;have Ai:=Yh hac;have hl:=hla.o;have ht:=hta.o;clear hla hta hc hac;obtain⟨R,hR⟩:=Yn (addT l t);rw[hR];have HR:=Yh hR;clear hR;obtain⟨n,hn⟩:=Yn (l.length);have HN:=Yh hn;have HT:=Yh ht;obtain⟨w1,h1⟩:=Yn (w.alloc (.cells #[.int .i64 t.kind,.string t.name,.int .i64 t.n,.slice wo t.words.length wc,.slice ko t.kids.length kc] 50));obtain⟨w2,h2⟩:=Yn (w1.alloc (.cells #[.slice none 0 0,.int .i64 0,.int .i64 0] 148));obtain⟨k1,q1,z1⟩:=Za h1;obtain⟨k2,q2,z2⟩:=Za h2;have BW:=Yh (q1.trans (q2.mono q1.size));have K1:=Yh (k1.below q2);have K2:=Yh k2;have A0:=fun W (h:Below w2.heap.size w2 W)=>Zta l ao ac t wo ko wc kc W ((hl.below BW.o).below h) ((ht.below BW.o).below h) ll
 have A1:=fun W (h:Below w2.heap.size w2 W)=>Zc8 l ao ac t wo ko wc kc W ((hl.below BW.o).below h) ((ht.below BW.o).below h) ll hwc
 unfold tyV at A0 A1 ⊢;rw[hn]at A0 A1 l0 ll ⊢;obtain⟨p,hp⟩:=Yn (atT l t);obtain⟨mb,hmb⟩:=Yn (madeB l t);rw[hp]at A0;rw[hmb]at A1;have HP:=Yh hp;have A7:=Yh hmb;have A4:=Yh A0;have A8:=Yh A1;obtain⟨c0,c1,c2,c3,c4⟩:=cell5 K1.o;have HW:=Yh (YH hwc hkc);have HZ:=Yh (YH z1 z2);clear hn hl ht k1 k2 q1 q2 z1 z2 A0 A1 hp hmb hwc hkc
 by_cases hge:0<=p
 ·have HV:=@Yh (R=(l,p,0)) (by rw[<-HR.o];unfold addT;rw[HP.o,if_pos hge])
  go_enter Tryz.func120,Tryz.ntmps120;go_wp2_with fail;refine(A4.o _ (Y8 _ _)).mono ?_;rintro e w3 ⟨rfl,b3⟩;clear h1 h2 c0 c1 c2 c3 c4;obtain⟨c0,c1,c2,c3,c4⟩:=cell5 (K1.o.below b3);have B3:=Yh b3;go_wp2_with fail;refine(A4.o _ B3.o).mono ?_;rintro e w4 ⟨rfl,b4⟩;have B4:=Yh (b3.trans (b4.mono b3.size));clear b3 b4 c0 c1 c2 c3 c4;have M:=K2.o.below B4.o;obtain⟨e0,e1,e2⟩:=cell3A M;have f0:=M.free 0;have f1:=M.free 1;have f2:=M.free 2;clear M;go_wp2_with fail;have B5:=YU BW B4.o;have BE:=Yh ((((B5.setCell (p:=⟨w1.heap.size,0,none⟩) (by have:=HZ.o;show w.heap.size<=w1.heap.size;omega) (.slice ao n ac)).setCell (p:=⟨w1.heap.size,1,none⟩) (by have:=HZ.o;show w.heap.size<=w1.heap.size;omega) (.int .i64 p)).setCell (p:=⟨w1.heap.size,2,none⟩) (by have:=HZ.o;show w.heap.size<=w1.heap.size;omega) (.int .i64 0)));refine bodyPost_ret (v:=.agg #[.slice ao n ac,.int .i64 p,.int .i64 0]) (by simp[results,Tryz.results120,go_sem,e0,e1,e2]) rfl ?_;rw[HV.o];exact⟨ao,ac,by rw[show(l,p,(0:Int)).1.length=n from HN.o],Af.o.same (SameS.below BE.o),Ai.o,BE.o⟩
 have Ak:p<0:=by omega
 cases mb
 ·have HV:=@Yh (R=([],0,1)) (by rw[<-HR.o];unfold addT;rw[HP.o,if_neg hge,if_pos A7.o])
  go_enter Tryz.func120,Tryz.ntmps120;go_wp2_with fail;refine(A4.o _ (Y8 _ _)).mono ?_;rintro e w3 ⟨rfl,b3⟩;clear h1 h2 c0 c1 c2 c3 c4;obtain⟨c0,c1,c2,c3,c4⟩:=cell5 (K1.o.below b3);have B3:=Yh b3;go_wp2_with fail;refine(A8.o _ B3.o).mono ?_;rintro e w4 ⟨rfl,b4⟩;have B4:=Yh (b3.trans (b4.mono b3.size));clear b3 b4 c0 c1 c2 c3 c4;have M:=K2.o.below B4.o;obtain⟨e0,e1,e2⟩:=cell3A M;have f0:=M.free 0;have f1:=M.free 1;have f2:=M.free 2;clear M;go_wp2_with fail;have B5:=YU BW B4.o;have BE:=Yh ((((B5.setCell (p:=⟨w1.heap.size,0,none⟩) (by have:=HZ.o;show w.heap.size<=w1.heap.size;omega) (.slice none 0 0)).setCell (p:=⟨w1.heap.size,1,none⟩) (by have:=HZ.o;show w.heap.size<=w1.heap.size;omega) (.int .i64 0)).setCell (p:=⟨w1.heap.size,2,none⟩) (by have:=HZ.o;show w.heap.size<=w1.heap.size;omega) (.int .i64 1)));refine bodyPost_ret (v:=.agg #[.slice none 0 0,.int .i64 0,.int .i64 1]) (by simp[results,Tryz.results120,go_sem,e0,e1,e2]) rfl ?_;rw[HV.o];exact⟨none,0,rfl,.inl rfl,Yk _,BE.o⟩
 by_cases h400:n=400
 ·have HV:=@Yh (R=([],0,7)) (by rw[<-HR.o];unfold addT;rw[HP.o,if_neg hge,if_neg (by rw[A7.o];decide),if_pos (by rw[HN.o];exact h400)])
  have hq:((n:Int)==400)=true:=by rw[YK];omega
  clear h400;go_enter Tryz.func120,Tryz.ntmps120;go_wp2_with fail;refine(A4.o _ (Y8 _ _)).mono ?_;rintro e w3 ⟨rfl,b3⟩;clear h1 h2 c0 c1 c2 c3 c4;obtain⟨c0,c1,c2,c3,c4⟩:=cell5 (K1.o.below b3);have B3:=Yh b3;go_wp2_with fail;refine(A8.o _ B3.o).mono ?_;rintro e w4 ⟨rfl,b4⟩;have B4:=Yh (b3.trans (b4.mono b3.size));clear b3 b4 c0 c1 c2 c3 c4;have M:=K2.o.below B4.o;obtain⟨e0,e1,e2⟩:=cell3A M;have f0:=M.free 0;have f1:=M.free 1;have f2:=M.free 2;clear M;go_wp2_with fail;have B5:=YU BW B4.o;have BE:=Yh ((((B5.setCell (p:=⟨w1.heap.size,0,none⟩) (by have:=HZ.o;show w.heap.size<=w1.heap.size;omega) (.slice none 0 0)).setCell (p:=⟨w1.heap.size,1,none⟩) (by have:=HZ.o;show w.heap.size<=w1.heap.size;omega) (.int .i64 0)).setCell (p:=⟨w1.heap.size,2,none⟩) (by have:=HZ.o;show w.heap.size<=w1.heap.size;omega) (.int .i64 7)));refine bodyPost_ret (v:=.agg #[.slice none 0 0,.int .i64 0,.int .i64 7]) (by simp[results,Tryz.results120,go_sem,e0,e1,e2]) rfl ?_;rw[HV.o];exact⟨none,0,rfl,.inl rfl,Yk _,BE.o⟩
 ·have HV:=@Yh (R=(l++[t],(l.length:Int),0)) (by rw[<-HR.o];unfold addT;rw[HP.o,if_neg hge,if_neg (by rw[A7.o];decide),if_neg (by rw[HN.o];exact h400)])
  have hq:((n:Int)==400)=false:=by rw[Yc];omega
  obtain⟨i0,hi,hz0,Ad,hz2⟩:=info_parts ZD1;obtain⟨lb,lo,rfl,hlb,hlc⟩:=Af.o.cells (by rw[HN.o];exact l0);obtain⟨zs,y1,y2,y3,y4⟩:=Zc4 hlc l.length (Yk _);rw[List.take_length]at y1;rw[HN.o]at y2;have Y:=Yh (YH hlb (YH y1 (YH y2 (YH y3 y4))));clear hlb hlc y1 y2 y3 y4;go_enter Tryz.func120,Tryz.ntmps120;go_wp2_with fail;refine(A4.o _ (Y8 _ _)).mono ?_;rintro e w3 ⟨rfl,b3⟩;clear h1 h2 c0 c1 c2 c3 c4;obtain⟨c0,c1,c2,c3,c4⟩:=cell5 (K1.o.below b3);have B3:=Yh b3;go_wp2_with fail;refine(A8.o _ B3.o).mono ?_;rintro e w4 ⟨rfl,b4⟩;have B4:=Yh (b3.trans (b4.mono b3.size));clear b3 b4 c0 c1 c2 c3 c4;have O0:=@Yh (OwnZ (w4.alloc (.cells #[] 50)) w2.heap.size (.slice (some ⟨w4.heap.size,0,none⟩) 0 0) []) (World.ownsRow_made w4 #[] 0 (B4.o.size) (by unfold maxLen;omega) rfl);have B5:=@Yh (Below w2.heap.size w2 (w4.alloc (.cells #[] 50))) (B4.o.trans (((Y8 _ _).alloc (Yk _) _).mono B4.o.size));have BA:=YT BW B5.o;have OO:=@Yh ((w4.alloc (.cells #[] 50)).ownsRow w2.heap.size 50 5 (.slice (some ⟨w4.heap.size,0,none⟩) 0 0) 0 []) (O0.o);go_wp2_with (at_builtin;refine wpList_append_own_at _ rfl _ _ 22 rfl w2.heap.size 50 i0 (.agg #[.int .i64 0,.string ⟨#[]⟩,.int .i64 0,.slice none 0 0,.slice none 0 0]) 5 80 Tryz.underlying22 hi hz0 Ad hz2 rfl (by decide) _ 0 [] rfl OO.o ⟨lb,lo,none⟩ n ac (tzC zs) rfl ?c1 ?c2 ?c3 ?c4 ?c5 ?c6 ?_)
  case c1=>rw[ZK3,Y.o.2.2.1]
  case c2=>exact fun j u hu=>by rw[addr_add];exact(BA.o.cell Y.o.1).trans (Y.o.2.2.2.2 j u hu)
  case c3=>exact ZN3 _
  case c4=>unfold maxLen;omega
  case c5=>omega
  case c6=>exact B5.o.size
  intro v6 w6 hown6 hgrow6 _ hblk6;have A9:=ZRa (r:=zs) (by rw[Y.o.2.2.1];exact(Nat.zero_add n).symm) (Yk _) O0.o B5.o hown6 hgrow6;have O6:=@Yh (OwnZ w6 w2.heap.size v6 zs) (A9.1);have B6:=Yh A9.2;have A5:=O6.o;unfold OwnZ at A5;rw[Y.o.2.2.1]at A5;have Aj:=Yh A5;obtain⟨c0,c1,c2,c3,c4⟩:=cell5 (K1.o.below B6.o);clear hown6 hgrow6 hblk6 A9 A5 OO;go_wp2_with (at_builtin;refine wpList_append_own_at _ rfl _ _ 22 rfl w2.heap.size 50 i0 (.agg #[.int .i64 0,.string ⟨#[]⟩,.int .i64 0,.slice none 0 0,.slice none 0 0]) 5 80 Tryz.underlying22 hi hz0 Ad hz2 rfl (by decide) _ n (tzC zs) rfl (Aj.o.alloc _) ⟨w6.heap.size,0,none⟩ 1 1 (tzC1 ⟨t,wo,wc,ko,kc⟩) rfl ?c1 ?c2 ?c3 ?c4 ?c5 ?c6 ?_)
  case c1=>rfl
  case c2=>exact Z9 _ _ _
  case c3=>exact ZO1 _
  case c4=>unfold maxLen;omega
  case c5=>omega
  case c6=>have:=B6.o.size;simp;omega
  intro v7 w7 hown7 hgrow7 _ hblk7;have A6:=Zj1 (r:=[⟨t,wo,wc,ko,kc⟩]) (by first|(rw[Y.o.2.2.1];done)|(rw[Y.o.2.2.1];rfl)) (Yk _) O6.o B6.o (by simpa [tzC] using hown7) hgrow7;have B7:=Yh A6.2.1;have Aa:=YT BW B7.o
  obtain⟨ao7,cap7,rfl,r1,r2⟩:=Zp2 A6.1 (fun z hz=>by
   rcases Yz.1 hz with hz|hz
   ·exact(Y.o.2.2.2.1 z hz).o.below Aa.o
   ·rw[Yo.1 hz];exact⟨HW.o.1,HW.o.2,HT.o.below Aa.o⟩)
  have O7:=Yh A6.1;have A2:(zs++[(⟨t,wo,wc,ko,kc⟩:Tz)]).map (·.t)=l++[t]:=by rw[Yu,Y.o.2.1];rfl
  have Ab:=Yh A2;rw[A2]at r1 r2 O7 ⊢;have R2:=Yh r2;have A3:(l++[t]).length=n+1:=by rw[Ye,HN.o];rfl
  rw[A3]at O7 ⊢;have Ac:=Yh A3;clear hown7 hgrow7 hblk7 A6 r1 r2 A2 A3 c0 c1 c2 c3 c4;have M:=K2.o.below B7.o;obtain⟨e0,e1,e2⟩:=cell3A M;have f0:=M.free 0;have f1:=M.free 1;have f2:=M.free 2;clear M;go_wp2_with fail;have Ad:=HZ.o;have BE:=Yh ((((Aa.o.setCell (p:=⟨w1.heap.size,0,none⟩) (by show w.heap.size<=w1.heap.size;omega) (.slice ao7 (n+1) cap7)).setCell (p:=⟨w1.heap.size,1,none⟩) (by show w.heap.size<=w1.heap.size;omega) (.int .i64 n)).setCell (p:=⟨w1.heap.size,2,none⟩) (by show w.heap.size<=w1.heap.size;omega) (.int .i64 0)));refine bodyPost_ret (v:=.agg #[.slice ao7 (n+1) cap7,.int .i64 n,.int .i64 0]) (by simp[results,Tryz.results120,go_sem,e0,e1,e2]) rfl ?_;rw[HV.o,HN.o];refine⟨ao7,cap7,by rw[show(l++[t],(n:Int),(0:Int)).1.length=n+1 from Ac.o],?_,?_,BE.o⟩;rotate_left
  ·show(l++[t]).length<=cap7;exact R2.o
  have Ae:(Value.slice ao7 (n+1) cap7).ownBlock≠some w1.heap.size:=Zh0 O7.o (.inl (by omega));have O8:=Zi0 (Zi0 (Zi0 O7.o Ae 0 (.slice ao7 (n+1) cap7)) Ae 1 (.int .i64 n)) Ae 2 (.int .i64 0)
  obtain⟨ao8,cap8,e8,s1,s2⟩:=Zm3 O8 (Sb:=Sb) (fun b hb=>Ah.o b (Yj BW.o.size hb)) (fun z hz=>by
   rcases Yz.1 hz with hz|hz
   ·exact(Y.o.2.2.2.1 z hz).same (SameS.below BE.o)
   ·rw[Yo.1 hz];exact⟨HW.o.1,HW.o.2,Ag.o.same (SameS.below BE.o)⟩)
  injection e8 with e8 _ _
  rw[Ab.o]at s1;rw[<-e8]at s1;exact s1
theorem Ze1{w3 X w':World}{Sb:Nat->Prop}{gi gcap c dd:Nat}{I:Nat->Int}{v:Int}{v':Value}{so:Option Addr}{now:List Ty}(ho:OwnK X w3.heap.size (.slice (some ⟨gi,0,none⟩) c gcap) (valsI I c))(ha:ARowS (lessS Sb gi dd) X so now)(hb:Below w3.heap.size w3 X)
  (hown:w'.ownsRow w3.heap.size 3 1 v' (c+1) (intC (valsI I c)++[.int .i64 v])) (hg:(X.alloc (.cells #[.int .i64 v] 3)).grownBy w' (some gi)) (hv:v'.ownBlock=some gi\/v'.ownBlock=some (X.heap.size+1)) :
  ∃gi' gcap',v'=.slice (some ⟨gi',0,none⟩) (c+1) gcap'/\OwnK w' w3.heap.size (.slice (some ⟨gi',0,none⟩) (c+1) gcap') (valsI (updI I c v) (c+1))/\ARowS (lessS Sb gi' dd) w' so now/\Below w3.heap.size w3 w':=by
 have ba:Below X.heap.size X (X.alloc (.cells #[.int .i64 v] 3)):=(Y8 _ _).alloc (Yk _) _;have A0:=hb.trans (ba.mono hb.size);have A4:=World.ownsRow.lt (ZW0 ho) gi rfl
 have A1:OwnK w' w3.heap.size v' (valsI (updI I c v) (c+1)):=by
  unfold OwnK;rw[Zg,ZPb];unfold intC at *;rw[Yu];exact hown
 have A2:=A0.grown hg A0.size (fun k hk=>by injection hk with hk;omega)
 rcases hown.2 with⟨_,h0⟩|⟨g,cap,cur,rfl,hgb,hcur,rest⟩
 ·omega
 ·have A3:g=gi\/g=X.heap.size+1:=by
   rcases hv with h|h
   ·injection h with h;exact .inl h
   ·injection h with h;exact .inr h
  refine⟨g,cap,rfl,A1,Zp9 (ha.same (SameS.below ba)) hg ?_,A2⟩
  rcases A3 with h|h
  ·exact .inl h
  ·right
   simp
   omega
set_option maxRecDepth 100000 in
theorem ZX7(Sb:Nat->Prop)(l:List Ty)(ao:Option Addr)(ac i:Nat)(args:List Int)(go:Option Addr)(gc:Nat)(w:World)(hSb:∀b,w.heap.size<=b->Sb b)(hls:ARowS Sb w ao l)(hr:rightT l=true)(hac:l.length<=ac)(hi:i<l.length)(hg:IRow w go args)(hgl:args.length<=1000)(hg6:∀a∈args,-9223372036854775808<=a/\a<=9223372036854775807) :
  Calls Tryz.prog 93 #[.slice ao l.length ac,.int .i64 i,.slice go args.length gc] w (AddRS Sb w (substT l i args)):=by
 have hl:=hls.o;have Bm:=Yh hls;have Av:=Yh hSb;clear hls hSb;obtain⟨k0,hki,hk0,hk1,hk2⟩:=info_parts Zc3;have BD:=(right_step hr).1;have Ao:=fun W (h:Below w.heap.size w W)=>Z44 l ao ac i W (hl.below h) hr hac hi
 have Ap:=fun W (h:Below w.heap.size w W)=>Z68 l ao ac i W (hl.below h) hr hac hi
 have As:=Yh hr;have HG:=Yh hg;have AW:=Yh hi;have BE:=Yh hac;obtain⟨R,hR⟩:=Yn (substT l i args);rw[hR];have HR:=Yh hR;obtain⟨n,hn⟩:=Yn (l.length);have HN:=Yh hn;obtain⟨ga,hga⟩:=Yn (args.length);have Aw:=Yh hga;rw[hga]at hgl ⊢;rw[hn]at Ao Ap BD hac hi ⊢;have BF:=Yh Ao;have BG:=Yh Ap;have BH:=Zw0 (Z20 hr) (i+1) i;obtain⟨az,haz⟩:=Yn (askD (funT l) (i+1) i);have AX:=Yh haz;rw[haz]at BH;have C9:(i:Int)<(i:Int)+1:=by omega
 obtain⟨w1,h1,k1,q1,z1⟩:=YA w #[.slice none 0 0,.int .i64 0,.int .i64 0] 148;have K1:=Yh k1;have B1:=Yh q1;clear hl hr hg hg6 hR hn hga Ao Ap haz k1 q1 z1;go_enter Tryz.func93,Tryz.ntmps93;go_wp2_with fail;refine(BF.o _ B1.o).mono ?_;rintro e w2 ⟨bo,bc,rfl,hbr,hbc,b2⟩;have B2:=YT B1 b2;have K2:=Yh (K1.o.below b2);have BI:=Yh hbr;obtain⟨ob,oof,rfl,hob,hocell⟩:=hbr.cells (by rw[Zg];omega);have ca:=hocell i (by rw[Zg];omega);rw[ZD0 (by omega),AX.o]at ca;clear b2 hbr hocell h1
 by_cases hlt:(ga:Int)<az
 ·have hd:decide ((ga:Int)<az)=true:=Yb hlt
  have Hn:=@Yh (R=([],0,1)) (by rw[<-HR.o];exact Zg9 (by rw[Aw.o,AX.o];exact hlt));obtain⟨⟨e0,e1,e2⟩,f0,f1,f2⟩:=ZG1 K2.o;clear hlt;go_wp2_with fail;refine bodyPost_ret (v:=.agg #[.slice none 0 0,.int .i64 0,.int .i64 1]) (by simp[results,Tryz.results93,go_sem,e0,e1,e2]) rfl ?_;rw[Hn.o];exact⟨none,0,rfl,.inl rfl,Yk _,Zq0 B2.o (Yk _) _ _ _⟩
 have hd:decide ((ga:Int)<az)=false:=Ya hlt;have Ak:=@Yh (askD (funT l) (i+1) i<=(args.length:Int)) (by rw[Aw.o,AX.o];omega);clear hlt;go_wp2_with fail;clear ca hd;go_loop [32] (fun v=>∃k:Nat,k<=ga/\v=.int .i64 k/\Hi (∀j,j<k->0<=args.getD j 0/\args.getD j 0<(l.length:Int))) (fun v=>ga-(intOf v).toNat)
 case atStart=>exact⟨0,Yl _,rfl,Yh (fun j hj=>absurd hj (Yr _))⟩
 case round =>
  obtain⟨k,hk,rfl,HALL⟩:=hrel
  by_cases hkl:k<ga
  ·have Bn:k<args.length:=by rw[Aw.o];exact hkl
   obtain⟨gb,gof,rfl,hgb,hgcell⟩:=HG.o.cells (by omega);have cg:=(B2.o.cell (p:=⟨gb,gof+k,none⟩) hgb).trans (hgcell k Bn);have Aq:=Yh (fun h=>ZF6 (l:=l) Bn h);obtain⟨a,ha⟩:=Yn (args.getD k 0);rw[ha]at cg Aq;have BJ:=Yh ha;obtain⟨⟨e0,e1,e2⟩,f0,f1,f2⟩:=ZG1 K2.o;clear ha hgcell hgb
   by_cases h0:a<0
   ·have BK:decide (a<0)=true:=Yb h0
    have Hn:=@Yh (R=([],0,1)) (by rw[<-HR.o];exact ZG3 (Int.not_lt.2 Ak.o) (Aq.o (.inl h0)));clear h0;go_wp2_with fail;refine bodyPost_ret (v:=.agg #[.slice none 0 0,.int .i64 0,.int .i64 1]) (by simp[results,Tryz.results93,go_sem,e0,e1,e2]) rfl ?_;rw[Hn.o];exact⟨none,0,rfl,.inl rfl,Yk _,Zq0 B2.o (Yk _) _ _ _⟩
   ·have BK:decide (a<0)=false:=Ya h0
    by_cases h1:(n:Int)<=a
    ·have BL:decide ((n:Int)<=a)=true:=Yb h1
     have Hn:=@Yh (R=([],0,1)) (by rw[<-HR.o];exact ZG3 (Int.not_lt.2 Ak.o) (Aq.o (.inr (by rw[HN.o];exact h1))));clear h0 h1;go_wp2_with fail;refine bodyPost_ret (v:=.agg #[.slice none 0 0,.int .i64 0,.int .i64 1]) (by simp[results,Tryz.results93,go_sem,e0,e1,e2]) rfl ?_;rw[Hn.o];exact⟨none,0,rfl,.inl rfl,Yk _,Zq0 B2.o (Yk _) _ _ _⟩
    ·have BL:decide ((n:Int)<=a)=false:=Ya h1
     have BM:=Yh (show ∀j,j<k+1->0<=args.getD j 0/\args.getD j 0<(l.length:Int)from fun j hj=>by
      rcases Ym (Ys hj)with h3|h3
      ·exact HALL.o j h3
      ·subst h3;rw[BJ.o,HN.o];omega)
     clear h0 h1 e0 e1 e2 f0 f1 f2;go_wp2_with fail;go_round
     case rel=>exact⟨k+1,by omega,by go_num,BM⟩
     case measure=>first|(simp[intOf];done)|(simp[intOf];omega)
  ·have A6:=@Yh (inArena l args=true) (Zi3 (fun j hj=>HALL.o j (by rw[Aw.o]at hj;omega)))
   clear HALL;go_wp2_with fail;refine(BG.o _ B2.o).mono ?_;rintro e w3 ⟨pg,pcap,rfl,hpc,hpl,hpcell,b3⟩;have B3:=YT B2 b3;have Ax:=Yh (BI.o.below b3);have K3:=Yh (K2.o.below b3);have Bo:=Yh hpcell;have BO:=Yh hpl;have BP:=Yh (Yi hob b3.size);clear b3 hpcell hpl hob;have O0:=@Yh (OwnK (w3.alloc (.cells #[] 3)) w3.heap.size (.slice (some ⟨w3.heap.size,0,none⟩) 0 0) (valsI (fun _=>(0:Int)) 0)) (World.ownsRow_made w3 #[] 0 (Yk _) (by unfold maxLen;omega) rfl);have A0:=@Yh (ARowS (lessS Sb w3.heap.size w.heap.size) (w3.alloc (.cells #[] 3)) ao l) ((Zs1 (T:=lessS Sb w3.heap.size w.heap.size) Bm.o (fun b hb hs=>⟨hs,by have:=B3.o.size;omega,by omega⟩)).same (SameS.below (B3.o.trans (((Y8 _ _).alloc (Yk _) _).mono B3.o.size))));have BQ:=@Yh (Below w3.heap.size w3 (w3.alloc (.cells #[] 3))) ((Y8 _ _).alloc (Yk _) _);obtain⟨nd,hnd⟩:=Yn (needD (funT l) i (i+1));obtain⟨A,hA⟩:=Yn (askD (funT l) (i+1));have Aa:=Yh hnd;have Al:=Yh hA;rw[hnd]at Bo;rw[hA]at Ax;clear hnd hA;have S0:=@Yh ((runT l i args 0).err=0) (rfl);go_wp2_with fail;go_loopw [11,12,56] (fun v11 v12 v56 wr=>∃(c gi gcap:Nat) (so:Option Addr) (sc:Nat) (s:SS),c<=i+1/\v11=.slice (some ⟨gi,0,none⟩) c gcap/\v12=.slice so s.now.length sc/\v56=.int .i64 c/\Hi (runT l i args c=s)/\Hi (s.err=0)/\Hi (OwnK wr w3.heap.size (.slice (some ⟨gi,0,none⟩) c gcap) (valsI s.ins c))/\Hi (ARowS (lessS Sb gi w.heap.size) wr so s.now)/\Hi (s.now.length<=sc)/\Hi (Below w3.heap.size w3 wr)) (fun _ _ v _=>i+1-(intOf v).toNat)
   case atStart=>exact⟨0,w3.heap.size,0,ao,ac,runT l i args 0,Yl _,rfl,(by(show Value.slice ao n ac=.slice ao l.length ac;rw[HN.o])),rfl,Yh rfl,S0,O0,A0,Yh BE.o,BQ⟩
   case round =>
    obtain⟨c,gi,gcap,so,sc,s,hc,rfl,rfl,rfl,HRUN,HERR,HO,HNOW,HSC,HB3⟩:=hrel;obtain⟨wr0,hwr0⟩:∃wr0,wr0=wr:=⟨_,rfl⟩
    subst hwr0;have Ab:=@Yh (Inv l i c s) (by rw[<-HRUN.o];exact Zh1 As.o AW.o A6.o (Int.not_lt.2 Ak.o) c hc (by rw[HRUN.o];exact HERR.o));have Ar:=YT B3 HB3.o
    by_cases hcl:c<i+1
    ·have Ay:c<l.length:=by rw[HN.o];omega
     have Ca:(c:Int)<(i:Int)+1:=by omega
     obtain⟨lb,lof,rfl,hlb,hlcell⟩:=Bm.o.cells (by omega);have Bp:=hlcell c Ay;have A4:=@Yh (funT l c=l[c]) (Z3 Ay);have Bq:=Yh (fun h=>Z02 As.o Ay h);have Br:=Yh (fun h=>ZW9 As.o Ay h);have Az:=Yh (fun k (hk:k∈l[c].kids)=>Zn As.o Ay k hk);obtain⟨x,hx⟩:=Yn (l[c]);rw[hx]at Bp A4 Bq Br Az;obtain⟨xw,xwc,xk,xkc,a0',a1',a2',a3',a4',hwc,hkc,hxc⟩:=Bp;have a0:=(Ar.o.cell hlb).trans a0';have a1:=(Ar.o.cell hlb).trans a1';have a2:=(Ar.o.cell hlb).trans a2';have a3:=(Ar.o.cell hlb).trans a3';have a4:=(Ar.o.cell hlb).trans a4';obtain⟨wn,hwn,kx,qx,zx⟩:=YA wr0 #[.int .i64 x.kind,.string x.name,.int .i64 x.n,.slice xw x.words.length xwc,.slice xk x.kids.length xkc] 50;obtain⟨c0,c1,c2,c3,c4⟩:=cell5 kx;have KX:=Yh kx;have QX:=Yh qx;have BN:=YT Ar qx;have Am:=YT HB3 qx;have AY:=Yh hxc;have AZ:=Yh hxc.o;have BR:=Yh (YH hwc hkc);have ON:=@Yh (OwnK wn w3.heap.size (.slice (some ⟨gi,0,none⟩) c gcap) (valsI s.ins c)) (Zr0 HO.o qx);have AN:=Yh (HNOW.o.same (SameS.below qx));have cp:=(Am.o.cell (p:=⟨pg,c,none⟩) BO.o).trans (Bo.o c hcl);obtain⟨ob',oof',eo,-,hocell⟩:=Ax.o.cells (by rw[Zg];omega)
     injection eo with eo
     injection eo with eo1 eo2
     subst eo1;subst eo2;have cq:=(Am.o.cell (p:=⟨ob,oof+c,none⟩) BP.o).trans (hocell c (by rw[Zg];exact hcl));rw[ZD0 hcl]at cq;obtain⟨ndc,hndc⟩:=Yn (nd c);rw[hndc]at cp;have A2:=Yh hndc;obtain⟨azc,hazc⟩:=Yn (A c);rw[hazc]at cq;have A5:=Yh hazc;clear hx kx qx zx a0' a1' a2' a3' a4' hwc hkc hxc hlcell hndc hazc hocell
     cases ndc
     ·have HS:=Yh (show runT l i args (c+1)=⟨updI s.ins c c,s.now,0⟩from by
       rw[Zw,HRUN.o,Aa.o,Al.o];exact Zb0 HERR.o (.inl A2.o))
      have AA:=@Yh ((wn).ownsRow w3.heap.size 3 1 (.slice (some ⟨gi,0,none⟩) c gcap) c (intC (valsI s.ins c))) (ZW0 ON.o);have B0:=@Yh (w3.heap.size<=(wn).heap.size) (Am.o.size);go_wp2_with (at_builtin;refine wpList_append_own_at _ rfl _ _ 26 rfl w3.heap.size 3 k0 (.int .i64 0) 1 8 Tryz.underlying26 hki hk0 hk1 hk2 rfl (by decide) _ c (intC (valsI s.ins c)) rfl (AA.o.alloc _) ⟨(wn).heap.size,0,none⟩ 1 1 [.int .i64 (c:Int)] rfl ?p1 ?p2 ?p3 ?p4 ?p5 ?p6 ?_)
      case p3=>rfl
      case p4=>unfold maxLen;omega
      case p5=>omega
      case p6=>have:=B0.o;simp;omega
      intro v' w9 hown9 hgrow9 _ hblk9;have Ac:=Yh (Ze1 (v:=(c:Int)) ON.o AN.o Am.o hown9 hgrow9 (by simpa [Value.ownBlock] using hblk9));clear hown9 hgrow9 hblk9 AA;obtain⟨gi',gcap',ev',O9,A9,B9⟩:=Ac.o;subst ev';have Ad:=Yh O9;have Ae:=Yh A9;have Af:=Yh B9;clear O9 A9 B9;go_wp2_with fail;go_roundw
      case rel=>exact⟨c+1,gi',gcap',so,sc,⟨updI s.ins c (c:Int),s.now,0⟩,by omega,rfl,rfl,by go_num,HS,Yh rfl,Ad,Ae,HSC,Af⟩
      case measure=>first|(simp[intOf];done)|(simp[intOf];omega)
     ·by_cases hz:azc=0
      ·have HS:=Yh (show runT l i args (c+1)=⟨updI s.ins c c,s.now,0⟩from by
        rw[Zw,HRUN.o,Aa.o,Al.o];exact Zb0 HERR.o (.inr (by rw[A5.o];exact hz)))
       subst hz;have AB:=@Yh ((wn).ownsRow w3.heap.size 3 1 (.slice (some ⟨gi,0,none⟩) c gcap) c (intC (valsI s.ins c))) (ZW0 ON.o);have B4:=@Yh (w3.heap.size<=(wn).heap.size) (Am.o.size);go_wp2_with (at_builtin;refine wpList_append_own_at _ rfl _ _ 26 rfl w3.heap.size 3 k0 (.int .i64 0) 1 8 Tryz.underlying26 hki hk0 hk1 hk2 rfl (by decide) _ c (intC (valsI s.ins c)) rfl (AB.o.alloc _) ⟨(wn).heap.size,0,none⟩ 1 1 [.int .i64 (c:Int)] rfl ?q1 ?q2 ?q3 ?q4 ?q5 ?q6 ?_)
       case q3=>rfl
       case q4=>unfold maxLen;omega
       case q5=>omega
       case q6=>have:=B4.o;simp;omega
       intro v' w9 hown9 hgrow9 _ hblk9;have Ac:=Yh (Ze1 (v:=(c:Int)) ON.o AN.o Am.o hown9 hgrow9 (by simpa [Value.ownBlock] using hblk9));clear hown9 hgrow9 hblk9 AB;obtain⟨gi',gcap',ev',O9,A9,B9⟩:=Ac.o;subst ev';have Ad:=Yh O9;have Ae:=Yh A9;have Af:=Yh B9;clear O9 A9 B9;go_wp2_with fail;go_roundw
       case rel=>exact⟨c+1,gi',gcap',so,sc,⟨updI s.ins c (c:Int),s.now,0⟩,by omega,rfl,rfl,by go_num,HS,Yh rfl,Ad,Ae,HSC,Af⟩
       case measure=>first|(simp[intOf];done)|(simp[intOf];omega)
      ·have Cb:(azc==0)=false:=by rw[Yc];exact hz
       by_cases h9:x.kind=9
       ·have BS:(x.kind==9)=true:=by rw[YK];exact h9
        have Bs:=ZQ1 As.o AW.o (i:=i) (c:=c) (by omega) (by rw[Aa.o];exact A2.o) (by rw[A4.o];exact h9) (args:=args) (Int.not_lt.2 Ak.o);rw[A4.o]at Bs;obtain⟨N,hN⟩:∃N:Nat,x.n=(N:Int):=⟨x.n.toNat,by omega⟩
        have B5:N<args.length:=by omega
        have HS:=Yh (show runT l i args (c+1)=⟨updI s.ins c (args.getD N 0),s.now,0⟩from by
         rw[Zw,HRUN.o,Aa.o,Al.o,Zx0 HERR.o A2.o (by rw[A5.o];exact hz) (by rw[A4.o];exact h9),A4.o,hN,Yw])
        obtain⟨gb,gof,rfl,hgb,hgcell⟩:=HG.o.cells (by omega);have cg:=(BN.o.cell (p:=⟨gb,gof+N,none⟩) hgb).trans (hgcell N B5);have BT:N<ga:=by rw[<-Aw.o];exact B5
        have Bt:(N:Int)<(ga:Int):=by omega
        obtain⟨vv,hvv⟩:=Yn (args.getD N 0);rw[hvv]at cg HS;rw[hN]at a2 c2 hwn;clear h9 hz hvv hgcell hgb hN Bs B5;have AC:=@Yh ((wn).ownsRow w3.heap.size 3 1 (.slice (some ⟨gi,0,none⟩) c gcap) c (intC (valsI s.ins c))) (ZW0 ON.o);have B6:=@Yh (w3.heap.size<=(wn).heap.size) (Am.o.size);go_wp2_with (at_builtin;refine wpList_append_own_at _ rfl _ _ 26 rfl w3.heap.size 3 k0 (.int .i64 0) 1 8 Tryz.underlying26 hki hk0 hk1 hk2 rfl (by decide) _ c (intC (valsI s.ins c)) rfl (AC.o.alloc _) ⟨(wn).heap.size,0,none⟩ 1 1 [.int .i64 vv] rfl ?r1 ?r2 ?r3 ?r4 ?r5 ?r6 ?_)
        case r3=>rfl
        case r4=>unfold maxLen;omega
        case r5=>omega
        case r6=>have:=B6.o;simp;omega
        intro v' w9 hown9 hgrow9 _ hblk9;have Ac:=Yh (Ze1 (v:=vv) ON.o AN.o Am.o hown9 hgrow9 (by simpa [Value.ownBlock] using hblk9));clear hown9 hgrow9 hblk9 AC;obtain⟨gi',gcap',ev',O9,A9,B9⟩:=Ac.o;subst ev';have Ad:=Yh O9;have Ae:=Yh A9;have Af:=Yh B9;clear O9 A9 B9;go_wp2_with fail;go_roundw
        case rel=>exact⟨c+1,gi',gcap',so,sc,⟨updI s.ins c vv,s.now,0⟩,by omega,rfl,rfl,by go_num,HS,Yh rfl,Ad,Ae,HSC,Af⟩
        case measure=>first|(simp[intOf];done)|(simp[intOf];omega)
       ·have BS:(x.kind==9)=false:=by rw[Yc];exact h9
        have Bu:=@Yh (w.heap.size<wr0.heap.size) (Yi K3.o.lt HB3.o.size)
        have Ag:=Yh (show ∀k∈x.kids,0<=k/\k<(c:Int)/\0<=s.ins k.toNat/\s.ins k.toNat<(s.now.length:Int)from fun k hk=>by
         have g:=Az.o k hk;have g2:=ZV0 (ZU As.o AW.o) (c:=c) (by omega) (by rw[Aa.o];exact A2.o) (by rw[A4.o];exact hk);have g3:=Ab.o.ins k.toNat (by omega) g2;exact⟨g.1,g.2,g3.1,g3.2⟩)
        have Cc:=(right_step Ab.o.right).1;have BU:=AZ.o.ok.kl;obtain⟨m,hm⟩:=Yn (x.kids.length);have HM:=Yh hm;rw[hm]at BU hwn c4 a4;have AD:=@Yh (BlockAt wn wr0.heap.size #[.int .i64 x.kind,.string x.name,.int .i64 x.n,.slice xw x.words.length xwc,.slice xk m xkc] 50) (by have:=KX.o;rwa [hm]at this);obtain⟨xb,hxb⟩:=Yn (wr0.heap.size);rw[hxb]at AD;have AQ:=Yh hxb;have BV:=@Yh (OwnK (wn.alloc (.cells #[] 3)) wn.heap.size (.slice (some ⟨wn.heap.size,0,none⟩) 0 0) ((x.kids.take 0).map fun k=>s.ins k.toNat)) (World.ownsRow_made wn #[] 0 (Yk _) (by unfold maxLen;omega) rfl);have Bv:=@Yh (Below wn.heap.size wn (wn.alloc (.cells #[] 3))) ((Y8 _ _).alloc (Yk _) _);obtain⟨nw,hnw⟩:=Yn (x.words.length);have Bw:=Yh hnw;rw[hnw]at AD hwn c3 a3;have AE:=Yh hz;have AF:=Yh h9;clear hm hnw h9 hz;rw[hxb]at c0 c1 c2 c3 c4;have d4:=(Bv.o.cell (p:=⟨xb,4,none⟩) AD.o.lt).trans c4;go_wp2_with fail;clear hwn a0 a1 a2 a3 a4 c0 c1 c2 c3 c4 d4 cp cq hxb;go_loopw [15,92] (fun v15 v wq=>∃q:Nat,q<=m/\v=.int .i64 q/\Hi (OwnK wq wn.heap.size v15 ((x.kids.take q).map fun k=>s.ins k.toNat))/\Hi (Below wn.heap.size wn wq)) (fun _ v _=>m-(intOf v).toNat)
        case atStart=>exact⟨0,Yl _,rfl,BV,Bv⟩
        case round =>
         obtain⟨q,hq,rfl,HQ,HBQ⟩:=hrel
         by_cases hql:q<m
         ·have AR:q<x.kids.length:=by rw[HM.o];exact hql
          obtain⟨kb,kof,rfl,hkb,hkcell⟩:=AZ.o.kids.cells (by omega);have ck:=((YU BN HBQ.o).cell (p:=⟨kb,kof+q,none⟩) hkb).trans (hkcell q AR);obtain⟨g1,g2,g3,g4⟩:=Ag.o _ (Zd AR)
          have AG:(x.kids.take (q+1)).map (fun k=>s.ins k.toNat)=(x.kids.take q).map (fun k=>s.ins k.toNat)++[s.ins (x.kids.getD q 0).toNat]:=by
           rw[List.take_succ_eq_append_getElem AR,Yu,Z3 AR]
           rfl
          obtain⟨z,hz⟩:∃z:Nat,x.kids.getD q 0=(z:Int):=⟨(x.kids.getD q 0).toNat,by omega⟩
          rw[hz]at ck g2 AG;rw[Yw]at AG;have Bx:z<c:=by omega
          have Cd:(z:Int)<(c:Int):=by omega
          obtain⟨_,_,eo,hir,-⟩:=Zi ON.o
          injection eo with eo en1 en2
          subst eo;clear en1 en2;obtain⟨ib,iof,ei,hib,hicell⟩:=hir.cells (by rw[Zg];omega)
          injection ei with ei
          injection ei with ei1 ei2
          subst ei1;subst ei2;have cv:=(HBQ.o.cell (p:=⟨gi,0+z,none⟩) hib).trans (hicell z (by rw[Zg];exact Bx));rw[ZD0 Bx,Nat.zero_add]at cv;obtain⟨vz,hvz⟩:=Yn (s.ins z);rw[hvz]at cv AG;have Ah:=Yh AG;have AS:((x.kids.take q).map fun k=>s.ins k.toNat).length=q:=by rw[Yg,Y5];omega
          obtain⟨zs,hzs⟩:=Yn (((x.kids.take q).map fun k=>s.ins k.toNat));rw[hzs]at HQ Ah AS;have BW:=@Yh (wr.ownsRow wn.heap.size 3 1 _ q (intC zs)) (by have h:=HQ.o;unfold OwnK at h;rw[AS]at h;exact h);have BX:=Yh AS;have B7:=Yh HBQ.o.size;clear hz hvz hzs AS AG hkcell hkb hir hib hicell g1 g3 g4;go_wp2_with (at_builtin;refine wpList_append_own_at _ rfl _ _ 26 rfl wn.heap.size 3 k0 (.int .i64 0) 1 8 Tryz.underlying26 hki hk0 hk1 hk2 rfl (by decide) _ q (intC zs) rfl (BW.o.alloc _) ⟨wr.heap.size,0,none⟩ 1 1 [.int .i64 vz] rfl ?s1 ?s2 ?s3 ?s4 ?s5 ?s6 ?_)
          case s3=>rfl
          case s4=>unfold maxLen;omega
          case s5=>omega
          case s6=>have:=B7.o;simp;omega
          intro v' w9 hown9 hgrow9 _ hblk9;have HP:=Yh (Z03 (z:=vz) HQ.o HBQ.o (by rw[BX.o];exact hown9) hgrow9);clear hown9 hgrow9 hblk9;go_wp2_with fail;go_roundw
          case rel=>exact⟨q+1,by omega,by go_num,Yh (by rw[Ah.o];exact HP.o.1),Yh HP.o.2⟩
          case measure=>first|(simp[intOf];done)|(simp[intOf];omega)
         ·obtain rfl:q=m:=by omega
          obtain⟨wq,hwq⟩:∃wq,wq=wr:=⟨_,rfl⟩
          subst hwq
          have By:((x.kids.take q).map fun k=>s.ins k.toNat)=(swapT x s.ins).kids:=by
           rw[Y3 (by rw[HM.o];exact Yk _)]
           rfl
          rw[By]at HQ;have At:=@Yh ((swapT x s.ins).kids.length=q) (by show(List.map _ _).length=q;rw[Yg];exact HM.o);obtain⟨ko2,kc2,rfl,hkr,hkc2⟩:=Zi HQ.o;have BY:=Yh hkr;rw[At.o]at hkc2 ⊢;have BZ:=@Yh (∀a,ko2=some a->wn.heap.size<=a.block) (fun a ha=>by subst ha;exact(World.ownsRow.lt HQ.o a.block rfl).1);have M:=AD.o.below HBQ.o;obtain⟨e0,e1,e2,e3,e4⟩:=cell5 M;have f4:=M.free 4;obtain⟨w8,h8⟩:=Yn (wq.setCell ⟨xb,4,none⟩ (.slice ko2 q kc2));have K8:=@Yh (BlockAt w8 xb #[.int .i64 x.kind,.string x.name,.int .i64 x.n,.slice xw nw xwc,.slice ko2 q kc2] 50) (by rw[<-h8];exact M.set 4 _)
          have An:=Yh (show w.heap.size<=w3.heap.size/\w3.heap.size<=xb/\gi<xb/\w3.heap.size<=gi/\xb<wn.heap.size from by
           have g1:=B3.o.size;have g2:=HB3.o.size;have g3:=AQ.o;have g4:=World.ownsRow.lt (ZW0 HO.o) gi rfl;have g5:=AD.o.lt
           omega)
          have AU:=@Yh (Below wr0.heap.size wr0 w8) (by rw[<-h8];exact((YU QX HBQ.o).setCell (p:=⟨xb,4,none⟩) (Nat.le_of_eq AQ.o) _));have Bz:=YT HB3 AU.o;have B8:=YT B3 Bz.o;have A8:=Yh (HNOW.o.same (SameS.below AU.o))
          have Ba:=Yh (show ∀k∈(swapT x s.ins).kids,0<=k/\k<(s.now.length:Int)from fun k hk=>by
           obtain⟨k1,h1,rfl⟩:=Y4.1 hk;exact⟨(Ag.o k1 h1).2.2.1,(Ag.o k1 h1).2.2.2⟩)
          have AV:=Yh (show TyCS (lessS Sb gi w.heap.size) w8 xw ko2 (swapT x s.ins)from⟨by
           rcases AY.o.words with g|⟨b,off,e,l1,nS,cc⟩
           ·exact .inl g
           ·exact .inr ⟨b,off,e,Yi l1 B8.o.size,⟨nS,by have:=An.o;omega,by omega⟩,fun j hj=>(B8.o.cell (p:=⟨b,off+j,none⟩) l1).trans (cc j hj)⟩,by
           rcases BY.o with g|⟨b,off,e,l1,cc⟩
           ·exact .inl g
           ·have hb:=BZ.o _ e
            have hb:wn.heap.size<=b:=hb;refine .inr ⟨b,off,e,?_,⟨Av.o b (by have:=An.o;omega),by have:=An.o;omega,by have:=An.o;omega⟩,fun j hj=>?_⟩
            ·rw[<-h8];simpa [World.setCell] using l1
            ·rw[<-cc j hj,<-h8]
             exact World.cell?_of_block (a:=⟨b,off+j,none⟩) (Y9 _ _ _ _ (by have:=An.o;first|(show xb≠b;omega)|(show b≠xb;omega))),ZX8 AZ.o.ok (fun k hk=>by have:=Ag.o k hk;omega)⟩)
          have AH:=@Yh ((swapT x s.ins).words.length<=xwc/\(swapT x s.ins).kids.length<=kc2) (⟨BR.o.1,by rw[At.o];exact hkc2⟩);obtain⟨x0,x1,x2,x3,x4⟩:=cell5 K8.o;clear M hkr hkc2 By
          by_cases h7:x.kind=7
          ·have C0:(x.kind==7)=true:=by rw[YK];exact h7
           have AI:=@Yh ((swapT x s.ins).words.length=(swapT x s.ins).kids.length) (by rw[At.o];exact(Bq.o h7).trans HM.o);have C1:=@Yh ((swapT x s.ins).name=⟨#[]⟩) (Br.o h7);have A7:=Zn9 s.now so sc (swapT x s.ins) xw ko2 xwc kc2 w8 A8.o.o AV.o.o AI.o Ba.o (by omega);obtain⟨od,hod⟩:=Yn (oddT s.now (swapT x s.ins));obtain⟨tt,htt⟩:=Yn (tidyT s.now.length (swapT x s.ins));have BA:=@Yh (TyOk tt) (by rw[<-htt];exact Z59 (L:=s.now.length) AV.o.ok (by omega) Ba.o);have Ah:=@Yh (tt.kind=x.kind/\tt.name=x.name/\tt.n=x.n) (by rw[<-htt];exact⟨rfl,rfl,rfl⟩);have Ai:=Yh (YH (fun ho:od=true=>ZJ5 (l:=s.now) (t:=x) (I:=s.ins) ⟨h7,by rw[hod];exact ho⟩) (fun ho:od=false=>show addT s.now tt=putT s.now x s.ins from by unfold putT;rw[if_pos h7,if_neg (by rw[hod,ho];simp),htt]));have Bb:(swapT x s.ins).words.length=nw:=Bw.o;rw[hod]at A7;unfold tyV at A7;rw[At.o,Bb]at A7;have AJ:Calls Tryz.prog 118 #[.slice so s.now.length sc,.agg #[.int .i64 x.kind,.string x.name,.int .i64 x.n,.slice xw nw xwc,.slice ko2 q kc2]] w8 (fun e w'=>e=.returned (.bool od)/\Below w8.heap.size w8 w'):=A7;have C2:=Yh AJ
           have C3:=Yh (fun W (hb:Below w8.heap.size w8 W)=>show Calls Tryz.prog 119 #[.slice so s.now.length sc,.agg #[.int .i64 x.kind,.string x.name,.int .i64 x.n,.slice xw nw xwc,.slice ko2 q kc2]] W (TermsR W tt)from by
            have h:=Zp8 s.now so sc (swapT x s.ins) xw ko2 xwc kc2 W (AV.o.o.below hb) AI.o C1.o Ba.o (by omega);unfold tyV at h;rw[At.o,Bb,htt]at h;exact h)
           clear A7 AJ hod htt Bb h7;go_wp2_with fail;refine C2.o.mono ?_;intro e wo8 hres;obtain⟨ee,bo8⟩:=hres;subst ee;have Bc:=Yh bo8;have C4:=YT B8 bo8;have MO:=K8.o.below bo8;obtain⟨y0,y1,y2,y3,y4⟩:=cell5 MO;have BB:=Yh MO;clear bo8 MO x0 x1 x2 x3 x4 e0 e1 e2 e3 e4 f4 h8
           cases od
           ·have Bd:=Yh (Ai.o.2 rfl)
            go_wp2_with fail;refine(C3.o _ Bc.o).mono ?_;intro e wT hres;obtain⟨aT,bT,acT,bcT,ee,g1,g2,r1,r2,n1,n2,bt⟩:=hres;subst ee;have MT:=BB.o.below bt;obtain⟨z0,z1,z2,z3,z4⟩:=cell5 MT;have f0:=MT.free 0;have f1:=MT.free 1;have f2:=MT.free 2;have f3:=MT.free 3;have C5:=MT.free 4;obtain⟨lW,hlW⟩:=Yn (tt.words.length);obtain⟨lK,hlK⟩:=Yn (tt.kids.length);unfold tyV;rw[Ah.o.1,Ah.o.2.1,Ah.o.2.2,hlW,hlK];obtain⟨wF,hF⟩:=Yn ((((((wT.setCell ⟨xb,0,none⟩ (.int .i64 x.kind)).setCell ⟨xb,1,none⟩ (.string x.name)).setCell ⟨xb,2,none⟩ (.int .i64 x.n)).setCell ⟨xb,3,none⟩ (.slice aT lW acT)).setCell ⟨xb,4,none⟩ (.slice bT lK bcT)))
            have Be:=Yh (show Below wr0.heap.size wr0 wF from by
             have h1:=YU AU Bc.o;have h2:=h1.trans (bt.mono h1.size);rw[<-hF];exact Zc0 h2 (Nat.le_of_eq AQ.o) _ _ _ _ _)
            have HF:=Yh hF;have Au:=@Yh (xb<wo8.heap.size/\gi<wo8.heap.size/\w.heap.size<wo8.heap.size) (by have:=BB.o.lt;have:=An.o;omega);have nA:∀a,aT=some a->a.block≠xb:=fun a ha=>by have:=n1 a ha;have:=Au.o;omega
            have nB:∀a,bT=some a->a.block≠xb:=fun a ha=>by have:=n2 a ha;have:=Au.o;omega
            have BC:=@Yh (TyC wF aT bT tt) (⟨by rw[<-hF];exact ZG (ZG (ZG (ZG (ZG r1 nA) nA) nA) nA) nA,by rw[<-hF];exact ZB (ZB (ZB (ZB (ZB r2 nB) nB) nB) nB) nB,BA.o⟩)
            have C6:=Yh (show TyCS (lessS Sb gi w.heap.size) wF aT bT tt from⟨by
             rcases BC.o.words with g|⟨b,off,e,l1,cc⟩
             ·exact .inl g
             ·have:=n1 _ e
              have:=Au.o;exact .inr ⟨b,off,e,l1,(by have h:wo8.heap.size<=b:=n1 _ e;have h2:=Au.o;exact⟨Av.o b (by omega),by omega,by omega⟩),cc⟩,by
             rcases BC.o.kids with g|⟨b,off,e,l1,cc⟩
             ·exact .inl g
             ·have:=Au.o
              exact .inr ⟨b,off,e,l1,(by have h:wo8.heap.size<=b:=n2 _ e;have h2:=Au.o;exact⟨Av.o b (by omega),by omega,by omega⟩),cc⟩,BA.o⟩)
            have A1:=Z25 (lessS Sb gi w.heap.size) s.now so sc tt aT bT acT bcT wF (ZA7 Av.o (by have h1:=An.o;have h0:=Bu.o;have h2:=AQ.o;have h3:=Be.o.size;omega)) (HNOW.o.same (SameS.below Be.o)) C6.o (by omega) HSC.o (by omega) g1 g2;rw[Bd.o]at A1;unfold tyV at A1;rw[Ah.o.1,Ah.o.2.1,Ah.o.2.2,hlW,hlK]at A1;have Bf:=Yh A1;clear MT g1 g2 r1 r2 n1 n2 nA nB y0 y1 y2 y3 y4 hlW hlK hF A1 bt;go_wp2_with fail;rw[HF.o];refine Bf.o.mono ?_;intro e w9 hres;obtain⟨ao9,cap9,ee,p1,p1l,b9⟩:=hres;subst ee;have A3:=Yh (fun h=>ZS1 (t:=x) (I:=s.ins) Ab.o.right h);obtain⟨M,pz,ez,hRR⟩:∃M pz ez,putT s.now x s.ins=(M,pz,ez):=⟨_,_,_,rfl⟩
            rw[hRR]at p1 p1l A3 ⊢;have AK:=Yh hRR;have P1:=Yh p1;have Bg:=Yh p1l;have Bh:=YT Be b9;obtain⟨wt,ht,kt,qt,zt⟩:=YA w9 #[.slice ao9 M.length cap9,.int .i64 pz,.int .i64 ez] 148;have AL:=YT Bh qt;have Aj:=YT HB3 AL.o;have Bi:=YT B3 Aj.o;have OT:=@Yh (OwnK wt w3.heap.size (.slice (some ⟨gi,0,none⟩) c gcap) (valsI s.ins c)) (Zr0 HO.o AL.o);have AT:=Yh (P1.o.same (SameS.below qt));obtain⟨t0',t1',t2'⟩:=cell3A kt;clear p1 b9 hRR kt qt zt z0 z1 z2 z3 z4 f0 f1 f2 f3 C5
            by_cases he:ez=0
            ·have Bj:(ez != 0)=false:=by simp[he]
             obtain⟨-,M',p,hpM,e',-,hR',-,-,-⟩:=A3.o he
             injection e' with e1' e2'
             injection e2' with e2' e3'
             subst e1';subst e2';have C7:=(right_step hR').1.2
             have HS:=Yh (show runT l i args (c+1)=⟨updI s.ins c p,M,0⟩from by
              rw[Zw,HRUN.o,Aa.o,Al.o,ZF0 HERR.o A2.o (by rw[A5.o];exact AE.o) (by rw[A4.o];exact AF.o) (by rw[A4.o,AK.o,he])])
             clear he hpM hR' e3';have AM:=@Yh ((wt).ownsRow w3.heap.size 3 1 (.slice (some ⟨gi,0,none⟩) c gcap) c (intC (valsI s.ins c))) (ZW0 OT.o);have Bk:=@Yh (w3.heap.size<=(wt).heap.size) (Aj.o.size);go_wp2_with (at_builtin;refine wpList_append_own_at _ rfl _ _ 26 rfl w3.heap.size 3 k0 (.int .i64 0) 1 8 Tryz.underlying26 hki hk0 hk1 hk2 rfl (by decide) _ c (intC (valsI s.ins c)) rfl (AM.o.alloc _) ⟨(wt).heap.size,0,none⟩ 1 1 [.int .i64 (p:Int)] rfl ?v1 ?v2 ?v3 ?v4 ?v5 ?v6 ?_)
             case v1=>rfl
             case v2=>exact Z9 _ _ _
             case v3=>exact fun v hv=>by rw[Yo.1 hv];rfl
             case v4=>unfold maxLen;omega
             case v5=>omega
             case v6=>have:=Bk.o;simp;omega
             intro v' w9 hown9 hgrow9 _ hblk9;have Ac:=Yh (Ze1 (v:=(p:Int)) OT.o AT.o Aj.o hown9 hgrow9 (by simpa [Value.ownBlock] using hblk9));clear hown9 hgrow9 hblk9 AM;obtain⟨gi',gcap',ev',O9,A9,B9⟩:=Ac.o;subst ev';have Ad:=Yh O9;have Ae:=Yh A9;have Af:=Yh B9;clear O9 A9 B9;go_wp2_with fail;go_roundw
             case rel=>exact⟨c+1,gi',gcap',ao9,cap9,⟨updI s.ins c (p:Int),M,0⟩,by omega,rfl,rfl,by go_num,HS,Yh rfl,Ad,Ae,Bg,Af⟩
             case measure=>first|(simp[intOf];done)|(simp[intOf];omega)
            ·have Bj:(ez != 0)=true:=by simp[he]
             have Hn:=Yh (show R=([],0,ez)by
              rw[<-HR.o];refine Ze2 (Int.not_lt.2 Ak.o) A6.o (ZU1 (c:=c+1) (e:=ez) ?_ he (by omega)) he
              show(runT l i args (c+1)).err=ez
              rw[Zw,HRUN.o,Aa.o,Al.o,Za0 HERR.o A2.o (by rw[A5.o];exact AE.o) (by rw[A4.o];exact AF.o) (by rw[A4.o];exact AK.o) he])
             obtain⟨⟨b0,b1,b2⟩,bf0,bf1,bf2⟩:=ZG1 (K3.o.below Aj.o);clear he;go_wp2_with fail;refine bodyPost_ret (v:=.agg #[.slice none 0 0,.int .i64 0,.int .i64 ez]) (by simp[results,Tryz.results93,go_sem,b0,b1,b2]) rfl ?_;rw[Hn.o];exact⟨none,0,rfl,.inl rfl,Yk _,Zq0 Bi.o (Yk _) _ _ _⟩
           ·have Bd:=Yh (Ai.o.1 rfl)
            have Hn:=Yh (show R=([],0,11)by
             rw[<-HR.o];refine Ze2 (Int.not_lt.2 Ak.o) A6.o (ZU1 (c:=c+1) (e:=11) ?_ (by decide) (by omega)) (by decide)
             show(runT l i args (c+1)).err=11
             rw[Zw,HRUN.o,Aa.o,Al.o,Za0 (l':=[]) (i':=0) (e':=11) HERR.o A2.o (by rw[A5.o];exact AE.o) (by rw[A4.o];exact AF.o) (by rw[A4.o];exact Bd.o) (by decide)])
            obtain⟨⟨b0,b1,b2⟩,bf0,bf1,bf2⟩:=ZG1 ((K3.o.below Bz.o).below Bc.o);go_wp2_with fail;refine bodyPost_ret (v:=.agg #[.slice none 0 0,.int .i64 0,.int .i64 11]) (by simp[results,Tryz.results93,go_sem,b0,b1,b2]) rfl ?_;rw[Hn.o];exact⟨none,0,rfl,.inl rfl,Yk _,Zq0 C4.o (Yk _) _ _ _⟩
          ·have C0:(x.kind==7)=false:=by rw[Yc];exact h7
           have Ai:=@Yh (addT s.now (swapT x s.ins)=putT s.now x s.ins) (by unfold putT;rw[if_neg h7]);have A1:=Z25 (lessS Sb gi w.heap.size) s.now so sc (swapT x s.ins) xw ko2 xwc kc2 w8 (ZA7 Av.o (by have:=An.o;have:=Bu.o;have:=K8.o.lt;omega)) A8.o AV.o (by omega) HSC.o (by omega) AH.o.1 AH.o.2;rw[Ai.o]at A1;unfold tyV at A1;rw[At.o]at A1
           have AO:Calls Tryz.prog 120 #[.slice so s.now.length sc,.agg #[.int .i64 x.kind,.string x.name,.int .i64 x.n,.slice xw nw xwc,.slice ko2 q kc2]] w8 (AddRS (lessS Sb gi w.heap.size) w8 (putT s.now x s.ins)):=by
            have e:(swapT x s.ins).words.length=nw:=Bw.o;rw[e]at A1;exact A1
           have Bf:=Yh AO;clear A1 AO h7;go_wp2_with fail;refine Bf.o.mono ?_;intro e w9 hres;obtain⟨ao9,cap9,ee,p1,p1l,b9⟩:=hres;subst ee;have A3:=Yh (fun h=>ZS1 (t:=x) (I:=s.ins) Ab.o.right h);obtain⟨M,pz,ez,hRR⟩:∃M pz ez,putT s.now x s.ins=(M,pz,ez):=⟨_,_,_,rfl⟩
           rw[hRR]at p1 p1l A3 ⊢;have AK:=Yh hRR;have P1:=Yh p1;have Bg:=Yh p1l;have Bh:=YT AU b9;obtain⟨wt,ht,kt,qt,zt⟩:=YA w9 #[.slice ao9 M.length cap9,.int .i64 pz,.int .i64 ez] 148;have AL:=YT Bh qt;have Aj:=YT HB3 AL.o;have Bi:=YT B3 Aj.o;have OT:=@Yh (OwnK wt w3.heap.size (.slice (some ⟨gi,0,none⟩) c gcap) (valsI s.ins c)) (Zr0 HO.o AL.o);have AT:=Yh (P1.o.same (SameS.below qt));obtain⟨t0',t1',t2'⟩:=cell3A kt;clear p1 b9 hRR kt qt zt x0 x1 x2 x3 x4 h8 e0 e1 e2 e3 e4 f4
           by_cases he:ez=0
           ·have Bj:(ez != 0)=false:=by simp[he]
            obtain⟨-,M',p,hpM,e',-,hR',-,-,-⟩:=A3.o he
            injection e' with e1' e2'
            injection e2' with e2' e3'
            subst e1';subst e2';have C7:=(right_step hR').1.2
            have HS:=Yh (show runT l i args (c+1)=⟨updI s.ins c p,M,0⟩from by
             rw[Zw,HRUN.o,Aa.o,Al.o,ZF0 HERR.o A2.o (by rw[A5.o];exact AE.o) (by rw[A4.o];exact AF.o) (by rw[A4.o,AK.o,he])])
            clear he hpM hR' e3';have AP:=@Yh ((wt).ownsRow w3.heap.size 3 1 (.slice (some ⟨gi,0,none⟩) c gcap) c (intC (valsI s.ins c))) (ZW0 OT.o);have Bl:=@Yh (w3.heap.size<=(wt).heap.size) (Aj.o.size);go_wp2_with (at_builtin;refine wpList_append_own_at _ rfl _ _ 26 rfl w3.heap.size 3 k0 (.int .i64 0) 1 8 Tryz.underlying26 hki hk0 hk1 hk2 rfl (by decide) _ c (intC (valsI s.ins c)) rfl (AP.o.alloc _) ⟨(wt).heap.size,0,none⟩ 1 1 [.int .i64 (p:Int)] rfl ?u1 ?u2 ?u3 ?u4 ?u5 ?u6 ?_)
            case u1=>rfl
            case u2=>exact Z9 _ _ _
            case u3=>exact fun v hv=>by rw[Yo.1 hv];rfl
            case u4=>unfold maxLen;omega
            case u5=>omega
            case u6=>have:=Bl.o;simp;omega
            intro v' w9 hown9 hgrow9 _ hblk9;have Ac:=Yh (Ze1 (v:=(p:Int)) OT.o AT.o Aj.o hown9 hgrow9 (by simpa [Value.ownBlock] using hblk9));clear hown9 hgrow9 hblk9 AP;obtain⟨gi',gcap',ev',O9,A9,B9⟩:=Ac.o;subst ev';have Ad:=Yh O9;have Ae:=Yh A9;have Af:=Yh B9;clear O9 A9 B9;go_wp2_with fail;go_roundw
            case rel=>exact⟨c+1,gi',gcap',ao9,cap9,⟨updI s.ins c (p:Int),M,0⟩,by omega,rfl,rfl,by go_num,HS,Yh rfl,Ad,Ae,Bg,Af⟩
            case measure=>first|(simp[intOf];done)|(simp[intOf];omega)
           ·have Bj:(ez != 0)=true:=by simp[he]
            have Hn:=Yh (show R=([],0,ez)by
             rw[<-HR.o];refine Ze2 (Int.not_lt.2 Ak.o) A6.o (ZU1 (c:=c+1) (e:=ez) ?_ he (by omega)) he
             show(runT l i args (c+1)).err=ez
             rw[Zw,HRUN.o,Aa.o,Al.o,Za0 HERR.o A2.o (by rw[A5.o];exact AE.o) (by rw[A4.o];exact AF.o) (by rw[A4.o];exact AK.o) he])
            obtain⟨⟨b0,b1,b2⟩,bf0,bf1,bf2⟩:=ZG1 (K3.o.below Aj.o);clear he;go_wp2_with fail;refine bodyPost_ret (v:=.agg #[.slice none 0 0,.int .i64 0,.int .i64 ez]) (by simp[results,Tryz.results93,go_sem,b0,b1,b2]) rfl ?_;rw[Hn.o];exact⟨none,0,rfl,.inl rfl,Yk _,Zq0 Bi.o (Yk _) _ _ _⟩
    ·obtain rfl:c=i+1:=by omega
     have C8:=@Yh (R=(s.now,s.ins i,0)) (by rw[<-HR.o];exact ZO4 (Int.not_lt.2 Ak.o) A6.o HRUN.o HERR.o);obtain⟨⟨b0,b1,b2⟩,bf0,bf1,bf2⟩:=ZG1 (K3.o.below HB3.o);obtain⟨_,_,eo,hir,-⟩:=Zi HO.o
     injection eo with eo en1 en2
     subst eo;clear en1 en2;obtain⟨ib,iof,ei,hib,hicell⟩:=hir.cells (by rw[Zg];omega)
     injection ei with ei
     injection ei with ei1 ei2
     subst ei1;subst ei2;have cv:=hicell i (by rw[Zg];omega);rw[ZD0 (by omega),Nat.zero_add]at cv;have Ce:(i:Int)<((i+1:Nat):Int):=by omega
     clear hicell hib hir;go_wp2_with fail;refine bodyPost_ret (v:=.agg #[.slice so s.now.length sc,.int .i64 (s.ins i),.int .i64 0]) (by simp[results,Tryz.results93,go_sem,b0,b1,b2]) rfl ?_;rw[C8.o];exact⟨so,sc,rfl,Zs1 (HNOW.o.same (((SameS.set (fun g=>g.2.2 rfl) rfl).trans (SameS.set (fun g=>g.2.2 rfl) rfl)).trans (SameS.set (fun g=>g.2.2 rfl) rfl))) (fun b _ g=>g.1),HSC.o,Zq0 Ar.o (Yk _) _ _ _⟩
def TRes(Sb:Nat->Prop)(w:World)(R:Un×Int×List Mt×Int)(e:Ending)(w':World):Prop:=∃ao no ac nc mo mc,e=.returned (.agg #[.slice ao R.1.types.length ac,.slice no R.1.named.length nc,.int .i64 R.2.1,.slice mo R.2.2.1.length mc,.int .i64 R.2.2.2])/\UnS Sb w' ao no ac nc R.1/\MRowS Sb w' mo R.2.2.1/\R.2.2.1.length<=mc/\Below w.heap.size w w'
theorem Zk0{Sb:Nat->Prop}{b:Nat}(hb:¬Sb b)(w:World)(v0 v1 v2 v3 v4:Value):SameS Sb w (((((w.setCell ⟨b,0,none⟩ v0).setCell ⟨b,1,none⟩ v1).setCell ⟨b,2,none⟩ v2).setCell ⟨b,3,none⟩ v3).setCell ⟨b,4,none⟩ v4):=
 ((((SameS.set hb rfl).trans (SameS.set hb rfl)).trans (SameS.set hb rfl)).trans (SameS.set hb rfl)).trans (SameS.set hb rfl)
theorem Zh{W w:World}{b:Nat}(h:Below W.heap.size W w)(hb:W.heap.size<=b)(v0 v1 v2 v3 v4:Value):Below W.heap.size W (((((w.setCell ⟨b,0,none⟩ v0).setCell ⟨b,1,none⟩ v1).setCell ⟨b,2,none⟩ v2).setCell ⟨b,3,none⟩ v3).setCell ⟨b,4,none⟩ v4):=((((h.setCell hb _).setCell hb _).setCell hb _).setCell hb _).setCell hb _
theorem ZD{w:World}{b:Nat}{a0 a1 a2 a3 a4:Value}{T:TypeId}(h:BlockAt w b #[a0,a1,a2,a3,a4] T):(w.cell? ⟨b,0,none⟩=some a0/\w.cell? ⟨b,1,none⟩=some a1/\w.cell? ⟨b,2,none⟩=some a2/\w.cell? ⟨b,3,none⟩=some a3/\w.cell? ⟨b,4,none⟩=some a4)/\(w.frozen? ⟨b,0,none⟩=false/\w.frozen? ⟨b,1,none⟩=false/\w.frozen? ⟨b,2,none⟩=false/\w.frozen? ⟨b,3,none⟩=false/\w.frozen? ⟨b,4,none⟩=false):=
 ⟨cell5 h,h.free 0,h.free 1,h.free 2,h.free 3,h.free 4⟩
theorem ZW6{Sb:Nat->Prop}{w w':World}{e:Int}(hb:Below w.heap.size w w'):TRes Sb w (noUn,0,[],e) (.returned (.agg #[.slice none 0 0,.slice none 0 0,.int .i64 0,.slice none 0 0,.int .i64 e])) w':=
 ⟨none,none,0,0,none,0,rfl,Zj0 _ _,.inl rfl,Yk _,hb⟩
def withR(u:Un)(i:Int)(ks:List Int):Un×Int×List Mt×Int:=((withU u i ks).1,(withU u i ks).2.1,[],(withU u i ks).2.2)
theorem ZMd{l:List Ty}(hr:rightT l=true){i:Int}(h:inL l i=true)(ks:List Int)(h0:(substT l i.toNat ks).2.2=0):(substT l i.toNat ks).1.length<=400:=by
 rw[<-Zz5 hr h]at h0 ⊢;exact ZK7 _ _ _ h0
set_option maxRecDepth 100000 in
theorem ZX3(Sb:Nat->Prop)(u:Un)(ao no:Option Addr)(ac nc:Nat)(i:Int)(ks:List Int)(go:Option Addr)(gc:Nat)(w:World)(hSb:∀b,w.heap.size<=b->Sb b)(hU:UnS Sb w ao no ac nc u)(hr:rightT u.types=true)(hi:inL u.types i=true)(hg:IRow w go ks)(hgl:ks.length<=1000)(hg6:∀a∈ks,-9223372036854775808<=a/\a<=9223372036854775807) :
  Calls Tryz.prog 77 #[unV u ao ac no nc,.int .i64 i,.slice go ks.length gc] w (TRes Sb w (withR u i ks)):=by
 obtain⟨w1,h1,k1,q1,z1⟩:=YA w #[.slice ao u.types.length ac,.slice no u.named.length nc] 25;obtain⟨w2,h2,k2,q2,z2⟩:=YA w1 #[.slice none 0 0,.slice none 0 0,.int .i64 0,.slice none 0 0,.int .i64 0] 117;have B2:=Yh (q1.trans (q2.mono q1.size));have HU:=Yh ((ZM hU (c:=w1.heap.size) (d:=w1.heap.size) ⟨q1.size,q1.size⟩).same (SameS.below B2.o));have Ab:=@Yh (∀b,w2.heap.size<=b->lessS Sb w1.heap.size w1.heap.size b) (fun b hb=>⟨hSb b (by omega),by omega,by omega⟩);have Ac:=@Yh (¬lessS Sb w1.heap.size w1.heap.size w1.heap.size) (fun g=>g.2.2 rfl);have A6:=@Yh (w.heap.size<=w1.heap.size) (by omega);have A0:=hi;unfold inL at A0;have A0:=Yf A0;have A3:=@Yh (withR u i ks=((withU u i ks).1,(withU u i ks).2.1,[],(withU u i ks).2.2)) (rfl);have A1:=@Yh (withU u i ks=if(substT u.types i.toNat ks).2.2≠0 then(noUn,0,(substT u.types i.toNat ks).2.2)else(⟨(substT u.types i.toNat ks).1,u.named⟩,(substT u.types i.toNat ks).2.1,0)) (rfl);have A4:=Yh (ZMd hr hi ks);obtain⟨z,rfl⟩:∃z:Nat,i=(z:Int):=⟨i.toNat,by omega⟩
 have A2:=ZX7 (lessS Sb w1.heap.size w1.heap.size) u.types ao ac z ks go gc w2 Ab.o HU.o.types hr hU.tc (by omega) (hg.below B2.o) hgl hg6;obtain⟨F,hF⟩:=Yn (withR u (z:Int) ks);rw[Yw]at A1 A4;rw[hF]at A3 ⊢;obtain⟨⟨M,p,ec⟩,hPS⟩:∃r,substT u.types z ks=r:=⟨_,rfl⟩
 rw[hPS]at A2 A4 A1;obtain⟨kl,hkl⟩:=Yn (ks.length);rw[hkl]at A2 ⊢;have HS:=Yh A2;have K1:=Yh (k1.below q2);have K2:=Yh k2;obtain⟨c0,c1⟩:=cell2 (k1.below q2);unfold unV;clear hF hPS hkl A2 k1 k2 q1 q2 z1 z2 hU hr hi A0 hg hgl hg6 hSb;go_enter Tryz.func77,Tryz.ntmps77;go_wp2_with fail;refine HS.o.mono ?_;rintro e w3 ⟨mo,mc,rfl,hM,hmc,b3⟩;have HM:=Yh hM;have Ad:=Yh hmc;have B3:=YT B2 b3;have A5:=Yh (K1.o.below b3);have A7:=Yh (K2.o.below b3);have Ae:=Yh (HU.o.named.same (SameS.below b3));clear hM hmc b3 c0 c1 h1 h2;obtain⟨w4,h4,k4,q4,z4⟩:=YA w3 #[.slice mo M.length mc,.int .i64 p,.int .i64 ec] 148;have B4:=YT B3 q4;have A8:=Yh (A7.o.below q4);have Af:=Yh (A5.o.below q4);have K4:=Yh k4;have Q4:=Yh q4;obtain⟨c0,c1⟩:=cell2 (A5.o.below q4);obtain⟨a0,a1,a2⟩:=cell3A k4;obtain⟨⟨e0,e1,e2,e3,e4⟩,f0,f1,f2,f3,f4⟩:=ZD A8.o;clear k4 q4 z4
 by_cases he:ec=0
 case neg =>
  have HF:=@Yh (F=(noUn,0,[],ec)) (by rw[A3.o,A1.o,if_pos he]);have hq:(ec != 0)=true:=by rw[YJ];exact he
  clear he;go_wp2_with fail
  try simp only[Exit.inBlock,Exit.then]
  refine bodyPost_ret (v:=.agg #[.slice none 0 0,.slice none 0 0,.int .i64 0,.slice none 0 0,.int .i64 ec]) ?_ rfl ?_
  ·simp[results,Tryz.results77,go_sem,e0,e1,e2,e3,e4]
  rw[HF.o];exact ZW6 (Zh B4.o A6.o _ _ _ _ _)
 subst he;have HF:=@Yh (F=(⟨M,u.named⟩,p,[],0)) (by rw[A3.o,A1.o,if_neg (fun g=>g rfl)]);have Ag:=Yh (A4.o rfl);have Ah:=@Yh (UnS (lessS Sb w1.heap.size w1.heap.size) w3 mo no mc nc ⟨M,u.named⟩) (⟨HM.o,Ae.o,by show M.length<=1000;have:=Ag.o;omega,HU.o.nl,Ad.o,HU.o.nc⟩);obtain⟨w5,h5⟩:=Yn (w4.setCell ⟨w3.heap.size,2,none⟩ (.int .i64 0));have Ai:=Yh (((Zf (T:=fun b=>lessS Sb w1.heap.size w1.heap.size b/\b≠w3.heap.size) Ah.o (fun b hb hs=>⟨hs,by omega⟩)).same (SameS.below Q4.o)).same (SameS.set (fun g=>g.2 rfl) h5));have Aj:=@Yh (¬(lessS Sb w1.heap.size w1.heap.size w1.heap.size/\w1.heap.size≠w3.heap.size)) (fun g=>Ac.o g.1);have K5:=ZI3 K4.o h5;have A9:=Z4 A8.o (show w1.heap.size≠w3.heap.size from by have:=A7.o.lt;omega) h5;have Aa:=Z4 Af.o (show w.heap.size≠w3.heap.size from by have:=A5.o.lt;omega) h5;have B5:=Yh (Z6 B4.o B3.o.size h5);have g0:=(cell3A K4.o).2.2;have g1:=K4.o.free 2;clear a0 a1 a2 c0 c1 e0 e1 e2 e3 e4 f0 f1 f2 f3 f4;obtain⟨a0,a1,a2⟩:=cell3A K5;obtain⟨c0,c1⟩:=cell2 Aa;obtain⟨⟨e0,e1,e2,e3,e4⟩,f0,f1,f2,f3,f4⟩:=ZD A9;have HX:=Yh (Zf (T:=Sb) (Ai.o.same (Zk0 Aj.o w5 (.slice mo M.length mc) (.slice no u.named.length nc) (.int .i64 p) (.slice none 0 0) (.int .i64 0))) (fun b _ g=>g.1.1));clear K5 Aa A9;go_wp2_with fail
 try simp only[Exit.inBlock,Exit.then]
 refine bodyPost_ret (v:=.agg #[.slice mo M.length mc,.slice no u.named.length nc,.int .i64 p,.slice none 0 0,.int .i64 0]) ?_ rfl ?_
 ·simp[results,Tryz.results77,go_sem,e0,e1,e2,e3,e4]
 rw[HF.o];exact⟨mo,no,mc,nc,none,0,rfl,HX.o,.inl rfl,Yk _,Zh B5.o A6.o _ _ _ _ _⟩
end Go.Proofs.YtdcajkagakikiaaGreatDoor
