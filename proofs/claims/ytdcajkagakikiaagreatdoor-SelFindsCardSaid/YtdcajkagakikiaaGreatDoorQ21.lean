import Derived.Test.YtdcajkagakikiaaGreatDoorQ20
namespace Go.Proofs.YtdcajkagakikiaaGreatDoor
set_option maxHeartbeats 64000000
set_option linter.unusedSimpArgs false
set_option linter.unusedVariables false
open Go.RowKit
theorem OwnM.base{w:World}{base c:Nat}{v:Value}{l:List Mt}(h:OwnM w base v l)(hc:c<=base):OwnM w c v l:=by
 obtain⟨h1,h2⟩:=h;refine⟨h1,?_⟩
 rcases h2 with h2|⟨g,cap,cur,e,hg,rest⟩
 ·exact .inl h2
 ·exact .inr ⟨g,cap,cur,e,Yj hc hg,rest⟩
theorem OwnM.keptS{w w':World}{base:Nat}{v:Value}{l:List Mt}(h:OwnM w base v l)(hb:Below w.heap.size w w'):OwnM w' base v l:=by
 obtain⟨h1,h2⟩:=h;refine⟨h1,?_⟩
 rcases h2 with h2|⟨g,cap,cur,rfl,hg,hcur,rest⟩
 ·exact .inl h2
 ·exact .inr ⟨g,cap,cur,rfl,hg,(show BlockAt w' g cur _ from BlockAt.below (show BlockAt w g cur _ from hcur) hb),rest⟩
theorem OwnM.otherS{w w':World}{base b j:Nat}{v u:Value}{l:List Mt}(h:OwnM w base v l)(hb:b<base)(h1:w.setCell ⟨b,j,none⟩ u=w'):OwnM w' base v l:=by
 subst h1;obtain⟨h1,h2⟩:=h;refine⟨h1,?_⟩
 rcases h2 with h2|⟨g,cap,cur,rfl,hg,hcur,rest⟩
 ·exact .inl h2
 ·exact .inr ⟨g,cap,cur,rfl,hg,(show BlockAt (w.setCell ⟨b,j,none⟩ u) g cur _ from BlockAt.other (show BlockAt w g cur _ from hcur) (by omega) j u),rest⟩
def MethN(Sb:Nat->Prop)(w:World)(base:Nat)(R:Un×List Mt×Int)(e:Ending)(w':World):Prop:=∃ao no ac nc lo lc,e=.returned (.tuple #[unV R.1 ao ac no nc,.slice lo R.2.1.length lc,.int .i64 R.2.2])/\UnS (offS Sb lo) w' ao no ac nc R.1/\MRowS Sb w' lo R.2.1/\R.2.1.length<=lc/\Below w.heap.size w w'/\(R.2.1=[]->OwnM w' base (.slice lo 0 lc) [])
set_option maxRecDepth 100000 in
theorem Z97(Sb:Nat->Prop)(u:Un)(ao no:Option Addr)(ac nc:Nat)(nm:Nm)(bo mo:Option Addr)(bc mc:Nat)(ks:List Int)(ko:Option Addr)(kc:Nat)(w:World)(hSb:∀b,w.heap.size<=b->Sb b)(hU:UnS Sb w ao no ac nc u)(hE:Env w)(hM:MRow w mo nm.methods)(hml:nm.methods.length<=1000)(hmc:nm.methods.length<=mc)(hg:IRow w ko ks)(hgl:ks.length<=1000)(hg6:∀a∈ks,-9223372036854775808<=a/\a<=9223372036854775807) :
  Calls Tryz.prog 116 #[unV u ao ac no nc,nmV nm bo bc mo mc,.slice ko ks.length kc] w (MethN Sb w w.heap.size (methF ks nm.methods u)):=by
 obtain⟨w1,h1,k1,q1,z1⟩:=YA w #[.slice ao u.types.length ac,.slice no u.named.length nc] 25;obtain⟨w2,h2,k2,q2,z2⟩:=YA w1 #[.string nm.name,.slice bo nm.bounds.length bc,.int .i64 nm.under,.slice mo nm.methods.length mc] 53;obtain⟨w3,h3,k3,q3,z3⟩:=YA w2 #[.slice none 0 0,.slice none 0 0] 25;have A8:=q1.trans (q2.mono q1.size);have B3:=Yh (A8.trans (q3.mono A8.size));have HU:=Yh ((ZM hU (c:=w.heap.size) (d:=w2.heap.size) ⟨Yk _,A8.size⟩).same (SameS.below B3.o));have An:=Yh hSb;have SZ:=@Yh (w.heap.size<w3.heap.size/\w2.heap.size<w3.heap.size/\w.heap.size<w2.heap.size/\w.heap.size<=w3.heap.size) (by have:=q2.size;omega);have HE:=Yh hE;have HG:=Yh hg;have Ao:=Yh (YH hgl hg6);have Ab:=ZI9 mo mc nm.methods w3 (hM.below B3.o) hml;obtain⟨F,hF⟩:=Yn (methF ks nm.methods u);have Ap:=@Yh (F=joinM [] (methF ks nm.methods u)) (by rw[join_nil,hF]);rw[hF];obtain⟨ms,hms⟩:=Yn (nm.methods);rw[hms]at Ab Ap h2 k2 hml hmc;obtain⟨n,hn⟩:=Yn (ms.length);have HN:=Yh hn;have HC:=Yh Ab;have K1:=Yh ((k1.below q2).below q3);have KN:=Yh (k2.below q3);have K2:=Yh k3;unfold unV nmV;rw[hms];obtain⟨c0,c1⟩:=cell2 K1.o;obtain⟨y0,y1,y2,y3⟩:=cell4 KN.o;clear k1 k2 k3 q1 q2 q3 A8 z1 z2 z3 hU hE hM hg hgl hg6 hSb Ab hF hms;rw[hn]at HC h2 y3 hml hmc ⊢;obtain⟨kl,A4⟩:=Yn (ks.length);have Au:=Yh A4;rw[A4];clear hn A4;go_enter Tryz.func116,Tryz.ntmps116;go_wp2_with fail;refine HC.o.mono ?_;rintro e w4 ⟨v,rfl,hO,b4⟩;obtain⟨lo,lc,rfl,hmb,hlc,hba⟩:=ZM0 hO;rw[HN.o]at hlc ⊢;have LC:=Yh hlc;have Ac:=Yh hba;have Ad:=Yh hmb;have B4:=YT B3 b4;have Ae:=Yh (K1.o.below b4);have Af:=Yh (K2.o.below b4);have Aq:=Yh ((Zf (T:=offS (lessS Sb w.heap.size w2.heap.size) lo) HU.o (fun b hb hs=>⟨hs,fun a ha=>by have:=Ac.o a ha;omega⟩)).same (SameS.below b4));have Av:=Yh b4.size
 have Ag:=Yh (show n=0->OwnM w4 w3.heap.size (.slice lo 0 lc) []from fun h=>by
  have e:ms=[]:=Yp (HN.o.trans h);have:=hO;rw[e]at this;exact this)
 clear hO b4 hmb hlc hba c0 c1 y0 y1 y2 y3 h1 h2 h3;obtain⟨ub,hub⟩:=Yn (w.heap.size);obtain⟨rb,hrb⟩:=Yn (w2.heap.size);obtain⟨base,hbs⟩:=Yn (w3.heap.size);have A2:=@Yh (w.heap.size=ub/\ub<base/\rb<base/\ub≠rb/\w.heap.size<=rb/\base<=w4.heap.size) (by have h1:=SZ.o;have h2:=Av.o;omega);have Aw:=@Yh (w.heap.size<=ub) (Nat.le_of_eq hub);have Ae:=@Yh (BlockAt w4 ub _ _) (by rw[<-hub];exact Ae.o);have Af:=@Yh (BlockAt w4 rb _ _) (by rw[<-hrb];exact Af.o);have Ad:=@Yh (MB w4 base lo ms) (by rw[<-hbs];exact Ad.o);have Ag:=@Yh (n=0->OwnM w4 base (.slice lo 0 lc) []) (by rw[<-hbs];exact Ag.o);obtain⟨S,hS⟩:=Yn (offS (lessS Sb w.heap.size w2.heap.size) lo);have A3:=@Yh (∀b,S b↔((Sb b/\b≠ub/\b≠rb)/\∀a,lo=some a->b≠a.block)) (fun b=>by rw[<-hS,<-hub,<-hrb];exact Iff.rfl);rw[hS]at Aq;rw[hub,hrb];clear hub hrb hbs hS K1 K2;have A9:=@Yh (¬S ub) (fun g=>((A3.o ub).1 g).1.2.1 rfl);have Ar:=@Yh (¬S rb) (fun g=>((A3.o rb).1 g).1.2.2 rfl);go_wp2_with fail;go_loopw [17] (fun i wr=>∃(k:Nat) (cu:Un) (ao1 no1:Option Addr) (ac1 nc1:Nat) (d:List Mt),k<=n/\i=.int .i64 k/\Hi (F=joinM d (methF ks (ms.drop k) cu))/\Hi (d.length=k)/\Hi (UnS S wr ao1 no1 ac1 nc1 cu)/\Hi (BlockAt wr ub #[.slice ao1 cu.types.length ac1,.slice no1 cu.named.length nc1] 25)/\Hi (BlockAt wr rb #[.slice none 0 0,.slice none 0 0] 25)/\Hi (MB wr base lo (d++ms.drop k))/\Hi (Below w.heap.size w wr)/\Hi (w4.heap.size<=wr.heap.size)/\Hi (n=0->OwnM wr base (.slice lo 0 lc) [])) (fun i _=>n-(intOf i).toNat)
 case atStart=>exact⟨0,u,ao,no,ac,nc,[],Yl _,rfl,Ap,Yh rfl,Aq,Ae,Af,Ad,B4,Yh (Yk _),Ag⟩
 case round =>
  obtain⟨k,cu,ao1,no1,ac1,nc1,d,hk,rfl,A5,HD,HUR,K1,K2,HMB,HB,HW,HOE⟩:=hrel
  by_cases hkn:k<n
  ·have A4:k<ms.length:=by rw[HN.o];exact hkn
   have Aa:=List.drop_eq_getElem_cons A4;obtain⟨x,hx⟩:=Yn (ms[k]);rw[hx]at Aa;have A5:=@Yh (F=joinM d (methF ks (x::ms.drop (k+1)) cu)) (by rw[<-Aa];exact A5.o);obtain⟨g,cur,rfl,hbg,hKG,hcc⟩:=(show MB wr base lo (d++x::ms.drop (k+1))by rw[<-Aa];exact HMB.o).cells (by rw[Ye,List.length_cons];omega);have CC:=Yh hcc
   have CX:=Yh (show cur[k*3]? = some (.string x.name)/\cur[k*3+1]? = some (.bool x.ptr)/\cur[k*3+2]? = some (.int .i64 x.sig)from by
    have:=hcc k (by have:=HD.o;simp;omega)
    have e:(d++x::ms.drop (k+1))[k]'(by have:=HD.o;simp;omega)=x:=by
     have hd:=HD.o;subst hd;rw[List.getElem_append_right (Yk _)];simp
    rw[e]at this;exact this)
   have KG:=Yh hKG;have BG:=Yh hbg;have NE:=@Yh (ub≠rb/\rb≠ub/\g≠ub/\g≠rb/\ub≠g/\rb≠g) (by have:=A2.o;omega);have As:=@Yh (¬S g) (fun h=>((A3.o g).1 h).2 _ rfl rfl)
   have Ax:=Yh (show ∀b,wr.drew.heap.size<=b->S b from fun b hb=>by
    have hb:wr.heap.size<=b:=hb;have hs:=A2.o;have hw:=HW.o;have hg:=KG.o.lt;refine(A3.o b).2 ⟨⟨An.o b (by omega),by omega,by omega⟩,fun a ha=>?_⟩
    injection ha with ha
    subst ha
    show b≠g
    omega)
   have A0:=Zx5 S cu ao1 no1 ac1 nc1 x.sig ks ko kc wr.drew Ax.o (HUR.o.same (SameS.below (Y8 _ _).drew)) ((HE.o.below HB.o).below (Y8 _ _).drew) ((HG.o.below HB.o).below (Y8 _ _).drew) Ao.o.1 Ao.o.2;obtain⟨⟨V,q,e⟩,hR⟩:∃R,fillU cu x.sig ks=R:=⟨_,rfl⟩
   rw[hR]at A0;unfold unV at A0;rw[Au.o]at A0;have HR:=Yh hR;obtain⟨L,hL⟩:=Yn (cu.types.length);obtain⟨n1,hn1⟩:=Yn (cu.named.length);rw[hL,hn1]at A0 K1;have Ay:=Yh A0;obtain⟨c0,c1⟩:=cell2 K1.o;have d2:=(KG.o.cell _).trans CX.o.2.2;clear Aa hx hcc hKG hbg A0 hR hL hn1 A4 HMB;go_upto_region 6 with fail;refine GoG.start [(14,⟨ub,0,none⟩,.slice ao1 L ac1),(14,⟨ub,1,none⟩,.slice no1 n1 nc1),(17,⟨g,k*3+2,none⟩,.int .i64 x.sig)] (by kernel_rfl) ?_ ?_
   ·exact Kd (Kd (Kd (Kn)))
   refine GoG.fr 0 ?_;refine GoG.fr 1 ?_;refine GoG.s2 2 0 [14] ?_;refine GoG.fr 3 ?_;refine GoG.fr 4 ?_;refine GoG.fr 5 ?_;refine GoG.fr 6 ?_;refine GoG.s1 7 2 [17] ?_;refine GoG.fr 8 ?_;refine GoG.on 9 fun K hK=>?_
   go_simp;refine Ay.o.mono ?_;rintro e w7 ⟨fo,fn,fc,fnc,rfl,hF,b7⟩;unfold unV;have B7:=Yh b7.size;have Az:=Yh hF;have AA:=Yh (HB.o.drew.trans (b7.mono HB.o.drew.size));have A6:=Yh ((K1.o.below (Y8 _ _).drew).below b7);have AB:=Yh ((K2.o.below (Y8 _ _).drew).below b7);have AC:=Yh ((KG.o.below (Y8 _ _).drew).below b7);refine hK.out _ _ (Kc (YR b7 c0) (Kc (YR b7 c1) (Kc (YR b7 d2) (Kn)))) ?_;clear hK K b7 hF c0 c1 d2;refine GoG.fr 10 ?_;refine GoG.fr 11 ?_;refine GoG.fr 12 ?_;refine GoG.fr 13 ?_;obtain⟨w8,h8⟩:=Yn (w7.setCell ⟨ub,0,none⟩ (.slice fo V.types.length fc));obtain⟨w9,h9⟩:=Yn (w8.setCell ⟨ub,1,none⟩ (.slice fn V.named.length fnc));have AD:=Yh (ZQ A6.o h8 h9);have AE:=Yh (Z4 (Z4 AB.o NE.o.2.1 h8) NE.o.2.1 h9);have Ah:=Yh (Z4 (Z4 AC.o NE.o.2.2.1 h8) NE.o.2.2.1 h9);have t0:=(cell2 A6.o).1;have f0:=A6.o.free 0;have t1:=(cell2 (Zc A6.o h8)).2;have f1:=(Zc A6.o h8).free 1;have AF:=Yh (ZC AA.o Aw.o h8 h9);have AG:=Yh ((Az.o.same (SameS.set A9.o h8)).same (SameS.set A9.o h9));refine GoG.on 14 fun K hK=>?_
   go_simp;clear t0 f0 t1 f1;have d2:w9.cell? ⟨g,k*3+2,none⟩=some (.int .i64 x.sig):=(Ah.o.cell _).trans CX.o.2.2;refine hK.out _ _ (Ku (Ku (Kd (Kn)))) ?_;clear hK K;refine GoG.fr 15 ?_;refine GoG.fr 16 ?_;obtain⟨w10,h10⟩:=Yn (w9.setCell ⟨g,k*3+2,none⟩ (.int .i64 q));have f2:=Ah.o.free (k*3+2);refine GoG.on 17 fun K hK=>?_
   go_simp;refine hK.out _ _ (Ku (Ku (Ku (Kn)))) ?_;clear hK K d2 f2;refine GoG.fr 18 ?_;refine GoG.done (by kernel_rfl) ?_ _;have Ai:=Yh (AG.o.same (SameS.set As.o h10));have Aj:=Yh (Z4 AD.o NE.o.2.2.2.2.1 h10);have A1:=Yh (Z4 AE.o NE.o.2.2.2.2.2 h10);have A7:=Yh (Z6 AF.o (by have:=A2.o;have:=BG.o;omega) h10);have Ak:=Yh (MB.put BG.o Ah.o CC.o HD.o h10);have Al:=@Yh (w4.heap.size<=w10.heap.size) (Yj HW.o (Yj B7.o (Yj (SameS.set A9.o h8).1 (Yj (SameS.set A9.o h9).1 (SameS.set As.o h10).1))))
   by_cases he:e=0
   case neg =>
    have Hn:=@Yh (F=(noUn,[],e)) (by rw[A5.o];exact Z98 HR.o he);have hq:(e != 0)=true:=by rw[YJ];exact he
    clear he;obtain⟨v1,g1⟩:=Yn (w10.setCell ⟨rb,0,none⟩ (.slice none 0 0));obtain⟨v2,g2⟩:=Yn (v1.setCell ⟨rb,1,none⟩ (.slice none 0 0));have K5:=ZQ A1.o g1 g2;have B5:=Yh (ZC A7.o A2.o.2.2.2.2.1 g1 g2);have t0:=(cell2 A1.o).1;have f0:=A1.o.free 0;have t1:=(cell2 (Zc A1.o g1)).2;have f1:=(Zc A1.o g1).free 1;obtain⟨e0,e1⟩:=cell2 K5;clear K5;go_wp2_with fail
    try simp only[Exit.inBlock,Exit.then]
    refine bodyPost_ret (v:=.tuple #[.agg #[.slice none 0 0,.slice none 0 0],.slice none 0 0,.int .i64 e]) ?_ rfl ?_
    ·simp[results,Tryz.results116,go_sem,e0,e1]
    rw[Hn.o];exact⟨none,none,0,0,none,0,rfl,Zj0 _ _,.inl rfl,Yk _,B5.o,fun _=>World.ownsRow_nil _ _ _ _⟩
   subst he;have AH:=@Yh (F=joinM (d++[⟨x.name,x.ptr,q⟩]) (methF ks (ms.drop (k+1)) V)) (by rw[A5.o];exact join_step HR.o);go_wp2_with fail;go_roundw
   case rel=>exact⟨k+1,V,fo,fn,fc,fnc,d++[⟨x.name,x.ptr,q⟩],by omega,by go_num,AH,Yh (by have:=HD.o;simp;omega),Ai,Aj,A1,Yh (by have:=Ak.o;simpa using this),A7,Al,Yh (fun h=>by omega)⟩
   case measure=>first|(simp[intOf];done)|(simp[intOf];omega)
  ·obtain rfl:k=n:=by omega
   have Hn:=@Yh (F=(cu,d,0)) (by rw[A5.o,List.drop_of_length_le (by rw[HN.o];exact Yk _)];exact ZG7 ks d cu)
   have AI:=Yh (show MB wr base lo d by
    have:=HMB.o;rw[List.drop_of_length_le (by rw[HN.o];exact Yk _),List.append_nil]at this;exact this)
   obtain⟨L,hL⟩:=Yn (cu.types.length);obtain⟨n1,hn1⟩:=Yn (cu.named.length);have At:=Yh (YH hL hn1);rw[hL,hn1]at K1;clear hL hn1;obtain⟨c0,c1⟩:=cell2 K1.o;obtain⟨v1,g1⟩:=Yn (wr.setCell ⟨rb,0,none⟩ (.slice ao1 L ac1));obtain⟨v2,g2⟩:=Yn (v1.setCell ⟨rb,1,none⟩ (.slice no1 n1 nc1));have K5:=ZQ K2.o g1 g2;have B5:=Yh (ZC HB.o A2.o.2.2.2.2.1 g1 g2);have AJ:=Yh (Zf (T:=offS Sb lo) ((HUR.o.same (SameS.set Ar.o g1)).same (SameS.set Ar.o g2)) (fun b _ hs=>⟨((A3.o b).1 hs).1.1,((A3.o b).1 hs).2⟩));have AK:=Yh ((AI.o.other A2.o.2.2.1 g1).other A2.o.2.2.1 g2);have Am:=@Yh (k=0->OwnM v2 base (.slice lo 0 lc) []) (fun h=>((HOE.o h).otherS A2.o.2.2.1 g1).otherS A2.o.2.2.1 g2);have t0:=(cell2 K2.o).1;have f0:=K2.o.free 0;have t1:=(cell2 (Zc K2.o g1)).2;have f1:=(Zc K2.o g1).free 1;obtain⟨e0,e1⟩:=cell2 K5;clear K5;go_wp2_with fail
   try simp only[Exit.inBlock,Exit.then]
   refine bodyPost_ret (v:=.tuple #[.agg #[.slice ao1 L ac1,.slice no1 n1 nc1],.slice lo k lc,.int .i64 0]) ?_ rfl ?_
   ·simp[results,Tryz.results116,go_sem,e0,e1]
   rw[Hn.o];refine⟨ao1,no1,ac1,nc1,lo,lc,?_,AJ.o,AK.o.rowS (fun b hb=>An.o b (by have:=A2.o;omega)),by show d.length<=lc;rw[HD.o];exact LC.o,B5.o,fun h=>(Am.o (by rw[<-HD.o];exact congrArg List.length h)).base (by have:=A2.o;omega)⟩;unfold unV;rw[At.o.1,At.o.2]
   show _=Ending.returned (.tuple #[_,.slice lo d.length lc,_])
   rw[HD.o]
set_option maxRecDepth 100000 in
theorem ZI8(Sb:Nat->Prop)(u:Un)(ao no:Option Addr)(ac nc:Nat)(i:Int)(w:World)(hSb:∀b,w.heap.size<=b->Sb b)(hU:UnS Sb w ao no ac nc u)(hE:Env w)(hru0:rightU u=true)(z0:Nat)(hi0:i=(z0:Int))(hz0:z0<u.types.length)(h80:u.types[z0].kind=8) :
  Calls Tryz.prog 90 #[unV u ao ac no nc,.int .i64 i] w (MethN Sb w w.heap.size (methU u i)):=by
 obtain⟨w1,h1,k1,q1,z1⟩:=YA w #[.slice ao u.types.length ac,.slice no u.named.length nc] 25;obtain⟨w2,h2,k2,q2,z2⟩:=YA w1 #[.slice none 0 0,.slice none 0 0] 25;have B2:=Yh (q1.trans (q2.mono q1.size));have HU:=Yh (hU.same (SameS.below B2.o));have Ag:=Yh ((ZM hU (c:=w1.heap.size) (d:=w1.heap.size) ⟨q1.size,q1.size⟩).same (SameS.below B2.o));have Ah:=@Yh (∀b,w2.heap.size<=b->lessS Sb w1.heap.size w1.heap.size b) (fun b hb=>⟨hSb b (by omega),by omega,by omega⟩);have A7:=@Yh (¬lessS Sb w1.heap.size w1.heap.size w1.heap.size) (fun g=>g.2.2 rfl);have Ai:=@Yh (w.heap.size<=w1.heap.size) (by omega);have A2:=ZK2 u ao no ac nc i w2 HU.o.o (hE.below B2.o);have HE:=Yh (hE.below B2.o);obtain⟨F,hF⟩:=Yn (methU u i);have Ar:=Yh hF;rw[hF];unfold unV at A2;unfold unV;obtain⟨te,hte⟩:=Yn (thereU u i);have Aa:=Yh hte;rw[hte]at A2;have Ab:=Yh A2;have K1:=Yh (k1.below q2);have K2:=Yh k2;obtain⟨c0,c1⟩:=cell2 (k1.below q2);have As:=Yh hU.tl;have At:=Yh hU.nl;clear hF hte A2 k1 k2 q1 q2 z1 z2 hU hE hSb;go_enter Tryz.func90,Tryz.ntmps90
 by_cases h0:te=0
 case neg =>
  exact absurd (by rw[<-Aa.o,hi0];exact Z01 hru0 (by unfold inL;exact Yb (by omega))) h0
 subst h0;obtain⟨hru,hi0',hi1⟩:=Ze0 Aa.o;obtain⟨z,rfl⟩:∃z:Nat,i=(z:Int):=⟨i.toNat,by omega⟩
 have A6:z<u.types.length:=by omega
 have A3:=hru;rw[Z8,Yd]at A3;have Au:=Yh (restU_iff.1 A3.2).2.2.1;have Av:=Yh (fun h7=>Z72 A3.1 A6 h7);have Aj:=Yh (fun h8=>Zy0 hru A6 h8)
 have Ak:=Yh (show F=if u.types[z].kind=8 then methF u.types[z].kids (u.named.getD (atU u.named u.types[z].name).toNat ⟨⟨#[]⟩,[],0,[]⟩).methods u else if u.types[z].kind=7 then(u,ifaceM (u.types[z].words.zip u.types[z].kids),0)else(u,[],0)by
  rw[<-Ar.o];unfold methU;rw[Aa.o,if_neg (fun g=>g rfl),Ze A6,Yw];unfold funT;rw[Z3 A6])
 obtain rfl:z=z0:=by omega
 have Al:=Yh h80;clear hru A3 hi0 hi0' hi1 hru0 h80;obtain⟨ab,aof,rfl,hab,hac2⟩:=HU.o.o.types.cells (by omega);obtain⟨xw,xwc,xk,xkc,a0',a1',a2',a3',a4',hwc,hkc,hxc⟩:=hac2 z A6;obtain⟨x,hx⟩:=Yn (u.types[z]);rw[hx]at a0' a1' a2' a3' a4' hwc hkc hxc Ak Aj Av Al;have Aw:=Yh hxc;obtain⟨L,hL⟩:=Yn (u.types.length);obtain⟨n,hn⟩:=Yn (u.named.length);have HL:=Yh hL;have HN:=Yh hn;rw[hL]at c0 h1 K1 Ab A6 hz0 ⊢;rw[hn]at c1 h1 K1 Ab ⊢;have Ax:=As.o;have Ay:=At.o;rw[hL]at Ax;rw[hn]at Ay;have AH:(z:Int)<(L:Int):=by omega
 clear hx hxc hac2 hL hn hwc hkc;go_wp2_with fail;refine Ab.o.mono ?_;rintro e w3 ⟨rfl,b3⟩;have B3:=YT B2 b3;have Am:=Yh (K1.o.below b3);have Az:=Yh (K2.o.below b3);have An:=Yh (HU.o.same (SameS.below b3));have A8:=Yh (Ag.o.same (SameS.below b3));have A5:=Yh (Aw.o.below b3);have AA:=Yh (HE.o.below b3);have Ac:=Yh b3.size;have a0:=(b3.cell hab).trans a0';have a1:=(b3.cell hab).trans a1';have a2:=(b3.cell hab).trans a2';have a3:=(b3.cell hab).trans a3';have a4:=(b3.cell hab).trans a4';clear b3 c0 c1 h1 h2 hab a0' a1' a2' a3' a4';obtain⟨c0,c1⟩:=cell2 Am.o;obtain⟨w4,h4,k4,q4,z4⟩:=YA w3 #[.int .i64 x.kind,.string x.name,.int .i64 x.n,.slice xw x.words.length xwc,.slice xk x.kids.length xkc] 50;have KX:=Yh k4;have Q4:=Yh q4;obtain⟨d0,d1,d2,d3,d4⟩:=cell5 k4;clear k4 q4 z4;have Ad:=Yh (Am.o.below Q4.o);have AB:=Yh (Az.o.below Q4.o);have B4:=YT B3 Q4.o
 by_cases h8:x.kind=8
 case neg=>exact absurd Al.o h8
 have hq:(x.kind==8)=true:=by rw[YK];exact h8
 obtain⟨ffo,fat,flt⟩:=Aj.o h8;have A0:=Z13 u (some ⟨ab,aof,none⟩) no ac nc x.name w4 (An.o.o.below Q4.o) Au.o;obtain⟨lo,hlo⟩:=Yn (lowU (namesU u.named) x.name);rw[hlo,ffo]at A0;rw[hlo]at fat flt;unfold unV at A0;rw[HL.o,HN.o]at A0;have AC:=Yh A0;obtain⟨nm,hnm⟩:=Yn (u.named[lo]);have HF:=@Yh (F=methF x.kids nm.methods u) (by rw[Ak.o,if_pos h8,fat,Yw,Z3 flt,hnm]);have AI:lo<n:=by rw[<-HN.o];exact flt
 have AJ:(lo:Int)<(n:Int):=by omega
 obtain⟨b,o,rfl,hb,hc⟩:=An.o.o.named.cells (by omega);obtain⟨bo,bc,mo,mc,n0',n1',n2',n3',hbc,hmc,hnc⟩:=hc lo flt;rw[hnm]at n0' n1' n2' n3' hbc hmc hnc;have NN:=Yh (YH n0' (YH n1' (YH n2' n3')));have NC:=Yh hnc;have NL:=Yh hmc;have A9:=Yh hb;obtain⟨y0,y1⟩:=cell2 Ad.o;clear A0 hlo ffo fat hnm hb hc n0' n1' n2' n3' hbc hmc hnc h8;go_wp2_with fail;refine AC.o.mono ?_;rintro e w5 ⟨rfl,b5⟩;have B5:=YT B4 b5;have A4:=YT Q4 b5;have Ae:=Yh (AB.o.below b5);have Ao:=Yh (KX.o.below b5);clear c0 c1 d0 d1 d2 d3 d4 y0 y1 a0 a1 a2 a3 a4 h4;obtain⟨kl,hkl⟩:=Yn (x.kids.length);have A1:=Z97 (lessS Sb w1.heap.size w1.heap.size) u (some ⟨ab,aof,none⟩) (some ⟨b,o,none⟩) ac nc nm bo mo bc mc x.kids xk xkc w5.drew (fun bb hbb=>Ah.o bb (Yj (Yj Ac.o A4.o.size) hbb)) ((A8.o.same (SameS.below A4.o)).same (SameS.below (Y8 _ _).drew)) ((AA.o.below A4.o).below (Y8 _ _).drew) ((NC.o.methods.below A4.o).below (Y8 _ _).drew) (by have:=NC.o.ok.ml;omega) NL.o ((A5.o.kids.below A4.o).below (Y8 _ _).drew) (by have:=A5.o.ok.kl;omega) A5.o.ok.ks;unfold unV nmV at A1;rw[HL.o,HN.o,<-HF.o]at A1;have c0:=(cell2 (Ad.o.below b5)).1;have c1:=(cell2 (Ad.o.below b5)).2;have n0:=(A4.o.cell (p:=⟨b,o+lo*4,none⟩) A9.o).trans NN.o.1;have n1:=(A4.o.cell (p:=⟨b,o+lo*4+1,none⟩) A9.o).trans NN.o.2.1;have n2:=(A4.o.cell (p:=⟨b,o+lo*4+2,none⟩) A9.o).trans NN.o.2.2.1;have n3:=(A4.o.cell (p:=⟨b,o+lo*4+3,none⟩) A9.o).trans NN.o.2.2.2;have d4:=(cell5 Ao.o).2.2.2.2;rw[hkl]at A1 d4 Ao;have Ap:=Yh A1;obtain⟨xb,hxb⟩:=Yn (w3.heap.size);obtain⟨ub,hub⟩:=Yn (w.heap.size);obtain⟨rb,hrb⟩:=Yn (w1.heap.size);have Aq:=@Yh (rb<w5.heap.size) (by rw[<-hrb];exact Ae.o.lt);rw[hxb]at d4;rw[hub]at c0 c1;rw[hrb]at Ae Ai A7 Ag A8 Ah;rw[hrb]at Ap;clear A1 b5;go_upto_region 8 with fail;clear hxb hub hrb;refine GoG.start [(12,⟨ub,0,none⟩,.slice (some ⟨ab,aof,none⟩) L ac),(12,⟨ub,1,none⟩,.slice (some ⟨b,o,none⟩) n nc),(12,⟨b,o+lo*4,none⟩,.string nm.name),(12,⟨b,o+lo*4+1,none⟩,.slice bo nm.bounds.length bc),(12,⟨b,o+lo*4+2,none⟩,.int .i64 nm.under),(12,⟨b,o+lo*4+3,none⟩,.slice mo nm.methods.length mc),(12,⟨xb,4,none⟩,.slice xk kl xkc)] (by kernel_rfl) ?_ ?_
 ·exact Kd (Kd (Kd (Kd (Kd (Kd (Kd (Kn)))))))
 refine GoG.s2 0 0 [12] ?_;refine GoG.fr 1 ?_;refine GoG.s1 2 1 [12] ?_;refine GoG.fr 3 ?_;refine GoG.fr 4 ?_;refine GoG.s4 5 2 [12] ?_;refine GoG.fr 6 ?_;refine GoG.s1 7 6 [12] ?_;refine GoG.on 8 fun K hK=>?_
 go_simp;refine Ap.o.mono ?_;rintro e w7 ⟨fo,fn,fc,fnc,lo2,lc2,rfl,hF,hR,hlc,b7,hOE⟩;unfold unV;have B7:=Yh (B5.o.drew.trans (b7.mono B5.o.drew.size));have K7:=Yh ((Ae.o.below (Y8 _ _).drew).below b7);have HF:=Yh hF;have HR:=Yh hR;have AD:=Yh hlc;have AE:=@Yh (F.2.1=[]->OwnM w7 w5.heap.size (.slice lo2 0 lc2) []) (hOE);refine hK.out _ _ (Kc (YR b7 c0) (Kc (YR b7 c1) (Kc (YR b7 n0) (Kc (YR b7 n1) (Kc (YR b7 n2) (Kc (YR b7 n3) (Kc (YR b7 d4) (Kn)))))))) ?_;clear hK K b7 hF hR hlc hOE c0 c1 n0 n1 n2 n3 d4;refine GoG.fr 9 ?_;refine GoG.fr 10 ?_;refine GoG.fr 11 ?_;obtain⟨w8,h8⟩:=Yn (w7.setCell ⟨rb,0,none⟩ (.slice fo F.1.types.length fc));obtain⟨w9,h9⟩:=Yn (w8.setCell ⟨rb,1,none⟩ (.slice fn F.1.named.length fnc));have K9:=Yh (ZQ K7.o h8 h9);have t0:=(cell2 K7.o).1;have f0:=K7.o.free 0;have t1:=(cell2 (Zc K7.o h8)).2;have f1:=(Zc K7.o h8).free 1;have B9:=Yh (ZC B7.o Ai.o h8 h9);have Af:=@Yh (F.2.1=[]->OwnM w9 w5.heap.size (.slice lo2 0 lc2) []) (fun h=>((AE.o h).otherS Aq.o h8).otherS Aq.o h9);have AF:=Yh (Zf (T:=offS Sb lo2) ((HF.o.same (SameS.set (fun g=>A7.o g.1) h8)).same (SameS.set (fun g=>A7.o g.1) h9)) (fun b _ g=>⟨g.1.1,g.2⟩));have AG:=Yh (ZF (T:=Sb) ((HR.o.same (SameS.set A7.o h8)).same (SameS.set A7.o h9)) (fun b _ h=>h.1));refine GoG.on 12 fun K hK=>?_
 go_simp;refine hK.out _ _ (Ku (Ku (Ku (Ku (Ku (Ku (Ku (Kn)))))))) ?_;clear hK K;refine GoG.fr 13 ?_;refine GoG.fr 14 ?_;refine GoG.done (by kernel_rfl) ?_ _;clear t0 f0 t1 f1 h8 h9;obtain⟨e0,e1⟩:=cell2 K9.o;go_wp2_with fail
 try simp only[Exit.inBlock,Exit.then]
 refine bodyPost_ret (v:=.tuple #[.agg #[.slice fo F.1.types.length fc,.slice fn F.1.named.length fnc],.slice lo2 F.2.1.length lc2,.int .i64 F.2.2]) ?_ rfl ?_
 ·simp[results,Tryz.results90,go_sem,e0,e1]
 exact⟨fo,fn,fc,fnc,lo2,lc2,rfl,AF.o,AG.o,AD.o,B9.o,fun h=>(Af.o h).base B5.o.size⟩
set_option maxRecDepth 100000 in
theorem ZAa(Sb:Nat->Prop)(u:Un)(i:Int)(wb:Nat)(W0 w:World)(hB:Below W0.heap.size W0 w)(hwb:W0.heap.size<=wb)(hSb:∀b,w.heap.size<=b->Sb b)(hns:¬Sb wb)(hK:WkAt Sb w wb u 0)(hE:Env W0)(hru0:rightU u=true)(z0:Nat)(hi0:i=(z0:Int))(hz0:z0<u.types.length)(h80:u.types[z0].kind=8) :
  Calls Tryz.prog 70 #[.pointer (some ⟨wb,0,none⟩),.int .i64 i] w fun e w'=>∃lo lc,(e=.returned (.slice lo (methU u i).2.1.length lc)/\MRowS Sb w' lo (methU u i).2.1/\(methU u i).2.1.length<=lc/\((methU u i).2.1=[]->OwnM w' w.heap.size (.slice lo 0 lc) []))/\WkR (offS Sb lo) W0 w wb (methU u i).1 (methU u i).2.2 w':=by
 obtain⟨ao,no,ac,nc,hK,hU⟩:=hK;have A1:=ZI8 Sb u ao no ac nc i w hSb hU (hE.below hB) hru0 z0 hi0 hz0 h80;have A2:=@Yh (wb<w.heap.size) (hK.lt);have A0:=Yh hns;have HB:=Yh hB;have A3:=Yh hwb;have HK:=Yh hK;obtain⟨⟨V,ms,e⟩,hR⟩:∃R,methU u i=R:=⟨_,rfl⟩
 rw[hR]at A1 ⊢;unfold unV at A1;have HU:=Yh A1;obtain⟨c0,c1,c2⟩:=cell3m hK;obtain⟨L,hL⟩:=Yn (u.types.length);obtain⟨n,hn⟩:=Yn (u.named.length);rw[hL]at c0 HU HK;rw[hn]at c1 HU HK;clear A1 hR hU hK hB hE hSb hns hwb hL hn hru0 hi0 h80 hz0;go_enter Tryz.func70,Tryz.ntmps70;go_wp2_with fail;refine HU.o.mono ?_;rintro e1 w1 ⟨fo,fn,fc,fnc,lo,lc,rfl,hX,hMR,hlc,b1,hOE⟩;have HX:=Yh hX;have A5:=Yh hMR;have A6:=Yh hlc;have A7:=Yh hOE;have B1:=YT HB b1;have K1:=Yh (HK.o.below b1);have S1:=Yh (SameX.below (c:=wb) b1);clear hX hMR hlc b1 hOE c0 c1 c2;unfold unV;obtain⟨s0,h0⟩:=Yn (w1.setCell ⟨wb,0,none⟩ (.slice fo V.types.length fc));obtain⟨s1,h1⟩:=Yn (s0.setCell ⟨wb,1,none⟩ (.slice fn V.named.length fnc));obtain⟨s2,h2⟩:=Yn (s1.setCell ⟨wb,2,none⟩ (.int .i64 e));have k0:=ZE5 K1.o h0;have k1:=ZB5 k0 h1;have K2:=Yh (ZI3 k1 h2);have t0:=(cell3m K1.o).1;have f0:=K1.o.free 0;have t1:=(cell3m k0).2.1;have f1:=k0.free 1;have t2:=(cell3m k1).2.2;have f2:=k1.free 2;obtain⟨r0,r1,r2⟩:=cell3m K2.o;have A8:=Yh (((HX.o.same (SameS.set (fun g=>A0.o g.1) h0)).same (SameS.set (fun g=>A0.o g.1) h1)).same (SameS.set (fun g=>A0.o g.1) h2));have S2:=Yh (((S1.o.trans (SameX.set h0)).trans (SameX.set h1)).trans (SameX.set h2));have B2:=Yh (Z6 (Z6 (Z6 B1.o A3.o h0) A3.o h1) A3.o h2);have A4:=@Yh (ms=[]->OwnM s2 w.heap.size (.slice lo 0 lc) []) (fun h=>(((A7.o h).otherS A2.o h0).otherS A2.o h1).otherS A2.o h2);clear k0 k1;have A9:=Yh (((A5.o.same (SameS.set A0.o h0)).same (SameS.set A0.o h1)).same (SameS.set A0.o h2));obtain⟨ml,hml⟩:=Yn (ms.length);clear hml;go_wp2_with fail;go_ret;exact⟨lo,lc,⟨rfl,A9.o,A6.o,A4.o⟩,⟨fo,fn,fc,fnc,K2.o,A8.o⟩,S2.o,B2.o⟩
theorem Z23{w w1:World}{b:Nat}{a0 a1 a2 a3 a4 a5 v:Value}{T:TypeId}(h:BlockAt w b #[a0,a1,a2,a3,a4,a5] T)(h1:w.setCell ⟨b,0,none⟩ v=w1):BlockAt w1 b #[v,a1,a2,a3,a4,a5] T:=by
 subst h1;have:=h.set 0 v
 simpa using this
theorem Zz3{w w1:World}{b:Nat}{a0 a1 a2 a3 a4 a5 v:Value}{T:TypeId}(h:BlockAt w b #[a0,a1,a2,a3,a4,a5] T)(h1:w.setCell ⟨b,1,none⟩ v=w1):BlockAt w1 b #[a0,v,a2,a3,a4,a5] T:=by
 subst h1;have:=h.set 1 v
 simpa using this
theorem Z43{w w1:World}{b:Nat}{a0 a1 a2 a3 a4 a5 v:Value}{T:TypeId}(h:BlockAt w b #[a0,a1,a2,a3,a4,a5] T)(h1:w.setCell ⟨b,3,none⟩ v=w1):BlockAt w1 b #[a0,a1,a2,v,a4,a5] T:=by
 subst h1;have:=h.set 3 v
 simpa using this
theorem cell6L{w:World}{b:Nat}{a0 a1 a2 a3 a4 a5:Value}{T:TypeId}(h:BlockAt w b #[a0,a1,a2,a3,a4,a5] T):w.cell? ⟨b,0,none⟩=some a0/\w.cell? ⟨b,1,none⟩=some a1/\w.cell? ⟨b,2,none⟩=some a2/\w.cell? ⟨b,3,none⟩=some a3/\w.cell? ⟨b,4,none⟩=some a4/\w.cell? ⟨b,5,none⟩=some a5:=
 ⟨h.cell 0,h.cell 1,h.cell 2,h.cell 3,h.cell 4,h.cell 5⟩
theorem Zu{w:World}{b:Nat}{a0 a1 a2 a3 a4 a5:Value}{T:TypeId}(h:BlockAt w b #[a0,a1,a2,a3,a4,a5] T):(w.cell? ⟨b,0,none⟩=some a0/\w.cell? ⟨b,1,none⟩=some a1/\w.cell? ⟨b,2,none⟩=some a2/\w.cell? ⟨b,3,none⟩=some a3/\w.cell? ⟨b,4,none⟩=some a4/\w.cell? ⟨b,5,none⟩=some a5)/\(w.frozen? ⟨b,0,none⟩=false/\w.frozen? ⟨b,1,none⟩=false/\w.frozen? ⟨b,2,none⟩=false/\w.frozen? ⟨b,3,none⟩=false/\w.frozen? ⟨b,4,none⟩=false/\w.frozen? ⟨b,5,none⟩=false):=
 ⟨cell6L h,h.free 0,h.free 1,h.free 2,h.free 3,h.free 4,h.free 5⟩
def set6(w:World)(b:Nat)(v0 v1 v2 v3 v4 v5:Value):World:=(((((w.setCell ⟨b,0,none⟩ v0).setCell ⟨b,1,none⟩ v1).setCell ⟨b,2,none⟩ v2).setCell ⟨b,3,none⟩ v3).setCell ⟨b,4,none⟩ v4).setCell ⟨b,5,none⟩ v5
theorem Z51{Sb:Nat->Prop}{b:Nat}(hb:¬Sb b)(w:World)(v0 v1 v2 v3 v4 v5:Value):SameS Sb w (set6 w b v0 v1 v2 v3 v4 v5):=
 (((((SameS.set hb rfl).trans (SameS.set hb rfl)).trans (SameS.set hb rfl)).trans (SameS.set hb rfl)).trans (SameS.set hb rfl)).trans (SameS.set hb rfl)
theorem Zj{W w:World}{b:Nat}(h:Below W.heap.size W w)(hb:W.heap.size<=b)(v0 v1 v2 v3 v4 v5:Value):Below W.heap.size W (set6 w b v0 v1 v2 v3 v4 v5):=(((((h.setCell hb _).setCell hb _).setCell hb _).setCell hb _).setCell hb _).setCell hb _
def LRes(Sb:Nat->Prop)(w:World)(eV sV:Value)(R:Un×List Lk×Int)(e:Ending)(w':World):Prop:=
 (R.2.2≠0/\e=.returned (.agg #[.slice none 0 0,.slice none 0 0,.slice none 0 0,.slice none 0 0,.slice none 0 0,.int .i64 R.2.2])/\Below w.heap.size w w') \/
 (R.2.2=0/\∃ao no ac nc wo wc,∃zs:List Wz,e=.returned (.agg #[.slice ao R.1.types.length ac,.slice no R.1.named.length nc,eV,.slice wo zs.length wc,sV,.int .i64 0])/\UnS Sb w' ao no ac nc R.1/\GRow 2 wC Sb w' wo zs/\(∀z∈zs,InW Sb w' z)/\zs.length<=wc/\zs.map (fun z=>(z.form,z.ms))=R.2.1.map dataW/\Below w.heap.size w w')
set_option maxRecDepth 100000 in
theorem Z82(Sb:Nat->Prop)(u:Un)(ao no:Option Addr)(ac nc:Nat)(es:List Ez)(eo:Option Addr)(ec:Nat)(wo0:Option Addr)(wl0 wc0:Nat)(so:Option Addr)(sl sc:Nat)(w:World)(hSb:∀b,w.heap.size<=b->Sb b)(hU:UnS Sb w ao no ac nc u)(hG:Gl u (es.map (·.sp)))(hE:GRow 4 eC (fun _=>True) w eo es)(hel:es.length<=100000)(hec:es.length<=ec) :
  Calls Tryz.prog 59 #[.agg #[.slice ao u.types.length ac,.slice no u.named.length nc,.slice eo es.length ec,.slice wo0 wl0 wc0,.slice so sl sc,.int .i64 0]] w (LRes Sb w (.slice eo es.length ec) (.slice so sl sc) (lookT (es.map (·.sp)) u)):=by
 obtain⟨n,hn⟩:=Yn (es.length);have HN:=Yh hn;have HE:=Yh hE;have AN:=Yh hSb;have HG:=Yh hG;obtain⟨L,hL⟩:=Yn (u.types.length);obtain⟨m,hm⟩:=Yn (u.named.length);have HL:=Yh hL;have HM:=Yh hm;obtain⟨F,hF⟩:=Yn (lookT (es.map (·.sp)) u);have HF:=@Yh (F=joinL [] (lookT ((es.drop 0).map (·.sp)) u)) (by rw[Z71,List.drop_zero,hF]);rw[hF,hn,hL,hm];rw[hn]at hec hel;obtain⟨w1,h1,k1,q1,z1⟩:=YA w #[.slice ao L ac,.slice no m nc,.slice eo n ec,.slice wo0 wl0 wc0,.slice so sl sc,.int .i64 0] 78;obtain⟨w2,h2,k2,q2,z2⟩:=YA w1 #[.slice none 0 0,.slice none 0 0,.slice none 0 0,.slice none 0 0,.slice none 0 0,.int .i64 0] 78;obtain⟨w3,h3⟩:=Yn (w2.setCell ⟨w.heap.size,3,none⟩ (.slice none 0 0));have A6:=@Yh (w.heap.size<w1.heap.size) (k1.lt);have B2:=Yh (q1.trans (q2.mono q1.size));have Ak:=k1.below q2;have B3:=Yh (Z6 B2.o (Yk _) h3);have K3:=Yh (Z43 Ak h3);have R3:=Yh (Z4 k2 (Nat.ne_of_gt A6.o) h3);have AZ:=Yh ((Zf (T:=apS Sb w.heap.size w1.heap.size (.slice none 0 0)) (ZM hU (c:=w.heap.size) (d:=w1.heap.size) ⟨Yk _,q1.size⟩) (fun b _ hs=>⟨hs,fun e=>by cases e⟩)).same ((SameS.below B2.o).trans (SameS.set (fun g=>g.1.2.1 rfl) h3)));have A2:=@Yh (w1.heap.size<w2.heap.size) (k2.lt);have Z2:=@Yh (w2.heap.size=w1.heap.size+1) (z2);have Br:=@Yh (w2.heap.size<=w3.heap.size) ((SameS.set (Sb:=fun _=>False) (fun g=>g) h3).1);have t3:=(cell6L Ak).2.2.2.1;have f3:=Ak.free 3;have e2:=(cell6L K3.o).2.2.1;obtain⟨i0,hi,hz0,hz1,hz2⟩:=info_parts ZPd;clear hn hE hSb hG hL hm hF hU k1 k2 q1 q2 z1 z2 Ak;go_enter Tryz.func59,Tryz.ntmps59;go_wp2_with fail;clear t3 f3 e2 h1 h2;go_loopw [12] (fun i wr=>∃(k:Nat) (V:Un) (a1 o1:Option Addr) (c1 c2:Nat) (d:List Lk) (zs:List Wz) (v:Value),k<=n/\i=.int .i64 k/\Hi (F=joinL d (lookT ((es.drop k).map (·.sp)) V))/\Hi (zs.length=k)/\Hi (zs.map (fun z=>(z.form,z.ms))=d.map dataW)/\Hi (Gl V ((es.drop k).map (·.sp)))/\Hi (UnS (apS Sb w.heap.size w1.heap.size v) wr a1 o1 c1 c2 V)/\Hi (BlockAt wr w.heap.size #[.slice a1 V.types.length c1,.slice o1 V.named.length c2,.slice eo n ec,v,.slice so sl sc,.int .i64 0] 78)/\Hi (BlockAt wr w1.heap.size #[.slice none 0 0,.slice none 0 0,.slice none 0 0,.slice none 0 0,.slice none 0 0,.int .i64 0] 78)/\Hi (OwnG 2 wC 120 wr w2.heap.size v zs)/\Hi (∀z∈zs,InW (apS Sb w.heap.size w1.heap.size v) wr z)/\Hi (Below w.heap.size w wr)) (fun i _=>n-(intOf i).toNat)
 case atStart=>exact⟨0,u,ao,no,ac,nc,[],[],.slice none 0 0,Yl _,rfl,HF,Yh rfl,Yh rfl,Yh (by rw[List.drop_zero];exact HG.o),AZ,Yh (by rw[HL.o,HM.o];exact K3.o),R3,Yh (ZY0 _ _),Yh (fun z hz=>by cases hz),B3⟩
 case round =>
  obtain⟨k,V,a1,o1,c1,c2,d,zs,v,hk,rfl,HFK,HZ,HD,HGK,HUR,HK,HRB,HO,HI,HB⟩:=hrel;obtain⟨lo1,cap,hv,hcap,hba,-⟩:=HO.o.row Z05;rw[HZ.o]at hv;subst hv
  by_cases hkn:k<n
  ·have Al:k<es.length:=by rw[HN.o];exact hkn
   have A7:=List.drop_eq_getElem_cons Al;obtain⟨b,off,rfl,hb,-,hc⟩:=HE.o.cells (by omega);have hc:=hc k Al;obtain⟨y,hy⟩:=Yn (es[k]);rw[hy]at hc A7;have Am:=@Yh (F=joinL d (lookT (y.sp::(es.drop (k+1)).map (·.sp)) V)) (by rw[HFK.o,A7];rfl);have Ad:=@Yh (Gl V (y.sp::(es.drop (k+1)).map (·.sp))) (by have:=HGK.o;rw[A7]at this;exact this);have r0:=(HB.o.cell (p:=⟨b,off+k*4+0,none⟩) hb).trans (hc 0 _ rfl);have r1:=(HB.o.cell (p:=⟨b,off+k*4+1,none⟩) hb).trans (hc 1 _ rfl);have r2:=(HB.o.cell (p:=⟨b,off+k*4+2,none⟩) hb).trans (hc 2 _ rfl);have r3:=(HB.o.cell (p:=⟨b,off+k*4+3,none⟩) hb).trans (hc 3 _ rfl);rw[Nat.add_zero]at r0;obtain⟨wa,ha,ka,qa,za⟩:=YA wr #[.int .i64 y.sp.typ,.bool y.sp.via,.bool y.sp.many,.slice y.po y.sp.path.length y.pc] 115;obtain⟨S,hS⟩:∃S:Nat->Prop,apS Sb w.heap.size w1.heap.size (.slice lo1 k cap)=S:=⟨_,rfl⟩
   have Aa:=@Yh (∀b,S b↔apS Sb w.heap.size w1.heap.size (.slice lo1 k cap) b) (fun b=>by rw[<-hS]);have AO:=@Yh (w1.heap.size<wr.heap.size) (HRB.o.lt)
   have AP:=Yh (show ∀b,wr.heap.size<=b->S b from fun b hb=>by
    have g1:=AO.o;have g2:=A6.o;refine(Aa.o b).2 ⟨⟨AN.o b (by omega),by omega,by omega⟩,fun he=>?_⟩;have:=World.ownsRow.lt HO.o b he
    omega)
   rw[hS]at HUR HI;have B0:=Yh (HUR.o.same (SameS.below qa));have An:=Ad.o.2 y.sp Yt;have A1:=ZV1 S V a1 o1 c1 c2 y.sp.typ wa (fun b hb=>AP.o b (Yj qa.size hb)) B0.o Ad.o.1 An;obtain⟨⟨V2,f,e1⟩,hR⟩:∃R,underU V y.sp.typ=R:=⟨_,rfl⟩
   have hW:undR V y.sp.typ=(V2,f,[],e1):=by unfold undR;rw[hR]
   have HR:=Yh hR;have B1:=Yh An;rw[hW]at A1;unfold unV TRes at A1;obtain⟨L1,hL1⟩:=Yn (V.types.length);obtain⟨m1,hm1⟩:=Yn (V.named.length);rw[hL1,hm1]at A1 HK;simp only[List.length_nil]at A1;have B4:=Yh A1;have QA:=Yh qa;have B5:=Yh (HK.o.below qa);obtain⟨x0,x1,-,-,-,-⟩:=cell6L B5.o;have KA:=Yh ka;have Ao:=(cell4 ka).1;have Bs:(k:Int)<(n:Int):=by omega
   clear Al A7 hc hb hy ka qa za hS A1 hR hW hL1 hm1 An hcap hba;go_wp2_with fail;refine B4.o.mono ?_;rintro e9 w5 ⟨a2,o2,c3,c4,m2,mc2,rfl,hX,-,-,b5⟩;have B6:=Yh hX;obtain⟨w6,h6,k6,q6,z6⟩:=YA w5 #[.slice a2 V2.types.length c3,.slice o2 V2.named.length c4,.int .i64 f,.slice m2 0 mc2,.int .i64 e1] 117;have Ab:=@Yh (Below wr.heap.size wr w6) ((YU QA b5).trans (q6.mono (YU QA b5).size));have Ap:=Yh (B6.o.same (SameS.below q6));have B7:=YT HB Ab.o;have B8:=Yh ((KA.o.below b5).below q6);have K6:=Yh k6;obtain⟨t0,t1,t2,-,t4⟩:=cell5 k6;have B9:=@Yh (wr.heap.size<=w5.heap.size) (Yj QA.o.size b5.size);clear hX b5 k6 q6 z6 x0 x1 Ao r0 r1 r2 r3;go_upto_region 6 with fail;clear h6 ha
   by_cases he:e1=0
   case neg =>
    have Aq:=@Yh (F=(noUn,[],e1)) (by rw[Am.o];exact Zz1 HR.o he);have hq:(e1 != 0)=true:=by rw[YJ];exact he
    have Ar:=Yh he;clear he;obtain⟨⟨e0,e1',e2,e3,e4,e5⟩,f0,f1,f2,f3,f4,f5⟩:=Zu (HRB.o.below Ab.o);have BS:=Yh (Zj B7.o (Nat.le_of_lt A6.o) (.slice none 0 0) (.slice none 0 0) (.slice none 0 0) (.slice none 0 0) (.slice none 0 0) (.int .i64 e1));unfold set6 at BS;go_wp2_with fail
    try simp only[Exit.inBlock,Exit.then]
    refine bodyPost_ret (v:=.agg #[.slice none 0 0,.slice none 0 0,.slice none 0 0,.slice none 0 0,.slice none 0 0,.int .i64 e1]) ?_ rfl ?_
    ·simp[results,Tryz.results59,go_sem,e0,e1',e2,e3,e4,e5]
    rw[Aq.o];exact .inl ⟨Ar.o,rfl,BS.o⟩
   subst he;obtain⟨hown,hof,hrV,hext⟩:=Zf3 Ad.o.1 B1.o HR.o;have A3:inL V2.types f=true:=by have:=(ZV Ad.o.1 y.sp.typ).2 (by rw[HR.o]);rw[HR.o]at this;exact this.2.2.1
   unfold inL at A3;have A3:=Yf A3;obtain⟨zf,rfl⟩:∃zf:Nat,f=(zf:Int):=⟨f.toNat,by omega⟩
   have As:zf<V2.types.length:=by omega
   obtain⟨ab,aof,rfl,hab,hac2⟩:=Ap.o.o.types.cells (by omega);obtain⟨_,_,_,_,g0,-⟩:=hac2 zf As;have AQ:=Yh (Ze As);obtain⟨kf,hkf⟩:=Yn (V2.types[zf].kind);rw[hkf]at g0 AQ;have At:=Ap.o.tl;have A0:=Z9a S V2 (some ⟨ab,aof,none⟩) o2 c3 c4 (ofR V2 y.sp.typ (zf:Int)) w6 (fun b hb=>AP.o b (Yj Ab.o.size hb)) Ap.o hrV hof;obtain⟨⟨X,ms,e2⟩,hO⟩:∃R,ownU V2 y.sp.typ (zf:Int)=R:=⟨_,rfl⟩
   have hW:ownR V2 (ofR V2 y.sp.typ (zf:Int))=(X,0,ms,e2):=by unfold ownR;rw[hown,hO]
   have Au:=Yh hO;rw[hW]at A0;unfold unV TRes at A0;obtain⟨L2,hL2⟩:=Yn (V2.types.length);obtain⟨m3,hm3⟩:=Yn (V2.named.length);rw[hL2]at A0 t0 K6 At As;rw[hm3]at A0 t1 K6;have Bt:(zf:Int)<(L2:Int):=by omega
   have Ao:=(cell4 B8.o).1;have Ba:=@Yh (ofR V2 y.sp.typ (zf:Int)=if kf=7 then(zf:Int)else y.sp.typ) (by unfold ofR;rw[AQ.o]);rw[Ba.o]at A0;clear hown hof hrV hext A3 hab hac2 hkf hO hW hL2 hm3
   by_cases h7:kf=7
   focus
    have Bb:(kf==7)=true:=by rw[YK];exact h7
    rw[if_pos h7]at A0
   rotate_left
   focus
    have Bb:(kf==7)=false:=by rw[Yc];exact h7
    rw[if_neg h7]at A0
   all_goals
    have Bc:=Yh A0;clear A0 h7;go_wp2_with fail;refine Bc.o.mono ?_;rintro e9 w7 ⟨a3,o3,c5,c6,m4,mc4,rfl,hX,hMs,hml,b7⟩;have Bd:=Yh hX;have Be:=Yh hMs;have Bf:=Yh hml;obtain⟨w8,h8,k8,q8,z8⟩:=YA w7 #[.slice a3 X.types.length c5,.slice o3 X.named.length c6,.int .i64 0,.slice m4 ms.length mc4,.int .i64 e2] 117;have Ac:=@Yh (Below wr.heap.size wr w8) ((YU Ab b7).trans (q8.mono (YU Ab b7).size));have Bg:=Yh (Bd.o.same (SameS.below q8));have Bh:=Yh (Be.o.same (SameS.below q8));have AR:=YT HB Ac.o;have Bi:=Yh ((K6.o.below b7).below q8);have K8:=Yh k8;have Bj:=Yh b7.size;obtain⟨s0,s1,-,s3,s4⟩:=cell5 k8;clear hX hMs hml b7 k8 q8 z8 t0 t1 t2 t4 g0 Ao;go_upto_region 12 with fail;clear h8
    by_cases he:e2=0
    case neg =>
     have Aq:=@Yh (F=(noUn,[],e2)) (by rw[Am.o];exact Zo0 HR.o Au.o he);have hq:(e2 != 0)=true:=by rw[YJ];exact he
     have Ar:=Yh he;clear he;obtain⟨⟨e0,e1',e2',e3,e4,e5⟩,f0,f1,f2,f3,f4,f5⟩:=Zu (HRB.o.below Ac.o);have BS:=Yh (Zj AR.o (Nat.le_of_lt A6.o) (.slice none 0 0) (.slice none 0 0) (.slice none 0 0) (.slice none 0 0) (.slice none 0 0) (.int .i64 e2));unfold set6 at BS;go_wp2_with fail
     try simp only[Exit.inBlock,Exit.then]
     refine bodyPost_ret (v:=.agg #[.slice none 0 0,.slice none 0 0,.slice none 0 0,.slice none 0 0,.slice none 0 0,.int .i64 e2]) ?_ rfl ?_
     ·simp[results,Tryz.results59,go_sem,e0,e1',e2',e3,e4,e5]
     rw[Aq.o];exact .inl ⟨Ar.o,rfl,BS.o⟩
    subst he;have Bk:=@Yh (F=joinL (d++[⟨y.sp,(zf:Int),ms⟩]) (lookT ((es.drop (k+1)).map (·.sp)) X)) (by rw[Am.o];exact ZO0 HR.o Au.o);have Bl:=Yh (Z31 Ad.o HR.o Au.o)
    have NU:=Yh (show w5.heap.size≠w.heap.size/\w7.heap.size≠w.heap.size/\w1.heap.size≠w.heap.size/\w.heap.size<w2.heap.size from by
     have g1:=A6.o;have g2:=A2.o;have g3:=AO.o;have g4:=B9.o;have g5:=Ab.o.size;have g6:=Bj.o
     omega)
    have NS:=@Yh (¬S w.heap.size) (fun g=>((Aa.o _).1 g).1.2.1 rfl);obtain⟨w9,h9⟩:=Yn (w8.setCell ⟨w.heap.size,0,none⟩ (.slice a3 X.types.length c5));obtain⟨w10,h10⟩:=Yn (w9.setCell ⟨w.heap.size,1,none⟩ (.slice o3 X.named.length c6));have Av:=Yh (HK.o.below Ac.o);have Aw:=Yh (Z23 Av.o h9);have Ae:=Yh (Zz3 Aw.o h10);have A5:=Yh (Z4 (Z4 (HRB.o.below Ac.o) NU.o.2.2.1 h9) NU.o.2.2.1 h10);have Ax:=Yh (Z4 (Z4 Bi.o NU.o.1 h9) NU.o.1 h10);have Ay:=Yh (Z4 (Z4 K8.o NU.o.2.1 h9) NU.o.2.1 h10);have Az:=Yh ((Bg.o.same (SameS.set NS.o h9)).same (SameS.set NS.o h10));have AA:=Yh ((Bh.o.same (SameS.set NS.o h9)).same (SameS.set NS.o h10));have Af:=@Yh (∀z∈zs,InW S w10 z) (fun z hz=>⟨(((HI.o z hz).1.same (SameS.below Ac.o)).same (SameS.set NS.o h9)).same (SameS.set NS.o h10),(HI.o z hz).2⟩);have A4:=Yh (((HO.o.kept Ac.o).other NU.o.2.2.2 h9).other NU.o.2.2.2 h10);have Bm:=@Yh (w10.ownsRow w2.heap.size 120 2 (.slice lo1 k cap) k (encs wC zs)) (by have:=A4.o;unfold OwnG at this;rw[HZ.o]at this;exact this);have AB:=Yh (Z6 (Z6 AR.o (Yk _) h9) (Yk _) h10)
    have AC:=Yh (show w2.heap.size<=w10.heap.size from by
     have g1:=A2.o;have g2:=A5.o.lt;have g3:=Z2.o
     omega)
    have p0:=(cell6L Av.o).1;have p1:=Av.o.free 0;have p2:=(cell6L Aw.o).2.1;have p3:=Aw.o.free 1;have p4:=(cell6L Ae.o).2.2.2.1;have p5:=(cell5 Ax.o).2.2.1;have p6:=(cell5 Ay.o).2.2.2.1;have s1:=(cell5 (Z4 K8.o NU.o.2.1 h9)).2.1;have Bn:=(cell5 K8.o).2.1;go_wp2_with (at_builtin;refine wpList_append_own_at _ rfl _ _ 76 rfl w2.heap.size 120 i0 (.agg #[.int .i64 0,.slice none 0 0]) 2 32 Tryz.underlying76 hi hz0 hz1 hz2 rfl (by decide) _ k (encs wC zs) rfl (Bm.o.alloc _) ⟨w10.heap.size,0,none⟩ 1 1 (wC ⟨(zf:Int),ms,m4,mc4⟩) rfl ?c1 ?c2 ?c3 ?c4 ?c5 ?c6 ?_)
    case c1=>rfl
    case c2=>first|exact Z9 _ _ _|exact fun j u h=>h
    case c3=>exact Zrb _
    case c4=>unfold maxLen;omega
    case c5=>omega
    case c6=>have:=AC.o;simp;omega
    intro v' w11 hown hgrow _ hblk;have hp:=pushG (l:=zs) (r:=[(⟨(zf:Int),ms,m4,mc4⟩:Wz)]) (by first|(rw[HZ.o];done)|(rw[HZ.o];rfl)) (Nat.le_of_lt NU.o.2.2.2) A4.o AB.o ((Y8 _ _).alloc (Yk _) (.cells (wC ⟨(zf:Int),ms,m4,mc4⟩).toArray 120)) (by rw[Zs];exact hown) hgrow (by simpa using hblk);have Ag:=Yh hp.1;have AD:=Yh hp.2.1;have AS:=A4.o.not (.inl NU.o.2.2.2);have AT:=A4.o.not (.inl A2.o);have A8:=Yh (hp.2.2.1 _ _ _ Ae.o AS);have Ah:=Yh (hp.2.2.1 _ _ _ A5.o AT);have AE:=Yh (hp.2.2.2 S (fun b hs=>((Aa.o b).1 hs).2) _ _ _ _ _ Az.o);obtain⟨wn,hwn⟩:=Yn (w10.alloc (.cells (wC ⟨(zf:Int),ms,m4,mc4⟩).toArray 120));have AU:wn.grownBy w11 (Value.slice lo1 k cap).ownBlock:=by rw[<-hwn];exact hgrow
    have AV:v'.ownBlock=(Value.slice lo1 k cap).ownBlock\/v'.ownBlock=some wn.heap.size:=by rw[(Za hwn).2.2];exact hblk
    have qn:=(Za hwn).2.1;have AF:=ZP (S:=fun b=>S b/\v'.ownBlock≠some b) AU (fun b hs=>((Aa.o b).1 hs.1).2)
    have A9:∀b,b<wn.heap.size->S b->S b/\v'.ownBlock≠some b:=fun b hlt hs=>⟨hs,fun he=>by
     rcases AV with g|g
     ·rw[g]at he;exact((Aa.o b).1 hs).2 he
     ·rw[g]at he;injection he with he;omega⟩
    have AG:=Yh ((ZF (T:=fun b=>S b/\v'.ownBlock≠some b) (AA.o.same (SameS.below qn)) A9).same AF);have Ai:=@Yh (∀z∈zs,InW (fun b=>S b/\v'.ownBlock≠some b) w11 z) (fun z hz=>⟨(ZF (T:=fun b=>S b/\v'.ownBlock≠some b) ((Af.o z hz).1.same (SameS.below qn)) A9).same AF,(Af.o z hz).2⟩);clear hown hgrow hblk hp AU AV qn hwn AF A9 AS AT;obtain⟨lo2,cap2,hv2,-⟩:=Ag.o.row Z05;obtain⟨yl,hyl⟩:=Yn ((zs++[(⟨(zf:Int),ms,m4,mc4⟩:Wz)]).length);rw[hyl]at hv2;subst hv2;clear hyl;obtain⟨w12,h12⟩:=Yn (w11.setCell ⟨w.heap.size,3,none⟩ (.slice lo2 yl cap2));have AH:=@Yh (¬(S w.heap.size/\(Value.slice lo2 yl cap2).ownBlock≠some w.heap.size)) (fun g=>NS.o g.1);have TS:=@Yh (∀b,b<w12.heap.size->(S b/\(Value.slice lo2 yl cap2).ownBlock≠some b)->apS Sb w.heap.size w1.heap.size (.slice lo2 yl cap2) b) (fun b _ hs=>⟨((Aa.o b).1 hs.1).1,hs.2⟩);have AI:=Yh (Ag.o.other NU.o.2.2.2 h12);have AJ:=Yh (Z6 AD.o (Yk _) h12);have AK:=Yh (Z43 A8.o h12);have Aj:=Yh (Z4 Ah.o NU.o.2.2.1 h12);have AL:=Yh (Zf (AE.o.same (SameS.set AH.o h12)) TS.o)
    have AM:=Yh (show ∀z∈zs++[(⟨(zf:Int),ms,m4,mc4⟩:Wz)],InW (apS Sb w.heap.size w1.heap.size (.slice lo2 yl cap2)) w12 z from fun z hz=>by
     rcases Yz.1 hz with g|g
     ·exact⟨ZF ((Ai.o z g).1.same (SameS.set AH.o h12)) TS.o,(Ai.o z g).2⟩
     ·obtain rfl:=Yo.1 g
      exact⟨ZF (AG.o.same (SameS.set AH.o h12)) TS.o,Bf.o⟩)
    have Bo:=@Yh ((zs++[(⟨(zf:Int),ms,m4,mc4⟩:Wz)]).map (fun z=>(z.form,z.ms))=(d++[(⟨y.sp,(zf:Int),ms⟩:Lk)]).map dataW) (by rw[Yu,Yu,HD.o];rfl);have u3:=A8.o.free 3;have v3:=(cell6L A8.o).2.2.2.1;clear p0 p1 p2 p3 p4 p5 p6 s0 s1 Bn s3 s4;go_wp2_with fail;go_roundw
    case rel=>exact⟨k+1,X,a3,o3,c5,c6,d++[⟨y.sp,(zf:Int),ms⟩],zs++[⟨(zf:Int),ms,m4,mc4⟩],_,by omega,by go_num,Bk,Yh (by have:=HZ.o;simp;omega),Bo,Bl,AL,AK,Aj,AI,AM,AJ⟩
    case measure=>first|(simp[intOf];done)|(simp[intOf];omega)
  ·obtain rfl:k=n:=by omega
   have A7:es.drop k=[]:=List.drop_of_length_le (by rw[HN.o];exact Yk _);have Bp:=@Yh (F=(V,d,0)) (by rw[HFK.o,A7];exact Zd6 d V);obtain⟨L1,hL1⟩:=Yn (V.types.length);obtain⟨m1,hm1⟩:=Yn (V.named.length);have AW:=Yh (YH hL1 hm1);rw[hL1,hm1]at HK;rw[HZ.o]at hcap;have Bq:=Yh hcap;clear hL1 hm1 A7 hcap hba;obtain⟨x0,x1,x2,x3,x4,x5⟩:=cell6L HK.o;obtain⟨⟨e0,e1,e2,e3,e4,e5⟩,f0,f1,f2,f3,f4,f5⟩:=Zu HRB.o;have NS:=@Yh (¬apS Sb w.heap.size w1.heap.size (.slice lo1 k cap) w1.heap.size) (fun g=>g.1.2.2 rfl);have SM:=Yh (Z51 NS.o wr (.slice a1 L1 c1) (.slice o1 m1 c2) (.slice eo k ec) (.slice lo1 k cap) (.slice so sl sc) (.int .i64 0));have HX:=Yh (Zf (T:=Sb) (HUR.o.same SM.o) (fun b _ hs=>hs.1.1));have AX:=@Yh (∀z∈zs,InW Sb (set6 wr w1.heap.size (.slice a1 L1 c1) (.slice o1 m1 c2) (.slice eo k ec) (.slice lo1 k cap) (.slice so sl sc) (.int .i64 0)) z) (fun z hz=>⟨ZF (T:=Sb) ((HI.o z hz).1.same SM.o) (fun b _ hs=>hs.1.1),(HI.o z hz).2⟩);have AY:=@Yh (OwnG 2 wC 120 (set6 wr w1.heap.size (.slice a1 L1 c1) (.slice o1 m1 c2) (.slice eo k ec) (.slice lo1 k cap) (.slice so sl sc) (.int .i64 0)) w2.heap.size (.slice lo1 k cap) zs) ((((((HO.o.other A2.o rfl).other A2.o rfl).other A2.o rfl).other A2.o rfl).other A2.o rfl).other A2.o rfl);have BS:=Yh (Zj HB.o (Nat.le_of_lt A6.o) (.slice a1 L1 c1) (.slice o1 m1 c2) (.slice eo k ec) (.slice lo1 k cap) (.slice so sl sc) (.int .i64 0));unfold set6 at HX AX AY BS;clear HO hi hz0 hz1 hz2 SM NS;go_wp2_with fail
   try simp only[Exit.inBlock,Exit.then]
   refine bodyPost_ret (v:=.agg #[.slice a1 L1 c1,.slice o1 m1 c2,.slice eo k ec,.slice lo1 k cap,.slice so sl sc,.int .i64 0]) ?_ rfl ?_
   ·simp[results,Tryz.results59,go_sem,e0,e1,e2,e3,e4,e5]
   rw[Bp.o];obtain⟨lo3,cap3,hv3,hlc,-,hr⟩:=AY.o.row Z05;rw[HZ.o]at hv3 hlc
   injection hv3 with i1 i2 i3
   subst i1;subst i3;refine .inr ⟨rfl,a1,o1,c1,c2,lo1,cap,zs,?_,HX.o,hr Sb (fun b hb=>AN.o b (Yj (Yj (Nat.le_of_lt A6.o) (Nat.le_of_lt A2.o)) hb)),AX.o,by rw[HZ.o];exact hlc,HD.o,BS.o⟩
   show _=Ending.returned (.agg #[.slice _ V.types.length _,.slice _ V.named.length _,_,.slice lo1 zs.length cap,_,_])
   rw[AW.o.1,AW.o.2,HZ.o]
def PathIn(Sb:Nat->Prop)(w:World)(z:Ez):Prop:=IRowS Sb w z.po z.sp.path/\z.sp.path.length<=z.pc/\(z.po=none->z.pc=0)
def LvA(Sb:Nat->Prop)(w:World)(val:Value)(l:Lv):Prop:=
 ∃ao no ac nc eo ec wo wc so sc,∃ez:List Ez,∃wz:List Wz,val=.agg #[.slice ao l.u.types.length ac,.slice no l.u.named.length nc,.slice eo ez.length ec,.slice wo wz.length wc,.slice so l.seen.length sc,.int .i64 l.e]/\UnS Sb w ao no ac nc l.u /\
  GRow 4 eC Sb w eo ez/\ez.map (·.sp)=l.es/\(∀z∈ez,PathIn Sb w z)/\ez.length<=ec/\GRow 2 wC Sb w wo wz/\(∀z∈wz,InW Sb w z)/\wz.length<=wc/\wz.map (fun z=>(z.form,z.ms))=l.ls.map dataW/\IRowS Sb w so l.seen/\l.seen.length<=sc/\(so=none->sc=0)
theorem Z7{Sb:Nat->Prop}{w w':World}{ao:Option Addr}{zs:List Int}(h:IRowS Sb w ao zs)(hs:SameS Sb w w'):IRowS Sb w' ao zs:=by
 rcases h with h|⟨b,off,e,hb,hS,hc⟩
 ·exact .inl h
 ·exact .inr ⟨b,off,e,Yi hb hs.1,hS,fun i hi=>(hs.2 b _ hb hS).trans (hc i hi)⟩
theorem ZR6{Sb:Nat->Prop}{w:World}{ao:Option Addr}{c:Nat}{zs:List Int}(h:IRowS Sb w ao zs)(h0:0<zs.length):ao=none->c=0:=fun e=>by
 rcases h with h|⟨b,off,g,-⟩
 ·rw[h]at h0;exact absurd h0 (Nat.lt_irrefl _)
 ·rw[e]at g;cases g
theorem LvA.same{Sb:Nat->Prop}{w w':World}{val:Value}{l:Lv}(h:LvA Sb w val l)(hs:SameS Sb w w'):LvA Sb w' val l:=by
 obtain⟨ao,no,ac,nc,eo,ec,wo,wc,so,sc,ez,wz,e,hU,hE,hm,hp,hec,hW,hI,hwc,hd,hs2,hsc⟩:=h;exact⟨ao,no,ac,nc,eo,ec,wo,wc,so,sc,ez,wz,e,hU.same hs,hE.same hs,hm,fun z hz=>⟨Z7 (hp z hz).1 hs,(hp z hz).2⟩,hec,hW.same hs,fun z hz=>⟨(hI z hz).1.same hs,(hI z hz).2⟩,hwc,hd,Z7 hs2 hs,hsc⟩
theorem Zc9(Sb:Nat->Prop)(w:World)(e:Int):LvA Sb w (.agg #[.slice none 0 0,.slice none 0 0,.slice none 0 0,.slice none 0 0,.slice none 0 0,.int .i64 e]) (badL e):=
 ⟨none,none,0,0,none,0,none,0,none,0,[],[],rfl,Zj0 _ _,.inl rfl,rfl,fun z hz=>absurd hz (by simp),Yk _,.inl rfl,fun z hz=>absurd hz (by simp),Yk _,rfl,.inl rfl,Yk _,fun _=>rfl⟩
theorem ZD5{Sb:Nat->Prop}{w w':World}{e:Ending}{u:Un}{ez:List Ez}{eo so:Option Addr}{ec sc:Nat}{seen:List Int}(h:LRes Sb w (.slice eo ez.length ec) (.slice so seen.length sc) (lookT (ez.map (·.sp)) u) e w')
  (hE:GRow 4 eC Sb w eo ez) (hp:∀z∈ez,PathIn Sb w z) (hec:ez.length<=ec) (hs:IRowS Sb w so seen) (hsc:seen.length<=sc) (hsn:so=none->sc=0):∃val,e=.returned val/\LvA Sb w' val (lkL u (ez.map (·.sp)) seen)/\Below w.heap.size w w':=by
 rcases h with⟨h0,he,hb⟩|⟨h0,ao,no,ac,nc,wo,wc,zs,he,hU,hW,hI,hwc,hd,hb⟩
 ·refine⟨_,he,?_,hb⟩
  unfold lkL;rw[if_pos h0];exact Zc9 _ _ _
 ·refine⟨_,he,?_,hb⟩
  unfold lkL;rw[if_neg (fun g=>g h0)];have sm:SameS Sb w w':=SameS.below hb;exact⟨ao,no,ac,nc,eo,ec,wo,wc,so,sc,ez,zs,rfl,hU,hE.same sm,rfl,fun z hz=>⟨Z7 (hp z hz).1 sm,(hp z hz).2⟩,hec,hW,hI,hwc,hd,Z7 hs sm,hsc,hsn⟩
theorem Zn6{w w1:World}{b:Nat}{a0 a1 a2 a3 a4 a5 v:Value}{T:TypeId}(h:BlockAt w b #[a0,a1,a2,a3,a4,a5] T)(h1:w.setCell ⟨b,2,none⟩ v=w1):BlockAt w1 b #[a0,a1,v,a3,a4,a5] T:=by
 subst h1;have:=h.set 2 v
 simpa using this
theorem Z66{w w1:World}{b:Nat}{a0 a1 a2 a3 a4 a5 v:Value}{T:TypeId}(h:BlockAt w b #[a0,a1,a2,a3,a4,a5] T)(h1:w.setCell ⟨b,4,none⟩ v=w1):BlockAt w1 b #[a0,a1,a2,a3,v,a5] T:=by
 subst h1;have:=h.set 4 v
 simpa using this
def iC(q:Int):List Value:=[.int .i64 q]
theorem ZW(q:Int):(iC q).length=1:=rfl
theorem ZW4(q:Int):∀u∈iC q,u.oneCell'=true:=by
 intro u hu;simp only[iC,List.mem_cons,List.not_mem_nil,or_false]at hu;subst hu
 rfl
theorem ZX{S:Nat->Prop}{w:World}{ao:Option Addr}{l:List Int}(h:GRow 1 iC S w ao l):IRowS S w ao l:=by
 rcases h with h|⟨b,off,e,hb,hS,hc⟩
 ·exact .inl h
 ·refine .inr ⟨b,off,e,hb,hS,fun i hi=>?_⟩
  have:=hc i hi 0 _ rfl;rw[Nat.mul_one,Nat.add_zero]at this
  first|exact this|(rw[Z3 hi];exact this)
theorem LvA.sub{S R:Nat->Prop}{w:World}{val:Value}{l:Lv}(h:LvA S w val l)(hs:∀b,b<w.heap.size->S b->R b):LvA R w val l:=by
 have ir:∀{ao zs},IRowS S w ao zs->IRowS R w ao zs:=fun {ao zs} h=>by
  rcases h with h|⟨b,off,e,hb,hS,hc⟩
  ·exact .inl h
  ·exact .inr ⟨b,off,e,hb,hs b hb hS,hc⟩
 obtain⟨ao,no,ac,nc,eo,ec,wo,wc,so,sc,ez,wz,e,hU,hE,hm,hp,hec,hW,hI,hwc,hd,hs2,hsc⟩:=h;exact⟨ao,no,ac,nc,eo,ec,wo,wc,so,sc,ez,wz,e,Zf hU hs,hE.sub hs,hm,fun z hz=>⟨ir (hp z hz).1,(hp z hz).2⟩,hec,hW.sub hs,fun z hz=>⟨ZF (hI z hz).1 hs,(hI z hz).2⟩,hwc,hd,ir hs2,hsc⟩
set_option maxRecDepth 100000 in
theorem ZF5(Sb:Nat->Prop)(u:Un)(ao no:Option Addr)(ac nc:Nat)(z:Nat)(w:World)(hSb:∀b,w.heap.size<=b->Sb b)(hU:UnS Sb w ao no ac nc u)(hr:rightU u=true)(hzl:z<u.types.length)(h1k:u.types[z].kind≠1) :
  Calls Tryz.prog 30 #[unV u ao ac no nc,.int .i64 z] w fun e w'=>∃val,e=.returned val/\LvA Sb w' val (firstL u (z:Int))/\Below w.heap.size w w':=by
 have Ac:inL u.types (z:Int)=true:=by unfold inL;exact Yb (by omega)
 have Al:=Yh (show firstL u (z:Int)=lkL u [⟨(z:Int),false,[],false⟩] [(z:Int)]by
  unfold firstL;rw[if_pos];unfold tyU funT;rw[Yw,Z3 hzl];exact h1k)
 have Am:=@Yh (Gl u [⟨(z:Int),false,[],false⟩]) (⟨hr,fun s hs=>by obtain rfl:=Yo.1 hs;exact Ac⟩);rw[Al.o];obtain⟨FL,hFL⟩:=Yn (lkL u [⟨(z:Int),false,[],false⟩] [(z:Int)]);have An:=Yh hFL;rw[hFL];obtain⟨ab,aof,rfl,hab,hac2⟩:=hU.o.types.cells (by omega);obtain⟨xw,xwc,xk,xkc,a0',a1',a2',a3',a4',hwc,hkc,hxc⟩:=hac2 z hzl;obtain⟨x,hx⟩:=Yn (u.types[z]);rw[hx]at a0' a1' a2' a3' a4' h1k;obtain⟨L,hL⟩:=Yn (u.types.length);obtain⟨n,hn⟩:=Yn (u.named.length);have HL:=Yh hL;have HN:=Yh hn;have Ao:=hU.tl;rw[hL]at Ao hzl;have AI:(z:Int)<(L:Int):=by omega
 obtain⟨m,hm⟩:=Yn (x.words.length);obtain⟨kl,hkl⟩:=Yn (x.kids.length);rw[hm]at a3';rw[hkl]at a4';unfold unV;rw[hL,hn];obtain⟨w1,h1,k1,q1,z1⟩:=YA w #[.slice (some ⟨ab,aof,none⟩) L ac,.slice no n nc] 25;obtain⟨w2,h2,k2,q2,z2⟩:=YA w1 #[.slice none 0 0,.slice none 0 0,.slice none 0 0,.slice none 0 0,.slice none 0 0,.int .i64 0] 78;obtain⟨w3,h3,k3,q3,z3⟩:=YA w2 #[.slice (some ⟨ab,aof,none⟩) L ac,.slice no n nc,.slice none 0 0,.slice none 0 0,.slice none 0 0,.int .i64 0] 78;obtain⟨w4,h4,k4,q4,z4⟩:=YA w3 #[.int .i64 x.kind,.string x.name,.int .i64 x.n,.slice xw m xwc,.slice xk kl xkc] 50;obtain⟨w5,h5,k5,q5,z5⟩:=YA w4 #[.int .i64 (z:Int),.bool false,.bool false,.slice none 0 0] 115;have B3:=(q1.trans (q2.mono q1.size)).trans (q3.mono (q1.trans (q2.mono q1.size)).size);have B5:=Yh ((B3.trans (q4.mono B3.size)).trans (q5.mono (B3.trans (q4.mono B3.size)).size));have SZ:=Yh (YH q1.size (YH z2 (YH z3 (YH z4 z5))));have Ad:=Yh ((k3.below q4).below q5);have Ap:=Yh (((k2.below q3).below q4).below q5);have Aq:=Yh k5;have Ar:=Yh ((ZM hU (c:=w1.heap.size) (d:=w2.heap.size) ⟨q1.size,Yj q1.size q2.size⟩).same (SameS.below B5.o));have A5:=Yh hSb;have a0:=(B3.cell hab).trans a0';have a1:=(B3.cell hab).trans a1';have a2:=(B3.cell hab).trans a2';have a3:=(B3.cell hab).trans a3';have a4:=(B3.cell hab).trans a4';obtain⟨y0,y1⟩:=cell2 (k1.below q2);obtain⟨y2,y3⟩:=cell2 ((k1.below q2).below q3);obtain⟨o0,o1,o2,o3,o4,o5⟩:=cell6L k3;have g2:=k3.same (k:=2) (v:=.slice none 0 0) rfl;have g3:=k3.same (k:=3) (v:=.slice none 0 0) rfl;have g4:=k3.same (k:=4) (v:=.slice none 0 0) rfl;have g5:=k3.same (k:=5) (v:=.int .i64 0) rfl;have f2:=k3.free 2;have f3:=k3.free 3;have f4:=k3.free 4;have f5:=k3.free 5;obtain⟨p0,p1,p2,p3⟩:=cell4 k5;have s1:=k5.same (k:=1) (v:=.bool false) rfl;have s2:=k5.same (k:=2) (v:=.bool false) rfl;have s3:=k5.same (k:=3) (v:=.slice none 0 0) rfl;have r1:=k5.free 1;have r2:=k5.free 2;have r3:=k5.free 3;have As:=(cell5 (k4.below q5)).1;have AJ:(x.kind==1)=false:=by rw[Yc];exact h1k
 clear hFL Ac hab hac2 a0' a1' a2' a3' a4' hwc hkc hxc hx hL hn hm hkl k1 k2 k3 k4 k5 q1 q2 q3 q4 q5 z1 z2 z3 z4 z5 B3 h1k hU hr hSb;obtain⟨i0,hi,hz0,hz1,hz2⟩:=info_parts Zx7;obtain⟨j0,hj,hj0,hj1,hj2⟩:=info_parts ZI0;go_enter Tryz.func30,Tryz.ntmps30;go_upto_region 2 with fail
 try rw[g2]
 try rw[g3]
 try rw[g4]
 try rw[g5]
 clear g2 g3 g4 g5 f2 f3 f4 f5 h1 h2 h3 o0 o1 o2 o3 o4 o5 y0 y1;go_upto_region 4 with fail
 try rw[s1]
 try rw[s2]
 try rw[s3]
 clear s1 s2 s3 r1 r2 r3 h4 h5 a0 a1 a2 a3 a4 y2 y3;obtain⟨Z,hZ⟩:∃Z:Ez,Z=⟨⟨(z:Int),false,[],false⟩,none,0⟩:=⟨_,rfl⟩
 have HZ:=Yh hZ;have Ae:eC Z=[.int .i64 (z:Int),.bool false,.bool false,.slice none 0 0]:=by rw[hZ];rfl
 have At:=Yh Ae;have o2:=(cell6L Ad.o).2.2.1;clear hZ Ae;go_wp2_with (at_builtin;refine wpList_append_own_at _ rfl _ _ 75 rfl w5.heap.size 115 i0 (.agg #[.int .i64 0,.bool false,.bool false,.slice none 0 0]) 4 40 Tryz.underlying75 hi hz0 hz1 hz2 rfl (by decide) _ 0 [] rfl (World.ownsRow_nil _ _ _ _) ⟨w5.heap.size,0,none⟩ 1 1 (eC Z) rfl ?c1 ?c2 ?c3 ?c4 ?c5 ?c6 ?_)
 case c1=>rfl
 case c2=>rw[At.o];first|exact Z9 _ _ _|exact fun j u h=>h
 case c3=>exact Z33 _
 case c4=>unfold maxLen;omega
 case c5=>omega
 case c6=>simp
 intro v1 w6 hown hgrow _ hblk;have hp:=pushG (k:=4) (enc:=eC) (T:=115) (W:=w5) (wr:=w5) (base:=w5.heap.size) (v:=.slice none 0 0) (l:=([]:List Ez)) (r:=[Z]) rfl (Yk _) (ZY0 _ _) (Y8 _ _) ((Y8 _ _).alloc (Yk _) (.cells #[.int .i64 (z:Int),.bool false,.bool false,.slice none 0 0] 115)) (by rw[Zs];exact hown) hgrow (by simpa using hblk);have Af:=Yh hp.1;have A1:=Yh hp.2.1;clear hown hgrow hblk hp o2 As;obtain⟨lo,cap,A6,hcap,hlb,-⟩:=Af.o.row Zk2;have A6:v1=.slice lo 1 cap:=A6;subst A6;obtain⟨w7,h7⟩:=Yn (w6.setCell ⟨w2.heap.size,2,none⟩ (.slice lo 1 cap));have A7:=Yh (Ad.o.below A1.o);have Ag:=Yh (Zn6 A7.o h7);have NE:=@Yh (w4.heap.size≠w2.heap.size/\w1.heap.size≠w2.heap.size/\w2.heap.size<w5.heap.size/\w1.heap.size<w5.heap.size/\w.heap.size<=w2.heap.size/\w.heap.size<=w1.heap.size) (by have:=SZ.o;omega);have Au:=Yh (Z4 (Aq.o.below A1.o) NE.o.1 h7);have Av:=Yh (Z4 (Ap.o.below A1.o) NE.o.2.1 h7);have Ah:=@Yh (¬lessS Sb w1.heap.size w2.heap.size w2.heap.size) (fun g=>g.2.2 rfl);have Aw:=@Yh (¬lessS Sb w1.heap.size w2.heap.size w1.heap.size) (fun g=>g.2.1 rfl);have Ax:=Yh ((Ar.o.same (SameS.below A1.o)).same (SameS.set Ah.o h7));have Ay:=Yh (Af.o.other NE.o.2.2.1 h7);have B7:=Yh (Z6 (YU B5 A1.o) NE.o.2.2.2.2.1 h7);have A4:=@Yh (w5.heap.size<=w7.heap.size) (Yj A1.o.size (SameS.set (Sb:=fun _=>False) (fun g=>g) h7).1);have t2:=(cell6L A7.o).2.2.1;have f2:=A7.o.free 2;have t4:=(cell6L Ag.o).2.2.2.2.1;have Az:=(cell4 Au.o).1;clear p0 p1 p2 p3;go_wp2_with (at_builtin;refine wpList_append_own_at _ rfl _ _ 26 rfl w7.heap.size 3 j0 (.int .i64 0) 1 8 Tryz.underlying26 hj hj0 hj1 hj2 rfl (by decide) _ 0 [] rfl (World.ownsRow_nil _ _ _ _) ⟨w7.heap.size,0,none⟩ 1 1 (iC (z:Int)) rfl ?c1 ?c2 ?c3 ?c4 ?c5 ?c6 ?_)
 case c1=>rfl
 case c2=>first|exact Z9 _ _ _|exact fun j u h=>h
 case c3=>exact ZW4 _
 case c4=>unfold maxLen;omega
 case c5=>omega
 case c6=>simp
 intro v2 w8 hown hgrow _ hblk;have hp:=pushG (k:=1) (enc:=iC) (T:=3) (W:=w7) (wr:=w7) (base:=w7.heap.size) (v:=.slice none 0 0) (l:=([]:List Int)) (r:=[(z:Int)]) rfl (Yk _) (ZY0 _ _) (Y8 _ _) ((Y8 _ _).alloc (Yk _) (.cells #[.int .i64 (z:Int)] 3)) (by rw[Zs];exact hown) hgrow (by simpa using hblk);have Ai:=Yh hp.1;have A2:=Yh hp.2.1;clear hown hgrow hblk hp t2 f2 t4 Az h7;obtain⟨so,sc,A8,hsc,-,-⟩:=Ai.o.row ZW;have A8:v2=.slice so 1 sc:=A8;subst A8;obtain⟨w9,h9⟩:=Yn (w8.setCell ⟨w2.heap.size,4,none⟩ (.slice so 1 sc));have A9:=Yh (Ag.o.below A2.o);have Aj:=Yh (Z66 A9.o h9);have Ak:=Yh (Z4 (Av.o.below A2.o) NE.o.2.1 h9);have AA:=Yh ((Ax.o.same (SameS.below A2.o)).same (SameS.set Ah.o h9));have AB:=Yh ((Ay.o.kept A2.o).other NE.o.2.2.1 h9);have AC:=Yh (Ai.o.other (Yi NE.o.2.2.1 A4.o) h9);have B9:=Yh (Z6 (YU B7 A2.o) NE.o.2.2.2.2.1 h9);have R9:=@Yh (w1.heap.size<w9.heap.size/\w2.heap.size<w9.heap.size) (⟨Ak.o.lt,Aj.o.lt⟩);obtain⟨lo3,cap3,Aa,hcap3,-,hrow⟩:=AB.o.row Zk2;have Aa:Value.slice lo 1 cap=.slice lo3 1 cap3:=Aa
 injection Aa with i1 _ i3
 subst i1;subst i3;obtain⟨so3,sc3,Ab,hsc3,-,hsrow⟩:=AC.o.row ZW;have Ab:Value.slice so 1 sc=.slice so3 1 sc3:=Ab
 injection Ab with i4 _ i6
 subst i4;subst i6;have GE:=Yh (hrow (lessS Sb w1.heap.size w2.heap.size) (fun b hb=>⟨A5.o b (by have:=NE.o;omega),by have:=NE.o;omega,by have:=NE.o;omega⟩));have GS:=Yh (ZX (hsrow (lessS Sb w1.heap.size w2.heap.size) (fun b hb=>⟨A5.o b (by have:=NE.o;have:=A4.o;omega),by have:=NE.o;have:=A4.o;omega,by have:=NE.o;have:=A4.o;omega⟩)));have A3:=@Yh ([Z].map (·.sp)=[⟨(z:Int),false,[],false⟩]) (by rw[HZ.o];rfl);have A0:=Z82 (lessS Sb w1.heap.size w2.heap.size) u (some ⟨ab,aof,none⟩) no ac nc [Z] lo cap none 0 0 so 1 sc w9 (fun b hb=>⟨A5.o b (by have:=NE.o;have:=R9.o;omega),by have:=R9.o;omega,by have:=R9.o;omega⟩) AA.o (by rw[A3.o];exact Am.o) (GE.o.sub (fun _ _ _=>trivial)) (by simp) hcap3;rw[HL.o,HN.o]at A0;have AD:=@Yh (Calls Tryz.prog 59 #[.agg #[.slice (some ⟨ab,aof,none⟩) L ac,.slice no n nc,.slice lo 1 cap,.slice none 0 0,.slice so 1 sc,.int .i64 0]] w9 _) (A0);have t4:=(cell6L A9.o).2.2.2.2.1;have f4:=A9.o.free 4;obtain⟨l0,l1,l2,l3,l4,l5⟩:=cell6L Aj.o;have AE:=Yh hcap3;have AF:=Yh hsc3;clear A0 hrow hsrow hcap3 hsc3 hcap hsc hlb hi hz0 hz1 hz2 hj hj0 hj1 hj2;go_wp2_with fail;refine AD.o.mono ?_;rintro e w10 hLR;obtain⟨val,rfl,hLV,b10⟩:=ZD5 (ez:=[Z]) (seen:=[(z:Int)]) hLR GE.o (fun y hy=>by obtain rfl:=Yo.1 hy;rw[HZ.o];exact⟨.inl rfl,Yk _,fun _=>rfl⟩) AE.o GS.o AF.o (ZR6 GS.o Nat.one_pos);rw[A3.o,An.o]at hLV;have AG:=Yh hLV;obtain⟨ao',no',ac',nc',eo',ec',wo',wc',so',sc',ez',wz',hv,-⟩:=hLV;subst hv;have AH:=YT B9 b10;obtain⟨⟨e0,e1,e2,e3,e4,e5⟩,f0,f1,f2,f3,f4',f5⟩:=Zu (Ak.o.below b10);clear hLR b10 t4 f4 l0 l1 l2 l3 l4 l5 h9;go_wp2_with fail
 try simp only[Exit.inBlock,Exit.then]
 refine bodyPost_ret (v:=.agg #[.slice ao' FL.u.types.length ac',.slice no' FL.u.named.length nc',.slice eo' ez'.length ec',.slice wo' wz'.length wc',.slice so' FL.seen.length sc',.int .i64 FL.e]) ?_ rfl ?_
 ·simp[results,Tryz.results30,go_sem,e0,e1,e2,e3,e4,e5]
 exact⟨_,rfl,(AG.o.same (Z51 Aw.o w10 _ _ _ _ _ _)).sub (fun b _ hs=>hs.1),Zj AH.o NE.o.2.2.2.2.2 _ _ _ _ _ _⟩
end Go.Proofs.YtdcajkagakikiaaGreatDoor
