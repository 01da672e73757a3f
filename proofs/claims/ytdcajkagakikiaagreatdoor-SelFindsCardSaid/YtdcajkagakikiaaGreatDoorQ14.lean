import Derived.Test.YtdcajkagakikiaaGreatDoorQ09
namespace Go.Proofs.YtdcajkagakikiaaGreatDoor
set_option maxHeartbeats 64000000
set_option linter.unusedSimpArgs false
set_option linter.unusedVariables false
open Go.RowKit
def SRowS(Sb:Nat->Prop)(w:World)(ao:Option Addr)(ss:List ByteArray):Prop:=
 ss=[]\/∃b off,ao=some ⟨b,off,none⟩/\b<w.heap.size/\Sb b/\∀i,i<ss.length->w.cell? ⟨b,off+i,none⟩=some (.string (ss.getD i ⟨#[]⟩))
def IRowS(Sb:Nat->Prop)(w:World)(ao:Option Addr)(zs:List Int):Prop:=
 zs=[]\/∃b off,ao=some ⟨b,off,none⟩/\b<w.heap.size/\Sb b/\∀i,i<zs.length->w.cell? ⟨b,off+i,none⟩=some (.int .i64 (zs.getD i 0))
structure TyCS (Sb:Nat->Prop) (w:World) (wo ko:Option Addr) (t:Ty):Prop where
 words:SRowS Sb w wo t.words
 kids:IRowS Sb w ko t.kids
 ok:TyOk t
def ARowS(Sb:Nat->Prop)(w:World)(ao:Option Addr)(l:List Ty):Prop:=
 l=[]\/∃b off,ao=some ⟨b,off,none⟩/\b<w.heap.size/\Sb b/\∀i (h:i<l.length),∃wo wc ko kc,w.cell? ⟨b,off+i*5,none⟩=some (.int .i64 l[i].kind)/\w.cell? ⟨b,off+i*5+1,none⟩=some (.string l[i].name)/\w.cell? ⟨b,off+i*5+2,none⟩=some (.int .i64 l[i].n) /\
  w.cell? ⟨b,off+i*5+3,none⟩=some (.slice wo l[i].words.length wc)/\w.cell? ⟨b,off+i*5+4,none⟩=some (.slice ko l[i].kids.length kc)/\l[i].words.length<=wc/\l[i].kids.length<=kc/\TyCS Sb w wo ko l[i]
theorem TyCS.o{Sb:Nat->Prop}{w:World}{wo ko:Option Addr}{t:Ty}(h:TyCS Sb w wo ko t):TyC w wo ko t:=by
 obtain⟨h1,h2,h3⟩:=h;refine⟨?_,?_,h3⟩
 ·rcases h1 with h|⟨b,off,e,l,_,cc⟩
  ·exact .inl h
  ·exact .inr ⟨b,off,e,l,cc⟩
 ·rcases h2 with h|⟨b,off,e,l,_,cc⟩
  ·exact .inl h
  ·exact .inr ⟨b,off,e,l,cc⟩
theorem ARowS.o{Sb:Nat->Prop}{w:World}{ao:Option Addr}{l:List Ty}(h:ARowS Sb w ao l):ARow w ao l:=by
 rcases h with h|⟨b,off,e,hl,_,cc⟩
 ·exact .inl h
 ·refine .inr ⟨b,off,e,hl,fun i hi=>?_⟩
  obtain⟨wo,wc,ko,kc,h1,h2,h3,h4,h5,h6,h7,h8⟩:=cc i hi;exact⟨wo,wc,ko,kc,h1,h2,h3,h4,h5,h6,h7,h8.o⟩
def SameS(Sb:Nat->Prop)(w w':World):Prop:=w.heap.size<=w'.heap.size/\∀b o,b<w.heap.size->Sb b->w'.cell? ⟨b,o,none⟩=w.cell? ⟨b,o,none⟩
theorem SameS.refl(Sb:Nat->Prop)(w:World):SameS Sb w w:=⟨Yk _,fun _ _ _ _=>rfl⟩
theorem SameS.trans{Sb:Nat->Prop}{w w1 w2:World}(h:SameS Sb w w1)(h2:SameS Sb w1 w2):SameS Sb w w2:=⟨Yj h.1 h2.1,fun b o hb hc=>(h2.2 b o (Yi hb h.1) hc).trans (h.2 b o hb hc)⟩
theorem SameS.below{Sb:Nat->Prop}{w w':World}(h:Below w.heap.size w w'):SameS Sb w w':=⟨h.size,fun b o hb _=>h.cell hb⟩
theorem SameS.set{Sb:Nat->Prop}{c k:Nat}{w w':World}{v:Value}(hc:¬Sb c)(h:w.setCell ⟨c,k,none⟩ v=w'):SameS Sb w w':=by
 subst h;exact⟨by simp,fun b o hb hs=>World.cell?_of_block (a:=⟨b,o,none⟩) (Y9 _ _ _ _ (fun(e:b=c)=>hc (by rw[<-e];exact hs)))⟩
theorem SRowS.o{Sb:Nat->Prop}{w:World}{ao:Option Addr}{ss:List ByteArray}(h:SRowS Sb w ao ss):SRow w ao ss:=by
 rcases h with h|⟨b,off,e,l,_,cc⟩
 ·exact .inl h
 ·exact .inr ⟨b,off,e,l,cc⟩
theorem IRowS.o{Sb:Nat->Prop}{w:World}{ao:Option Addr}{zs:List Int}(h:IRowS Sb w ao zs):IRow w ao zs:=by
 rcases h with h|⟨b,off,e,l,_,cc⟩
 ·exact .inl h
 ·exact .inr ⟨b,off,e,l,cc⟩
theorem SRowS.same{Sb:Nat->Prop}{w w':World}{ao:Option Addr}{ss:List ByteArray}(h:SRowS Sb w ao ss)(hs:SameS Sb w w'):SRowS Sb w' ao ss:=by
 rcases h with h|⟨b,off,e,l,n,cc⟩
 ·exact .inl h
 ·exact .inr ⟨b,off,e,Yi l hs.1,n,fun i hi=>(hs.2 _ _ l n).trans (cc i hi)⟩
theorem IRowS.same{Sb:Nat->Prop}{w w':World}{ao:Option Addr}{zs:List Int}(h:IRowS Sb w ao zs)(hs:SameS Sb w w'):IRowS Sb w' ao zs:=by
 rcases h with h|⟨b,off,e,l,n,cc⟩
 ·exact .inl h
 ·exact .inr ⟨b,off,e,Yi l hs.1,n,fun i hi=>(hs.2 _ _ l n).trans (cc i hi)⟩
theorem SRowS.fresh{Sb:Nat->Prop}{w:World}{ao:Option Addr}{ss:List ByteArray}(h:SRow w ao ss)(hS:∀b,b<w.heap.size->Sb b):SRowS Sb w ao ss:=by
 rcases h with h|⟨b,off,e,l,cc⟩
 ·exact .inl h
 ·exact .inr ⟨b,off,e,l,hS _ l,cc⟩
theorem IRowS.fresh{Sb:Nat->Prop}{w:World}{ao:Option Addr}{zs:List Int}(h:IRow w ao zs)(hS:∀b,b<w.heap.size->Sb b):IRowS Sb w ao zs:=by
 rcases h with h|⟨b,off,e,l,cc⟩
 ·exact .inl h
 ·exact .inr ⟨b,off,e,l,hS _ l,cc⟩
theorem TyCS.fresh{Sb:Nat->Prop}{w:World}{wo ko:Option Addr}{t:Ty}(h:TyC w wo ko t)(hS:∀b,b<w.heap.size->Sb b):TyCS Sb w wo ko t:=⟨.fresh h.words hS,.fresh h.kids hS,h.ok⟩
theorem TyCS.same{Sb:Nat->Prop}{w w':World}{wo ko:Option Addr}{t:Ty}(h:TyCS Sb w wo ko t)(hs:SameS Sb w w'):TyCS Sb w' wo ko t:=by
 obtain⟨h1,h2,h3⟩:=h;refine⟨?_,?_,h3⟩
 ·rcases h1 with h|⟨b,off,e,l,n,cc⟩
  ·exact .inl h
  ·exact .inr ⟨b,off,e,Yi l hs.1,n,fun i hi=>(hs.2 _ _ l n).trans (cc i hi)⟩
 ·rcases h2 with h|⟨b,off,e,l,n,cc⟩
  ·exact .inl h
  ·exact .inr ⟨b,off,e,Yi l hs.1,n,fun i hi=>(hs.2 _ _ l n).trans (cc i hi)⟩
theorem ARowS.same{Sb:Nat->Prop}{w w':World}{ao:Option Addr}{l:List Ty}(h:ARowS Sb w ao l)(hs:SameS Sb w w'):ARowS Sb w' ao l:=by
 rcases h with h|⟨b,off,e,hl,n,cc⟩
 ·exact .inl h
 ·refine .inr ⟨b,off,e,Yi hl hs.1,n,fun i hi=>?_⟩
  obtain⟨wo,wc,ko,kc,h1,h2,h3,h4,h5,h6,h7,h8⟩:=cc i hi;exact⟨wo,wc,ko,kc,(hs.2 _ _ hl n).trans h1,(hs.2 _ _ hl n).trans h2,(hs.2 _ _ hl n).trans h3,(hs.2 _ _ hl n).trans h4,(hs.2 _ _ hl n).trans h5,h6,h7,h8.same hs⟩
theorem Zm3{Sb:Nat->Prop}{w:World}{base:Nat}{v:Value}{l:List Tz}(h:OwnZ w base v l)(hc:∀b,base<=b->Sb b)(hz:∀z∈l,z.t.words.length<=z.wc/\z.t.kids.length<=z.kc/\TyCS Sb w z.wo z.ko z.t):∃ao cap,v=.slice ao (l.map (·.t)).length cap/\ARowS Sb w ao (l.map (·.t))/\(l.map (·.t)).length<=cap:=by
 obtain⟨h1,h2⟩:=h
 rcases h2 with⟨rfl,h0⟩|⟨g,cap,cur,rfl,hg,hcur,hcap1,hcap2,hcs,htk⟩
 ·exact⟨none,0,by rw[Yg,h0],.inl (by rw[List.map_eq_nil_iff];exact Yp h0),by rw[Yg,h0];exact Yk _⟩
 ·refine⟨_,_,by rw[Yg],.inr ⟨g,0,rfl,(Yy.1 hcur).1,hc _ hg,fun k hk=>?_⟩,by rw[Yg];exact hcap1⟩
  rw[Yg]at hk;obtain⟨c0,c1,c2,c3,c4⟩:=Zq7 l k hk
  have e:∀j,j<l.length*5->w.cell? ⟨g,j,none⟩=(tzC l)[j]?:=fun j hj=>by
   simp only[World.cell?,hcur,Option.isSome_none,Bool.false_eq_true,if_false];rw[<-htk,List.getElem?_take_of_lt hj];simp
  obtain⟨i1,i2,i3⟩:=hz _ (Yq hk);rw[List.getElem_map,Nat.zero_add];exact⟨l[k].wo,l[k].wc,l[k].ko,l[k].kc,(e _ (by omega)).trans c0,(e _ (by omega)).trans c1,(e _ (by omega)).trans c2,(e _ (by omega)).trans c3,(e _ (by omega)).trans c4,i1,i2,i3⟩
def InZS(Sb:Nat->Prop)(w:World)(z:Tz):Prop:=z.t.words.length<=z.wc/\z.t.kids.length<=z.kc/\TyCS Sb w z.wo z.ko z.t
theorem InZS.same{Sb:Nat->Prop}{w w':World}{z:Tz}(h:InZS Sb w z)(hs:SameS Sb w w'):InZS Sb w' z:=⟨h.1,h.2.1,h.2.2.same hs⟩
theorem InZS.o{Sb:Nat->Prop}{w:World}{z:Tz}(h:InZS Sb w z):InZ w z:=⟨h.1,h.2.1,h.2.2.o⟩
def TyAtS(Sb:Nat->Prop)(w:World)(b o:Nat)(t:Ty):Prop:=
 ∃wo wc ko kc,w.cell? ⟨b,o,none⟩=some (.int .i64 t.kind)/\w.cell? ⟨b,o+1,none⟩=some (.string t.name)/\w.cell? ⟨b,o+2,none⟩=some (.int .i64 t.n) /\
  w.cell? ⟨b,o+3,none⟩=some (.slice wo t.words.length wc)/\w.cell? ⟨b,o+4,none⟩=some (.slice ko t.kids.length kc)/\t.words.length<=wc/\t.kids.length<=kc/\TyCS Sb w wo ko t
theorem ARowS.cells{Sb:Nat->Prop}{w:World}{ao:Option Addr}{l:List Ty}(h:ARowS Sb w ao l)(hn:0<l.length):∃b off,ao=some ⟨b,off,none⟩/\b<w.heap.size/\∀i (h:i<l.length),TyAtS Sb w b (off+i*5) l[i]:=by
 rcases h with h|⟨b,off,e,h1,h2,h3⟩
 ·rw[h]at hn;exact absurd hn (by simp)
 ·exact⟨b,off,e,h1,h3⟩
theorem Zc4{Sb:Nat->Prop}{w:World}{b off:Nat}{l:List Ty}(h:∀i (h:i<l.length),TyAtS Sb w b (off+i*5) l[i]):∀n,n<=l.length->∃zs:List Tz,zs.map (·.t)=l.take n/\zs.length=n/\(∀z∈zs,InZS Sb w z)/\∀j u,(tzC zs)[j]? = some u->w.cell? ⟨b,off+j,none⟩=some u
 | 0,_=>⟨[],by simp,rfl,by simp,fun j u hu=>by simp[tzC]at hu⟩
 | n+1,hn=>by
  obtain⟨zs,h1,h2,h3,h4⟩:=Zc4 h n (by omega);obtain⟨wo,wc,ko,kc,c0,c1,c2,c3,c4,q1,q2,q3⟩:=h n (by omega);refine⟨zs++[⟨l[n],wo,wc,ko,kc⟩],?_,by rw[Ye,h2];rfl,fun z hz=>?_,fun j u hu=>?_⟩
  ·rw[Yu,h1,List.take_add_one,Yv (by omega)];rfl
  ·rcases Yz.1 hz with hz|hz
   ·exact h3 z hz
   ·rw[Yo.1 hz];exact⟨q1,q2,q3⟩
  ·rw[Za9]at hu
   have hl:=ZK3 zs;rw[h2]at hl
   by_cases hj:j<n*5
   ·rw[List.getElem?_append_left (by omega)]at hu
    exact h4 j u hu
   ·rw[List.getElem?_append_right (by omega),hl]at hu
    obtain⟨r,hr⟩:∃r,j=n*5+r:=⟨j-n*5,by omega⟩
    subst hr;rw[show n*5+r-n*5=r by omega]at hu;rw[<-Nat.add_assoc]
    match r,hu with
    | 0,hu=>simp[tzC1]at hu;rw[<-hu];exact c0
    | 1,hu=>simp[tzC1]at hu;rw[<-hu];exact c1
    | 2,hu=>simp[tzC1]at hu;rw[<-hu];exact c2
    | 3,hu=>simp[tzC1]at hu;rw[<-hu];exact c3
    | 4,hu=>simp[tzC1]at hu;rw[<-hu];exact c4
    | r+5,hu=>simp[tzC1]at hu
theorem ARowS.fresh{Sb:Nat->Prop}{w:World}{ao:Option Addr}{l:List Ty}(h:ARow w ao l)(hS:∀b,b<w.heap.size->Sb b):ARowS Sb w ao l:=by
 rcases h with h|⟨b,off,e,h1,h2⟩
 ·exact .inl h
 ·refine .inr ⟨b,off,e,h1,hS _ h1,fun i hi=>?_⟩
  obtain⟨wo,wc,ko,kc,c0,c1,c2,c3,c4,g1,g2,g3⟩:=h2 i hi;refine⟨wo,wc,ko,kc,c0,c1,c2,c3,c4,g1,g2,?_,?_,g3.ok⟩
  ·rcases g3.words with g|⟨b,off,e,l,cc⟩
   ·exact .inl g
   ·exact .inr ⟨b,off,e,l,hS _ l,cc⟩
  ·rcases g3.kids with g|⟨b,off,e,l,cc⟩
   ·exact .inl g
   ·exact .inr ⟨b,off,e,l,hS _ l,cc⟩
def PAddS(Sb:Nat->Prop)(w:World)(R:List Ty×Int×Int)(e:Ending)(w':World):Prop:=∃ao cap,e=.returned (.tuple #[.slice ao R.1.length cap,.int .i64 R.2.1,.int .i64 R.2.2])/\ARowS Sb w' ao R.1/\R.1.length<=cap/\Below w.heap.size w w'
theorem ZZ{Sb:Nat->Prop}{w w':World}{R:List Ty×Int×Int}{e:Int}(h:R=([],0,e))(hb:Below w.heap.size w w'):PAddS Sb w R (.returned (.tuple #[.slice none 0 0,.int .i64 0,.int .i64 e])) w':=by
 subst h;exact⟨none,0,rfl,.inl rfl,Yk _,hb⟩
theorem ZS7{Sb:Nat->Prop}{w w1 w':World}{R:List Ty×Int×Int}{e:Ending}(hb:Below w.heap.size w w1)(h:PAddS Sb w1 R e w'):PAddS Sb w R e w':=by
 obtain⟨ao,cap,h1,h2,h3,h4⟩:=h;exact⟨ao,cap,h1,h2,h3,hb.trans (h4.mono hb.size)⟩
theorem Z7c{Sb:Nat->Prop}{w:World}{ao:Option Addr}{ss:List ByteArray}(h:SRow w ao ss)(hn:∀a,ao=some a->Sb a.block):SRowS Sb w ao ss:=by
 rcases h with h|⟨b,off,e,l,cc⟩
 ·exact .inl h
 ·exact .inr ⟨b,off,e,l,hn _ e,cc⟩
theorem Z1d{Sb:Nat->Prop}{w:World}{ao:Option Addr}{zs:List Int}(h:IRow w ao zs)(hn:∀a,ao=some a->Sb a.block):IRowS Sb w ao zs:=by
 rcases h with h|⟨b,off,e,l,cc⟩
 ·exact .inl h
 ·exact .inr ⟨b,off,e,l,hn _ e,cc⟩
theorem ZPa{Sb:Nat->Prop}{w w':World}{mb:Nat}{ao:Option Addr}{ss:List ByteArray}(hm:∀a v,w.cell? a=some v->a.block≠mb)(hg:w.grownBy w' (some mb))(h:SRowS Sb w ao ss):SRowS Sb w' ao ss:=by
 rcases h with h|⟨b,off,h1,h2,n,h3⟩
 ·exact .inl h
 ·exact .inr ⟨b,off,h1,Yi h2 hg.size,n,fun i hi=>hg.cell (h3 i hi) (fun e=>hm _ _ (h3 i hi) (by injection e))⟩
theorem Zpb{Sb:Nat->Prop}{w w':World}{mb:Nat}{ao:Option Addr}{zs:List Int}(hm:∀a v,w.cell? a=some v->a.block≠mb)(hg:w.grownBy w' (some mb))(h:IRowS Sb w ao zs):IRowS Sb w' ao zs:=by
 rcases h with h|⟨b,off,h1,h2,n,h3⟩
 ·exact .inl h
 ·exact .inr ⟨b,off,h1,Yi h2 hg.size,n,fun i hi=>hg.cell (h3 i hi) (fun e=>hm _ _ (h3 i hi) (by injection e))⟩
theorem Zj3{Sb:Nat->Prop}{w w':World}{mb:Nat}{ao:Option Addr}{l:List Ty}(hm:∀a v,w.cell? a=some v->a.block≠mb)(hg:w.grownBy w' (some mb))(h:ARowS Sb w ao l):ARowS Sb w' ao l:=by
 rcases h with h|⟨b,off,h1,h2,n,h3⟩
 ·exact .inl h
 ·refine .inr ⟨b,off,h1,Yi h2 hg.size,n,fun i hi=>?_⟩
  obtain⟨wo,wc,ko,kc,c0,c1,c2,c3,c4,g1,g2,g3⟩:=h3 i hi;have kp:∀{a:Addr} {v:Value},w.cell? a=some v->w'.cell? a=some v:=fun {a v} hc=>hg.cell hc (fun e=>hm _ _ hc (by injection e))
  exact⟨wo,wc,ko,kc,kp c0,kp c1,kp c2,kp c3,kp c4,g1,g2,⟨ZPa hm hg g3.words,Zpb hm hg g3.kids,g3.ok⟩⟩
set_option maxRecDepth 100000 in
theorem ZT7(Sb:Nat->Prop)(l:List Ty)(ao:Option Addr)(ac:Nat)(t:Ty)(wo ko:Option Addr)(wc kc:Nat)(w:World)(hcd:∀b,w.heap.size<=b->Sb b)(hl:ARowS Sb w ao l)(ll:l.length<=1000)(hac:l.length<=ac)(hE:Env w)(ht:TyC w wo ko t)(hsm:TySm t)(hwc:t.words.length<=wc)(hkc:t.kids.length<=kc) :
  Calls Tryz.prog 163 #[.slice ao l.length ac,tyV t wo wc ko kc] w (PAddS Sb w (paddT l t)):=by
 obtain⟨R,hR⟩:=Yn (paddT l t);rw[hR];have HR:=Yh hR;obtain⟨w1,h1,k1,q1,z1⟩:=YA w #[.int .i64 t.kind,.string t.name,.int .i64 t.n,.slice wo t.words.length wc,.slice ko t.kids.length kc] 50;have BW:=Yh q1;have K1:=Yh k1;have Af:=Yh hcd;have HA:=Yh (hl.o.below q1);have Am:=Yh hl;have HT:=Yh (ht.below q1);have HE:=Yh (hE.below q1);have A2:=Zz6 l ao ac w1 HA.o ll hac HE.o;have A0:=fun(hr:rightT l=true) (mb:Nat) W (h:Below w1.heap.size w1 W) (hm:KMap W mb (pairs l l.length))=>Zhc l ao ac mb t wo ko wc kc W (HA.o.below h) hr hac (HE.o.below h) hm (HT.o.below h) hsm hwc hkc
 have A3:=fun W (h:Below w1.heap.size w1 W)=>Zg6 l ao ac t wo ko wc kc W (HA.o.below h) (HT.o.below h) ll hwc (HE.o.below h).max
 obtain⟨n,hn⟩:=Yn (l.length);have HN:=Yh hn;unfold tyV at A0 A3 ⊢;rw[hn]at A2 A0 A3 ll hac ⊢;obtain⟨rt,hrt⟩:=Yn (rightT l);obtain⟨pl,hpl⟩:=Yn (atT l t);obtain⟨md,hmd⟩:=Yn (madeB l t);have A5:=Yh hrt;have A9:=Yh hpl;have A6:=Yh hmd;rw[hpl]at A0;rw[hmd]at A3;have Ag:=Yh A2;have Ah:=Yh A0;have Au:=Yh A3;obtain⟨c0,c1,c2,c3,c4⟩:=cell5 k1;have Z1:=Yh z1;clear hR hn hl hcd hE ht hwc hkc k1 q1 z1 A2 A0 A3 hrt hpl hmd;go_enter Tryz.func163,Tryz.ntmps163;go_wp2_with fail;refine Ag.o.mono ?_;rintro e w2 ⟨mo,rfl,b2,hm2⟩;rw[A5.o]at hm2 ⊢;have B2:=Yh b2;have An:=YT BW b2;clear b2 c0 c1 c2 c3 c4 h1
 cases rt
 ·have Hp:=@Yh (R=([],0,1)) (by rw[<-HR.o];exact ZQ9 A5.o)
  clear hm2;go_wp2_with fail;go_ret3;exact ZZ Hp.o An.o
 obtain⟨mb,rfl,hmb,hkm⟩:=hm2 rfl;have Ao:=Yh hkm;clear hm2 hkm hmb;obtain⟨c0,c1,c2,c3,c4⟩:=cell5 (K1.o.below B2.o);go_wp2_with fail;refine(Ah.o A5.o mb w2 B2.o (by rw[HN.o]at Ao;exact Ao.o)).mono ?_;rintro e w3 ⟨rfl,b3⟩;have B3:=YT B2 b3;have Ai:=YT An b3;clear b3 c0 c1 c2 c3 c4
 by_cases hpos:0<=pl
 ·have Hp:=@Yh (R=(l,pl,0)) (by rw[<-HR.o,ZM9 A5.o (by rw[A9.o];exact hpos),A9.o])
  rw[if_pos hpos,Yb hpos];go_wp2_with fail;go_ret3;rw[Hp.o];exact⟨ao,ac,by(rw[show(l,pl,(0:Int)).1.length=n from HN.o];rfl),Am.o.same (SameS.below Ai.o),by rw[show(l,pl,(0:Int)).1.length=n from HN.o];exact hac,Ai.o⟩
 have A7:pl<0:=by omega
 rw[if_neg hpos,Ya hpos];obtain⟨c0,c1,c2,c3,c4⟩:=cell5 (K1.o.below B3.o);go_wp2_with fail;refine(Au.o w3 B3.o).mono ?_;rintro e w4 ⟨rfl,b4⟩;have B4:=YT B3 b4;have Ap:=YT Ai b4;clear b4 c0 c1 c2 c3 c4
 cases md
 ·have Hp:=@Yh (R=([],0,1)) (by rw[<-HR.o];exact ZLc A5.o (by rw[A9.o];exact A7) A6.o)
  go_wp2_with fail;go_ret3;exact ZZ Hp.o Ap.o
 by_cases h400:n=400
 ·have Hp:=@Yh (R=([],0,7)) (by rw[<-HR.o];exact ZOb A5.o (by rw[A9.o];exact A7) A6.o (by rw[HN.o];exact h400))
  have hq:((n:Int)==400)=true:=by rw[YK];omega
  clear h400;go_wp2_with fail;go_ret3;exact ZZ Hp.o Ap.o
 have Hp:=@Yh (R=(l++[t],(n:Int),0)) (by rw[<-HR.o,Zuc A5.o (by rw[A9.o];exact A7) A6.o (by rw[HN.o];exact h400),HN.o]);have hq:((n:Int)==400)=false:=by rw[Yc];omega
 have Aq:t.words.length<=1000:=by have:=HT.o.ok.wl;omega
 have Ar:t.kids.length<=1000:=by have:=HT.o.ok.kl;omega
 have Av:=Yh (fun W (h:Below w1.heap.size w1 W)=>Zla wo wc t.words W (HT.o.below h).words Aq);have Aw:=Yh (fun W (h:Below w1.heap.size w1 W)=>ZAb ko kc t.kids W (HT.o.below h).kids Ar);obtain⟨c0,c1,c2,c3,c4⟩:=cell5 (K1.o.below B4.o);clear Aq Ar;go_wp2_with fail;refine GoG.start [(7,⟨w.heap.size,3,none⟩,.slice wo t.words.length wc),(9,⟨w.heap.size,4,none⟩,.slice ko t.kids.length kc)] (by kernel_rfl) ?_ ?_
 ·exact(Kc (by first|assumption|simp[*]) (Kc (by first|assumption|simp[*]) (Kn)))
 refine GoG.fr 0 ?_;refine GoG.take (i:=1) (v:=?_) [7] rfl (by kernel_rfl) (by kernel_rfl) (by kernel_rfl) (by kernel_rfl) (by kernel_rfl) (by kernel_rfl) (fun _ _ _ h=>h) (.inl ⟨by rfl,fun wz hS=>?_⟩) ?_;rotate_left
 ·have g0:wz.cell? ⟨w.heap.size,3,none⟩=some (.slice wo t.words.length wc):=hS (7,⟨w.heap.size,3,none⟩,.slice wo t.words.length wc) (by simp) (by simp)
  clear hS;go_simp;try (with_reducible rfl)
 refine GoG.fr 3 ?_;refine GoG.take (i:=4) (v:=?_) [9] rfl (by kernel_rfl) (by kernel_rfl) (by kernel_rfl) (by kernel_rfl) (by kernel_rfl) (by kernel_rfl) (fun _ _ _ h=>h) (.inl ⟨by rfl,fun wz hS=>?_⟩) ?_;rotate_left
 ·have g0:wz.cell? ⟨w.heap.size,4,none⟩=some (.slice ko t.kids.length kc):=hS (9,⟨w.heap.size,4,none⟩,.slice ko t.kids.length kc) (by simp) (by simp)
  clear hS;go_simp;try (with_reducible rfl)
 try simp only[Act.put,YB,YC,YD,YE,YF,YG]
 have BD:=@Yh (Below w1.heap.size w1 w4.drew) (B4.o.drew);clear c0 c1 c2 c3 c4;refine GoG.on 2 fun K hK=>?_
 go_simp;refine(Av.o _ BD.o).mono ?_;rintro e w5 ⟨wo2,wc2,rfl,hw2,hwl2,hwn2,b5⟩;have B5:=YT BD b5;have Aj:=Yh (YH hw2 (YH hwl2 (show ∀a,wo2=some a->a.block≠w.heap.size/\Sb a.block from fun a h=>by have h1:=hwn2 a h;have h2:=BD.o.size;have h3:=Z1.o;exact⟨by omega,Af.o _ (by omega)⟩)));clear hw2 hwl2 hwn2 b5;obtain⟨-,-,-,c3,c4⟩:=cell5 (K1.o.below B5.o);refine hK.out _ _ (Kc (by first|assumption|simp[*]) (Kc (by first|assumption|simp[*]) (Kn))) ?_;clear hK K c3 c4;refine GoG.fr 6 ?_;refine GoG.on 5 fun K hK=>?_
 go_simp;refine(Aw.o _ B5.o).mono ?_;rintro e w6 ⟨ko2,kc2,rfl,hk2,hkl2,hkn2,b6⟩;have B6:=YT B5 b6;have Aa:=Yh (YH hk2 (YH hkl2 (show ∀a,ko2=some a->a.block≠w.heap.size/\Sb a.block from fun a h=>by have h1:=hkn2 a h;have h2:=B5.o.size;have h3:=Z1.o;exact⟨by omega,Af.o _ (by omega)⟩)));have Ab:=Yh (YH (Aj.o.1.below b6) Aj.o.2);clear hk2 hkl2 hkn2 b6 Aj;obtain⟨-,-,-,c3,c4⟩:=cell5 (K1.o.below B6.o);refine hK.out _ _ (Kc (by first|assumption|simp[*]) (Kc (by first|assumption|simp[*]) (Kn))) ?_;clear hK K c3 c4
 try simp only[Act.put,YB,YC,YD,YE,YF,YG]
 obtain⟨s1,hs1⟩:=Yn (w6.setCell ⟨w.heap.size,3,none⟩ (.slice wo2 t.words.length wc2));have KA:=@Yh (BlockAt s1 w.heap.size #[.int .i64 t.kind,.string t.name,.int .i64 t.n,.slice wo2 t.words.length wc2,.slice ko t.kids.length kc] 50) (by rw[<-hs1];exact(K1.o.below B6.o).set 3 _);obtain⟨-,-,-,c3,c4⟩:=cell5 (K1.o.below B6.o);have Ax:=(K1.o.below B6.o).free 3;refine GoG.on 7 fun K hK=>?_
 go_simp;clear c3 c4 Ax;obtain⟨-,-,-,-,c4⟩:=cell5 KA.o;refine hK.out _ _ (Ku (Kc (by first|assumption|simp[*]) (Kn))) ?_;clear hK K c4;refine GoG.fr 8 ?_;obtain⟨s2,hs2⟩:=Yn (s1.setCell ⟨w.heap.size,4,none⟩ (.slice ko2 t.kids.length kc2));have KB:=@Yh (BlockAt s2 w.heap.size #[.int .i64 t.kind,.string t.name,.int .i64 t.n,.slice wo2 t.words.length wc2,.slice ko2 t.kids.length kc2] 50) (by rw[<-hs2];exact KA.o.set 4 _);obtain⟨-,-,-,-,c4⟩:=cell5 KA.o;have Ay:=KA.o.free 4;refine GoG.on 9 fun K hK=>?_
 go_simp;clear c4 Ay;refine hK.out _ _ (Ku (Ku (Kn))) ?_;clear hK K
 try simp only[Act.put,YB,YC,YD,YE,YF,YG]
 refine GoG.done (by kernel_rfl) ?_ _;have As:=(YU BW B6.o);have BS:=@Yh (Below w.heap.size w s2) (by rw[<-hs2,<-hs1];exact(As.setCell (Yk _) _).setCell (Yk _) _);have RW:=@Yh (SRow s2 wo2 t.words) (by rw[<-hs2,<-hs1];exact ZG (ZG Ab.o.1 (fun a h=>(Ab.o.2.2 a h).1)) (fun a h=>(Ab.o.2.2 a h).1));have RK:=@Yh (IRow s2 ko2 t.kids) (by rw[<-hs2,<-hs1];exact ZB (ZB Aa.o.1 (fun a h=>(Aa.o.2.2 a h).1)) (fun a h=>(Aa.o.2.2 a h).1));clear As hs1 hs2;obtain⟨lb,lo,rfl,hlb,hlc⟩:=Am.o.cells (by have:=(right_step A5.o).1.1;omega);obtain⟨zs,y1,y2,y3,y4⟩:=Zc4 hlc l.length (Yk _);rw[List.take_length]at y1;rw[HN.o]at y2;have Y:=Yh (YH hlb (YH y1 (YH y2 (YH y3 y4))));have AA:¬n=0:=by have:=(right_step A5.o).1.1;have:=HN.o;omega
 have At:=Yh (fun W=>Zxc lb lo n ac W (by omega) hac);obtain⟨e0,e1,e2,e3,e4⟩:=cell5 KB.o;clear hlb hlc y1 y2 y3 y4;go_wp2_with fail;obtain⟨s3,hs3⟩:=Yn ((s2.alloc (.cells #[.int .i64 t.kind,.string t.name,.int .i64 t.n,.slice wo2 t.words.length wc2,.slice ko2 t.kids.length kc2] 50)).drew);have Ac:s2.drew.alloc (.cells #[.int .i64 t.kind,.string t.name,.int .i64 t.n,.slice wo2 t.words.length wc2,.slice ko2 t.kids.length kc2] 50)=s3:=hs3;have Ad:=@Yh (Below s2.heap.size s2 s3) (by rw[<-hs3];exact((Y8 _ _).alloc (Yk _) _).drew);have Az:=@Yh (BlockAt s3 s2.heap.size #[.int .i64 t.kind,.string t.name,.int .i64 t.n,.slice wo2 t.words.length wc2,.slice ko2 t.kids.length kc2] 50) (by rw[<-hs3];exact BlockAt.new s2 _ _);have Ak:=YT BS Ad.o;obtain⟨i0,hi,hz0,hz1,hz2⟩:=info_parts ZD1
 obtain⟨v7,w7,hap,hown7,hgrow7⟩:=run_append_arg_grows (P:=Tryz.prog) s3 22 22 50 i0 (.agg #[.int .i64 0,.string ⟨#[]⟩,.int .i64 0,.slice none 0 0,.slice none 0 0]) 5 80 Tryz.underlying22 hi hz0 hz1 hz2 rfl (by decide)
  ⟨lb,lo,none⟩ n n (tzC zs) (by rw[ZK3,Y.o.2.2.1]) (fun j u hu=>by rw[addr_add];exact(Ak.o.cell Y.o.1).trans (Y.o.2.2.2.2 j u hu)) ⟨s2.heap.size,0,none⟩ 1 1 (tzC1 ⟨t,wo2,wc2,ko2,kc2⟩) rfl
  (fun j u hu=>by
   rw[addr_add,Nat.zero_add,Az.o.cell j]
   simpa [tzC1] using hu) (by omega) (by unfold maxLen;omega) (by omega)
 have B7:=@Yh (Below s3.heap.size s3 w7) ((Y8 _ _).grown hgrow7 (Yk _) (fun j hj=>by cases hj));have Al:=YT Ak B7.o;have O7:OwnZ w7 s3.heap.size v7 (zs++[⟨t,wo2,wc2,ko2,kc2⟩]):=Z2c (by rw[Y.o.2.2.1]) hown7
 obtain⟨ao7,cap7,rfl,r1,r2⟩:=Zm3 O7 (Sb:=Sb) (fun b hbb=>Af.o b (Yj Ak.o.size hbb)) (fun z hz=>by
  rcases Yz.1 hz with hz|hz
  ·exact(Y.o.2.2.2.1 z hz).same (SameS.below Al.o)
  ·rw[Yo.1 hz]
   exact⟨Ab.o.2.1,Aa.o.2.1,⟨Z7c ((RW.o.below Ad.o).below B7.o) (fun a h=>(Ab.o.2.2 a h).2),Z1d ((RK.o.below Ad.o).below B7.o) (fun a h=>(Aa.o.2.2 a h).2),HT.o.ok⟩⟩)
 have Ae:(zs++[(⟨t,wo2,wc2,ko2,kc2⟩:Tz)]).map (·.t)=l++[t]:=by rw[Yu,Y.o.2.1];rfl
 rw[Ae]at r1 r2 hap;have A8:(l++[t]).length=n+1:=by rw[Ye,HN.o];rfl
 rw[A8]at r2 hap;have R7:=Yh (YH r1 (YH r2 A8));clear hown7 hgrow7 O7 r1 r2 Ae A8;refine GoG.start [(9,⟨w.heap.size,0,none⟩,.int .i64 t.kind),(9,⟨w.heap.size,1,none⟩,.string t.name),(9,⟨w.heap.size,2,none⟩,.int .i64 t.n),(9,⟨w.heap.size,3,none⟩,.slice wo2 t.words.length wc2),(9,⟨w.heap.size,4,none⟩,.slice ko2 t.kids.length kc2)] (by kernel_rfl) ?_ ?_
 ·exact(Kc (by first|assumption|simp[*]) (Kc (by first|assumption|simp[*]) (Kc (by first|assumption|simp[*]) (Kc (by first|assumption|simp[*]) (Kc (by first|assumption|simp[*]) (Kn))))))
 refine GoG.fr 0 ?_;refine GoG.take (i:=2) (v:=?_) [9] rfl (by kernel_rfl) (by kernel_rfl) (by kernel_rfl) (by kernel_rfl) (by kernel_rfl) (by kernel_rfl) (fun _ _ _ h=>h) (.inl ⟨by rfl,fun wz hS=>?_⟩) ?_;rotate_left
 ·have g0:wz.cell? ⟨w.heap.size,0,none⟩=some (.int .i64 t.kind):=hS (9,⟨w.heap.size,0,none⟩,.int .i64 t.kind) (by simp) (by simp)
  have g1:wz.cell? ⟨w.heap.size,1,none⟩=some (.string t.name):=hS (9,⟨w.heap.size,1,none⟩,.string t.name) (by simp) (by simp);have g2:wz.cell? ⟨w.heap.size,2,none⟩=some (.int .i64 t.n):=hS (9,⟨w.heap.size,2,none⟩,.int .i64 t.n) (by simp) (by simp);have g3:wz.cell? ⟨w.heap.size,3,none⟩=some (.slice wo2 t.words.length wc2):=hS (9,⟨w.heap.size,3,none⟩,.slice wo2 t.words.length wc2) (by simp) (by simp);have g4:wz.cell? ⟨w.heap.size,4,none⟩=some (.slice ko2 t.kids.length kc2):=hS (9,⟨w.heap.size,4,none⟩,.slice ko2 t.kids.length kc2) (by simp) (by simp);clear hS;go_simp;try (with_reducible rfl)
 refine GoG.fr 5 ?_;refine GoG.fr 6 ?_;have A1:=@Yh (s3.cell? ⟨w.heap.size,0,none⟩=some (.int .i64 t.kind)/\s3.cell? ⟨w.heap.size,1,none⟩=some (.string t.name)/\s3.cell? ⟨w.heap.size,2,none⟩=some (.int .i64 t.n)/\s3.cell? ⟨w.heap.size,3,none⟩=some (.slice wo2 t.words.length wc2)/\s3.cell? ⟨w.heap.size,4,none⟩=some (.slice ko2 t.kids.length kc2)) (cell5 (KB.o.below Ad.o));have A4:=@Yh (w7.cell? ⟨w.heap.size,0,none⟩=some (.int .i64 t.kind)/\w7.cell? ⟨w.heap.size,1,none⟩=some (.string t.name)/\w7.cell? ⟨w.heap.size,2,none⟩=some (.int .i64 t.n)/\w7.cell? ⟨w.heap.size,3,none⟩=some (.slice wo2 t.words.length wc2)/\w7.cell? ⟨w.heap.size,4,none⟩=some (.slice ko2 t.kids.length kc2)) (cell5 ((KB.o.below Ad.o).below B7.o));refine GoG.two (i:=1) (j:=3) rfl rfl (by kernel_rfl) (fun K hK=>?_) (fun K hK=>?_)
 ·go_simp
  refine(At.o _).mono ?_;rintro e w' ⟨rfl,rfl⟩;refine hK.out _ _ (Kc (by first|assumption|simp[*]) (Kc (by first|assumption|simp[*]) (Kc (by first|assumption|simp[*]) (Kc (by first|assumption|simp[*]) (Kc (by first|assumption|simp[*]) (Kn)))))) ?_;clear hK K
  try simp only[Act.put,YB,YC,YD,YE,YF,YG]
  refine GoG.on 3 fun K hK=>?_
  go_simp;refine hK.out _ _ (Kc A1.o.1 (Kc A1.o.2.1 (Kc A1.o.2.2.1 (Kc A1.o.2.2.2.1 (Kc A1.o.2.2.2.2 Kn))))) ?_;clear hK K
  try simp only[Act.put,YB,YC,YD,YE,YF,YG]
  refine GoG.on 4 fun K hK=>?_
  rw[if_pos (by rfl)];refine Zb _ _ _ rfl _ _ _ rfl rfl hap ?_;refine hK.out _ _ (Kc A4.o.1 (Kc A4.o.2.1 (Kc A4.o.2.2.1 (Kc A4.o.2.2.2.1 (Kc A4.o.2.2.2.2 Kn))))) ?_;clear hK K;refine GoG.fr 7 ?_;refine GoG.fr 8 ?_;refine GoG.on 9 fun K hK=>?_
  go_simp;refine hK.out _ _ (Ku (Ku (Ku (Ku (Ku (Kn)))))) ?_;clear hK K
  try simp only[Act.put,YB,YC,YD,YE,YF,YG]
  refine GoG.done (by kernel_rfl) ?_ _;clear e0 e1 e2 e3 e4 hap hs3 Ac;go_wp2_with fail;go_ret3;rw[Hp.o];exact⟨ao7,cap7,by(rw[show(l++[t],(n:Int),(0:Int)).1.length=n+1 from R7.o.2.2];rfl),R7.o.1,by rw[show(l++[t],(n:Int),(0:Int)).1.length=n+1 from R7.o.2.2];exact R7.o.2.1,Al.o⟩
 ·go_simp
  refine hK.out _ _ (Kc A1.o.1 (Kc A1.o.2.1 (Kc A1.o.2.2.1 (Kc A1.o.2.2.2.1 (Kc A1.o.2.2.2.2 Kn))))) ?_;clear hK K
  try simp only[Act.put,YB,YC,YD,YE,YF,YG]
  refine GoG.on 1 fun K hK=>?_
  go_simp;refine(At.o _).mono ?_;rintro e w' ⟨rfl,rfl⟩;refine hK.out _ _ (Kc A1.o.1 (Kc A1.o.2.1 (Kc A1.o.2.2.1 (Kc A1.o.2.2.2.1 (Kc A1.o.2.2.2.2 Kn))))) ?_;clear hK K
  try simp only[Act.put,YB,YC,YD,YE,YF,YG]
  refine GoG.on 4 fun K hK=>?_
  rw[if_pos (by rfl)];refine Zb _ _ _ rfl _ _ _ rfl rfl hap ?_;refine hK.out _ _ (Kc A4.o.1 (Kc A4.o.2.1 (Kc A4.o.2.2.1 (Kc A4.o.2.2.2.1 (Kc A4.o.2.2.2.2 Kn))))) ?_;clear hK K;refine GoG.fr 7 ?_;refine GoG.fr 8 ?_;refine GoG.on 9 fun K hK=>?_
  go_simp;refine hK.out _ _ (Ku (Ku (Ku (Ku (Ku (Kn)))))) ?_;clear hK K
  try simp only[Act.put,YB,YC,YD,YE,YF,YG]
  refine GoG.done (by kernel_rfl) ?_ _;clear e0 e1 e2 e3 e4 hap hs3 Ac;go_wp2_with fail;go_ret3;rw[Hp.o];exact⟨ao7,cap7,by(rw[show(l++[t],(n:Int),(0:Int)).1.length=n+1 from R7.o.2.2];rfl),R7.o.1,by rw[show(l++[t],(n:Int),(0:Int)).1.length=n+1 from R7.o.2.2];exact R7.o.2.1,Al.o⟩
set_option maxRecDepth 100000 in
theorem ZAd(Sb:Nat->Prop)(l:List Ty)(lo:Option Addr)(lc:Nat)(t:Ty)(wo ko:Option Addr)(wc kc mb c:Nat)(P:Nat->Bool)(I:Nat->Int)(w:World)(hcd:∀b,w.heap.size<=b->Sb b)(hl:ARowS Sb w lo l)(hr:rightT l=true)(hac:l.length<=lc)(hE:Env w)(ht:TyC w wo ko t)(hsm:TySm t)(hwc:t.words.length<=wc)
  (hlen:t.kind=7->t.words.length=t.kids.length) (hm:IMap w mb c P I) (hc:c<=400) (hk:∀k∈t.kids,0<=k/\k<(c:Int)/\P k.toNat=true/\0<=I k.toNat/\I k.toNat<(l.length:Int)) :
  Calls Tryz.prog 156 #[.slice lo l.length lc,tyV t wo wc ko kc,.map (some mb)] w (PAddS Sb w (putT l t I)):=by
 have As:=(right_step hr).1;obtain⟨R,hR⟩:=Yn (putT l t I);rw[hR];have HR:=Yh hR;unfold tyV;have At:=ht.ok.kl;obtain⟨m,hmm⟩:=Yn (t.kids.length);have HM:=Yh hmm;rw[hmm]at At ⊢;have HT:=Yh ht;have HA:=Yh hl.o;have Ah:=Yh hl;have Ai:=Yh hcd;have HK:=Yh hk;have Au:=Yh hm;have Aj:=Yh hr;have HE:=Yh hE;have Ak:=Yh hsm;have Aa:=Yh hlen;have A3:=Yh (YH hac hwc);obtain⟨nw,hnw⟩:=Yn (t.words.length);have Al:=Yh hnw;rw[hnw];obtain⟨n,hn⟩:=Yn (l.length);have HN:=Yh hn;rw[hn]at As hac ⊢;obtain⟨w1,h1,k1,q1,z1⟩:=YA w #[.int .i64 t.kind,.string t.name,.int .i64 t.n,.slice wo nw wc,.slice ko m kc] 50;have Ab:=ZE2 m (by omega) w1;obtain⟨w2,h2⟩:=Yn (w1.alloc (.cells (rowZ m fun _=>0) 3));obtain⟨k2,q2,z2⟩:=Za h2;rw[h2]at Ab;obtain⟨nb,hnb⟩:=Yn (w1.heap.size);rw[hnb]at Ab k2;have K1:=Yh (k1.below q2);have K2:=@Yh (BlockAt w2 nb (rowZ m (kidG t.kids I 0)) 3) (by rw[ZSa];exact k2);have BW:=Yh (q1.trans (q2.mono q1.size));have Ac:=@Yh (w.heap.size<=nb/\w.heap.size≠nb) (by omega);obtain⟨c0,c1,c2,c3,c4⟩:=cell5 k1;obtain⟨d0,d1,d2,d3,d4⟩:=cell5 (k1.below q2);clear hl hcd hr hE ht hsm hlen hm hk hmm hwc hnw hn h2 k1 k2 q1 q2 z1 z2 hR;go_enter Tryz.func156,Tryz.ntmps156;go_wp2_with fail;clear Ab h1 c0 c1 c2 c3 c4 d0 d1 d2 d3 d4;go_loopw [20] (fun v wr=>∃q:Nat,q<=m/\v=.int .i64 q/\Hi (BlockAt wr nb (rowZ m (kidG t.kids I q)) 3)/\Hi (BlockAt wr w.heap.size #[.int .i64 t.kind,.string t.name,.int .i64 t.n,.slice wo nw wc,.slice ko m kc] 50)/\Hi (Below w.heap.size w wr)) (fun v _=>m-(intOf v).toNat)
 case atStart=>exact⟨0,Yl _,rfl,K2,K1,BW⟩
 case round =>
  obtain⟨q,hq,rfl,KR,KT,HB⟩:=hrel
  by_cases hql:q<m
  ·have Am:q<t.kids.length:=by rw[HM.o];exact hql
   obtain⟨kb,kof,rfl,hkb,hkcell⟩:=HT.o.kids.cells (by omega);have ck:=(HB.o.cell (p:=⟨kb,kof+q,none⟩) hkb).trans (hkcell q Am);obtain⟨g1,g2,g3,g4,g5⟩:=HK.o _ (Zd Am);obtain⟨z,hz⟩:∃z:Nat,t.kids.getD q 0=(z:Int):=⟨(t.kids.getD q 0).toNat,by omega⟩
   rw[hz]at ck g2 g3;rw[Yw]at g3;obtain⟨v,hv⟩:=Yn (I z);have Av:=(Au.o.below HB.o).look (m:=z) (by omega) g3 (by omega);rw[hv]at Av;have cq:=KR.o.cell q;rw[Zy hql]at cq;have fq:=KR.o.free q
   have KN:=Yh (show BlockAt (wr.setCell ⟨nb,q,none⟩ (.int .i64 v)) nb (rowZ m (kidG t.kids I (q+1))) 3 from by
    rw[<-ZBa (v:=v) (by rw[hz,Yw];exact hv)];exact KR.o.set q _)
   have Aw:=Yh (KT.o.other Ac.o.2 q (.int .i64 v));have BN:=Yh (ZJ (v:=.int .i64 v) (k:=q) HB.o Ac.o.1);clear hz hv g1 g3 g4 g5 hkcell hkb;go_wp2_with fail;go_roundw
   case rel=>exact⟨q+1,by omega,by go_num,KN,Aw,BN⟩
   case measure=>first|(simp[intOf];done)|(simp[intOf];omega)
  ·obtain rfl:q=m:=by omega
   have Ax:=Yh (Zbc (I:=I) HM.o KR.o);have M:=KT.o;obtain⟨e0,e1,e2,e3,e4⟩:=cell5 M;have f4:=M.free 4;obtain⟨w5,h5⟩:=Yn (wr.setCell ⟨w.heap.size,4,none⟩ (.slice (some ⟨nb,0,none⟩) q q));have K5:=@Yh (BlockAt w5 w.heap.size #[.int .i64 t.kind,.string t.name,.int .i64 t.n,.slice wo nw wc,.slice (some ⟨nb,0,none⟩) q q] 50) (by rw[<-h5];exact M.set 4 _);have B5:=@Yh (Below w.heap.size w w5) (by rw[<-h5];exact ZJ HB.o (Yk _));have Ad:=@Yh (IRow w5 (some ⟨nb,0,none⟩) (t.kids.map fun k=>I k.toNat)) (by rw[<-h5];exact ZB Ax.o (fun a ha=>by injection ha with ha;rw[<-ha];exact fun e=>Ac.o.2 e.symm))
   have An:∀k∈t.kids,-9223372036854775808<=I k.toNat/\I k.toNat<=9223372036854775807:=fun k hk=>by
    obtain⟨-,-,-,g4,g5⟩:=HK.o k hk;rw[HN.o]at g5
    omega
   have Ae:=@Yh (TyC w5 wo (some ⟨nb,0,none⟩) (swapT t I)) (⟨HT.o.words.below B5.o,Ad.o,ZX8 HT.o.ok An⟩);have A9:=@Yh ((swapT t I).kids.length=q) (by show(List.map _ _).length=q;rw[Yg];exact HM.o)
   have Ao:=Yh (show ∀k∈(swapT t I).kids,0<=k/\k<(l.length:Int)from fun k hk=>by
    obtain⟨k0,h0,rfl⟩:=Y4.1 hk;exact⟨(HK.o k0 h0).2.2.2.1,(HK.o k0 h0).2.2.2.2⟩)
   obtain⟨x0,x1,x2,x3,x4⟩:=cell5 K5.o;clear M An
   by_cases h7:t.kind=7
   ·have Ay:(t.kind==7)=true:=by rw[YK];exact h7
    have A0:=ZMc l lo lc (swapT t I) wo (some ⟨nb,0,none⟩) wc q w5 (HA.o.below B5.o) Ae.o (by rw[A9.o];exact(Aa.o h7).trans HM.o) Ao.o (by rw[HN.o];omega);have A4:=Yh (YH (fun ho=>Zi9 (l:=l) (t:=t) (I:=I) h7 ho) (fun ho=>Zsa (I:=I) Aj.o h7 ho));have Ap:=Yh (Z59 (L:=l.length) Ae.o.ok (by rw[HN.o];omega) Ao.o);have A6:=@Yh (TySm (tidyT l.length (swapT t I))) (Z7a Ak.o);obtain⟨od,hod⟩:=Yn (oddT l (swapT t I));obtain⟨tt,htt⟩:=Yn (tidyT l.length (swapT t I));rw[hod,htt]at A0;rw[hod,htt]at A4;rw[htt]at Ap A6;have A5:=@Yh (tt.kind=t.kind/\tt.name=t.name/\tt.n=t.n) (by rw[<-htt];exact⟨rfl,rfl,rfl⟩);unfold tyV at A0;rw[A9.o,HN.o]at A0;have A7:(swapT t I).words.length=nw:=Al.o;rw[A7]at A0;have Aq:Calls Tryz.prog 162 #[.slice lo n lc,.agg #[.int .i64 t.kind,.string t.name,.int .i64 t.n,.slice wo nw wc,.slice (some ⟨nb,0,none⟩) q q]] w5 (TidyR w5 (swapT t I) od tt):=A0;have Af:=Yh Aq;have Ag:=Yh (fun W (hb:Below w.heap.size w W) (ao bo:Option Addr) (ac bc:Nat) (hx:TyC W ao bo tt) (g1:tt.words.length<=ac) (g2:tt.kids.length<=bc)=>ZT7 Sb l lo lc tt ao bo ac bc W (fun b hbb=>Ai.o b (Yj hb.size hbb)) (Ah.o.same (SameS.below hb)) (by rw[HN.o];omega) A3.o.1 (HE.o.below hb) hx A6.o g1 g2);clear Aq A0 hod htt A7 h7;go_wp2_with fail;refine Af.o.mono ?_;intro e w6 hres;unfold TidyR at hres
    rcases hres with⟨ho,co,dO,cl,cc,dl,dc,rfl,b6⟩|⟨ho,ao,bo,ac,bc,rfl,g1,g2,r1,r2,n1,n2,b6⟩
    ·have HO:=Yh (A4.o.1 ho)
     have B6:=YT B5 b6;have M6:=K5.o.below b6;obtain⟨y0,y1,y2,y3,y4⟩:=cell5 M6;have f0:=M6.free 0;have f1:=M6.free 1;have f2:=M6.free 2;have f3:=M6.free 3;have Az:=M6.free 4;clear M6 ho b6 x0 x1 x2 x3 x4 e0 e1 e2 e3 e4 f4 h5;go_wp2_with fail;go_ret3;rw[<-HR.o,HO.o];exact ZZ rfl (Zc0 B6.o (Yk _) _ _ _ _ _)
    ·have HO:=Yh ((A4.o.2 ho).trans HR.o)
     have B6:=YT B5 b6;have M6:=K5.o.below b6;obtain⟨y0,y1,y2,y3,y4⟩:=cell5 M6;have f0:=M6.free 0;have f1:=M6.free 1;have f2:=M6.free 2;have f3:=M6.free 3;have Az:=M6.free 4;obtain⟨lW,hlW⟩:=Yn (tt.words.length);obtain⟨lK,hlK⟩:=Yn (tt.kids.length);unfold tyV;rw[A5.o.1,A5.o.2.1,A5.o.2.2,hlW,hlK];obtain⟨w7,h7⟩:=Yn ((((((w6.setCell ⟨w.heap.size,0,none⟩ (.int .i64 t.kind)).setCell ⟨w.heap.size,1,none⟩ (.string t.name)).setCell ⟨w.heap.size,2,none⟩ (.int .i64 t.n)).setCell ⟨w.heap.size,3,none⟩ (.slice ao lW ac)).setCell ⟨w.heap.size,4,none⟩ (.slice bo lK bc)));have B7:=@Yh (Below w.heap.size w w7) (by rw[<-h7];exact Zc0 B6.o (Yk _) _ _ _ _ _);have H7:=Yh h7;have Ar:=@Yh (w.heap.size<w5.heap.size) (K5.o.lt);have nA:∀a,ao=some a->a.block≠w.heap.size:=fun a ha=>by have:=n1 a ha;have:=Ar.o;omega
     have nB:∀a,bo=some a->a.block≠w.heap.size:=fun a ha=>by have:=n2 a ha;have:=Ar.o;omega
     have AA:=@Yh (TyC w7 ao bo tt) (⟨by rw[<-h7];exact ZG (ZG (ZG (ZG (ZG r1 nA) nA) nA) nA) nA,by rw[<-h7];exact ZB (ZB (ZB (ZB (ZB r2 nB) nB) nB) nB) nB,Ap.o⟩);have A2:=Ag.o w7 B7.o ao bo ac bc AA.o g1 g2;rw[HO.o,HN.o]at A2;unfold tyV at A2;rw[A5.o.1,A5.o.2.1,A5.o.2.2,hlW,hlK]at A2;have AB:=Yh A2;clear M6 ho b6 g1 g2 r1 r2 n1 n2 nA nB x0 x1 x2 x3 x4 e0 e1 e2 e3 e4 f4 h5 hlW hlK h7 A2;go_wp2_with fail;rw[H7.o];refine AB.o.mono ?_;rintro e w8 ⟨ao8,cap8,rfl,p1,p2,p3⟩;have HP:=@Yh (PAddS Sb w R _ w8) (ZS7 B7.o ⟨ao8,cap8,rfl,p1,p2,p3⟩);clear p1 p2 p3;go_wp2_with fail;go_ret3;exact HP.o
   ·have Ay:(t.kind==7)=false:=by rw[Yc];exact h7
    have A1:=ZT7 Sb l lo lc (swapT t I) wo (some ⟨nb,0,none⟩) wc q w5 (fun b hbb=>Ai.o b (Yj B5.o.size hbb)) (Ah.o.same (SameS.below B5.o)) (by rw[HN.o];omega) A3.o.1 (HE.o.below B5.o) Ae.o Ak.o A3.o.2 (by rw[A9.o];exact Yk _);rw[Zma Aj.o h7,HR.o]at A1;unfold tyV at A1;rw[A9.o,HN.o]at A1;have A7:(swapT t I).words.length=nw:=Al.o;rw[A7]at A1;have A8:Calls Tryz.prog 163 #[.slice lo n lc,.agg #[.int .i64 t.kind,.string t.name,.int .i64 t.n,.slice wo nw wc,.slice (some ⟨nb,0,none⟩) q q]] w5 (PAddS Sb w5 R):=A1;have Ag:=Yh A8;clear A1 A8 A7 h7;go_wp2_with fail;refine Ag.o.mono ?_;rintro e w6 ⟨ao,cap,rfl,p1,p2,p3⟩;have HP:=@Yh (PAddS Sb w R _ w6) (ZS7 B5.o ⟨ao,cap,rfl,p1,p2,p3⟩);clear p1 p2 p3 e0 e1 e2 e3 e4 f4 x0 x1 x2 x3 x4 h5;go_wp2_with fail;go_ret3;exact HP.o
set_option maxRecDepth 100000 in
theorem Ztb(Sb:Nat->Prop)(l:List Ty)(ao:Option Addr)(ac i:Nat)(args:List Int)(go:Option Addr)(gc:Nat)(w:World)(hcd:∀b,w.heap.size<=b->Sb b)(hl:ARowS Sb w ao l)(hr:rightT l=true)(hac:l.length<=ac)(hE:Env w)(hi:i<l.length)(hg:IRow w go args)(hgl:args.length<=1000)(hg6:∀a∈args,-9223372036854775808<=a/\a<=9223372036854775807) :
  Calls Tryz.prog 137 #[.slice ao l.length ac,.int .i64 i,.slice go args.length gc] w (PAddS Sb w (substT l i args)):=by
 have AL:=(right_step hr).1;have As:=Zw6 l ao ac i w hl.o (by omega) hac hE;rw[Zj8 hr (by omega) (by omega)]at As;have HT:=Yh As;have A5:=fun W (h:Below w.heap.size w W)=>Zva l ao ac i W (hl.o.below h) hr hac hi
 have A6:=fun W (h:Below w.heap.size w W)=>Zxa l ao ac i W (hl.o.below h) hr hac hi
 have HA:=Yh hl.o;have AM:=Yh hl;have AN:=Yh hcd;have Ac:=Yh hr;have HE:=Yh hE;have HG:=Yh hg;have AO:=Yh hg6;have At:=Yh hi;have Au:=Yh hac;obtain⟨R,hR⟩:=Yn (substT l i args);rw[hR];have HR:=Yh hR;obtain⟨n,hn⟩:=Yn (l.length);have HN:=Yh hn;obtain⟨ga,hga⟩:=Yn (args.length);have Ag:=Yh hga;rw[hga]at hgl ⊢;rw[hn]at HT A5 A6 AL hac hi ⊢;have AP:=Yh A5;have AQ:=Yh A6;have AR:=Zw0 (Z20 hr) (i+1) i;obtain⟨az,haz⟩:=Yn (askD (funT l) (i+1) i);have Av:=Yh haz;rw[haz]at AR;have Ba:(i:Int)<(i:Int)+1:=by omega
 clear hl hcd hr hE hg hg6 hR hn hga As A5 A6 haz;go_enter Tryz.func137,Tryz.ntmps137;go_wp2_with fail;refine HT.o.mono ?_;rintro e w1 ⟨rfl,b1⟩;have B1:=Yh b1;clear b1;go_wp2_with fail;refine(AP.o _ B1.o).mono ?_;rintro e w2 ⟨ab,rfl,kb,hab,b2⟩;have B2:=YT B1 b2;have KA:=Yh kb;have ca:=kb.cell i;rw[Zy (by omega),Av.o]at ca;clear b2 kb hab
 by_cases hlt:(ga:Int)<az
 ·have hd:decide ((ga:Int)<az)=true:=Yb hlt
  have Hn:=@Yh (R=([],0,1)) (by rw[<-HR.o];exact Zg9 (by rw[Ag.o,Av.o];exact hlt));clear hlt;go_wp2_with fail;go_ret3;exact ZZ Hn.o B2.o
 have hd:decide ((ga:Int)<az)=false:=Ya hlt;have Ad:=@Yh (askD (funT l) (i+1) i<=(args.length:Int)) (by rw[Ag.o,Av.o];omega);clear hlt;go_wp2_with fail;clear ca hd;go_loop [39] (fun v=>∃k:Nat,k<=ga/\v=.int .i64 k/\Hi (∀j,j<k->0<=args.getD j 0/\args.getD j 0<(l.length:Int))) (fun v=>ga-(intOf v).toNat)
 case atStart=>exact⟨0,Yl _,rfl,Yh (fun j hj=>absurd hj (Yr _))⟩
 case round =>
  obtain⟨k,hk,rfl,HALL⟩:=hrel
  by_cases hkl:k<ga
  ·have Az:k<args.length:=by rw[Ag.o];exact hkl
   obtain⟨gb,gof,rfl,hgb,hgcell⟩:=HG.o.cells (by omega);have cg:=(B2.o.cell (p:=⟨gb,gof+k,none⟩) hgb).trans (hgcell k Az);have A7:=Yh (fun h=>ZF6 (l:=l) Az h);obtain⟨a,ha⟩:=Yn (args.getD k 0);rw[ha]at cg A7;have AS:=Yh ha;clear ha hgcell hgb
   by_cases h0:a<0
   ·have AT:decide (a<0)=true:=Yb h0
    have Hn:=@Yh (R=([],0,1)) (by rw[<-HR.o];exact ZG3 (Int.not_lt.2 Ad.o) (A7.o (.inl h0)));clear h0;go_wp2_with fail;go_ret3;exact ZZ Hn.o B2.o
   ·have AT:decide (a<0)=false:=Ya h0
    by_cases h1:(n:Int)<=a
    ·have AU:decide ((n:Int)<=a)=true:=Yb h1
     have Hn:=@Yh (R=([],0,1)) (by rw[<-HR.o];exact ZG3 (Int.not_lt.2 Ad.o) (A7.o (.inr (by rw[HN.o];exact h1))));clear h0 h1;go_wp2_with fail;go_ret3;exact ZZ Hn.o B2.o
    ·have AU:decide ((n:Int)<=a)=false:=Ya h1
     have AV:=Yh (show ∀j,j<k+1->0<=args.getD j 0/\args.getD j 0<(l.length:Int)from fun j hj=>by
      rcases Ym (Ys hj)with h3|h3
      ·exact HALL.o j h3
      ·subst h3;rw[AS.o,HN.o];omega)
     clear h0 h1;go_wp2_with fail;go_round
     case rel=>exact⟨k+1,by omega,by go_num,AV⟩
     case measure=>first|(simp[intOf];done)|(simp[intOf];omega)
  ·have A8:=@Yh (inArena l args=true) (Zi3 (fun j hj=>HALL.o j (by rw[Ag.o]at hj;omega)))
   clear HALL;have AA:=ZLa w2;obtain⟨mb,hmb⟩:=Yn (w2.heap.size);have Ae:=@Yh (w.heap.size<=mb/\ab≠mb) (by have:=B2.o.size;have:=KA.o.lt;omega);obtain⟨w3,h3⟩:=Yn (w2.alloc (.map #[] 0));have Aw:=ZTc w2 (needD (funT l) i (i+1)) (fun _=>0);have q3:Below w2.heap.size w2 w3:=by rw[<-h3];exact(Y8 _ _).alloc (Yk _) _
   rw[h3,hmb]at Aw AA;have IM:=Yh Aw;have B3:=YT B2 q3;have AW:=Yh (KA.o.below q3);clear h3 Aw q3 hmb;go_wp2_with fail;refine(AQ.o _ B3.o).mono ?_;rintro e w4 ⟨pb,rfl,kp,hpb,b4⟩;have B4:=YT B3 b4;have KP:=Yh kp;have AB:=Yh (AW.o.below b4);have AC:=Yh (IM.o.below b4);have Ax:=@Yh (pb≠mb) (by have:=IM.o.lt;omega);have AX:=Yh (AM.o.same (SameS.below B4.o));clear b4 kp hpb AA;go_wp2_with fail;obtain⟨nd,hnd⟩:=Yn (needD (funT l) i (i+1));obtain⟨A,hA⟩:=Yn (askD (funT l) (i+1));have A3:=Yh hnd;have Af:=Yh hA;rw[hnd]at KP AC;rw[hA]at AB;clear hnd hA;have S0:=@Yh ((runT l i args 0).err=0) (rfl);go_loopw [14,58] (fun v14 v58 wr=>∃(c:Nat) (so:Option Addr) (sc:Nat) (s:SS),c<=i+1/\v14=.slice so s.now.length sc/\v58=.int .i64 c/\Hi (runT l i args c=s)/\Hi (s.err=0)/\Hi (ARowS Sb wr so s.now)/\Hi (s.now.length<=sc)/\Hi (IMap wr mb c nd s.ins)/\Hi (BlockAt wr ab (rowZ (i+1) A) 3)/\Hi (BlockAt wr pb (rowB (i+1) nd) 4)/\Hi (Below w.heap.size w wr)) (fun _ v _=>i+1-(intOf v).toNat)
   case atStart=>exact⟨0,ao,ac,runT l i args 0,Yl _,by(show Value.slice ao n ac=.slice ao l.length ac;rw[HN.o]),rfl,Yh rfl,S0,AX,Au,AC,AB,KP,B4⟩
   case round =>
    obtain⟨c,so,sc,s,hc,rfl,rfl,HRUN,HERR,HNOW,HSC,HIM,HKA,HKP,HB⟩:=hrel;have A9:=@Yh (Inv l i c s) (by rw[<-HRUN.o];exact Zh1 Ac.o At.o A8.o (Int.not_lt.2 Ad.o) c hc (by rw[HRUN.o];exact HERR.o))
    by_cases hcl:c<i+1
    ·have Ah:c<l.length:=by rw[HN.o];omega
     have Bb:(c:Int)<(i:Int)+1:=by omega
     obtain⟨lb,lof,rfl,hlb,hlcell⟩:=HA.o.cells (by omega);have AD:=hlcell c Ah;have A2:=@Yh (funT l c=l[c]) (Z3 Ah);have Ai:=Yh (Zz8 Ac.o Ah);have AE:=Yh (fun h=>Z02 Ac.o Ah h);have Aj:=Yh (fun k (hk:k∈l[c].kids)=>Zn Ac.o Ah k hk);obtain⟨x,hx⟩:=Yn (l[c]);rw[hx]at AD A2 Ai AE Aj;obtain⟨xw,xwc,xk,xkc,a0',a1',a2',a3',a4',hwc,hkc,hxc⟩:=AD;have a0:=(HB.o.cell hlb).trans a0';have a1:=(HB.o.cell hlb).trans a1';have a2:=(HB.o.cell hlb).trans a2';have a3:=(HB.o.cell hlb).trans a3';have a4:=(HB.o.cell hlb).trans a4';obtain⟨wn,hwn,kx,qx,zx⟩:=YA wr #[.int .i64 x.kind,.string x.name,.int .i64 x.n,.slice xw x.words.length xwc,.slice xk x.kids.length xkc] 50;obtain⟨c0,c1,c2,c3,c4⟩:=cell5 kx;have BN:=YT HB qx;have AF:=Yh (YH hwc (YH hkc (hxc.below BN.o)));have Aa:=Yh (HIM.o.below qx);have Ak:=Yh (HKA.o.below qx);have Ap:=Yh (HKP.o.below qx);have Aq:=Yh (HNOW.o.same (SameS.below qx));have cp:=HKP.o.cell c;rw[Zk1 hcl]at cp;have cq:=Ak.o.cell c;rw[Zy hcl]at cq;obtain⟨ndc,hndc⟩:=Yn (nd c);rw[hndc]at cp;have A0:=Yh hndc;obtain⟨azc,hazc⟩:=Yn (A c);rw[hazc]at cq;have Ab:=Yh hazc;clear hx kx qx zx a0' a1' a2' a3' a4' hwc hkc hxc hlcell hndc hazc
     cases ndc
     ·have HS:=Yh (show runT l i args (c+1)=⟨updI s.ins c c,s.now,0⟩from by
       rw[Zw,HRUN.o,A3.o,Af.o];exact Zb0 HERR.o (.inl A0.o))
      have AY:=Yh (Aa.o.skip A0.o (c:Int));go_wp2_with fail;go_roundw
      case rel=>exact⟨c+1,so,sc,⟨updI s.ins c c,s.now,0⟩,by omega,rfl,by go_num,HS,Yh rfl,Aq,HSC,AY,Ak,Ap,BN⟩
      case measure=>first|(simp[intOf];done)|(simp[intOf];omega)
     ·by_cases h9:x.kind=9
      ·have AZ:(x.kind==9)=true:=by rw[YK];exact h9
       have AG:=ZQ1 Ac.o At.o (i:=i) (c:=c) (by omega) (by rw[A3.o];exact A0.o) (by rw[A2.o];exact h9) (args:=args) (Int.not_lt.2 Ad.o);rw[A2.o]at AG;obtain⟨N,hN⟩:∃N:Nat,x.n=(N:Int):=⟨x.n.toNat,by omega⟩
       have Ar:N<args.length:=by omega
       have HS:=Yh (show runT l i args (c+1)=⟨updI s.ins c (args.getD N 0),s.now,0⟩from by
        rw[Zw,HRUN.o,A3.o,Af.o,Zx0 HERR.o A0.o (fun g=>by
         have e:=Zw1 (f:=funT l) (show c<i+1 by omega);have g1:=ZE1 (A:=askD (funT l) c) (n:=ask0 (funT l c)) (ks:=(funT l c).kids);rw[Af.o,g]at e;rw[<-e,A2.o]at g1;unfold ask0 at g1;rw[if_pos h9]at g1
         omega) (by rw[A2.o];exact h9),A2.o,hN,Yw])
       obtain⟨gb,gof,rfl,hgb,hgcell⟩:=HG.o.cells (by omega);have cg:=(BN.o.cell (p:=⟨gb,gof+N,none⟩) hgb).trans (hgcell N Ar);have AH:=AO.o _ (Zd Ar);have B0:N<ga:=by rw[<-Ag.o];exact Ar
       have AI:(N:Int)<(ga:Int):=by omega
       obtain⟨vv,hvv⟩:=Yn (args.getD N 0);rw[hvv]at cg AH HS;rw[hN]at a2 c2 hwn;clear h9 hvv hgcell hgb hN AG Ar;obtain⟨w8,hst,im8,g8⟩:=Aa.o.store (by omega) (v:=vv) AH;have Al:=Yh im8;have B8:=Yh (BN.o.grown g8 BN.o.size (fun j hj=>by injection hj with hj;rw[<-hj];exact Ae.o.1));have Am:=Yh (Zj3 (fun a v hc=>Aa.o.none hc) g8 Aq.o);have An:=Yh (Z81 Ak.o Ae.o.2 g8);have Ao:=Yh (Z81 Ap.o Ax.o g8);clear im8 g8;go_wp2_with fail;go_roundw
       case rel=>exact⟨c+1,so,sc,⟨updI s.ins c vv,s.now,0⟩,by omega,rfl,by go_num,HS,Yh rfl,Am,HSC,Al,An,Ao,B8⟩
       case measure=>first|(simp[intOf];done)|(simp[intOf];omega)
      ·have AZ:(x.kind==9)=false:=by rw[Yc];exact h9
       by_cases hz:azc=0
       ·have HS:=Yh (show runT l i args (c+1)=⟨updI s.ins c c,s.now,0⟩from by
         rw[Zw,HRUN.o,A3.o,Af.o];exact Zb0 HERR.o (.inr (by rw[Ab.o];exact hz)))
        subst hz;clear h9;obtain⟨w8,hst,im8,g8⟩:=Aa.o.store (by omega) (v:=(c:Int)) (by omega);have Al:=Yh im8;have B8:=Yh (BN.o.grown g8 BN.o.size (fun j hj=>by injection hj with hj;rw[<-hj];exact Ae.o.1));have Am:=Yh (Zj3 (fun a v hc=>Aa.o.none hc) g8 Aq.o);have An:=Yh (Z81 Ak.o Ae.o.2 g8);have Ao:=Yh (Z81 Ap.o Ax.o g8);clear im8 g8;go_wp2_with fail;go_roundw
        case rel=>exact⟨c+1,so,sc,⟨updI s.ins c (c:Int),s.now,0⟩,by omega,rfl,by go_num,HS,Yh rfl,Am,HSC,Al,An,Ao,B8⟩
        case measure=>first|(simp[intOf];done)|(simp[intOf];omega)
       ·have Bc:(azc==0)=false:=by rw[Yc];exact hz
        have A1:=ZAd Sb s.now so sc x xw xk xwc xkc mb c nd s.ins wn (fun b hbb=>AN.o b (Yj BN.o.size hbb)) Aq.o A9.o.right HSC.o (HE.o.below BN.o) AF.o.2.2 Ai.o AF.o.1 AE.o Aa.o (by omega) (fun k hk=>by
         have g:=Aj.o k hk;have g2:=ZV0 (ZU Ac.o At.o) (c:=c) (by omega) (by rw[A3.o];exact A0.o) (by rw[A2.o];exact hk);have g3:=A9.o.ins k.toNat (by omega) g2;rw[A3.o]at g2;exact⟨g.1,g.2,g2,g3.1,g3.2⟩)
        have A4:=Yh (fun h=>ZS1 (t:=x) (I:=s.ins) A9.o.right h);obtain⟨M,pz,ez,hRR⟩:∃M pz ez,putT s.now x s.ins=(M,pz,ez):=⟨_,_,_,rfl⟩
        rw[hRR]at A1 A4;have AJ:=Yh hRR;unfold tyV at A1;have Ay:=Yh A1;clear A1 hRR;go_wp2_with fail;refine Ay.o.mono ?_;rintro e w7 ⟨ao7,cap7,rfl,p1,p2,b7⟩;have P1:=Yh p1;have P2:=Yh p2;have B7:=YT BN b7;have AK:=Yh (Aa.o.below b7);have B5:=Yh (Ak.o.below b7);have B6:=Yh (Ap.o.below b7);clear p1 p2 b7 c0 c1 c2 c3 c4 hwn a0 a1 a2 a3 a4
        by_cases he:ez=0
        ·have B9:(ez != 0)=false:=by simp[he]
         obtain⟨-,M',p,hpM,e',-,hR',-,-,-⟩:=A4.o he
         injection e' with e1 e2
         injection e2 with e2 e3
         subst e1;subst e2;have Bd:=(right_step hR').1.2
         have HS:=Yh (show runT l i args (c+1)=⟨updI s.ins c p,M,0⟩from by
          rw[Zw,HRUN.o,A3.o,Af.o,ZF0 HERR.o A0.o (by rw[Ab.o];exact hz) (by rw[A2.o];exact h9) (by rw[A2.o,AJ.o,he])])
         obtain⟨w8,hst,im8,g8⟩:=AK.o.store (by omega) (v:=(p:Int)) (by omega);have Al:=Yh im8;have B8:=Yh (B7.o.grown g8 B7.o.size (fun j hj=>by injection hj with hj;rw[<-hj];exact Ae.o.1));have Am:=Yh (Zj3 (fun a v hc=>AK.o.none hc) g8 P1.o);have An:=Yh (Z81 B5.o Ae.o.2 g8);have Ao:=Yh (Z81 B6.o Ax.o g8);clear im8 g8 he hz h9 hpM hR' e3;go_wp2_with fail;go_roundw
         case rel=>exact⟨c+1,ao7,cap7,⟨updI s.ins c p,M,0⟩,by omega,rfl,by go_num,HS,Yh rfl,Am,P2,Al,An,Ao,B8⟩
         case measure=>first|(simp[intOf];done)|(simp[intOf];omega)
        ·have B9:(ez != 0)=true:=by simp[he]
         have Hn:=Yh (show R=([],0,ez)by
          rw[<-HR.o];refine Ze2 (Int.not_lt.2 Ad.o) A8.o (ZU1 (c:=c+1) (e:=ez) ?_ he (by omega)) he
          show(runT l i args (c+1)).err=ez
          rw[Zw,HRUN.o,A3.o,Af.o,Za0 HERR.o A0.o (by rw[Ab.o];exact hz) (by rw[A2.o];exact h9) (by rw[A2.o];exact AJ.o) he])
         clear he hz h9;go_wp2_with fail;go_ret3;exact ZZ Hn.o B7.o
    ·obtain rfl:c=i+1:=by omega
     have Hn:=@Yh (R=(s.now,s.ins i,0)) (by rw[<-HR.o];exact ZO4 (Int.not_lt.2 Ad.o) A8.o HRUN.o HERR.o);have Be:∀nq,(Instr.lookup 95 (.map (some mb)) (.int .i64 (i:Int)) false).run Tryz.prog (wr.drewN nq)=.ok (.int .i64 (s.ins i)) (wr.drewN nq):=fun nq=>IMap.look (HIM.o.below (below_drewN (Y8 wr.heap.size wr) nq)) (by omega) (by rw[<-A3.o];exact Zb1 _ _ _) (by omega)
     go_wp2_with fail;go_quiet (fail)
     rename_i nq
     go_wp2_with fail;go_ret3;rw[Hn.o];exact⟨so,sc,rfl,HNOW.o.same (SameS.below (below_drewN (Y8 wr.heap.size wr) nq)),HSC.o,below_drewN HB.o nq⟩
theorem Zyb(Sb:Nat->Prop)(l:List Ty)(ao:Option Addr)(ac:Nat)(i:Int)(args:List Int)(go:Option Addr)(gc:Nat)(w:World)(hcd:∀b,w.heap.size<=b->Sb b)(hl:ARowS Sb w ao l)(ll:l.length<=1000)(hac:l.length<=ac)(hE:Env w)(hg:IRow w go args)(hgl:args.length<=1000)(hg6:∀a∈args,-9223372036854775808<=a/\a<=9223372036854775807) :
  Calls Tryz.prog 137 #[.slice ao l.length ac,.int .i64 i,.slice go args.length gc] w (PAddS Sb w (psubT l i args)):=by
 have A0:=Zw6 l ao ac i w hl.o ll hac hE
 by_cases h0:thereT l i=0
 ·obtain⟨hr,g1,g2⟩:=ZM4 h0
  obtain⟨z,rfl⟩:∃z:Nat,i=(z:Int):=⟨i.toNat,by omega⟩
  have hP:psubT l z args=substT l z args:=by unfold psubT;rw[if_pos h0,Yw]
  rw[hP];exact Ztb Sb l ao ac z args go gc w hcd hl hr hac hE (by omega) hg hgl hg6
 ·have hP:psubT l i args=([],0,thereT l i):=by unfold psubT;rw[if_neg h0]
  rw[hP];obtain⟨t,ht⟩:=Yn (thereT l i);rw[ht]at A0 h0 ⊢;have HT:=Yh A0;obtain⟨n,hn⟩:=Yn (l.length);rw[hn]at HT ⊢;have hq:(t != 0)=true:=by simp[h0]
  clear ht h0 hl hcd hE ll hac A0 hn hP hg hg6 hgl;go_enter Tryz.func137,Tryz.ntmps137;go_wp2_with fail;refine HT.o.mono ?_;rintro e w1 ⟨rfl,b1⟩;have B1:=Yh b1;clear b1;go_wp2_with fail;go_ret3;exact ZZ rfl B1.o
end Go.Proofs.YtdcajkagakikiaaGreatDoor
