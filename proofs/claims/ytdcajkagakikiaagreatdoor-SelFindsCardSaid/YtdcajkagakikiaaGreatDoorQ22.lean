import Derived.Test.YtdcajkagakikiaaGreatDoorQ21
import Derived.Laws.AppendOwnNone
namespace Go.Proofs.YtdcajkagakikiaaGreatDoor
set_option maxHeartbeats 64000000
set_option linter.unusedSimpArgs false
set_option linter.unusedVariables false
open Go.RowKit
theorem Zy6(u:Un)(s:Sp):∀(ps:List (ByteArray×Int)) (n k:Nat) (hk:k<ps.length),embsT u s n (ps.take (k+1))=embsT u s n (ps.take k)++(if embB ps[k].1=true then[downS u s (n+k) ps[k].2]else[])
 | [],_,_,hk=>absurd hk (Yr _)
 | (w,q)::r,n,0,_=>by
  show(if embB w=true then[downS u s n q]else[])++embsT u s (n+1) (r.take 0)=[]++(if embB w=true then[downS u s (n+0) q]else[])
  rw[List.take_zero,List.nil_append,Nat.add_zero]
  show _++[]=_
  rw[List.append_nil]
  rfl
 | (w,q)::r,n,k+1,hk=>by
  have ih:=Zy6 u s r (n+1) k (Nat.lt_of_succ_lt_succ hk)
  show(if embB w=true then[downS u s n q]else[])++embsT u s (n+1) (r.take (k+1))=((if embB w=true then[downS u s n q]else[])++embsT u s (n+1) (r.take k))++_
  rw[ih,Y6,show n+1+k=n+(k+1)by omega]
  rfl
def inner(u:Un)(s:Sp)(t:Ty)(k:Nat):List Sp:=if t.kind=6 then embsT u s 0 ((t.words.zip t.kids).take k)else[]
theorem Zc5(u:Un)(s:Sp)(t:Ty):inner u s t 0=[]:=by
 unfold inner;rw[List.take_zero]
 split<;>rfl
theorem Zn7{u:Un}{s:Sp}{t:Ty}(h:t.kind≠6)(k:Nat):inner u s t k=[]:=by
 unfold inner;rw[if_neg h]
theorem ZG4{u:Un}{s:Sp}{t:Ty}{k:Nat}{x:ByteArray}{q:Int}(h6:t.kind=6)(h1:k<t.words.length)(h2:k<t.kids.length)(e1:t.words[k]=x)(e2:t.kids[k]=q):inner u s t (k+1)=inner u s t k++(if embB x=true then[downS u s k q]else[]):=by
 unfold inner;rw[if_pos h6,if_pos h6,Zy6 u s _ 0 k (by rw[List.length_zip];omega),List.getElem_zip,e1,e2,Nat.zero_add]
theorem ZP6{u:Un}{s:Sp}{t:Ty}(h:t.kind=6->t.words.length=t.kids.length):inner u s t t.words.length=if t.kind=6 then embsT u s 0 (t.words.zip t.kids)else[]:=by
 unfold inner
 by_cases h6:t.kind=6
 ·rw[if_pos h6,if_pos h6,Y3 (by rw[List.length_zip];omega)]
 ·rw[if_neg h6,if_neg h6]
theorem ZU7{u:Un}{ls:List Lk}{k:Nat}(hk:k<ls.length):allEmbs u (ls.take (k+1))=allEmbs u (ls.take k)++(if(tyU u ls[k].form).kind=6 then embsT u ls[k].sp 0 ((tyU u ls[k].form).words.zip (tyU u ls[k].form).kids)else[]):=by
 unfold allEmbs;rw[Zl0 hk,List.flatMap_append];simp
theorem all_in{u:Un}(hr:rightU u=true){ls:List Lk}(hf:∀l∈ls,inL u.types l.form=true):∀x∈allEmbs u ls,inL u.types x.typ=true:=by
 intro x hx;have h0:=ZK hr;rw[Z8,Yd]at hr;unfold allEmbs at hx;obtain⟨l,hl,g⟩:=List.mem_flatMap.1 hx
 split at g
 ·have hi:=hf l hl
  unfold inL at hi;have hi:=Yf hi;obtain⟨z,hz⟩:∃z:Nat,l.form=(z:Int):=⟨l.form.toNat,by omega⟩
  have A0:z<u.types.length:=by omega
  rw[hz,Z80 A0]at g;refine ZH3 hr.1 h0 l.sp _ 0 (fun p hp=>?_) x g;have:=Zn hr.1 A0 p.2 (List.of_mem_zip hp).2;unfold inL;exact Yb (by omega)
 ·exact absurd g (by simp)
theorem Zd7{u:Un}(hr:rightU u=true){z:Nat}(hz:z<u.types.length)(s:Sp)(k:Nat):∀x∈inner u s u.types[z] k,inL u.types x.typ=true:=by
 intro x hx;have h0:=ZK hr;rw[Z8,Yd]at hr;unfold inner at hx
 split at hx
 ·refine ZH3 hr.1 h0 s _ 0 (fun p hp=>?_) x hx
  have:=Zn hr.1 hz p.2 (List.of_mem_zip (List.mem_of_mem_take hp)).2;unfold inL;exact Yb (by omega)
 ·exact absurd hx (by simp)
theorem ZN7{u:Un}(hr:rightU u=true){seen:List Int}(hs:seen.Nodup){X:List Sp}(hX:∀x∈X,inL u.types x.typ=true):(X.foldl (addS seen) []).length<=400:=by
 have h1:(seen++(X.foldl (addS seen) []).map (·.typ)).Nodup:=ZD3 X [] (by simpa using hs);have h2:=ZQ5 (P:=fun t=>inL u.types t=true) (seen:=seen) X [] (fun e he=>absurd he (by simp)) hX;rw[Z8,Yd]at hr;have:=ZN1 hr.1 (List.nodup_append.1 h1).2.1 (fun t ht=>by obtain⟨y,hy,rfl⟩:=Y4.1 ht;exact h2 y hy)
 simpa using this
theorem Zw3{α β γ:Type}{f:α->γ}{g:β->γ}{xs:List α}{ys:List β}(h:xs.map f=ys.map g){k:Nat}(h1:k<xs.length)(h2:k<ys.length):f xs[k]=g ys[k]:=by
 have:=congrArg (fun l=>l[k]?) h
 simpa [h1,h2] using this
theorem Zs8{P:Ez->Prop}{seen:List Int}{l:List Ez}{x:Ez}(hm:∀(t:Int) (z:Ez),P z->P (mkE t z))(h:∀z∈l,P z)(hx:P x):∀z∈addZ seen l x,P z:=by
 have h1:∀z∈l.map (mkE x.sp.typ),P z:=fun z hz=>by
  obtain⟨y,hy,rfl⟩:=Y4.1 hz;exact hm _ y (h y hy)
 unfold addZ
 split
 ·intro z hz
  rcases Yz.1 hz with g|g
  ·exact h1 z g
  ·obtain rfl:=Yo.1 g
   exact hx
 ·exact h1
theorem Z46{Sb:Nat->Prop}{w:World}(t:Int)(z:Ez)(h:PathIn Sb w z):PathIn Sb w (mkE t z):=by
 unfold mkE
 split
 ·exact h
 ·exact h
theorem OwnG.none0{β:Type}{k:Nat}{enc:β->List Value}{T:TypeId}{w:World}{base n cap:Nat}{lo:Option Addr}{l:List β}(h:OwnG k enc T w base (.slice lo n cap) l):lo=none->cap=0:=by
 intro e;obtain⟨_,h2⟩:=h
 rcases h2 with⟨h3,_⟩|⟨g,cap',cur,h3,_⟩
 ·injection h3
 ·injection h3 with h4 h5 h6
  rw[e]at h4
  cases h4
theorem ZT0{w:World}{base:Nat}{v:Value}{l:List Int}(h:OwnK w base v l):OwnG 1 iC 3 w base v l:=by
 have e:∀l:List Int,encs iC l=intC l:=fun l=>by
  induction l with
  | nil=>rfl
  | cons a r ih=>unfold encs at *;rw[List.flatMap_cons,ih];rfl
 unfold OwnG;rw[e];exact h
theorem PathIn.same{Sb:Nat->Prop}{w w':World}{z:Ez}(h:PathIn Sb w z)(hs:SameS Sb w w'):PathIn Sb w' z:=⟨Z7 h.1 hs,h.2⟩
theorem PathIn.sub{S R:Nat->Prop}{w:World}{z:Ez}(h:PathIn S w z)(hs:∀b,b<w.heap.size->S b->R b):PathIn R w z:=by
 refine⟨?_,h.2⟩
 rcases h.1 with g|⟨b,off,e,hb,hS,hc⟩
 ·exact .inl g
 ·exact .inr ⟨b,off,e,hb,hs b hb hS,hc⟩
theorem ZN6{w w1:World}{b:Nat}{a0 a1 a2 a3 v:Value}{T:TypeId}(h:BlockAt w b #[a0,a1,a2,a3] T)(h1:w.setCell ⟨b,0,none⟩ v=w1):BlockAt w1 b #[v,a1,a2,a3] T:=by
 subst h1;have:=h.set 0 v
 simpa using this
theorem Z56{w w1:World}{b:Nat}{a0 a1 a2 a3 v:Value}{T:TypeId}(h:BlockAt w b #[a0,a1,a2,a3] T)(h1:w.setCell ⟨b,1,none⟩ v=w1):BlockAt w1 b #[a0,v,a2,a3] T:=by
 subst h1;have:=h.set 1 v
 simpa using this
def S3(Sb:Nat->Prop)(c d e:Nat):Nat->Prop:=fun b=>lessS Sb c d b/\b≠e
theorem ZJ1{w s:World}{b:Nat}{a0 a1 a2 a3 v0 v1 v2 v3:Value}{T:TypeId}(h:BlockAt w b #[a0,a1,a2,a3] T)(hs:(((w.setCell ⟨b,0,none⟩ v0).setCell ⟨b,1,none⟩ v1).setCell ⟨b,2,none⟩ v2).setCell ⟨b,3,none⟩ v3=s):BlockAt s b #[v0,v1,v2,v3] T:=by
 subst hs;have:=(((h.set 0 v0).set 1 v1).set 2 v2).set 3 v3
 simpa using this
theorem ZI1{w:World}{b:Nat}{a0 a1 a2 a3:Value}{T:TypeId}(h:BlockAt w b #[a0,a1,a2,a3] T):(w.cell? ⟨b,0,none⟩=some a0/\w.cell? ⟨b,1,none⟩=some a1/\w.cell? ⟨b,2,none⟩=some a2/\w.cell? ⟨b,3,none⟩=some a3)/\(w.frozen? ⟨b,0,none⟩=false/\w.frozen? ⟨b,1,none⟩=false/\w.frozen? ⟨b,2,none⟩=false/\w.frozen? ⟨b,3,none⟩=false):=
 ⟨cell4 h,h.free 0,h.free 1,h.free 2,h.free 3⟩
structure Lz where
 ez:Ez
 form:Int
 ms:List Mt
 mo:Option Addr
 mc:Nat
def lkZ(z:Lz):Lk:=⟨z.ez.sp,z.form,z.ms⟩
def lC(z:Lz):List Value:=[.int .i64 z.ez.sp.typ,.bool z.ez.sp.via,.slice z.ez.po z.ez.sp.path.length z.ez.pc,.bool z.ez.sp.many,.int .i64 z.form,.slice z.mo z.ms.length z.mc]
theorem ZWa(z:Lz):(lC z).length=6:=rfl
theorem Zh5(z:Lz):∀u∈lC z,u.oneCell'=true:=by
 intro u hu;simp only[lC,List.mem_cons,List.not_mem_nil,or_false]at hu
 rcases hu with rfl|rfl|rfl|rfl|rfl|rfl<;>rfl
theorem Zha:(Tryz.prog.info? 103).map (fun i=>(i.zero,i.size,i.bytes))=some (some (.agg #[.int .i64 0,.bool false,.slice none 0 0,.bool false,.int .i64 0,.slice none 0 0]),6,80):=by kernel_rfl
def LkIn(S:Nat->Prop)(w:World)(z:Lz):Prop:=(IRowS S w z.ez.po z.ez.sp.path/\z.ez.sp.path.length<=z.ez.pc)/\MRowS S w z.mo z.ms/\z.ms.length<=z.mc
theorem LkIn.same{S:Nat->Prop}{w w':World}{z:Lz}(h:LkIn S w z)(hs:SameS S w w'):LkIn S w' z:=⟨⟨Z7 h.1.1 hs,h.1.2⟩,h.2.1.same hs,h.2.2⟩
theorem ZJ0{S R:Nat->Prop}{w:World}{ao:Option Addr}{zs:List Int}(h:IRowS S w ao zs)(hs:∀b,b<w.heap.size->S b->R b):IRowS R w ao zs:=by
 rcases h with g|⟨b,off,e,hb,hS,hc⟩
 ·exact .inl g
 ·exact .inr ⟨b,off,e,hb,hs b hb hS,hc⟩
theorem LkIn.sub{S R:Nat->Prop}{w:World}{z:Lz}(h:LkIn S w z)(hs:∀b,b<w.heap.size->S b->R b):LkIn R w z:=⟨⟨ZJ0 h.1.1 hs,h.1.2⟩,ZF h.2.1 hs,h.2.2⟩
def LRow(Sb:Nat->Prop)(w:World)(v:Value)(ls:List Lk):Prop:=∃lo cap,∃zs:List Lz,v=.slice lo ls.length cap/\zs.map lkZ=ls/\GRow 6 lC Sb w lo zs/\zs.length<=cap/\∀z∈zs,LkIn Sb w z
theorem ZA0(Sb:Nat->Prop)(w:World):LRow Sb w (.slice none 0 0) []:=⟨none,0,[],rfl,rfl,.inl rfl,Yk _,fun z hz=>absurd hz (by simp)⟩
theorem Zi1{c:Nat}{S:Nat->Prop}{w w':World}(h:SameX c w w')(hn:¬S c):SameS S w w':=⟨h.1,fun b o hb hs=>World.cell?_of_block (a:=⟨b,o,none⟩) (h.2 b hb (fun e=>hn (by rw[<-e];exact hs)))⟩
theorem Z5{c b o:Nat}{w w':World}(h:SameX c w w')(hb:b<w.heap.size)(hne:b≠c):w'.cell? ⟨b,o,none⟩=w.cell? ⟨b,o,none⟩:=World.cell?_of_block (h.2 b hb hne)
theorem Zo{c xb k:Nat}{w w1 w2:World}{v:Value}(h:SameX c w w1)(hx:w.heap.size<=xb)(h1:w1.setCell ⟨xb,k,none⟩ v=w2):SameX c w w2:=by
 subst h1;exact⟨by simpa using h.1,fun b hb hc=>(Y9 _ _ _ _ (show b≠xb by omega)).trans (h.2 b hb hc)⟩
theorem Z92{c:Nat}{w w1 w2:World}{row:Option Nat}(h:SameX c w w1)(hg:w1.grownBy w2 row)(hr:∀g,row=some g->w.heap.size<=g):SameX c w w2:=
 ⟨Yj h.1 hg.size,fun b hb hc=>(hg.block b (Yi hb h.1) (fun e=>by have:=hr b e.symm;omega)).trans (h.2 b hb hc)⟩
def LooI(Sb:Nat->Prop)(base:Nat)(wr:World)(v:Value)(ls:List Lk):Prop:=∃zs:List Lz,OwnG 6 lC 103 wr base v zs/\zs.map lkZ=ls/\∀z∈zs,LkIn (fun b=>Sb b/\v.ownBlock≠some b) wr z
theorem OwnG.keptX{β:Type}{k c base:Nat}{enc:β->List Value}{T:TypeId}{w w':World}{v:Value}{l:List β}(h:OwnG k enc T w base v l)(hs:SameX c w w')(hc:c<base):OwnG k enc T w' base v l:=by
 obtain⟨h1,h2⟩:=h;refine⟨h1,?_⟩
 rcases h2 with h2|⟨g,cap,cur,rfl,hg,hcur,rest⟩
 ·exact .inl h2
 ·exact .inr ⟨g,cap,cur,rfl,hg,(show BlockAt w' g cur _ from hs.block (show BlockAt w g cur _ from hcur) (by omega)),rest⟩
theorem OwnM.keptX{c base:Nat}{w w':World}{v:Value}{l:List Mt}(h:OwnM w base v l)(hs:SameX c w w')(hc:c<base):OwnM w' base v l:=by
 obtain⟨h1,h2⟩:=h;refine⟨h1,?_⟩
 rcases h2 with h2|⟨g,cap,cur,rfl,hg,hcur,rest⟩
 ·exact .inl h2
 ·exact .inr ⟨g,cap,cur,rfl,hg,(show BlockAt w' g cur _ from hs.block (show BlockAt w g cur _ from hcur) (by omega)),rest⟩
theorem LooI.keptX{Sb:Nat->Prop}{c base:Nat}{w w':World}{v:Value}{ls:List Lk}(h:LooI Sb base w v ls)(hs:SameX c w w')(hc:c<base)(hn:¬Sb c):LooI Sb base w' v ls:=by
 obtain⟨zs,h1,h2,h3⟩:=h;exact⟨zs,h1.keptX hs hc,h2,fun z hz=>(h3 z hz).same (Zi1 hs (fun g=>hn g.1))⟩
theorem LooI.row{Sb:Nat->Prop}{base:Nat}{w:World}{v:Value}{ls:List Lk}(h:LooI Sb base w v ls):∃lo cap,v=.slice lo ls.length cap:=by
 obtain⟨zs,h1,h2,h3⟩:=h;obtain⟨lo,cap,hv,-⟩:=h1.row ZWa;exact⟨lo,cap,by rw[hv,<-h2,Yg]⟩
theorem LooI.lrow{Sb:Nat->Prop}{base:Nat}{w:World}{v:Value}{ls:List Lk}(h:LooI Sb base w v ls)(hb:∀b,base<=b->Sb b):LRow Sb w v ls:=by
 obtain⟨zs,h1,h2,h3⟩:=h;obtain⟨lo,cap,hv,hc,-,hr⟩:=h1.row ZWa;exact⟨lo,cap,zs,by rw[hv,<-h2,Yg],h2,hr Sb hb,hc,fun z hz=>(h3 z hz).sub (fun b _ g=>g.1)⟩
structure LSt (S:Nat->Prop) (W0 wa:World) (wb xb:Nat) (xs:Array Value) (U:Un) (e:Int) (wr:World):Prop where
 wk:WkAt (fun b=>S b/\b≠xb) wr wb U e
 sx:SameX wb wa wr
 bw:Below W0.heap.size W0 wr
 bx:BlockAt wr xb xs 103
theorem WkAt.below{S:Nat->Prop}{w w':World}{wb:Nat}{U:Un}{e:Int}(h:WkAt S w wb U e)(hb:Below w.heap.size w w'):WkAt S w' wb U e:=by
 obtain⟨ao,no,ac,nc,hk,hu⟩:=h;exact⟨ao,no,ac,nc,hk.below hb,hu.same (SameS.below hb)⟩
theorem WkAt.sub{S R:Nat->Prop}{w:World}{wb:Nat}{U:Un}{e:Int}(h:WkAt S w wb U e)(hs:∀b,b<w.heap.size->S b->R b):WkAt R w wb U e:=by
 obtain⟨ao,no,ac,nc,hk,hu⟩:=h;exact⟨ao,no,ac,nc,hk,Zf hu hs⟩
theorem WkAt.set{S:Nat->Prop}{w w':World}{wb xb k:Nat}{v:Value}{U:Un}{e:Int}(h:WkAt S w wb U e)(hx:¬S xb)(hne:wb≠xb)(h1:w.setCell ⟨xb,k,none⟩ v=w'):WkAt S w' wb U e:=by
 obtain⟨ao,no,ac,nc,hk,hu⟩:=h;exact⟨ao,no,ac,nc,Z4 hk hne h1,hu.same (SameS.set hx h1)⟩
section
variable {S:Nat->Prop} {W0 wa wr w':World} {wb xb:Nat} {xs:Array Value} {U U':Un} {e e':Int}
theorem LSt.below(h:LSt S W0 wa wb xb xs U e wr)(hb:Below wr.heap.size wr w'):LSt S W0 wa wb xb xs U e w':=⟨h.wk.below hb,h.sx.trans (SameX.below hb),h.bw.trans (hb.mono h.bw.size),h.bx.below hb⟩
theorem LSt.call(h:LSt S W0 wa wb xb xs U e wr)(hne:xb≠wb)(hr:WkR (fun b=>S b/\b≠xb) W0 wr wb U' e' w'):LSt S W0 wa wb xb xs U' e' w':=⟨hr.1,h.sx.trans hr.2.1,hr.2.2,hr.2.1.block h.bx hne⟩
end
theorem Zn0{w w1:World}{b:Nat}{a0 a1 a2 a3 a4 a5 v:Value}{T:TypeId}(h:BlockAt w b #[a0,a1,a2,a3,a4,a5] T)(h1:w.setCell ⟨b,5,none⟩ v=w1):BlockAt w1 b #[a0,a1,a2,a3,a4,v] T:=by
 subst h1;have:=h.set 5 v
 simpa using this
theorem LSt.put{S:Nat->Prop}{W0 wa wr w':World}{wb xb:Nat}{a0 a1 a2 a3 a4 a5 v:Value}{U:Un}{e:Int}(h:LSt S W0 wa wb xb #[a0,a1,a2,a3,a4,a5] U e wr)(hne:wb≠xb)(hx:wa.heap.size<=xb)(hw:W0.heap.size<=xb)(h1:wr.setCell ⟨xb,5,none⟩ v=w'):LSt S W0 wa wb xb #[a0,a1,a2,a3,a4,v] U e w':=
 ⟨h.wk.set (fun g=>g.2 rfl) hne h1,Zo h.sx hx h1,Z6 h.bw hw h1,Zn0 h.bx h1⟩
theorem LooI.old{Sb:Nat->Prop}{c:Nat}{w wr:World}{v:Value}{ls:List Lk}{ao:Option Addr}{zs:List Int}(h:LooI Sb w.heap.size wr v ls)(hn:¬Sb c)(hs:SameX c w wr)(hi:IRowS Sb w ao zs):IRowS (fun b=>Sb b/\v.ownBlock≠some b) wr ao zs:=by
 obtain⟨xs,h1,-,-⟩:=h
 rcases hi with g|⟨b,off,e,hlt,hS,hc⟩
 ·exact .inl g
 ·exact .inr ⟨b,off,e,Yi hlt hs.1,⟨hS,h1.not (.inl hlt)⟩,fun i hi=>(Z5 hs hlt (fun e=>hn (by rw[<-e];exact hS))).trans (hc i hi)⟩
theorem LooI.push{Sb:Nat->Prop}{W0 w wr wn w':World}{wb n:Nat}{v v':Value}{d:List Lk}{zs:List Lz}{z:Lz}{U:Un}(ho:OwnG 6 lC 103 wr w.heap.size v zs)(hm:zs.map lkZ=d)(hs:∀z∈zs,LkIn (fun b=>Sb b/\v.ownBlock≠some b) wr z)(hwk:WkAt (fun b=>Sb b/\v.ownBlock≠some b) wr wb U 0)(hsx:SameX wb w wr)(hbw:Below W0.heap.size W0 wr)(hw0:W0.heap.size<=w.heap.size)(hwb:wb<w.heap.size)(hwn:Below wr.heap.size wr wn)(hz:LkIn (fun b=>Sb b/\v.ownBlock≠some b) wr z)(hn:n=zs.length+1)
  (h1:w'.ownsRow w.heap.size 103 6 v' n (encs lC zs++lC z)) (hg:wn.grownBy w' v.ownBlock) (hb:v'.ownBlock=v.ownBlock\/v'.ownBlock=some wn.heap.size) :
  LooI Sb w.heap.size w' v' (d++[lkZ z])/\WkAt (fun b=>Sb b/\v'.ownBlock≠some b) w' wb U 0/\SameX wb w w'/\Below W0.heap.size W0 w':=by
 have hp:=pushG (l:=zs) (r:=[z]) hn hw0 ho hbw hwn (by rw[Zs];exact h1) hg hb
 have A0:∀x,LkIn (fun b=>Sb b/\v.ownBlock≠some b) wr x->LkIn (fun b=>Sb b/\v'.ownBlock≠some b) w' x:=fun x hx=>by
  have a1:=hx.same (SameS.below hwn)
  have a2:LkIn (fun b=>(Sb b/\v.ownBlock≠some b)/\v'.ownBlock≠some b) wn x:=a1.sub (fun b hlt hs=>⟨hs,fun he=>by
   rcases hb with g|g
   ·rw[g]at he;exact hs.2 he
   ·rw[g]at he;injection he with he;omega⟩)
  exact(a2.same (ZP hg (fun b hs=>hs.1.2))).sub (fun b _ hs=>⟨hs.1.1,hs.2⟩)
 refine⟨⟨zs++[z],hp.1,by rw[Yu,hm];rfl,fun x hx=>?_⟩,?_,?_,hp.2.1⟩
 ·rcases Yz.1 hx with g|g
  ·exact A0 x (hs x g)
  ·obtain rfl:=Yo.1 g
   exact A0 _ hz
 ·obtain⟨ao,no,ac,nc,hk,hu⟩:=hwk
  exact⟨ao,no,ac,nc,hp.2.2.1 _ _ _ hk (ho.not (.inl hwb)),Zf (hp.2.2.2 _ (fun b hs=>hs.2) _ _ _ _ _ hu) (fun b _ g=>⟨g.1.1,g.2⟩)⟩
 ·exact Z92 (hsx.trans (SameX.below hwn)) hg (fun g hg=>(World.ownsRow.lt ho g hg).1)
theorem ZU9{V V2:Un}{zt:Nat}{f:Int}(h:rightU V=true)(hz:zt<V.types.length)(he:underU V (zt:Int)=(V2,f,0))(h8:kindAt V2.types (zt:Int)=8)(h7:kindAt V2.types f=7):methU V2 (zt:Int)=(V2,[],0):=by
 obtain⟨r1,r2,-,-⟩:=(ZV h (zt:Int)).2 (by rw[he]);rw[he]at r1 r2;have r1:rightU V2=true:=r1;have r2:Ext V.types V2.types:=r2
 have hk:V.types[zt].kind=8:=by
  have:=r2.kind (k:=(zt:Int)) (by omega) (by omega);rw[h8,Ze hz]at this;exact this.symm
 obtain⟨h2,e,-,hkk⟩:=ZP9 h hz hk he;exact Zbb r1 h2 (by rw[e];exact hk) (hkk.trans h7)
theorem ZNa:∀{ks:List Int} {ms:List Mt} {u:Un},(methF ks ms u).2.2≠0->(methF ks ms u).2.1=[]
 | ks,[],u,h=>rfl
 | ks,m::r,u,h=>by
  rw[methF]at h ⊢
  split
  ·rfl
  ·rename_i c1
   rw[if_neg c1]at h
   split
   ·rfl
   ·rename_i c2
    rw[if_neg c2]at h;exact absurd rfl h
theorem ZU3{u:Un}(h:rightU u=true)(i:Int):(methU u i).2.1.length<=16:=by
 by_cases h0:(methU u i).2.2=0
 ·exact((Zj5 h i).2 h0).2.2.2
 ·have e:(methU u i).2.1=[]:=by
   unfold methU at h0 ⊢
   split
   ·rfl
   ·rename_i c1
    rw[if_neg c1]at h0
    split
    ·rename_i c2
     rw[if_pos c2]at h0;exact ZNa h0
    ·rename_i c2
     rw[if_neg c2]at h0
     split
     ·rename_i c3
      rw[if_pos c3]at h0;exact absurd rfl h0
     ·rfl
  rw[e];exact Yl _
theorem Zhd{mo:Option Addr}{n c b:Nat}(h:∀a,mo=some a->b≠a.block):(Value.slice mo n c).ownBlock≠some b:=by
 intro g
 cases mo with
 | none=>cases g
 | some a =>
  have g:some a.block=some b:=g
  injection g with g
  exact h a rfl g.symm
section
variable {P:Program} {ops:Array Oper} {Q:Exit->Act->World->Prop} {md:Region.Mode}
theorem GoG.run{i:Nat}{o:Oper}{cs:List (Nat×Addr×Value)}{fuel:Nat}{listed:Array Bool}{a:Act}{w w':World}(ho:ops[i]? = some o)(hr:Region.ready md ops listed=[i])(hgd:o.guard=none)(s x:Operand)(t:TypeId)
  (hop:o.op=.call { callee:=.builtin .append,args:=#[s,x],argTypes:=#[t,t] }) (vs vx v':Value) (hs:a.eval s=vs) (hx:a.eval x=vx) (hrun:(Builtin.append_ #[t,t] o.type #[vs,vx]).run P w=.ok v' w')
  (h:Keeps cs (listed.setIfInBounds i true) w'/\GoG P md ops Q cs fuel (listed.setIfInBounds i true) (a.put o.dst v') w'):GoG P md ops Q cs (fuel+1) listed a w:=by
 refine GoG.one ho hr (fun K' hK=>?_);have hw:Region.wanted o (yielded ops a.tmps)=true:=by unfold Region.wanted;rw[hgd]
 rw[if_pos hw];unfold Oper.wp execOp;simp only[hop,resolve,invoke,builtin,Sem.run_bind,Sem.run_pure,Result.andThen_ok,List.map_toArray,List.map_cons,List.map_nil,hs,hx,hrun];exact hK.out _ _ h.1 h.2
end
theorem Zm6{w:World}{base:Nat}{v:Value}{ms:List Mt}{lo:Option Addr}{lc:Nat}(hO:OwnM w base v [])(hM:MRow w lo ms)(hl:ms.length<=1000)(hb:base<=w.heap.size) :
  ∃v' w',(Builtin.append_ #[51,51] 51 #[v,.slice lo ms.length lc]).run Tryz.prog w=.ok v' w'/\OwnM w' base v' ms/\w.grownBy w' v.ownBlock/\(v'.ownBlock=v.ownBlock\/v'.ownBlock=some w.heap.size):=by
 obtain⟨i0,hi,hz0,hz1,hz2⟩:=info_parts Zn2
 by_cases h0:ms=[]
 ·subst h0
  obtain⟨l0,c0,hv,-,hc,-⟩:=ZM0 hO;subst hv;refine⟨_,w,run_append_nothing (P:=Tryz.prog) w _ _ _ 112 i0 Tryz.underlying51 hi l0 0 c0 (Yl _) _ ?_,hO,World.grownBy.refl _ _,.inl rfl⟩
  cases lo with
  | none=>exact Src.ofNil w Tryz.underlying51 lc
  | some a=>exact Src.ofSlice w Tryz.underlying51 a 0 lc [] (by simp) (fun j u h=>by cases h) (fun u h=>by cases h)
 ·have A0:0<ms.length:=List.length_pos_iff.2 h0
  obtain⟨b,off,rfl,hb2,hc⟩:=hM.cells A0
  obtain⟨v',w',hr,h1,h2,-,h3⟩:=run_append_own_at (P:=Tryz.prog) w base 51 51 112 i0 (.agg #[.string ⟨#[]⟩,.bool false,.int .i64 0]) 3 32 Tryz.underlying51 hi hz0 hz1 hz2 rfl (by decide) v 0 [] hO ⟨b,off,none⟩ ms.length lc (mtC ms) (Zl2 ms) (fun j u hu=>by
   rw[addr_add];have hj:j<ms.length*3:=by have:=(YI.1 hu).1;rw[Zl2]at this;exact this
   obtain⟨c0,c1,c2⟩:=hc (j / 3) (by omega);obtain⟨g0,g1,g2⟩:=Zs5 ms (j / 3) (by omega);have hq:j=j / 3*3\/j=j / 3*3+1\/j=j / 3*3+2:=by omega
   rcases hq with e|e|e
   ·rw[e]at hu
    rw[e,c0,<-g0];exact hu
   ·rw[e]at hu
    rw[e,<-Nat.add_assoc,c1,<-g1];exact hu
   ·rw[e]at hu
    rw[e,<-Nat.add_assoc,c2,<-g2];exact hu) (Zj2 ms) (by unfold maxLen;omega) (by omega) hb
  refine⟨v',w',hr,?_,h2,h3⟩;unfold OwnM;rw[Nat.zero_add,List.nil_append]at h1;exact h1
set_option maxRecDepth 100000 in
theorem ZQ7(Sb:Nat->Prop)(u:Un)(ao no:Option Addr)(ac nc:Nat)(z:Nat)(w:World)(hSb:∀b,w.heap.size<=b->Sb b)(hU:UnS Sb w ao no ac nc u)(hr:rightU u=true)(hzl:z<u.types.length)(h1k:u.types[z].kind=1) :
  Calls Tryz.prog 30 #[unV u ao ac no nc,.int .i64 z] w fun e w'=>∃val,e=.returned val/\LvA Sb w' val (firstL u (z:Int))/\Below w.heap.size w w':=by
 have A5:=hr;rw[Z8,Yd]at A5;have A9:=ZD2 A5.1 hzl h1k;have Ak:=Zu1 A5.1 (ZK hr) hzl 0;obtain⟨G,hG⟩:=Yn (firstL u (z:Int))
 have Al:G=if(underU u (u.types[z].kids.getD 0 0)).2.2≠0 then badL (underU u (u.types[z].kids.getD 0 0)).2.2
   else if(tyU (underU u (u.types[z].kids.getD 0 0)).1 (underU u (u.types[z].kids.getD 0 0)).2.1).kind=1\/(tyU (underU u (u.types[z].kids.getD 0 0)).1 (underU u (u.types[z].kids.getD 0 0)).2.1).kind=7 then⟨u,[],[],[],0⟩
   else lkL (underU u (u.types[z].kids.getD 0 0)).1 [⟨u.types[z].kids.getD 0 0,true,[],false⟩] [u.types[z].kids.getD 0 0]:=by
  rw[<-hG];unfold firstL;rw[Z80 hzl,if_neg (fun g=>g h1k)]
 rw[hG];clear hG;obtain⟨ab,aof,rfl,hab,hac2⟩:=hU.o.types.cells (by omega);obtain⟨xw,xwc,xk,xkc,a0',a1',a2',a3',a4',hwc,hkc,hxc⟩:=hac2 z hzl;obtain⟨x,hx⟩:=Yn (u.types[z]);have AG:=Yh hU;rw[hx]at a0' a1' a2' a3' a4' h1k A9 hxc Ak Al;obtain⟨L,hL⟩:=Yn (u.types.length);obtain⟨n,hn⟩:=Yn (u.named.length);have HL:=Yh hL;have HN:=Yh hn;have AX:=hU.tl;rw[hL]at AX hzl;have BL:(z:Int)<(L:Int):=by omega
 obtain⟨m,hm⟩:=Yn (x.words.length);rw[hm]at a3';obtain⟨q,hq⟩:=Yn (x.kids.getD 0 0);rw[hq]at Ak Al
 obtain⟨kb,kof,rfl,hkb,hkc2⟩:∃b off,xk=some ⟨b,off,none⟩/\b<w.heap.size/\w.cell? ⟨b,off,none⟩=some (.int .i64 q):=by
  rcases hxc.kids with h|⟨b,off,e,hb,hc⟩
  ·rw[h]at A9;exact absurd A9 (by decide)
  ·have:=hc 0 (by rw[A9];decide)
   rw[Nat.add_zero,hq]at this;exact⟨b,off,e,hb,this⟩
 rw[A9]at a4';unfold unV;rw[hL,hn];obtain⟨w1,h1,k1,q1,z1⟩:=YA w #[.slice (some ⟨ab,aof,none⟩) L ac,.slice no n nc] 25;obtain⟨w2,h2,k2,q2,z2⟩:=YA w1 #[.slice none 0 0,.slice none 0 0,.slice none 0 0,.slice none 0 0,.slice none 0 0,.int .i64 0] 78;obtain⟨w3,h3,k3,q3,z3⟩:=YA w2 #[.slice (some ⟨ab,aof,none⟩) L ac,.slice no n nc,.slice none 0 0,.slice none 0 0,.slice none 0 0,.int .i64 0] 78;obtain⟨w4,h4,k4,q4,z4⟩:=YA w3 #[.int .i64 x.kind,.string x.name,.int .i64 x.n,.slice xw m xwc,.slice (some ⟨kb,kof,none⟩) 1 xkc] 50;obtain⟨w5,h5,k5,q5,z5⟩:=YA w4 #[.int .i64 (z:Int),.bool false,.bool false,.slice none 0 0] 115;have B3:=(q1.trans (q2.mono q1.size)).trans (q3.mono (q1.trans (q2.mono q1.size)).size);have B5:=Yh ((B3.trans (q4.mono B3.size)).trans (q5.mono (B3.trans (q4.mono B3.size)).size));have SZ:=Yh (YH q1.size (YH z2 (YH z3 (YH z4 z5))));have AY:=Yh ((k3.below q4).below q5);have AZ:=Yh (((k2.below q3).below q4).below q5);have B0:=Yh k5;have Ad:=Yh hSb;have a0:=(B3.cell hab).trans a0';have a1:=(B3.cell hab).trans a1';have a2:=(B3.cell hab).trans a2';have a3:=(B3.cell hab).trans a3';have a4:=(B3.cell hab).trans a4';obtain⟨y0,y1⟩:=cell2 (k1.below q2);obtain⟨y2,y3⟩:=cell2 ((k1.below q2).below q3);obtain⟨o0,o1,o2,o3,o4,o5⟩:=cell6L k3;have g2:=k3.same (k:=2) (v:=.slice none 0 0) rfl;have g3:=k3.same (k:=3) (v:=.slice none 0 0) rfl;have g4:=k3.same (k:=4) (v:=.slice none 0 0) rfl;have g5:=k3.same (k:=5) (v:=.int .i64 0) rfl;have f2:=k3.free 2;have f3:=k3.free 3;have f4:=k3.free 4;have f5:=k3.free 5;obtain⟨p0,p1,p2,p3⟩:=cell4 k5;have s1:=k5.same (k:=1) (v:=.bool false) rfl;have s2:=k5.same (k:=2) (v:=.bool false) rfl;have s3:=k5.same (k:=3) (v:=.slice none 0 0) rfl;have r1:=k5.free 1;have r2:=k5.free 2;have r3:=k5.free 3;have B1:=(cell5 (k4.below q5)).1;have BM:(x.kind==1)=true:=by rw[YK];exact h1k
 have B2:=Yh ((((k1.below q2).below q3).below q4).below q5);have Aq:=Yh (k4.below q5);have k0:=(B5.o.cell (p:=⟨kb,kof,none⟩) hkb).trans hkc2;have B4:=Yh hkb;have B6:=Yh hkc2;have Ar:=Yh Al;have A6:=Yh Ak;have As:=Yh hr;clear hxc hkb hkc2 hq Al Ak A9 hab hac2 a0' a1' a2' a3' a4' hwc hkc hx hL hn hm k1 k2 k3 k4 k5 q1 q2 q3 q4 q5 z1 z2 z3 z4 z5 B3 h1k hU hr hSb;obtain⟨i0,hi,hz0,hz1,hz2⟩:=info_parts Zx7;obtain⟨j0,hj,hj0,hj1,hj2⟩:=info_parts ZI0;have Ae:=Yh ((Zf (T:=S3 Sb w1.heap.size w2.heap.size w4.heap.size) (ZM AG.o (c:=w1.heap.size) (d:=w2.heap.size) ⟨by have:=SZ.o;omega,by have:=SZ.o;omega⟩) (fun b hlt g=>⟨g,by have:=SZ.o;omega⟩)).same (SameS.below B5.o));obtain⟨⟨V2,f,e1⟩,hR⟩:∃R,underU u q=R:=⟨_,rfl⟩
 have hW:undR u q=(V2,f,[],e1):=by unfold undR;rw[hR]
 have HR:=Yh hR;have At:=Ar.o;rw[hR]at At;have HG:=Yh At;have A1:=fun W (hb:Below w5.heap.size w5 W)=>ZV1 (S3 Sb w1.heap.size w2.heap.size w4.heap.size) u (some ⟨ab,aof,none⟩) no ac nc q W (fun b hbb=>⟨⟨Ad.o b (by have:=SZ.o;have:=hb.size;omega),by have:=SZ.o;have:=hb.size;omega,by have:=SZ.o;have:=hb.size;omega⟩,by have:=SZ.o;have:=hb.size;omega⟩) (Ae.o.same (SameS.below hb)) As.o A6.o
 have A2:=fun(c:Nat) W (hb:Below w5.heap.size w5 W) (hc:w5.heap.size<=c) (hcw:c<W.heap.size)=>ZV1 (fun b=>S3 Sb w1.heap.size w2.heap.size w4.heap.size b/\b≠c) u (some ⟨ab,aof,none⟩) no ac nc q W (fun b hbb=>⟨⟨⟨Ad.o b (by have:=SZ.o;have:=hb.size;omega),by have:=SZ.o;have:=hb.size;omega,by have:=SZ.o;have:=hb.size;omega⟩,by have:=SZ.o;have:=hb.size;omega⟩,by omega⟩) ((Zf (T:=fun b=>S3 Sb w1.heap.size w2.heap.size w4.heap.size b/\b≠c) Ae.o (fun b hlt g=>⟨g,by omega⟩)).same (SameS.below hb)) As.o A6.o
 rw[hW]at A1 A2;unfold unV TRes at A1 A2;rw[HL.o,HN.o]at A1 A2;simp only[List.length_nil]at A1 A2;have B8:=Yh A2;have Ba:=Yh A1;clear hR hW At A1 A2;go_enter Tryz.func30,Tryz.ntmps30;go_upto_region 2 with fail
 try rw[g2]
 try rw[g3]
 try rw[g4]
 try rw[g5]
 clear g2 g3 g4 g5 f2 f3 f4 f5 h1 h2 h3 o0 o1 o2 o3 o4 o5;go_upto_region 4 with fail
 try rw[s1]
 try rw[s2]
 try rw[s3]
 clear s1 s2 s3 r1 r2 r3 h4 h5 a0 a1 a2 a3 a4;go_upto_region 5 with fail;obtain⟨u0,u1⟩:=cell2 B2.o;have x4:=(cell5 Aq.o).2.2.2.2;clear y0 y1 y2 y3 p0 p1 p2 p3 B1;go_cut [8] (fun v8 wx=>∃nb a2 o2 c3 c4 m2 mc2,v8=.pointer (some ⟨nb,0,none⟩)/\Hi (BlockAt wx nb #[.slice a2 V2.types.length c3,.slice o2 V2.named.length c4,.int .i64 f,.slice m2 0 mc2,.int .i64 e1] 117)/\Hi (UnS (S3 Sb w1.heap.size w2.heap.size w4.heap.size) wx a2 o2 c3 c4 V2)/\Hi (Below w5.heap.size w5 wx)/\Hi (w5.heap.size<=nb))
 case first =>
  refine GoG.start [(8,⟨w.heap.size,0,none⟩,.slice (some ⟨ab,aof,none⟩) L ac),(8,⟨w.heap.size,1,none⟩,.slice no n nc),(8,⟨w3.heap.size,4,none⟩,.slice (some ⟨kb,kof,none⟩) 1 xkc),(8,⟨kb,kof,none⟩,.int .i64 q)] (by kernel_rfl) ?_ ?_
  ·exact Kd (Kd (Kd (Kd (Kn))))
  refine GoG.s2 0 0 [8] ?_;refine GoG.fr 1 ?_;refine GoG.s1 2 2 [8] ?_;refine GoG.fr 3 ?_;refine GoG.s1 4 3 [8] ?_;refine GoG.two (i:=5) (j:=6) rfl rfl (by kernel_rfl) (fun K hK=>?_) (fun K hK=>?_)
  ·go_simp
   refine(Ba.o _ (Y8 _ _).drew).mono ?_;rintro e9 wv ⟨a2,o2,c3,c4,m2,mc2,rfl,hX,-,-,bq⟩;have BV:=Yh (((Y8 w5.heap.size w5).drew).trans bq);have HX:=Yh hX;clear hX bq;obtain⟨wn,hwn⟩:=Yn (wv.alloc (.cells #[.slice none 0 0,.slice none 0 0,.int .i64 0,.slice none 0 0,.int .i64 0] 117));obtain⟨kn,qn,-⟩:=Za hwn;have KN:=Yh kn;have BN:=YT BV qn;have NB:=Yh BV.o.size;have Aa:=Yh ((Zf (T:=fun b=>S3 Sb w1.heap.size w2.heap.size w4.heap.size b/\b≠wv.heap.size) HX.o (fun b hb g=>⟨g,Nat.ne_of_lt hb⟩)).same (SameS.below qn));clear kn qn;refine hK.out _ _ (Kc (YR BV.o u0) (Kc (YR BV.o u1) (Kc (YR BV.o x4) (Kc (YR BV.o k0) (Kn))))) ?_;clear hK K
   try simp only[Act.put,YB,YC,YD,YE,YF,YG]
   refine GoG.on 6 fun K hK=>?_
   go_simp
   try rw[hwn]
   refine hK.out _ _ (Kc (YR BN.o u0) (Kc (YR BN.o u1) (Kc (YR BN.o x4) (Kc (YR BN.o k0) (Kn))))) ?_;clear hK K
   try simp only[Act.put,YB,YC,YD,YE,YF,YG]
   obtain⟨s,hs⟩:=Yn ((((((wn.setCell ⟨wv.heap.size,0,none⟩ (.slice a2 V2.types.length c3)).setCell ⟨wv.heap.size,1,none⟩ (.slice o2 V2.named.length c4)).setCell ⟨wv.heap.size,2,none⟩ (.int .i64 f)).setCell ⟨wv.heap.size,3,none⟩ (.slice m2 0 mc2)).setCell ⟨wv.heap.size,4,none⟩ (.int .i64 e1)));have KS:=Yh (Z70 KN.o hs);have BS:=@Yh (Below w5.heap.size w5 s) (by rw[<-hs];exact Zh BN.o NB.o _ _ _ _ _);have NN:=@Yh (¬(S3 Sb w1.heap.size w2.heap.size w4.heap.size wv.heap.size/\wv.heap.size≠wv.heap.size)) (fun g=>g.2 rfl);have Au:=@Yh (UnS (S3 Sb w1.heap.size w2.heap.size w4.heap.size) s a2 o2 c3 c4 V2) (Zf (T:=S3 Sb w1.heap.size w2.heap.size w4.heap.size) ((Aa.o).same (show SameS (fun b=>S3 Sb w1.heap.size w2.heap.size w4.heap.size b/\b≠wv.heap.size) wn s from by rw[<-hs];exact Zk0 NN.o _ _ _ _ _ _)) (fun b _ g=>g.1));obtain⟨⟨g0,g1,g2,g3,g4⟩,p0,p1,p2,p3,p4⟩:=ZD KN.o;refine GoG.on 7 fun K hK=>?_
   go_simp;clear g0 g1 g2 g3 g4 p0 p1 p2 p3 p4;refine hK.out _ _ (Kc (YR BS.o u0) (Kc (YR BS.o u1) (Kc (YR BS.o x4) (Kc (YR BS.o k0) (Kn))))) ?_;clear hK K hs u0 u1 x4 k0
   try simp only[Act.put,YB,YC,YD,YE,YF,YG]
   refine GoG.done (by kernel_rfl) ?_ _;go_wp2_with fail;go_meet
   case rel=>exact⟨wv.heap.size,a2,o2,c3,c4,m2,mc2,rfl,KS,Au,BS,NB⟩
  ·obtain⟨wn,hwn⟩:∃wn,w5.drew.alloc (.cells #[.slice none 0 0,.slice none 0 0,.int .i64 0,.slice none 0 0,.int .i64 0] 117)=wn:=⟨_,rfl⟩
   obtain⟨kn,qn,-⟩:=Za hwn;have AH:=@Yh (BlockAt wn w5.heap.size _ _) (kn);have Ab:=Yh (((Y8 w5.heap.size w5).drew).trans qn);have ND:=Yh (Yk w5.heap.size);go_simp
   try rw[hwn]
   refine hK.out _ _ (Kc (YR Ab.o u0) (Kc (YR Ab.o u1) (Kc (YR Ab.o x4) (Kc (YR Ab.o k0) (Kn))))) ?_;clear hK K qn kn hwn
   try simp only[Act.put,YB,YC,YD,YE,YF,YG]
   refine GoG.on 5 fun K hK=>?_
   go_simp;refine(B8.o _ _ Ab.o ND.o AH.o.lt).mono ?_;rintro e9 wv ⟨a2,o2,c3,c4,m2,mc2,rfl,hX,-,-,bq⟩;have KN:=Yh (AH.o.below bq);have BN:=YT Ab bq;have NB:=Yh (Yk w5.heap.size);have Aa:=Yh hX;clear hX bq;refine hK.out _ _ (Kc (YR BN.o u0) (Kc (YR BN.o u1) (Kc (YR BN.o x4) (Kc (YR BN.o k0) (Kn))))) ?_;clear hK K
   try simp only[Act.put,YB,YC,YD,YE,YF,YG]
   obtain⟨s,hs⟩:=Yn ((((((wv.setCell ⟨w5.heap.size,0,none⟩ (.slice a2 V2.types.length c3)).setCell ⟨w5.heap.size,1,none⟩ (.slice o2 V2.named.length c4)).setCell ⟨w5.heap.size,2,none⟩ (.int .i64 f)).setCell ⟨w5.heap.size,3,none⟩ (.slice m2 0 mc2)).setCell ⟨w5.heap.size,4,none⟩ (.int .i64 e1)));have KS:=Yh (Z70 KN.o hs);have BS:=@Yh (Below w5.heap.size w5 s) (by rw[<-hs];exact Zh BN.o NB.o _ _ _ _ _);have NN:=@Yh (¬(S3 Sb w1.heap.size w2.heap.size w4.heap.size w5.heap.size/\w5.heap.size≠w5.heap.size)) (fun g=>g.2 rfl);have Au:=@Yh (UnS (S3 Sb w1.heap.size w2.heap.size w4.heap.size) s a2 o2 c3 c4 V2) (Zf (T:=S3 Sb w1.heap.size w2.heap.size w4.heap.size) ((Aa.o).same (show SameS (fun b=>S3 Sb w1.heap.size w2.heap.size w4.heap.size b/\b≠w5.heap.size) wv s from by rw[<-hs];exact Zk0 NN.o _ _ _ _ _ _)) (fun b _ g=>g.1));obtain⟨⟨g0,g1,g2,g3,g4⟩,p0,p1,p2,p3,p4⟩:=ZD KN.o;refine GoG.on 7 fun K hK=>?_
   go_simp;clear g0 g1 g2 g3 g4 p0 p1 p2 p3 p4;refine hK.out _ _ (Kc (YR BS.o u0) (Kc (YR BS.o u1) (Kc (YR BS.o x4) (Kc (YR BS.o k0) (Kn))))) ?_;clear hK K hs u0 u1 x4 k0
   try simp only[Act.put,YB,YC,YD,YE,YF,YG]
   refine GoG.done (by kernel_rfl) ?_ _;go_wp2_with fail;go_meet
   case rel=>exact⟨w5.heap.size,a2,o2,c3,c4,m2,mc2,rfl,KS,Au,BS,NB⟩
 case rest =>
  obtain⟨nb,a2,o2,c3,c4,m2,mc2,rfl,KN,Aa,BX,NB⟩:=hcut;clear u0 u1 x4 k0;obtain⟨L2,hL2⟩:=Yn (V2.types.length);obtain⟨n2,hn2⟩:=Yn (V2.named.length);have AI:=Yh hL2;have Bb:=Yh hn2;rw[hL2,hn2]at KN;obtain⟨t0,t1,t2,-,t4⟩:=cell5 KN.o;have Bd:=@Yh (w5.heap.size<=wc.heap.size) (BX.o.size);have A3:=Yh (AY.o.below BX.o);have A7:=Yh (AZ.o.below BX.o);have Av:=Yh (B0.o.below BX.o);have Bc:=YT B5 BX.o;have A0:=@Yh (w4.heap.size≠w2.heap.size/\w1.heap.size≠w2.heap.size/\w2.heap.size<w5.heap.size/\w1.heap.size<w5.heap.size/\w.heap.size<=w2.heap.size/\w.heap.size<=w1.heap.size/\w4.heap.size≠w1.heap.size) (by have:=SZ.o;omega);clear hL2 hn2
  by_cases he:e1=0
  case neg =>
   have Be:=@Yh (G=badL e1) (by rw[HG.o,if_pos he]);have hq:(e1 != 0)=true:=by rw[YJ];exact he
   clear he;obtain⟨⟨e0,e1',e2,e3,e4,e5⟩,f0,f1,f2,f3,f4,f5⟩:=Zu A7.o;have BS:=Yh (Zj Bc.o A0.o.2.2.2.2.2.1 (.slice none 0 0) (.slice none 0 0) (.slice none 0 0) (.slice none 0 0) (.slice none 0 0) (.int .i64 e1));unfold set6 at BS;go_wp2_with fail
   try simp only[Exit.inBlock,Exit.then]
   refine bodyPost_ret (v:=.agg #[.slice none 0 0,.slice none 0 0,.slice none 0 0,.slice none 0 0,.slice none 0 0,.int .i64 e1]) ?_ rfl ?_
   ·simp[results,Tryz.results30,go_sem,e0,e1',e2,e3,e4,e5]
   rw[Be.o];exact⟨_,rfl,Zc9 _ _ _,BS.o⟩
  subst he;have hq:((0:Int) != 0)=false:=rfl;have Am:=HG.o;rw[if_neg (fun g=>g rfl)]at Am;have Af:=(ZV As.o q).2 (by rw[HR.o]);rw[HR.o]at Af;have AJ:rightU V2=true:=Af.1;have An:inL V2.types f=true:=Af.2.2.1;have AK:inL V2.types q=true:=Zg0 Af.2.1 A6.o;unfold inL at An;have An:=Yf An;obtain⟨zf,rfl⟩:∃zf:Nat,f=(zf:Int):=⟨f.toNat,by omega⟩
  have Aw:zf<V2.types.length:=by omega
  obtain⟨vb,vof,rfl,hvb,hvcl⟩:=Aa.o.o.types.cells (by omega);obtain⟨_,_,_,_,k8,-,-,-,-,-,-,-⟩:=hvcl zf Aw;obtain⟨kf,hkf⟩:=Yn (V2.types[zf].kind);rw[Z80 Aw,hkf]at Am;rw[hkf]at k8;have AL:=Yh Am;have Bf:=Yh AJ;have Bg:=Yh AK;have Bh:(zf:Int)<(L2:Int):=by rw[<-AI.o];omega
  clear Am Af AJ An AK hvcl hkf Aw hvb
  by_cases hbad:kf=1\/kf=7
  ·have Bi:=@Yh (G=⟨u,[],[],[],0⟩) (by rw[AL.o,if_pos hbad])
   obtain⟨g0,g1,g2,g3,g4,g5⟩:=cell6L A3.o;obtain⟨⟨e0,e1',e2,e3,e4,e5⟩,f0,f1,f2,f3,f4,f5⟩:=Zu A7.o;have Ax:=@Yh (¬(fun b=>Sb b/\b≠w1.heap.size) w1.heap.size) (fun g=>g.2 rfl);have Bj:=@Yh (UnS (fun b=>Sb b/\b≠w1.heap.size) wc (some ⟨ab,aof,none⟩) no ac nc u) ((Zf (T:=fun b=>Sb b/\b≠w1.heap.size) AG.o (fun b hlt g=>⟨g,by have:=A0.o;omega⟩)).same (SameS.below Bc.o));have Ay:=Yh (Zf (T:=Sb) (Bj.o.same (Z51 Ax.o wc (.slice (some ⟨ab,aof,none⟩) L ac) (.slice no n nc) (.slice none 0 0) (.slice none 0 0) (.slice none 0 0) (.int .i64 0))) (fun b _ g=>g.1));have BS:=Yh (Zj Bc.o A0.o.2.2.2.2.2.1 (.slice (some ⟨ab,aof,none⟩) L ac) (.slice no n nc) (.slice none 0 0) (.slice none 0 0) (.slice none 0 0) (.int .i64 0));unfold set6 at BS Ay
   have Ag:=Yh (show ∀s,UnS Sb s (some ⟨ab,aof,none⟩) no ac nc u->LvA Sb s (.agg #[.slice (some ⟨ab,aof,none⟩) L ac,.slice no n nc,.slice none 0 0,.slice none 0 0,.slice none 0 0,.int .i64 0]) G from fun s hs=>by
    rw[Bi.o];exact⟨_,no,ac,nc,none,0,none,0,none,0,[],[],by rw[<-HL.o,<-HN.o];rfl,hs,.inl rfl,rfl,fun z hz=>absurd hz (by simp),Yk _,.inl rfl,fun z hz=>absurd hz (by simp),Yk _,rfl,.inl rfl,Yk _,fun _=>rfl⟩)
   rcases hbad with h1|h7
   ·subst h1
    go_wp2_with fail
    try simp only[Exit.inBlock,Exit.then]
    refine bodyPost_ret (v:=.agg #[.slice (some ⟨ab,aof,none⟩) L ac,.slice no n nc,.slice none 0 0,.slice none 0 0,.slice none 0 0,.int .i64 0]) ?_ rfl ?_
    ·simp[results,Tryz.results30,go_sem,e0,e1',e2,e3,e4,e5]
    exact⟨_,rfl,Ag.o _ Ay.o,BS.o⟩
   ·subst h7
    go_wp2_with fail
    try simp only[Exit.inBlock,Exit.then]
    refine bodyPost_ret (v:=.agg #[.slice (some ⟨ab,aof,none⟩) L ac,.slice no n nc,.slice none 0 0,.slice none 0 0,.slice none 0 0,.int .i64 0]) ?_ rfl ?_
    ·simp[results,Tryz.results30,go_sem,e0,e1',e2,e3,e4,e5]
    exact⟨_,rfl,Ag.o _ Ay.o,BS.o⟩
  have BO:(kf==1)=false:=by rw[Yc];exact fun g=>hbad (.inl g)
  have BP:(kf==7)=false:=by rw[Yc];exact fun g=>hbad (.inr g)
  have Bk:=@Yh (lkL V2 [⟨q,true,[],false⟩] [q]=G) (by rw[AL.o,if_neg hbad]);have Bl:=@Yh (Gl V2 [⟨q,true,[],false⟩]) (⟨Bf.o,fun s hs=>by obtain rfl:=Yo.1 hs;exact Bg.o⟩);clear hbad;obtain⟨x1,h1⟩:=Yn (wc.setCell ⟨w2.heap.size,0,none⟩ (.slice (some ⟨vb,vof,none⟩) L2 c3));obtain⟨x2,h2⟩:=Yn (x1.setCell ⟨w2.heap.size,1,none⟩ (.slice o2 n2 c4));have Az:=Yh (Z23 A3.o h1);have Bm:=Yh (Zz3 Az.o h2);have Bn:=Yh (Z4 (Z4 A7.o A0.o.2.1 h1) A0.o.2.1 h2);have AM:=Yh (Z4 (Z4 Av.o A0.o.1 h1) A0.o.1 h2);have Ah:=@Yh (¬S3 Sb w1.heap.size w2.heap.size w4.heap.size w2.heap.size) (fun g=>g.1.2.2 rfl);have A4:=@Yh (¬S3 Sb w1.heap.size w2.heap.size w4.heap.size w4.heap.size) (fun g=>g.2 rfl);have Bo:=Yh ((Aa.o.same (SameS.set Ah.o h1)).same (SameS.set Ah.o h2));have AN:=Yh (Z6 (Z6 Bc.o A0.o.2.2.2.2.1 h1) A0.o.2.2.2.2.1 h2);obtain⟨x3,h3⟩:=Yn ((((x2.setCell ⟨w4.heap.size,0,none⟩ (.int .i64 q)).setCell ⟨w4.heap.size,1,none⟩ (.bool true)).setCell ⟨w4.heap.size,2,none⟩ (.bool false)).setCell ⟨w4.heap.size,3,none⟩ (.slice none 0 0));have AO:=Yh (ZJ1 AM.o h3);have AP:=@Yh (BlockAt x3 w2.heap.size _ _) (by rw[<-h3];exact(((Bm.o.other A0.o.1.symm _ _).other A0.o.1.symm _ _).other A0.o.1.symm _ _).other A0.o.1.symm _ _);have Bp:=@Yh (BlockAt x3 w1.heap.size _ _) (by rw[<-h3];exact(((Bn.o.other A0.o.2.2.2.2.2.2.symm _ _).other A0.o.2.2.2.2.2.2.symm _ _).other A0.o.2.2.2.2.2.2.symm _ _).other A0.o.2.2.2.2.2.2.symm _ _);have Bq:=Yh (Zf (T:=lessS Sb w1.heap.size w2.heap.size) (Bo.o.same (show SameS (S3 Sb w1.heap.size w2.heap.size w4.heap.size) x2 x3 from by rw[<-h3];exact(((SameS.set A4.o rfl).trans (SameS.set A4.o rfl)).trans (SameS.set A4.o rfl)).trans (SameS.set A4.o rfl))) (fun b _ g=>g.1));have Ao:=@Yh (w.heap.size<=w4.heap.size) (by have:=SZ.o;omega);have Br:=@Yh (Below w.heap.size w x3) (by rw[<-h3];exact(((AN.o.setCell Ao.o _).setCell Ao.o _).setCell Ao.o _).setCell Ao.o _)
  have Bs:=Yh (show wc.heap.size<=x3.heap.size from by
   have g1:x1.heap.size=wc.heap.size:=by rw[<-h1];simp
   have g2:x2.heap.size=x1.heap.size:=by rw[<-h2];simp
   have g3:x3.heap.size=x2.heap.size:=by rw[<-h3];simp
   omega)
  have NE:=@Yh (w4.heap.size≠w2.heap.size/\w1.heap.size≠w2.heap.size/\w2.heap.size<x3.heap.size/\w1.heap.size<x3.heap.size/\w.heap.size<=w2.heap.size/\w.heap.size<=w1.heap.size) (by have:=A0.o;have:=Bd.o;have:=Bs.o;omega);obtain⟨c0,c1,-,-,-,-⟩:=cell6L A3.o;have Bt:=A3.o.free 0;have d1:=(cell6L Az.o).2.1;have Bu:=Az.o.free 1;obtain⟨⟨e0,e1',e2,e3⟩,ef0,ef1,ef2,ef3⟩:=ZI1 AM.o;have x4:=(cell5 ((Aq.o.below BX.o))).2.2.2.2;have Bv:=(cell5 (Z4 (Z4 (Aq.o.below BX.o) (show w3.heap.size≠w2.heap.size from by have:=SZ.o;omega) h1) (show w3.heap.size≠w2.heap.size from by have:=SZ.o;omega) h2)).2.2.2.2;have Bw:=(AN.o.cell (p:=⟨kb,kof,none⟩) B4.o).trans B6.o;go_upto_region 13 with fail;clear c0 c1 Bt d1 Bu e0 e1' e2 e3 ef0 ef1 ef2 ef3 x4 Bv Bw h1 h2 h3 t0 t1 t2 t4 k8;obtain⟨p0,p1,p2,p3⟩:=cell4 AO.o;obtain⟨Z,hZ⟩:∃Z:Ez,Z=⟨⟨q,true,[],false⟩,none,0⟩:=⟨_,rfl⟩
  have HZ:=Yh hZ;have AQ:eC Z=[.int .i64 q,.bool true,.bool false,.slice none 0 0]:=by rw[hZ];rfl
  have Bx:=Yh AQ;have o2:=(cell6L AP.o).2.2.1;clear hZ AQ;go_wp2_with (at_builtin;refine wpList_append_own_at _ rfl _ _ 75 rfl x3.heap.size 115 i0 (.agg #[.int .i64 0,.bool false,.bool false,.slice none 0 0]) 4 40 Tryz.underlying75 hi hz0 hz1 hz2 rfl (by decide) _ 0 [] rfl (World.ownsRow_nil _ _ _ _) ⟨x3.heap.size,0,none⟩ 1 1 (eC Z) rfl ?c1 ?c2 ?c3 ?c4 ?c5 ?c6 ?_)
  case c1=>rfl
  case c2=>rw[Bx.o];first|exact Z9 _ _ _|exact fun j u h=>h
  case c3=>exact Z33 _
  case c4=>unfold maxLen;omega
  try case c5=>omega
  try case c6=>simp
  intro v1 w6 hown hgrow _ hblk;have hp:=pushG (k:=4) (enc:=eC) (T:=115) (W:=x3) (wr:=x3) (base:=x3.heap.size) (v:=.slice none 0 0) (l:=([]:List Ez)) (r:=[Z]) rfl (Yk _) (ZY0 _ _) (Y8 _ _) ((Y8 _ _).alloc (Yk _) (.cells #[.int .i64 q,.bool true,.bool false,.slice none 0 0] 115)) (by rw[Zs];exact hown) hgrow (by simpa using hblk);have AR:=Yh hp.1;have Ac:=Yh hp.2.1;clear hown hgrow hblk hp o2;obtain⟨lo,cap,AA,hcap,hlb,-⟩:=AR.o.row Zk2;have AA:v1=.slice lo 1 cap:=AA;subst AA;obtain⟨w7,h7⟩:=Yn (w6.setCell ⟨w2.heap.size,2,none⟩ (.slice lo 1 cap));have AB:=Yh (AP.o.below Ac.o);have AS:=Yh (Zn6 AB.o h7);have By:=Yh (Z4 (AO.o.below Ac.o) NE.o.1 h7);have Bz:=Yh (Z4 (Bp.o.below Ac.o) NE.o.2.1 h7);have AT:=@Yh (¬lessS Sb w1.heap.size w2.heap.size w2.heap.size) (fun g=>g.2.2 rfl);have Ax:=@Yh (¬lessS Sb w1.heap.size w2.heap.size w1.heap.size) (fun g=>g.2.1 rfl);have BA:=Yh ((Bq.o.same (SameS.below Ac.o)).same (SameS.set AT.o h7));have BB:=Yh (AR.o.other NE.o.2.2.1 h7);have B7:=Yh (Z6 (YU Br Ac.o) NE.o.2.2.2.2.1 h7);have Ap:=@Yh (x3.heap.size<=w7.heap.size) (Yj Ac.o.size (SameS.set (Sb:=fun _=>False) (fun g=>g) h7).1);have t2:=(cell6L AB.o).2.2.1;have f2:=AB.o.free 2;have t4:=(cell6L AS.o).2.2.2.2.1;have BC:=(cell4 By.o).1;clear p0 p1 p2 p3;go_wp2_with (at_builtin;refine wpList_append_own_at _ rfl _ _ 26 rfl w7.heap.size 3 j0 (.int .i64 0) 1 8 Tryz.underlying26 hj hj0 hj1 hj2 rfl (by decide) _ 0 [] rfl (World.ownsRow_nil _ _ _ _) ⟨w7.heap.size,0,none⟩ 1 1 (iC q) rfl ?d1 ?d2 ?d3 ?d4 ?d5 ?d6 ?_)
  case d1=>rfl
  case d2=>first|exact Z9 _ _ _|exact fun j u h=>h
  case d3=>exact ZW4 _
  case d4=>unfold maxLen;omega
  try case d5=>omega
  try case d6=>simp
  intro v2 w8 hown hgrow _ hblk;have hp:=pushG (k:=1) (enc:=iC) (T:=3) (W:=w7) (wr:=w7) (base:=w7.heap.size) (v:=.slice none 0 0) (l:=([]:List Int)) (r:=[q]) rfl (Yk _) (ZY0 _ _) (Y8 _ _) ((Y8 _ _).alloc (Yk _) (.cells #[.int .i64 q] 3)) (by rw[Zs];exact hown) hgrow (by simpa using hblk);have AU:=Yh hp.1;have Ai:=Yh hp.2.1;clear hown hgrow hblk hp t2 f2 t4 BC h7;obtain⟨so,sc,AC,hsc,-,-⟩:=AU.o.row ZW;have AC:v2=.slice so 1 sc:=AC;subst AC;obtain⟨w9,h9⟩:=Yn (w8.setCell ⟨w2.heap.size,4,none⟩ (.slice so 1 sc));have AD:=Yh (AS.o.below Ai.o);have AV:=Yh (Z66 AD.o h9);have AW:=Yh (Z4 (Bz.o.below Ai.o) NE.o.2.1 h9);have BD:=Yh ((BA.o.same (SameS.below Ai.o)).same (SameS.set AT.o h9));have BE:=Yh ((BB.o.kept Ai.o).other NE.o.2.2.1 h9);have BF:=Yh (AU.o.other (Yi NE.o.2.2.1 Ap.o) h9);have B9:=Yh (Z6 (YU B7 Ai.o) NE.o.2.2.2.2.1 h9);have R9:=@Yh (w1.heap.size<w9.heap.size/\w2.heap.size<w9.heap.size) (⟨AW.o.lt,AV.o.lt⟩);obtain⟨lo3,cap3,AE,hcap3,-,hrow⟩:=BE.o.row Zk2;have AE:Value.slice lo 1 cap=.slice lo3 1 cap3:=AE
  injection AE with i1 _ i3
  subst i1;subst i3;obtain⟨so3,sc3,AF,hsc3,-,hsrow⟩:=BF.o.row ZW;have AF:Value.slice so 1 sc=.slice so3 1 sc3:=AF
  injection AF with i4 _ i6
  subst i4;subst i6;have GE:=Yh (hrow (lessS Sb w1.heap.size w2.heap.size) (fun b hb=>⟨Ad.o b (by have:=NE.o;omega),by have:=NE.o;omega,by have:=NE.o;omega⟩));have GS:=Yh (ZX (hsrow (lessS Sb w1.heap.size w2.heap.size) (fun b hb=>⟨Ad.o b (by have:=NE.o;have:=Ap.o;omega),by have:=NE.o;have:=Ap.o;omega,by have:=NE.o;have:=Ap.o;omega⟩)));have Aj:=@Yh ([Z].map (·.sp)=[⟨q,true,[],false⟩]) (by rw[HZ.o];rfl);have A8:=Z82 (lessS Sb w1.heap.size w2.heap.size) V2 (some ⟨vb,vof,none⟩) o2 c3 c4 [Z] lo cap none 0 0 so 1 sc w9 (fun b hb=>⟨Ad.o b (by have:=NE.o;have:=R9.o;omega),by have:=R9.o;omega,by have:=R9.o;omega⟩) BD.o (by rw[Aj.o];exact Bl.o) (GE.o.sub (fun _ _ _=>trivial)) (by simp) hcap3;rw[AI.o,Bb.o]at A8;have BG:=@Yh (Calls Tryz.prog 59 #[.agg #[.slice (some ⟨vb,vof,none⟩) L2 c3,.slice o2 n2 c4,.slice lo 1 cap,.slice none 0 0,.slice so 1 sc,.int .i64 0]] w9 _) (A8);have t4:=(cell6L AD.o).2.2.2.2.1;have f4:=AD.o.free 4;obtain⟨l0,l1,l2,l3,l4,l5⟩:=cell6L AV.o;have BH:=Yh hcap3;have BI:=Yh hsc3;clear A8 hrow hsrow hcap3 hsc3 hcap hsc hlb hi hz0 hz1 hz2 hj hj0 hj1 hj2;go_wp2_with fail;refine BG.o.mono ?_;rintro e w10 hLR;obtain⟨val,rfl,hLV,b10⟩:=ZD5 (ez:=[Z]) (seen:=[q]) hLR GE.o (fun y hy=>by obtain rfl:=Yo.1 hy;rw[HZ.o];exact⟨.inl rfl,Yk _,fun _=>rfl⟩) BH.o GS.o BI.o (ZR6 GS.o Nat.one_pos);rw[Aj.o,Bk.o]at hLV;have BJ:=Yh hLV;obtain⟨ao',no',ac',nc',eo',ec',wo',wc',so',sc',ez',wz',hv,-⟩:=hLV;subst hv;have BK:=YT B9 b10;obtain⟨⟨e0,e1,e2,e3,e4,e5⟩,f0,f1,f2,f3,f4',f5⟩:=Zu (AW.o.below b10);clear hLR b10 t4 f4 l0 l1 l2 l3 l4 l5 h9;go_wp2_with fail
  try simp only[Exit.inBlock,Exit.then]
  refine bodyPost_ret (v:=.agg #[.slice ao' G.u.types.length ac',.slice no' G.u.named.length nc',.slice eo' ez'.length ec',.slice wo' wz'.length wc',.slice so' G.seen.length sc',.int .i64 G.e]) ?_ rfl ?_
  ·simp[results,Tryz.results30,go_sem,e0,e1,e2,e3,e4,e5]
  exact⟨_,rfl,(BJ.o.same (Z51 Ax.o w10 _ _ _ _ _ _)).sub (fun b _ hs=>hs.1),Zj BK.o NE.o.2.2.2.2.2 _ _ _ _ _ _⟩
theorem Za8(l:List Int):∀u∈intC l,u.oneCell'=true:=by
 intro u hu;obtain⟨x,_,rfl⟩:=Y4.1 hu
 rfl
theorem Z2d(a b:List Int):intC (a++b)=intC a++intC b:=Yu
theorem ZM1(a:List Int):(intC a).length=a.length:=Yg _
set_option maxRecDepth 100000 in
theorem Zf5(ao:Option Addr)(c:Nat)(zs:List Int)(w:World)(hr:IRow w ao zs)(hl:zs.length<=1000) :
  Calls Tryz.prog 72 #[.slice ao zs.length c] w fun e w'=>∃v,e=.returned v/\OwnK w' w.heap.size v zs/\Below w.heap.size w w':=by
 cases ao with
 | none =>
  have hz:zs=[]:=by
   rcases hr with h|⟨b,off,h,-⟩
   ·exact h
   ·cases h
  subst hz;have A0:=fun W=>ZJ2 W none 0 c
  simp only[Option.isNone_none]at A0;go_enter Tryz.func72,Tryz.ntmps72;go_wp2_with fail;go_ret;exact⟨_,rfl,Zk4 _ _,Y8 _ _⟩
 | some ad =>
  obtain⟨i0,hi,hz0,hz1,hz2⟩:=info_parts ZI0;have HR:=Yh hr;have O0:=@Yh ((w.alloc (.cells #[] 3)).ownsRow w.heap.size 3 1 (.slice (some ⟨w.heap.size,0,none⟩) 0 0) 0 []) (World.ownsRow_made w #[] 0 (Yk _) (by unfold maxLen;omega) rfl);have B0:=@Yh (Below w.heap.size w (w.alloc (.cells #[] 3))) ((Y8 _ _).alloc (Yk _) _);obtain⟨n,hn⟩:=Yn (zs.length);have HN:=Yh hn
  have HC:=Yh (show ∀j u,(intC zs)[j]? = some u->(w.alloc (.cells #[] 3)).cell? (ad.add j)=some u from fun j u hu=>by
   obtain⟨hj,rfl⟩:=YI.1 hu;rw[ZM1]at hj;obtain⟨b,off,e,hb,hc⟩:=HR.o.cells (by omega)
   injection e with e
   subst e;have A1:(⟨b,off,none⟩:Addr).add j=⟨b,off+j,none⟩:=by unfold Addr.add;split<;>simp_all
   rw[A1,B0.o.cell (p:=⟨b,off+j,none⟩) hb,hc j hj];rw[Z3 hj];simp[intC])
  rw[hn]at hl ⊢;clear hr hn;have A0:=fun W=>ZJ2 W (some ad) n c
  simp only[Option.isNone_some]at A0;go_enter Tryz.func72,Tryz.ntmps72;go_wp2_with (at_builtin;refine wpList_append_own_at _ rfl _ _ 26 rfl w.heap.size 3 i0 (.int .i64 0) 1 8 Tryz.underlying26 hi hz0 hz1 hz2 rfl (by decide) _ 0 [] rfl O0.o ad n c (intC zs) rfl ?c1 ?c2 ?c3 ?c4 ?c5 ?c6 ?_)
  case c1=>rw[ZM1,HN.o,Nat.mul_one]
  case c2=>exact HC.o
  case c3=>exact Za8 _
  case c4=>unfold maxLen;omega
  case c5=>omega
  case c6=>exact B0.o.size
  intro v' w1 hown hgrow _ _;have B1:=Yh (B0.o.grown hgrow B0.o.size (fun k hk=>(O0.o.lt k hk).1))
  have HO:=Yh (show OwnK w1 w.heap.size v' zs from by
   unfold OwnK;rw[HN.o]
   simpa using hown)
  clear hown hgrow;go_wp2_with fail;go_ret;exact⟨v',rfl,HO.o,B1.o⟩
theorem ZH5{w:World}{base n:Nat}{v:Value}{l:List Int}{q:Int}(hn:n=l.length+1)(h:w.ownsRow base 3 1 v n (intC l++[.int .i64 q])):OwnK w base v (l++[q]):=by
 subst hn;unfold OwnK;rw[Z2d,Ye];exact h
set_option maxRecDepth 100000 in
theorem ZX4(ao:Option Addr)(c:Nat)(zs:List Int)(q:Int)(w:World)(hr:IRow w ao zs)(hl:zs.length<=999) :
  Calls Tryz.prog 71 #[.slice ao zs.length c,.int .i64 q] w fun e w'=>∃v,e=.returned v/\OwnK w' w.heap.size v (zs++[q])/\Below w.heap.size w w':=by
 have HC:=Yh (Zf5 ao c zs w hr (by omega));obtain⟨i0,hi,hz0,hz1,hz2⟩:=info_parts ZI0;obtain⟨n,hn⟩:=Yn (zs.length);have HN:=Yh hn;rw[hn]at hl HC ⊢;clear hr hn;go_enter Tryz.func71,Tryz.ntmps71;go_wp2_with fail;refine HC.o.mono ?_;rintro e w1 ⟨v,rfl,hO,b1⟩;have O1:=@Yh (w1.ownsRow w.heap.size 3 1 v n (intC zs)) (by unfold OwnK at hO;rw[HN.o]at hO;exact hO);have B1:=Yh b1;clear hO b1;go_wp2_with (at_builtin;refine wpList_append_own_at _ rfl _ _ 26 rfl w.heap.size 3 i0 (.int .i64 0) 1 8 Tryz.underlying26 hi hz0 hz1 hz2 rfl (by decide) _ n (intC zs) rfl (O1.o.alloc _) ⟨w1.heap.size,0,none⟩ 1 1 [.int .i64 q] rfl ?c1 ?c2 ?c3 ?c4 ?c5 ?c6 ?_)
 case c1=>rfl
 case c2=>exact Z9 _ _ _
 case c3=>intro u hu;simp at hu;subst hu;rfl
 case c4=>unfold maxLen;omega
 case c5=>omega
 case c6=>have:=B1.o.size;simp;omega
 intro v' w2 hown hgrow _ _;have ba:Below w1.heap.size w1 (w1.alloc (.cells #[.int .i64 q] 3)):=(Y8 _ _).alloc (Yk _) _;have A0:=YU B1 ba;have B2:=Yh (A0.grown hgrow A0.size (fun k hk=>(World.ownsRow.lt O1.o k hk).1));have HO:=Yh (ZH5 (l:=zs) (by rw[HN.o]) hown);clear hown hgrow ba A0;go_wp2_with fail;go_ret;exact⟨v',rfl,HO.o,B2.o⟩
set_option maxRecDepth 100000 in
theorem Z53(ao:Option Addr)(c:Nat)(zs:List Int)(q:Int)(w:World)(hr:IRow w ao zs)(hl:zs.length<=999)(hnil:ao=none->c=0) :
  Calls Tryz.prog 61 #[.slice ao zs.length c,.int .i64 q] w fun e w'=>∃v,e=.returned v/\OwnK w' w.heap.size v (zs++[q])/\Below w.heap.size w w':=by
 obtain⟨i0,hi,hz0,hz1,hz2⟩:=info_parts ZI0;have O0:=@Yh ((w.alloc (.cells #[] 3)).ownsRow w.heap.size 3 1 (.slice (some ⟨w.heap.size,0,none⟩) 0 0) 0 []) (World.ownsRow_made w #[] 0 (Yk _) (by unfold maxLen;omega) rfl);have B0:=@Yh (Below w.heap.size w (w.alloc (.cells #[] 3))) ((Y8 _ _).alloc (Yk _) _)
 cases ao with
 | none =>
  obtain rfl:=hnil rfl
  have hz:zs=[]:=by
   rcases hr with h|⟨b,off,h,-⟩
   ·exact h
   ·cases h
  subst hz;clear hr hl hnil;obtain⟨wa,hwa⟩:=Yn (w.alloc (.cells #[] 3));rw[hwa]at O0 B0;go_enter Tryz.func61,Tryz.ntmps61;go_wp2_with (at_builtin;refine wpList_append_own_at _ rfl _ _ 26 rfl w.heap.size 3 i0 (.int .i64 0) 1 8 Tryz.underlying26 hi hz0 hz1 hz2 rfl (by decide) _ 0 [] rfl (O0.o.alloc _) ⟨wa.heap.size,0,none⟩ 1 1 [.int .i64 q] rfl ?c1 ?c2 ?c3 ?c4 ?c5 ?c6 ?_)
  case c1=>rfl
  case c2=>exact Z9 _ _ _
  case c3=>intro u hu;simp at hu;subst hu;rfl
  case c4=>unfold maxLen;omega
  case c5=>omega
  case c6=>have:=B0.o.size;simp;omega
  intro v' w2 hown hgrow _ _;have ba:Below wa.heap.size wa (wa.alloc (.cells #[.int .i64 q] 3)):=(Y8 _ _).alloc (Yk _) _;have A0:=YU B0 ba;have B2:=Yh (A0.grown hgrow A0.size (fun k hk=>(World.ownsRow.lt O0.o k hk).1));have HO:=Yh (ZH5 (l:=[]) rfl hown);clear hown hgrow ba A0;go_wp2_with fail;go_ret;exact⟨v',rfl,HO.o,B2.o⟩
 | some ad =>
  have HR:=Yh hr;obtain⟨n,hn⟩:=Yn (zs.length);have HN:=Yh hn
  have HC:=Yh (show ∀j u,(intC zs)[j]? = some u->(w.alloc (.cells #[] 3)).cell? (ad.add j)=some u from fun j u hu=>by
   obtain⟨hj,rfl⟩:=YI.1 hu;rw[ZM1]at hj;obtain⟨b,off,e,hb,hc⟩:=HR.o.cells (by omega)
   injection e with e
   subst e;have A1:(⟨b,off,none⟩:Addr).add j=⟨b,off+j,none⟩:=by unfold Addr.add;split<;>simp_all
   rw[A1,B0.o.cell (p:=⟨b,off+j,none⟩) hb,hc j hj];rw[Z3 hj];simp[intC])
  rw[hn]at hl ⊢;clear hr hn hnil;go_enter Tryz.func61,Tryz.ntmps61;go_wp2_with (at_builtin;refine wpList_append_own_at _ rfl _ _ 26 rfl w.heap.size 3 i0 (.int .i64 0) 1 8 Tryz.underlying26 hi hz0 hz1 hz2 rfl (by decide) _ 0 [] rfl O0.o ad n c (intC zs) rfl ?c1 ?c2 ?c3 ?c4 ?c5 ?c6 ?_)
  case c1=>rw[ZM1,HN.o,Nat.mul_one]
  case c2=>exact HC.o
  case c3=>exact Za8 _
  case c4=>unfold maxLen;omega
  case c5=>omega
  case c6=>exact B0.o.size
  intro v1 w1 hown hgrow _ _;have B1:=Yh (B0.o.grown hgrow B0.o.size (fun k hk=>(O0.o.lt k hk).1));have O1:=@Yh (w1.ownsRow w.heap.size 3 1 v1 n (intC zs)) (by simpa using hown);clear hown hgrow;go_wp2_with (at_builtin;refine wpList_append_own_at _ rfl _ _ 26 rfl w.heap.size 3 i0 (.int .i64 0) 1 8 Tryz.underlying26 hi hz0 hz1 hz2 rfl (by decide) _ n (intC zs) rfl (O1.o.alloc _) ⟨w1.heap.size,0,none⟩ 1 1 [.int .i64 q] rfl ?c1 ?c2 ?c3 ?c4 ?c5 ?c6 ?_)
  case c1=>rfl
  case c2=>exact Z9 _ _ _
  case c3=>intro u hu;simp at hu;subst hu;rfl
  case c4=>unfold maxLen;omega
  case c5=>omega
  case c6=>have:=B1.o.size;simp;omega
  intro v' w2 hown hgrow _ _;have ba:Below w1.heap.size w1 (w1.alloc (.cells #[.int .i64 q] 3)):=(Y8 _ _).alloc (Yk _) _;have A0:=YU B1 ba;have B2:=Yh (A0.grown hgrow A0.size (fun k hk=>(World.ownsRow.lt O1.o k hk).1));have HO:=Yh (ZH5 (l:=zs) (by rw[HN.o]) hown);clear hown hgrow ba A0;go_wp2_with fail;go_ret;exact⟨v',rfl,HO.o,B2.o⟩
end Go.Proofs.YtdcajkagakikiaaGreatDoor
