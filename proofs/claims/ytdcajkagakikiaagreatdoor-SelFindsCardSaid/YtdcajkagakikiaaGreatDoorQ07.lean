import Derived.Test.YtdcajkagakikiaaGreatDoorQ06
namespace Go.Proofs.YtdcajkagakikiaaGreatDoor
set_option maxHeartbeats 64000000
set_option linter.unusedSimpArgs false
set_option linter.unusedVariables false
open Go.RowKit
def eqW:ByteArray:=⟨#[61]⟩
def tiW:ByteArray:=⟨#[126]⟩
instance memDec (x:ByteArray×Int) (ps:List (ByteArray×Int)):Decidable (x∈ps):=decidable_of_iff (ps.any (fun q=>decide (q=x))=true) (by simp)
def markP(ps:List (ByteArray×Int))(p:Nat):List (ByteArray×Int):=
 if(tiW,(p:Int))∈ps then[(tiW,(p:Int))]else if(eqW,(p:Int))∈ps then[(eqW,(p:Int))]else[]
def termP(L:Nat)(ps:List (ByteArray×Int)):List (ByteArray×Int):=(List.range L).flatMap (markP ps)
abbrev Tm:=Bool×Int
def wordOf(b:Bool):ByteArray:=if b=true then tiW else eqW
def decP(x:Tm):ByteArray×Int:=(wordOf x.1,x.2)
def cfT(x y:Tm):Int:=if x.2<y.2 then -1 else if y.2<x.2 then 1 else if x.1=y.1 then 0 else if x.1=true then 1 else -1
def ltT(x y:Tm):Bool:=decide (x.2<y.2)||(decide (x.2=y.2)&&(!x.1&&y.1))
theorem Z85(x y:Tm):decide (cfT x y<0)=ltT x y:=by
 obtain⟨a,i⟩:=x;obtain⟨b,j⟩:=y;unfold cfT ltT
 by_cases h1:i<j
 ·simp[h1]
 ·by_cases h2:j<i
  ·have h3:¬i=j:=by omega
   simp[h1,h2,h3]
  ·have h3:i=j:=by omega
   subst h3
   cases a<;>cases b<;>simp
theorem lt_irrefl(x:Tm):ltT x x=false:=by
 obtain⟨a,i⟩:=x;unfold ltT
 cases a<;>simp
theorem Zy7{x y:Tm}:ltT x y=true↔x.2<y.2\/(x.2=y.2/\x.1=false/\y.1=true):=by
 unfold ltT;simp
theorem ZR2{x y:Tm}:ltT x y=false↔¬(x.2<y.2\/(x.2=y.2/\x.1=false/\y.1=true)):=by
 rw[<-Zy7];simp
theorem lt_trans{x y z:Tm}(h1:ltT x y=true)(h2:ltT y z=true):ltT x z=true:=by
 rw[Zy7]at *
 rcases h1 with h1|⟨h1,h3,h4⟩<;>rcases h2 with h2|⟨h2,h5,h6⟩
 ·exact .inl (by omega)
 ·exact .inl (by omega)
 ·exact .inl (by omega)
 ·rw[h4]at h5;cases h5
theorem Zc6{x y z:Tm}(h1:ltT x y=false)(h2:ltT y z=false):ltT x z=false:=by
 rw[ZR2]at *;intro h
 rcases h with h|⟨h,h3,h4⟩
 ·exact h1 (.inl (by
   rcases Int.lt_or_le x.2 y.2 with g|g
   ·exact g
   ·exact absurd (.inl (by omega)) h2))
 ·by_cases g:x.2=y.2
  ·cases hy:y.1
   ·exact h2 (.inr ⟨by omega,hy,h4⟩)
   ·exact h1 (.inr ⟨g,h3,hy⟩)
  ·rcases Int.lt_or_le x.2 y.2 with g2|g2
   ·exact h1 (.inl g2)
   ·exact h2 (.inl (by omega))
theorem Zg4{x y:Tm}(h1:ltT x y=false)(h2:ltT y x=false):x=y:=by
 obtain⟨a,i⟩:=x;obtain⟨b,j⟩:=y;rw[ZR2]at *;have h1:¬(i<j\/(i=j/\a=false/\b=true)):=h1;have h2:¬(j<i\/(j=i/\b=false/\a=true)):=h2;have e:i=j:=by omega
 subst e
 cases a<;>cases b<;>simp_all
def lasts:List Tm->List Tm
 | []=>[]
 | [x]=>[x]
 | x::y::r=>if y.2=x.2 then lasts (y::r)else x::lasts (y::r)
theorem Ze3:∀{S:List Tm} {x:Tm},x∈lasts S->x∈S
 | [],x,h=>h
 | [y],x,h=>h
 | a::b::r,x,h=>by
  unfold lasts at h
  split at h
  ·exact Yx _ (Ze3 h)
  ·rcases List.mem_cons.1 h with rfl|h
   ·exact Yt
   ·exact Yx _ (Ze3 h)
def SortedT(S:List Tm):Prop:=S.Pairwise fun x y=>ltT y x=false
theorem ZI4{x y:Tm}(h:ltT y x=false):x.2<=y.2:=by
 rw[ZR2]at h
 omega
theorem Zy3:∀{S:List Tm},SortedT S->(lasts S).Pairwise fun x y=>x.2<y.2
 | [],_=>List.Pairwise.nil
 | [y],_=>by unfold lasts;simp
 | a::b::r,h=>by
  have h':=h;unfold SortedT at h';rw[List.pairwise_cons]at h';have ih:=Zy3 (S:=b::r) h'.2;unfold lasts
  split
  ·exact ih
  ·rename_i hne
   rw[List.pairwise_cons];refine⟨fun z hz=>?_,ih⟩;have hz:=Ze3 hz;have h1:=ZI4 (h'.1 b Yt)
   have hz2:b.2<=z.2:=by
    rcases List.mem_cons.1 hz with rfl|hz
    ·exact Int.le_refl _
    ·exact ZI4 ((List.pairwise_cons.1 h'.2).1 z hz)
   omega
theorem Z06:∀{S:List Tm},SortedT S->∀x,x∈lasts S↔x∈S/\(x.1=true\/(true,x.2) ∉ S)
 | [],_,x=>by unfold lasts;simp
 | [y],_,x=>by
  unfold lasts;rw[Yo,Yo]
  constructor
  ·rintro rfl
   refine⟨rfl,?_⟩
   cases hx:x.1
   ·right
    intro h;rw[<-h]at hx
    cases hx
   ·exact .inl rfl
  ·exact fun h=>h.1
 | a::b::r,h,x=>by
  have h':=h;unfold SortedT at h';rw[List.pairwise_cons]at h';have ih:=Z06 (S:=b::r) h'.2;have hab:=h'.1 b Yt
  have tail:∀z∈b::r,b.2<=z.2:=fun z hz=>by
   rcases List.mem_cons.1 hz with rfl|hz
   ·exact Int.le_refl _
   ·exact ZI4 ((List.pairwise_cons.1 h'.2).1 z hz)
  unfold lasts
  split
  ·rename_i he
   rw[ih x]
   constructor
   ·rintro⟨h1,h2⟩
    refine⟨Yx _ h1,?_⟩
    rcases h2 with h2|h2
    ·exact .inl h2
    ·cases hx:x.1
     ·right
      intro hm
      rcases List.mem_cons.1 hm with hm|hm
      ·have:=h'.1 x h1
       rw[ZR2,<-hm]at this;exact this (.inr ⟨rfl,hx,rfl⟩)
      ·exact h2 hm
     ·exact .inl rfl
   ·rintro⟨h1,h2⟩
    rcases List.mem_cons.1 h1 with rfl|h1
    ·rcases h2 with h2|h2
     ·have:x=b:=Zg4 (by
       rw[ZR2,h2];intro g
       rcases g with g|⟨_,g,_⟩
       ·omega
       ·cases g) hab
      exact⟨by rw[this];exact Yt,.inl h2⟩
     ·cases hx:x.1
      ·have hb:b.1=false:=by
        cases hb:b.1
        ·rfl
        ·refine absurd (Yx _ ?_) h2
         rw[<-he,<-hb];exact Yt
       have:x=b:=Prod.ext (hx.trans hb.symm) he.symm;exact⟨by rw[this];exact Yt,.inr (fun g=>h2 (Yx _ g))⟩
      ·have:x=b:=Zg4 (by
        rw[ZR2,hx];intro g
        rcases g with g|⟨_,g,_⟩
        ·omega
        ·cases g) hab
       exact⟨by rw[this];exact Yt,.inl rfl⟩
    ·refine⟨h1,?_⟩
     rcases h2 with h2|h2
     ·exact .inl h2
     ·exact .inr (fun g=>h2 (Yx _ g))
  ·rename_i hne
   have A1:=ZI4 hab;have e1:x∈a::lasts (b::r)↔x=a\/x∈lasts (b::r):=List.mem_cons;have e2:x∈a::b::r↔x=a\/x∈b::r:=List.mem_cons;rw[e1,ih x,e2];have A0:∀z∈b::r,z.2≠a.2:=fun z hz=>by have:=tail z hz;omega
   constructor
   ·rintro(rfl|⟨h1,h2⟩)
    ·refine⟨.inl rfl,?_⟩
     cases hx:x.1
     ·right
      intro hm
      rcases List.mem_cons.1 hm with hm|hm
      ·rw[<-hm]at hx;cases hx
      ·exact A0 _ hm rfl
     ·exact .inl rfl
    ·refine⟨.inr h1,?_⟩
     rcases h2 with h2|h2
     ·exact .inl h2
     ·right
      intro hm
      rcases List.mem_cons.1 hm with hm|hm
      ·have:=A0 x h1
       rw[<-hm]at this;exact this rfl
      ·exact h2 hm
   ·rintro⟨rfl|h1,h2⟩
    ·exact .inl rfl
    ·refine .inr ⟨h1,?_⟩
     rcases h2 with h2|h2
     ·exact .inl h2
     ·exact .inr (fun g=>h2 (Yx _ g))
theorem ZB3:∀{xs ys:List Tm},(xs.Pairwise fun x y=>x.2<y.2)->(ys.Pairwise fun x y=>x.2<y.2)->(∀z,z∈xs↔z∈ys)->xs=ys
 | [],[],_,_,_=>rfl
 | [],y::ys,_,_,h=>absurd ((h y).2 Yt) (by simp)
 | x::xs,[],_,_,h=>absurd ((h x).1 Yt) (by simp)
 | x::xs,y::ys,hx,hy,h=>by
  rw[List.pairwise_cons]at hx hy
  have e:x=y:=by
   rcases List.mem_cons.1 ((h x).1 Yt)with e|e
   ·exact e
   ·rcases List.mem_cons.1 ((h y).2 Yt)with g|g
    ·exact g.symm
    ·have:=hy.1 x e
     have:=hx.1 y g
     omega
  subst e;rw[ZB3 hx.2 hy.2 (fun z=>?_)]
  constructor
  ·intro hz
   rcases List.mem_cons.1 ((h z).1 (Yx _ hz))with e|e
   ·subst e;have:=hx.1 z hz;omega
   ·exact e
  ·intro hz
   rcases List.mem_cons.1 ((h z).2 (Yx _ hz))with e|e
   ·subst e;have:=hy.1 z hz;omega
   ·exact e
def markQ(ms:List Tm)(p:Nat):List Tm:=if(true,(p:Int))∈ms then[(true,(p:Int))]else if(false,(p:Int))∈ms then[(false,(p:Int))]else[]
def termQ(L:Nat)(ms:List Tm):List Tm:=(List.range L).flatMap (markQ ms)
theorem Zd3{ms:List Tm}{p:Nat}{x:Tm}(h:x∈markQ ms p):x.2=(p:Int):=by
 unfold markQ at h
 split at h
 ·rw[Yo.1 h]
 ·split at h
  ·rw[Yo.1 h]
  ·cases h
theorem Z5a(L:Nat)(ms:List Tm):termQ (L+1) ms=termQ L ms++markQ ms L:=by
 unfold termQ;rw[List.range_succ,List.flatMap_append];simp
theorem ZJ6{L:Nat}{ms:List Tm}{x:Tm}(h:x∈termQ L ms):0<=x.2/\x.2<(L:Int):=by
 unfold termQ at h;rw[List.mem_flatMap]at h;obtain⟨p,hp,hx⟩:=h;rw[List.mem_range]at hp;rw[Zd3 hx]
 omega
theorem Za1(ms:List Tm):∀L,(termQ L ms).Pairwise fun x y=>x.2<y.2
 | 0=>List.Pairwise.nil
 | L+1=>by
  rw[Z5a,List.pairwise_append];refine⟨Za1 ms L,?_,fun x hx y hy=>?_⟩
  ·unfold markQ
   split
   ·simp
   ·split<;>simp
  ·rw[Zd3 hy]
   exact(ZJ6 hx).2
theorem Z12{L:Nat}{ms:List Tm}(hk:∀z∈ms,0<=z.2/\z.2<(L:Int))(x:Tm):x∈termQ L ms↔x∈ms/\(x.1=true\/(true,x.2) ∉ ms):=by
 obtain⟨b,k⟩:=x;unfold termQ;rw[List.mem_flatMap]
 constructor
 ·rintro⟨p,hp,hx⟩
  have A0:k=(p:Int):=Zd3 hx;subst A0;unfold markQ at hx
  split at hx
  ·rename_i h1
   rw[Yo]at hx;rw[hx];exact⟨h1,.inl rfl⟩
  ·rename_i h1
   split at hx
   ·rename_i h2
    rw[Yo]at hx;rw[hx];exact⟨h2,.inr h1⟩
   ·cases hx
 ·rintro⟨h1,h2⟩
  have h3:=hk _ h1;have h3:0<=k/\k<(L:Int):=h3;obtain⟨p,rfl⟩:∃p:Nat,k=(p:Int):=⟨k.toNat,by omega⟩
  refine⟨p,List.mem_range.2 (by omega),?_⟩;unfold markQ
  cases b
  ·have h2:(true,(p:Int)) ∉ ms:=by
    rcases h2 with h2|h2
    ·cases h2
    ·exact h2
   rw[if_neg h2,if_pos h1];exact Yo.2 rfl
  ·rw[if_pos h1]
   exact Yo.2 rfl
theorem ZY3{L:Nat}{ms:List Tm}(hk:∀z∈ms,0<=z.2/\z.2<(L:Int)):lasts (ms.mergeSort fun x y=>!ltT y x)=termQ L ms:=by
 have hs:SortedT (ms.mergeSort fun x y=>!ltT y x):=by
  have:=List.pairwise_mergeSort (le:=fun x y=>!ltT y x) (fun a b c h1 h2=>by
   rw[Bool.not_eq_true']at *;exact Zc6 h2 h1) (fun a b=>by
   rw[Bool.or_eq_true,Bool.not_eq_true',Bool.not_eq_true']
   cases h:ltT b a
   ·exact .inl rfl
   ·right
    rw[ZR2];rw[Zy7]at h;intro g
    rcases h with h|⟨h,h3,h4⟩<;>rcases g with g|⟨g,g3,g4⟩
    ·omega
    ·omega
    ·omega
    ·rw[h4]at g3;cases g3) ms
  unfold SortedT;exact this.imp (fun h=>by rw[Bool.not_eq_true']at h;exact h)
 refine ZB3 (Zy3 hs) (Za1 ms L) (fun z=>?_);rw[Z06 hs,Z12 hk,List.mem_mergeSort,List.mem_mergeSort]
def marksB(ps:List (ByteArray×Int)):List Tm:=(ps.filter fun p=>markB p.1).map fun p=>(decide (p.1=tiW),p.2)
theorem Z41{w:ByteArray}(h:markB w=true):w=wordOf (decide (w=tiW)):=by
 by_cases ht:w=tiW
 ·rw[Yb ht];exact ht
 ·rw[Ya ht]
  unfold markB at h;rw[Bool.or_eq_true,YK,YK,ByteArray.toList_eq]at h
  rcases h with h|h
  ·exact ByteArray.ext (Array.toList_inj.1 h)
  ·exact absurd (ByteArray.ext (Array.toList_inj.1 h)) ht
theorem mem_marks{ps:List (ByteArray×Int)}{b:Bool}{k:Int}:(b,k)∈marksB ps↔(wordOf b,k)∈ps:=by
 unfold marksB;rw[Y4]
 constructor
 ·rintro⟨⟨w,j⟩,hm,he⟩
  rw[List.mem_filter]at hm
  injection he with h1 h2
  have h1:decide (w=tiW)=b:=h1;have h2:j=k:=h2;rw[<-h1,<-h2,<-Z41 hm.2];exact hm.1
 ·intro h
  refine⟨(wordOf b,k),List.mem_filter.2 ⟨h,?_⟩,?_⟩
  ·cases b
   ·show markB (wordOf false)=true
    unfold markB;rw[ByteArray.toList_eq]
    decide
   ·show markB (wordOf true)=true
    unfold markB;rw[ByteArray.toList_eq]
    decide
  ·cases b
   ·rfl
   ·rfl
theorem Z40(L:Nat)(ps:List (ByteArray×Int)):termP L ps=(termQ L (marksB ps)).map decP:=by
 unfold termP termQ;rw[List.map_flatMap]
 congr 1
 funext p
 unfold markP markQ;have e1:((tiW,(p:Int))∈ps)↔(true,(p:Int))∈marksB ps:=(mem_marks (b:=true)).symm;have e2:((eqW,(p:Int))∈ps)↔(false,(p:Int))∈marksB ps:=(mem_marks (b:=false)).symm
 by_cases h1:(true,(p:Int))∈marksB ps
 ·rw[if_pos h1,if_pos (e1.2 h1)];rfl
 ·rw[if_neg h1,if_neg (fun g=>h1 (e1.1 g))]
  by_cases h2:(false,(p:Int))∈marksB ps
  ·rw[if_pos h2,if_pos (e2.2 h2)];rfl
  ·rw[if_neg h2,if_neg (fun g=>h2 (e2.1 g))];rfl
open Go.RowKit Go.Sort
def orI(a b:Int):Int:=if a=0 then b else a
theorem Z0e(a b:Int)(p:Nat)(w:World)(h:BlockAt w p #[.int .i64 a,.int .i64 b] 3) :
  Calls Tryz.prog 177 #[.slice (some ⟨p,0,none⟩) 2 2] w fun e w'=>e=.returned (.int .i64 (orI a b))/\w=w':=by
 unfold orI;have c0:=h.cell 0;have c1:=h.cell 1;simp only[List.getElem?_toArray,List.getElem?_cons_zero,List.getElem?_cons_succ]at c0 c1;clear h;obtain⟨r,hr⟩:∃r,(if a=0 then b else a)=r:=⟨_,rfl⟩
 rw[hr];have HR:=Yh hr;clear hr;go_enter Tryz.func177,Tryz.ntmps177;go_wp2_with fail;go_loop [8] (fun v=>v=.int .i64 0\/(v=.int .i64 1/\Hi (a=0))\/(v=.int .i64 2/\Hi (a=0/\b=0))) (fun v=>(2-intOf v).toNat)
 case atStart=>exact .inl rfl
 case round =>
  rcases hrel with rfl|⟨rfl,H0⟩|⟨rfl,H0⟩
  ·by_cases ha:a=0
   ·have A0:(a != 0)=false:=by simp[ha]
    have HA:=Yh ha;clear ha;go_wp2_with fail;go_round
    case rel=>exact .inr (.inl ⟨by go_num,HA⟩)
    case measure=>simp[intOf]
   ·have A0:(a != 0)=true:=by simp[ha]
    have HA:=Yh ha;clear ha;go_wp2_with fail;go_ret;exact⟨by first|(rw[<-HR.o,if_neg HA.o];done)|(rw[<-HR.o,if_neg HA.o];rfl),rfl⟩
  ·by_cases hb:b=0
   ·have A1:(b != 0)=false:=by simp[hb]
    have HB:=Yh (YH H0.o hb);clear hb;go_wp2_with fail;go_round
    case rel=>exact .inr (.inr ⟨by go_num,HB⟩)
    case measure=>simp[intOf]
   ·have A1:(b != 0)=true:=by simp[hb]
    clear hb;go_wp2_with fail;go_ret;exact⟨by first|(rw[<-HR.o,if_pos H0.o];done)|(rw[<-HR.o,if_pos H0.o];rfl),rfl⟩
  ·go_wp2_with fail
   go_ret;exact⟨by first|(rw[<-HR.o,if_pos H0.o.1,H0.o.2];done)|(rw[<-HR.o,if_pos H0.o.1,H0.o.2];rfl),rfl⟩
def cmpB(a b:Bool):Int:=if a=b then 0 else if a=true then 1 else -1
theorem Zb9(s:ByteArray)(w:World):Calls Tryz.prog 126 #[.string s] w fun e w'=>e=.returned (.bool false)/\w=w':=by
 go_enter Tryz.func126,Tryz.ntmps126;go_wp2_with fail;go_ret;exact⟨by simp,rfl⟩
theorem ZY9(a b:Bool)(w:World):Calls Tryz.prog 179 #[.string (wordOf a),.string (wordOf b)] w fun e w'=>e=.returned (.int .i64 (cmpB a b))/\w=w':=by
 have HA:=Yh (fun W=>Zb9 (wordOf a) W);have HB:=Yh (fun W=>Zb9 (wordOf b) W)
 cases a<;>cases b<;>simp only[wordOf,tiW,eqW,Bool.false_eq_true,if_false,if_true]at HA HB ⊢
 all_goals
  go_enter Tryz.func179,Tryz.ntmps179;go_wp2_with fail;refine(HA.o _).mono ?_;rintro e w' ⟨rfl,rfl⟩;go_wp2_with fail;refine(HB.o _).mono ?_;rintro e w' ⟨rfl,rfl⟩;go_wp2_with fail;go_ret;exact⟨rfl,rfl⟩
theorem ZV5(x y:Int):Lib.compareInt x y=if x<y then -1 else if y<x then 1 else 0:=by
 unfold Lib.compareInt
 by_cases h1:x<y
 ·simp[h1]
 ·by_cases h2:y<x<;>simp[h1,h2]
theorem Z3e(x y:Tm):orI (Lib.compareInt x.2 y.2) (cmpB x.1 y.1)=cfT x y:=by
 unfold orI;rw[ZV5];unfold cfT cmpB
 by_cases h1:x.2<y.2
 ·simp[h1]
 ·by_cases h2:y.2<x.2
  ·simp[h1,h2]
  ·simp[h1,h2]
def encT(x:Tm):List Value:=[.string (wordOf x.1),.int .i64 x.2]
set_option maxRecDepth 100000 in
theorem ZJ8(x y:Tm)(W:World):Calls Tryz.prog 176 #[.agg (encT x).toArray,.agg (encT y).toArray] W fun e w'=>e=.returned (.int .i64 (cfT x y))/\∃q os',w'=grow (W.drewN q) os':=by
 have A2:=Yh (fun w=>Tryz.cmp_Compare_int x.2 y.2 w);have A3:=Yh (fun w=>ZY9 x.1 y.1 w);have A1:=Yh (Z3e x y);unfold encT;obtain⟨ci,hci⟩:=Yn (Lib.compareInt x.2 y.2);obtain⟨cs,hcs⟩:=Yn (cmpB x.1 y.1);obtain⟨i,hi⟩:=Yn (x.2);obtain⟨j,hj⟩:=Yn (y.2);obtain⟨a,ha⟩:=Yn (wordOf x.1);obtain⟨b,hb⟩:=Yn (wordOf y.1);rw[hci]at A2 A1;rw[hcs]at A3 A1;rw[hi,hj]at A2;rw[ha,hb]at A3;rw[hi,hj,ha,hb];obtain⟨r,hr⟩:=Yn (cfT x y);rw[hr]at A1 ⊢;have A0:=fun p w h=>Z0e ci cs p w h
 rw[A1.o]at A0;have A5:=Yh A0;clear hci hcs hi hj ha hb hr A0
 show Calls Tryz.prog 176 #[.agg #[.string a,.int .i64 i],.agg #[.string b,.int .i64 j]] W _
 obtain⟨w1,h1⟩:=Yn (W.alloc (.cells #[.string a,.int .i64 i] 229));obtain⟨w2,h2⟩:=Yn (w1.alloc (.cells #[.string b,.int .i64 j] 229));obtain⟨nb,hnb⟩:=Yn (W.heap.size);obtain⟨mb,hmb⟩:=Yn (w1.heap.size);have k1:BlockAt w1 nb #[.string a,.int .i64 i] 229:=by rw[<-h1,<-hnb];exact BlockAt.new _ _ _
 have k2:BlockAt w2 mb #[.string b,.int .i64 j] 229:=by rw[<-h2,<-hmb];exact BlockAt.new _ _ _
 have A4:BlockAt w2 nb #[.string a,.int .i64 i] 229:=k1.below (by rw[<-h2];exact(Y8 _ _).alloc (Yk _) _)
 have HG:=Yh (show w2=grow W #[.cells #[.string a,.int .i64 i] 229,.cells #[.string b,.int .i64 j] 229]from by
  rw[<-h2,<-h1,alloc_eq_grow,alloc_eq_grow,grow_grow];rfl)
 have c0:=A4.cell 0;have c1:=A4.cell 1;have d0:=k2.cell 0;have d1:=k2.cell 1;simp only[List.getElem?_toArray,List.getElem?_cons_zero,List.getElem?_cons_succ]at c0 c1 d0 d1;clear k1 k2 A4;go_enter Tryz.func176,Tryz.ntmps176;go_wp2_with fail;refine GoG.start [(4,⟨nb,1,none⟩,.int .i64 i),(4,⟨mb,1,none⟩,.int .i64 j),(9,⟨nb,0,none⟩,.string a),(9,⟨mb,0,none⟩,.string b)] (by kernel_rfl) ?_ ?_
 ·exact(Kc (by first|assumption|simp[*]) (Kc (by first|assumption|simp[*]) (Kc (by first|assumption|simp[*]) (Kc (by first|assumption|simp[*]) Kn))))
 refine GoG.fr 0 ?_;refine GoG.s1 1 0 [4] ?_;refine GoG.fr 2 ?_;refine GoG.s1 3 1 [4] ?_;refine GoG.fr 5 ?_;refine GoG.s1 6 2 [9] ?_;refine GoG.fr 7 ?_;refine GoG.s1 8 3 [9] ?_;refine GoG.on 4 fun K hK=>?_
 go_simp;refine(A2.o _).mono ?_;rintro e w5 ⟨rfl,rfl⟩;refine hK.out _ _ (Ku (Ku (Kc (by first|assumption|simp[*]) (Kc (by first|assumption|simp[*]) Kn)))) ?_;clear hK K
 try simp only[Act.put,YB,YC,YD,YE,YF,YG]
 refine GoG.on 9 fun K hK=>?_
 go_simp;refine(A3.o _).mono ?_;rintro e w6 ⟨rfl,rfl⟩;refine hK.out _ _ (Ku (Ku (Ku (Ku Kn)))) ?_;clear hK K
 try simp only[Act.put,YB,YC,YD,YE,YF,YG]
 refine GoG.on 10 fun K hK=>?_
 go_simp;refine hK.out _ _ (Ku (Ku (Ku (Ku Kn)))) ?_;clear hK K
 try simp only[Act.put,YB,YC,YD,YE,YF,YG]
 refine GoG.on 11 fun K hK=>?_
 go_simp;refine(A5.o w2.heap.size _ (show BlockAt (w2.alloc (.cells #[.int .i64 ci,.int .i64 cs] 3)).drew w2.heap.size #[.int .i64 ci,.int .i64 cs] 3 from BlockAt.new w2 _ _)).mono ?_;rintro e w7 ⟨rfl,rfl⟩;refine hK.out _ _ (Ku (Ku (Ku (Ku Kn)))) ?_;clear hK K
 try simp only[Act.put,YB,YC,YD,YE,YF,YG]
 refine GoG.on 12 fun K hK=>?_
 go_simp;refine hK.out _ _ (Ku (Ku (Ku (Ku Kn)))) ?_;clear hK K
 try simp only[Act.put,YB,YC,YD,YE,YF,YG]
 refine GoG.done (by kernel_rfl) ?_ _;clear c0 c1 d0 d1 h1 h2 hnb hmb;go_wp2_with fail;go_ret;refine⟨rfl,?_⟩;rw[HG.o];exact⟨1,#[.cells #[.string a,.int .i64 i] 229,.cells #[.string b,.int .i64 j] 229]++#[.cells #[.int .i64 ci,.int .i64 cs] 3],by rw[alloc_eq_grow,grow_grow];rfl⟩
def tmC(S:List Tm):List Value:=S.flatMap encT
theorem ZA5:∀S:List Tm,(tmC S).length=S.length*2
 | []=>rfl
 | x::r=>by
  have ih:=ZA5 r;unfold tmC at *;rw[List.flatMap_cons,Ye,ih,List.length_cons]
  show 2+_=_
  omega
theorem ZQc(S:List Tm)(x:Tm):tmC (S++[x])=tmC S++encT x:=by unfold tmC;simp
theorem Zg8:∀(S:List Tm) (k:Nat) (h:k<S.length),(tmC S)[k*2]? = some (.string (wordOf S[k].1))/\(tmC S)[k*2+1]? = some (.int .i64 S[k].2)
 | [],k,h=>absurd h (Yr _)
 | x::r,0,h=>⟨rfl,rfl⟩
 | x::r,k+1,h=>by
  have ih:=Zg8 r k (Nat.lt_of_succ_lt_succ h)
  have e:∀j,(tmC (x::r))[(k+1)*2+j]? = (tmC r)[k*2+j]?:=fun j=>by
   unfold tmC;rw[List.flatMap_cons,List.getElem?_append_right (by show 2<=_;omega)];exact congrArg (fun n=>(r.flatMap encT)[n]?) (show(k+1)*2+j-2=k*2+j by omega)
  exact⟨(e 0).trans ih.1,(e 1).trans ih.2⟩
def OwnTm(w:World)(base:Nat)(v:Value)(S:List Tm):Prop:=w.ownsRow base 229 2 v S.length (tmC S)
theorem Zi6(w:World)(base:Nat):OwnTm w base (.slice none 0 0) []:=World.ownsRow_nil _ _ _ _
theorem ZV8(S:List Tm)(j:Nat)(h:j<S.length*2):(tmC S)[j]? = some ((flatK encT 2 S.toArray)[j]!):=by
 rw[get_flatK encT 2 S.toArray j (by simpa using h)];have hk:j / 2<S.length:=by omega
 have e:S.toArray[j / 2]! = S[j / 2]:=by
  rw[getElem!_pos _ _ (by simpa using hk)];simp
 rw[e];obtain⟨h0,h1⟩:=Zg8 S (j / 2) hk
 rcases Nat.mod_two_eq_zero_or_one j with g|g
 ·have ej:j / 2*2=j:=by omega
  rw[g];rw[ej]at h0;exact h0
 ·have ej:j / 2*2+1=j:=by omega
  rw[g];rw[ej]at h1;exact h1
theorem ZYb{w:World}{base g cap:Nat}{S:List Tm}(h:OwnTm w base (.slice (some ⟨g,0,none⟩) S.length cap) S):HoldsK encT 2 w g 0 S.toArray:=by
 intro j hj;rw[size_flatK]at hj;have hj:j<S.length*2:=by simpa using hj
 have h:w.ownsRow base 229 2 (.slice (some ⟨g,0,none⟩) S.length cap) S.length (tmC S):=h;rw[Nat.zero_add];exact⟨(h.cellAt j hj).trans (ZV8 S j hj),h.frozenAt j⟩
theorem ZQd:SWO (Go.Proofs.ltOf cfT) where
 irrefl x:=by show decide (cfT x x<0)=false;rw[Z85];exact lt_irrefl x
 trans x y z h1 h2:=by
  have h1:decide (cfT x y<0)=true:=h1;have h2:decide (cfT y z<0)=true:=h2
  show decide (cfT x z<0)=true
  rw[Z85]at *;exact lt_trans h1 h2
 ntrans x y z h1 h2:=by
  have h1:decide (cfT x y<0)=false:=h1;have h2:decide (cfT y z<0)=false:=h2
  show decide (cfT x z<0)=false
  rw[Z85]at *;exact Zc6 h1 h2
def sortT(S:List Tm):List Tm:=S.mergeSort fun x y=>!ltT y x
theorem Z61(S:List Tm):(sortT S).length=S.length:=List.length_mergeSort S
theorem Zac(S:List Tm):(S.toArray.toList.mergeSort fun x y=>!(Go.Proofs.ltOf cfT) y x)=sortT S:=by
 unfold sortT
 congr 1
 funext x y
 show(!decide (cfT y x<0))=_
 rw[Z85]
def SortP(w:World)(base g cap:Nat)(S:List Tm)(e:Ending)(w':World):Prop:=
 e=.returned (.tuple #[])/\w.grownBy w' (some g)/\OwnTm w' base (.slice (some ⟨g,0,none⟩) S.length cap) (sortT S)
theorem ZOc{w w':World}{base g cap:Nat}{S:List Tm}{cur':Array Value}(h:OwnTm w base (.slice (some ⟨g,0,none⟩) S.length cap) S)(hs:∀cur,w.heap[g]? = some (.cells cur 229 (0,0))->w'.heap[g]? = some (.cells cur' 229 (0,0))/\cur'.size=cur.size)
  (hh:∀j,j<(sortT S).length*2->w'.cell? ⟨g,j,none⟩=(tmC (sortT S))[j]?):OwnTm w' base (.slice (some ⟨g,0,none⟩) S.length cap) (sortT S):=by
 obtain⟨h1,h2⟩:=h;unfold OwnTm;rw[Z61];refine⟨by rw[ZA5,Z61],?_⟩
 rcases h2 with⟨h2,h3⟩|⟨g',cap',cur,hv,hg,hcur,hcap1,hcap2,hcs,htk⟩
 ·cases h2
 ·injection hv with e1 e2 e3
  injection e1 with e1
  injection e1 with e1
  subst e1;subst e3;obtain⟨q1,q2⟩:=hs cur hcur;refine .inr ⟨g,cap,cur',rfl,hg,q1,hcap1,hcap2,by rw[q2];exact hcs,?_⟩
  apply List.ext_getElem?
  intro j
  by_cases hj:j<S.length*2
  ·rw[List.getElem?_take_of_lt hj,<-hh j (by rw[Z61];exact hj)]
   simp[World.cell?,q1]
  ·rw[List.getElem?_eq_none (by rw[Y5];omega),List.getElem?_eq_none (by rw[ZA5,Z61];omega)]
theorem ZF4(w:World)(g n:Nat)(d:Array Tm)(os:Array Obj){cur:Array Value}{E:TypeId}{fr:Nat×Nat}(h:w.heap[g]? = some (.cells cur E fr)):(sortWorldK encT 2 w g 0 n d os).heap[g]? = some (.cells (putCells id 0 (flatK encT 2 d) cur) E fr):=by
 have A0:=(Yy.1 h).1;unfold sortWorldK grow putRowK putRow mapBlock
 show((Array.modify w.heap g _)++os)[g]? = _
 rw[Array.getElem?_append_left (by simpa using A0),Array.getElem?_modify,if_pos rfl,h]
 rfl
theorem Z65(w:World)(g n:Nat)(d:Array Tm)(os:Array Obj):w.grownBy (sortWorldK encT 2 w g 0 n d os) (some g):=by
 refine⟨rfl,rfl,rfl,size_sortWorldK_c encT 2 w g 0 n d os,fun k hk hne=>?_⟩;have A0:k≠g:=fun e=>hne (by rw[e])
 unfold sortWorldK grow putRowK putRow mapBlock
 show((Array.modify w.heap g _)++os)[k]? = _
 rw[Array.getElem?_append_left (by simpa using hk),Array.getElem?_modify,if_neg (fun e=>A0 e.symm)]
theorem ZCb(S:List Tm)(g cap base:Nat)(w:World)(h:OwnTm w base (.slice (some ⟨g,0,none⟩) S.length cap) S)(hl:S.length<=1000) :
  Calls Tryz.prog 175 #[.slice (some ⟨g,0,none⟩) S.length cap,.func (.func 176) #[] #[]] w (SortP w base g cap S):=by
 have A2:g<w.heap.size:=(World.ownsRow.lt (show w.ownsRow base 229 2 (.slice (some ⟨g,0,none⟩) S.length cap) S.length (tmC S)from h) g rfl).2;have eg:∀args w,(callFunc 176 args).run Tryz.prog w=.ok (.enter 176 args) w:=enters_of Tryz.func176 (by kernel_rfl) rfl;have hH:=ZYb h;have A1:Go.Proofs.CmpLays Tryz.prog 176 #[] encT 2 cfT g 0 S.toArray.size w:=fun _ _ _ _ x y=>ZJ8 x y _
 have hT:∀x y:Tm,(Go.Proofs.ltOf cfT) x y=false->(Go.Proofs.ltOf cfT) y x=false->x=y:=fun x y h1 h2=>by
  have h1:decide (cfT x y<0)=false:=h1;have h2:decide (cfT y x<0)=false:=h2;rw[Z85]at h1 h2;exact Zg4 h1 h2
 have A0:=AnyQ.slices_SortFunc_total Tryz.sortTm 2 Tryz.isAgg229 Tryz.sizeOf229 encT (fun _=>rfl) (fun x v hv=>by simp[encT]at hv;rcases hv with rfl|rfl<;>rfl) cfT ZQd 176 #[] g 0 cap S.toArray w eg A1 hH A2 (by simp;omega) hT;have A0:Calls Tryz.prog 175 #[.slice (some ⟨g,0,none⟩) S.toArray.size cap,.func (.func 176) #[] #[]] w _:=A0;rw[show S.toArray.size=S.length by simp]at A0;refine A0.mono ?_;rintro e w' ⟨rfl,n,os,rfl⟩;rw[Zac];have hS:=holdsK_sortWorldK encT 2 w g 0 n S.toArray (sortT S).toArray os A2 hH (by simp[Z61])
 have hh:∀j,j<(sortT S).length*2->(sortWorldK encT 2 w g 0 n (sortT S).toArray os).cell? ⟨g,j,none⟩=(tmC (sortT S))[j]?:=fun j hj=>by
  have:=(hS j (by rw[size_flatK];simpa using hj)).1;rw[Nat.zero_add]at this;rw[ZV8 _ j hj];exact this
 refine⟨rfl,Z65 _ _ _ _ _,?_⟩
 obtain⟨cur0,hcur0⟩:∃cur,w.heap[g]? = some (.cells cur 229 (0,0)):=by
  have h':w.ownsRow base 229 2 (.slice (some ⟨g,0,none⟩) S.length cap) S.length (tmC S):=h;obtain⟨-,h2⟩:=h'
  rcases h2 with⟨h2,h3⟩|⟨g',cap',cur,hv,hg,hcur,rest⟩
  ·cases h2
  ·injection hv with e1 e2 e3
   injection e1 with e1
   injection e1 with e1
   subst e1;exact⟨cur,hcur⟩
 exact ZOc h (fun cur hcur=>by
  rw[hcur0]at hcur
  injection hcur with hcur
  injection hcur with hcur
  subst hcur;exact⟨ZF4 w g n _ os hcur0,by simp[putCells]⟩) hh
theorem ZZa(w:World):Calls Tryz.prog 175 #[.slice none 0 0,.func (.func 176) #[] #[]] w fun e w'=>e=.returned (.tuple #[])/\w=w':=by
 have h:=AnyF.slices_SortFunc_none Tryz.sortTm none 0 (.func (.func 176) #[] #[]) w;have h:Calls Tryz.prog 175 #[.slice none 0 0,.func (.func 176) #[] #[]] w _:=h;exact h.mono fun _ _ ⟨h1,h2⟩=>⟨h1,h2.symm⟩
def askF(A:Nat->Int)(n:Int)(ks:List Int):Int:=ks.foldl (fun n k=>max n (A k.toNat)) n
def ask0(t:Ty):Int:=if t.kind=9 then t.n+1 else 0
def askD(f:Nat->Ty):Nat->Nat->Int
 | 0=>fun _=>0
 | c+1=>fun m=>if m=c then askF (askD f c) (ask0 (f c)) (f c).kids else askD f c m
theorem Z11{A:Nat->Int}{n:Int}{ks:List Int}{q:Nat}(hq:q<ks.length):askF A n (ks.take (q+1))=max (askF A n (ks.take q)) (A (ks.getD q 0).toNat):=by
 unfold askF;rw[List.take_succ_eq_append_getElem hq,List.foldl_append,Z3 hq]
 rfl
theorem ZC5{A:Nat->Int}:∀{ks:List Int} {n:Int},n<=16->(∀m,A m<=16)->askF A n ks<=16
 | [],n,h,_=>h
 | k::r,n,h,hA=>ZC5 (ks:=r) (n:=max n (A k.toNat)) (by have:=hA k.toNat;omega) hA
theorem ZE1{A:Nat->Int}:∀{ks:List Int} {n:Int},n<=askF A n ks
 | [],n=>Int.le_refl _
 | k::r,n=>Int.le_trans (by omega:n<=max n (A k.toNat)) (ZE1 (ks:=r))
theorem Ze7{A:Nat->Int}:∀{ks:List Int} {n:Int} {k:Int},k∈ks->A k.toNat<=askF A n ks
 | [],n,k,h=>absurd h (by simp)
 | j::r,n,k,h=>by
  rcases List.mem_cons.1 h with rfl|h
  ·exact Int.le_trans (by omega:A k.toNat<=max n (A k.toNat)) (ZE1 (ks:=r))
  ·exact Ze7 (ks:=r) h
def ParamOk(f:Nat->Ty):Prop:=∀j,(f j).kind=9->0<=(f j).n/\(f j).n<16
theorem ZL3{f:Nat->Ty}(h:ParamOk f)(j:Nat):0<=ask0 (f j)/\ask0 (f j)<=16:=by
 unfold ask0
 split
 ·rename_i h9
  have:=h j h9
  omega
 ·omega
theorem Zw0{f:Nat->Ty}(h:ParamOk f):∀c m,0<=askD f c m/\askD f c m<=16
 | 0,m=>⟨Int.le_refl _,by show(0:Int)<=16;omega⟩
 | c+1,m=>by
  unfold askD
  split
  ·exact⟨Int.le_trans (ZL3 h c).1 ZE1,ZC5 (ZL3 h c).2 (fun m=>(Zw0 h c m).2)⟩
  ·exact Zw0 h c m
theorem ZS5{f:Nat->Ty}(h:ParamOk f)(c j:Nat)(ks:List Int):0<=askF (askD f c) (ask0 (f j)) ks/\askF (askD f c) (ask0 (f j)) ks<=16:=
 ⟨Int.le_trans (ZL3 h j).1 ZE1,ZC5 (ZL3 h j).2 (fun m=>(Zw0 h c m).2)⟩
theorem Zt1{f:Nat->Ty}{m:Nat}:∀{c d},m<c->c<=d->askD f d m=askD f c m
 | c,0,h1,h2=>by omega
 | c,d+1,h1,h2=>by
  rcases Ym h2 with h|h
  ·have:askD f (d+1) m=askD f d m:=by show(if m=d then _ else _)=_;rw[if_neg (by omega)]
   rw[this,Zt1 h1 (by omega)]
  ·rw[h]
theorem Zw1{f:Nat->Ty}{c d:Nat}(h:c<d):askD f d c=askF (askD f c) (ask0 (f c)) (f c).kids:=by
 rw[Zt1 (Nat.lt_succ_self c) h]
 show(if c=c then _ else _)=_
 rw[if_pos rfl]
def swapT(t:Ty)(I:Nat->Int):Ty:={ t with kids:=t.kids.map fun k=>I k.toNat }
def badT(l:List Ty)(k:Int):Bool:=decide (kindAt l k=7\/kindAt l k=9\/(14<=k/\k<=19))
def oddT(l:List Ty)(t:Ty):Bool:=(t.words.zip t.kids).any fun p=>markB p.1&&badT l p.2
def plainP(t:Ty):List (ByteArray×Int):=(t.words.zip t.kids).filter fun p=>!markB p.1
def tidyT(L:Nat)(t:Ty):Ty:=
 { t with words:=(plainP t++termP L (t.words.zip t.kids)).map (·.1),kids:=(plainP t++termP L (t.words.zip t.kids)).map (·.2) }
def putT(l:List Ty)(t:Ty)(I:Nat->Int):List Ty×Int×Int:=
 if t.kind=7 then(if oddT l (swapT t I)=true then([],0,11)else addT l (tidyT l.length (swapT t I)))else addT l (swapT t I)
structure SS where
 ins:Nat->Int
 now:List Ty
 err:Int
def updI(I:Nat->Int)(c:Nat)(v:Int):Nat->Int:=fun m=>if m=c then v else I m
def stepS(f:Nat->Ty)(nd:Nat->Bool)(A:Nat->Int)(args:List Int)(c:Nat)(s:SS):SS:=
 if s.err≠0 then s
 else if nd c=false\/A c=0 then⟨updI s.ins c c,s.now,0⟩
 else if(f c).kind=9 then⟨updI s.ins c (args.getD (f c).n.toNat 0),s.now,0⟩
 else if(putT s.now (f c) s.ins).2.2=0 then⟨updI s.ins c (putT s.now (f c) s.ins).2.1,(putT s.now (f c) s.ins).1,0⟩
 else⟨s.ins,[],(putT s.now (f c) s.ins).2.2⟩
def runS(f:Nat->Ty)(nd:Nat->Bool)(A:Nat->Int)(args:List Int)(l:List Ty):Nat->SS
 | 0=>⟨fun _=>0,l,0⟩
 | c+1=>stepS f nd A args c (runS f nd A args l c)
def inArena(l:List Ty)(args:List Int):Bool:=args.all fun a=>decide (0<=a/\a<(l.length:Int))
def funT(l:List Ty):Nat->Ty:=fun j=>l.getD j noT
def runT(l:List Ty)(i:Nat)(args:List Int)(c:Nat):SS:=runS (funT l) (needD (funT l) i (i+1)) (askD (funT l) (i+1)) args l c
def substT(l:List Ty)(i:Nat)(args:List Int):List Ty×Int×Int:=
 if(args.length:Int)<askD (funT l) (i+1) i then([],0,1)
 else if inArena l args=false then([],0,1)
 else if(runT l i args (i+1)).err≠0 then([],0,(runT l i args (i+1)).err)
 else((runT l i args (i+1)).now,(runT l i args (i+1)).ins i,0)
theorem Zl3{f:Nat->Ty}{nd:Nat->Bool}{A:Nat->Int}{args:List Int}{c:Nat}{s:SS}(h:s.err≠0):stepS f nd A args c s=s:=by unfold stepS;rw[if_pos h]
theorem Zg7{f:Nat->Ty}{nd:Nat->Bool}{A:Nat->Int}{args:List Int}{l:List Ty}{c:Nat}(h:(runS f nd A args l c).err≠0):∀d,c<=d->runS f nd A args l d=runS f nd A args l c
 | 0,hd=>by
  have:c=0:=by omega
  rw[this]
 | d+1,hd=>by
  rcases Ym hd with hd|hd
  ·have e:=Zg7 h d (by omega)
   show stepS f nd A args d (runS f nd A args l d)=_
   rw[e,Zl3 h]
  ·rw[<-hd]
theorem ZU1{f:Nat->Ty}{nd:Nat->Bool}{A:Nat->Int}{args:List Int}{l:List Ty}{c d:Nat}{e:Int}(h:(runS f nd A args l c).err=e)(he:e≠0)(hd:c<=d):(runS f nd A args l d).err=e:=by
 rw[Zg7 (by rw[h];exact he) d hd,h]
section
variable {f:Nat->Ty} {nd:Nat->Bool} {A:Nat->Int} {args:List Int} {c:Nat} {s:SS}
theorem Zb0(h:s.err=0)(hn:nd c=false\/A c=0):stepS f nd A args c s=⟨updI s.ins c c,s.now,0⟩:=by unfold stepS;rw[if_neg (by omega),if_pos hn]
theorem Zx0(h:s.err=0)(h1:nd c=true)(h2:¬A c=0)(h9:(f c).kind=9):stepS f nd A args c s=⟨updI s.ins c (args.getD (f c).n.toNat 0),s.now,0⟩:=by
 unfold stepS;rw[if_neg (by omega),if_neg (by rw[h1];simp[h2]),if_pos h9]
theorem ZF0(h:s.err=0)(h1:nd c=true)(h2:¬A c=0)(h9:¬(f c).kind=9){l':List Ty}{i':Int}(hp:putT s.now (f c) s.ins=(l',i',0)):stepS f nd A args c s=⟨updI s.ins c i',l',0⟩:=by
 unfold stepS;rw[if_neg (by omega),if_neg (by rw[h1];simp[h2]),if_neg h9,hp,if_pos rfl]
theorem Za0(h:s.err=0)(h1:nd c=true)(h2:¬A c=0)(h9:¬(f c).kind=9){l':List Ty}{i' e':Int}(hp:putT s.now (f c) s.ins=(l',i',e'))(he:e'≠0):stepS f nd A args c s=⟨s.ins,[],e'⟩:=by
 unfold stepS;rw[if_neg (by omega),if_neg (by rw[h1];simp[h2]),if_neg h9,hp,if_neg he]
end
def ApartV(v v2:Value):Prop:=v.ownBlock=none\/v2.ownBlock=none\/v.ownBlock≠v2.ownBlock
theorem ApartV.symm{v v2:Value}(h:ApartV v v2):ApartV v2 v:=by
 rcases h with h|h|h
 ·exact .inr (.inl h)
 ·exact .inl h
 ·exact .inr (.inr fun e=>h e.symm)
theorem ApartV.ne{v v2:Value}(h:ApartV v v2):v2.ownBlock=none\/v2.ownBlock≠v.ownBlock:=by
 rcases h with h|h|h
 ·by_cases e:v2.ownBlock=none
  ·exact .inl e
  ·exact .inr (by rw[h];exact e)
 ·exact .inl h
 ·exact .inr fun e=>h e.symm
theorem ApartV.push{v v' v2:Value}{n:Nat}(h:ApartV v v2)(h2:∀k,v2.ownBlock=some k->k<n)(hb:v'.ownBlock=v.ownBlock\/v'.ownBlock=some n):ApartV v' v2:=by
 unfold ApartV at *
 rcases hb with hb|hb
 ·rw[hb];exact h
 ·by_cases e:v2.ownBlock=none
  ·exact .inr (.inl e)
  ·obtain⟨k,hk⟩:=Option.ne_none_iff_exists'.1 e
   right;right
   rw[hb,hk];intro g
   injection g with g
   have:=h2 k hk
   omega
theorem Zr0{w w':World}{base:Nat}{E:TypeId}{size:Nat}{v:Value}{n:Nat}{xs:List Value}(h:w.ownsRow base E size v n xs)(hb:Below w.heap.size w w'):w'.ownsRow base E size v n xs:=by
 obtain⟨h1,h2⟩:=h;refine⟨h1,?_⟩
 rcases h2 with h2|⟨g,cap,cur,hv,hg,hcur,rest⟩
 ·exact .inl h2
 ·exact .inr ⟨g,cap,cur,hv,hg,by rw[hb.block _ (Yy.1 hcur).1];exact hcur,rest⟩
theorem ZR{w:World}{base:Nat}{E:TypeId}{size:Nat}{v:Value}{n:Nat}{xs:List Value}{b j:Nat}{u:Value}(h:w.ownsRow base E size v n xs)(hb:b<base):(w.setCell ⟨b,j,none⟩ u).ownsRow base E size v n xs:=by
 obtain⟨h1,h2⟩:=h;refine⟨h1,?_⟩
 rcases h2 with h2|⟨g,cap,cur,hv,hg,hcur,rest⟩
 ·exact .inl h2
 ·exact .inr ⟨g,cap,cur,hv,hg,(show BlockAt (w.setCell ⟨b,j,none⟩ u) g cur E from BlockAt.other (show BlockAt w g cur E from hcur) (by omega) j u),rest⟩
def strC(ss:List ByteArray):List Value:=ss.map .string
def intC(zs:List Int):List Value:=zs.map (.int .i64)
def OwnW(w:World)(base:Nat)(v:Value)(ss:List ByteArray):Prop:=w.ownsRow base 9 1 v ss.length (strC ss)
def OwnK(w:World)(base:Nat)(v:Value)(zs:List Int):Prop:=w.ownsRow base 3 1 v zs.length (intC zs)
theorem Zd8(w:World)(base:Nat):OwnW w base (.slice none 0 0) []:=World.ownsRow_nil _ _ _ _
theorem Zk4(w:World)(base:Nat):OwnK w base (.slice none 0 0) []:=World.ownsRow_nil _ _ _ _
theorem ZE{w:World}{base:Nat}{v:Value}{ss:List ByteArray}(h:OwnW w base v ss):∃ao cap,v=.slice ao ss.length cap/\SRow w ao ss/\ss.length<=cap:=by
 obtain⟨h1,h2⟩:=h
 rcases h2 with⟨rfl,h0⟩|⟨g,cap,cur,rfl,hg,hcur,hcap1,hcap2,hcs,htk⟩
 ·exact⟨none,0,by rw[h0],.inl (Yp h0),by omega⟩
 ·refine⟨_,_,rfl,.inr ⟨g,0,rfl,(Yy.1 hcur).1,fun k hk=>?_⟩,hcap1⟩
  simp only[World.cell?,hcur,Option.isSome_none,Bool.false_eq_true,if_false];have e:(cur.toList.take (ss.length*1))[k]? = (strC ss)[k]?:=by rw[htk]
  rw[List.getElem?_take_of_lt (by omega)]at e;rw[Nat.zero_add];simp only[Array.getElem?_toList]at e;rw[e];simp[strC,hk,Z3 hk]
theorem Zi{w:World}{base:Nat}{v:Value}{zs:List Int}(h:OwnK w base v zs):∃ao cap,v=.slice ao zs.length cap/\IRow w ao zs/\zs.length<=cap:=by
 obtain⟨h1,h2⟩:=h
 rcases h2 with⟨rfl,h0⟩|⟨g,cap,cur,rfl,hg,hcur,hcap1,hcap2,hcs,htk⟩
 ·exact⟨none,0,by rw[h0],.inl (Yp h0),by omega⟩
 ·refine⟨_,_,rfl,.inr ⟨g,0,rfl,(Yy.1 hcur).1,fun k hk=>?_⟩,hcap1⟩
  simp only[World.cell?,hcur,Option.isSome_none,Bool.false_eq_true,if_false];have e:(cur.toList.take (zs.length*1))[k]? = (intC zs)[k]?:=by rw[htk]
  rw[List.getElem?_take_of_lt (by omega)]at e;rw[Nat.zero_add];simp only[Array.getElem?_toList]at e;rw[e];simp[intC,hk,Z3 hk]
structure TS (W w:World) (mb:Nat) (t:Ty) (bw bk vt wv kv:Value) (ms:List Tm) (ws:List ByteArray) (ks:List Int):Prop where
 tm:OwnTm w W.heap.size vt ms
 wr:OwnW w W.heap.size wv ws
 kr:OwnK w W.heap.size kv ks
 a1:ApartV vt wv
 a2:ApartV vt kv
 a3:ApartV wv kv
 box:BlockAt w mb #[.int .i64 t.kind,.string t.name,.int .i64 t.n,bw,bk] 50
 hi:mb<W.heap.size
 gr:W.grownBy w (some mb)
theorem Zzc{w w':World}(hb:Below w.heap.size w w'):w.grownBy w' none:=⟨hb.os,hb.tape,hb.output,hb.size,fun k hk _=>hb.block k hk⟩
section
variable {W w w':World} {mb:Nat} {t:Ty} {bw bk vt wv kv v':Value} {ms:List Tm} {ws:List ByteArray} {ks:List Int}
theorem TS.kept(h:TS W w mb t bw bk vt wv kv ms ws ks)(hb:Below w.heap.size w w'):TS W w' mb t bw bk vt wv kv ms ws ks:=
 ⟨Zr0 h.tm hb,Zr0 h.wr hb,Zr0 h.kr hb,h.a1,h.a2,h.a3,h.box.below hb,h.hi,h.gr.andThen (Zzc hb) (fun j e=>by cases e)⟩
theorem Zt0{base:Nat}{E:TypeId}{size n:Nat}{v:Value}{xs:List Value}(h:w.ownsRow base E size v n xs):∀k,v.ownBlock=some k->k<w.heap.size:=fun k hk=>(World.ownsRow.lt h k hk).2
theorem Z52{base:Nat}{E:TypeId}{size n:Nat}{v:Value}{xs:List Value}{cs:Array Value}{T:TypeId}(h:w.ownsRow base E size v n xs)(hb:BlockAt w mb cs T)(hm:mb<base)(hg:w.grownBy w' v.ownBlock):BlockAt w' mb cs T:=by
 have:w'.heap[mb]? = w.heap[mb]?:=hg.block mb hb.lt (fun e=>by have:=(World.ownsRow.lt h mb e.symm).1;omega);unfold BlockAt;rw[this];exact hb
theorem Zv2{E:TypeId}{size n:Nat}{v:Value}{xs:List Value}(h:w.ownsRow W.heap.size E size v n xs)(hb:W.grownBy w (some mb))(hg:w.grownBy w' v.ownBlock):W.grownBy w' (some mb):=
 hb.andThen hg (fun j e=>.inl (World.ownsRow.lt h j e).1)
theorem TS.pushT(h:TS W w mb t bw bk vt wv kv ms ws ks){x:Tm}(hg:w.grownBy w' vt.ownBlock)(hr:w'.ownsRow W.heap.size 229 2 v' (ms.length+1) (tmC ms++encT x))(hv:v'.ownBlock=vt.ownBlock\/v'.ownBlock=some w.heap.size) :
  TS W w' mb t bw bk v' wv kv (ms++[x]) ws ks:=
 ⟨by unfold OwnTm;rw[Ye,ZQc];exact hr,h.wr.kept hg h.a1.ne,h.kr.kept hg h.a2.ne,h.a1.push (Zt0 h.wr) hv,h.a2.push (Zt0 h.kr) hv,h.a3,Z52 h.tm h.box h.hi hg,h.hi,Zv2 h.tm h.gr hg⟩
theorem TS.pushW(h:TS W w mb t bw bk vt wv kv ms ws ks){x:ByteArray}(hg:w.grownBy w' wv.ownBlock)(hr:w'.ownsRow W.heap.size 9 1 v' (ws.length+1) (strC ws++[.string x]))(hv:v'.ownBlock=wv.ownBlock\/v'.ownBlock=some w.heap.size) :
  TS W w' mb t bw bk vt v' kv ms (ws++[x]) ks:=
 ⟨h.tm.kept hg h.a1.symm.ne,by unfold OwnW strC;rw[Ye,Yu];exact hr,h.kr.kept hg h.a3.ne,(h.a1.symm.push (Zt0 h.tm) hv).symm,h.a2,h.a3.push (Zt0 h.kr) hv,Z52 h.wr h.box h.hi hg,h.hi,Zv2 h.wr h.gr hg⟩
theorem TS.pushK(h:TS W w mb t bw bk vt wv kv ms ws ks){x:Int}(hg:w.grownBy w' kv.ownBlock)(hr:w'.ownsRow W.heap.size 3 1 v' (ks.length+1) (intC ks++[.int .i64 x]))(hv:v'.ownBlock=kv.ownBlock\/v'.ownBlock=some w.heap.size) :
  TS W w' mb t bw bk vt wv v' ms ws (ks++[x]):=
 ⟨h.tm.kept hg h.a2.symm.ne,h.wr.kept hg h.a3.symm.ne,by unfold OwnK intC;rw[Ye,Yu];exact hr,h.a1,(h.a2.symm.push (Zt0 h.tm) hv).symm,(h.a3.symm.push (Zt0 h.wr) hv).symm,Z52 h.kr h.box h.hi hg,h.hi,Zv2 h.kr h.gr hg⟩
theorem ZGa(w:World)(mb j:Nat)(u:Value):w.grownBy (w.setCell ⟨mb,j,none⟩ u) (some mb):=by
 refine⟨rfl,rfl,rfl,by simp[World.setCell],fun k hk hne=>?_⟩;have A0:mb≠k:=fun e=>hne (by rw[e])
 unfold World.setCell;simp[Array.getElem?_modify,A0]
theorem TS.store3(h:TS W w mb t bw bk vt wv kv ms ws ks)(u:Value):TS W (w.setCell ⟨mb,3,none⟩ u) mb t u bk vt wv kv ms ws ks:=
 ⟨ZR h.tm h.hi,ZR h.wr h.hi,ZR h.kr h.hi,h.a1,h.a2,h.a3,h.box.set 3 u,h.hi,h.gr.andThen (ZGa _ _ _ _) (fun j e=>.inr e)⟩
theorem TS.store4(h:TS W w mb t bw bk vt wv kv ms ws ks)(u:Value):TS W (w.setCell ⟨mb,4,none⟩ u) mb t bw u vt wv kv ms ws ks:=
 ⟨ZR h.tm h.hi,ZR h.wr h.hi,ZR h.kr h.hi,h.a1,h.a2,h.a3,h.box.set 4 u,h.hi,h.gr.andThen (ZGa _ _ _ _) (fun j e=>.inr e)⟩
theorem TS.sort(h:TS W w mb t bw bk vt wv kv ms ws ks){g:Nat}(hv:vt.ownBlock=some g)(hg:w.grownBy w' (some g))(ho:OwnTm w' W.heap.size vt (sortT ms)):TS W w' mb t bw bk vt wv kv (sortT ms) ws ks:=by
 have hg:w.grownBy w' vt.ownBlock:=by rw[hv];exact hg
 exact⟨ho,h.wr.kept hg h.a1.ne,h.kr.kept hg h.a2.ne,h.a1,h.a2,h.a3,Z52 h.tm h.box h.hi hg,h.hi,Zv2 h.tm h.gr hg⟩
theorem TS.old(h:TS W w mb t bw bk vt wv kv ms ws ks){b:Nat}{cs:Array Value}{T:TypeId}(hb:BlockAt W b cs T)(hne:b≠mb):BlockAt w b cs T:=by
 have:w.heap[b]? = W.heap[b]?:=h.gr.block b hb.lt (fun e=>hne (by injection e));unfold BlockAt;rw[this];exact hb
theorem TS.be(h:TS W w mb t bw bk vt wv kv ms ws ks){w0:World}(hb:Below w0.heap.size w0 W)(hm:w0.heap.size<=mb):Below w0.heap.size w0 w:=
 hb.grown h.gr hb.size (fun k e=>by injection e with e;omega)
end
end Go.Proofs.YtdcajkagakikiaaGreatDoor
