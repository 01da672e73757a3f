import Derived.Test.YtdcajkagakikiaaGreatDoorQ01
import Derived.Lib.ItoaNum
import Derived.Lib.Join
import Derived.Deep.DeepCutAuto
import Derived.LoopTactic
import Derived.Laws.CopyRow
import Derived.Laws.IdiomCopy
import Derived.Maps.Own
import Derived.Maps.OwnSet
import Derived.Maps.Views
import Derived.Maps.Keyed
import Derived.DeepKeys4
import Derived.StringKeys
import Derived.Shelf.SlSortCmp.NoneTotal
import Derived.Shelf.Small.Wraps
import Derived.Test.YtdcajkagakikiaaGreatDoorProg
namespace Go.Proofs.YtdcajkagakikiaaGreatDoor
set_option maxHeartbeats 64000000
set_option linter.unusedSimpArgs false
set_option linter.unusedVariables false
open Go.RowKit
theorem below_drewN{W w:World}(h:Below W.heap.size W w)(n:Nat):Below W.heap.size W (w.drewN n):=by
 obtain⟨h1,h2,h3,h4,h5⟩:=h;exact⟨h1,h2,h3,h4,h5⟩
theorem Zn1{s:ByteArray}(h:s.size=0):s.data.toList=[]:=by
 apply Yp
 simpa using h
theorem Zw5(ao bo:Option Addr)(ca cb:Nat)(xs ys:List Int)(w:World)(h1:IRow w ao xs)(h2:IRow w bo ys)(l1:xs.length<=1000000)(_l2:ys.length<=1000000) :
  Calls Tryz.prog 22 #[.slice ao xs.length ca,.slice bo ys.length cb] w fun e w'=>e=.returned (.bool (decide (xs=ys)))/\Below w.heap.size w w':=by
 obtain⟨r,hr⟩:∃r,decide (xs=ys)=r:=⟨_,rfl⟩
 rw[hr]
 by_cases hl:xs.length=ys.length
 ·by_cases h0:xs.length=0
  ·have hx:xs=[]:=Yp h0
   have hy:ys=[]:=Yp (by omega);have Hr:=@Yh (true=r) (by rw[<-hr,hx,hy,Yb rfl]);rw[show ys.length=0 by omega,h0];clear h1 h2 l1 hl h0 hx hy hr;go_enter Tryz.func22,Tryz.ntmps22;go_wp2_with fail;go_loopw [13] (fun i wr=>i=.int .i64 0/\wr=w) (fun _ _=>0)
   case atStart=>exact⟨rfl,rfl⟩
   case round =>
    obtain⟨rfl,rfl⟩:=hrel;go_wp2_with fail;go_ret;exact⟨Z0 Hr.o,Y8 _ _⟩
  ·obtain⟨b1,o1,rfl,q1,c1⟩:=h1.cells (by omega)
   obtain⟨b2,o2,rfl,q2,c2⟩:=h2.cells (by omega);have A3:=Yh c1;have A4:=Yh c2;have Hr:=Yh hr;rw[<-hl];obtain⟨n,hn⟩:=Yn (xs.length);have Hn:=Yh hn;have A2:=Yh (hl.symm.trans hn);rw[hn]at l1 h0 ⊢;clear h1 h2 hl hr c1 c2 hn;go_enter Tryz.func22,Tryz.ntmps22;go_wp2_with fail;go_loopw [13] (fun i wr=>∃k:Nat,k<=n/\i=.int .i64 k/\Hi (∀j,j<k->xs.getD j 0=ys.getD j 0)/\Hi (Below w.heap.size w wr)) (fun i _=>n-(intOf i).toNat)
   case atStart=>exact⟨0,Yl _,rfl,Yh (fun j hj=>absurd hj (Yr _)),Yh (Y8 _ _)⟩
   case round =>
    obtain⟨k,hk,rfl,Hall,HB⟩:=hrel;have B:=HB.o
    by_cases hkn:k<n
    ·have d1:wr.cell? ⟨b1,o1+k,none⟩=some (.int .i64 (xs.getD k 0)):=by rw[B.cell (p:=⟨b1,o1+k,none⟩) q1];exact A3.o k (by rw[Hn.o];exact hkn)
     have d2:wr.cell? ⟨b2,o2+k,none⟩=some (.int .i64 (ys.getD k 0)):=by rw[B.cell (p:=⟨b2,o2+k,none⟩) q2];exact A4.o k (by rw[A2.o];exact hkn)
     obtain⟨x,hx⟩:=Yn (xs.getD k 0);obtain⟨y,hy⟩:=Yn (ys.getD k 0);rw[hx]at d1;rw[hy]at d2;have Hx:=Yh hx;have Hy:=Yh hy;clear hx hy
     by_cases hxy:x=y
     ·subst hxy
      have A0:=Yh (show ∀j,j<k+1->xs.getD j 0=ys.getD j 0 from fun j hj=>by
       rcases Ym (Ys hj)with h|h
       ·exact Hall.o j h
       ·rw[h,Hx.o,Hy.o])
      go_wp2_with fail;go_quiet (fail)
      rename_i nq
      have B2:=Yh (below_drewN B nq);go_wp2_with fail;go_roundw
      case rel=>exact⟨k+1,by omega,by go_num,A0,B2⟩
      case measure=>simp[intOf];omega
     ·have A1:=Yh (show false=r by
       rw[<-Hr.o,Ya];intro h;rw[h]at Hx;exact hxy (Hx.o.symm.trans Hy.o))
      have hq:(x==y)=false:=by rw[Yc];exact hxy
      have A5:(x != y)=true:=by rw[bne,hq];rfl
      go_wp2_with fail;go_quiet (fail)
      rename_i nq
      have B2:=below_drewN B nq;go_wp2_with fail;go_ret;exact⟨Z0 A1.o,B2⟩
    ·obtain rfl:k=n:=by omega
     have A1:=Yh (show true=r by
      rw[<-Hr.o,Yb];exact ZK1 (d:=0) (by rw[Hn.o,A2.o]) (fun j hj=>Hall.o j (by rw[<-Hn.o];exact hj)))
     go_wp2_with fail;go_ret;exact⟨Z0 A1.o,B⟩
 ·have Hr:=@Yh (false=r) (by rw[<-hr,Ya];intro h;exact hl (by rw[h]))
  have hq:((xs.length:Int)==(ys.length:Int))=false:=by rw[Yc];omega
  have A5:((xs.length:Int) != (ys.length:Int))=true:=by rw[bne,hq];rfl
  generalize xs.length=n at *
  generalize ys.length=m at *
  clear h1 h2 hr;go_enter Tryz.func22,Tryz.ntmps22;go_wp2_with fail;go_ret;exact⟨Z0 Hr.o,Y8 _ _⟩
theorem Z37(ao bo:Option Addr)(ca cb:Nat)(xs ys:List ByteArray)(w:World)(h1:SRow w ao xs)(h2:SRow w bo ys)(l1:xs.length<=1000000)(_l2:ys.length<=1000000) :
  Calls Tryz.prog 141 #[.slice ao xs.length ca,.slice bo ys.length cb] w fun e w'=>e=.returned (.bool (decide (xs=ys)))/\Below w.heap.size w w':=by
 obtain⟨r,hr⟩:∃r,decide (xs=ys)=r:=⟨_,rfl⟩
 rw[hr]
 by_cases hl:xs.length=ys.length
 ·by_cases h0:xs.length=0
  ·have hx:xs=[]:=Yp h0
   have hy:ys=[]:=Yp (by omega);have Hr:=@Yh (true=r) (by rw[<-hr,hx,hy,Yb rfl]);rw[show ys.length=0 by omega,h0];clear h1 h2 l1 hl h0 hx hy hr;go_enter Tryz.func141,Tryz.ntmps141;go_wp2_with fail;go_loopw [13] (fun i wr=>i=.int .i64 0/\wr=w) (fun _ _=>0)
   case atStart=>exact⟨rfl,rfl⟩
   case round =>
    obtain⟨rfl,rfl⟩:=hrel;go_wp2_with fail;go_ret;exact⟨Z0 Hr.o,Y8 _ _⟩
  ·obtain⟨b1,o1,rfl,q1,c1⟩:=h1.cells (by omega)
   obtain⟨b2,o2,rfl,q2,c2⟩:=h2.cells (by omega);have A4:=Yh c1;have A5:=Yh c2;have Hr:=Yh hr;rw[<-hl];obtain⟨n,hn⟩:=Yn (xs.length);have Hn:=Yh hn;have A2:=Yh (hl.symm.trans hn);rw[hn]at l1 h0 ⊢;clear h1 h2 hl hr c1 c2 hn;go_enter Tryz.func141,Tryz.ntmps141;go_wp2_with fail;go_loopw [13] (fun i wr=>∃k:Nat,k<=n/\i=.int .i64 k/\Hi (∀j,j<k->xs.getD j ⟨#[]⟩=ys.getD j ⟨#[]⟩)/\Hi (Below w.heap.size w wr)) (fun i _=>n-(intOf i).toNat)
   case atStart=>exact⟨0,Yl _,rfl,Yh (fun j hj=>absurd hj (Yr _)),Yh (Y8 _ _)⟩
   case round =>
    obtain⟨k,hk,rfl,Hall,HB⟩:=hrel;have B:=HB.o
    by_cases hkn:k<n
    ·have d1:wr.cell? ⟨b1,o1+k,none⟩=some (.string (xs.getD k ⟨#[]⟩)):=by rw[B.cell (p:=⟨b1,o1+k,none⟩) q1];exact A4.o k (by rw[Hn.o];exact hkn)
     have d2:wr.cell? ⟨b2,o2+k,none⟩=some (.string (ys.getD k ⟨#[]⟩)):=by rw[B.cell (p:=⟨b2,o2+k,none⟩) q2];exact A5.o k (by rw[A2.o];exact hkn)
     obtain⟨x,hx⟩:=Yn (xs.getD k ⟨#[]⟩);obtain⟨y,hy⟩:=Yn (ys.getD k ⟨#[]⟩);rw[hx]at d1;rw[hy]at d2;have Hx:=Yh hx;have Hy:=Yh hy;clear hx hy
     by_cases hxy:x=y
     ·subst hxy
      have A0:=Yh (show ∀j,j<k+1->xs.getD j ⟨#[]⟩=ys.getD j ⟨#[]⟩from fun j hj=>by
       rcases Ym (Ys hj)with h|h
       ·exact Hall.o j h
       ·rw[h,Hx.o,Hy.o])
      go_wp2_with fail;go_quiet (fail)
      rename_i nq
      have B2:=Yh (below_drewN B nq);go_wp2_with fail;go_roundw
      case rel=>exact⟨k+1,by omega,by go_num,A0,B2⟩
      case measure=>simp[intOf];omega
     ·have A1:=Yh (show false=r by
       rw[<-Hr.o,Ya];intro h;rw[h]at Hx;exact hxy (Hx.o.symm.trans Hy.o))
      have A3:=Zk x y;rw[Ya hxy]at A3;have A6:(x.toList != y.toList)=true:=by rw[bne,A3];rfl
      go_wp2_with fail;go_quiet (fail)
      rename_i nq
      have B2:=below_drewN B nq;go_wp2_with fail;go_ret;exact⟨Z0 A1.o,B2⟩
    ·obtain rfl:k=n:=by omega
     have A1:=Yh (show true=r by
      rw[<-Hr.o,Yb];exact ZK1 (d:=⟨#[]⟩) (by rw[Hn.o,A2.o]) (fun j hj=>Hall.o j (by rw[<-Hn.o];exact hj)))
     go_wp2_with fail;go_ret;exact⟨Z0 A1.o,B⟩
 ·have Hr:=@Yh (false=r) (by rw[<-hr,Ya];intro h;exact hl (by rw[h]))
  have hq:((xs.length:Int)==(ys.length:Int))=false:=by rw[Yc];omega
  have A7:((xs.length:Int) != (ys.length:Int))=true:=by rw[bne,hq];rfl
  generalize xs.length=n at *
  generalize ys.length=m at *
  clear h1 h2 hr;go_enter Tryz.func141,Tryz.ntmps141;go_wp2_with fail;go_ret;exact⟨Z0 Hr.o,Y8 _ _⟩
set_option maxRecDepth 100000 in
theorem ZA6(x y:Ty)(xw xk yw yk:Option Addr)(xwc xkc ywc ykc:Nat)(w:World)(hx:TyC w xw xk x)(hy:TyC w yw yk y) :
  Calls Tryz.prog 127 #[tyV x xw xwc xk xkc,tyV y yw ywc yk ykc] w fun e w'=>e=.returned (.bool (decide (x=y)))/\Below w.heap.size w w':=by
 obtain⟨a,s,n,ws,ks⟩:=x;obtain⟨c,t,m,vs,ls⟩:=y;obtain⟨r,hr⟩:∃r,decide ((⟨a,s,n,ws,ks⟩:Ty)=⟨c,t,m,vs,ls⟩)=r:=⟨_,rfl⟩
 rw[hr];have HR:=Yh hr;clear hr;have l1:ws.length<=18:=hx.ok.wl;have l2:ks.length<=18:=hx.ok.kl;have l3:vs.length<=18:=hy.ok.wl;have l4:ls.length<=18:=hy.ok.kl;have HX:=Yh hx;have HY:=Yh hy;clear hx hy;unfold tyV
 show Calls _ _ #[.agg #[.int .i64 a,.string s,.int .i64 n,.slice xw ws.length xwc,.slice xk ks.length xkc],.agg #[.int .i64 c,.string t,.int .i64 m,.slice yw vs.length ywc,.slice yk ls.length ykc]] _ _
 have A1:=Zk s t
 by_cases c1:a=c
 case neg =>
  have Hn:=@Yh (false=r) (by rw[<-HR.o];symm;rw[Y1];intro e;injection e;contradiction);have hq:(a==c)=false:=by rw[Yc];exact c1
  clear c1;go_enter Tryz.func127,Tryz.ntmps127;go_wp2_with fail;go_ret;exact⟨Z0 Hn.o,((Y8 _ _).alloc (Yk _) _).alloc (by simp) _⟩
 subst c1
 by_cases c2:s=t
 case neg =>
  have Hn:=@Yh (false=r) (by rw[<-HR.o];symm;rw[Y1];intro e;injection e;contradiction);rw[Ya c2]at A1;clear c2;go_enter Tryz.func127,Tryz.ntmps127;go_wp2_with fail;go_ret;exact⟨Z0 Hn.o,((Y8 _ _).alloc (Yk _) _).alloc (by simp) _⟩
 subst c2;rw[Yb rfl]at A1
 by_cases c3:n=m
 case neg =>
  have Hn:=@Yh (false=r) (by rw[<-HR.o];symm;rw[Y1];intro e;injection e;contradiction);have hq:(n==m)=false:=by rw[Yc];exact c3
  clear c3;go_enter Tryz.func127,Tryz.ntmps127;go_wp2_with fail;go_ret;exact⟨Z0 Hn.o,((Y8 _ _).alloc (Yk _) _).alloc (by simp) _⟩
 subst c3;obtain⟨w1,h1⟩:=Yn (w.alloc (.cells #[.int .i64 a,.string s,.int .i64 n,.slice xw ws.length xwc,.slice xk ks.length xkc] 50));obtain⟨w2,h2⟩:=Yn (w1.alloc (.cells #[.int .i64 a,.string s,.int .i64 n,.slice yw vs.length ywc,.slice yk ls.length ykc] 50));obtain⟨k1,q1,z1⟩:=Za h1;obtain⟨k2,q22,z2⟩:=Za h2;have BW:=Yh (q1.trans (q22.mono q1.size));have K1:=Yh (k1.below q22);have K2:=Yh k2;have Z:=Yh (YH z1 z2);obtain⟨x0,x1,x2,x3,x4⟩:=cell5 K1.o;obtain⟨y0,y1,y2,y3,y4⟩:=cell5 K2.o;clear k1 k2 q1 q22 z1 z2;have E1:=Yh (Z37 xw yw xwc ywc ws vs w2 (HX.o.below BW.o).words (HY.o.below BW.o).words (by omega) (by omega));have E2:=Yh (fun W (h:Below w2.heap.size w2 W)=>Zw5 xk yk xkc ykc ks ls W ((HX.o.below BW.o).below h).kids ((HY.o.below BW.o).below h).kids (by omega) (by omega));clear l1 l2 l3 l4
 by_cases c4:ws=vs
 case neg =>
  have Hn:=@Yh (false=r) (by rw[<-HR.o];symm;rw[Y1];intro e;injection e;contradiction);rw[Ya c4]at E1;clear c4
  generalize ws.length=p at *
  generalize vs.length=p2 at *
  generalize ks.length=q at *
  generalize ls.length=q2 at *
  go_enter Tryz.func127,Tryz.ntmps127;go_wp2_with fail;refine E1.o.mono ?_;rintro e w3 ⟨rfl,b3⟩;have B3:=YT BW b3;clear b3;go_wp2_with fail;go_ret;exact⟨Z0 Hn.o,B3.o⟩
 rw[Yb c4]at E1
 by_cases c5:ks=ls
 focus
  have Hn:=@Yh (true=r) (by rw[<-HR.o];symm;rw[decide_eq_true_iff,c4,c5]);have E3:=Yh (fun W h=>by have:=E2.o W h;rw[Yb c5]at this;exact this)
 rotate_left
 focus
  have Hn:=@Yh (false=r) (by rw[<-HR.o];symm;rw[Y1];intro e;injection e;contradiction);have E3:=Yh (fun W h=>by have:=E2.o W h;rw[Ya c5]at this;exact this)
 all_goals
  clear c4 c5 E2
  generalize ws.length=p at *
  generalize vs.length=p2 at *
  generalize ks.length=q at *
  generalize ls.length=q2 at *
  go_enter Tryz.func127,Tryz.ntmps127;go_wp2_with fail;refine E1.o.mono ?_;rintro e w3 ⟨rfl,b3⟩;have B3:=YT BW b3;have A0:=Yh b3;clear x0 x1 x2 x3 x4 y0 y1 y2 y3 y4 b3;obtain⟨-,-,-,-,x4⟩:=cell5 (K1.o.below A0.o);obtain⟨-,-,-,-,y4⟩:=cell5 (K2.o.below A0.o);go_wp2_with fail;refine(E3.o _ A0.o).mono ?_;rintro e w4 ⟨rfl,b4⟩;have B4:=YT B3 b4;clear b4 x4 y4;go_wp2_with fail;go_ret;exact⟨Z0 Hn.o,B4.o⟩
theorem Z5d(t:Ty)(wo ko:Option Addr)(wc kc:Nat)(w:World)(hl:t.words.length<=18) :
  Calls Tryz.prog 128 #[tyV t wo wc ko kc] w fun e w'=>e=.returned (.bool (bareB t))/\Below w.heap.size w w':=by
 obtain⟨a,s,n,ws,ks⟩:=t;obtain⟨r,hr⟩:=Yn (bareB (⟨a,s,n,ws,ks⟩:Ty));rw[hr];unfold bareB at hr;unfold tyV
 show Calls _ _ #[.agg #[.int .i64 a,.string s,.int .i64 n,.slice wo ws.length wc,.slice ko ks.length kc]] _ _
 have hl:ws.length<=18:=hl
 by_cases hs:s.size=0
 ·have he:s.toList=[]:=by rw[ByteArray.toList_eq,Zn1 hs]
  by_cases hw:ws.length=0
  ·have Hn:=@Yh (true=r) (by rw[<-hr];symm;rw[decide_eq_true_iff];exact⟨hs,Yp hw⟩)
   rw[hw];clear hr hw hl;go_enter Tryz.func128,Tryz.ntmps128;go_wp2_with fail;go_ret;exact⟨Z0 Hn.o,(Y8 _ _).alloc (Yk _) _⟩
  ·have Hn:=@Yh (false=r) (by rw[<-hr];symm;rw[Y1];rintro⟨-,g⟩;exact hw (by show ws.length=0;rw[show ws=[]from g];rfl))
   obtain⟨p,hp⟩:=Yn (ws.length);rw[hp]at hw hl ⊢;have hq:((p:Int)==0)=false:=by rw[Yc];omega
   clear hr hp;go_enter Tryz.func128,Tryz.ntmps128;go_wp2_with fail;go_ret;exact⟨Z0 Hn.o,(Y8 _ _).alloc (Yk _) _⟩
 ·have Hn:=@Yh (false=r) (by rw[<-hr];symm;rw[Y1];rintro⟨g,-⟩;exact hs g)
  have he:=Zf2 (s:=s) (by omega);have A0:=Zz0 (s:=s) (by omega);clear hr;go_enter Tryz.func128,Tryz.ntmps128;go_wp2_with fail;go_ret;exact⟨Z0 Hn.o,(Y8 _ _).alloc (Yk _) _⟩
theorem ZN2{l:List Ty}{ks:List Int}{k:Nat}(hk:k<ks.length)(h:¬(0<=ks.getD k 0/\ks.getD k 0<(l.length:Int))):kidsB l ks=false:=by
 unfold kidsB;rw[Bool.eq_false_iff];intro ha;rw[List.all_eq_true]at ha;exact h (Yf (ha _ (Zd hk)))
theorem Zv6{l:List Ty}{ks:List Int}(h:∀k,k<ks.length->(0<=ks.getD k 0/\ks.getD k 0<(l.length:Int))):kidsB l ks=true:=by
 unfold kidsB;rw[List.all_eq_true];intro x hx;obtain⟨j,hj,rfl⟩:=List.getElem_of_mem hx;have:=h j hj;rw[Z3 hj]at this;exact Yb this
theorem ZG2{l:List Ty}{ks:List Int}(h:kidsB l ks=true):∀k∈ks,0<=k/\k<(l.length:Int):=by
 unfold kidsB at h;rw[List.all_eq_true]at h;exact fun k hk=>Yf (h k hk)
section
variable {l:List Ty} {a n:Int} {s:ByteArray} {ws:List ByteArray} {ks:List Int}
theorem ZY1(h:kidsB l ks=false):madeB l ⟨a,s,n,ws,ks⟩=false:=by
 unfold madeB;rw[show kidsB l (⟨a,s,n,ws,ks⟩:Ty).kids=false from h];rfl
theorem Z0b(h:16<ks.length):madeB l ⟨a,s,n,ws,ks⟩=false:=by
 have hn:ks≠[]:=by intro e;rw[e]at h;exact absurd h (by simp)
 rw[Bool.eq_false_iff];intro g;unfold madeB at g;rw[Yd]at g;have g:=g.2
 repeat' split at g
 all_goals (simp[bareB,hn]at g<;>omega)
theorem ZJb(h8:¬a=8)(h:¬s.size=0):madeB l ⟨a,s,n,ws,ks⟩=false:=by
 rw[Bool.eq_false_iff];intro g;unfold madeB at g;rw[Yd]at g;have g:=g.2
 repeat' split at g
 all_goals first|omega|(exfalso;simp only[bareB,Yd,decide_eq_true_eq]at g;first|exact h g.1.1|exact h g.1.1.1|exact h g.1|omega)|(simp[bareB,h]at g)
theorem Zs9(h6:¬a=6)(h7:¬a=7)(h:0<ws.length):madeB l ⟨a,s,n,ws,ks⟩=false:=by
 have hw:ws≠[]:=by intro e;rw[e]at h;exact absurd h (by simp)
 rw[Bool.eq_false_iff];intro g;unfold madeB at g;rw[Yd]at g;have g:=g.2
 repeat' split at g
 all_goals (simp[bareB,hw]at g<;>simp at *<;>omega)
theorem Zb5(h1:¬a=1)(h2:¬a=2)(h3:¬a=3)(h4:¬a=4)(h5:¬a=5)(h6:¬a=6)(h7:¬a=7)(h8:¬a=8)(h9:¬a=9):madeB l ⟨a,s,n,ws,ks⟩=false:=by
 simp[madeB,h1,h2,h3,h4,h5,h6,h7,h8,h9]
variable (hk:kidsB l ks=true) (hs:s.size=0) (hw:ws=[])
include hk
theorem made1(hs:s.size=0)(hw:ws=[]):madeB l ⟨1,s,n,ws,ks⟩=decide (ks.length=1/\n=0):=by simp[madeB,bareB,hk,hs,hw]
theorem made2(hs:s.size=0)(hw:ws=[]):madeB l ⟨2,s,n,ws,ks⟩=decide (ks.length=1/\n=0):=by simp[madeB,bareB,hk,hs,hw]
theorem made3(hs:s.size=0)(hw:ws=[]):madeB l ⟨3,s,n,ws,ks⟩=decide (ks.length=1/\0<=n/\n<=2147483648):=by simp[madeB,bareB,hk,hs,hw]
theorem made4(hs:s.size=0)(hw:ws=[]):madeB l ⟨4,s,n,ws,ks⟩=decide (ks.length=2/\n=0):=by simp[madeB,bareB,hk,hs,hw]
theorem made5(hs:s.size=0)(hw:ws=[]):madeB l ⟨5,s,n,ws,ks⟩=decide (ks.length<=16/\(n=0\/n=1/\0<ks.length)):=by simp[madeB,bareB,hk,hs,hw]
theorem made6(hs:s.size=0):madeB l ⟨6,s,n,ws,ks⟩=(decide (n=0/\ks.length<=16/\ws.length=ks.length)&&fieldsB ws):=by simp[madeB,bareB,hk,hs]
theorem made7(hs:s.size=0):madeB l ⟨7,s,n,ws,ks⟩=(decide (0<=n/\n<=3/\ks.length<=16/\ws.length=ks.length)&&elemsB l n ws ks):=by simp[madeB,bareB,hk,hs]
theorem made8:madeB l ⟨8,s,n,ws,ks⟩=(namedB s&&decide (ks.length<=16/\n=0/\ws=[])):=by simp[madeB,bareB,hk]
theorem made9(hs:s.size=0)(hw:ws=[]):madeB l ⟨9,s,n,ws,ks⟩=decide (ks.length=0/\0<=n/\n<16):=by simp[madeB,bareB,hk,hs,hw]
end
def kidsL(ks:List Int):List UInt8:=(ks.map fun k=>32::Lib.itoa k).flatten
def baseL(t:Ty):List UInt8:=if t.words=[]then t.name.data.toList else Lib.join (t.words.map (·.data.toList)) [32]
def restL(t:Ty):List UInt8:=baseL t++kidsL (t.kids.drop 2)
def restT(t:Ty):ByteArray:=⟨(restL t).toArray⟩
structure Ky where
 kind:Int
 n:Int
 many:Int
 k0:Int
 k1:Int
 rest:ByteArray
deriving DecidableEq
def keyT(t:Ty):Ky:=⟨t.kind,t.n,t.kids.length,t.kids.getD 0 0,t.kids.getD 1 0,restT t⟩
theorem Zjb:∀(x y u v:List UInt8),(32:UInt8) ∉ x->(32:UInt8) ∉ y->(u=[]\/u.head? = some 32)->(v=[]\/v.head? = some 32)->x++u=y++v->x=y/\u=v
 | [],[],u,v,_,_,_,_,h=>⟨rfl,h⟩
 | [],c::y,u,v,_,hy,hu,_,h=>by
  exfalso
  rw[List.nil_append,List.cons_append]at h
  rcases hu with hu|hu
  ·rw[hu]at h;cases h
  ·rw[h,List.head?_cons]at hu
   injection hu with hu
   exact hy (by rw[hu];exact Yt)
 | c::x,[],u,v,hx,_,_,hv,h=>by
  exfalso
  rw[List.nil_append,List.cons_append]at h
  rcases hv with hv|hv
  ·rw[hv]at h;cases h
  ·rw[<-h,List.head?_cons]at hv
   injection hv with hv
   exact hx (by rw[hv];exact Yt)
 | c::x,d::y,u,v,hx,hy,hu,hv,h=>by
  rw[List.cons_append,List.cons_append]at h
  injection h with h1 h2
  obtain⟨e1,e2⟩:=Zjb x y u v (fun g=>hx (Yx _ g)) (fun g=>hy (Yx _ g)) hu hv h2;exact⟨by rw[h1,e1],e2⟩
def toksL(R:List (List UInt8)):List UInt8:=(R.map (32::·)).flatten
theorem Zh6(R:List (List UInt8)):toksL R=[]\/(toksL R).head? = some 32:=by
 cases R with
 | nil=>exact .inl rfl
 | cons x r=>exact .inr rfl
theorem Zn4:∀(R S:List (List UInt8)) (x y:List UInt8),(∀z∈x::R,(32:UInt8) ∉ z)->(∀z∈y::S,(32:UInt8) ∉ z)->x++toksL R=y++toksL S->x=y/\R=S
 | R,S,x,y,hx,hy,h=>by
  obtain⟨e1,e2⟩:=Zjb x y (toksL R) (toksL S) (hx x Yt) (hy y Yt) (Zh6 R) (Zh6 S) h;refine⟨e1,?_⟩
  match R,S,e2 with
  | [],[],_=>rfl
  | [],b::s,e2=>cases e2
  | a::r,[],e2=>cases e2
  | a::r,b::s,e2 =>
   have e3:a++toksL r=b++toksL s:=by
    have:(32:UInt8)::(a++toksL r)=32::(b++toksL s):=e2
    injection this
   obtain⟨f1,f2⟩:=Zn4 r s a b (fun z hz=>hx z (Yx _ hz)) (fun z hz=>hy z (Yx _ hz)) e3;rw[f1,f2]
theorem ZS4{d:Nat}(h:d<=9):(UInt8.ofNat (48+d)).toNat=48+d:=by rw[UInt8.toNat_ofNat'];omega
theorem Zkd(u:Nat):∀c∈Lib.decDigits u,48<=c.toNat/\c.toNat<=57:=by
 induction u using Nat.strongRecOn with
 | _ u ih =>
  rw[Lib.decDigits]
  split
  ·rename_i h
   intro c hc;rw[Yo.1 hc,ZS4 (by omega)]
   omega
  ·rename_i h
   intro c hc
   rcases Yz.1 hc with h1|h1
   ·exact ih (u / 10) (by omega) c h1
   ·rw[Yo.1 h1,ZS4 (by omega)]
    omega
def valL(acc:Nat)(l:List UInt8):Nat:=l.foldl (fun a c=>a*10+(c.toNat-48)) acc
theorem ZS8(u:Nat):valL 0 (Lib.decDigits u)=u:=by
 induction u using Nat.strongRecOn with
 | _ u ih =>
  rw[Lib.decDigits]
  split
  ·rename_i h
   unfold valL;rw[List.foldl_cons,List.foldl_nil,ZS4 (by omega)]
   omega
  ·rename_i h
   unfold valL;rw[List.foldl_append];have:=ih (u / 10) (by omega);unfold valL at this;rw[this,List.foldl_cons,List.foldl_nil,ZS4 (by omega)]
   omega
theorem Zv4{k:Int}(h:0<=k):Lib.itoa k=Lib.decDigits k.toNat:=by unfold Lib.itoa;rw[if_neg (by omega)]
theorem Z8d{a b:Int}(ha:0<=a)(hb:0<=b)(h:Lib.itoa a=Lib.itoa b):a=b:=by
 rw[Zv4 ha,Zv4 hb]at h;have:=congrArg (valL 0) h;rw[ZS8,ZS8]at this
 omega
theorem Zvd{a:Int}(ha:0<=a):(32:UInt8) ∉ Lib.itoa a:=by
 rw[Zv4 ha];intro h;have:=Zkd _ _ h;simp at this
theorem ZW1:∀{xs ys:List Int},(∀k∈xs,0<=k)->(∀k∈ys,0<=k)->xs.map Lib.itoa=ys.map Lib.itoa->xs=ys
 | [],[],_,_,_=>rfl
 | [],_::_,_,_,h=>by cases h
 | _::_,[],_,_,h=>by cases h
 | a::xs,b::ys,hx,hy,h=>by
  rw[List.map_cons,List.map_cons]at h
  injection h with h1 h2
  rw[Z8d (hx a Yt) (hy b Yt) h1,ZW1 (fun k hk=>hx k (Yx _ hk)) (fun k hk=>hy k (Yx _ hk)) h2]
def No32(s:ByteArray):Prop:=(32:UInt8) ∉ s.data.toList
theorem ZJ3{s:ByteArray}(h:∀k,k<s.size->byteAt s k≠32):No32 s:=by
 intro hm;obtain⟨k,hk,e⟩:=List.getElem_of_mem hm;have A0:k<s.size:=by simpa using hk
 refine h k A0 ?_;rw[Zm A0];have:s[k]=32:=by rw[<-e];rfl
 rw[this];rfl
theorem Zb7{c:Int}(h:inB c=true):c≠32:=by
 rintro rfl;exact absurd h (by decide)
theorem ZU8{s:ByteArray}(h:nameB s=true):No32 s:=ZJ3 fun k hk=>Zb7 ((Yf h).2.2.2 k hk)
theorem ZI2{s:ByteArray}{a b k:Nat}(hb:b<=s.size)(hk:a+k<b):byteAt (s.extract a b) k=byteAt s (a+k):=by
 have A0:k<(s.extract a b).size:=by rw[ByteArray.size_extract];omega
 rw[Zm A0,Zm (by omega),ByteArray.getElem_extract]
theorem ZNc{w:ByteArray}(h:nameB (fieldT w)=true):No32 w:=by
 unfold fieldT at h
 split at h
 ·rename_i hc
  have:=(Yf h).2.2.2;refine ZJ3 fun k hk=>?_
  by_cases h0:k=0
  ·rw[h0,hc.2];decide
  ·have g:=this (k-1) (by rw[ByteArray.size_extract];omega)
   rw[ZI2 (Yk _) (by omega),show 1+(k-1)=k by omega]at g;exact Zb7 g
 ·exact ZU8 h
theorem Zqd{w:ByteArray}(h:markB w=true):No32 w:=by
 unfold markB at h;rw[Bool.or_eq_true,YK,YK,ByteArray.toList_eq]at h;unfold No32
 rcases h with h|h<;>rw[h]<;>decide
theorem ZVb{s:ByteArray}(h:namedB s=true):No32 s:=by
 unfold namedB at h
 cases hd:dotAt s with
 | none=>rw[hd]at h;cases h
 | some i =>
  rw[hd]at h;have h:(nameB (s.extract 0 i)&&nameB (s.extract (i+1) s.size))=true:=h;rw[Yd]at h;unfold dotAt at hd;have hi:=List.mem_of_find?_eq_some hd;have hp:=List.find?_some hd;rw[List.mem_range]at hi;have hp:byteAt s i=46:=Yf hp;have h1:=(Yf h.1).2.2.2;have h2:=(Yf h.2).2.2.2;refine ZJ3 fun k hk=>?_
  rcases Nat.lt_trichotomy k i with g|g|g
  ·have:=h1 k (by rw[ByteArray.size_extract];omega)
   rw[ZI2 (by omega) (by omega),Nat.zero_add]at this;exact Zb7 this
  ·rw[g,hp];decide
  ·have:=h2 (k-(i+1)) (by rw[ByteArray.size_extract];omega)
   rw[ZI2 (Yk _) (by omega),show i+1+(k-(i+1))=k by omega]at this;exact Zb7 this
theorem Zf4{s:ByteArray}(h:s.size=0):No32 s:=ZJ3 fun k hk=>by omega
theorem Zu4{s:ByteArray}(h:s.size=0):s=⟨#[]⟩:=by
 apply ByteArray.ext
 exact Array.eq_empty_of_size_eq_zero h
structure Made (t:Ty):Prop where
 name:No32 t.name
 words:∀w∈t.words,No32 w
 kids:∀k∈t.kids,0<=k
 many:t.words=[]\/t.name.size=0
 lens:t.kind=6\/t.kind=7->t.words.length=t.kids.length/\t.name.size=0
 bare:¬(t.kind=6\/t.kind=7)->t.words=[]
theorem Zc1{l:List Ty}{t:Ty}(h:madeB l t=true):Made t:=by
 unfold madeB at h;rw[Yd]at h;obtain⟨hk,h⟩:=h;have A1:∀k∈t.kids,0<=k:=fun k hm=>(ZG2 hk k hm).1
 have A0:bareB t=true->¬(t.kind=6\/t.kind=7)->Made t:=fun g hn=>by
  have:=Yf g;exact⟨Zf4 this.1,fun w hw=>by(rw[this.2]at hw;cases hw),A1,.inl this.2,fun g=>absurd g hn,fun _=>this.2⟩
 split at h
 ·rw[Yd]at h;exact A0 h.1 (by omega)
 split at h
 ·rw[Yd]at h;exact A0 h.1 (by omega)
 split at h
 ·rw[Yd]at h;exact A0 h.1 (by omega)
 split at h
 ·rw[Yd]at h;exact A0 h.1 (by omega)
 split at h
 ·rename_i h6
  rw[Yd]at h;have g:=Yf h.1;refine⟨Zf4 g.1,fun w hw=>?_,A1,.inr g.1,fun _=>⟨g.2.2.2,g.1⟩,fun hn=>absurd (.inl h6) hn⟩;obtain⟨i,hi,rfl⟩:=List.getElem_of_mem hw;have hf:=h.2;unfold fieldsB at hf;rw[List.all_eq_true]at hf;have:=hf i (List.mem_range.2 hi);unfold fieldB at this;rw[Yd,Z3 hi]at this;exact ZNc this.1
 split at h
 ·rename_i h7
  rw[Yd]at h;have g:=Yf h.1;refine⟨Zf4 g.1,fun w hw=>?_,A1,.inr g.1,fun _=>⟨g.2.2.2.2,g.1⟩,fun hn=>absurd (.inr h7) hn⟩;obtain⟨i,hi,rfl⟩:=List.getElem_of_mem hw;have hf:=h.2;unfold elemsB at hf;rw[List.all_eq_true]at hf;have:=hf i (List.mem_range.2 hi);rw[Z3 hi]at this;unfold elemB at this
  by_cases hm:markB t.words[i]=true
  ·exact Zqd hm
  ·rw[if_neg hm,Yd,Yd]at this
   exact ZU8 this.1.1
 split at h
 ·rw[Yd]at h
  have g:=Yf h.2;exact⟨ZVb h.1,fun w hw=>by(rw[g.2.2]at hw;cases hw),A1,.inl g.2.2,fun g=>by omega,fun _=>g.2.2⟩
 split at h
 ·rw[Yd]at h;exact A0 h.1 (by omega)
 ·cases h
theorem ZY4{l:List Ty}{t:Ty}(h:madeB l t=true):TySm t:=by
 unfold madeB at h;rw[Yd]at h;obtain⟨hk,h⟩:=h;have none:t.words=[]->TySm t:=fun g s hs=>by rw[g]at hs;cases hs
 have nm:∀{w:ByteArray},nameB w=true->w.size<=20:=fun h=>(Yf h).2.1
 split at h
 ·rw[Yd]at h;exact none (Yf h.1).2
 split at h
 ·rw[Yd]at h;exact none (Yf h.1).2
 split at h
 ·rw[Yd]at h;exact none (Yf h.1).2
 split at h
 ·rw[Yd]at h;exact none (Yf h.1).2
 split at h
 ·rw[Yd]at h
  intro w hw;obtain⟨i,hi,rfl⟩:=List.getElem_of_mem hw;have hf:=h.2;unfold fieldsB at hf;rw[List.all_eq_true]at hf;have:=hf i (List.mem_range.2 hi);unfold fieldB at this;rw[Yd,Z3 hi]at this;have g:=nm this.1;unfold fieldT at g
  split at g
  ·rw[ByteArray.size_extract]at g;omega
  ·omega
 split at h
 ·rw[Yd]at h
  intro w hw;obtain⟨i,hi,rfl⟩:=List.getElem_of_mem hw;have hf:=h.2;unfold elemsB at hf;rw[List.all_eq_true]at hf;have:=hf i (List.mem_range.2 hi);rw[Z3 hi]at this;unfold elemB at this
  by_cases hm:markB t.words[i]=true
  ·unfold markB at hm
   rw[Bool.or_eq_true,YK,YK,ByteArray.toList_eq]at hm;have e:t.words[i].size=t.words[i].data.toList.length:=by simp
   rw[e]
   rcases hm with hm|hm<;>rw[hm]<;>decide
  ·rw[if_neg hm,Yd,Yd]at this
   have:=nm this.1.1
   omega
 split at h
 ·rw[Yd]at h
  exact none (Yf h.2).2.2
 split at h
 ·rw[Yd]at h;exact none (Yf h.1).2
 ·cases h
theorem Z75(ks:List Int):kidsL ks=toksL (ks.map Lib.itoa):=by unfold kidsL toksL;rw[List.map_map];rfl
theorem Z8c(R S:List (List UInt8)):toksL (R++S)=toksL R++toksL S:=by unfold toksL;rw[Yu,List.flatten_append]
theorem Z24{t:Ty}{w:ByteArray}{r:List ByteArray}(h:t.words=w::r):restL t=w.data.toList++toksL (r.map (·.data.toList)++(t.kids.drop 2).map Lib.itoa):=by
 unfold restL baseL;rw[if_neg (by rw[h];simp),h,List.map_cons,Lib.join_cons,Z75,Z8c,Y6]
 rfl
theorem ZZ4{t:Ty}(h:t.words=[]):restL t=t.name.data.toList++toksL ((t.kids.drop 2).map Lib.itoa):=by
 unfold restL baseL;rw[if_pos h,Z75]
theorem Z73{a b:ByteArray}(h:a.data.toList=b.data.toList):a=b:=ByteArray.ext (Array.toList_inj.1 h)
theorem ZW2:∀{xs ys:List ByteArray},xs.map (·.data.toList)=ys.map (·.data.toList)->xs=ys
 | [],[],_=>rfl
 | [],_::_,h=>by cases h
 | _::_,[],h=>by cases h
 | a::xs,b::ys,h=>by
  rw[List.map_cons,List.map_cons]at h
  injection h with h1 h2
  rw[Z73 h1,ZW2 h2]
theorem ZGd{xs ys:List Int}(hl:xs.length=ys.length)(h0:xs.getD 0 0=ys.getD 0 0)(h1:xs.getD 1 0=ys.getD 1 0)(hd:xs.drop 2=ys.drop 2):xs=ys:=by
 match xs,ys,hl with
 | [],[],_=>rfl
 | [a],[b],_=>simp at h0;rw[h0]
 | a::c::r,b::d::s,_=>simp at h0 h1 hd;rw[h0,h1,hd]
theorem ZB2{ks:List Int}(h:∀k∈ks,0<=k):∀z∈(ks.drop 2).map Lib.itoa,(32:UInt8) ∉ z:=by
 intro z hz;obtain⟨k,hk,rfl⟩:=Y4.1 hz;exact Zvd (h k (List.mem_of_mem_drop hk))
theorem Zh8{a b:Ty}(ha:Made a)(hb:Made b)(h:keyT a=keyT b):a=b:=by
 unfold keyT at h;simp only[Ky.mk.injEq]at h;obtain⟨h1,h2,h3,h4,h5,h6⟩:=h;have h3:a.kids.length=b.kids.length:=by omega
 have h6:restL a=restL b:=by
  have:=congrArg (fun s=>s.data.toList) h6
  simpa [restT] using this
 have A1:a.words.length=b.words.length:=by
  by_cases g:a.kind=6\/a.kind=7
  ·rw[(ha.lens g).1,(hb.lens (by rw[<-h1];exact g)).1,h3]
  ·rw[ha.bare g,hb.bare (by rw[<-h1];exact g)]
 have A2:a.name=b.name/\a.words=b.words/\a.kids.drop 2=b.kids.drop 2:=by
  cases hwa:a.words with
  | nil =>
   have A0:b.words=[]:=by rw[hwa]at A1;exact Yp A1.symm
   rw[ZZ4 hwa,ZZ4 A0]at h6
   obtain⟨e1,e2⟩:=Zn4 _ _ _ _ (fun z hz=>by
    rcases List.mem_cons.1 hz with rfl|hz
    ·exact ha.name
    ·exact ZB2 ha.kids z hz) (fun z hz=>by
    rcases List.mem_cons.1 hz with rfl|hz
    ·exact hb.name
    ·exact ZB2 hb.kids z hz) h6
   exact⟨Z73 e1,A0.symm,ZW1 (fun k hk=>ha.kids k (List.mem_of_mem_drop hk)) (fun k hk=>hb.kids k (List.mem_of_mem_drop hk)) e2⟩
  | cons w r =>
   cases A0:b.words with
   | nil=>rw[hwa,A0]at A1;cases A1
   | cons v s =>
    rw[Z24 hwa,Z24 A0]at h6
    have ga:∀z∈w.data.toList::(r.map (·.data.toList)++(a.kids.drop 2).map Lib.itoa),(32:UInt8) ∉ z:=fun z hz=>by
     rcases List.mem_cons.1 hz with rfl|hz
     ·exact ha.words w (by rw[hwa];exact Yt)
     rcases Yz.1 hz with hz|hz
     ·obtain⟨x,hx,rfl⟩:=Y4.1 hz
      exact ha.words x (by rw[hwa];exact Yx _ hx)
     ·exact ZB2 ha.kids z hz
    have gb:∀z∈v.data.toList::(s.map (·.data.toList)++(b.kids.drop 2).map Lib.itoa),(32:UInt8) ∉ z:=fun z hz=>by
     rcases List.mem_cons.1 hz with rfl|hz
     ·exact hb.words v (by rw[A0];exact Yt)
     rcases Yz.1 hz with hz|hz
     ·obtain⟨x,hx,rfl⟩:=Y4.1 hz
      exact hb.words x (by rw[A0];exact Yx _ hx)
     ·exact ZB2 hb.kids z hz
    obtain⟨e1,e2⟩:=Zn4 _ _ _ _ ga gb h6
    have A3:(r.map (·.data.toList)).length=(s.map (·.data.toList)).length:=by
     rw[hwa,A0]at A1;simp at A1;simp[A1]
    obtain⟨e3,e4⟩:=List.append_inj e2 A3
    have na:a.name.size=0:=by
     rcases ha.many with g|g
     ·rw[hwa]at g;cases g
     ·exact g
    have nb:b.name.size=0:=by
     rcases hb.many with g|g
     ·rw[A0]at g;cases g
     ·exact g
    exact⟨by rw[Zu4 na,Zu4 nb],by rw[Z73 e1,ZW2 e3],ZW1 (fun k hk=>ha.kids k (List.mem_of_mem_drop hk)) (fun k hk=>hb.kids k (List.mem_of_mem_drop hk)) e4⟩
 obtain⟨k1,k2,k3⟩:=A2;have k4:=ZGd h3 h4 h5 k3
 cases a;cases b
 simp only[Ty.mk.injEq];exact⟨h1,k1,h2,k2,k4⟩
theorem ZL7(k:Nat):∀ss:List ByteArray,(∀s∈ss,s.size<=k)->Lib.lens (ss.map (·.data.toList))<=ss.length*k
 | [],_=>by unfold Lib.lens;simp
 | s::r,h=>by
  have ih:=ZL7 k r (fun x hx=>h x (Yx _ hx));have hs:s.data.toList.length<=k:=h s Yt;unfold Lib.lens at *;rw[List.map_cons,List.map_cons,List.sum_cons,List.length_cons,Nat.add_mul]
  omega
theorem ZX5{ss:List ByteArray}{k n:Nat}(sep:List UInt8)(h:∀s∈ss,s.size<=k)(hl:ss.length<=n):(Lib.join (ss.map (·.data.toList)) sep).length<=n*k+n*sep.length:=by
 cases ss with
 | nil=>simp[Lib.join]
 | cons x r =>
  rw[List.map_cons,Lib.join_length];have:=ZL7 k (x::r) h;rw[List.map_cons]at this;have h3:(x::r).length*k<=n*k:=Nat.mul_le_mul_right _ hl;have h4:r.length*sep.length<=n*sep.length:=Nat.mul_le_mul_right _ (by rw[List.length_cons]at hl;omega);rw[Nat.mul_comm]at h4;simp at hl ⊢;rw[Nat.mul_comm n sep.length]at h4 ⊢
  omega
def joinT(ss:List ByteArray)(sep:ByteArray):ByteArray:=⟨(Lib.join (ss.map (·.data.toList)) sep.data.toList).toArray⟩
theorem ZWc(ao:Option Addr)(cap:Nat)(ss:List ByteArray)(sep:ByteArray)(n k:Nat)(w:World)(hr:SRow w ao ss)(h0:0<ss.length)(hl:ss.length<=n)(hz:∀s∈ss,s.size<=k)(hc:ss.length<=cap)(hb:n*k+n*sep.size<=140737488355328)(hn:n<=1000000) :
  Calls Tryz.prog 132 #[.slice ao ss.length cap,.string sep] w fun e w'=>e=.returned (.string (joinT ss sep))/\Below w.heap.size w w':=by
 obtain⟨b,off,rfl,hb,hcell⟩:=hr.cells h0;refine Tryz.strings_Join b off cap ss sep w (fun j x hx=>?_) hb (by omega) hc ?_
 ·obtain⟨hj,rfl⟩:=YI.1 hx
  rw[<-Z3 (d:=⟨#[]⟩) hj];exact hcell j hj
 ·have:=ZX5 sep.data.toList hz hl
  have e:sep.data.toList.length=sep.size:=by simp
  rw[e]at this
  omega
def keyV(k:Ky):Value:=.agg #[.int .i64 k.kind,.int .i64 k.n,.int .i64 k.many,.int .i64 k.k0,.int .i64 k.k1,.string k.rest]
def baseT(t:Ty):ByteArray:=⟨(baseL t).toArray⟩
theorem Z15{t:Ty}(h:t.words=[]):baseT t=t.name:=by unfold baseT baseL;rw[if_pos h]
theorem Zp5{t:Ty}(h:t.words≠[]):baseT t=joinT t.words ⟨#[32]⟩:=by unfold baseT baseL;rw[if_neg h];rfl
theorem Zi5{t:Ty}(h:TyOk t)(hs:TySm t):(baseT t).size<=20000000:=by
 by_cases hw:t.words=[]
 ·rw[Z15 hw];have:=h.nl;omega
 ·rw[Zp5 hw]
  have:=ZX5 (n:=18) (k:=1100000) [32] hs h.wl
  show(Lib.join (t.words.map (·.data.toList)) [32]).length<=20000000
  simp at this
  omega
theorem Z4a{ks:List Int}{k:Nat}(h:k<ks.length):kidsL (ks.take (k+1))=kidsL (ks.take k)++(32::Lib.itoa (ks.getD k 0)):=by
 unfold kidsL;rw[List.take_succ_eq_append_getElem h,Yu,List.flatten_append,Z3 h];simp
theorem Z5c{k:Int}(h0:-9223372036854775808<=k)(h1:k<=9223372036854775807):(Lib.itoa k).length<=21:=Lib.itoa_length_le k h0 h1
theorem Zr3:∀{ks:List Int},(∀k∈ks,-9223372036854775808<=k/\k<=9223372036854775807)->(kidsL ks).length<=ks.length*22
 | [],_=>by simp[kidsL]
 | k::r,h=>by
  have ih:=Zr3 (ks:=r) (fun x hx=>h x (Yx _ hx));have:=Z5c (h k Yt).1 (h k Yt).2;unfold kidsL at *;rw[List.map_cons,List.flatten_cons,Ye,List.length_cons,List.length_cons]
  omega
theorem Z32(b o j:Nat):(⟨b,o,none⟩:Addr).add j=⟨b,o+j,none⟩:=by unfold Addr.add;split<;>simp_all
theorem cell6{w:World}{b:Nat}{a0 a1 a2 a3 a4 a5:Value}{T:TypeId}(h:BlockAt w b #[a0,a1,a2,a3,a4,a5] T) :
  w.cell? ⟨b,0,none⟩=some a0/\w.cell? ⟨b,1,none⟩=some a1/\w.cell? ⟨b,2,none⟩=some a2/\w.cell? ⟨b,3,none⟩=some a3/\w.cell? ⟨b,4,none⟩=some a4/\w.cell? ⟨b,5,none⟩=some a5:=
 ⟨h.cell 0,h.cell 1,h.cell 2,h.cell 3,h.cell 4,h.cell 5⟩
theorem Zb4:(Tryz.prog.info? 3).map (·.size)=some 1:=by kernel_rfl
theorem ZO9(w:World)(b:Nat)(x0 x1 x2 s:Value)(ko:Option Addr)(kc:Nat)(ks:List Int)(hb:BlockAt w b #[x0,x1,x2,.int .i64 0,.int .i64 0,s] 166)(hk:IRow w ko ks) :
  ∃w',(∀ty,(Builtin.copy_ #[26,26] ty #[.slice (some ⟨b,3,none⟩) 2 2,.slice ko ks.length kc]).run Tryz.prog w=.ok (.int .i64 (min ks.length 2:Nat)) w')/\BlockAt w' b #[x0,x1,x2,.int .i64 (ks.getD 0 0),.int .i64 (ks.getD 1 0),s] 166 /\
   w'.heap.size=w.heap.size/\w'.os=w.os/\w'.tape=w.tape/\w'.output=w.output/\∀i,i≠b->w'.heap[i]? = w.heap[i]?:=by
 match ks,hk with
 | [],_ =>
  refine⟨w,fun ty=>?_,hb,rfl,rfl,rfl,rfl,fun _ _=>rfl⟩;exact run_copy_none w _ _ ty 3 _ _ 2 2 0 kc Tryz.underlying26 Zb4 rfl
 | [k0],hk =>
  obtain⟨kb,kof,rfl,hkb,hkc⟩:=hk.cells (by simp);have c0:=hkc 0 (by simp);refine⟨w.setRow b #[x0,x1,x2,.int .i64 k0,.int .i64 0,s],fun ty=>?_,setRow_heap w b _ _ _ _ hb,by simp[World.setRow],rfl,rfl,rfl,fun i hi=>setRow_other w b i _ hi⟩
  have:=run_copy_row (P:=Tryz.prog) w 26 26 ty 3 b 3 2 2 ⟨kb,kof,none⟩ 1 kc _ _ [.int .i64 k0] Tryz.underlying26 Zb4 hb rfl (fun j v hj=>by
    match j,hj with
    | 0,hj=>simp at hj;subst hj;rw[Z32];exact c0
    | j+1,hj=>simp at hj) (by simp) (by intro v hv;simp at hv;subst hv;rfl)
  exact this
 | k0::k1::r,hk =>
  obtain⟨kb,kof,rfl,hkb,hkc⟩:=hk.cells (by simp);have c0:=hkc 0 (by simp);have c1:=hkc 1 (by simp);refine⟨w.setRow b #[x0,x1,x2,.int .i64 k0,.int .i64 k1,s],fun ty=>?_,setRow_heap w b _ _ _ _ hb,by simp[World.setRow],rfl,rfl,rfl,fun i hi=>setRow_other w b i _ hi⟩
  have:=run_copy_row (P:=Tryz.prog) w 26 26 ty 3 b 3 2 2 ⟨kb,kof,none⟩ (r.length+1+1) kc _ _ [.int .i64 k0,.int .i64 k1] Tryz.underlying26 Zb4 hb (by simp[Nat.min_def]) (fun j v hj=>by
    match j,hj with
    | 0,hj=>simp at hj;subst hj;rw[Z32];exact c0
    | 1,hj=>simp at hj;subst hj;rw[Z32];exact c1
    | j+2,hj=>simp at hj) (by simp) (by intro v hv;simp at hv;rcases hv with rfl|rfl<;>rfl)
  have e:min (k0::k1::r).length 2=2:=by simp[Nat.min_def]
  rw[e];exact this
open Go Go.RowKit
set_option maxRecDepth 100000
theorem ZPc:laidOutB Tryz.prog=true:=by kernel_rfl
theorem ZLd:(166:TypeId) < Tryz.prog.types.size:=Yf (by kernel_rfl)
theorem Zmc:(match Tryz.prog.underlying 166 with|some (.array _ _)|some (.struct _)=>true|_=>false)=true:=by kernel_rfl
theorem key_law:Maps.Keyed Tryz.prog 166:=Maps.Keyed.of_law (deep_law_laid ZPc (m:=4) (by omega) ZLd (by kernel_rfl) Zmc)
theorem Zl6:Tryz.prog.cellsOf 166=6:=by kernel_rfl
theorem ZJa:Tryz.prog.cellsOf 164=2:=by kernel_rfl
theorem Z4b:Tryz.prog.cellsOf 3=1:=by kernel_rfl
theorem Zvb:Tryz.prog.cellsOf 9=1:=by kernel_rfl
theorem Zdc:Tryz.prog.keyType 166=true:=by kernel_rfl
theorem Zy8:∃m,Tryz.prog.types.size=m+3:=⟨Tryz.prog.types.size-3,by have:3<=Tryz.prog.types.size:=Yf (by kernel_rfl);omega⟩
structure KyOk (k:Ky):Prop where
 kind:-9223372036854775808<=k.kind/\k.kind<=9223372036854775807
 n:-9223372036854775808<=k.n/\k.n<=9223372036854775807
 many:-9223372036854775808<=k.many/\k.many<=9223372036854775807
 k0:-9223372036854775808<=k.k0/\k.k0<=9223372036854775807
 k1:-9223372036854775808<=k.k1/\k.k1<=9223372036854775807
 rest:k.rest.size<=20001000
theorem ZU0{n:Int}(h:-9223372036854775808<=n/\n<=9223372036854775807):(Lit.int .i64 n).wf=true:=by
 simp[Lit.wf,IntKind.min,IntKind.max,IntKind.bits,IntKind.signed]
 omega
theorem ZG5{k:Ky}(h:KyOk k):∃kl,keyOf Tryz.prog 166 (keyV k)=some kl:=by
 obtain⟨m,hm⟩:=Zy8
 have hf:(keyV k).formed Tryz.prog 166=true:=by
  simp[Value.formed,keyV,Tryz.underlying166,Zl6]
 have hs:k.rest.size<=maxLen:=by have:=h.rest;unfold maxLen;omega
 unfold keyOf;rw[Tryz.underlying166];simp only[Zdc,hf,Bool.and_self,if_true];rw[hm];simp[keyV,Value.cells,Program.keyLits,Tryz.underlying166,Tryz.underlying3,Tryz.underlying164,Tryz.underlying9,Zl6,ZJa,Z4b,Zvb,ZU0 h.kind,ZU0 h.n,ZU0 h.many,ZU0 h.k0,ZU0 h.k1,hs,List.range_succ]
theorem Zlc{a b:Ky}(h:keyV a=keyV b):a=b:=by
 obtain⟨a1,a2,a3,a4,a5,a6⟩:=a;obtain⟨b1,b2,b3,b4,b5,b6⟩:=b;simp[keyV]at h;obtain⟨rfl,rfl,rfl,rfl,rfl,rfl⟩:=h
 rfl
theorem ZR1(w:World):(zeroValue 3).run Tryz.prog w=.ok (.int .i64 0) w:=by kernel_rfl
def KMap(w:World)(b:Nat)(L:List (Ky×Nat)):Prop:=
 ∃D:DataW Unit,w.ownsMap Tryz.prog 166 (plainElem Tryz.prog 3) b L.length D /\
  ∀k kl,keyOf Tryz.prog 166 (keyV k)=some kl->(∀i,(k,i)∈L->Maps.has D kl=true/\∀z,D.atKey kl z=.lit (.int .i64 i))/\((∀p∈L,p.1≠k)->Maps.has D kl=false)
theorem Zfc(w:World):KMap (w.alloc (.map #[] 0)) w.heap.size []:=
 ⟨.map [],World.ownsMap_made _ _ _ _,fun k kl _=>⟨fun i h=>absurd h (by simp),fun _=>rfl⟩⟩
theorem KMap.lt{w:World}{b:Nat}{L:List (Ky×Nat)}(h:KMap w b L):b<w.heap.size:=by
 obtain⟨D,h1,-⟩:=h;exact h1.lt
theorem KMap.below{w w':World}{b:Nat}{L:List (Ky×Nat)}(h:KMap w b L)(hb:Below w.heap.size w w'):KMap w' b L:=by
 have A0:=h.lt;obtain⟨D,⟨es,clock,h1,h2⟩,h3⟩:=h;exact⟨D,⟨es,clock,(hb.block b A0).trans h1,h2⟩,h3⟩
theorem KMap.hit{w:World}{b:Nat}{L:List (Ky×Nat)}(h:KMap w b L){k:Ky}{i:Nat}(hk:KyOk k)(hm:(k,i)∈L):(Instr.lookup 137 (.map (some b)) (keyV k) true).run Tryz.prog w=.ok (.tuple #[.int .i64 i,.bool true]) w:=by
 obtain⟨D,h1,h2⟩:=h;obtain⟨kl,hkl⟩:=ZG5 hk;obtain⟨g1,g2⟩:=(h2 k kl hkl).1 i hm;obtain⟨v,ps,hrun,hv⟩:=h1.look_ok key_law Tryz.underlying137 (ZR1 w) (plainElem_int Tryz.underlying3 (by decide)) hkl;obtain⟨c,rfl,hc,-⟩:=plainElem_int_inv Tryz.underlying3 hv;rw[g2]at hc;simp only[Prod.mk.injEq,DataW.lit.injEq,Lit.int.injEq,true_and]at hc;rw[hrun,g1,hc.1]
theorem KMap.miss{w:World}{b:Nat}{L:List (Ky×Nat)}(h:KMap w b L){k:Ky}(hk:KyOk k)(hm:∀p∈L,p.1≠k):(Instr.lookup 137 (.map (some b)) (keyV k) true).run Tryz.prog w=.ok (.tuple #[.int .i64 0,.bool false]) w:=by
 obtain⟨D,h1,h2⟩:=h;obtain⟨kl,hkl⟩:=ZG5 hk;have g1:=(h2 k kl hkl).2 hm;obtain⟨v,ps,hrun,hv⟩:=h1.look_ok key_law Tryz.underlying137 (ZR1 w) (plainElem_int Tryz.underlying3 (by decide)) hkl;obtain⟨c,rfl,hc,-⟩:=plainElem_int_inv Tryz.underlying3 hv;rw[Maps.atKey_of_not_has g1]at hc;simp only[Prod.mk.injEq,DataW.lit.injEq,Lit.int.injEq,true_and]at hc;rw[hrun,g1,<-hc.1]
theorem KMap.store{w:World}{b:Nat}{L:List (Ky×Nat)}(h:KMap w b L){k:Ky}{i:Nat}(hk:KyOk k)(hm:∀p∈L,p.1≠k)(hi:i<=1000)(hl:L.length<=1000) :
  ∃w',(Instr.mapUpdate 137 (.map (some b)) (keyV k) (.int .i64 i)).run Tryz.prog w=.ok () w'/\KMap w' b (L++[(k,i)])/\w.grownBy w' (some b):=by
 obtain⟨D,h1,h2⟩:=h;obtain⟨kl,hkl⟩:=ZG5 hk;obtain⟨w',hrun,h3,h4⟩:=h1.update key_law Tryz.underlying137 (by unfold maxLen;omega) hkl (plainElem_int (H:=Unit) Tryz.underlying3 (a:=(i:Int)) (ZU0 (by omega)));refine⟨w',hrun,⟨_,by rw[Ye];exact h3,fun k' kl' hk'=>?_⟩,h4⟩;have A0:=key_law.key hkl
 by_cases he:k'=k
 ·subst he
  rw[hkl]at hk'
  injection hk' with hk'
  subst hk';refine⟨fun j hj=>?_,fun hno=>absurd rfl (hno (k',i) (by simp))⟩
  have:j=i:=by
   rcases Yz.1 hj with hj|hj
   ·exact absurd rfl (hm _ hj)
   ·simpa using hj
  subst this;exact⟨Maps.has_put_same h1.isMap A0 _,fun z=>Maps.atKey_put_same h1.isMap A0 _ z⟩
 ·have A1:kl'≠kl:=fun e=>he (Zlc (key_law.inj (e▸hk') hkl))
  rw[Maps.has_put_other A1];refine⟨fun j hj=>?_,fun hno=>(h2 k' kl' hk').2 (fun p hp=>hno p (List.mem_append_left _ hp))⟩
  have A2:(k',j)∈L:=by
   rcases Yz.1 hj with hj|hj
   ·exact hj
   ·simp at hj;exact absurd hj.1 he
  obtain⟨g1,g2⟩:=(h2 k' kl' hk').1 j A2;exact⟨g1,fun z=>by rw[Maps.atKey_put_other A1];exact g2 z⟩
set_option maxRecDepth 100000
theorem imap_law:Maps.Keyed Tryz.prog 3:=Maps.int_keyed Tryz.underlying3
def WfI(n:Int):Prop:=-9223372036854775808<=n/\n<=9223372036854775807
theorem ZS2{k:Int}(h:WfI k):keyOf Tryz.prog 3 (.int .i64 k)=some (.int .i64 k):=Maps.keyOf_int_mk Tryz.underlying3 (ZU0 h)
def IntMap(w:World)(b:Nat)(L:List (Int×Nat)):Prop:=
 ∃D:DataW Unit,w.ownsMap Tryz.prog 3 (plainElem Tryz.prog 3) b L.length D /\
  ∀k,WfI k->(∀i,(k,i)∈L->Maps.has D (.int .i64 k)=true/\∀z,D.atKey (.int .i64 k) z=.lit (.int .i64 i))/\((∀p∈L,p.1≠k)->Maps.has D (.int .i64 k)=false)
theorem Zk5(w:World):IntMap (w.alloc (.map #[] 0)) w.heap.size []:=
 ⟨.map [],World.ownsMap_made _ _ _ _,fun k _=>⟨fun i h=>absurd h (by simp),fun _=>rfl⟩⟩
theorem IntMap.lt{w:World}{b:Nat}{L:List (Int×Nat)}(h:IntMap w b L):b<w.heap.size:=by
 obtain⟨D,h1,-⟩:=h;exact h1.lt
theorem IntMap.block{w w':World}{b:Nat}{L:List (Int×Nat)}(h:IntMap w b L)(hb:w'.heap[b]? = w.heap[b]?):IntMap w' b L:=by
 obtain⟨D,⟨es,clock,h1,h2⟩,h3⟩:=h;exact⟨D,⟨es,clock,hb.trans h1,h2⟩,h3⟩
theorem IntMap.below{w w':World}{b:Nat}{L:List (Int×Nat)}(h:IntMap w b L)(hb:Below w.heap.size w w'):IntMap w' b L:=h.block (hb.block b h.lt)
theorem IntMap.grown{w w':World}{b:Nat}{L:List (Int×Nat)}{row:Option Nat}(h:IntMap w b L)(hg:w.grownBy w' row)(hne:row≠some b):IntMap w' b L:=h.block (hg.block b h.lt (fun e=>hne e.symm))
theorem IntMap.set{w w':World}{b c k:Nat}{L:List (Int×Nat)}{v:Value}(h:IntMap w b L)(hne:b≠c)(h1:w.setCell ⟨c,k,none⟩ v=w'):IntMap w' b L:=by
 subst h1;exact h.block (Y9 _ _ _ _ hne)
theorem IntMap.hit{w:World}{b:Nat}{L:List (Int×Nat)}(h:IntMap w b L){k:Int}{i:Nat}(hk:WfI k)(hm:(k,i)∈L):(Instr.lookup 95 (.map (some b)) (.int .i64 k) true).run Tryz.prog w=.ok (.tuple #[.int .i64 i,.bool true]) w:=by
 obtain⟨D,h1,h2⟩:=h;obtain⟨g1,g2⟩:=(h2 k hk).1 i hm;obtain⟨v,ps,hrun,hv⟩:=h1.look_ok imap_law Tryz.underlying95 (ZR1 w) (plainElem_int Tryz.underlying3 (by decide)) (ZS2 hk);obtain⟨c,rfl,hc,-⟩:=plainElem_int_inv Tryz.underlying3 hv;rw[g2]at hc;simp only[Prod.mk.injEq,DataW.lit.injEq,Lit.int.injEq,true_and]at hc;rw[hrun,g1,hc.1]
theorem IntMap.miss{w:World}{b:Nat}{L:List (Int×Nat)}(h:IntMap w b L){k:Int}(hk:WfI k)(hm:∀p∈L,p.1≠k):(Instr.lookup 95 (.map (some b)) (.int .i64 k) true).run Tryz.prog w=.ok (.tuple #[.int .i64 0,.bool false]) w:=by
 obtain⟨D,h1,h2⟩:=h;have g1:=(h2 k hk).2 hm;obtain⟨v,ps,hrun,hv⟩:=h1.look_ok imap_law Tryz.underlying95 (ZR1 w) (plainElem_int Tryz.underlying3 (by decide)) (ZS2 hk);obtain⟨c,rfl,hc,-⟩:=plainElem_int_inv Tryz.underlying3 hv;rw[Maps.atKey_of_not_has g1]at hc;simp only[Prod.mk.injEq,DataW.lit.injEq,Lit.int.injEq,true_and]at hc;rw[hrun,g1,<-hc.1]
theorem IntMap.store{w:World}{b:Nat}{L:List (Int×Nat)}(h:IntMap w b L){k:Int}{i:Nat}(hk:WfI k)(hm:∀p∈L,p.1≠k)(hi:i<=1000000)(hl:L.length<=1000000) :
  ∃w',(Instr.mapUpdate 95 (.map (some b)) (.int .i64 k) (.int .i64 i)).run Tryz.prog w=.ok () w'/\IntMap w' b (L++[(k,i)])/\w.grownBy w' (some b):=by
 obtain⟨D,h1,h2⟩:=h;obtain⟨w',hrun,h3,h4⟩:=h1.update imap_law Tryz.underlying95 (by unfold maxLen;omega) (ZS2 hk) (plainElem_int (H:=Unit) Tryz.underlying3 (a:=(i:Int)) (ZU0 (by omega)));refine⟨w',hrun,⟨_,by rw[Ye];exact h3,fun k' hk'=>?_⟩,h4⟩;have A0:=imap_law.key (ZS2 hk)
 by_cases he:k'=k
 ·subst he
  refine⟨fun j hj=>?_,fun hno=>absurd rfl (hno (k',i) (by simp))⟩
  have:j=i:=by
   rcases Yz.1 hj with hj|hj
   ·exact absurd rfl (hm _ hj)
   ·simpa using hj
  subst this;exact⟨Maps.has_put_same h1.isMap A0 _,fun z=>Maps.atKey_put_same h1.isMap A0 _ z⟩
 ·have A1:Lit.int .i64 k'≠.int .i64 k:=fun e=>he (by injection e)
  rw[Maps.has_put_other A1];refine⟨fun j hj=>?_,fun hno=>(h2 k' hk').2 (fun p hp=>hno p (List.mem_append_left _ hp))⟩
  have A2:(k',j)∈L:=by
   rcases Yz.1 hj with hj|hj
   ·exact hj
   ·simp at hj;exact absurd hj.1 he
  obtain⟨g1,g2⟩:=(h2 k' hk').1 j A2;exact⟨g1,fun z=>by rw[Maps.atKey_put_other A1];exact g2 z⟩
set_option maxRecDepth 100000
theorem fmap_law:Maps.Keyed Tryz.prog 9:=Maps.string_keyed Tryz.underlying9
def litS(s:ByteArray):Lit:=.string s.data.toList
theorem ZO2{s:ByteArray}(h:s.size<=maxLen):keyOf Tryz.prog 9 (.string s)=some (litS s):=WideMaps.keyOf_string_mk Tryz.underlying9 h
theorem ZFc{a b:ByteArray}(h:litS a=litS b):a=b:=by
 unfold litS at h
 injection h with h
 exact ByteArray.ext (Array.toList_inj.1 h)
def noFound:Value:=.agg #[.bool false,.int .i64 0,.bool false,.bool false,.slice none 0 0,.int .i64 0]
theorem Zl5(w:World):(zeroValue 63).run Tryz.prog w=.ok noFound w:=by kernel_rfl
def heldV(v:Value):Option (DataW Value×List MemPlace):=some (.held v,[])
def FMap(w:World)(b n:Nat)(M:ByteArray->Option Value):Prop:=
 ∃D:DataW Value,w.ownsMap Tryz.prog 9 heldV b n D /\
  ∀s,s.size<=maxLen->(∀v,M s=some v->Maps.has D (litS s)=true/\∀z,D.atKey (litS s) z=.held v)/\(M s=none->Maps.has D (litS s)=false)
theorem ZTb(w:World):FMap (w.alloc (.map #[] 0)) w.heap.size 0 (fun _=>none):=
 ⟨.map [],World.ownsMap_made _ _ _ _,fun s _=>⟨fun v h=>(by cases h),fun _=>rfl⟩⟩
theorem FMap.lt{w:World}{b n:Nat}{M:ByteArray->Option Value}(h:FMap w b n M):b<w.heap.size:=by
 obtain⟨D,h1,-⟩:=h;exact h1.lt
theorem FMap.block{w w':World}{b n:Nat}{M:ByteArray->Option Value}(h:FMap w b n M)(hb:w'.heap[b]? = w.heap[b]?):FMap w' b n M:=by
 obtain⟨D,⟨es,clock,h1,h2⟩,h3⟩:=h;exact⟨D,⟨es,clock,hb.trans h1,h2⟩,h3⟩
theorem FMap.below{w w':World}{b n:Nat}{M:ByteArray->Option Value}(h:FMap w b n M)(hb:Below w.heap.size w w'):FMap w' b n M:=h.block (hb.block b h.lt)
theorem FMap.set{w w':World}{b c k n:Nat}{M:ByteArray->Option Value}{v:Value}(h:FMap w b n M)(hne:b≠c)(h1:w.setCell ⟨c,k,none⟩ v=w'):FMap w' b n M:=by
 subst h1;exact h.block (Y9 _ _ _ _ hne)
theorem FMap.hit{w:World}{b n:Nat}{M:ByteArray->Option Value}(h:FMap w b n M){s:ByteArray}{v:Value}(hs:s.size<=maxLen)(hm:M s=some v):(Instr.lookup 65 (.map (some b)) (.string s) true).run Tryz.prog w=.ok (.tuple #[v,.bool true]) w:=by
 obtain⟨D,h1,h2⟩:=h;obtain⟨g1,g2⟩:=(h2 s hs).1 v hm;obtain⟨v',ps,hrun,hv⟩:=h1.look_ok fmap_law Tryz.underlying65 (Zl5 w) (rfl:heldV noFound=some (.held noFound,[])) (ZO2 hs);rw[g2]at hv;unfold heldV at hv;simp only[Option.some.injEq,Prod.mk.injEq,DataW.held.injEq]at hv;rw[hrun,g1,hv.1]
theorem FMap.miss{w:World}{b n:Nat}{M:ByteArray->Option Value}(h:FMap w b n M){s:ByteArray}(hs:s.size<=maxLen)(hm:M s=none):(Instr.lookup 65 (.map (some b)) (.string s) true).run Tryz.prog w=.ok (.tuple #[noFound,.bool false]) w:=by
 obtain⟨D,h1,h2⟩:=h;have g1:=(h2 s hs).2 hm;obtain⟨v',ps,hrun,hv⟩:=h1.look_ok fmap_law Tryz.underlying65 (Zl5 w) (rfl:heldV noFound=some (.held noFound,[])) (ZO2 hs);rw[Maps.atKey_of_not_has g1]at hv;unfold heldV at hv;simp only[Option.some.injEq,Prod.mk.injEq,DataW.held.injEq]at hv;rw[hrun,g1,hv.1]
theorem FMap.store{w:World}{b n:Nat}{M:ByteArray->Option Value}(h:FMap w b n M){s:ByteArray}(v:Value)(hs:s.size<=maxLen)(hn:n<=1000000) :
  ∃w',(Instr.mapUpdate 65 (.map (some b)) (.string s) v).run Tryz.prog w=.ok () w'/\FMap w' b (n+1) (fun t=>if t=s then some v else M t)/\w.grownBy w' (some b):=by
 obtain⟨D,h1,h2⟩:=h;obtain⟨w',hrun,h3,h4⟩:=h1.update fmap_law Tryz.underlying65 (by unfold maxLen;omega) (ZO2 hs) (rfl:heldV v=some (.held v,[]));refine⟨w',hrun,⟨_,h3,fun t ht=>?_⟩,h4⟩;have A0:=fmap_law.key (ZO2 hs)
 show(∀v',(if t=s then some v else M t)=some v'->_)/\((if t=s then some v else M t)=none->_)
 by_cases he:t=s
 ·subst he
  rw[if_pos rfl];exact⟨fun v' hv=>by injection hv with hv;subst hv;exact⟨Maps.has_put_same h1.isMap A0 _,fun z=>Maps.atKey_put_same h1.isMap A0 _ z⟩,fun hv=>by cases hv⟩
 ·have A1:litS t≠litS s:=fun e=>he (ZFc e)
  rw[if_neg he,Maps.has_put_other A1];refine⟨fun v' hv=>?_,(h2 t ht).2⟩;obtain⟨g1,g2⟩:=(h2 t ht).1 v' hv;exact⟨g1,fun z=>by rw[Maps.atKey_put_other A1];exact g2 z⟩
end Go.Proofs.YtdcajkagakikiaaGreatDoor
namespace Go.Proofs
open Go.Shelf
def Tryz.sortTm_ren:Go.Shelf.Ren:=⟨fun|6=>175|15=>82|14=>189|28=>103|29=>104|20=>193|21=>194|22=>195|23=>196|24=>197|25=>198|26=>199|27=>200|46=>201|47=>122|48=>123|49=>202|50=>203|57=>204|n=>n,fun|22=>227|24=>229|25=>233|3=>3|39=>136|0=>0|53=>159|55=>161|4=>4|46=>152|45=>151|50=>127|5=>5|9=>9|66=>178|70=>182|76=>194|77=>195|n=>n,fun|n=>n⟩
theorem Tryz.sortTm:Go.Proofs.SlLaysF0.n6 Tryz.prog Tryz.sortTm_ren:={
 mixed:=by kernel_rfl
 f6:=⟨Tryz.f175.name,by decide,Tryz.func175.trans (congrArg some (by kernel_rfl))⟩
 f14:=⟨Tryz.f189.name,by decide,Tryz.func189.trans (congrArg some (by kernel_rfl))⟩
 f15:=Tryz.func82.trans (congrArg some (by kernel_rfl))
 f20:=⟨Tryz.f193.name,by decide,Tryz.func193.trans (congrArg some (by kernel_rfl))⟩
 f21:=⟨Tryz.f194.name,by decide,Tryz.func194.trans (congrArg some (by kernel_rfl))⟩
 f22:=⟨Tryz.f195.name,by decide,Tryz.func195.trans (congrArg some (by kernel_rfl))⟩
 f23:=⟨Tryz.f196.name,by decide,Tryz.func196.trans (congrArg some (by kernel_rfl))⟩
 f24:=⟨Tryz.f197.name,by decide,Tryz.func197.trans (congrArg some (by kernel_rfl))⟩
 f25:=⟨Tryz.f198.name,by decide,Tryz.func198.trans (congrArg some (by kernel_rfl))⟩
 f26:=⟨Tryz.f199.name,by decide,Tryz.func199.trans (congrArg some (by kernel_rfl))⟩
 f27:=⟨Tryz.f200.name,by decide,Tryz.func200.trans (congrArg some (by kernel_rfl))⟩
 f28:=Tryz.func103.trans (congrArg some (by kernel_rfl))
 f29:=Tryz.func104.trans (congrArg some (by kernel_rfl))
 f46:=⟨Tryz.f201.name,by decide,Tryz.func201.trans (congrArg some (by kernel_rfl))⟩
 f47:=Tryz.func122.trans (congrArg some (by kernel_rfl))
 f48:=Tryz.func123.trans (congrArg some (by kernel_rfl))
 f49:=⟨Tryz.f202.name,by decide,Tryz.func202.trans (congrArg some (by kernel_rfl))⟩
 f50:=⟨Tryz.f203.name,by decide,Tryz.func203.trans (congrArg some (by kernel_rfl))⟩
 f57:=⟨Tryz.f204.name,by decide,Tryz.func204.trans (congrArg some (by kernel_rfl))⟩
 t0:=Tryz.underlying0
 a0:=Tryz.isAgg0
 z0:=Tryz.sizeOf0
 v0:=Tryz.zeroValue0
 t3:=Tryz.underlying3
 a3:=Tryz.isAgg3
 z3:=Tryz.sizeOf3
 v3:=Tryz.zeroValue3
 t4:=Tryz.underlying4
 a4:=Tryz.isAgg4
 z4:=Tryz.sizeOf4
 v4:=Tryz.zeroValue4
 t5:=Tryz.underlying5
 a5:=Tryz.isAgg5
 z5:=Tryz.sizeOf5
 v5:=Tryz.zeroValue5
 t9:=Tryz.underlying9
 a9:=Tryz.isAgg9
 z9:=Tryz.sizeOf9
 v9:=Tryz.zeroValue9
 t22:=Tryz.underlying227
 a22:=Tryz.isAgg227
 z22:=Tryz.sizeOf227
 v22:=Tryz.zeroValue227
 t25:=Tryz.underlying233
 a25:=Tryz.isAgg233
 z25:=Tryz.sizeOf233
 v25:=Tryz.zeroValue233
 t39:=Tryz.underlying136
 a39:=Tryz.isAgg136
 z39:=Tryz.sizeOf136
 v39:=Tryz.zeroValue136
 t45:=Tryz.underlying151
 a45:=Tryz.isAgg151
 z45:=Tryz.sizeOf151
 v45:=Tryz.zeroValue151
 t46:=Tryz.underlying152
 a46:=Tryz.isAgg152
 z46:=Tryz.sizeOf152
 v46:=Tryz.zeroValue152
 t50:=Tryz.underlying127
 a50:=Tryz.isAgg127
 z50:=Tryz.sizeOf127
 v50:=Tryz.zeroValue127
 t53:=Tryz.underlying159
 a53:=Tryz.isAgg159
 z53:=Tryz.sizeOf159
 v53:=Tryz.zeroValue159
 t55:=Tryz.underlying161
 a55:=Tryz.isAgg161
 z55:=Tryz.sizeOf161
 v55:=Tryz.zeroValue161
 t66:=Tryz.underlying178
 a66:=Tryz.isAgg178
 z66:=Tryz.sizeOf178
 v66:=Tryz.zeroValue178
 t70:=Tryz.underlying182
 a70:=Tryz.isAgg182
 z70:=Tryz.sizeOf182
 v70:=Tryz.zeroValue182
 t76:=Tryz.underlying194
 a76:=Tryz.isAgg194
 z76:=Tryz.sizeOf194
 v76:=Tryz.zeroValue194
 t77:=Tryz.underlying195
 a77:=Tryz.isAgg195
 z77:=Tryz.sizeOf195
 v77:=Tryz.zeroValue195 }
def Tryz.lays122_ren:Go.Shelf.Ren:=⟨fun|122=>178|215=>190|n=>n,fun|3=>3|4=>4|n=>n,fun|n=>n⟩
theorem Tryz.lays122:Go.Proofs.Lays.n122 Tryz.prog Tryz.lays122_ren:={
 mixed:=by kernel_rfl
 f122:=Tryz.func178.trans (congrArg some (by kernel_rfl))
 f215:=Tryz.func190.trans (congrArg some (by kernel_rfl))
 t3:=Tryz.underlying3
 a3:=Tryz.isAgg3
 z3:=Tryz.sizeOf3
 v3:=Tryz.zeroValue3
 t4:=Tryz.underlying4
 a4:=Tryz.isAgg4
 z4:=Tryz.sizeOf4
 v4:=Tryz.zeroValue4 }
open Go.RowKit in
theorem Tryz.cmp_Compare_int(x y:Int)(w:World) :
  Calls Tryz.prog 178 #[.int .i64 x,.int .i64 y] w fun e w'=>e=.returned (.int .i64 (Lib.compareInt x y))/\w'=w:=Any.cmp_Compare_int Tryz.lays122 x y w
end Go.Proofs
namespace Go.Proofs.YtdcajkagakikiaaGreatDoor
set_option maxHeartbeats 64000000
set_option linter.unusedSimpArgs false
set_option linter.unusedVariables false
end Go.Proofs.YtdcajkagakikiaaGreatDoor
