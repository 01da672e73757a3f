import Derived.Test.YtdcajkagakikiaaGreatDoorQ08
import Derived.Maps.OwnOps
namespace Go.Proofs.YtdcajkagakikiaaGreatDoor
set_option maxHeartbeats 64000000
set_option linter.unusedSimpArgs false
set_option linter.unusedVariables false
open Go.RowKit
def rowZ(L:Nat)(f:Nat->Int):Array Value:=((List.range L).map fun j=>Value.int .i64 (f j)).toArray
theorem Zy{L:Nat}{f:Nat->Int}{j:Nat}(h:j<L):(rowZ L f)[j]? = some (.int .i64 (f j)):=by unfold rowZ;simp[h]
theorem Zt3{L:Nat}{f:Nat->Int}:(rowZ L f).size=L:=by simp[rowZ]
theorem Zh7{L:Nat}{f:Nat->Int}{k:Nat}{d:Int}:(rowZ L f).setIfInBounds k (.int .i64 d)=rowZ L fun j=>if j=k then d else f j:=by
 apply Array.ext_getElem?
 intro j
 by_cases hj:j<L
 ·rw[Zy hj]
  by_cases hk:k=j
  ·subst hk
   rw[Array.getElem?_setIfInBounds_self_of_lt (by rw[Zt3];exact hj)];simp
  ·rw[Array.getElem?_setIfInBounds_ne hk,Zy hj,if_neg (fun e=>hk e.symm)]
 ·rw[Array.getElem?_eq_none (by rw[Array.size_setIfInBounds,Zt3];omega),Array.getElem?_eq_none (by rw[Zt3];omega)]
theorem Zia(n:Nat):madeCells #[.int .i64 0] n=rowZ n fun _=>0:=by
 apply Array.toList_inj.1
 rw[toList_madeCells_one];unfold rowZ;simp[List.map_const']
theorem Z96:(Tryz.prog.info? 3).map (fun i=>(i.zero,i.size,i.bytes))=some (some (.int .i64 0),1,8):=by kernel_rfl
theorem ZE2(n:Nat)(hn:n<=1000000)(w:World) :
  (Instr.makeSlice 26 (.int .i64 (n:Int)) (.int .i64 (n:Int))).run Tryz.prog w=.ok (.slice (some ⟨w.heap.size,0,none⟩) n n) (w.alloc (.cells (rowZ n fun _=>0) 3)):=by
 rw[<-Zia];exact run_make_row' 26 3 (.int .i64 0) 8 Tryz.underlying26 Z96 rfl .i64 .i64 n (by omega) (by omega) w
def RowZP(w:World)(n:Nat)(A:Nat->Int)(e:Ending)(w':World):Prop:=∃b,e=.returned (.slice (some ⟨b,0,none⟩) n n)/\BlockAt w' b (rowZ n A) 3/\w.heap.size<=b/\Below w.heap.size w w'
def RowBP(w:World)(n:Nat)(A:Nat->Bool)(e:Ending)(w':World):Prop:=∃b,e=.returned (.slice (some ⟨b,0,none⟩) n n)/\BlockAt w' b (rowB n A) 4/\w.heap.size<=b/\Below w.heap.size w w'
theorem ZC3{f:Nat->Ty}{m:Nat}:∀{c},c<=m->askD f c m=0
 | 0,_=>rfl
 | c+1,h=>by
  show(if m=c then _ else _)=_
  rw[if_neg (by omega)];exact ZC3 (by omega)
theorem ZZ1(A:Nat->Int)(k:Nat)(v:Int)(h:A k=v):updI A k v=A:=by
 funext m
 unfold updI
 split
 ·rename_i e;rw[e,h]
 ·rfl
theorem Zg1{L:Nat}{A:Nat->Int}{k:Nat}{x v:Int}:(rowZ L (updI A k x)).setIfInBounds k (.int .i64 v)=rowZ L (updI A k v):=by
 rw[Zh7]
 congr 1
 funext m
 unfold updI
 split<;>rfl
theorem Z50(A:Nat->Int)(k:Nat)(v:Int):updI A k v k=v:=by unfold updI;rw[if_pos rfl]
theorem ZT{A:Nat->Int}{k m:Nat}{v:Int}(h:m≠k):updI A k v m=A m:=by unfold updI;rw[if_neg h]
theorem Z20{l:List Ty}(h:rightT l=true):ParamOk (funT l):=by
 intro j h9;unfold funT at *
 by_cases hj:j<l.length
 ·rw[Z3 hj]at h9 ⊢
  by_cases h22:j<22
  ·rw[Zl h hj h22]at h9
   unfold bas at h9
   split at h9<;>simp at h9
  ·have hm:=(Zq h hj h22).1
   unfold madeB at hm;rw[Yd]at hm;have hm:=hm.2;rw[h9]at hm;simp at hm
   omega
 ·rw[List.getD_eq_getElem?_getD,List.getElem?_eq_none (by omega)]at h9
  simp[noT]at h9
theorem Zs7{w w':World}{b n:Nat}{A:Nat->Int}(h:BlockAt w' b (rowZ n A) 3)(h2:w.heap.size<=b)(hb:Below w.heap.size w w'):RowZP w n A (.returned (.slice (some ⟨b,0,none⟩) n n)) w':=⟨b,rfl,h,h2,hb⟩
theorem ZNb{w w':World}{b n:Nat}{A:Nat->Bool}(h:BlockAt w' b (rowB n A) 4)(h2:w.heap.size<=b)(hb:Below w.heap.size w w'):RowBP w n A (.returned (.slice (some ⟨b,0,none⟩) n n)) w':=⟨b,rfl,h,h2,hb⟩
set_option maxRecDepth 100000 in
theorem Zva(l:List Ty)(ao:Option Addr)(ac i:Nat)(w:World)(hl:ARow w ao l)(hr:rightT l=true)(hac:l.length<=ac)(hi:i<l.length) :
  Calls Tryz.prog 154 #[.slice ao l.length ac,.int .i64 i] w (RowZP w (i+1) (askD (funT l) (i+1))):=by
 have A2:=(right_step hr).1;have A1:=Yh (Z20 hr);obtain⟨f,hf⟩:∃f:Nat->Ty,funT l=f:=⟨_,rfl⟩
 rw[hf]at A1 ⊢;have HF:=@Yh (∀j (hj:j<l.length),f j=l[j]) (fun j hj=>by rw[<-hf];exact Z3 hj);have HK:=@Yh (∀j (hj:j<l.length),∀k∈(f j).kids,0<=k/\k<(j:Int)) (fun j hj=>by rw[HF.o j hj];exact Zn hr hj);obtain⟨n,hn⟩:=Yn (l.length);have HN:=Yh hn;have HA:=Yh hl;rw[hn]at A2 hac hi ⊢;have As:i+1<=n:=hi;obtain⟨nb,hnb⟩:=Yn (w.heap.size);have A3:=@Yh (w.heap.size<=nb) (by omega);have Ab:=ZE2 (i+1) (by omega) w;obtain⟨w2,h2⟩:=Yn (w.alloc (.cells (rowZ (i+1) fun _=>0) 3));obtain⟨k2,q2,z2⟩:=Za h2;rw[h2,hnb,show((i+1:Nat):Int)=(i:Int)+1 by omega]at Ab;rw[hnb]at k2;have B2:=Yh q2;have K2:=@Yh (BlockAt w2 nb (rowZ (i+1) (askD f 0)) 3) (k2);clear hl hr hf hn h2 k2 q2 z2 hnb;go_enter Tryz.func154,Tryz.ntmps154;go_wp2_with fail;clear Ab;go_loopw [18] (fun v wr=>∃k:Nat,k<=i+1/\v=.int .i64 k/\Hi (BlockAt wr nb (rowZ (i+1) (askD f k)) 3)/\Hi (Below w.heap.size w wr)) (fun v _=>i+1-(intOf v).toNat)
 case atStart=>exact⟨0,Yl _,rfl,K2,B2⟩
 case round =>
  obtain⟨k,hk,rfl,KB,HB⟩:=hrel
  by_cases hkl:k<i+1
  ·have A4:k<l.length:=by rw[HN.o];omega
   have At:(k:Int)<(i:Int)+1:=by omega
   obtain⟨ab,aof,rfl,hab,hcl⟩:=HA.o.cells (by omega);have A5:=hcl k A4;rw[<-HF.o k A4]at A5;have Ac:=Yh (HK.o k A4);have Ad:=Yh (A1.o k);have A6:=Yh (fun ks=>ZS5 A1.o k k ks);have Ae:=Yh (fun m=>Zw0 A1.o k m);have A7:=@Yh (askD f (k+1)=updI (askD f k) k (askF (askD f k) (ask0 (f k)) (f k).kids)) (rfl);obtain⟨x,hx⟩:=Yn (f k);rw[hx]at A5 Ac Ad A6 A7;have HX:=Yh hx;obtain⟨xw,xwc,xk,xkc,a0',a1',a2',a3',a4',hwc,hkc,hxc⟩:=A5;have a0:=(HB.o.cell hab).trans a0';have a1:=(HB.o.cell hab).trans a1';have a2:=(HB.o.cell hab).trans a2';have a3:=(HB.o.cell hab).trans a3';have a4:=(HB.o.cell hab).trans a4';obtain⟨A,hA⟩:=Yn (askD f k);have HZ:=@Yh (A k=0) (by rw[<-hA];exact ZC3 (Yk _));rw[hA]at KB A6 A7 Ae;clear hx hcl hab hA a0' a1' a2' a3' a4';obtain⟨wn,hwn,kx,qx,zx⟩:=YA wr #[.int .i64 x.kind,.string x.name,.int .i64 x.n,.slice xw x.words.length xwc,.slice xk x.kids.length xkc] 50;obtain⟨c0,c1,c2,c3,c4⟩:=cell5 kx;have BN:=YT HB qx;have KN:=Yh (KB.o.below qx);have Af:=Yh hxc.kids;have Ag:=hxc.ok.kl;have KX:=Yh kx;have Ah:=@Yh (nb≠wr.heap.size) (by have:=KB.o.lt;omega);clear kx qx zx hwc hkc hxc;obtain⟨m,hm⟩:=Yn (x.kids.length);have HM:=Yh hm;rw[hm]at Ag hwn c4 KX a4;clear hm
   by_cases h9:x.kind=9
   focus
    have hq:(x.kind==9)=true:=by rw[YK];exact h9
    obtain⟨g1,g2⟩:=Ad.o h9;have A8:=@Yh (ask0 x=x.n+1) (by unfold ask0;rw[if_pos h9]);have ck:=KN.o.cell k;rw[Zy hkl]at ck;have fk:=KN.o.free k;obtain⟨w4,h4⟩:=Yn (wn.setCell ⟨nb,k,none⟩ (.int .i64 (x.n+1)))
    have K4:=Yh (show BlockAt w4 nb (rowZ (i+1) (updI A k (askF A (ask0 x) (x.kids.take 0)))) 3 from by
     rw[<-h4,A8.o,List.take_zero];have:=KN.o.set k (.int .i64 (x.n+1));rw[<-ZZ1 A k 0 HZ.o,Zg1]at this;exact this)
    have B4:=@Yh (Below w.heap.size w w4) (by rw[<-h4];exact ZJ BN.o A3.o);have Ai:=@Yh (BlockAt w4 wr.heap.size #[.int .i64 x.kind,.string x.name,.int .i64 x.n,.slice xw x.words.length xwc,.slice xk m xkc] 50) (by rw[<-h4];exact KX.o.other (fun e=>Ah.o e.symm) k _);obtain⟨e0,e1,e2,e3,e4⟩:=cell5 Ai.o;clear h9;go_wp2_with fail;clear e0 e1 e2 e3 e4 hwn a0 a1 a2 a3 a4 ck fk c0 c1 c2 c3 c4 h4
   rotate_left
   focus
    have hq:(x.kind==9)=false:=by rw[Yc];exact h9
    have A8:=@Yh (ask0 x=0) (by unfold ask0;rw[if_neg h9])
    have K4:=Yh (show BlockAt wn nb (rowZ (i+1) (updI A k (askF A (ask0 x) (x.kids.take 0)))) 3 from by
     rw[A8.o,List.take_zero]
     show BlockAt wn nb (rowZ (i+1) (updI A k 0)) 3
     rw[ZZ1 A k 0 HZ.o];exact KN.o)
    have B4:=BN;clear h9;go_wp2_with fail;clear c0 c1 c2 c3 c4 hwn a0 a1 a2 a3 a4
   all_goals
    go_loopw [35] (fun v wq=>∃q:Nat,q<=m/\v=.int .i64 q/\Hi (BlockAt wq nb (rowZ (i+1) (updI A k (askF A (ask0 x) (x.kids.take q)))) 3)/\Hi (Below w.heap.size w wq)) (fun v _=>m-(intOf v).toNat)
    case atStart=>exact⟨0,Yl _,rfl,K4,B4⟩
    case round =>
     obtain⟨q,hq,rfl,KQ,HQ⟩:=hrel
     by_cases hql:q<m
     ·have A9:q<x.kids.length:=by rw[HM.o];exact hql
      obtain⟨kb,kof,rfl,hkb,hkcell⟩:=Af.o.cells (by omega);have ck:=hkcell q A9;obtain⟨g1,g2⟩:=Ac.o _ (Zd A9);obtain⟨z,hz⟩:∃z:Nat,x.kids.getD q 0=(z:Int):=⟨(x.kids.getD q 0).toNat,by omega⟩
      have A0:=Z11 (A:=A) (n:=ask0 x) A9;rw[hz]at ck g2 A0;rw[Yw]at A0;have Au:z<k:=by omega
      have Aj:z<i+1:=by omega
      have Av:(z:Int)<(i:Int)+1:=by omega
      have Ak:¬k=z:=by omega
      have Al:wr.cell? ⟨kb,kof+q,none⟩=some (.int .i64 (z:Int)):=by rw[HQ.o.cell (p:=⟨kb,kof+q,none⟩) hkb];exact ck
      obtain⟨x1,hx1⟩:=A6.o (x.kids.take q);obtain⟨y1,hy1⟩:=Ae.o z;have cx:=KQ.o.cell k;have cz:=KQ.o.cell z;rw[Zy hkl,Z50]at cx;rw[Zy Aj,ZT (by omega)]at cz;have Am:=KQ.o.free k;obtain⟨x0,hx0⟩:=Yn (askF A (ask0 x) (x.kids.take q));obtain⟨y0,hy0⟩:=Yn (A z);obtain⟨z0,hz0⟩:=Yn (max x0 y0);rw[hx0]at cx x1 hx1 A0;rw[hy0]at cz y1 hy1 A0;rw[hz0]at A0;have An:=Yh A0;have Aa:∀(ts:Array TypeId) (t:TypeId) (W:World),(Builtin.max_ ts t #[.int .i64 x0,.int .i64 y0]).run Tryz.prog W=.ok (.int .i64 z0) W:=fun ts t W=>by rw[run_max_int2,show(if y0>x0 then y0 else x0)=z0 by rw[<-hz0];split<;>omega]
      have Ao:=Yh (show BlockAt (wr.setCell ⟨nb,k,none⟩ (.int .i64 z0)).drew nb (rowZ (i+1) (updI A k (askF A (ask0 x) (x.kids.take (q+1))))) 3 from by
       rw[An.o,<-Zg1 (x:=askF A (ask0 x) (x.kids.take q))];exact KQ.o.set k _)
      have Ap:=@Yh (Below w.heap.size w (wr.setCell ⟨nb,k,none⟩ (.int .i64 z0)).drew) ((ZJ HQ.o A3.o).drew);clear A0 hz hx0 hy0 hz0 ck hkcell hkb g1;go_upto_region 10 with fail;refine GoG.start [(12,⟨nb,k,none⟩,.int .i64 x0),(13,⟨nb,z,none⟩,.int .i64 y0)] (by kernel_rfl) ?_ ?_
      ·exact Kc (by first|assumption|simp[*]) (Kc (by first|assumption|simp[*]) (Kn))
      refine GoG.fr 0 ?_;refine GoG.fr 1 ?_;refine GoG.fr 2 ?_;refine GoG.fr 3 ?_;refine GoG.fr 4 ?_;refine GoG.s1 5 0 [10,12] ?_;refine GoG.fr 6 ?_;refine GoG.fr 7 ?_;refine GoG.fr 8 ?_;refine GoG.s1 9 1 [10,12,13] ?_;refine GoG.fr 10 ?_;refine GoG.fr 11 ?_;refine GoG.on 12 fun K hK=>?_
      go_simp;refine hK.out _ _ (Ku (Kc (by go_simp) (Kn))) ?_;clear hK K;refine GoG.done (by kernel_rfl) ?_ _;clear cx cz Am Al Aa;go_wp2_with fail;go_roundw
      case rel=>exact⟨q+1,by omega,by go_num,Ao,Ap⟩
      case measure=>first|(simp[intOf];done)|(simp[intOf];omega)
     ·have Aq:=@Yh (x.kids.take q=x.kids) (Y3 (by rw[HM.o];omega))
      have Ar:=Yh (show BlockAt wr nb (rowZ (i+1) (askD f (k+1))) 3 from by
       rw[A7.o,<-Aq.o];exact KQ.o)
      go_wp2_with fail;go_roundw
      case rel=>exact⟨k+1,by omega,by go_num,Ar,HQ⟩
      case measure=>first|(simp[intOf];done)|(simp[intOf];omega)
  ·obtain rfl:k=i+1:=by omega
   go_wp2_with fail;go_ret;exact Zs7 KB.o A3.o HB.o
set_option maxRecDepth 100000 in
theorem Zxa(l:List Ty)(ao:Option Addr)(ac i:Nat)(w:World)(hl:ARow w ao l)(hr:rightT l=true)(hac:l.length<=ac)(hi:i<l.length) :
  Calls Tryz.prog 155 #[.slice ao l.length ac,.int .i64 i] w (RowBP w (i+1) (needD (funT l) i (i+1))):=by
 have A3:=(right_step hr).1;obtain⟨f,hf⟩:∃f:Nat->Ty,funT l=f:=⟨_,rfl⟩
 rw[hf];have HF:=@Yh (∀j (hj:j<l.length),f j=l[j]) (fun j hj=>by rw[<-hf];exact Z3 hj);have HK:=@Yh (∀j (hj:j<l.length),∀k∈(f j).kids,0<=k/\k<(j:Int)) (fun j hj=>by rw[HF.o j hj];exact Zn hr hj);obtain⟨n,hn⟩:=Yn (l.length);have HN:=Yh hn;have HA:=Yh hl;rw[hn]at A3 hac hi ⊢;obtain⟨nb,hnb⟩:=Yn (w.heap.size);have A2:=@Yh (w.heap.size<=nb) (by omega);have A9:=ZQ8 (i+1) (by omega) w;obtain⟨w2,h2⟩:=Yn (w.alloc (.cells (rowB (i+1) fun _=>false) 4));obtain⟨k2,q2,z2⟩:=Za h2;rw[h2,hnb,show((i+1:Nat):Int)=(i:Int)+1 by omega]at A9;rw[hnb]at k2;have B2:=Yh q2;obtain⟨w3,h3⟩:=Yn (w2.setCell ⟨nb,i,none⟩ (.bool true));have K3:=@Yh (BlockAt w3 nb (rowB (i+1) (needD f i 0)) 4) (by rw[<-h3,<-Z1a f];exact k2.set i _);have B3:=@Yh (Below w.heap.size w w3) (by rw[<-h3];exact ZJ B2.o A2.o);have ci:=k2.cell i;rw[Zk1 (by omega)]at ci;have fi:=k2.free i;clear hl hr hf hn h2 k2 q2 z2 hnb;go_enter Tryz.func155,Tryz.ntmps155;go_wp2_with fail;clear A9 ci fi h3;go_loopw [6] (fun v wr=>∃c j:Nat,c+j=i+1/\v=.int .i64 ((j:Int)-1)/\Hi (BlockAt wr nb (rowB (i+1) (needD f i c)) 4)/\Hi (Below w.heap.size w wr)) (fun v _=>(intOf v+1).toNat)
 case atStart=>exact⟨0,i+1,by omega,by(rw[show((i+1:Nat):Int)-1=(i:Int)by omega]),K3,B3⟩
 case round =>
  obtain⟨c,j,hcj,rfl,KB,HB⟩:=hrel
  by_cases hj0:j=0
  ·have Ab:(j:Int)-1<0:=by omega
   obtain rfl:c=i+1:=by omega
   clear hj0;go_wp2_with fail;go_ret;exact ZNb KB.o A2.o HB.o
  ·obtain⟨p,rfl⟩:∃p,j=p+1:=⟨j-1,by omega⟩
   have Af:p<=i:=by omega
   have HP:=@Yh (i-c=p) (by omega);have A4:p<l.length:=by rw[HN.o];omega
   obtain⟨ab,aof,rfl,hab,hcl⟩:=HA.o.cells (by omega);have A5:=hcl p A4;rw[<-HF.o p A4]at A5;have Aa:=Yh (HK.o p A4);obtain⟨x,hx⟩:=Yn (f p);rw[hx]at A5 Aa;have HX:=Yh hx;obtain⟨xw,xwc,xk,xkc,a0,a1,a2,a3,a4,hwc,hkc,hxc⟩:=A5;have Ac:=Yh hxc;have a4:wr.cell? ⟨ab,aof+p*5+4,none⟩=some (.slice xk x.kids.length xkc):=by rw[HB.o.cell (p:=⟨ab,aof+p*5+4,none⟩) hab];exact a4
   obtain⟨m,hm⟩:=Yn (x.kids.length);have HM:=Yh hm;have Ad:=hxc.ok.kl;rw[hm]at a4 Ad;have A0:((p+1:Nat):Int)-1=(p:Int):=by omega
   rw[A0];have A1:(p:Int)-1=(p:Int)+1-1-1:=by omega
   obtain⟨wo2,hwo2⟩:∃wo2,wo2=wr:=⟨_,rfl⟩
   subst hwo2;clear hx hcl hab hwc hkc hxc hm A1 A0 a0 a1 a2 a3;go_wp2_with fail;clear a4;go_loopw [26] (fun v wr=>∃q:Nat,q<=m/\v=.int .i64 q/\Hi (BlockAt wr nb (rowB (i+1) (kmark (needD f i c) p (x.kids.take q))) 4)/\Hi (Below w.heap.size w wr)) (fun v _=>m-(intOf v).toNat)
   case atStart=>exact⟨0,Yl _,rfl,by(rw[List.take_zero,ZQ6];exact KB),HB⟩
   case round =>
    obtain⟨q,hq,rfl,KQ,HQ⟩:=hrel
    by_cases hql:q<m
    ·have A6:q<x.kids.length:=by rw[HM.o];exact hql
     obtain⟨kb,kof,rfl,hkb,hkcell⟩:=Ac.o.kids.cells (by omega);have ck:=hkcell q A6;obtain⟨g1,g2⟩:=Aa.o _ (Zd A6);obtain⟨z,hz⟩:∃z:Nat,x.kids.getD q 0=(z:Int):=⟨(x.kids.getD q 0).toNat,by omega⟩
     rw[hz]at ck g2;have Ag:z<p:=by omega
     have A7:=Yh (Zq5 (nd:=needD f i c) (j:=p) A6 hz (by omega));obtain⟨nd,hnd⟩:=Yn (kmark (needD f i c) p (x.kids.take q));rw[hnd]at KQ A7;have cz:=KQ.o.cell z;have cp:=KQ.o.cell p;rw[Zk1 (by omega)]at cz cp;have fz:=KQ.o.free z;have Ah:wr.cell? ⟨kb,kof+q,none⟩=some (.int .i64 (z:Int)):=by rw[HQ.o.cell (p:=⟨kb,kof+q,none⟩) hkb];exact ck
     clear hnd hz ck hkcell hkb g1
     cases hnz:nd z
     ·rw[hnz]at cz
      have HZ:=Yh hnz;clear hnz;obtain⟨bp,hbp⟩:=Yn (nd p);rw[hbp]at cp;obtain⟨w7,h7⟩:=Yn (wr.setCell ⟨nb,z,none⟩ (.bool bp))
      have A8:=Yh (show BlockAt w7 nb (rowB (i+1) (kmark (needD f i c) p (x.kids.take (q+1)))) 4 from by
       rw[<-A7.o,HZ.o,hbp,Bool.false_or,<-Zw2,<-h7];exact KQ.o.set z _)
      have B7:=@Yh (Below w.heap.size w w7) (by rw[<-h7];exact ZJ HQ.o A2.o);clear hbp;go_wp2_with fail;go_roundw
      case rel=>exact⟨q+1,by omega,by go_num,A8,B7⟩
      case measure=>first|(simp[intOf];done)|(simp[intOf];omega)
     ·rw[hnz]at cz
      have HZ:=Yh hnz;clear hnz;obtain⟨w7,h7⟩:=Yn (wr.setCell ⟨nb,z,none⟩ (.bool true))
      have A8:=Yh (show BlockAt w7 nb (rowB (i+1) (kmark (needD f i c) p (x.kids.take (q+1)))) 4 from by
       rw[<-A7.o,HZ.o,Bool.true_or,<-Zw2,<-h7];exact KQ.o.set z _)
      have B7:=@Yh (Below w.heap.size w w7) (by rw[<-h7];exact ZJ HQ.o A2.o);go_wp2_with fail;go_roundw
      case rel=>exact⟨q+1,by omega,by go_num,A8,B7⟩
      case measure=>first|(simp[intOf];done)|(simp[intOf];omega)
    ·have Ae:=@Yh (x.kids.take q=x.kids) (Y3 (by rw[HM.o];omega))
     rw[Ae.o]at KQ
     have KN:=Yh (show BlockAt wr nb (rowB (i+1) (needD f i (c+1))) 4 from by
      show BlockAt wr nb (rowB (i+1) (kmark (needD f i c) (i-c) (f (i-c)).kids)) 4
      rw[HP.o,HX.o];exact KQ.o)
     go_wp2_with fail;go_roundw
     case rel=>exact⟨c+1,p,by omega,by first|rfl|go_num,KN,HQ⟩
     case measure=>first|(simp[intOf];done)|(simp[intOf];omega)
def thereT(l:List Ty)(i:Int):Int:=if rightT l=false then 1 else if i<0\/(l.length:Int)<=i then 8 else 0
theorem ZG8{l:List Ty}{i:Int}(h:rightT l=false):thereT l i=1:=by unfold thereT;rw[if_pos h]
theorem ZJ4{l:List Ty}{i:Int}(h:rightT l=true)(h2:i<0\/(l.length:Int)<=i):thereT l i=8:=by unfold thereT;rw[if_neg (by rw[h];decide),if_pos h2]
theorem Zj8{l:List Ty}{i:Int}(h:rightT l=true)(h2:0<=i)(h3:i<(l.length:Int)):thereT l i=0:=by unfold thereT;rw[if_neg (by rw[h];decide),if_neg (by omega)]
theorem ZM4{l:List Ty}{i:Int}(h:thereT l i=0):rightT l=true/\0<=i/\i<(l.length:Int):=by
 unfold thereT at h
 split at h
 ·cases h
 ·rename_i h1
  split at h
  ·cases h
  ·exact⟨by cases hr:rightT l;exact absurd hr h1;rfl,by omega,by omega⟩
theorem Zw6(l:List Ty)(ao:Option Addr)(ac:Nat)(i:Int)(w:World)(hl:ARow w ao l)(ll:l.length<=1000)(hac:l.length<=ac)(hE:Env w) :
  Calls Tryz.prog 153 #[.slice ao l.length ac,.int .i64 i] w fun e w'=>e=.returned (.int .i64 (thereT l i))/\Below w.heap.size w w':=by
 have HR:=Yh (Ze5 l ao ac w hl ll hac hE)
 cases hr:rightT l
 ·rw[ZG8 hr]
  rw[hr]at HR;obtain⟨n,hn⟩:=Yn (l.length);rw[hn]at HR ⊢;clear hr hn hl hE ll hac;go_enter Tryz.func153,Tryz.ntmps153;go_wp2_with fail;refine HR.o.mono ?_;rintro e w' ⟨rfl,b⟩;have B:=Yh b;clear b;go_wp2_with fail;go_ret;exact⟨rfl,B.o⟩
 ·rw[hr]at HR
  by_cases h0:i<0
  ·rw[ZJ4 hr (.inl h0)]
   obtain⟨n,hn⟩:=Yn (l.length);rw[hn]at HR ⊢;clear hr hn hl hE ll hac;have hd:decide (i<0)=true:=Yb h0;go_enter Tryz.func153,Tryz.ntmps153;go_wp2_with fail;refine HR.o.mono ?_;rintro e w' ⟨rfl,b⟩;have B:=Yh b;clear b;go_wp2_with fail;go_ret;exact⟨rfl,B.o⟩
  ·by_cases h1:(l.length:Int)<=i
   ·rw[ZJ4 hr (.inr h1)]
    obtain⟨n,hn⟩:=Yn (l.length);rw[hn]at HR h1 ⊢;clear hr hn hl hE ll hac;have hd:decide (i<0)=false:=Ya h0;have A0:decide ((n:Int)<=i)=true:=Yb h1;go_enter Tryz.func153,Tryz.ntmps153;go_wp2_with fail;refine HR.o.mono ?_;rintro e w' ⟨rfl,b⟩;have B:=Yh b;clear b;go_wp2_with fail;go_ret;exact⟨rfl,B.o⟩
   ·rw[Zj8 hr (by omega) (by omega)]
    obtain⟨n,hn⟩:=Yn (l.length);rw[hn]at HR h1 ⊢;clear hr hn hl hE ll hac;have hd:decide (i<0)=false:=Ya h0;have A0:decide ((n:Int)<=i)=false:=Ya h1;go_enter Tryz.func153,Tryz.ntmps153;go_wp2_with fail;refine HR.o.mono ?_;rintro e w' ⟨rfl,b⟩;have B:=Yh b;clear b;go_wp2_with fail;go_ret;exact⟨rfl,B.o⟩
def paramsT(l:List Ty)(i:Int):Int×Int:=if thereT l i=0 then(askD (funT l) (i.toNat+1) i.toNat,0)else(0,thereT l i)
theorem law_int:Maps.Keyed Tryz.prog 3:=Maps.int_keyed Tryz.underlying3
def IMap(w:World)(b c:Nat)(P:Nat->Bool)(I:Nat->Int):Prop:=
 ∃(n:Nat) (D:DataW Unit),n<=c/\w.ownsMap Tryz.prog 3 (plainElem Tryz.prog 3) b n D/\∀m,m<c->P m=true->∀z:DataW Unit,D.atKey (.int .i64 (m:Int)) z=.lit (.int .i64 (I m))
theorem ZTc(w:World)(P:Nat->Bool)(I:Nat->Int):IMap (w.alloc (.map #[] 0)) w.heap.size 0 P I:=
 ⟨0,.map [],Yk _,World.ownsMap_made _ _ _ _,fun m hm=>absurd hm (Yr _)⟩
theorem IMap.lt{w:World}{b c:Nat}{P:Nat->Bool}{I:Nat->Int}(h:IMap w b c P I):b<w.heap.size:=by
 obtain⟨_,D,_,h1,-⟩:=h;exact h1.lt
theorem IMap.below{w w':World}{b c:Nat}{P:Nat->Bool}{I:Nat->Int}(h:IMap w b c P I)(hb:Below w.heap.size w w'):IMap w' b c P I:=by
 have A0:=h.lt;obtain⟨n,D,hn,⟨es,clock,h1,h2⟩,h3⟩:=h;exact⟨n,D,hn,⟨es,clock,(hb.block b A0).trans h1,h2⟩,h3⟩
theorem ZU5{m:Nat}(hm:m<=100000):keyOf Tryz.prog 3 (.int .i64 (m:Int))=some (.int .i64 (m:Int)):=Maps.keyOf_int_mk Tryz.underlying3 (ZU0 (by omega))
theorem IMap.look{w:World}{b c:Nat}{P:Nat->Bool}{I:Nat->Int}(h:IMap w b c P I){m:Nat}(hm:m<c)(hp:P m=true)(hc:c<=100000):(Instr.lookup 95 (.map (some b)) (.int .i64 (m:Int)) false).run Tryz.prog w=.ok (.int .i64 (I m)) w:=by
 obtain⟨n,D,hn,h1,h2⟩:=h;obtain⟨x,hrun,hat,-⟩:=h1.lookup_int law_int Tryz.underlying95 Tryz.underlying3 (ZR1 w) (ZU5 (m:=m) (by omega));rw[h2 m hm hp]at hat;simp only[DataW.lit.injEq,Lit.int.injEq,true_and]at hat;rw[hrun,<-hat]
theorem IMap.store{w:World}{b c:Nat}{P:Nat->Bool}{I:Nat->Int}(h:IMap w b c P I)(hc:c<=100000){v:Int}(hv:-9223372036854775808<=v/\v<=9223372036854775807) :
  ∃w',(Instr.mapUpdate 95 (.map (some b)) (.int .i64 (c:Int)) (.int .i64 v)).run Tryz.prog w=.ok () w'/\IMap w' b (c+1) P (updI I c v)/\w.grownBy w' (some b):=by
 obtain⟨n,D,hn,h1,h2⟩:=h;obtain⟨w',hrun,h3,h4⟩:=h1.update law_int Tryz.underlying95 (by unfold maxLen;omega) (ZU5 hc) (plainElem_int (H:=Unit) Tryz.underlying3 (a:=v) (ZU0 hv));refine⟨w',hrun,⟨n+1,_,by omega,h3,fun m hm hp z=>?_⟩,h4⟩;have A0:=law_int.key (ZU5 (m:=c) hc)
 by_cases e:m=c
 ·subst e
  rw[Maps.atKey_put_same h1.isMap A0 _ z,Z50]
 ·rw[Maps.atKey_put_other (by intro g;injection g with _ g;omega),ZT e]
  exact h2 m (by omega) hp z
theorem IMap.skip{w:World}{b c:Nat}{P:Nat->Bool}{I:Nat->Int}(h:IMap w b c P I)(hp:P c=false)(v:Int):IMap w b (c+1) P (updI I c v):=by
 obtain⟨n,D,hn,h1,h2⟩:=h;refine⟨n,D,by omega,h1,fun m hm hpm z=>?_⟩;have:m≠c:=fun e=>by rw[e,hp]at hpm;cases hpm
 rw[ZT this];exact h2 m (by omega) hpm z
def kidG(ks:List Int)(I:Nat->Int)(q:Nat):Nat->Int:=fun j=>if j<q then I (ks.getD j 0).toNat else 0
theorem ZSa(ks:List Int)(I:Nat->Int):kidG ks I 0=fun _=>0:=by funext j;simp[kidG]
theorem ZBa{L:Nat}{ks:List Int}{I:Nat->Int}{q:Nat}{v:Int}(hv:I (ks.getD q 0).toNat=v):(rowZ L (kidG ks I q)).setIfInBounds q (.int .i64 v)=rowZ L (kidG ks I (q+1)):=by
 rw[Zh7]
 congr 1
 funext j
 unfold kidG
 by_cases h:j=q
 ·subst h;rw[if_pos rfl,if_pos (by omega),hv]
 ·rw[if_neg h]
  by_cases h2:j<q
  ·rw[if_pos h2,if_pos (by omega)]
  ·rw[if_neg h2,if_neg (by omega)]
theorem Zbc{w:World}{b m:Nat}{ks:List Int}{I:Nat->Int}(hm:ks.length=m)(h:BlockAt w b (rowZ m (kidG ks I m)) 3):IRow w (some ⟨b,0,none⟩) (ks.map fun k=>I k.toNat):=by
 refine .inr ⟨b,0,rfl,h.lt,fun i hi=>?_⟩;rw[Yg]at hi;rw[Nat.zero_add,h.cell i,Zy (by omega),Z3 (by rw[Yg];exact hi),List.getElem_map];unfold kidG;rw[if_pos (by omega),Z3 hi]
theorem Zz8{l:List Ty}(h:rightT l=true){j:Nat}(hj:j<l.length):TySm l[j]:=by
 by_cases h22:j<22
 ·rw[Zl h hj h22]
  intro s hs;unfold bas at hs
  split at hs<;>cases hs
 ·exact ZY4 (Zq h hj h22).1
theorem ZX8{t:Ty}{I:Nat->Int}(h:TyOk t)(hk:∀k∈t.kids,-9223372036854775808<=I k.toNat/\I k.toNat<=9223372036854775807):TyOk (swapT t I):=
 ⟨h.nl,h.wl,by show(List.map _ _).length<=18;rw[Yg];exact h.kl,h.ws,h.nums,fun k hk2=>by
  obtain⟨k0,h0,rfl⟩:=Y4.1 hk2;exact hk k0 h0⟩
theorem ZV6:∀S:List Tm,(lasts S).length<=S.length
 | []=>Yk _
 | [x]=>Yk _
 | x::y::r=>by
  have ih:=ZV6 (y::r);unfold lasts
  split
  ·rw[List.length_cons];omega
  ·rw[List.length_cons,List.length_cons];omega
theorem ZH7{t:Ty}{L:Nat}(hk:∀k∈t.kids,0<=k/\k<(L:Int)):(tidyT L t).words.length<=t.words.length/\(tidyT L t).kids.length<=t.words.length:=by
 have e:termP L (t.words.zip t.kids)=(lasts ((marksB (t.words.zip t.kids)).mergeSort fun x y=>!ltT y x)).map decP:=by rw[Z40,ZY3 (Zs2 hk)]
 have h1:(plainP t++termP L (t.words.zip t.kids)).length<=t.words.length:=by
  rw[Ye,e,Yg];have h2:=ZV6 ((marksB (t.words.zip t.kids)).mergeSort fun x y=>!ltT y x);rw[List.length_mergeSort]at h2
  have h3:(plainP t).length+(marksB (t.words.zip t.kids)).length=(t.words.zip t.kids).length:=by
   unfold plainP marksB;rw[Yg]
   have:∀l:List (ByteArray×Int),(l.filter fun p=>!markB p.1).length+(l.filter fun p=>markB p.1).length=l.length:=fun l=>by
    induction l with
    | nil=>rfl
    | cons p r ih =>
     rw[List.filter_cons,List.filter_cons]
     cases markB p.1<;>simp<;>omega
   exact this _
  rw[List.length_zip]at h3
  omega
 unfold tidyT;exact⟨by show(List.map _ _).length<=_;rw[Yg];exact h1,by show(List.map _ _).length<=_;rw[Yg];exact h1⟩
theorem Z26{t:Ty}{L:Nat}{s:ByteArray}(h:s∈(tidyT L t).words):s∈t.words\/s.size=1:=by
 have h:s∈(plainP t++termP L (t.words.zip t.kids)).map (·.1):=h;obtain⟨p,hp,rfl⟩:=Y4.1 h
 rcases Yz.1 hp with hp|hp
 ·exact .inl (List.of_mem_zip (List.mem_filter.1 hp).1).1
 ·rw[Z40]at hp
  obtain⟨x,_,rfl⟩:=Y4.1 hp
  right
  show(wordOf x.1).size=1
  cases x.1<;>rfl
theorem Zr8{t:Ty}{L:Nat}(hk:∀k∈t.kids,0<=k/\k<(L:Int)){k:Int}(h:k∈(tidyT L t).kids):0<=k/\k<(L:Int):=by
 have h:k∈(plainP t++termP L (t.words.zip t.kids)).map (·.2):=h;obtain⟨p,hp,rfl⟩:=Y4.1 h
 rcases Yz.1 hp with hp|hp
 ·exact hk _ (List.of_mem_zip (List.mem_filter.1 hp).1).2
 ·rw[Z40]at hp
  obtain⟨x,hx,rfl⟩:=Y4.1 hp;exact ZJ6 hx
theorem Z59{t:Ty}{L:Nat}(h:TyOk t)(hL:L<=1000)(hk:∀k∈t.kids,0<=k/\k<(L:Int)):TyOk (tidyT L t):=by
 have hl:=ZH7 hk;have hw:=h.wl;refine⟨h.nl,by omega,by omega,fun s hs=>?_,h.nums,fun k hk2=>?_⟩
 ·rcases Z26 hs with g|g
  ·exact h.ws s g
  ·omega
 ·have:=Zr8 hk hk2
  omega
theorem Z7a{t:Ty}{L:Nat}(h:TySm t):TySm (tidyT L t):=fun s hs=>by
 rcases Z26 hs with g|g
 ·exact h s g
 ·omega
theorem Zma{l:List Ty}{t:Ty}{I:Nat->Int}(hr:rightT l=true)(h7:¬t.kind=7):paddT l (swapT t I)=putT l t I:=by
 unfold paddT putT;rw[if_pos hr,if_neg h7]
theorem Zsa{l:List Ty}{t:Ty}{I:Nat->Int}(hr:rightT l=true)(h7:t.kind=7)(ho:oddT l (swapT t I)=false):paddT l (tidyT l.length (swapT t I))=putT l t I:=by
 unfold paddT putT;rw[if_pos hr,if_pos h7,if_neg (by rw[ho];decide)]
theorem Zi9{l:List Ty}{t:Ty}{I:Nat->Int}(h7:t.kind=7)(ho:oddT l (swapT t I)=true):putT l t I=([],0,11):=by
 unfold putT;rw[if_pos h7,if_pos ho]
theorem Zqc{l:List Ty}{t:Ty}(hr:rightT l=true)(he:(addT l t).2.2=0) :
  ∃(M:List Ty) (p:Nat) (hp:p<M.length),addT l t=(M,(p:Int),0)/\M[p]=t/\rightT M=true/\M.take l.length=l/\l.length<=M.length/\M.length<=l.length+1:=by
 have hl:=(right_step hr).1
 by_cases h0:0<=atT l t
 ·have hm:t∈l:=Y7 fun g=>by have:=atT_neg.2 g;omega
  obtain⟨j,hj,rfl⟩:=List.getElem_of_mem hm;refine⟨l,j,hj,?_,rfl,hr,List.take_length,Yk _,by omega⟩;unfold addT;rw[if_pos h0,Zc7 hr hj rfl]
 ·unfold addT at he ⊢
  rw[if_neg h0]at he ⊢
  cases hm:madeB l t
  ·rw[hm,if_pos rfl]at he
   have he:(1:Int)=0:=he
   omega
  ·rw[hm]at he
   rw[if_neg (by decide)]at he ⊢
   by_cases h4:l.length=400
   ·rw[if_pos h4]at he
    have he:(7:Int)=0:=he
    omega
   ·rw[if_neg h4]
    have A0:(l++[t]).length=l.length+1:=by simp
    refine⟨l++[t],l.length,by omega,rfl,by simp,ZT2 (by omega) (fun k hk=>?_),by simp,by omega,by omega⟩
    by_cases hkl:k<l.length
    ·have:=(right_step hr).2 k hkl
     rw[List.getElem_append_left hkl];unfold stepB at this ⊢
     by_cases h22:k<22
     ·rw[if_pos h22]at this ⊢;exact this
     ·rw[if_neg h22]at this ⊢
      rw[List.take_append_of_le_length (by omega)];exact this
    ·obtain rfl:k=l.length:=by omega
     unfold stepB;rw[if_neg (by omega),List.take_left' rfl];have A1:t ∉ l:=atT_neg.1 (by omega);simp[hm,A1]
def newT(l:List Ty)(t:Ty)(I:Nat->Int):Ty:=if t.kind=7 then tidyT l.length (swapT t I)else swapT t I
theorem ZR5{l:List Ty}{t:Ty}{I:Nat->Int}(h:¬(t.kind=7/\oddT l (swapT t I)=true)):putT l t I=addT l (newT l t I):=by
 unfold putT newT
 by_cases h7:t.kind=7
 ·rw[if_pos h7,if_pos h7,if_neg (fun g=>h ⟨h7,g⟩)]
 ·rw[if_neg h7,if_neg h7]
theorem ZJ5{l:List Ty}{t:Ty}{I:Nat->Int}(h:t.kind=7/\oddT l (swapT t I)=true):putT l t I=([],0,11):=Zi9 h.1 h.2
theorem ZS1{l:List Ty}{t:Ty}{I:Nat->Int}(hr:rightT l=true)(he:(putT l t I).2.2=0) :
  ¬(t.kind=7/\oddT l (swapT t I)=true)/\∃(M:List Ty) (p:Nat) (hp:p<M.length),putT l t I=(M,(p:Int),0)/\M[p]=newT l t I/\rightT M=true/\M.take l.length=l/\l.length<=M.length/\M.length<=l.length+1:=by
 have hn:¬(t.kind=7/\oddT l (swapT t I)=true):=fun g=>by
  rw[ZJ5 g]at he;have he:(11:Int)=0:=he
  omega
 rw[ZR5 hn]at he ⊢;exact⟨hn,Zqc hr he⟩
theorem Zk6{f:Nat->Ty}{i:Nat}:∀{e d m:Nat},d<=e->needD f i d m=true->needD f i e m=true
 | 0,d,m,h1,h=>by
  have:d=0:=by omega
  rwa [this]at h
 | e+1,d,m,h1,h=>by
  rcases Ym h1 with g|g
  ·have:=Zk6 (e:=e) (by omega) h
   show kmark (needD f i e) (i-e) (f (i-e)).kids m=true
   unfold kmark;rw[this]
   rfl
  ·rwa [g]at h
section
variable {f:Nat->Ty} {i:Nat} (hk:∀j,j<=i->∀k∈(f j).kids,0<=k/\k<(j:Int))
include hk
theorem ZR4:∀{e d m:Nat},d<=e->e<=i+1->i<=d+m->needD f i e m=needD f i d m
 | 0,d,m,h1,_,_=>by
  have:d=0:=by omega
  rw[this]
 | e+1,d,m,h1,h2,h3=>by
  rcases Ym h1 with h|h
  ·rw[<-ZR4 (e:=e) (d:=d) (by omega) (by omega) h3]
   show kmark (needD f i e) (i-e) (f (i-e)).kids m=needD f i e m
   unfold kmark
   have:¬((m:Int)∈(f (i-e)).kids):=fun g=>by
    have:=hk (i-e) (by omega) _ g
    omega
   simp[this]
  ·rw[h]
theorem ZV0{c:Nat}(hc:c<=i)(h:needD f i (i+1) c=true){k:Int}(hkc:k∈(f c).kids):needD f i (i+1) k.toNat=true:=by
 have g:=hk c hc k hkc;rw[ZR4 hk (e:=i+1) (d:=i-c) (by omega) (by omega) (by omega)]at h;refine Zk6 (d:=i-c+1) (by omega) ?_
 show kmark (needD f i (i-c)) (i-(i-c)) (f (i-(i-c))).kids k.toNat=true
 rw[show i-(i-c)=c by omega];unfold kmark;rw[h,show((k.toNat:Nat):Int)=k by omega];simp[hkc]
theorem ZA2:∀{d m:Nat},needD f i d m=true->askD f (i+1) m<=askD f (i+1) i
 | 0,m,h=>by
  have:m=i:=Yf h;rw[this];exact Int.le_refl _
 | d+1,m,h=>by
  have h:kmark (needD f i d) (i-d) (f (i-d)).kids m=true:=h;unfold kmark at h;rw[Bool.or_eq_true]at h
  rcases h with h|h
  ·exact ZA2 h
  ·rw[Yd]at h
   have hm:=Yf h.2;have g:=hk (i-d) (by omega) _ hm;refine Int.le_trans ?_ (ZA2 h.1);have e:=Zt1 (f:=f) (m:=m) (c:=i-d) (d:=i+1) (by omega) (by omega);rw[Zw1 (show i-d<i+1 by omega),e];have:=Ze7 (A:=askD f (i-d)) (n:=ask0 (f (i-d))) hm;rw[Yw]at this;exact this
end
theorem ZU{l:List Ty}(hr:rightT l=true){i:Nat}(hi:i<l.length):∀j,j<=i->∀k∈(funT l j).kids,0<=k/\k<(j:Int):=fun j hj k hk=>by
 unfold funT at hk;rw[Z3 (show j<l.length by omega)]at hk;exact Zn hr (by omega) k hk
structure Inv (l:List Ty) (i c:Nat) (s:SS):Prop where
 right:rightT s.now=true
 pre:s.now.take l.length=l
 len:l.length<=s.now.length
 ins:∀m,m<c->needD (funT l) i (i+1) m=true->0<=s.ins m/\s.ins m<(s.now.length:Int)
theorem ZUb{l:List Ty}(hr:rightT l=true)(i:Nat)(args:List Int):Inv l i 0 (runT l i args 0):=
 ⟨hr,List.take_length,Yk _,fun m hm=>absurd hm (Yr _)⟩
theorem Zr7{l:List Ty}{args:List Int}(h:inArena l args=true){k:Nat}(hk:k<args.length):0<=args.getD k 0/\args.getD k 0<(l.length:Int):=by
 unfold inArena at h;rw[List.all_eq_true]at h;exact Yf (h _ (Zd hk))
theorem ZQ1{l:List Ty}(hr:rightT l=true){i c:Nat}(hi:i<l.length)(hc:c<=i)(hn:needD (funT l) i (i+1) c=true)(h9:(funT l c).kind=9){args:List Int}(ha:¬(args.length:Int)<askD (funT l) (i+1) i):0<=(funT l c).n/\(funT l c).n<(args.length:Int):=by
 have g:=Z20 hr c h9;have h1:=ZA2 (ZU hr hi) hn;rw[Zw1 (show c<i+1 by omega)]at h1;have h2:=ZE1 (A:=askD (funT l) c) (n:=ask0 (funT l c)) (ks:=(funT l c).kids);have h3:ask0 (funT l c)=(funT l c).n+1:=by unfold ask0;rw[if_pos h9]
 omega
theorem ZJc{l:List Ty}(hr:rightT l=true){i:Nat}(hi:i<l.length){args:List Int}(hin:inArena l args=true)(ha:¬(args.length:Int)<askD (funT l) (i+1) i){c:Nat}(hc:c<=i){s:SS}(h0:s.err=0)(h:Inv l i c s)
  (he:(stepS (funT l) (needD (funT l) i (i+1)) (askD (funT l) (i+1)) args c s).err=0):Inv l i (c+1) (stepS (funT l) (needD (funT l) i (i+1)) (askD (funT l) (i+1)) args c s):=by
 have A0:∀(v:Int),(needD (funT l) i (i+1) c=true->0<=v/\v<(s.now.length:Int))->Inv l i (c+1) ⟨updI s.ins c v,s.now,0⟩:=fun v hv =>
  ⟨h.right,h.pre,h.len,fun m hm hn=>by
   show 0<=updI s.ins c v m/\updI s.ins c v m<(s.now.length:Int)
   by_cases e:m=c
   ·subst e;rw[Z50];exact hv hn
   ·rw[ZT e];exact h.ins m (by omega) hn⟩
 have A1:=h.len
 by_cases hs:needD (funT l) i (i+1) c=false\/askD (funT l) (i+1) c=0
 ·rw[Zb0 h0 hs]
  exact A0 _ (fun _=>by omega)
 ·have hn:needD (funT l) i (i+1) c=true:=by
   cases hh:needD (funT l) i (i+1) c
   ·exact absurd (.inl hh) hs
   ·rfl
  have hA:¬askD (funT l) (i+1) c=0:=fun g=>hs (.inr g)
  by_cases h9:(funT l c).kind=9
  ·rw[Zx0 h0 hn hA h9]
   obtain⟨g1,g2⟩:=ZQ1 hr hi hc hn h9 ha;have:=Zr7 hin (k:=(funT l c).n.toNat) (by omega);exact A0 _ (fun _=>by omega)
  ·by_cases hp:(putT s.now (funT l c) s.ins).2.2=0
   ·obtain⟨-,M,p,hpM,e,-,hR,hT,hL,-⟩:=ZS1 h.right hp
    rw[ZF0 h0 hn hA h9 e];refine⟨hR,?_,Yj h.len hL,fun m hm hnm=>?_⟩
    ·show M.take l.length=l
     have e1:M.take l.length=(M.take s.now.length).take l.length:=by rw[List.take_take,Nat.min_eq_left h.len]
     rw[e1,hT,h.pre]
    ·show 0<=updI s.ins c p m/\updI s.ins c p m<(M.length:Int)
     by_cases em:m=c
     ·rw[em,Z50];omega
     ·rw[ZT em]
      have:=h.ins m (by omega) hnm
      omega
   ·exfalso
    obtain⟨M,p,e'⟩:∃M p,putT s.now (funT l c) s.ins=(M,p,(putT s.now (funT l c) s.ins).2.2):=⟨_,_,rfl⟩
    rw[Za0 h0 hn hA h9 e' hp]at he;exact hp he
theorem Zh1{l:List Ty}(hr:rightT l=true){i:Nat}(hi:i<l.length){args:List Int}(hin:inArena l args=true)(ha:¬(args.length:Int)<askD (funT l) (i+1) i):∀c,c<=i+1->(runT l i args c).err=0->Inv l i c (runT l i args c)
 | 0,_,_=>ZUb hr i args
 | c+1,hc,he=>by
  have h0:(runT l i args c).err=0:=Y7 fun g=>by
   have:=ZU1 (f:=funT l) (nd:=needD (funT l) i (i+1)) (A:=askD (funT l) (i+1)) (args:=args) (l:=l) (c:=c) (d:=c+1) rfl g (by omega);rw[show(runT l i args (c+1)).err=_ from this]at he;exact g he
  exact ZJc hr hi hin ha (by omega) h0 (Zh1 hr hi hin ha c (by omega) h0) he
theorem IMap.none{w:World}{b c:Nat}{P:Nat->Bool}{I:Nat->Int}(h:IMap w b c P I){a:Addr}{v:Value}(hc:w.cell? a=some v):a.block≠b:=fun e=>by
 obtain⟨n,D,hn,⟨es,clock,h1,h2⟩,h3⟩:=h;unfold World.cell? at hc;rw[e,h1]at hc
 cases hc
section
variable {w w':World} {mb:Nat}
theorem Z81{b:Nat}{cs:Array Value}{T:TypeId}(h:BlockAt w b cs T)(hb:b≠mb)(hg:w.grownBy w' (some mb)):BlockAt w' b cs T:=by
 have:w'.heap[b]? = w.heap[b]?:=hg.block b h.lt (fun e=>hb (by injection e));unfold BlockAt;rw[this];exact h
end
theorem ZLa(w:World):(Instr.makeMap 95 none).run Tryz.prog w=.ok (.map (some w.heap.size)) (w.alloc (.map #[] 0)):=run_makeMap _ _
def psubT(l:List Ty)(i:Int)(args:List Int):List Ty×Int×Int:=if thereT l i=0 then substT l i.toNat args else([],0,thereT l i)
theorem Zg9{l:List Ty}{i:Nat}{args:List Int}(h:(args.length:Int)<askD (funT l) (i+1) i):substT l i args=([],0,1):=by unfold substT;rw[if_pos h]
theorem ZG3{l:List Ty}{i:Nat}{args:List Int}(h:¬(args.length:Int)<askD (funT l) (i+1) i)(h2:inArena l args=false):substT l i args=([],0,1):=by unfold substT;rw[if_neg h,if_pos h2]
theorem Ze2{l:List Ty}{i:Nat}{args:List Int}{e:Int}(h:¬(args.length:Int)<askD (funT l) (i+1) i)(h2:inArena l args=true)(h3:(runT l i args (i+1)).err=e)(h4:e≠0):substT l i args=([],0,e):=by
 unfold substT;rw[if_neg h,if_neg (by rw[h2];decide),h3,if_pos h4]
theorem ZO4{l:List Ty}{i:Nat}{args:List Int}{s:SS}(h:¬(args.length:Int)<askD (funT l) (i+1) i)(h2:inArena l args=true)(h3:runT l i args (i+1)=s)(h4:s.err=0):substT l i args=(s.now,s.ins i,0):=by
 unfold substT;rw[if_neg h,if_neg (by rw[h2];decide),h3,if_neg (by omega)]
theorem ZF6{l:List Ty}{args:List Int}{k:Nat}(hk:k<args.length)(h:args.getD k 0<0\/(l.length:Int)<=args.getD k 0):inArena l args=false:=by
 unfold inArena;rw[Bool.eq_false_iff];intro g;rw[List.all_eq_true]at g;have:=Yf (g _ (Zd hk))
 omega
theorem Zi3{l:List Ty}{args:List Int}(h:∀j,j<args.length->0<=args.getD j 0/\args.getD j 0<(l.length:Int)):inArena l args=true:=by
 unfold inArena;rw[List.all_eq_true];intro a ha;obtain⟨j,hj,rfl⟩:=List.getElem_of_mem ha;have:=h j hj;rw[Z3 hj]at this;exact Yb this
theorem Zw(l:List Ty)(i:Nat)(args:List Int)(c:Nat):runT l i args (c+1)=stepS (funT l) (needD (funT l) i (i+1)) (askD (funT l) (i+1)) args c (runT l i args c):=rfl
theorem Z02{l:List Ty}(hr:rightT l=true){j:Nat}(hj:j<l.length)(h7:l[j].kind=7):l[j].words.length=l[j].kids.length:=by
 by_cases h22:j<22
 ·rw[Zl hr hj h22]
  unfold bas
  split<;>rfl
 ·exact((Zc1 (Zq hr hj h22).1).lens (.inr h7)).1
def Ext(M N:List Ty):Prop:=N.take M.length=M/\M.length<=N.length
theorem Ext.refl(M:List Ty):Ext M M:=⟨List.take_length,Yk _⟩
theorem Ext.trans{M N O:List Ty}(h:Ext M N)(h2:Ext N O):Ext M O:=by
 refine⟨?_,Yj h.2 h2.2⟩;have e:O.take M.length=(O.take N.length).take M.length:=by rw[List.take_take,Nat.min_eq_left h.2]
 rw[e,h2.1,h.1]
theorem Ext.get{M N:List Ty}(h:Ext M N){j:Nat}(hj:j<M.length):N[j]? = M[j]?:=by
 have:(N.take M.length)[j]? = N[j]?:=List.getElem?_take_of_lt hj;rw[<-this,h.1]
theorem Ext.fn{M N:List Ty}(h:Ext M N){j:Nat}(hj:j<M.length):funT N j=funT M j:=by
 unfold funT;rw[List.getD_eq_getElem?_getD,List.getD_eq_getElem?_getD,h.get hj]
theorem Ext.kind{M N:List Ty}(h:Ext M N){k:Int}(h0:0<=k)(hk:k<(M.length:Int)):kindAt N k=kindAt M k:=by
 unfold kindAt;rw[h.get (by omega)]
theorem Zv9{ps:List (ByteArray×Int)}{p:Nat}(h:∀q∈ps,q.2≠(p:Int)):markP ps p=[]:=by
 unfold markP;rw[if_neg (fun g=>h _ g rfl),if_neg (fun g=>h _ g rfl)]
theorem ZP4{ps:List (ByteArray×Int)}{L:Nat}(h:∀q∈ps,q.2<(L:Int)):∀d,termP (L+d) ps=termP L ps
 | 0=>rfl
 | d+1=>by
  have e:termP (L+d+1) ps=termP (L+d) ps++markP ps (L+d):=by
   unfold termP;rw[List.range_succ,List.flatMap_append];simp
  rw[show L+(d+1)=L+d+1 by omega,e,ZP4 h d,Zv9 (fun q hq=>by have:=h q hq;omega),List.append_nil]
theorem Zdb{t:Ty}{L N:Nat}(h:∀k∈t.kids,k<(L:Int))(hl:L<=N):tidyT N t=tidyT L t:=by
 obtain⟨d,rfl⟩:∃d,N=L+d:=⟨N-L,by omega⟩
 unfold tidyT;rw[ZP4 (fun q hq=>h _ (List.of_mem_zip hq).2) d]
theorem ZA1{t:Ty}{I J:Nat->Int}(h:∀k∈t.kids,I k.toNat=J k.toNat):swapT t I=swapT t J:=by
 unfold swapT
 congr 1
 exact List.map_congr_left fun k hk=>h k hk
theorem Zs3{l:List Ty}{t:Ty}{I J:Nat->Int}(h:∀k∈t.kids,I k.toNat=J k.toNat):newT l t I=newT l t J:=by
 unfold newT;rw[ZA1 h]
theorem ZE3{t:Ty}{I:Nat->Int}{L:Nat}(h:∀k∈t.kids,0<=I k.toNat/\I k.toNat<(L:Int)):∀k∈(swapT t I).kids,0<=k/\k<(L:Int):=fun k hk=>by
 obtain⟨k1,h1,rfl⟩:=Y4.1 hk;exact h k1 h1
theorem Z19{M N:List Ty}(hx:Ext M N){t:Ty}{I:Nat->Int}(h:∀k∈t.kids,0<=I k.toNat/\I k.toNat<(M.length:Int)):newT N t I=newT M t I:=by
 unfold newT;rw[Zdb (fun k hk=>(ZE3 h k hk).2) hx.2]
theorem Ze9{M N:List Ty}(hx:Ext M N){t:Ty}(h:∀k∈t.kids,0<=k/\k<(M.length:Int)):oddT N t=oddT M t:=by
 unfold oddT;rw[Bool.eq_iff_iff,List.any_eq_true,List.any_eq_true]
 have A0:∀p∈t.words.zip t.kids,badT N p.2=badT M p.2:=fun p hp=>by
  obtain⟨h1,h2⟩:=h _ (List.of_mem_zip hp).2;unfold badT;rw[hx.kind h1 h2]
 constructor
 ·rintro⟨p,hp,g⟩;exact⟨p,hp,by rw[A0 p hp]at g;exact g⟩
 ·rintro⟨p,hp,g⟩;exact⟨p,hp,by rw[A0 p hp];exact g⟩
def PutOk(t:Ty)(q:Int)(M:List Ty)(I:Nat->Int):Prop:=¬(t.kind=7/\oddT M (swapT t I)=true)/\funT M q.toNat=newT M t I
theorem PutOk.ext{t:Ty}{q:Int}{M N:List Ty}{I J:Nat->Int}(h:PutOk t q M I)(hx:Ext M N)(hq:0<=q/\q<(M.length:Int))(hk:∀k∈t.kids,0<=I k.toNat/\I k.toNat<(M.length:Int))(hJ:∀k∈t.kids,I k.toNat=J k.toNat):PutOk t q N J:=by
 refine⟨?_,?_⟩
 ·rw[<-ZA1 hJ,Ze9 hx (ZE3 hk)]
  exact h.1
 ·rw[<-Zs3 hJ,hx.fn (by omega),Z19 hx hk]
  exact h.2
structure Spec (l:List Ty) (i:Nat) (args:List Int) (c:Nat) (M:List Ty) (I:Nat->Int):Prop where
 ins:∀m,m<c->needD (funT l) i (i+1) m=true->0<=I m/\I m<(M.length:Int)
 skip:∀m,m<c->needD (funT l) i (i+1) m=true->askD (funT l) (i+1) m=0->I m=(m:Int)
 param:∀m,m<c->needD (funT l) i (i+1) m=true->askD (funT l) (i+1) m≠0->(funT l m).kind=9->I m=args.getD (funT l m).n.toNat 0
 put:∀m,m<c->needD (funT l) i (i+1) m=true->askD (funT l) (i+1) m≠0->(funT l m).kind≠9->PutOk (funT l m) (I m) M I
theorem Spec.next{l:List Ty}(hr:rightT l=true){i:Nat}(hi:i<l.length){args:List Int}{c:Nat}(hc:c<=i){M N:List Ty}{I:Nat->Int}(h:Spec l i args c M I)(hx:Ext M N){v:Int}
  (hv:needD (funT l) i (i+1) c=true->0<=v/\v<(N.length:Int))
  (hs:needD (funT l) i (i+1) c=true->askD (funT l) (i+1) c=0->v=(c:Int))
  (hp:needD (funT l) i (i+1) c=true->askD (funT l) (i+1) c≠0->(funT l c).kind=9->v=args.getD (funT l c).n.toNat 0)
  (hq:needD (funT l) i (i+1) c=true->askD (funT l) (i+1) c≠0->(funT l c).kind≠9->PutOk (funT l c) v N I):Spec l i args (c+1) N (updI I c v):=by
 have hk:=ZU hr hi
 have up:∀m,m<=c->∀k∈(funT l m).kids,I k.toNat=updI I c v k.toNat:=fun m hm k hkm=>by
  have:=hk m (by omega) k hkm;rw[ZT (by omega)]
 have A0:∀m,m<=c->needD (funT l) i (i+1) m=true->∀k∈(funT l m).kids,0<=I k.toNat/\I k.toNat<(M.length:Int):=fun m hm hn k hkm=>by
  have:=hk m (by omega) k hkm;exact h.ins _ (by omega) (ZV0 hk (by omega) hn hkm)
 have A1:=hx.2;refine⟨fun m hm hn=>?_,fun m hm hn ha=>?_,fun m hm hn ha h9=>?_,fun m hm hn ha h9=>?_⟩
 ·by_cases e:m=c
  ·subst e;rw[Z50];exact hv hn
  ·rw[ZT e];have:=h.ins m (by omega) hn;omega
 ·by_cases e:m=c
  ·subst e;rw[Z50];exact hs hn ha
  ·rw[ZT e];exact h.skip m (by omega) hn ha
 ·by_cases e:m=c
  ·subst e;rw[Z50];exact hp hn ha h9
  ·rw[ZT e];exact h.param m (by omega) hn ha h9
 ·by_cases e:m=c
  ·subst e
   rw[Z50];have g:=hq hn ha h9;refine⟨?_,?_⟩
   ·rw[<-ZA1 (up m (Yk _))];exact g.1
   ·rw[<-Zs3 (up m (Yk _))];exact g.2
  ·rw[ZT e]
   exact(h.put m (by omega) hn ha h9).ext hx (h.ins m (by omega) hn) (A0 m (by omega) hn) (up m (by omega))
theorem Zsd{l:List Ty}{i:Nat}{args:List Int}{c:Nat}(he:(runT l i args (c+1)).err=0):(runT l i args c).err=0:=Y7 fun g=>by
 rw[Zw,Zl3 g]at he;exact g he
theorem Zo4{l:List Ty}(hr:rightT l=true){i:Nat}(hi:i<l.length){args:List Int}(hin:inArena l args=true)(ha:¬(args.length:Int)<askD (funT l) (i+1) i) :
  ∀c,c<=i+1->(runT l i args c).err=0->Spec l i args c (runT l i args c).now (runT l i args c).ins
 | 0,_,_=>⟨fun m hm=>absurd hm (Yr _),fun m hm=>absurd hm (Yr _),fun m hm=>absurd hm (Yr _),fun m hm=>absurd hm (Yr _)⟩
 | c+1,hc,he=>by
  have h0:=Zsd he;have ih:=Zo4 hr hi hin ha c (by omega) h0;have hI:=Zh1 hr hi hin ha c (by omega) h0;have hlen:=hI.len;rw[Zw]at he ⊢;obtain⟨s,hs⟩:=Yn (runT l i args c);rw[hs]at he ih hI h0 hlen ⊢
  by_cases hsk:needD (funT l) i (i+1) c=false\/askD (funT l) (i+1) c=0
  ·rw[Zb0 h0 hsk]
   refine ih.next hr hi (by omega) (Ext.refl _) (fun _=>by omega) (fun _ _=>rfl) (fun hn h1=>?_) (fun hn h1=>?_)
   ·rcases hsk with g|g
    ·rw[hn]at g;cases g
    ·exact absurd g h1
   ·rcases hsk with g|g
    ·rw[hn]at g;cases g
    ·exact absurd g h1
  ·have hn:needD (funT l) i (i+1) c=true:=by
    cases hh:needD (funT l) i (i+1) c
    ·exact absurd (.inl hh) hsk
    ·rfl
   have hA:¬askD (funT l) (i+1) c=0:=fun g=>hsk (.inr g)
   by_cases h9:(funT l c).kind=9
   ·rw[Zx0 h0 hn hA h9]
    obtain⟨g1,g2⟩:=ZQ1 hr hi (by omega) hn h9 ha;have:=Zr7 hin (k:=(funT l c).n.toNat) (by omega);exact ih.next hr hi (by omega) (Ext.refl _) (fun _=>by omega) (fun _ g=>absurd g hA) (fun _ _ _=>rfl) (fun _ _ g=>absurd h9 g)
   ·by_cases hp:(putT s.now (funT l c) s.ins).2.2=0
    ·obtain⟨ho,M,p,hpM,e,hMp,hR,hT,hL,-⟩:=ZS1 hI.right hp
     rw[ZF0 h0 hn hA h9 e];have hx:Ext s.now M:=⟨hT,hL⟩
     have A0:∀k∈(funT l c).kids,0<=s.ins k.toNat/\s.ins k.toNat<(s.now.length:Int):=fun k hkm=>by
      have:=ZU hr hi c (by omega) k hkm;exact ih.ins _ (by omega) (ZV0 (ZU hr hi) (by omega) hn hkm)
     refine ih.next hr hi (by omega) hx (fun _=>by omega) (fun _ g=>absurd g hA) (fun _ _ g=>absurd g h9) (fun _ _ _=>⟨?_,?_⟩)
     ·rw[Ze9 hx (ZE3 A0)];exact ho
     ·rw[Z19 hx A0,Yw]
      unfold funT;rw[Z3 hpM];exact hMp
    ·exfalso
     obtain⟨M,p,e'⟩:∃M p,putT s.now (funT l c) s.ins=(M,p,(putT s.now (funT l c) s.ins).2.2):=⟨_,_,rfl⟩
     rw[Za0 h0 hn hA h9 e' hp]at he;exact hp he
theorem ZS6{M:List Ty}(hr:rightT M=true){i:Nat}(hi:i<M.length){args:List Int}{J:Nat->Int}(hS:Spec M i args (i+1) M J) :
  ∀c,c<=i+1->(runT M i args c).err=0/\(runT M i args c).now=M/\∀m,m<c->needD (funT M) i (i+1) m=true->(runT M i args c).ins m=J m
 | 0,_=>⟨rfl,rfl,fun m hm=>absurd hm (Yr _)⟩
 | c+1,hc=>by
  obtain⟨h0,hN,hI⟩:=ZS6 hr hi hS c (by omega)
  have upd:∀v,(needD (funT M) i (i+1) c=true->v=J c)->∀m,m<c+1->needD (funT M) i (i+1) m=true->updI (runT M i args c).ins c v m=J m:=fun v hv m hm hn=>by
   by_cases e:m=c
   ·subst e;rw[Z50];exact hv hn
   ·rw[ZT e];exact hI m (by omega) hn
  rw[Zw]
  by_cases hsk:needD (funT M) i (i+1) c=false\/askD (funT M) (i+1) c=0
  ·rw[Zb0 h0 hsk]
   refine⟨rfl,hN,upd _ (fun hn=>?_)⟩
   rcases hsk with g|g
   ·rw[hn]at g;cases g
   ·exact(hS.skip c (by omega) hn g).symm
  ·have hn:needD (funT M) i (i+1) c=true:=by
    cases hh:needD (funT M) i (i+1) c
    ·exact absurd (.inl hh) hsk
    ·rfl
   have hA:¬askD (funT M) (i+1) c=0:=fun g=>hsk (.inr g)
   by_cases h9:(funT M c).kind=9
   ·rw[Zx0 h0 hn hA h9]
    exact⟨rfl,hN,upd _ (fun _=>(hS.param c (by omega) hn hA h9).symm)⟩
   ·have hP:=hS.put c (by omega) hn hA h9
    have hB:=hS.ins c (by omega) hn
    have A1:∀k∈(funT M c).kids,(runT M i args c).ins k.toNat=J k.toNat:=fun k hkm=>by
     have:=ZU hr hi c (by omega) k hkm;exact hI _ (by omega) (ZV0 (ZU hr hi) (by omega) hn hkm)
    have A0:putT (runT M i args c).now (funT M c) (runT M i args c).ins=(M,J c,0):=by
     rw[hN,ZR5 (by rw[ZA1 A1];exact hP.1),Zs3 A1];have hj:(J c).toNat<M.length:=by omega
     have e:M[(J c).toNat]=newT M (funT M c) J:=by
      have:=hP.2;unfold funT at this ⊢;rw[Z3 hj]at this;exact this
     have h1:=Zc7 hr hj e;unfold addT;rw[if_pos (by rw[h1];omega),h1]
     congr 2
     omega
    rw[ZF0 h0 hn hA h9 A0];exact⟨rfl,rfl,upd _ (fun _=>rfl)⟩
theorem Z54{M:List Ty}(hr:rightT M=true){i:Nat}(hi:i<M.length){args:List Int}{J:Nat->Int}(ha:¬(args.length:Int)<askD (funT M) (i+1) i)(hin:inArena M args=true)(hS:Spec M i args (i+1) M J):substT M i args=(M,J i,0):=by
 obtain⟨h1,h2,h3⟩:=ZS6 hr hi hS (i+1) (Yk _);rw[ZO4 ha hin rfl h1,h2,h3 i (by omega) (Zb1 _ _ _)]
theorem Zt7{f g:Nat->Ty}:∀{c:Nat},(∀j,j<c->f j=g j)->askD f c=askD g c
 | 0,_=>rfl
 | c+1,h=>by
  have ih:=Zt7 (c:=c) (fun j hj=>h j (by omega))
  funext m
  show(if m=c then _ else _)=(if m=c then _ else _)
  rw[ih,h c (by omega)]
def tidP(L:Nat)(ps:List (ByteArray×Int)):List (ByteArray×Int):=(ps.filter fun p=>!markB p.1)++termP L ps
def mapP(J:Nat->Int)(ps:List (ByteArray×Int)):List (ByteArray×Int):=ps.map fun p=>(p.1,J p.2.toNat)
theorem Zq8(t:Ty)(J:Nat->Int):(swapT t J).words.zip (swapT t J).kids=mapP J (t.words.zip t.kids):=by
 show t.words.zip (t.kids.map fun k=>J k.toNat)=_
 rw[List.zip_map_right]
 rfl
theorem Zq2(L:Nat)(t:Ty):tidyT L t = { t with words:=(tidP L (t.words.zip t.kids)).map (·.1),kids:=(tidP L (t.words.zip t.kids)).map (·.2) }:=rfl
theorem word_inj{a b:Bool}(h:wordOf a=wordOf b):a=b:=by
 cases a<;>cases b<;>first|rfl|(exfalso;revert h;decide)
theorem Z86(b:Bool):markB (wordOf b)=true:=by
 cases b<;>(unfold markB;rw[ByteArray.toList_eq];decide)
theorem ZBc{L:Nat}{ps:List (ByteArray×Int)}(hk:∀p∈ps,0<=p.2/\p.2<(L:Int))(b:Bool)(q:Int):(wordOf b,q)∈termP L ps↔(wordOf b,q)∈ps/\(b=true\/(wordOf true,q) ∉ ps):=by
 have hm:∀z∈marksB ps,0<=z.2/\z.2<(L:Int):=fun z hz=>hk (wordOf z.1,z.2) (mem_marks.1 hz)
 rw[Z40,Y4]
 constructor
 ·rintro⟨⟨c,k⟩,hx,e⟩
  injection e with e1 e2
  have e1:=word_inj e1;have e2:k=q:=e2;subst e1;subst e2;have:=(Z12 hm (c,k)).1 hx;exact⟨mem_marks.1 this.1,this.2.imp id (fun g h=>g (mem_marks.2 h))⟩
 ·rintro⟨h1,h2⟩
  exact⟨(b,q),(Z12 hm (b,q)).2 ⟨mem_marks.2 h1,h2.imp id (fun g h=>g (mem_marks.1 h))⟩,rfl⟩
theorem ZW3{L:Nat}{ps:List (ByteArray×Int)}{p:ByteArray×Int}(h:p∈termP L ps):markB p.1=true:=by
 rw[Z40,Y4]at h;obtain⟨x,_,rfl⟩:=h;exact Z86 x.1
theorem ZE8(J:Nat->Int)(ps:List (ByteArray×Int)):(mapP J ps).filter (fun p=>!markB p.1)=mapP J (ps.filter fun p=>!markB p.1):=by
 unfold mapP;rw[List.filter_map]
 rfl
theorem ZUc{l:List Ty}(hr:rightT l=true){i:Nat}(hi:i<l.length)(h0:askD (funT l) (i+1) i=0)(args:List Int)(ha:args=[]):substT l i args=(l,(i:Int),0):=by
 subst ha;have h1:=fun m (hn:needD (funT l) i (i+1) m=true)=>ZA2 (ZU hr hi) hn
 have h2:=fun m=>Zw0 (Z20 hr) (i+1) m
 have hz:∀m,needD (funT l) i (i+1) m=true->askD (funT l) (i+1) m=0:=fun m hn=>by
  have:=h1 m hn;have:=(h2 m).1
  omega
 exact Z54 (J:=fun m=>(m:Int)) hr hi (by rw[h0];decide) rfl ⟨fun m hm _=>by show 0<=(m:Int)/\(m:Int)<_;omega,fun _ _ _ _=>rfl,fun m _ hn ha=>absurd (hz m hn) ha,fun m _ hn ha=>absurd (hz m hn) ha⟩
theorem Zk3{l:List Ty}{n:Int}{ws:List ByteArray}{ks:List Int}(h:elemsB l n ws ks=true){i:Nat}(hi:i<ws.length):elemB l n (aheadOf ws ks i) (ws.getD i ⟨#[]⟩) (ks.getD i 0)=true:=by
 unfold elemsB at h;exact List.all_eq_true.1 h i (List.mem_range.2 hi)
theorem Zy4(l:List Ty){c:Nat}(hc:c<=l.length):Ext (l.take c) l:=by
 have e:(l.take c).length=c:=by rw[Y5];omega
 exact⟨by rw[e],by rw[e];exact hc⟩
set_option maxRecDepth 100000 in
theorem ZN9(xs ys:List Ty)(ao bo:Option Addr)(ac bc:Nat)(w:World)(hx:ARow w ao xs)(hy:ARow w bo ys)(lx:xs.length<=1000)(ly:ys.length<=1000) :
  Calls Tryz.prog 28 #[.slice ao xs.length ac,.slice bo ys.length bc] w fun e w'=>e=.returned (.bool (decide (xs=ys)))/\Below w.heap.size w w':=by
 obtain⟨r,hr⟩:∃r,decide (xs=ys)=r:=⟨_,rfl⟩
 rw[hr];have HR:=Yh hr;clear hr;obtain⟨n,hn⟩:=Yn (xs.length);obtain⟨m,hm⟩:=Yn (ys.length);have HN:=Yh hn;have HM:=Yh hm;have HX:=Yh hx;have HY:=Yh hy;rw[hn]at lx ⊢;rw[hm]at ly ⊢;clear hn hm hx hy
 by_cases hnm:n=m
 case neg =>
  have Hn:=Yh (show false=r by
   rw[<-HR.o];symm;rw[Y1];intro e;exact hnm (by rw[<-HN.o,<-HM.o,e]))
  have hq:((n:Int)==(m:Int))=false:=by rw[Yc];omega
  go_enter Tryz.func28,Tryz.ntmps28;go_wp2_with fail;go_ret;exact⟨Z0 Hn.o,Y8 _ _⟩
 subst hnm;go_enter Tryz.func28,Tryz.ntmps28;go_wp2_with fail;go_loopw [13] (fun i wr=>∃k:Nat,k<=n/\i=.int .i64 k/\Hi (∀j (h1:j<xs.length) (h2:j<ys.length),j<k->xs[j]=ys[j])/\Hi (Below w.heap.size w wr)) (fun i _=>n-(intOf i).toNat)
 case atStart=>exact⟨0,Yl _,rfl,Yh (fun j _ _ hj=>absurd hj (Yr _)),Yh (Y8 _ _)⟩
 case round =>
  obtain⟨k,hk,rfl,Hall,HB⟩:=hrel
  by_cases hkl:k<n
  ·have A3:k<xs.length:=by rw[HN.o];exact hkl
   have A4:k<ys.length:=by rw[HM.o];exact hkl
   obtain⟨ab,aof,rfl,hab,hac⟩:=(HX.o.below HB.o).cells (by omega);obtain⟨bb,bof,rfl,hbb,hbc⟩:=(HY.o.below HB.o).cells (by omega);have A1:=hac k A3;have A2:=hbc k A4;obtain⟨x,hx⟩:=Yn (xs[k]);obtain⟨y,hy⟩:=Yn (ys[k]);rw[hx]at A1;rw[hy]at A2;have A0:=Yh (YH hx hy);obtain⟨xw,xwc,xk,xkc,a0,a1,a2,a3,a4,-,-,hxc⟩:=A1;obtain⟨yw,ywc,yk,ykc,b0,b1,b2,b3,b4,-,-,hyc⟩:=A2;have HL:=Yh (Zh4 x y xw xk yw yk xwc xkc ywc ykc wr.drew (hxc.below (Y8 _ _).drew) (hyc.below (Y8 _ _).drew));unfold tyV at HL;clear hx hy hac hbc hab hbb hxc hyc;go_wp2_with fail;go_still_tail 8,(by kernel_rfl);clear a0 a1 a2 a3 a4 b0 b1 b2 b3 b4
   change wpList _ _ _ _ _ wr.drew
   have BD:=@Yh (Below w.heap.size w wr.drew) (HB.o.drew)
   generalize wr.drew=w2 at *
   by_cases he:x=y
   ·rw[Yb he]at HL
    have Hx:=Yh (show ∀j (h1:j<xs.length) (h2:j<ys.length),j<k+1->xs[j]=ys[j]from fun j h1 h2 hj=>by
     rcases Ym (Ys hj)with h3|h3
     ·exact Hall.o j h1 h2 h3
     ·subst h3;rw[A0.o.1,A0.o.2];exact he)
    clear he;go_wp2_with fail;refine HL.o.mono ?_;rintro e w' ⟨rfl,b⟩;have B2:=YT BD b;clear b;go_wp2_with fail;go_roundw
    case rel=>exact⟨k+1,by omega,by go_num,Hx,B2⟩
    case measure=>first|(simp[intOf];done)|(simp[intOf];omega)
   ·rw[Ya he]at HL
    have Hn:=Yh (show false=r by
     rw[<-HR.o];symm;rw[Y1];intro e;subst e;exact he (A0.o.1.symm.trans A0.o.2))
    clear he;go_wp2_with fail;refine HL.o.mono ?_;rintro e w' ⟨rfl,b⟩;have B2:=YT BD b;clear b;go_wp2_with fail;go_ret;exact⟨Z0 Hn.o,B2.o⟩
  ·obtain rfl:k=n:=by omega
   have Hn:=Yh (show true=r by
    rw[<-HR.o];symm;rw[decide_eq_true_iff];exact List.ext_getElem (HN.o.trans HM.o.symm) (fun j h1 h2=>Hall.o j h1 h2 (by rw[<-HN.o];exact h1)))
   go_wp2_with fail;go_ret;exact⟨Z0 Hn.o,HB.o⟩
end Go.Proofs.YtdcajkagakikiaaGreatDoor
