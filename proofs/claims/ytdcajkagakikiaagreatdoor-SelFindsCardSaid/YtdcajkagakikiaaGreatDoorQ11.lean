import Derived.Test.YtdcajkagakikiaaGreatDoorQ09
namespace Go.Proofs.YtdcajkagakikiaaGreatDoor
set_option maxHeartbeats 64000000
set_option linter.unusedSimpArgs false
set_option linter.unusedVariables false
open Go.RowKit
theorem ZS3(u:ByteArray)(w:World):Calls Tryz.prog 139 #[.string u] w fun e w'=>e=.returned (.bool (markB u))/\w=w':=by
 cases hm1:(u.toList==[61])
 ·cases hm2:(u.toList==[126])
  ·have h:markB u=false:=by unfold markB;rw[hm1,hm2];rfl
   rw[h];clear h;go_enter Tryz.func139,Tryz.ntmps139;go_wp2_with fail;go_ret;exact⟨rfl,rfl⟩
  ·have h:markB u=true:=by unfold markB;rw[hm1,hm2];rfl
   rw[h];clear h;go_enter Tryz.func139,Tryz.ntmps139;go_wp2_with fail;go_ret;exact⟨rfl,rfl⟩
 ·have h:markB u=true:=by unfold markB;rw[hm1];rfl
  rw[h];clear h;go_enter Tryz.func139,Tryz.ntmps139;go_wp2_with fail;go_ret;exact⟨rfl,rfl⟩
def valsI(A:Nat->Int)(k:Nat):List Int:=(List.range k).map A
theorem Zg(A:Nat->Int)(k:Nat):(valsI A k).length=k:=by simp[valsI]
theorem ZD0{A:Nat->Int}{k m:Nat}(h:m<k):(valsI A k).getD m 0=A m:=by
 rw[Z3 (by rw[Zg];exact h)];simp[valsI]
theorem ZL4(A:Nat->Int)(k:Nat):valsI A (k+1)=valsI A k++[A k]:=by
 unfold valsI;rw[List.range_succ,Yu]
 rfl
theorem Zna{f:Nat->Ty}(k:Nat):valsI (askD f (k+1)) (k+1)=valsI (askD f k) k++[askF (askD f k) (ask0 (f k)) (f k).kids]:=by
 rw[ZL4,Zw1 (Nat.lt_succ_self k)]
 congr 1
 unfold valsI
 apply List.map_congr_left
 intro m hm;rw[List.mem_range]at hm;exact Zt1 hm (Nat.le_succ k)
theorem Z03{W wr w1:World}{v v':Value}{zs:List Int}{z:Int}(ho:OwnK wr W.heap.size v zs)(hB:Below W.heap.size W wr)(h1:w1.ownsRow W.heap.size 3 1 v' (zs.length+1) (intC zs++[.int .i64 z]))(hg:(wr.alloc (.cells #[.int .i64 z] 3)).grownBy w1 v.ownBlock) :
  OwnK w1 W.heap.size v' (zs++[z])/\Below W.heap.size W w1:=by
 have ba:Below wr.heap.size wr (wr.alloc (.cells #[.int .i64 z] 3)):=(Y8 _ _).alloc (Yk _) _;have A0:=hB.trans (ba.mono hB.size);refine⟨by unfold OwnK intC;rw[Ye,Yu];exact h1,A0.grown hg A0.size (fun k hk=>?_)⟩;exact(World.ownsRow.lt (Zr0 ho ba) k hk).1
set_option maxRecDepth 100000 in
theorem Z44(l:List Ty)(ao:Option Addr)(ac i:Nat)(w:World)(hl:ARow w ao l)(hr:rightT l=true)(hac:l.length<=ac)(hi:i<l.length) :
  Calls Tryz.prog 76 #[.slice ao l.length ac,.int .i64 i] w fun e w'=>∃bo bc,e=.returned (.slice bo (i+1) bc)/\IRow w' bo (valsI (askD (funT l) (i+1)) (i+1))/\i+1<=bc/\Below w.heap.size w w':=by
 obtain⟨k0,hki,hk0,hk1,hk2⟩:=info_parts (t:=3) Z96;have Aa:=(right_step hr).1;have A8:=Yh (Z20 hr);obtain⟨f,hf⟩:∃f:Nat->Ty,funT l=f:=⟨_,rfl⟩
 rw[hf]at A8 ⊢;have HF:=@Yh (∀j (hj:j<l.length),f j=l[j]) (fun j hj=>by rw[<-hf];exact Z3 hj);have HK:=@Yh (∀j (hj:j<l.length),∀k∈(f j).kids,0<=k/\k<(j:Int)) (fun j hj=>by rw[HF.o j hj];exact Zn hr hj);obtain⟨n,hn⟩:=Yn (l.length);have HN:=Yh hn;have HA:=Yh hl;rw[hn]at Aa hac hi ⊢;have Ao:i+1<=n:=hi;clear hl hr hf hn;go_enter Tryz.func76,Tryz.ntmps76;go_wp2_with fail;have O0:=@Yh (OwnK (w.alloc (.cells #[] 3)) w.heap.size (.slice (some ⟨w.heap.size,0,none⟩) 0 0) []) (World.ownsRow_made w #[] 0 (Yk _) (by unfold maxLen;omega) rfl);obtain⟨w1,h1⟩:=Yn (w.alloc (.cells #[] 3));rw[h1]at O0 ⊢;have B1:=@Yh (Below w.heap.size w w1) (by rw[<-h1];exact(Y8 _ _).alloc (Yk _) _);clear h1;go_loopw [5,17] (fun v5 v wr=>∃k:Nat,k<=i+1/\v=.int .i64 k/\Hi (OwnK wr w.heap.size v5 (valsI (askD f k) k))/\Hi (Below w.heap.size w wr)) (fun _ v _=>i+1-(intOf v).toNat)
 case atStart=>exact⟨0,Yl _,rfl,O0,B1⟩
 case round =>
  obtain⟨k,hk,rfl,HO,HB⟩:=hrel
  by_cases hkl:k<i+1
  ·have Ab:k<l.length:=by rw[HN.o];omega
   have Ap:(k:Int)<(i:Int)+1:=by omega
   obtain⟨ab,aof,rfl,hab,hcl⟩:=HA.o.cells (by omega);have Ac:=hcl k Ab;rw[<-HF.o k Ab]at Ac;have Ad:=Yh (HK.o k Ab);have Ai:=Yh (A8.o k);have A9:=Yh (fun ks=>ZS5 A8.o k k ks);have Ae:=Yh (fun m=>Zw0 A8.o k m);have A4:=Yh (Zna (f:=f) k);obtain⟨x,hx⟩:=Yn (f k);rw[hx]at Ac Ad Ai A9 A4;obtain⟨xw,xwc,xk,xkc,a0',a1',a2',a3',a4',hwc,hkc,hxc⟩:=Ac;have a0:=(HB.o.cell hab).trans a0';have a1:=(HB.o.cell hab).trans a1';have a2:=(HB.o.cell hab).trans a2';have a3:=(HB.o.cell hab).trans a3';have a4:=(HB.o.cell hab).trans a4';obtain⟨A,hA⟩:=Yn (askD f k);rw[hA]at HO A9 A4 Ae;obtain⟨oo,oc,rfl,hor,hoc⟩:=Zi HO.o;have Al:=Zg A k;clear hx hcl hab hA a0' a1' a2' a3' a4';obtain⟨wn,hwn,kx,qx,zx⟩:=YA wr #[.int .i64 x.kind,.string x.name,.int .i64 x.n,.slice xw x.words.length xwc,.slice xk x.kids.length xkc] 50;obtain⟨c0,c1,c2,c3,c4⟩:=cell5 kx;have BN:=YT HB qx;have Aj:=Yh (hor.below qx);have A5:=@Yh (OwnK wn w.heap.size (.slice oo (valsI A k).length oc) (valsI A k)) (Zr0 HO.o qx);have Ak:=Yh hxc.kids;have Am:=hxc.ok.kl;have BZ:=Yh BN.o.size;rw[Al]at hoc A5 ⊢;clear kx qx zx hwc hkc hxc hor;obtain⟨m,hm⟩:=Yn (x.kids.length);have HM:=Yh hm;rw[hm]at Am hwn c4 a4;clear hm
   by_cases h9:x.kind=9
   ·have hq:(x.kind==9)=true:=by rw[YK];exact h9
    obtain⟨g1,g2⟩:=Ai.o h9;have Af:=@Yh (ask0 x=x.n+1) (by unfold ask0;rw[if_pos h9]);have A6:Value.int .i64 (x.n+1)=.int .i64 (askF A (ask0 x) (x.kids.take 0)):=by rw[Af.o];rfl
    have HV:=Yh A6;clear h9 A6;go_wp2_with fail;clear a0 a1 a2 a3 a4 hwn c0 c1 c2 c3 c4;go_loop [8,30] (fun v8 v=>∃q:Nat,q<=m/\v=.int .i64 q/\v8=.int .i64 (askF A (ask0 x) (x.kids.take q))) (fun _ v=>m-(intOf v).toNat)
    case atStart=>exact⟨0,Yl _,rfl,HV.o⟩
    case round =>
     obtain⟨q,hq,rfl,rfl⟩:=hrel
     by_cases hql:q<m
     ·have A3:q<x.kids.length:=by rw[HM.o];exact hql
      obtain⟨kb,kof,rfl,hkb,hkcell⟩:=Ak.o.cells (by omega);have ck:=(BN.o.cell (p:=⟨kb,kof+q,none⟩) hkb).trans (hkcell q A3);obtain⟨g1,g2⟩:=Ad.o _ (Zd A3);obtain⟨z,hz⟩:∃z:Nat,x.kids.getD q 0=(z:Int):=⟨(x.kids.getD q 0).toNat,by omega⟩
      have A0:=Z11 (A:=A) (n:=ask0 x) A3;rw[hz]at ck g2 A0;rw[Yw]at A0;have A7:z<k:=by omega
      have An:(z:Int)<(k:Int):=by omega
      obtain⟨ob,oof,rfl,hob,hocell⟩:=Aj.o.cells (by rw[Zg];omega);have co:=hocell z (by rw[Zg];exact A7);rw[ZD0 A7]at co;obtain⟨x1,hx1⟩:=A9.o (x.kids.take q);obtain⟨y1,hy1⟩:=Ae.o z;obtain⟨x0,hx0⟩:=Yn (askF A (ask0 x) (x.kids.take q));obtain⟨y0,hy0⟩:=Yn (A z);rw[hx0]at x1 hx1 A0 ⊢;rw[hy0]at co y1 hy1 A0;have A2:=Yh A0;clear A0 hz hx0 hy0 hkcell hkb hocell hob g1
      by_cases hgt:x0<y0
      ·have hd:decide (x0<y0)=true:=Yb hgt
       have A1:=@Yh (max x0 y0=y0) (by omega);clear hgt;go_wp2_with fail;go_round
       case rel=>exact⟨q+1,by omega,by go_num,by first|(rw[A2.o,A1.o];done)|(rw[A2.o,A1.o];rfl)⟩
       case measure=>first|(simp[intOf];done)|(simp[intOf];omega)
      ·have hd:decide (x0<y0)=false:=Ya hgt
       have A1:=@Yh (max x0 y0=x0) (by omega);clear hgt;go_wp2_with fail;go_round
       case rel=>exact⟨q+1,by omega,by go_num,by first|(rw[A2.o,A1.o];done)|(rw[A2.o,A1.o];rfl)⟩
       case measure=>first|(simp[intOf];done)|(simp[intOf];omega)
     ·have Ag:=@Yh (x.kids.take q=x.kids) (Y3 (by rw[HM.o];omega))
      rw[Ag.o];obtain⟨y0,hy0⟩:=Yn (askF A (ask0 x) x.kids);rw[hy0]at A4 ⊢;clear hy0;have Ah:=@Yh (wn.ownsRow w.heap.size 3 1 (.slice oo k oc) k (intC (valsI A k))) (by have h:=A5.o;unfold OwnK at h;rw[Zg]at h;exact h);go_wp2_with (at_builtin;refine wpList_append_own_at _ rfl _ _ 26 rfl w.heap.size 3 k0 (.int .i64 0) 1 8 Tryz.underlying26 hki hk0 hk1 hk2 rfl (by decide) _ k (intC (valsI A k)) rfl (Ah.o.alloc _) ⟨wn.heap.size,0,none⟩ 1 1 [.int .i64 y0] rfl ?c1 ?c2 ?c3 ?c4 ?c5 ?c6 ?_)
      case c3=>rfl
      case c4=>unfold maxLen;omega
      case c5=>omega
      case c6=>have:=BZ.o;simp;omega
      intro v' w3 hown3 hgrow _ hblk;have HP:=Yh (Z03 (z:=y0) A5.o BN.o (by rw[Zg];exact hown3) hgrow);clear hown3 hgrow hblk;go_wp2_with fail;go_roundw
      case rel=>exact⟨k+1,by omega,by go_num,Yh (by rw[A4.o];exact HP.o.1),Yh HP.o.2⟩
      case measure=>first|(simp[intOf];done)|(simp[intOf];omega)
   ·have hq:(x.kind==9)=false:=by rw[Yc];exact h9
    have Af:=@Yh (ask0 x=0) (by unfold ask0;rw[if_neg h9]);have A6:Value.int .i64 0=.int .i64 (askF A (ask0 x) (x.kids.take 0)):=by rw[Af.o];rfl
    have HV:=Yh A6;clear h9 A6;go_wp2_with fail;clear a0 a1 a2 a3 a4 hwn c0 c1 c2 c3 c4;go_loop [8,30] (fun v8 v=>∃q:Nat,q<=m/\v=.int .i64 q/\v8=.int .i64 (askF A (ask0 x) (x.kids.take q))) (fun _ v=>m-(intOf v).toNat)
    case atStart=>exact⟨0,Yl _,rfl,HV.o⟩
    case round =>
     obtain⟨q,hq,rfl,rfl⟩:=hrel
     by_cases hql:q<m
     ·have A3:q<x.kids.length:=by rw[HM.o];exact hql
      obtain⟨kb,kof,rfl,hkb,hkcell⟩:=Ak.o.cells (by omega);have ck:=(BN.o.cell (p:=⟨kb,kof+q,none⟩) hkb).trans (hkcell q A3);obtain⟨g1,g2⟩:=Ad.o _ (Zd A3);obtain⟨z,hz⟩:∃z:Nat,x.kids.getD q 0=(z:Int):=⟨(x.kids.getD q 0).toNat,by omega⟩
      have A0:=Z11 (A:=A) (n:=ask0 x) A3;rw[hz]at ck g2 A0;rw[Yw]at A0;have A7:z<k:=by omega
      have An:(z:Int)<(k:Int):=by omega
      obtain⟨ob,oof,rfl,hob,hocell⟩:=Aj.o.cells (by rw[Zg];omega);have co:=hocell z (by rw[Zg];exact A7);rw[ZD0 A7]at co;obtain⟨x1,hx1⟩:=A9.o (x.kids.take q);obtain⟨y1,hy1⟩:=Ae.o z;obtain⟨x0,hx0⟩:=Yn (askF A (ask0 x) (x.kids.take q));obtain⟨y0,hy0⟩:=Yn (A z);rw[hx0]at x1 hx1 A0 ⊢;rw[hy0]at co y1 hy1 A0;have A2:=Yh A0;clear A0 hz hx0 hy0 hkcell hkb hocell hob g1
      by_cases hgt:x0<y0
      ·have hd:decide (x0<y0)=true:=Yb hgt
       have A1:=@Yh (max x0 y0=y0) (by omega);clear hgt;go_wp2_with fail;go_round
       case rel=>exact⟨q+1,by omega,by go_num,by first|(rw[A2.o,A1.o];done)|(rw[A2.o,A1.o];rfl)⟩
       case measure=>first|(simp[intOf];done)|(simp[intOf];omega)
      ·have hd:decide (x0<y0)=false:=Ya hgt
       have A1:=@Yh (max x0 y0=x0) (by omega);clear hgt;go_wp2_with fail;go_round
       case rel=>exact⟨q+1,by omega,by go_num,by first|(rw[A2.o,A1.o];done)|(rw[A2.o,A1.o];rfl)⟩
       case measure=>first|(simp[intOf];done)|(simp[intOf];omega)
     ·have Ag:=@Yh (x.kids.take q=x.kids) (Y3 (by rw[HM.o];omega))
      rw[Ag.o];obtain⟨y0,hy0⟩:=Yn (askF A (ask0 x) x.kids);rw[hy0]at A4 ⊢;clear hy0;have Ah:=@Yh (wn.ownsRow w.heap.size 3 1 (.slice oo k oc) k (intC (valsI A k))) (by have h:=A5.o;unfold OwnK at h;rw[Zg]at h;exact h);go_wp2_with (at_builtin;refine wpList_append_own_at _ rfl _ _ 26 rfl w.heap.size 3 k0 (.int .i64 0) 1 8 Tryz.underlying26 hki hk0 hk1 hk2 rfl (by decide) _ k (intC (valsI A k)) rfl (Ah.o.alloc _) ⟨wn.heap.size,0,none⟩ 1 1 [.int .i64 y0] rfl ?b1 ?b2 ?b3 ?b4 ?b5 ?b6 ?_)
      case b3=>rfl
      case b4=>unfold maxLen;omega
      case b5=>omega
      case b6=>have:=BZ.o;simp;omega
      intro v' w3 hown3 hgrow _ hblk;have HP:=Yh (Z03 (z:=y0) A5.o BN.o (by rw[Zg];exact hown3) hgrow);clear hown3 hgrow hblk;go_wp2_with fail;go_roundw
      case rel=>exact⟨k+1,by omega,by go_num,Yh (by rw[A4.o];exact HP.o.1),Yh HP.o.2⟩
      case measure=>first|(simp[intOf];done)|(simp[intOf];omega)
  ·obtain rfl:k=i+1:=by omega
   obtain⟨oo,oc,rfl,hor,hoc⟩:=Zi HO.o;rw[Zg]at hoc ⊢;have HR:=Yh (YH hor hoc);clear hor hoc;go_wp2_with fail;go_ret;exact⟨oo,oc,rfl,HR.o.1,HR.o.2,HB.o⟩
def OwnBL(w:World)(base:Nat)(v:Value)(L:Nat)(f:Nat->Bool):Prop:=w.ownsRow base 4 1 v L (rowB L f).toList
theorem Zgb(k:Nat)(f:Nat->Bool):(rowB (k+1) f).toList=(rowB k f).toList++[.bool (f k)]:=by
 unfold rowB;rw[List.range_succ,Yu];simp
theorem Zr9{W wr w1:World}{v v':Value}{k:Nat}(ho:OwnBL wr W.heap.size v k fun _=>false)(hB:Below W.heap.size W wr)(h1:w1.ownsRow W.heap.size 4 1 v' (k+1) ((rowB k fun _=>false).toList++[.bool false]))(hg:(wr.alloc (.cells #[.bool false] 4)).grownBy w1 v.ownBlock) :
  OwnBL w1 W.heap.size v' (k+1) (fun _=>false)/\Below W.heap.size W w1:=by
 have ba:Below wr.heap.size wr (wr.alloc (.cells #[.bool false] 4)):=(Y8 _ _).alloc (Yk _) _;have A0:=hB.trans (ba.mono hB.size);refine⟨by unfold OwnBL;rw[Zgb];exact h1,A0.grown hg A0.size (fun k hk=>?_)⟩;exact(World.ownsRow.lt (Zr0 ho ba) k hk).1
theorem OwnBL.form{w:World}{base L:Nat}{v:Value}{f:Nat->Bool}(h:OwnBL w base v L f)(h0:0<L):∃g cap,v=.slice (some ⟨g,0,none⟩) L cap/\base<=g/\L<=cap:=by
 obtain⟨h1,h2⟩:=h
 rcases h2 with⟨rfl,h2⟩|⟨g,cap,cur,rfl,hg,hcur,hc,rest⟩
 ·omega
 ·exact⟨g,cap,rfl,hg,hc⟩
theorem OwnBL.cell{w:World}{base L g cap:Nat}{f:Nat->Bool}(h:OwnBL w base (.slice (some ⟨g,0,none⟩) L cap) L f){j:Nat}(hj:j<L):w.cell? ⟨g,j,none⟩=some (.bool (f j)):=by
 have h':w.ownsRow base 4 1 (.slice (some ⟨g,0,none⟩) L cap) L (rowB L f).toList:=h;rw[h'.cellAt j (by omega),Array.getElem?_toList,Zk1 hj]
theorem OwnBL.free{w:World}{base L g cap:Nat}{f:Nat->Bool}(h:OwnBL w base (.slice (some ⟨g,0,none⟩) L cap) L f)(j:Nat):w.frozen? ⟨g,j,none⟩=false:=by
 have h':w.ownsRow base 4 1 (.slice (some ⟨g,0,none⟩) L cap) L (rowB L f).toList:=h;exact h'.frozenAt j
theorem OwnBL.set{w:World}{base L g cap:Nat}{f:Nat->Bool}(h:OwnBL w base (.slice (some ⟨g,0,none⟩) L cap) L f)(j:Nat)(d:Bool):OwnBL (w.setCell ⟨g,j,none⟩ (.bool d)) base (.slice (some ⟨g,0,none⟩) L cap) L (fun m=>if m=j then d else f m):=by
 have h':w.ownsRow base 4 1 (.slice (some ⟨g,0,none⟩) L cap) L (rowB L f).toList:=h;have:=(h'.stored j (.bool d)).1;unfold OwnBL;rw[<-Zw2,Array.toList_setIfInBounds];exact this
theorem Zab{nd:Nat->Bool}{j:Nat}{ks:List Int}(h:nd j=false):kmark nd j ks=nd:=by
 funext m
 unfold kmark;rw[h];simp
set_option maxRecDepth 100000 in
theorem Z68(l:List Ty)(ao:Option Addr)(ac i:Nat)(w:World)(hl:ARow w ao l)(hr:rightT l=true)(hac:l.length<=ac)(hi:i<l.length) :
  Calls Tryz.prog 117 #[.slice ao l.length ac,.int .i64 i] w fun e w'=>∃g cap,e=.returned (.slice (some ⟨g,0,none⟩) (i+1) cap)/\i+1<=cap/\g<w'.heap.size/\(∀m,m<i+1->w'.cell? ⟨g,m,none⟩=some (.bool (needD (funT l) i (i+1) m)))/\Below w.heap.size w w':=by
 obtain⟨k0,hki,hk0,hk1,hk2⟩:=info_parts Zo5;have A1:=(right_step hr).1;obtain⟨f,hf⟩:∃f:Nat->Ty,funT l=f:=⟨_,rfl⟩
 rw[hf];have HF:=@Yh (∀j (hj:j<l.length),f j=l[j]) (fun j hj=>by rw[<-hf];exact Z3 hj);have HK:=@Yh (∀j (hj:j<l.length),∀k∈(f j).kids,0<=k/\k<(j:Int)) (fun j hj=>by rw[HF.o j hj];exact Zn hr hj);obtain⟨n,hn⟩:=Yn (l.length);have HN:=Yh hn;have HA:=Yh hl;rw[hn]at A1 hac hi ⊢;have Af:i+1<=n:=hi;clear hl hr hf hn;go_enter Tryz.func117,Tryz.ntmps117;go_wp2_with fail;have O0:=@Yh (OwnBL (w.alloc (.cells #[] 4)) w.heap.size (.slice (some ⟨w.heap.size,0,none⟩) 0 0) 0 (fun _=>false)) (World.ownsRow_made w #[] 0 (Yk _) (by unfold maxLen;omega) rfl);obtain⟨w1,h1⟩:=Yn (w.alloc (.cells #[] 4));rw[h1]at O0 ⊢;have B1:=@Yh (Below w.heap.size w w1) (by rw[<-h1];exact(Y8 _ _).alloc (Yk _) _);clear h1;go_loopw [5,15] (fun v5 v wr=>∃k:Nat,k<=i+1/\v=.int .i64 k/\Hi (OwnBL wr w.heap.size v5 k fun _=>false)/\Hi (Below w.heap.size w wr)) (fun _ v _=>i+1-(intOf v).toNat)
 case atStart=>exact⟨0,Yl _,rfl,O0,B1⟩
 case round =>
  obtain⟨k,hk,rfl,HO,HB⟩:=hrel
  by_cases hkl:k<i+1
  ·have Ag:(k:Int)<(i:Int)+1:=by omega
   have A7:=@Yh (wr.ownsRow w.heap.size 4 1 _ k (rowB k fun _=>false).toList) (HO.o);have BZ:=Yh HB.o.size;go_wp2_with (at_builtin;refine wpList_append_own_at _ rfl _ _ 174 rfl w.heap.size 4 k0 (.bool false) 1 1 Tryz.underlying174 hki hk0 hk1 hk2 rfl (by decide) _ k (rowB k fun _=>false).toList rfl (A7.o.alloc _) ⟨wr.heap.size,0,none⟩ 1 1 [.bool false] rfl ?c1 ?c2 ?c3 ?c4 ?c5 ?c6 ?_)
   case c1=>rfl
   case c2=>exact Z9 _ _ _
   case c3=>exact fun v hv=>by rw[Yo.1 hv];rfl
   case c4=>unfold maxLen;omega
   case c5=>omega
   case c6=>have:=BZ.o;simp;omega
   intro v' w3 hown3 hgrow _ hblk;have HP:=Yh (Zr9 HO.o HB.o hown3 hgrow);clear hown3 hgrow hblk;go_wp2_with fail;go_roundw
   case rel=>exact⟨k+1,by omega,by go_num,Yh HP.o.1,Yh HP.o.2⟩
   case measure=>first|(simp[intOf];done)|(simp[intOf];omega)
  ·obtain rfl:k=i+1:=by omega
   obtain⟨g,cap,rfl,hg,hcap⟩:=HO.o.form (by omega);have HG:=Yh hg;have KA:=@Yh (OwnBL (wr.setCell ⟨g,i,none⟩ (.bool true)) w.heap.size (.slice (some ⟨g,0,none⟩) (i+1) cap) (i+1) (needD f i 0)) (HO.o.set i true);have BA:=Yh (ZJ (v:=.bool true) (k:=i) HB.o hg);have ci:=HO.o.cell (j:=i) (by omega);have fi:=HO.o.free i;have Ah:(i:Int)<(i:Int)+1:=by omega
   obtain⟨w3,h3⟩:=Yn (wr.setCell ⟨g,i,none⟩ (.bool true));rw[h3]at KA BA;clear hg;go_wp2_with fail;clear ci fi h3;go_loopw [6] (fun v wr=>∃c j:Nat,c+j=i+1/\v=.int .i64 ((j:Int)-1)/\Hi (OwnBL wr w.heap.size (.slice (some ⟨g,0,none⟩) (i+1) cap) (i+1) (needD f i c))/\Hi (Below w.heap.size w wr)) (fun v _=>(intOf v+1).toNat)
   case atStart=>exact⟨0,i+1,by omega,by(rw[show((i+1:Nat):Int)-1=(i:Int)by omega]),KA,BA⟩
   case round =>
    obtain⟨c,j,hcj,rfl,KB,HB⟩:=hrel
    by_cases hj0:j=0
    ·have A8:(j:Int)-1<0:=by omega
     obtain rfl:c=i+1:=by omega
     clear hj0;go_wp2_with fail;go_ret;exact⟨g,cap,rfl,hcap,Zt0 KB.o g rfl,fun m hm=>KB.o.cell hm,HB.o⟩
    ·obtain⟨p,rfl⟩:∃p,j=p+1:=⟨j-1,by omega⟩
     have Ai:p<=i:=by omega
     have Aj:(p:Int)<(i:Int)+1:=by omega
     have HP:=@Yh (i-c=p) (by omega);have A2:p<l.length:=by rw[HN.o];omega
     obtain⟨ab,aof,rfl,hab,hcl⟩:=HA.o.cells (by omega);have A3:=hcl p A2;rw[<-HF.o p A2]at A3;have A5:=Yh (HK.o p A2);obtain⟨x,hx⟩:=Yn (f p);rw[hx]at A3 A5;have HX:=Yh hx;obtain⟨xw,xwc,xk,xkc,a0,a1,a2,a3,a4,hwc,hkc,hxc⟩:=A3;have A9:=Yh hxc;have a4:wr.cell? ⟨ab,aof+p*5+4,none⟩=some (.slice xk x.kids.length xkc):=by rw[HB.o.cell (p:=⟨ab,aof+p*5+4,none⟩) hab];exact a4
     obtain⟨m,hm⟩:=Yn (x.kids.length);have HM:=Yh hm;have Aa:=hxc.ok.kl;rw[hm]at a4 Aa;have A0:((p+1:Nat):Int)-1=(p:Int):=by omega
     rw[A0];have cp:=KB.o.cell (j:=p) (by omega);obtain⟨b,hb⟩:=Yn (needD f i c p);rw[hb]at cp;have A6:=Yh hb;obtain⟨wo2,hwo2⟩:∃wo2,wo2=wr:=⟨_,rfl⟩
     subst hwo2;clear hx hcl hab hwc hkc hxc hm A0 a0 a1 a2 a3 hb
     cases b
     ·have KN:=Yh (show OwnBL wo2 w.heap.size (.slice (some ⟨g,0,none⟩) (i+1) cap) (i+1) (needD f i (c+1))from by
       show OwnBL wo2 w.heap.size _ (i+1) (kmark (needD f i c) (i-c) (f (i-c)).kids)
       rw[HP.o,Zab A6.o];exact KB.o)
      go_wp2_with fail;go_roundw
      case rel=>exact⟨c+1,p,by omega,by first|rfl|go_num,KN,HB⟩
      case measure=>first|(simp[intOf];done)|(simp[intOf];omega)
     ·go_wp2_with fail
      clear a4 cp;go_loopw [39] (fun v wr=>∃q:Nat,q<=m/\v=.int .i64 q/\Hi (OwnBL wr w.heap.size (.slice (some ⟨g,0,none⟩) (i+1) cap) (i+1) (kmark (needD f i c) p (x.kids.take q)))/\Hi (Below w.heap.size w wr)) (fun v _=>m-(intOf v).toNat)
      case atStart=>exact⟨0,Yl _,rfl,by(rw[List.take_zero,ZQ6];exact KB),HB⟩
      case round =>
       obtain⟨q,hq,rfl,KQ,HQ⟩:=hrel
       by_cases hql:q<m
       ·have A4:q<x.kids.length:=by rw[HM.o];exact hql
        obtain⟨kb,kof,rfl,hkb,hkcell⟩:=A9.o.kids.cells (by omega);have ck:=hkcell q A4;obtain⟨g1,g2⟩:=A5.o _ (Zd A4);obtain⟨z,hz⟩:∃z:Nat,x.kids.getD q 0=(z:Int):=⟨(x.kids.getD q 0).toNat,by omega⟩
        rw[hz]at ck g2;have Ak:z<p:=by omega
        have Al:(z:Int)<(i:Int)+1:=by omega
        have Ab:=Yh (Zq5 (nd:=needD f i c) (j:=p) A4 hz (by omega));have Ac:=@Yh (kmark (needD f i c) p (x.kids.take q) p=true) ((Z35 _ _ _).trans A6.o);have cz:=KQ.o.cell (j:=z) (by omega);have fz:=KQ.o.free z;have Am:wr.cell? ⟨kb,kof+q,none⟩=some (.int .i64 (z:Int)):=by rw[HQ.o.cell (p:=⟨kb,kof+q,none⟩) hkb];exact ck
        have Ad:=Yh (show OwnBL (wr.setCell ⟨g,z,none⟩ (.bool true)) w.heap.size (.slice (some ⟨g,0,none⟩) (i+1) cap) (i+1) (kmark (needD f i c) p (x.kids.take (q+1)))from by
         rw[<-Ab.o,Ac.o,Bool.or_true];exact KQ.o.set z true)
        have B7:=Yh (ZJ (v:=.bool true) (k:=z) HQ.o HG.o);obtain⟨bz,hbz⟩:=Yn (kmark (needD f i c) p (x.kids.take q) z);rw[hbz]at cz;clear hz ck hkcell hkb g1 hbz;go_wp2_with fail;go_roundw
        case rel=>exact⟨q+1,by omega,by go_num,Ad,B7⟩
        case measure=>first|(simp[intOf];done)|(simp[intOf];omega)
       ·have Ae:=@Yh (x.kids.take q=x.kids) (Y3 (by rw[HM.o];omega))
        rw[Ae.o]at KQ
        have KN:=Yh (show OwnBL wr w.heap.size (.slice (some ⟨g,0,none⟩) (i+1) cap) (i+1) (needD f i (c+1))from by
         show OwnBL wr w.heap.size _ (i+1) (kmark (needD f i c) (i-c) (f (i-c)).kids)
         rw[HP.o,HX.o];exact KQ.o)
        go_wp2_with fail;go_roundw
        case rel=>exact⟨c+1,p,by omega,by first|rfl|go_num,KN,HQ⟩
        case measure=>first|(simp[intOf];done)|(simp[intOf];omega)
set_option maxRecDepth 100000 in
theorem Zn9(l:List Ty)(lo:Option Addr)(lc:Nat)(t:Ty)(wo ko:Option Addr)(wc kc:Nat)(w:World)(hl:ARow w lo l)(ht:TyC w wo ko t)(hlen:t.words.length=t.kids.length)(hkb:∀k∈t.kids,0<=k/\k<(l.length:Int))(ll:l.length<=1000) :
  Calls Tryz.prog 118 #[.slice lo l.length lc,tyV t wo wc ko kc] w fun e w'=>e=.returned (.bool (oddT l t))/\Below w.heap.size w w':=by
 unfold tyV;have Ah:=Yh (fun u W=>ZS3 u W);have Ai:=ht.ok.kl;obtain⟨R,hR⟩:=Yn (oddT l t);rw[hR];have HR:=Yh hR;obtain⟨m,hm⟩:=Yn (t.kids.length);have HM:=Yh hm;have A6:=Yh (hlen.trans hm);obtain⟨n,hn⟩:=Yn (l.length);have HN:=Yh hn;rw[hlen,hm,hn];rw[hm]at Ai;rw[hn]at ll;obtain⟨w1,h1,k1,q1,z1⟩:=YA w #[.int .i64 t.kind,.string t.name,.int .i64 t.n,.slice wo m wc,.slice ko m kc] 50;have HT:=Yh (ht.below q1);have HA:=Yh (hl.below q1);have Aj:=Yh hkb;have BW:=Yh q1;obtain⟨c0,c1,c2,c3,c4⟩:=cell5 k1;clear hl ht hlen hkb hm hn k1 q1 z1 hR;go_enter Tryz.func118,Tryz.ntmps118;go_wp2_with fail;go_loop [11] (fun v=>∃q:Nat,q<=m/\v=.int .i64 q/\Hi (∀p∈(t.words.zip t.kids).take q,(markB p.1&&badT l p.2)=false)) (fun v=>m-(intOf v).toNat)
 case atStart=>exact⟨0,Yl _,rfl,Yh (fun p hp=>by simp at hp)⟩
 case round =>
  obtain⟨q,hq,rfl,HALL⟩:=hrel
  by_cases hql:q<m
  ·have Ad:q<t.words.length:=by rw[A6.o];exact hql
   have A7:q<t.kids.length:=by rw[HM.o];exact hql
   obtain⟨wb,wof,rfl,hwb,hwcell⟩:=HT.o.words.cells (by omega);obtain⟨kb,kof,rfl,hkb,hkcell⟩:=HT.o.kids.cells (by omega);have cu:=hwcell q Ad;have cz:=hkcell q A7;have Ae:=Aj.o _ (Zd A7);have A8:=Yh (ZL2 (q:=q) A6.o HM.o hql)
   have A9:=Yh (show(t.words.getD q ⟨#[]⟩,t.kids.getD q 0)∈t.words.zip t.kids from by
    have h:q<(t.words.zip t.kids).length:=by rw[List.length_zip];omega
    have e:=Yq h
    rwa [List.getElem_zip,<-Z3 (d:=⟨#[]⟩) Ad,<-Z3 (d:=(0:Int)) A7]at e)
   obtain⟨u,hu⟩:=Yn (t.words.getD q ⟨#[]⟩);obtain⟨z,hz⟩:∃z:Nat,t.kids.getD q 0=(z:Int):=⟨(t.kids.getD q 0).toNat,by omega⟩
   rw[hu]at cu A8 A9;rw[hz]at cz A8 Ae A9;have Af:z<l.length:=by omega
   rw[HN.o]at Ae;have An:(z:Int)<(n:Int):=by omega
   obtain⟨lb,lof,rfl,hlb,hlcell⟩:=HA.o.cells (by omega);have Ag:=hlcell z Af
   have A2:kindAt l (z:Int)=l[z].kind:=by
    unfold kindAt;rw[Yw,Yv Af]
    rfl
   obtain⟨y,hy⟩:=Yn (l[z]);rw[hy]at Ag A2;obtain⟨_,_,_,_,cK,-,-,-,-,-,-,-⟩:=Ag;obtain⟨kp,hkp⟩:=Yn (y.kind);rw[hkp]at cK A2;have Ak:=Yh A2
   have A0:=Yh (show badT l (z:Int)=(unB (z:Int)||(decide (kp=7)||decide (kp=9)))by
    unfold badT unB;rw[Ak.o]
    by_cases h1:kp=7<;>by_cases h2:kp=9<;>by_cases h3:14<=(z:Int)/\(z:Int)<=19<;>simp[h1,h2,h3])
   have A3:=Yh (fun(h1:markB u=true) (h2:badT l (z:Int)=true)=>show R=true from by
    rw[<-HR.o];unfold oddT;rw[List.any_eq_true];exact⟨_,A9.o,by rw[h1,h2];rfl⟩)
   have A5:=Yh (fun(h:(markB u&&badT l (z:Int))=false)=>show ∀p∈(t.words.zip t.kids).take (q+1),(markB p.1&&badT l p.2)=false from fun p hp=>by
    rw[A8.o]at hp
    rcases Yz.1 hp with hp|hp
    ·exact HALL.o p hp
    ·rw[Yo.1 hp];exact h)
   obtain⟨mk,hmk⟩:=Yn (markB u);have A1:=Ah.o u w1;rw[hmk]at A1 A3 A5;have Aa:=Yh A1;clear hu hz hwcell hkcell hlcell hy hkp A2 hmk A1;go_wp2_with fail;refine Aa.o.mono ?_;rintro e w' ⟨rfl,rfl⟩
   cases mk
   ·have A4:=Yh (A5.o rfl)
    go_wp2_with fail;go_round
    case rel=>exact⟨q+1,by omega,by go_num,A4⟩
    case measure=>first|(simp[intOf];done)|(simp[intOf];omega)
   ·by_cases h7:kp=7
    ·have Al:(kp==7)=true:=by rw[YK];exact h7
     have HY:=Yh (A3.o rfl (by rw[A0.o,Yb h7];simp));clear h7;go_wp2_with fail;go_ret;exact⟨by first|(rw[HY.o];done)|(rw[HY.o];rfl),BW.o⟩
    ·have Al:(kp==7)=false:=by rw[Yc];exact h7
     by_cases h9:kp=9
     ·have Am:(kp==9)=true:=by rw[YK];exact h9
      have HY:=Yh (A3.o rfl (by rw[A0.o,Yb h9];simp));clear h7 h9;go_wp2_with fail;go_ret;exact⟨by first|(rw[HY.o];done)|(rw[HY.o];rfl),BW.o⟩
     ·have Am:(kp==9)=false:=by rw[Yc];exact h9
      by_cases h14:14<=(z:Int)
      ·have Ab:decide (14<=(z:Int))=true:=Yb h14
       by_cases h19:(z:Int)<=19
       ·have Ac:decide ((z:Int)<=19)=true:=Yb h19
        have HY:=Yh (A3.o rfl (by rw[A0.o];unfold unB;rw[Yb (YH h14 h19)];rfl));clear h7 h9 h14 h19;go_wp2_with fail;go_ret;exact⟨by first|(rw[HY.o];done)|(rw[HY.o];rfl),BW.o⟩
       ·have Ac:decide ((z:Int)<=19)=false:=Ya h19
        have A4:=Yh (A5.o (by rw[A0.o,Ya h7,Ya h9];unfold unB;rw[Ya (fun g=>h19 g.2)];rfl));clear h7 h9 h14 h19;go_wp2_with fail;go_round
        case rel=>exact⟨q+1,by omega,by go_num,A4⟩
        case measure=>first|(simp[intOf];done)|(simp[intOf];omega)
      ·have Ab:decide (14<=(z:Int))=false:=Ya h14
       have A4:=Yh (A5.o (by rw[A0.o,Ya h7,Ya h9];unfold unB;rw[Ya (fun g=>h14 g.1)];rfl));clear h7 h9 h14;go_wp2_with fail;go_round
       case rel=>exact⟨q+1,by omega,by go_num,A4⟩
       case measure=>first|(simp[intOf];done)|(simp[intOf];omega)
  ·obtain rfl:q=m:=by omega
   have HF:=Yh (show R=false from by
    rw[<-HR.o];unfold oddT;rw[Bool.eq_false_iff];intro h;rw[List.any_eq_true]at h;obtain⟨p,hp,h2⟩:=h;have:=HALL.o p (by rw[Y3 (by rw[List.length_zip];have:=A6.o;have:=HM.o;omega)];exact hp);rw[this]at h2
    cases h2)
   go_wp2_with fail;go_ret;exact⟨by first|(rw[HF.o];done)|(rw[HF.o];rfl),BW.o⟩
def isS(ps:List (ByteArray×Int))(p:Nat):ByteArray:=if(tiW,(p:Int))∈ps then tiW else if(eqW,(p:Int))∈ps then eqW else⟨#[]⟩
theorem Zy9:tiW≠eqW:=by decide
theorem Znc{ps:List (ByteArray×Int)}{p:Nat}{u:ByteArray}{z:Int}(hm:markB u=true):isS (ps++[(u,z)]) p=if z=(p:Int)/\isS ps p≠tiW then u else isS ps p:=by
 have hu:u=tiW\/u=eqW:=by
  have:=Z41 hm
  cases h:decide (u=tiW)
  ·rw[h]at this;exact .inr this
  ·exact .inl (Yf h)
 have e1:∀w:ByteArray,((w,(p:Int))∈ps++[(u,z)])↔(w,(p:Int))∈ps\/(w=u/\(p:Int)=z):=fun w=>by
  rw[Yz,Yo,Prod.mk.injEq]
 have h3:eqW≠tiW:=fun e=>Zy9 e.symm
 have h4:(⟨#[]⟩:ByteArray)≠tiW:=by decide
 by_cases hz:z=(p:Int)
 ·have A0:(p:Int)=z:=hz.symm
  by_cases ht:(tiW,(p:Int))∈ps
  ·have i1:isS ps p=tiW:=by unfold isS;rw[if_pos ht]
   have i2:isS (ps++[(u,z)]) p=tiW:=by unfold isS;rw[if_pos ((e1 _).2 (.inl ht))]
   rw[i1,i2,if_neg (fun g=>g.2 rfl)]
  ·have i1:isS ps p≠tiW:=by
    unfold isS;rw[if_neg ht]
    split
    ·exact h3
    ·exact h4
   rw[if_pos ⟨hz,i1⟩]
   rcases hu with hu|hu
   ·unfold isS
    rw[if_pos ((e1 _).2 (.inr ⟨hu.symm,A0⟩)),hu]
   ·unfold isS
    rw[if_neg (fun g=>by
     rcases(e1 _).1 g with g|g
     ·exact ht g
     ·exact Zy9 (g.1.trans hu)),if_pos ((e1 _).2 (.inr ⟨hu.symm,A0⟩)),hu]
 ·rw[if_neg (fun g=>hz g.1)]
  have e2:∀w:ByteArray,((w,(p:Int))∈ps++[(u,z)])↔(w,(p:Int))∈ps:=fun w=>by
   rw[e1]
   constructor
   ·rintro(g|g)
    ·exact g
    ·exact absurd g.2.symm hz
   ·exact .inl
  unfold isS
  by_cases ht:(tiW,(p:Int))∈ps
  ·rw[if_pos ht,if_pos ((e2 _).2 ht)]
  ·rw[if_neg ht,if_neg (fun g=>ht ((e2 _).1 g))]
   by_cases he:(eqW,(p:Int))∈ps
   ·rw[if_pos he,if_pos ((e2 _).2 he)]
   ·rw[if_neg he,if_neg (fun g=>he ((e2 _).1 g))]
theorem Z0c{ps:List (ByteArray×Int)}{p:Nat}{u:ByteArray}{z:Int}(hm:markB u=false):isS (ps++[(u,z)]) p=isS ps p:=by
 have n1:u≠tiW:=fun e=>by rw[e]at hm;exact absurd hm (by rw[show tiW=wordOf true from rfl,Zb2];decide)
 have n2:u≠eqW:=fun e=>by rw[e]at hm;exact absurd hm (by rw[show eqW=wordOf false from rfl,Zb2];decide)
 have e1:∀w:ByteArray,w≠u->(((w,(p:Int))∈ps++[(u,z)])↔(w,(p:Int))∈ps):=fun w hw=>by
  rw[Yz,Yo,Prod.mk.injEq]
  constructor
  ·rintro(g|g)
   ·exact g
   ·exact absurd g.1 hw
  ·exact .inl
 unfold isS
 by_cases ht:(tiW,(p:Int))∈ps
 ·rw[if_pos ht,if_pos ((e1 _ (Ne.symm n1)).2 ht)]
 ·rw[if_neg ht,if_neg (fun g=>ht ((e1 _ (Ne.symm n1)).1 g))]
  by_cases he:(eqW,(p:Int))∈ps
  ·rw[if_pos he,if_pos ((e1 _ (Ne.symm n2)).2 he)]
  ·rw[if_neg he,if_neg (fun g=>he ((e1 _ (Ne.symm n2)).1 g))]
theorem ZXb(ps:List (ByteArray×Int))(p:Nat):markP ps p=if isS ps p=⟨#[]⟩then[]else[(isS ps p,(p:Int))]:=by
 unfold markP isS
 by_cases ht:(tiW,(p:Int))∈ps
 ·rw[if_pos ht,if_pos ht,if_neg (by decide)]
 ·rw[if_neg ht,if_neg ht]
  by_cases he:(eqW,(p:Int))∈ps
  ·rw[if_pos he,if_pos he,if_neg (by decide)]
  ·rw[if_neg he,if_neg he,if_pos rfl]
theorem ZN4(L:Nat)(ps:List (ByteArray×Int)):termP (L+1) ps=termP L ps++markP ps L:=by
 unfold termP;rw[List.range_succ,List.flatMap_append];simp
theorem Zoa(ps:List (ByteArray×Int))(p:Nat):(markP ps p).length<=1:=by
 unfold markP
 split
 ·exact Yk _
 ·split
  ·exact Yk _
  ·exact Yl _
theorem Za6:∀(L:Nat) (ps:List (ByteArray×Int)),(termP L ps).length<=L
 | 0,ps=>by simp[termP]
 | L+1,ps=>by
  rw[ZN4,Ye];have:=Za6 L ps;have:=Zoa ps L
  omega
theorem Zs6(ps:List (ByteArray×Int))(p:Nat):isS ps p=tiW\/isS ps p=eqW\/isS ps p=⟨#[]⟩:=by
 unfold isS
 split
 ·exact .inl rfl
 ·split
  ·exact .inr (.inl rfl)
  ·exact .inr (.inr rfl)
def TermsR(w:World)(tt:Ty)(e:Ending)(w':World):Prop:=
 ∃ao bo ac bc,e=.returned (tyV tt ao ac bo bc)/\tt.words.length<=ac/\tt.kids.length<=bc/\SRow w' ao tt.words/\IRow w' bo tt.kids/\(∀a,ao=some a->w.heap.size<=a.block)/\(∀a,bo=some a->w.heap.size<=a.block)/\Below w.heap.size w w'
set_option maxRecDepth 100000 in
theorem Zp8(l:List Ty)(lo:Option Addr)(lc:Nat)(t:Ty)(wo ko:Option Addr)(wc kc:Nat)(w:World)(ht:TyC w wo ko t)(hlen:t.words.length=t.kids.length)(hnm:t.name=⟨#[]⟩)(hkb:∀k∈t.kids,0<=k/\k<(l.length:Int))(ll:l.length<=1000) :
  Calls Tryz.prog 119 #[.slice lo l.length lc,tyV t wo wc ko kc] w (TermsR w (tidyT l.length t)):=by
 obtain⟨s0,hsi,hs0,hs1,hs2⟩:=info_parts Zu6;obtain⟨k0,hki,hk0,hk1,hk2⟩:=info_parts Zc3;unfold tyV;have AE:=Yh (fun u W=>ZS3 u W);have HT:=Yh ht;have AM:=ht.ok.kl;obtain⟨m,hm⟩:=Yn (t.kids.length);have HM:=Yh hm;have Ae:=Yh (hlen.trans hm);obtain⟨n,hn⟩:=Yn (l.length);rw[hn]at ll hkb;rw[hlen,hm,hn];rw[hm]at AM;obtain⟨w1,h1⟩:=Yn (w.alloc (.cells #[.int .i64 t.kind,.string t.name,.int .i64 t.n,.slice wo m wc,.slice ko m kc] 50));obtain⟨w2,h2⟩:=Yn (w1.alloc (.cells #[.int .i64 0,.string ⟨#[]⟩,.int .i64 0,.slice none 0 0,.slice none 0 0] 50));obtain⟨W3,h3⟩:=Yn (w2.alloc (.cells #[.int .i64 t.kind,.string ⟨#[]⟩,.int .i64 t.n,.slice none 0 0,.slice none 0 0] 50));obtain⟨k1,q1,z1⟩:=Za h1;obtain⟨k2,q2,z2⟩:=Za h2;obtain⟨k3,q3,z3⟩:=Za h3;have K1:=Yh ((k1.below q2).below q3);have K2:=Yh (k2.below q3);have BW:=Yh (q1.trans ((q2.trans (q3.mono q2.size)).mono q1.size));obtain⟨mb,hmb⟩:=Yn (w2.heap.size);have AN:=Yh hmb
 have AO:=Yh (show TS W3 W3 mb t (.slice none 0 0) (.slice none 0 0) (.slice none 0 0) (.slice none 0 0) (.slice none 0 0) [] [] []from
  ⟨Zi6 _ _,Zd8 _ _,Zk4 _ _,.inl rfl,.inl rfl,.inl rfl,by rw[<-hmb,hnm];exact k3,by rw[z3,<-hmb];exact Nat.lt_succ_self _,⟨rfl,rfl,rfl,Yk _,fun _ _ _=>rfl⟩⟩)
 have H3:=Yh h3;obtain⟨c0,c1,c2,c3,c4⟩:=cell5 k1;obtain⟨d0,d1,d2,d3,d4⟩:=cell5 (k1.below q2);have AF:w.heap.size<=mb/\w.heap.size≠mb:=by rw[<-hmb,z2,z1];omega
 have As:=Yh AF;have AP:=@Yh (w1.heap.size≠mb) (by rw[<-hmb,z2];omega);have At:=@Yh (w.heap.size<=w1.heap.size) (by omega);have Ai:=@Yh (w1.heap.size<W3.heap.size) (by omega);have Au:w.heap.size<w2.heap.size:=by omega
 have Ao:=@Yh (∀w',AnyTS W3 mb t w'->w'.cell? ⟨w.heap.size,4,none⟩=some (.slice ko m kc)) (fun w' h=>(h.old K1.o As.o.2).cell 4);have Av:=@Yh (∀w',AnyTS W3 mb t w'->w'.cell? ⟨w.heap.size,3,none⟩=some (.slice wo m wc)) (fun w' h=>(h.old K1.o As.o.2).cell 3);have Ap:=@Yh (∀w',AnyTS W3 mb t w'->Below w.heap.size w w') (fun w' h=>h.be BW.o As.o.1);clear ht hlen hkb hm hn h3 k1 k2 k3 q1 q2 q3 z1 z2 z3 AF hmb hnm;go_enter Tryz.func119,Tryz.ntmps119;go_wp2_with fail;rw[H3.o];rw[AN.o];clear h1 h2 Au c0 c1 c2 c3 c4 d0 d1 d2 d3 d4;go_loopw [20] (fun v20 wr=>∃(q:Nat) (wv kv:Value),q<=m/\v20=.int .i64 q/\Hi (TS W3 wr mb t wv kv (.slice none 0 0) wv kv [] (wsQ (t.words.zip t.kids) q) (ksQ (t.words.zip t.kids) q))) (fun v _=>m-(intOf v).toNat)
 case atStart=>exact⟨0,_,_,Yl _,rfl,AO⟩
 case round =>
  obtain⟨q,wv,kv,hq,rfl,TQ⟩:=hrel;have ql:=(q_len (t.words.zip t.kids) q).2
  by_cases hql:q<m
  ·have Aw:q<t.words.length:=by rw[Ae.o];exact hql
   have Ax:q<t.kids.length:=by rw[HM.o];exact hql
   obtain⟨wb,wof,rfl,hwb,hwcell⟩:=HT.o.words.cells (by omega);obtain⟨kb,kof,rfl,hkb,hkcell⟩:=HT.o.kids.cells (by omega);have cu:=(Ap.o _ TQ.o.any).cell (p:=⟨wb,wof+q,none⟩) hwb;rw[hwcell q Aw]at cu;have QM:=Yh (fun h=>Zzb (q:=q) Ae.o HM.o hql h);have QP:=Yh (fun h=>Zd9 (q:=q) Ae.o HM.o hql h);have A6:=hkcell q Ax;obtain⟨u,hu⟩:=Yn (t.words.getD q ⟨#[]⟩);obtain⟨z,hz⟩:=Yn (t.kids.getD q 0);rw[hu]at cu QM QP;rw[hz]at QM QP A6;have Af:=@Yh (∀w',AnyTS W3 mb t w'->w'.cell? ⟨kb,kof+q,none⟩=some (.int .i64 z)) (fun w' h=>((Ap.o _ h).cell (p:=⟨kb,kof+q,none⟩) hkb).trans A6);obtain⟨ws0,hws⟩:=Yn (wsQ (t.words.zip t.kids) q);obtain⟨ks0,hks⟩:=Yn (ksQ (t.words.zip t.kids) q);rw[hws,hks]at TQ ql QM QP;obtain⟨mk,hmk⟩:=Yn (markB u);have A0:=fun W=>AE.o u W
   rw[hmk]at A0 QM QP;have A7:=Yh A0;have A8:=TQ.o.box.cell 3;simp only[List.getElem?_toArray,List.getElem?_cons_zero,List.getElem?_cons_succ]at A8;clear hu hz hwcell hkcell A6 hwb hkb hws hks hmk A0;go_wp2_with fail;refine(A7.o _).mono ?_;rintro e w' ⟨rfl,rfl⟩
   cases mk
   ·have Aj:=Yh (QP.o rfl)
    have A4:=@Yh (wr.ownsRow W3.heap.size 9 1 wv ws0.length (strC ws0)) (TQ.o.wr);have Ak:=@Yh (W3.heap.size<=wr.heap.size) (TQ.o.gr.size);go_wp2_with (at_builtin;refine wpList_append_own_at _ rfl _ _ 42 rfl W3.heap.size 9 s0 (.string ⟨#[]⟩) 1 16 Tryz.underlying42 hsi hs0 hs1 hs2 rfl (by decide) _ ws0.length (strC ws0) rfl (A4.o.alloc _) ⟨wr.heap.size,0,none⟩ 1 1 [.string u] rfl ?c1 ?c2 ?c3 ?c4 ?c5 ?c6 ?_)
    case c1=>rfl
    case c2=>exact Z9 _ _ _
    case c3=>exact fun v hv=>by rw[Yo.1 hv];rfl
    case c4=>unfold maxLen;omega
    case c5=>omega
    case c6=>have:=Ak.o;simp;omega
    intro v5 w5 hown5 hgrow5 _ hblk5;have T5:=Yh ((TQ.o.kept (show Below wr.heap.size wr _ from(Y8 _ _).alloc (Yk _) (.cells #[.string u] 9))).pushW hgrow5 hown5 (by simpa using hblk5));obtain⟨aov5,acv5,ev5,-,-⟩:=ZE T5.o.wr;rw[Ye,List.length_singleton]at ev5;subst ev5;have A3:=Yh (T5.o.store3 (.slice aov5 (ws0.length+1) acv5));have Al:=T5.o.box.free 3;have A5:=T5.o.box.cell 3;simp only[List.getElem?_toArray,List.getElem?_cons_zero,List.getElem?_cons_succ]at A5;clear hown5 hgrow5 hblk5 A4 cu A8;obtain⟨wz,hwz⟩:=Yn (w5.setCell ⟨mb,3,none⟩ (.slice aov5 (ws0.length+1) acv5));rw[hwz]at A3;have TZ:=A3;have AQ:=TZ.o.box.cell 4;have AG:=Ao.o _ TZ.o.any;have B0:=Af.o _ TZ.o.any;simp only[List.getElem?_toArray,List.getElem?_cons_zero,List.getElem?_cons_succ]at AQ;go_upto_region 7 with fail;clear Al A5 hwz;refine GoG.start [(10,⟨mb,4,none⟩,kv),(10,⟨w.heap.size,4,none⟩,.slice (some ⟨kb,kof,none⟩) m kc),(10,⟨kb,kof+q,none⟩,.int .i64 z)] (by kernel_rfl) ?_ ?_
    ·exact(Kc (by first|assumption|simp[*]) (Kc (by first|assumption|simp[*]) (Kc (by first|assumption|simp[*]) Kn)))
    refine GoG.fr 0 ?_;refine GoG.s1 1 0 [10] ?_;refine GoG.fr 2 ?_;refine GoG.s1 3 1 [10] ?_;refine GoG.fr 4 ?_;refine GoG.fr 5 ?_;refine GoG.s1 6 2 [10] ?_;have T1:=Yh (TZ.o.kept (show Below wz.heap.size wz (wz.alloc (.cells #[.int .i64 z] 3)).drew from((Y8 _ _).alloc (Yk _) _).drew));have K1:=@Yh (BlockAt (wz.alloc (.cells #[.int .i64 z] 3)).drew wz.heap.size #[.int .i64 z] 3) (BlockAt.new _ _ _);refine GoG.on 7 fun K hK=>?_
    go_simp;refine hK.out _ _ (Kc (T1.o.box.cell 4) (Kc (Ao.o _ T1.o.any) (Kc (Af.o _ T1.o.any) Kn))) ?_;clear hK K
    try simp only[Act.put,YB,YC,YD,YE,YF,YG]
    obtain⟨v6,w6,hap,hown,hgrow,-,hblk⟩:=run_append_own_at (P:=Tryz.prog) (wz.alloc (.cells #[.int .i64 z] 3)).drew W3.heap.size 26 26 3 k0 (.int .i64 0) 1 8 Tryz.underlying26 hki hk0 hk1 hk2 rfl (by decide) kv ks0.length (intC ks0) T1.o.kr ⟨wz.heap.size,0,none⟩ 1 1 [.int .i64 z] rfl (Zr K1.o) (fun u hu=>by rw[Yo.1 hu];rfl) (by unfold maxLen;omega) (by omega) T1.o.gr.size;have T6:=Yh (T1.o.pushK hgrow hown hblk);obtain⟨ao6,ac6,e6,-,-⟩:=Zi T6.o.kr;rw[Ye,List.length_singleton]at e6;subst e6;refine GoG.on 8 fun K hK=>?_
    rw[if_pos (by rfl)];refine Zb _ _ _ rfl _ _ _ rfl rfl hap ?_;refine hK.out _ _ (Kc (T6.o.box.cell 4) (Kc (Ao.o _ T6.o.any) (Kc (Af.o _ T6.o.any) Kn))) ?_;clear hK K hap hown hgrow hblk;refine GoG.fr 9 ?_;have AR:=T6.o.box.free 4;have AH:=T6.o.box.cell 4;simp only[List.getElem?_toArray,List.getElem?_cons_zero,List.getElem?_cons_succ]at AH;have TB:=Yh (T6.o.store4 (.slice ao6 (ks0.length+1) ac6));refine GoG.on 10 fun K hK=>?_
    go_simp;clear AR AH;refine hK.out _ _ (Ku (Ku (Ku Kn))) ?_;clear hK K
    try simp only[Act.put,YB,YC,YD,YE,YF,YG]
    refine GoG.done (by kernel_rfl) ?_ _;go_wp2_with fail;go_roundw
    case rel=>exact⟨q+1,_,_,by omega,by go_num,Yh (by rw[Aj.o.2.1,Aj.o.2.2];exact TB.o)⟩
    case measure=>first|(simp[intOf];done)|(simp[intOf];omega)
   ·have Aj:=Yh (QM.o rfl)
    clear cu A8;go_wp2_with fail;go_roundw
    case rel=>exact⟨q+1,_,_,by omega,by go_num,Yh (by rw[Aj.o.2.1,Aj.o.2.2];exact TQ.o)⟩
    case measure=>first|(simp[intOf];done)|(simp[intOf];omega)
  ·obtain rfl:q=m:=by omega
   have Ay:=@Yh ((t.words.zip t.kids).take q=t.words.zip t.kids) (Y3 (by rw[List.length_zip];have:=Ae.o;have:=HM.o;omega));have A9:wsQ (t.words.zip t.kids) q=((t.words.zip t.kids).filter fun p=>!markB p.1).map (·.1):=by unfold wsQ;rw[Ay.o]
   have Aa:ksQ (t.words.zip t.kids) q=((t.words.zip t.kids).filter fun p=>!markB p.1).map (·.2):=by unfold ksQ;rw[Ay.o]
   obtain⟨ws0,hws⟩:=Yn (wsQ (t.words.zip t.kids) q);obtain⟨ks0,hks⟩:=Yn (ksQ (t.words.zip t.kids) q);rw[hws,hks]at TQ ql;rw[hws]at A9;rw[hks]at Aa;have Am:=Yh (YH A9 Aa);clear hws hks A9 Aa;go_wp2_with fail;go_loopw [47] (fun v wr=>∃(p:Nat) (wv kv:Value),p<=n/\v=.int .i64 p/\Hi (TS W3 wr mb t wv kv (.slice none 0 0) wv kv [] (ws0++(termP p (t.words.zip t.kids)).map (·.1)) (ks0++(termP p (t.words.zip t.kids)).map (·.2)))) (fun v _=>n-(intOf v).toNat)
   case atStart=>exact⟨0,wv,kv,Yl _,rfl,Yh (by simpa [termP] using TQ.o)⟩
   case round =>
    obtain⟨p,wv2,kv2,hp,rfl,TR⟩:=hrel
    by_cases hpn:p<n
    ·have AG:=Ao.o _ TR.o.any
     have AS:=Av.o _ TR.o.any;have Af:=Yh (Ap.o _ TR.o.any);go_wp2_with fail;go_loop [9,53] (fun v9 v=>∃q2:Nat,q2<=q/\v=.int .i64 q2/\v9=.string (isS ((t.words.zip t.kids).take q2) p)) (fun _ v=>q-(intOf v).toNat)
     case atStart=>exact⟨0,Yl _,rfl,rfl⟩
     case round =>
      obtain⟨q2,hq2,rfl,rfl⟩:=hrel
      by_cases hq3:q2<q
      ·have Aw:q2<t.words.length:=by rw[Ae.o];exact hq3
       have Ax:q2<t.kids.length:=by rw[HM.o];exact hq3
       obtain⟨wb,wof,rfl,hwb,hwcell⟩:=HT.o.words.cells (by omega);obtain⟨kb,kof,rfl,hkb,hkcell⟩:=HT.o.kids.cells (by omega);have cu:=(Af.o.cell (p:=⟨wb,wof+q2,none⟩) hwb).trans (hwcell q2 Aw);have cz:=(Af.o.cell (p:=⟨kb,kof+q2,none⟩) hkb).trans (hkcell q2 Ax);have Aq:=Yh (ZL2 (q:=q2) Ae.o HM.o hq3);obtain⟨u,hu⟩:=Yn (t.words.getD q2 ⟨#[]⟩);obtain⟨z,hz⟩:=Yn (t.kids.getD q2 0);rw[hu]at cu Aq;rw[hz]at cz Aq;have Az:=Yh (fun h=>Znc (ps:=(t.words.zip t.kids).take q2) (p:=p) (u:=u) (z:=z) h);have AA:=Yh (fun h=>Z0c (ps:=(t.words.zip t.kids).take q2) (p:=p) (u:=u) (z:=z) h);have AB:=Zs6 ((t.words.zip t.kids).take q2) p;obtain⟨s,hs⟩:=Yn (isS ((t.words.zip t.kids).take q2) p);rw[hs]at Az AA AB ⊢;obtain⟨mk,hmk⟩:=Yn (markB u);have A0:=AE.o u wr;rw[hmk]at A0 Az AA;have A7:=Yh A0;have A1:=Yh AB;clear hu hz hs hwcell hkcell hwb hkb hmk A0 AB;go_wp2_with fail;refine A7.o.mono ?_;rintro e w' ⟨rfl,rfl⟩
       cases mk
       ·have HN:=@Yh (isS ((t.words.zip t.kids).take (q2+1)) p=s) (by rw[Aq.o];exact AA.o rfl)
        clear A1;go_wp2_with fail;go_round
        case rel=>exact⟨q2+1,by omega,by go_num,by first|(rw[HN.o];done)|(rw[HN.o];rfl)⟩
        case measure=>first|(simp[intOf];done)|(simp[intOf];omega)
       ·have Ag:=@Yh (isS ((t.words.zip t.kids).take (q2+1)) p=if z=(p:Int)/\s≠tiW then u else s) (by rw[Aq.o];exact Az.o rfl)
        by_cases hzp:z=(p:Int)
        ·have AT:(z==(p:Int))=true:=by rw[YK];exact hzp
         rcases A1.o with e|e|e
         ·have HN:=@Yh (isS ((t.words.zip t.kids).take (q2+1)) p=⟨#[126]⟩) (by rw[Ag.o,if_neg (fun g=>g.2 e),e];rfl)
          have e2:s=⟨#[126]⟩:=e;subst e2;clear hzp e A1;go_wp2_with fail;go_round
          case rel=>exact⟨q2+1,by omega,by go_num,by first|(rw[HN.o];done)|(rw[HN.o];rfl)⟩
          case measure=>first|(simp[intOf];done)|(simp[intOf];omega)
         ·have HN:=@Yh (isS ((t.words.zip t.kids).take (q2+1)) p=u) (by rw[Ag.o,if_pos ⟨hzp,by rw[e];exact fun g=>Zy9 g.symm⟩])
          have e2:s=⟨#[61]⟩:=e;subst e2;clear hzp e A1;go_wp2_with fail;go_round
          case rel=>exact⟨q2+1,by omega,by go_num,by first|(rw[HN.o];done)|(rw[HN.o];rfl)⟩
          case measure=>first|(simp[intOf];done)|(simp[intOf];omega)
         ·have HN:=@Yh (isS ((t.words.zip t.kids).take (q2+1)) p=u) (by rw[Ag.o,if_pos ⟨hzp,by rw[e];decide⟩])
          subst e;clear hzp A1;go_wp2_with fail;go_round
          case rel=>exact⟨q2+1,by omega,by go_num,by first|(rw[HN.o];done)|(rw[HN.o];rfl)⟩
          case measure=>first|(simp[intOf];done)|(simp[intOf];omega)
        ·have AT:(z==(p:Int))=false:=by rw[Yc];exact hzp
         have HN:=@Yh (isS ((t.words.zip t.kids).take (q2+1)) p=s) (by rw[Ag.o,if_neg (fun g=>hzp g.1)]);clear hzp A1;go_wp2_with fail;go_round
         case rel=>exact⟨q2+1,by omega,by go_num,by first|(rw[HN.o];done)|(rw[HN.o];rfl)⟩
         case measure=>first|(simp[intOf];done)|(simp[intOf];omega)
      ·obtain rfl:q2=q:=by omega
       rw[Ay.o];have AI:=Yh (ZN4 p (t.words.zip t.kids));have Ar:=Yh (ZXb (t.words.zip t.kids) p);have AJ:=Zs6 (t.words.zip t.kids) p;have AU:=Za6 p (t.words.zip t.kids);obtain⟨ws1,hws1⟩:=Yn (ws0++(termP p (t.words.zip t.kids)).map (·.1));obtain⟨ks1,hks1⟩:=Yn (ks0++(termP p (t.words.zip t.kids)).map (·.2));have AV:ws1.length<=2000:=by rw[<-hws1,Ye,Yg];omega
       have AW:ks1.length<=2000:=by rw[<-hks1,Ye,Yg];omega
       rw[hws1,hks1]at TR
       have A2:=Yh (fun(s:ByteArray) (h:markP (t.words.zip t.kids) p=[(s,(p:Int))])=>show ws0++(termP (p+1) (t.words.zip t.kids)).map (·.1)=ws1++[s]/\ks0++(termP (p+1) (t.words.zip t.kids)).map (·.2)=ks1++[(p:Int)]from by
        rw[AI.o,h,Yu,Yu,<-hws1,<-hks1];simp)
       have Ag:=Yh (fun(h:markP (t.words.zip t.kids) p=[])=>show ws0++(termP (p+1) (t.words.zip t.kids)).map (·.1)=ws1/\ks0++(termP (p+1) (t.words.zip t.kids)).map (·.2)=ks1 from by
        rw[AI.o,h,List.append_nil,<-hws1,<-hks1];exact⟨rfl,rfl⟩)
       have A8:=TR.o.box.cell 3;simp only[List.getElem?_toArray,List.getElem?_cons_zero,List.getElem?_cons_succ]at A8;obtain⟨s,hs⟩:=Yn (isS (t.words.zip t.kids) p);rw[hs]at AJ Ar ⊢;clear hws1 hks1 hs AU AS AG
       rcases AJ with e|e|e
       ·have e2:s=⟨#[126]⟩:=e
        subst e2;have Ah:=Yh (A2.o ⟨#[126]⟩ (by rw[Ar.o,if_neg (by decide)]));clear A2 e;have A2:=Ah;have A4:=@Yh (wr.ownsRow W3.heap.size 9 1 wv2 ws1.length (strC ws1)) (TR.o.wr);have Ak:=@Yh (W3.heap.size<=wr.heap.size) (TR.o.gr.size);go_wp2_with (at_builtin;refine wpList_append_own_at _ rfl _ _ 42 rfl W3.heap.size 9 s0 (.string ⟨#[]⟩) 1 16 Tryz.underlying42 hsi hs0 hs1 hs2 rfl (by decide) _ ws1.length (strC ws1) rfl (A4.o.alloc _) ⟨wr.heap.size,0,none⟩ 1 1 [.string ⟨#[126]⟩] rfl ?x1 ?x2 ?x3 ?x4 ?x5 ?x6 ?_)
        case x3=>rfl
        case x4=>unfold maxLen;omega
        case x5=>omega
        case x6=>have:=Ak.o;simp;omega
        intro v5 w5 hown5 hgrow5 _ hblk5;have T5:=Yh ((TR.o.kept (show Below wr.heap.size wr _ from(Y8 _ _).alloc (Yk _) (.cells #[.string ⟨#[126]⟩] 9))).pushW hgrow5 hown5 (by simpa using hblk5));obtain⟨aov5,acv5,ev5,-,-⟩:=ZE T5.o.wr;rw[Ye,List.length_singleton]at ev5;subst ev5;have A3:=Yh (T5.o.store3 (.slice aov5 (ws1.length+1) acv5));have Al:=T5.o.box.free 3;have A5:=T5.o.box.cell 3;have Ab:=A3.o.box.cell 4;simp only[List.getElem?_toArray,List.getElem?_cons_zero,List.getElem?_cons_succ]at A5 Ab;clear hown5 hgrow5 hblk5 A4 A8;obtain⟨wz,hwz⟩:=Yn (w5.setCell ⟨mb,3,none⟩ (.slice aov5 (ws1.length+1) acv5));rw[hwz]at A3 Ab;have TZ:=A3;have An:=@Yh (wz.ownsRow W3.heap.size 3 1 kv2 ks1.length (intC ks1)) (TZ.o.kr);have Ac:=@Yh (W3.heap.size<=wz.heap.size) (TZ.o.gr.size);go_wp2_with (at_builtin;refine wpList_append_own_at _ rfl _ _ 26 rfl W3.heap.size 3 k0 (.int .i64 0) 1 8 Tryz.underlying26 hki hk0 hk1 hk2 rfl (by decide) _ ks1.length (intC ks1) rfl (An.o.alloc _) ⟨wz.heap.size,0,none⟩ 1 1 [.int .i64 (p:Int)] rfl ?y1 ?y2 ?y3 ?y4 ?y5 ?y6 ?_)
        case y1=>rfl
        case y2=>exact Z9 _ _ _
        case y3=>exact fun v hv=>by rw[Yo.1 hv];rfl
        case y4=>unfold maxLen;omega
        case y5=>omega
        case y6=>have:=Ac.o;simp;omega
        intro v6 w6 hown6 hgrow6 _ hblk6;have T6:=Yh ((TZ.o.kept (show Below wz.heap.size wz _ from(Y8 _ _).alloc (Yk _) (.cells #[.int .i64 (p:Int)] 3))).pushK hgrow6 hown6 (by simpa using hblk6));obtain⟨aov6,acv6,ev6,-,-⟩:=Zi T6.o.kr;rw[Ye,List.length_singleton]at ev6;subst ev6;have AC:=Yh (T6.o.store4 (.slice aov6 (ks1.length+1) acv6));have AX:=T6.o.box.free 4;have AD:=T6.o.box.cell 4;simp only[List.getElem?_toArray,List.getElem?_cons_zero,List.getElem?_cons_succ]at AD;clear hown6 hgrow6 hblk6 An Al A5 Ab hwz;go_wp2_with fail;go_roundw
        case rel=>exact⟨p+1,_,_,by omega,by go_num,Yh (by rw[A2.o.1,A2.o.2];exact AC.o)⟩
        case measure=>first|(simp[intOf];done)|(simp[intOf];omega)
       ·have e2:s=⟨#[61]⟩:=e
        subst e2;have Ah:=Yh (A2.o ⟨#[61]⟩ (by rw[Ar.o,if_neg (by decide)]));clear A2 e;have A2:=Ah;have A4:=@Yh (wr.ownsRow W3.heap.size 9 1 wv2 ws1.length (strC ws1)) (TR.o.wr);have Ak:=@Yh (W3.heap.size<=wr.heap.size) (TR.o.gr.size);go_wp2_with (at_builtin;refine wpList_append_own_at _ rfl _ _ 42 rfl W3.heap.size 9 s0 (.string ⟨#[]⟩) 1 16 Tryz.underlying42 hsi hs0 hs1 hs2 rfl (by decide) _ ws1.length (strC ws1) rfl (A4.o.alloc _) ⟨wr.heap.size,0,none⟩ 1 1 [.string ⟨#[61]⟩] rfl ?u1 ?u2 ?u3 ?u4 ?u5 ?u6 ?_)
        case u3=>rfl
        case u4=>unfold maxLen;omega
        case u5=>omega
        case u6=>have:=Ak.o;simp;omega
        intro v5 w5 hown5 hgrow5 _ hblk5;have T5:=Yh ((TR.o.kept (show Below wr.heap.size wr _ from(Y8 _ _).alloc (Yk _) (.cells #[.string ⟨#[61]⟩] 9))).pushW hgrow5 hown5 (by simpa using hblk5));obtain⟨aov5,acv5,ev5,-,-⟩:=ZE T5.o.wr;rw[Ye,List.length_singleton]at ev5;subst ev5;have A3:=Yh (T5.o.store3 (.slice aov5 (ws1.length+1) acv5));have Al:=T5.o.box.free 3;have A5:=T5.o.box.cell 3;have Ab:=A3.o.box.cell 4;simp only[List.getElem?_toArray,List.getElem?_cons_zero,List.getElem?_cons_succ]at A5 Ab;clear hown5 hgrow5 hblk5 A4 A8;obtain⟨wz,hwz⟩:=Yn (w5.setCell ⟨mb,3,none⟩ (.slice aov5 (ws1.length+1) acv5));rw[hwz]at A3 Ab;have TZ:=A3;have An:=@Yh (wz.ownsRow W3.heap.size 3 1 kv2 ks1.length (intC ks1)) (TZ.o.kr);have Ac:=@Yh (W3.heap.size<=wz.heap.size) (TZ.o.gr.size);go_wp2_with (at_builtin;refine wpList_append_own_at _ rfl _ _ 26 rfl W3.heap.size 3 k0 (.int .i64 0) 1 8 Tryz.underlying26 hki hk0 hk1 hk2 rfl (by decide) _ ks1.length (intC ks1) rfl (An.o.alloc _) ⟨wz.heap.size,0,none⟩ 1 1 [.int .i64 (p:Int)] rfl ?v1 ?v2 ?v3 ?v4 ?v5 ?v6 ?_)
        case v1=>rfl
        case v2=>exact Z9 _ _ _
        case v3=>exact fun v hv=>by rw[Yo.1 hv];rfl
        case v4=>unfold maxLen;omega
        case v5=>omega
        case v6=>have:=Ac.o;simp;omega
        intro v6 w6 hown6 hgrow6 _ hblk6;have T6:=Yh ((TZ.o.kept (show Below wz.heap.size wz _ from(Y8 _ _).alloc (Yk _) (.cells #[.int .i64 (p:Int)] 3))).pushK hgrow6 hown6 (by simpa using hblk6));obtain⟨aov6,acv6,ev6,-,-⟩:=Zi T6.o.kr;rw[Ye,List.length_singleton]at ev6;subst ev6;have AC:=Yh (T6.o.store4 (.slice aov6 (ks1.length+1) acv6));have AX:=T6.o.box.free 4;have AD:=T6.o.box.cell 4;simp only[List.getElem?_toArray,List.getElem?_cons_zero,List.getElem?_cons_succ]at AD;clear hown6 hgrow6 hblk6 An Al A5 Ab hwz;go_wp2_with fail;go_roundw
        case rel=>exact⟨p+1,_,_,by omega,by go_num,Yh (by rw[A2.o.1,A2.o.2];exact AC.o)⟩
        case measure=>first|(simp[intOf];done)|(simp[intOf];omega)
       ·subst e
        have Ah:=Yh (Ag.o (by rw[Ar.o,if_pos rfl]));clear A2;go_wp2_with fail;go_roundw
        case rel=>exact⟨p+1,_,_,by omega,by go_num,Yh (by rw[Ah.o.1,Ah.o.2];exact TR.o)⟩
        case measure=>first|(simp[intOf];done)|(simp[intOf];omega)
    ·obtain rfl:p=n:=by omega
     have AY:=Yh (show ws0++(termP p (t.words.zip t.kids)).map (·.1)=(tidyT p t).words from by
      rw[Am.o.1]
      show _=(plainP t++termP p (t.words.zip t.kids)).map (·.1)
      rw[Yu]
      rfl)
     have AZ:=Yh (show ks0++(termP p (t.words.zip t.kids)).map (·.2)=(tidyT p t).kids from by
      rw[Am.o.2]
      show _=(plainP t++termP p (t.words.zip t.kids)).map (·.2)
      rw[Yu]
      rfl)
     have TF:=TR.o;rw[AY.o,AZ.o]at TF;have Ad:=Yh TF;obtain⟨aw,cw,ew,-,hcw⟩:=ZE TF.wr;obtain⟨ak,ck,ek,-,hck⟩:=Zi TF.kr;have AK:=Yh (YH hcw hck);obtain⟨lW,hlW⟩:=Yn ((tidyT p t).words.length);obtain⟨lK,hlK⟩:=Yn ((tidyT p t).kids.length);rw[hlW]at ew;rw[hlK]at ek;subst ew;subst ek;have AL:=Yh (YH hlW hlK);obtain⟨e0,e1,e2,e3,e4⟩:=cell5 Ad.o.box;have M2:=Ad.o.old K2.o AP.o;obtain⟨f0,f1,f2,f3,f4⟩:=cell5 M2;have g0:=M2.free 0;have g1:=M2.free 1;have g2:=M2.free 2;have g3:=M2.free 3;have g4:=M2.free 4;clear M2 TF hcw hck hlW hlK TR;go_wp2_with fail;refine bodyPost_ret (v:=.agg #[.int .i64 t.kind,.string t.name,.int .i64 t.n,.slice aw lW cw,.slice ak lK ck]) (by simp[results,Tryz.results119,go_sem,f0,f1,f2,f3,f4]) rfl ?_;obtain⟨aw',cw',ew',rw1,-⟩:=ZE (ZB6 Ad.o.wr Ai.o (.int .i64 t.kind) (.string t.name) (.int .i64 t.n) (.slice aw lW cw) (.slice ak lK ck));obtain⟨ak',ck',ek',rk1,-⟩:=Zi (ZZ5 Ad.o.kr Ai.o (.int .i64 t.kind) (.string t.name) (.int .i64 t.n) (.slice aw lW cw) (.slice ak lK ck))
     injection ew' with ea _ _
     injection ek' with eb _ _
     subst ea;subst eb;refine⟨aw,ak,cw,ck,?_,AK.o.1,AK.o.2,rw1,rk1,fun a ha=>by(subst ha;have g1:=(World.ownsRow.lt Ad.o.wr a.block rfl).1;have g2:=BW.o.size;omega),fun a ha=>by(subst ha;have g1:=(World.ownsRow.lt Ad.o.kr a.block rfl).1;have g2:=BW.o.size;omega),Zc0 (Ap.o _ Ad.o.any) At.o _ _ _ _ _⟩;unfold tyV;rw[AL.o.1,AL.o.2]
     rfl
theorem ZW0{w:World}{base gi gcap c:Nat}{I:Nat->Int}(h:OwnK w base (.slice (some ⟨gi,0,none⟩) c gcap) (valsI I c)):w.ownsRow base 3 1 (.slice (some ⟨gi,0,none⟩) c gcap) c (intC (valsI I c)):=by
 unfold OwnK at h
 rwa [Zg]at h
theorem ZPb(I:Nat->Int)(c:Nat)(v:Int):valsI (updI I c v) (c+1)=valsI I c++[v]:=by
 rw[ZL4,Z50]
 congr 1
 unfold valsI
 apply List.map_congr_left
 intro m hm;rw[List.mem_range]at hm;exact ZT (by omega)
theorem ZW9{l:List Ty}(hr:rightT l=true){j:Nat}(hj:j<l.length)(h7:l[j].kind=7):l[j].name=⟨#[]⟩:=by
 by_cases h22:j<22
 ·rw[Zl hr hj h22]at h7 ⊢
  unfold bas at h7 ⊢
  split
  ·rename_i g
   rw[if_pos g]at h7;simp at h7
  ·rfl
 ·exact Zu4 ((Zc1 (Zq hr hj h22).1).lens (.inr h7)).2
theorem ZG1{w:World}{b:Nat}{a0 a1 a2:Value}{T:TypeId}(h:BlockAt w b #[a0,a1,a2] T):(w.cell? ⟨b,0,none⟩=some a0/\w.cell? ⟨b,1,none⟩=some a1/\w.cell? ⟨b,2,none⟩=some a2)/\(w.frozen? ⟨b,0,none⟩=false/\w.frozen? ⟨b,1,none⟩=false/\w.frozen? ⟨b,2,none⟩=false):=
 ⟨cell3A h,h.free 0,h.free 1,h.free 2⟩
theorem Zq0{W w:World}{b:Nat}(h:Below W.heap.size W w)(hb:W.heap.size<=b)(v0 v1 v2:Value):Below W.heap.size W (((w.setCell ⟨b,0,none⟩ v0).setCell ⟨b,1,none⟩ v1).setCell ⟨b,2,none⟩ v2):=((h.setCell hb _).setCell hb _).setCell hb _
end Go.Proofs.YtdcajkagakikiaaGreatDoor
