import Derived.Test.YtdcajkagakikiaaGreatDoorQ19
namespace Go.Proofs.YtdcajkagakikiaaGreatDoor
set_option maxHeartbeats 64000000
set_option linter.unusedSimpArgs false
set_option linter.unusedVariables false
open Go.RowKit
def seV(s:Se)(po:Option Addr)(pc:Nat):Value:=.agg #[.bool s.meth,.int .i64 s.typ,.bool s.ptr,.bool s.via,.slice po s.path.length pc]
theorem Z6b(x y:Se):decide (x.meth=y.meth/\x.typ=y.typ/\x.ptr=y.ptr/\x.via=y.via/\x.path=y.path)=decide (x=y):=by
 obtain⟨a,b,c,d,e⟩:=x;obtain⟨a',b',c',d',e'⟩:=y;rw[decide_eq_decide,Se.mk.injEq]
theorem Zq1{a b:Bool}(h:a≠b):(a==b)=false:=by rw[Yc];exact h
theorem ZQ0{a b:Bool}(h:a=b):(a==b)=true:=by rw[YK];exact h
set_option maxRecDepth 100000 in
theorem ZQ3(x y:Se)(xo yo:Option Addr)(xc yc:Nat)(w:World)(hx:IRow w xo x.path)(hy:IRow w yo y.path)(lx:x.path.length<=1000)(ly:y.path.length<=1000) :
  Calls Tryz.prog 7 #[seV x xo xc,seV y yo yc] w fun e w'=>e=.returned (.bool (decide (x=y)))/\Below w.heap.size w w':=by
 obtain⟨R,hR⟩:∃R,decide (x=y)=R:=⟨_,rfl⟩
 rw[hR];rw[<-Z6b]at hR;have HR:=Yh hR;obtain⟨w1,h1,k1,q1,z1⟩:=YA w #[.bool x.meth,.int .i64 x.typ,.bool x.ptr,.bool x.via,.slice xo x.path.length xc] 28;obtain⟨w2,h2,k2,q2,z2⟩:=YA w1 #[.bool y.meth,.int .i64 y.typ,.bool y.ptr,.bool y.via,.slice yo y.path.length yc] 28;have B2:=Yh (q1.trans (q2.mono q1.size));have HW:=Yh (Zw5 xo yo xc yc x.path y.path w2 (hx.below B2.o) (hy.below B2.o) (by omega) (by omega));obtain⟨a0,a1,a2,a3,a4⟩:=cell5 (k1.below q2);obtain⟨b0,b1,b2,b3,b4⟩:=cell5 k2;unfold seV;clear hR k1 q1 k2 q2 z1 z2 hx hy;go_enter Tryz.func7,Tryz.ntmps7
 by_cases e1:x.meth=y.meth
 case neg =>
  have g1:=Zq1 e1;have HV:=@Yh (false=R) (by rw[<-HR.o,Ya (fun g=>e1 g.1)]);clear e1;go_wp2_with fail;go_ret;exact⟨Z0 HV.o,B2.o⟩
 have g1:=ZQ0 e1
 by_cases e2:x.typ=y.typ
 case neg =>
  have g2:(x.typ==y.typ)=false:=by rw[Yc];exact e2
  have HV:=@Yh (false=R) (by rw[<-HR.o,Ya (fun g=>e2 g.2.1)]);clear e1 e2;go_wp2_with fail;go_ret;exact⟨Z0 HV.o,B2.o⟩
 have g2:(x.typ==y.typ)=true:=by rw[YK];exact e2
 by_cases e3:x.ptr=y.ptr
 case neg =>
  have g3:=Zq1 e3;have HV:=@Yh (false=R) (by rw[<-HR.o,Ya (fun g=>e3 g.2.2.1)]);clear e1 e2 e3;go_wp2_with fail;go_ret;exact⟨Z0 HV.o,B2.o⟩
 have g3:=ZQ0 e3
 by_cases e4:x.via=y.via
 case neg =>
  have g4:=Zq1 e4;have HV:=@Yh (false=R) (by rw[<-HR.o,Ya (fun g=>e4 g.2.2.2.1)]);clear e1 e2 e3 e4;go_wp2_with fail;go_ret;exact⟨Z0 HV.o,B2.o⟩
 have g4:=ZQ0 e4;have HV:=@Yh (decide (x.path=y.path)=R) (by rw[<-HR.o,decide_eq_decide];exact⟨fun g=>⟨e1,e2,e3,e4,g⟩,fun g=>g.2.2.2.2⟩);clear e1 e2 e3 e4;go_wp2_with fail;refine HW.o.mono ?_;rintro e w3 ⟨rfl,b⟩;have B3:=YT B2 b;clear b a0 a1 a2 a3 a4 b0 b1 b2 b3 b4 h1 h2;go_wp2_with fail;go_ret;exact⟨Z0 HV.o,B3.o⟩
set_option maxRecDepth 100000 in
theorem Zm1(x y:Se)(xo yo:Option Addr)(xc yc:Nat)(w:World)(hx:IRow w xo x.path)(hy:IRow w yo y.path)(lx:x.path.length<=1000)(ly:y.path.length<=1000)(hxc:x.path.length<=xc)(hyc:y.path.length<=yc) :
  Calls Tryz.prog 8 #[seV x xo xc,seV y yo yc] w fun e w'=>e=.returned (.bool (decide (x=y)))/\Below w.heap.size w w':=by
 obtain⟨R,hR⟩:∃R,decide (x=y)=R:=⟨_,rfl⟩
 rw[hR];rw[<-Z6b]at hR;have HR:=Yh hR;obtain⟨w1,h1,k1,q1,z1⟩:=YA w #[.bool x.meth,.int .i64 x.typ,.bool x.ptr,.bool x.via,.slice xo x.path.length xc] 28;obtain⟨w2,h2,k2,q2,z2⟩:=YA w1 #[.bool y.meth,.int .i64 y.typ,.bool y.ptr,.bool y.via,.slice yo y.path.length yc] 28;have B2:=Yh (q1.trans (q2.mono q1.size));have HX:=Yh (hx.below B2.o);have HY:=Yh (hy.below B2.o);have K1:=Yh (k1.below q2);have K2:=Yh k2;obtain⟨n,hn⟩:=Yn (x.path.length);obtain⟨m,hm⟩:=Yn (y.path.length);have HN:=Yh hn;have HM:=Yh hm;rw[hn]at h1 K1 lx hxc;rw[hm]at h2 K2 ly hyc;unfold seV;rw[hn,hm];obtain⟨a0,a1,a2,a3,a4⟩:=cell5 K1.o;obtain⟨b0,b1,b2,b3,b4⟩:=cell5 K2.o;clear hR k1 q1 k2 q2 z1 z2 hx hy hn hm;go_enter Tryz.func8,Tryz.ntmps8
 by_cases e1:x.meth=y.meth
 case neg =>
  have g1:=Zq1 e1;have A2:(x.meth != y.meth)=true:=by rw[bne,g1];rfl
  have HV:=@Yh (false=R) (by rw[<-HR.o,Ya (fun g=>e1 g.1)]);clear e1;go_wp2_with fail;go_ret;exact⟨Z0 HV.o,B2.o⟩
 have g1:=ZQ0 e1;have A2:(x.meth != y.meth)=false:=by rw[bne,g1];rfl
 by_cases e2:x.typ=y.typ
 case neg =>
  have g2:(x.typ != y.typ)=true:=by rw[YJ];exact e2
  have HV:=@Yh (false=R) (by rw[<-HR.o,Ya (fun g=>e2 g.2.1)]);clear e1 e2;go_wp2_with fail;go_ret;exact⟨Z0 HV.o,B2.o⟩
 have g2:(x.typ != y.typ)=false:=by rw[bne_eq_false_iff_eq];exact e2
 by_cases e3:x.ptr=y.ptr
 case neg =>
  have g3:=Zq1 e3;have A3:(x.ptr != y.ptr)=true:=by rw[bne,g3];rfl
  have HV:=@Yh (false=R) (by rw[<-HR.o,Ya (fun g=>e3 g.2.2.1)]);clear e1 e2 e3;go_wp2_with fail;go_ret;exact⟨Z0 HV.o,B2.o⟩
 have g3:=ZQ0 e3;have A3:(x.ptr != y.ptr)=false:=by rw[bne,g3];rfl
 by_cases e4:x.via=y.via
 case neg =>
  have g4:=Zq1 e4;have A4:(x.via != y.via)=true:=by rw[bne,g4];rfl
  have HV:=@Yh (false=R) (by rw[<-HR.o,Ya (fun g=>e4 g.2.2.2.1)]);clear e1 e2 e3 e4;go_wp2_with fail;go_ret;exact⟨Z0 HV.o,B2.o⟩
 have g4:=ZQ0 e4;have A4:(x.via != y.via)=false:=by rw[bne,g4];rfl
 have HV:=@Yh (decide (x.path=y.path)=R) (by rw[<-HR.o,decide_eq_decide];exact⟨fun g=>⟨e1,e2,e3,e4,g⟩,fun g=>g.2.2.2.2⟩)
 by_cases hnm:n=m
 case neg =>
  have g5:((n:Int) != (m:Int))=true:=by rw[YJ];omega
  have HF:=@Yh (false=R) (by rw[<-HV.o,Ya (fun g=>hnm (by rw[<-HN.o,<-HM.o,g]))]);clear e1 e2 e3 e4 hnm;go_wp2_with fail;go_ret;exact⟨Z0 HF.o,B2.o⟩
 subst hnm;clear e1 e2 e3 e4;go_wp2_with fail;clear a0 a1 a2 a3 a4 b0 b1 b2 b3 b4 h1 h2;go_loopw [44] (fun i wr=>∃k:Nat,k<=n/\i=.int .i64 k/\Hi (∀j,j<k->x.path.getD j 0=y.path.getD j 0)/\Hi (Below w2.heap.size w2 wr)) (fun i _=>n-(intOf i).toNat)
 case atStart=>exact⟨0,Yl _,rfl,Yh (fun j hj=>absurd hj (Yr _)),Yh (Y8 _ _)⟩
 case round =>
  obtain⟨k,hk,rfl,HALL,HB⟩:=hrel
  by_cases hkl:k<n
  ·have A5:k<x.path.length:=by rw[HN.o];exact hkl
   have A6:k<y.path.length:=by rw[HM.o];exact hkl
   obtain⟨xb,xof,rfl,hxb,hxcell⟩:=(HX.o.below HB.o).cells (by omega);obtain⟨yb,yof,rfl,hyb,hycell⟩:=(HY.o.below HB.o).cells (by omega);have cx:=hxcell k A5;have cy:=hycell k A6;obtain⟨p,hp⟩:=Yn (x.path.getD k 0);obtain⟨q,hq⟩:=Yn (y.path.getD k 0);rw[hp]at cx;rw[hq]at cy;have A0:=Yh (YH hp hq);obtain⟨-,-,-,-,a4⟩:=cell5 (K1.o.below HB.o);obtain⟨-,-,-,-,b4⟩:=cell5 (K2.o.below HB.o);have A7:(k:Int)<(n:Int):=by omega
   clear hxcell hycell hp hq
   by_cases hpq:p=q
   ·have g5:(p != q)=false:=by rw[bne_eq_false_iff_eq];exact hpq
    have A1:=Yh (show ∀j,j<k+1->x.path.getD j 0=y.path.getD j 0 from fun j hj=>by
     rcases Ym (Ys hj)with c|c
     ·exact HALL.o j c
     ·subst c;rw[A0.o.1,A0.o.2];exact hpq)
    clear hpq;go_wp2_with fail;go_quiet (fail);go_wp2_with fail;go_roundw
    case rel=>exact⟨k+1,by omega,by go_num,A1,Yh (below_drewN HB.o _)⟩
    case measure=>first|(simp[intOf];done)|(simp[intOf];omega)
   ·have g5:(p != q)=true:=by rw[YJ];exact hpq
    have HF:=@Yh (false=R) (by rw[<-HV.o,Ya (fun g=>hpq (by rw[<-A0.o.1,<-A0.o.2,g]))]);have BW:=YT B2 HB.o;clear hpq;go_wp2_with fail;go_quiet (fail);go_wp2_with fail;go_ret;exact⟨Z0 HF.o,below_drewN BW.o _⟩
  ·obtain rfl:k=n:=by omega
   have HF:=Yh (show true=R by
    rw[<-HV.o,Yb];refine List.ext_getElem (by rw[HN.o,HM.o]) (fun j h1 h2=>?_);have:=HALL.o j (by rw[<-HN.o];exact h1);rw[Z3 h1,Z3 h2]at this;exact this)
   have BW:=YT B2 HB.o;go_wp2_with fail;go_ret;exact⟨Z0 HF.o,BW.o⟩
theorem ZGb(l:List Int)(ao:Option Addr)(ac:Nat)(q:Int)(w:World)(hl:IRow w ao l)(ll:l.length<=1000)(hac:l.length<=ac) :
  Calls Tryz.prog 79 #[.slice ao l.length ac,.int .i64 q] w fun e w'=>e=.returned (.bool (l.contains q))/\Below w.heap.size w w':=by
 obtain⟨R,hR⟩:=Yn (l.contains q);rw[hR];have HR:=Yh hR;obtain⟨n,hn⟩:=Yn (l.length);have HN:=Yh hn;have HL:=Yh hl;rw[hn]at ll hac ⊢;clear hR hn hl;go_enter Tryz.func79,Tryz.ntmps79;go_wp2_with fail;go_loopw [9] (fun i wr=>∃k:Nat,k<=n/\i=.int .i64 k/\Hi (∀j,j<k->l.getD j 0≠q)/\Hi (Below w.heap.size w wr)) (fun i _=>n-(intOf i).toNat)
 case atStart=>exact⟨0,Yl _,rfl,Yh (fun j hj=>absurd hj (Yr _)),Yh (Y8 _ _)⟩
 case round =>
  obtain⟨k,hk,rfl,HALL,HB⟩:=hrel
  by_cases hkl:k<n
  ·have A0:k<l.length:=by rw[HN.o];exact hkl
   obtain⟨xb,xof,rfl,hxb,hxcell⟩:=(HL.o.below HB.o).cells (by omega);have cx:=hxcell k A0;have HM:=@Yh (l.getD k 0∈l) (by rw[Z3 A0];exact Yq A0);obtain⟨p,hp⟩:=Yn (l.getD k 0);rw[hp]at cx HM;have HP:=Yh hp;have A2:(k:Int)<(n:Int):=by omega
   clear hxcell hp
   by_cases hpq:p=q
   ·have g5:(p==q)=true:=by rw[YK];exact hpq
    have HF:=@Yh (true=R) (by rw[<-HR.o,<-hpq];exact(List.contains_iff_mem.2 HM.o).symm);clear hpq;go_wp2_with fail;go_ret;exact⟨Z0 HF.o,HB.o⟩
   ·have g5:(p==q)=false:=by rw[Yc];exact hpq
    have A1:=Yh (show ∀j,j<k+1->l.getD j 0≠q from fun j hj=>by
     rcases Ym (Ys hj)with c|c
     ·exact HALL.o j c
     ·subst c;rw[HP.o];exact hpq)
    clear hpq;go_wp2_with fail;go_roundw
    case rel=>exact⟨k+1,by omega,by go_num,A1,HB⟩
    case measure=>first|(simp[intOf];done)|(simp[intOf];omega)
  ·obtain rfl:k=n:=by omega
   have HF:=Yh (show false=R by
    rw[<-HR.o]
    symm
    cases hc:l.contains q
    ·rfl
    ·exfalso
     obtain⟨j,hj,e⟩:=List.getElem_of_mem (List.contains_iff_mem.1 hc);have:=HALL.o j (by rw[<-HN.o];exact hj);rw[Z3 hj]at this;exact this e)
   go_wp2_with fail;go_ret;exact⟨Z0 HF.o,HB.o⟩
structure Ez where
 sp:Sp
 po:Option Addr
 pc:Nat
def eC(z:Ez):List Value:=[.int .i64 z.sp.typ,.bool z.sp.via,.bool z.sp.many,.slice z.po z.sp.path.length z.pc]
theorem Zk2(z:Ez):(eC z).length=4:=rfl
theorem Z33(z:Ez):∀u∈eC z,u.oneCell'=true:=by
 intro u hu;simp only[eC,List.mem_cons,List.not_mem_nil,or_false]at hu
 rcases hu with rfl|rfl|rfl|rfl<;>rfl
theorem Zx7:(Tryz.prog.info? 115).map (fun i=>(i.zero,i.size,i.bytes))=some (some (.agg #[.int .i64 0,.bool false,.bool false,.slice none 0 0]),4,40):=by kernel_rfl
def mkE(t:Int)(z:Ez):Ez:=if z.sp.typ=t then { z with sp:={ z.sp with many:=true } } else z
def anyE(t:Int)(l:List Ez):Bool:=l.any fun z=>decide (z.sp.typ=t)
def addZ(seen:List Int)(l:List Ez)(x:Ez):List Ez:=if(!anyE x.sp.typ l&&!seen.contains x.sp.typ)=true then l.map (mkE x.sp.typ)++[x]else l.map (mkE x.sp.typ)
theorem Z78{t:Int}:∀{l:List Ez},anyE t l=false->l.map (mkE t)=l
 | [],_=>rfl
 | z::r,h=>by
  unfold anyE at h;rw[List.any_cons,Bool.or_eq_false_iff,Y1]at h;rw[List.map_cons,Z78 (l:=r) h.2];unfold mkE;rw[if_neg h.1]
theorem ZSd(t:Int)(l:List Ez):(l.map (·.sp)).any (fun e=>decide (e.typ=t))=anyE t l:=by
 unfold anyE;rw[List.any_map]
 rfl
theorem ZW8(seen:List Int)(l:List Ez)(x:Ez):(addZ seen l x).map (·.sp)=addS seen (l.map (·.sp)) x.sp:=by
 unfold addZ addS;rw[ZSd]
 cases ha:anyE x.sp.typ l
 ·rw[Z78 ha]
  cases hc:seen.contains x.sp.typ<;>simp
 ·rw[if_neg (by simp),if_pos rfl,List.map_map,List.map_map]
  refine List.map_congr_left fun z _=>?_
  show(mkE x.sp.typ z).sp=if z.sp.typ=x.sp.typ then { z.sp with many:=true } else z.sp
  unfold mkE
  split<;>rfl
theorem OwnG.base{β:Type}{k:Nat}{enc:β->List Value}{T:TypeId}{w:World}{base c:Nat}{v:Value}{l:List β}(h:OwnG k enc T w base v l)(hc:c<=base):OwnG k enc T w c v l:=by
 obtain⟨h1,h2⟩:=h;refine⟨h1,?_⟩
 rcases h2 with h2|⟨g,cap,cur,rfl,hg,rest⟩
 ·exact .inl h2
 ·exact .inr ⟨g,cap,cur,rfl,Yj hc hg,rest⟩
theorem ZTa{w w1:World}{b:Nat}{a0 a1 a2 a3 v:Value}{T:TypeId}(h:BlockAt w b #[a0,a1,a2,a3] T)(h1:w.setCell ⟨b,2,none⟩ v=w1):BlockAt w1 b #[a0,a1,v,a3] T:=by
 subst h1;have:=h.set 2 v
 simpa using this
theorem Zl0{α:Type}{l:List α}{k:Nat}(h:k<l.length):l.take (k+1)=l.take k++[l[k]]:=by
 rw[List.take_add_one,Yv h];rfl
set_option maxRecDepth 100000 in
theorem Z94(zs:List Ez)(ao:Option Addr)(ac:Nat)(seen:List Int)(so:Option Addr)(sc:Nat)(x:Ez)(w:World)(hE:GRow 4 eC (fun _=>True) w ao zs)(hl:zs.length<=1000)(hac:zs.length<=ac)(hs:IRow w so seen)(hsl:seen.length<=1000)(hsc:seen.length<=sc) :
  Calls Tryz.prog 62 #[.slice ao zs.length ac,.slice so seen.length sc,.agg #[.int .i64 x.sp.typ,.bool x.sp.via,.bool x.sp.many,.slice x.po x.sp.path.length x.pc]] w fun e w'=>∃v,e=.returned v/\OwnG 4 eC 115 w' w.heap.size v (addZ seen zs x)/\Below w.heap.size w w':=by
 obtain⟨xt,hxt⟩:=Yn (x.sp.typ);obtain⟨xl,hxl⟩:=Yn (x.sp.path.length);have Ai:=Yh (YH hxt hxl);have A1:=fun W (hb:Below w.heap.size w W)=>ZGb seen so sc xt W (hs.below hb) hsl hsc
 rw[hxt,hxl];obtain⟨w1,h1,k1,q1,z1⟩:=YA w #[.int .i64 xt,.bool x.sp.via,.bool x.sp.many,.slice x.po xl x.pc] 115;have O0:=@Yh ((w1.alloc (.cells #[] 115)).ownsRow w1.heap.size 115 4 (.slice (some ⟨w1.heap.size,0,none⟩) 0 0) 0 []) (World.ownsRow_made w1 #[] 0 (Yk _) (by unfold maxLen;omega) rfl);have B0:=@Yh (Below w1.heap.size w1 (w1.alloc (.cells #[] 115))) ((Y8 _ _).alloc (Yk _) _);obtain⟨w2,h2⟩:=Yn (w1.alloc (.cells #[] 115));rw[h2]at O0 B0;have B1:=Yh q1;have K1:=Yh k1;have HR:=Yh (hE.below q1);obtain⟨n,hn⟩:=Yn (zs.length);have HN:=Yh hn;obtain⟨sl,hsn⟩:=Yn (seen.length);rw[hn]at hl hac ⊢;rw[hsn]at A1 ⊢;have Aj:=Yh A1;obtain⟨R,hR⟩:=Yn (addZ seen zs x);have A3:=@Yh (R=if(!anyE xt zs&&!seen.contains xt)=true then zs.map (mkE xt)++[x]else zs.map (mkE xt)) (by rw[<-hR,<-hxt];rfl);rw[hR];have Af:=Yh (cell4 k1);obtain⟨i0,hi,hz0,hz1,hz2⟩:=info_parts Zx7;clear hE hs hsl hsc hn hsn hR hxt hxl k1 q1 z1 A1;go_enter Tryz.func62,Tryz.ntmps62;go_wp2_with fail;go_loopw [7,8,14] (fun v dn i wr=>∃(k:Nat),k<=n/\i=.int .i64 k/\dn=.bool (anyE xt (zs.take k))/\Hi (OwnG 4 eC 115 wr w1.heap.size v ((zs.take k).map (mkE xt)))/\Hi (Below w1.heap.size w1 wr)) (fun _ _ i _=>n-(intOf i).toNat)
 case atStart=>exact⟨0,Yl _,rfl,rfl,O0,B0⟩
 case round =>
  obtain⟨k,hk,rfl,rfl,HO,HB⟩:=hrel;obtain⟨A4,cx1,cx2,cx3⟩:=Af.o;have XB:=@Yh (w.heap.size<w1.heap.size) (K1.o.lt);have A4:=(HB.o.cell (p:=⟨w.heap.size,0,none⟩) XB.o).trans A4
  by_cases hkn:k<n
  ·have Ac:k<zs.length:=by rw[HN.o];exact hkn
   obtain⟨b,off,rfl,hb,-,hc⟩:=HR.o.cells (by omega);have hc:=hc k Ac;obtain⟨y,hy⟩:=Yn (zs[k]);rw[hy]at hc;have r0:=(HB.o.cell (p:=⟨b,off+k*4+0,none⟩) hb).trans (hc 0 _ rfl);have r1:=(HB.o.cell (p:=⟨b,off+k*4+1,none⟩) hb).trans (hc 1 _ rfl);have r2:=(HB.o.cell (p:=⟨b,off+k*4+2,none⟩) hb).trans (hc 2 _ rfl);have r3:=(HB.o.cell (p:=⟨b,off+k*4+3,none⟩) hb).trans (hc 3 _ rfl);rw[Nat.add_zero]at r0;have A8:=@Yh (zs.take (k+1)=zs.take k++[y]) (by rw[Zl0 Ac,hy]);have A0:=@Yh (((zs.take k).map (mkE xt)).length=k) (by rw[Yg,Y5,HN.o];omega);obtain⟨wa,ha,ka,qa,za⟩:=YA wr #[.int .i64 y.sp.typ,.bool y.sp.via,.bool y.sp.many,.slice y.po y.sp.path.length y.pc] 115;have KA:=Yh ka;have A9:=YT HB qa;have Aa:=Yh (HO.o.kept qa);have ON:=Yh (HO.o.not (.inr (Yk wr.heap.size)));have WR:=@Yh (w1.heap.size<=wr.heap.size) (HB.o.size);obtain⟨a0,a1,a2,a3⟩:=cell4 ka;have Ak:=ka.free 2;have Al:=(A9.o.cell (p:=⟨w.heap.size,0,none⟩) XB.o).trans (A4.symm▸Af.o.1:w1.cell? ⟨w.heap.size,0,none⟩=_);obtain⟨Y,hY⟩:=Yn ((zs.take k).map (mkE xt));obtain⟨d,hd⟩:=Yn (anyE xt (zs.take k));have HY:=Yh (YH hY hd);rw[hY]at HO Aa A0;rw[hd];have Am:(k:Int)<(n:Int):=by omega
   clear hc hb hy hY hd Ac ka qa za
   by_cases ht:y.sp.typ=xt
   ·have hq:(y.sp.typ==xt)=true:=by rw[YK];exact ht
    have HM:=@Yh (mkE xt y = { y with sp:={ y.sp with many:=true } }) (by unfold mkE;rw[if_pos ht]);have HA:=@Yh (anyE xt (zs.take (k+1))=true) (by rw[A8.o];unfold anyE;rw[List.any_append];simp[ht]);clear ht;obtain⟨wb,hb⟩:=Yn (wa.setCell ⟨wr.heap.size,2,none⟩ (.bool true));have Ag:=Yh (Z6 A9.o WR.o hb);have Ah:=Yh (Aa.o.set ON.o hb);have KB:=Yh (ZTa KA.o hb);obtain⟨b0,b1,b2,b3⟩:=cell4 KB.o;have A5:=@Yh (wb.ownsRow w1.heap.size 115 4 _ k (encs eC Y)) (by have:=Ah.o;unfold OwnG at this;rw[A0.o]at this;exact this);have SZ:=Yh Ag.o.size;go_wp2_with (at_builtin;refine wpList_append_own_at _ rfl _ _ 75 rfl w1.heap.size 115 i0 (.agg #[.int .i64 0,.bool false,.bool false,.slice none 0 0]) 4 40 Tryz.underlying75 hi hz0 hz1 hz2 rfl (by decide) _ k (encs eC Y) rfl (A5.o.alloc _) ⟨wb.heap.size,0,none⟩ 1 1 (eC { y with sp:={ y.sp with many:=true } }) rfl ?c1 ?c2 ?c3 ?c4 ?c5 ?c6 ?_)
    case c1=>rfl
    case c2=>first|exact Z9 _ _ _|exact fun j u h=>h
    case c3=>exact Z33 _
    case c4=>unfold maxLen;omega
    case c5=>omega
    case c6=>have:=SZ.o;simp;omega
    intro v' w6 hown hgrow _ hblk;have hp:=pushG (l:=Y) (r:=[mkE xt y]) (by first|(rw[A0.o];done)|(rw[A0.o];rfl)) (Yk _) Ah.o Ag.o ((Y8 _ _).alloc (Yk _) (.cells (eC { y with sp:={ y.sp with many:=true } }).toArray 115)) (by rw[Zs,HM.o];exact hown) hgrow (by simpa using hblk);have A6:=Yh hp.1;have A7:=Yh hp.2.1;clear hown hgrow hblk hp;go_wp2_with fail;go_roundw
    case rel=>exact⟨k+1,by omega,by go_num,by rw[HA.o],Yh (by rw[A8.o,Yu,HY.o.1];exact A6.o),A7⟩
    case measure=>first|(simp[intOf];done)|(simp[intOf];omega)
   ·have hq:(y.sp.typ==xt)=false:=by rw[Yc];exact ht
    have HM:=@Yh (mkE xt y=y) (by unfold mkE;rw[if_neg ht]);have HA:=@Yh (anyE xt (zs.take (k+1))=d) (by rw[A8.o,<-HY.o.2];unfold anyE;rw[List.any_append];simp[ht]);clear ht;have A5:=@Yh (wa.ownsRow w1.heap.size 115 4 _ k (encs eC Y)) (by have:=Aa.o;unfold OwnG at this;rw[A0.o]at this;exact this);have SZ:=Yh A9.o.size;go_wp2_with (at_builtin;refine wpList_append_own_at _ rfl _ _ 75 rfl w1.heap.size 115 i0 (.agg #[.int .i64 0,.bool false,.bool false,.slice none 0 0]) 4 40 Tryz.underlying75 hi hz0 hz1 hz2 rfl (by decide) _ k (encs eC Y) rfl (A5.o.alloc _) ⟨wa.heap.size,0,none⟩ 1 1 (eC y) rfl ?c1 ?c2 ?c3 ?c4 ?c5 ?c6 ?_)
    case c1=>rfl
    case c2=>first|exact Z9 _ _ _|exact fun j u h=>h
    case c3=>exact Z33 _
    case c4=>unfold maxLen;omega
    case c5=>omega
    case c6=>have:=SZ.o;simp;omega
    intro v' w6 hown hgrow _ hblk;have hp:=pushG (l:=Y) (r:=[mkE xt y]) (by first|(rw[A0.o];done)|(rw[A0.o];rfl)) (Yk _) Aa.o A9.o ((Y8 _ _).alloc (Yk _) (.cells (eC y).toArray 115)) (by rw[Zs,HM.o];exact hown) hgrow (by simpa using hblk);have A6:=Yh hp.1;have A7:=Yh hp.2.1;clear hown hgrow hblk hp;go_wp2_with fail;go_roundw
    case rel=>exact⟨k+1,by omega,by go_num,by rw[HA.o],Yh (by rw[A8.o,Yu,HY.o.1];exact A6.o),A7⟩
    case measure=>first|(simp[intOf];done)|(simp[intOf];omega)
  ·obtain rfl:k=n:=by omega
   have hz:zs.take k=zs:=Y3 (by rw[HN.o];exact Yk _);rw[hz]at HO ⊢;have Bw:=YT B1 HB.o;have A2:=Yh (Aj.o wr Bw.o);have Ad:=Yh B1.o.size;obtain⟨d,hd⟩:=Yn (anyE xt zs);rw[hd];have HD:=Yh hd;have A0:=@Yh ((zs.map (mkE xt)).length=k) (by rw[Yg,HN.o]);obtain⟨Y,hY⟩:=Yn (zs.map (mkE xt));rw[hY]at HO A3 A0;clear hz hd hY
   cases d
   ·obtain⟨g,hg⟩:∃g,seen.contains xt=g:=⟨_,rfl⟩
    rw[HD.o,hg]at A3;rw[hg]at A2;clear hg cx1 cx2 cx3
    cases g
    ·have HF:=@Yh (R=Y++[x]) (A3.o)
     go_wp2_with fail;refine A2.o.mono ?_;rintro e w5 ⟨rfl,b5⟩;have Ae:=YT HB b5;have Ab:=Yh (HO.o.kept b5);obtain⟨dx0,dx1,dx2,dx3⟩:=cell4 (K1.o.below Ae.o);clear A4 b5;have A5:=@Yh (w5.ownsRow w1.heap.size 115 4 _ k (encs eC Y)) (by have:=Ab.o;unfold OwnG at this;rw[A0.o]at this;exact this);have SZ:=Yh Ae.o.size;obtain⟨rfl,rfl⟩:=Ai.o;go_wp2_with (at_builtin;refine wpList_append_own_at _ rfl _ _ 75 rfl w1.heap.size 115 i0 (.agg #[.int .i64 0,.bool false,.bool false,.slice none 0 0]) 4 40 Tryz.underlying75 hi hz0 hz1 hz2 rfl (by decide) _ k (encs eC Y) rfl (A5.o.alloc _) ⟨w5.heap.size,0,none⟩ 1 1 (eC x) rfl ?c1 ?c2 ?c3 ?c4 ?c5 ?c6 ?_)
     case c1=>rfl
     case c2=>first|exact Z9 _ _ _|exact fun j u h=>h
     case c3=>exact Z33 _
     case c4=>unfold maxLen;omega
     case c5=>omega
     case c6=>have:=SZ.o;simp;omega
     intro v' w6 hown hgrow _ hblk;have hp:=pushG (l:=Y) (r:=[x]) (by first|(rw[A0.o];done)|(rw[A0.o];rfl)) (Yk _) Ab.o Ae.o ((Y8 _ _).alloc (Yk _) (.cells (eC x).toArray 115)) (by rw[Zs];exact hown) hgrow (by simpa using hblk);have A6:=Yh hp.1;have A7:=Yh hp.2.1;clear hown hgrow hblk hp;go_wp2_with fail;go_ret;exact⟨_,rfl,by rw[HF.o];exact A6.o.base Ad.o,YU B1 A7.o⟩
    ·have HF:=@Yh (R=Y) (A3.o)
     go_wp2_with fail;refine A2.o.mono ?_;rintro e w5 ⟨rfl,b5⟩;have Ab:=Yh (HO.o.kept b5);have B5:=YT Bw b5;clear b5;go_wp2_with fail;go_ret;exact⟨_,rfl,by rw[HF.o];exact Ab.o.base Ad.o,B5.o⟩
   ·have HF:=@Yh (R=Y) (by rw[A3.o,HD.o];rfl)
    clear A4 cx1 cx2 cx3;go_wp2_with fail;go_ret;exact⟨_,rfl,by rw[HF.o];exact HO.o.base Ad.o,Bw.o⟩
structure Wz where
 form:Int
 ms:List Mt
 mo:Option Addr
 mc:Nat
def wC(z:Wz):List Value:=[.int .i64 z.form,.slice z.mo z.ms.length z.mc]
theorem Z05(z:Wz):(wC z).length=2:=rfl
theorem Zrb(z:Wz):∀u∈wC z,u.oneCell'=true:=by
 intro u hu;simp only[wC,List.mem_cons,List.not_mem_nil,or_false]at hu
 rcases hu with rfl|rfl<;>rfl
theorem ZPd:(Tryz.prog.info? 120).map (fun i=>(i.zero,i.size,i.bytes))=some (some (.agg #[.int .i64 0,.slice none 0 0]),2,32):=by kernel_rfl
def InW(Sb:Nat->Prop)(w:World)(z:Wz):Prop:=MRowS Sb w z.mo z.ms/\z.ms.length<=z.mc
def dataW(l:Lk):Int×List Mt:=(l.form,l.ms)
def joinL(d:List Lk)(R:Un×List Lk×Int):Un×List Lk×Int:=if R.2.2≠0 then(noUn,[],R.2.2)else(R.1,d++R.2.1,0)
theorem Z71:∀(es:List Sp) (u:Un),joinL [] (lookT es u)=lookT es u
 | [],u=>rfl
 | s::r,u=>by
  unfold joinL;rw[lookT]
  by_cases c1:(underU u s.typ).2.2≠0
  ·rw[if_pos c1,if_pos c1]
  rw[if_neg c1]
  by_cases c2:(ownU (underU u s.typ).1 s.typ (underU u s.typ).2.1).2.2≠0
  ·rw[if_pos c2,if_pos c2]
  rw[if_neg c2]
  by_cases c3:(lookT r (ownU (underU u s.typ).1 s.typ (underU u s.typ).2.1).1).2.2≠0
  ·rw[if_pos c3,if_pos c3]
  rw[if_neg c3,if_neg (fun g=>g rfl)]
  rfl
theorem Zz1{d:List Lk}{s:Sp}{r:List Sp}{u V:Un}{f e:Int}(h:underU u s.typ=(V,f,e))(he:e≠0):joinL d (lookT (s::r) u)=(noUn,[],e):=by
 unfold joinL;rw[lookT,h,if_pos he,if_pos he]
theorem Zo0{d:List Lk}{s:Sp}{r:List Sp}{u V X:Un}{f e:Int}{ms:List Mt}(h:underU u s.typ=(V,f,0))(h2:ownU V s.typ f=(X,ms,e))(he:e≠0):joinL d (lookT (s::r) u)=(noUn,[],e):=by
 unfold joinL;rw[lookT,h,if_neg (show ¬((0:Int)≠0)from fun g=>g rfl),h2,if_pos he,if_pos he]
theorem ZO0{d:List Lk}{s:Sp}{r:List Sp}{u V X:Un}{f:Int}{ms:List Mt}(h:underU u s.typ=(V,f,0))(h2:ownU V s.typ f=(X,ms,0)):joinL d (lookT (s::r) u)=joinL (d++[⟨s,f,ms⟩]) (lookT r X):=by
 unfold joinL;rw[lookT,h,if_neg (show ¬((0:Int)≠0)from fun g=>g rfl),h2,if_neg (show ¬((0:Int)≠0)from fun g=>g rfl)]
 by_cases c3:(lookT r X).2.2≠0
 ·rw[if_pos c3,if_pos c3,if_pos c3]
 ·rw[if_neg c3,if_neg c3,if_neg (fun g=>g rfl)]
  simp
theorem Zd6(d:List Lk)(u:Un):joinL d (lookT [] u)=(u,d,0):=by
 unfold joinL;rw[lookT,if_neg (fun g=>g rfl),List.append_nil]
theorem ZC4{u:Un}(h:rightU u=true){i:Int}(hi:inL u.types i=true)(h0:(methU u i).2.2=0):rightU (methU u i).1=true/\Ext u.types (methU u i).1.types:=by
 have A0:=hi;unfold inL at A0;have A0:=Yf A0;obtain⟨z,rfl⟩:∃z:Nat,i=(z:Int):=⟨i.toNat,by omega⟩
 have hz:z<u.types.length:=by omega
 have hr:=h;rw[Z8,Yd]at hr;rw[ZF3 h hz]at h0 ⊢
 by_cases h8:u.types[z].kind=8
 ·rw[if_pos h8]at h0 ⊢
  obtain⟨n,hn,ho,hb⟩:=ZX0 h hz h8;rw[hn]at h0 ⊢;obtain⟨-,-,-,-,hm,-⟩:=oneU_iff.1 ho;rw[hb]at hm;obtain⟨g1,g2,-,-⟩:=(Za2 h (ZR0 hr.1 hz) hm).2 h0;exact⟨g1,g2⟩
 ·rw[if_neg h8]at h0 ⊢
  by_cases h7:u.types[z].kind=7
  ·rw[if_pos h7]
   exact⟨h,Ext.refl _⟩
  ·rw[if_neg h7]
   exact⟨h,Ext.refl _⟩
def ofR(V:Un)(typ form:Int):Int:=if kindAt V.types form=7 then form else typ
theorem Zf3{u V:Un}{i f:Int}(h:rightU u=true)(hi:inL u.types i=true)(he:underU u i=(V,f,0)):methU V (ofR V i f)=ownU V i f/\inL V.types (ofR V i f)=true/\rightU V=true/\Ext u.types V.types:=by
 obtain⟨r1,r2,r3,r4⟩:=(ZV h i).2 (by rw[he]);rw[he]at r1 r2 r3 r4;have r1:rightU V=true:=r1;have r2:Ext u.types V.types:=r2;have r3:inL V.types f=true:=r3;have A0:inL V.types i=true:=Zg0 r2 hi;unfold ofR ownU
 by_cases h7:kindAt V.types f=7
 ·rw[if_pos h7,if_pos h7]
  exact⟨rfl,r3,r1,r2⟩
 ·rw[if_neg h7,if_neg h7]
  refine⟨?_,A0,r1,r2⟩
  by_cases h8:kindAt V.types i=8
  ·rw[if_pos h8]
  ·rw[if_neg h8]
   have hk:kindAt u.types i≠8:=by
    intro g
    apply h8
    have:=ZS0 r2 hi (k:=8);unfold isB at this;rw[hi,A0,g]at this
    simpa using this
   rw[ZL8 h hi hk]at he;have e1:V=u:=(congrArg (·.1) he).symm;have e2:f=i:=(congrArg (·.2.1) he).symm;rw[e2]at h7;have A1:=A0;unfold inL at A1;have A1:=Yf A1;obtain⟨z,rfl⟩:∃z:Nat,i=(z:Int):=⟨i.toNat,by omega⟩
   have hz:z<V.types.length:=by omega
   rw[Ze hz]at h7 h8;rw[ZF3 r1 hz,if_neg h8,if_neg h7]
def Gl(V:Un)(r:List Sp):Prop:=rightU V=true/\∀s∈r,inL V.types s.typ=true
theorem Z31{u V X:Un}{s:Sp}{r:List Sp}{f:Int}{ms:List Mt}(h:Gl u (s::r))(he:underU u s.typ=(V,f,0))(h2:ownU V s.typ f=(X,ms,0)):Gl X r:=by
 obtain⟨h3,h4,h5,h6⟩:=Zf3 h.1 (h.2 s Yt) he;rw[h2]at h3;obtain⟨g1,g2⟩:=ZC4 h5 h4 (by rw[h3]);rw[h3]at g1 g2;exact⟨g1,fun t ht=>Zg0 g2 (Zg0 h6 (h.2 t (Yx _ ht)))⟩
theorem Z80{u:Un}{z:Nat}(hz:z<u.types.length):tyU u (z:Int)=u.types[z]:=by
 unfold tyU funT;rw[Yw,Z3 hz]
theorem Zu1{u:Un}(hr:rightT u.types=true)(h0:0<u.types.length){z:Nat}(hz:z<u.types.length)(j:Nat):inL u.types (u.types[z].kids.getD j 0)=true:=by
 unfold inL
 by_cases hj:j<u.types[z].kids.length
 ·rw[Z3 hj]
  have:=Zn hr hz _ (Yq hj);exact Yb (by omega)
 ·rw[List.getD_eq_getElem?_getD,List.getElem?_eq_none (by omega)]
  exact Yb (by show(0:Int)<=0/\(0:Int)<_;omega)
theorem ZBd{u:Un}(hr:rightT u.types=true)(h0:0<u.types.length)(s:Sp)(n:Nat){k:Int}(hk:inL u.types k=true):inL u.types (downS u s n k).typ=true:=by
 unfold downS
 by_cases h:(tyU u k).kind=1
 ·rw[if_pos h]
  unfold inL at hk;have hk:=Yf hk;obtain⟨z,rfl⟩:∃z:Nat,k=(z:Int):=⟨k.toNat,by omega⟩
  have hz:z<u.types.length:=by omega
  show inL u.types ((tyU u (z:Int)).kids.getD 0 0)=true
  rw[Z80 hz];exact Zu1 hr h0 hz 0
 ·rw[if_neg h]
  exact hk
theorem ZH3{u:Un}(hr:rightT u.types=true)(h0:0<u.types.length)(s:Sp):∀(ps:List (ByteArray×Int)) (n:Nat),(∀p∈ps,inL u.types p.2=true)->∀x∈embsT u s n ps,inL u.types x.typ=true
 | [],n,_,x,hx=>absurd hx (by show x ∉ ([]:List Sp);simp)
 | (w,k)::r,n,hp,x,hx=>by
  unfold embsT at hx
  rcases Yz.1 hx with g|g
  ·split at g
   ·obtain rfl:=Yo.1 g
    exact ZBd hr h0 s n (hp _ Yt)
   ·exact absurd g (by simp)
  ·exact ZH3 hr h0 s r (n+1) (fun p h=>hp p (Yx _ h)) x g
theorem ZDd{seen:List Int}{P:Int->Prop}{es:List Sp}{x:Sp}(h:∀e∈es,P e.typ)(hx:P x.typ):∀e∈addS seen es x,P e.typ:=by
 unfold addS;intro e he
 split at he
 ·obtain⟨y,hy,rfl⟩:=Y4.1 he
  split
  ·exact h y hy
  ·exact h y hy
 ·split at he
  ·exact h e he
  ·rcases Yz.1 he with g|g
   ·exact h e g
   ·obtain rfl:=Yo.1 g
    exact hx
theorem ZQ5{seen:List Int}{P:Int->Prop}:∀(xs es:List Sp),(∀e∈es,P e.typ)->(∀x∈xs,P x.typ)->∀e∈xs.foldl (addS seen) es,P e.typ
 | [],es,h,_,e,he=>h e he
 | x::r,es,h,hx,e,he=>ZQ5 r (addS seen es x) (ZDd h (hx x Yt)) (fun y hy=>hx y (Yx _ hy)) e he
theorem Zad{u:Un}(h:rightU u=true)(h0:0<u.types.length)(ls:List Lk)(seen:List Int)(hf:∀l∈ls,inL u.types l.form=true):Gl u (nextT u ls seen):=by
 have hr:=h;rw[Z8,Yd]at hr;refine⟨h,fun s hs=>?_⟩;unfold nextT at hs;refine ZQ5 (P:=fun t=>inL u.types t=true) (allEmbs u ls) [] (fun e he=>absurd he (by simp)) (fun x hx=>?_) s hs;unfold allEmbs at hx;obtain⟨l,hl,g⟩:=List.mem_flatMap.1 hx
 split at g
 ·have hi:=hf l hl
  unfold inL at hi;have hi:=Yf hi;obtain⟨z,hz⟩:∃z:Nat,l.form=(z:Int):=⟨l.form.toNat,by omega⟩
  have A0:z<u.types.length:=by omega
  rw[hz,Z80 A0]at g;refine ZH3 hr.1 h0 l.sp _ 0 (fun p hp=>?_) x g;have:=Zn hr.1 A0 p.2 (List.of_mem_zip hp).2;unfold inL;exact Yb (by omega)
 ·exact absurd g (by simp)
theorem Z09:∀{es:List Sp} {u:Un},Gl u es->(lookT es u).2.2=0->rightU (lookT es u).1=true/\Ext u.types (lookT es u).1.types/\(∀l∈(lookT es u).2.1,inL (lookT es u).1.types l.form=true)/\(lookT es u).2.1.map (·.sp)=es
 | [],u,h,_=>⟨h.1,Ext.refl _,fun l hl=>absurd hl (by show l ∉ ([]:List Lk);simp),rfl⟩
 | s::r,u,h,h0=>by
  obtain⟨⟨V,f,e1⟩,hR⟩:∃R,underU u s.typ=R:=⟨_,rfl⟩
  by_cases c1:e1=0
  ·subst c1
   obtain⟨o1,o2,o3,o4⟩:=Zf3 h.1 (h.2 s Yt) hR;obtain⟨⟨X,ms,e2⟩,hO⟩:∃R,ownU V s.typ f=R:=⟨_,rfl⟩
   by_cases c2:e2=0
   ·subst c2
    have hg:=Z31 h hR hO;rw[hO]at o1;obtain⟨m1,m2⟩:=ZC4 o3 o2 (by rw[o1]);rw[o1]at m2
    have hf:inL V.types f=true:=by
     have:=(ZV h.1 s.typ).2 (by rw[hR]);rw[hR]at this;exact this.2.2.1
    have he:lookT (s::r) u=if(lookT r X).2.2≠0 then(noUn,[],(lookT r X).2.2)else((lookT r X).1,⟨s,f,ms⟩::(lookT r X).2.1,0):=by
     rw[lookT,hR,if_neg (show ¬((0:Int)≠0)from fun g=>g rfl),hO,if_neg (show ¬((0:Int)≠0)from fun g=>g rfl)]
    rw[he]at h0 ⊢
    by_cases c3:(lookT r X).2.2≠0
    ·rw[if_pos c3]at h0
     exact absurd h0 c3
    ·rw[if_neg c3]
     obtain⟨i1,i2,i3,i4⟩:=Z09 hg (Y7 c3);refine⟨i1,(o4.trans m2).trans i2,fun l hl=>?_,by show s::(lookT r X).2.1.map (·.sp)=s::r;rw[i4]⟩
     rcases List.mem_cons.1 hl with g|g
     ·rw[g]
      exact Zg0 (show Ext V.types (lookT r X).1.types from Ext.trans m2 i2) hf
     ·exact i3 l g
   ·have:=Zo0 (d:=[]) (r:=r) hR hO c2
    rw[Z71]at this;rw[this]at h0;exact absurd h0 c2
  ·have:=Zz1 (d:=[]) (r:=r) hR c1
   rw[Z71]at this;rw[this]at h0;exact absurd h0 c1
structure Lv where
 u:Un
 es:List Sp
 ls:List Lk
 seen:List Int
 e:Int
def badL(e:Int):Lv:=⟨noUn,[],[],[],e⟩
def lkL(u:Un)(es:List Sp)(seen:List Int):Lv:=if(lookT es u).2.2≠0 then badL (lookT es u).2.2 else⟨(lookT es u).1,es,(lookT es u).2.1,seen,0⟩
def nextL(l:Lv):Lv:=lkL l.u (nextT l.u l.ls l.seen) (l.seen++(nextT l.u l.ls l.seen).map (·.typ))
def firstL(u:Un)(i:Int):Lv:=
 if(tyU u i).kind≠1 then lkL u [⟨i,false,[],false⟩] [i]
 else if(underU u ((tyU u i).kids.getD 0 0)).2.2≠0 then badL (underU u ((tyU u i).kids.getD 0 0)).2.2
 else if(tyU (underU u ((tyU u i).kids.getD 0 0)).1 (underU u ((tyU u i).kids.getD 0 0)).2.1).kind=1\/(tyU (underU u ((tyU u i).kids.getD 0 0)).1 (underU u ((tyU u i).kids.getD 0 0)).2.1).kind=7 then⟨u,[],[],[],0⟩
 else lkL (underU u ((tyU u i).kids.getD 0 0)).1 [⟨(tyU u i).kids.getD 0 0,true,[],false⟩] [(tyU u i).kids.getD 0 0]
def loopL(name:ByteArray):Nat->Lv->Un×Se×Int
 | 0,_=>(noUn,noSe,8)
 | m+1,l=>if l.e≠0 then(noUn,noSe,l.e)else match hadT l.u l.ls name with
  | [s]=>(l.u,s,0)
  | _::_::_=>(noUn,noSe,9)
  | []=>if l.es=[]then(noUn,noSe,8)else loopL name m (nextL l)
theorem Zp3(name:ByteArray):∀(m:Nat) (u:Un) (es:List Sp) (seen:List Int),loopL name m (lkL u es (seen++es.map (·.typ)))=seekT name m u es seen
 | 0,_,_,_=>rfl
 | m+1,u,es,seen=>by
  unfold loopL seekT
  by_cases h0:es=[]
  ·subst h0
   rw[if_pos rfl];have h1:lookT [] u=(u,[],0):=rfl;unfold lkL;rw[h1,if_neg (show ¬((0:Int)≠0)from fun g=>g rfl),if_neg (show ¬((0:Int)≠0)from fun g=>g rfl)]
   rfl
  ·rw[if_neg h0]
   by_cases c:(lookT es u).2.2≠0
   ·have hl:lkL u es (seen++es.map (·.typ))=badL (lookT es u).2.2:=by unfold lkL;rw[if_pos c]
    rw[hl,if_pos c];unfold badL;rw[if_pos c]
   ·have hl:lkL u es (seen++es.map (·.typ))=⟨(lookT es u).1,es,(lookT es u).2.1,seen++es.map (·.typ),0⟩:=by unfold lkL;rw[if_neg c]
    rw[hl,if_neg c,if_neg (show ¬((0:Int)≠0)from fun g=>g rfl)]
    show(match hadT (lookT es u).1 (lookT es u).2.1 name with
     | [s]=>((lookT es u).1,s,(0:Int))
     | _::_::_=>(noUn,noSe,9)
     | []=>if es=[]then(noUn,noSe,8)else loopL name m (nextL ⟨(lookT es u).1,es,(lookT es u).2.1,seen++es.map Sp.typ,0⟩))=_
    rw[if_neg h0];have ih:=Zp3 name m (lookT es u).1 (nextT (lookT es u).1 (lookT es u).2.1 (seen++es.map (·.typ))) (seen++es.map (·.typ));rw[<-ih]
    rfl
theorem Z3c(u:Un)(i:Int)(name:ByteArray):loopL name 7 (firstL u i)=selT u i name:=by
 unfold selT firstL frontT
 by_cases h1:(tyU u i).kind≠1
 ·rw[if_pos h1,if_pos h1,if_neg (show ¬((0:Int)≠0)from fun g=>g rfl)]
  exact Zp3 name 7 u [⟨i,false,[],false⟩] []
 ·rw[if_neg h1,if_neg h1]
  by_cases h2:(underU u ((tyU u i).kids.getD 0 0)).2.2≠0
  ·rw[if_pos h2,if_pos h2,if_pos h2]
   unfold loopL badL;rw[if_pos h2]
  ·rw[if_neg h2,if_neg h2]
   by_cases h3:(tyU (underU u ((tyU u i).kids.getD 0 0)).1 (underU u ((tyU u i).kids.getD 0 0)).2.1).kind=1\/(tyU (underU u ((tyU u i).kids.getD 0 0)).1 (underU u ((tyU u i).kids.getD 0 0)).2.1).kind=7
   ·rw[if_pos h3,if_pos h3,if_neg (show ¬((0:Int)≠0)from fun g=>g rfl)]
    rfl
   ·rw[if_neg h3,if_neg h3,if_neg (show ¬((0:Int)≠0)from fun g=>g rfl)]
    exact Zp3 name 7 _ [⟨(tyU u i).kids.getD 0 0,true,[],false⟩] []
theorem Zx1{l:List Ty}(h:rightT l=true):22<=l.length/\l.length<=400:=by
 unfold rightT at h;rw[Yd]at h;exact Yf h.1
theorem ZB0{l:List Ty}(h:rightT l=true){z:Nat}(hz:z<l.length)(h6:l[z].kind=6):l[z].words.length=l[z].kids.length/\l[z].kids.length<=16/\∀w∈l[z].words,0<w.size:=by
 by_cases h22:z<22
 ·rw[Zl h hz h22]at h6
  unfold bas at h6
  split at h6
  ·exact absurd (show(0:Int)=6 from h6) (by decide)
  ·exact absurd (show(7:Int)=6 from h6) (by decide)
 ·have hm:=(Zq h hz h22).1
  unfold madeB at hm;rw[Yd]at hm;have hm:=hm.2;rw[h6]at hm;simp only[show ¬((6:Int)=1\/(6:Int)=2)by omega,show ¬(6:Int)=3 by omega,show ¬(6:Int)=4 by omega,show ¬(6:Int)=5 by omega,if_false,if_true,Yd,decide_eq_true_eq]at hm;refine⟨hm.1.2.2.2,hm.1.2.2.1,fun w hw=>?_⟩;obtain⟨i,hi,rfl⟩:=List.getElem_of_mem hw;have hf:=hm.2;unfold fieldsB at hf;rw[List.all_eq_true]at hf;have:=hf i (List.mem_range.2 hi);unfold fieldB at this;rw[Yd,Z3 hi]at this;have hn:=this.1
  apply Y7
  intro h0
  have e:fieldT l[z].words[i]=l[z].words[i]:=by
   unfold fieldT;rw[if_neg (fun g=>h0 g.1)]
  rw[e,ZZ0 _ (fun g=>h0 g.1)]at hn;exact absurd hn (by decide)
theorem ZD2{l:List Ty}(h:rightT l=true){z:Nat}(hz:z<l.length)(h1:l[z].kind=1):l[z].kids.length=1:=by
 by_cases h22:z<22
 ·rw[Zl h hz h22]at h1
  unfold bas at h1
  split at h1
  ·exact absurd (show(0:Int)=1 from h1) (by decide)
  ·exact absurd (show(7:Int)=1 from h1) (by decide)
 ·have hm:=(Zq h hz h22).1
  unfold madeB at hm;rw[Yd]at hm;have hm:=hm.2;rw[if_pos (.inl h1),Yd,decide_eq_true_eq]at hm;exact hm.2.1
theorem Zy5(a:Int):∀l:List Int,l.Nodup->l.length<=(l.filter (fun x=>decide (x≠a))).length+1
 | [],_=>by simp
 | x::r,h=>by
  obtain⟨h1,h2⟩:=List.nodup_cons.1 h
  by_cases hx:x=a
  ·have e:r.filter (fun x=>decide (x≠a))=r:=List.filter_eq_self.2 (fun y hy=>Yb (fun g=>h1 (by rw[hx,<-g];exact hy)))
   rw[List.filter_cons_of_neg (by simp[hx]),e,List.length_cons];exact Yk _
  ·rw[List.filter_cons_of_pos (by simp[hx]),List.length_cons,List.length_cons]
   exact Nat.succ_le_succ (Zy5 a r h2)
theorem ZP7:∀(n:Nat) (l:List Int),l.Nodup->(∀t∈l,0<=t/\t<(n:Int))->l.length<=n
 | 0,[],_,_=>Yk _
 | 0,x::r,_,h=>absurd (h x Yt) (by omega)
 | n+1,l,hn,h=>by
  have h1:=Zy5 (n:Int) l hn
  have h2:=ZP7 n (l.filter (fun x=>decide (x≠(n:Int)))) (List.Pairwise.filter _ hn) (fun t ht=>by
   obtain⟨g1,g2⟩:=List.mem_filter.1 ht;have:=h t g1;have:=Yf g2
   omega)
  omega
theorem ZN1{l:List Ty}(hr:rightT l=true){xs:List Int}(hn:xs.Nodup)(h:∀t∈xs,inL l t=true):xs.length<=400:=by
 have h1:=ZP7 l.length xs hn (fun t ht=>by
  have:=h t ht;unfold inL at this;exact Yf this)
 have h2:=Zx1 hr
 omega
theorem Z49:∀{es:List Sp} {u:Un},Gl u es->(lookT es u).2.2=0->∀l∈(lookT es u).2.1,l.ms.length<=16
 | [],u,h,_,l,hl=>absurd hl (by show l ∉ ([]:List Lk);simp)
 | s::r,u,h,h0,l,hl=>by
  obtain⟨⟨V,f,e1⟩,hR⟩:∃R,underU u s.typ=R:=⟨_,rfl⟩
  by_cases c1:e1=0
  ·subst c1
   obtain⟨o1,o2,o3,o4⟩:=Zf3 h.1 (h.2 s Yt) hR;obtain⟨⟨X,ms,e2⟩,hO⟩:∃R,ownU V s.typ f=R:=⟨_,rfl⟩
   by_cases c2:e2=0
   ·subst c2
    have hg:=Z31 h hR hO;rw[hO]at o1;have hms:=((Zj5 o3 (ofR V s.typ f)).2 (by rw[o1])).2.2.2;rw[o1]at hms
    have he:lookT (s::r) u=if(lookT r X).2.2≠0 then(noUn,[],(lookT r X).2.2)else((lookT r X).1,⟨s,f,ms⟩::(lookT r X).2.1,0):=by
     rw[lookT,hR,if_neg (show ¬((0:Int)≠0)from fun g=>g rfl),hO,if_neg (show ¬((0:Int)≠0)from fun g=>g rfl)]
    rw[he]at h0 hl
    by_cases c3:(lookT r X).2.2≠0
    ·rw[if_pos c3]at h0
     exact absurd h0 c3
    ·rw[if_neg c3]at hl
     rcases List.mem_cons.1 hl with g|g
     ·rw[g]
      exact hms
     ·exact Z49 hg (Y7 c3) l g
   ·have:=Zo0 (d:=[]) (r:=r) hR hO c2
    rw[Z71]at this;rw[this]at h0;exact absurd h0 c2
  ·have:=Zz1 (d:=[]) (r:=r) hR c1
   rw[Z71]at this;rw[this]at h0;exact absurd h0 c1
structure Lok (n:Nat) (l:Lv):Prop where
 r:rightU l.u=true
 es:∀s∈l.es,inL l.u.types s.typ=true
 ls:∀x∈l.ls,inL l.u.types x.form=true
 sp:l.ls.map (·.sp)=l.es
 ed:(l.es.map (·.typ)).Nodup
 nd:l.seen.Nodup
 si:∀t∈l.seen,inL l.u.types t=true
 pl:∀s∈l.es,s.path.length<=n
 ml:∀x∈l.ls,x.ms.length<=16
theorem ZI7{n:Nat}{u:Un}{es:List Sp}{seen:List Int}(hG:Gl u es)(hed:(es.map (·.typ)).Nodup)(hnd:seen.Nodup)(hsi:∀t∈seen,inL u.types t=true)(hpl:∀s∈es,s.path.length<=n)(h0:(lkL u es seen).e=0):Lok n (lkL u es seen):=by
 unfold lkL at h0 ⊢
 by_cases c:(lookT es u).2.2≠0
 ·rw[if_pos c]at h0
  exact absurd h0 c
 ·rw[if_neg c]
  obtain⟨h1,h2,h3,h4⟩:=Z09 hG (Y7 c);exact⟨h1,fun s hs=>Zg0 h2 (hG.2 s hs),h3,h4,hed,hnd,fun t ht=>Zg0 h2 (hsi t ht),hpl,Z49 hG (Y7 c)⟩
theorem Znb(u:Un)(s:Sp)(n:Nat)(k:Int):(downS u s n k).path=s.path++[(n:Int)]:=by
 unfold downS
 split<;>rfl
theorem Zj6(u:Un)(s:Sp):∀(ps:List (ByteArray×Int)) (n:Nat),∀x∈embsT u s n ps,x.path.length=s.path.length+1
 | [],n,x,hx=>absurd hx (by show x ∉ ([]:List Sp);simp)
 | (w,k)::r,n,x,hx=>by
  unfold embsT at hx
  rcases Yz.1 hx with g|g
  ·split at g
   ·obtain rfl:=Yo.1 g
    rw[Znb];simp
   ·exact absurd g (by simp)
  ·exact Zj6 u s r (n+1) x g
theorem Zvc{u:Un}{ls:List Lk}{n:Nat}(h:∀l∈ls,l.sp.path.length<=n):∀x∈allEmbs u ls,x.path.length<=n+1:=by
 intro x hx;unfold allEmbs at hx;obtain⟨l,hl,g⟩:=List.mem_flatMap.1 hx
 split at g
 ·have:=Zj6 u l.sp _ 0 x g
  have:=h l hl
  omega
 ·exact absurd g (by simp)
theorem ZBb{seen:List Int}{n:Nat}{es:List Sp}{x:Sp}(h:∀e∈es,e.path.length<=n)(hx:x.path.length<=n):∀e∈addS seen es x,e.path.length<=n:=by
 unfold addS;intro e he
 split at he
 ·obtain⟨y,hy,rfl⟩:=Y4.1 he
  split
  ·exact h y hy
  ·exact h y hy
 ·split at he
  ·exact h e he
  ·rcases Yz.1 he with g|g
   ·exact h e g
   ·obtain rfl:=Yo.1 g
    exact hx
theorem Zjc(t:Int)(es:List Sp):(es.map (fun e=>if e.typ=t then { e with many:=true } else e)).map (·.typ)=es.map (·.typ):=by
 rw[List.map_map]
 apply List.map_congr_left
 intro e _
 show(if e.typ=t then({ e with many:=true }:Sp)else e).typ=e.typ
 split<;>rfl
theorem ZOd{seen:List Int}{es:List Sp}{x:Sp}(h:(seen++es.map (·.typ)).Nodup):(seen++(addS seen es x).map (·.typ)).Nodup:=by
 unfold addS
 split
 ·rw[Zjc]
  exact h
 ·rename_i h1
  split
  ·exact h
  ·rename_i h2
   rw[Yu,<-Y6];refine List.nodup_append.2 ⟨h,by simp,fun a ha b hb e=>?_⟩;have hb:b=x.typ:=by simpa using hb
   subst hb;subst e
   rcases Yz.1 ha with g|g
   ·exact h2 (List.contains_iff_mem.2 g)
   ·obtain⟨y,hy,hyt⟩:=Y4.1 g
    exact h1 (List.any_eq_true.2 ⟨y,hy,Yb hyt⟩)
theorem ZD3{seen:List Int}:∀(xs es:List Sp),(seen++es.map (·.typ)).Nodup->(seen++(xs.foldl (addS seen) es).map (·.typ)).Nodup
 | [],es,h=>h
 | x::r,es,h=>ZD3 r (addS seen es x) (ZOd h)
theorem ZH6{seen:List Int}{n:Nat}:∀(xs es:List Sp),(∀e∈es,e.path.length<=n)->(∀x∈xs,x.path.length<=n)->∀e∈xs.foldl (addS seen) es,e.path.length<=n
 | [],es,h,_,e,he=>h e he
 | x::r,es,h,hx,e,he=>ZH6 r (addS seen es x) (ZBb h (hx x Yt)) (fun y hy=>hx y (Yx _ hy)) e he
theorem ZK{u:Un}(h:rightU u=true):0<u.types.length:=by
 rw[Z8,Yd]at h;have:=Zx1 h.1
 omega
theorem ZO5{n:Nat}{l:Lv}(h:Lok n l):Gl l.u (nextT l.u l.ls l.seen):=Zad h.r (ZK h.r) l.ls l.seen h.ls
theorem ZK5{n:Nat}{l:Lv}(h:Lok n l):(l.seen++(nextT l.u l.ls l.seen).map (·.typ)).Nodup:=ZD3 _ [] (by simpa using h.nd)
theorem ZY5{n:Nat}{l:Lv}(h:Lok n l):∀s∈nextT l.u l.ls l.seen,s.path.length<=n+1:=ZH6 _ [] (fun e he=>absurd he (by simp)) (Zvc (fun x hx=>h.pl _ (by rw[<-h.sp];exact List.mem_map_of_mem hx)))
theorem ZQb{n:Nat}{l:Lv}(h:Lok n l)(h0:(nextL l).e=0):Lok (n+1) (nextL l):=by
 have hg:=ZO5 h;have hn:=ZK5 h;refine ZI7 hg (List.nodup_append.1 hn).2.1 hn (fun t ht=>?_) (ZY5 h) h0
 rcases Yz.1 ht with g|g
 ·exact h.si t g
 ·obtain⟨y,hy,rfl⟩:=Y4.1 g
  exact hg.2 y hy
theorem Z9b{u:Un}{i:Int}(hr:rightU u=true)(hi:inL u.types i=true)(h0:(firstL u i).e=0):Lok 0 (firstL u i):=by
 have A1:∀{V:Un} {s:Sp},rightU V=true->inL V.types s.typ=true->s.path=[]->(lkL V [s] [s.typ]).e=0->Lok 0 (lkL V [s] [s.typ]):=fun {V s} h1 h2 h3 h4 =>
  ZI7 ⟨h1,fun x hx=>by obtain rfl:=Yo.1 hx;exact h2⟩ (by simp) (by simp) (fun t ht=>by obtain rfl:=Yo.1 ht;exact h2) (fun x hx=>by obtain rfl:=Yo.1 hx;rw[h3];exact Yk _) h4
 unfold firstL at h0 ⊢
 by_cases h1:(tyU u i).kind≠1
 ·rw[if_pos h1]at h0 ⊢
  exact A1 (s:=⟨i,false,[],false⟩) hr hi rfl h0
 ·rw[if_neg h1]at h0 ⊢
  by_cases h2:(underU u ((tyU u i).kids.getD 0 0)).2.2≠0
  ·rw[if_pos h2]at h0
   exact absurd h0 h2
  ·rw[if_neg h2]at h0 ⊢
   by_cases h3:(tyU (underU u ((tyU u i).kids.getD 0 0)).1 (underU u ((tyU u i).kids.getD 0 0)).2.1).kind=1\/(tyU (underU u ((tyU u i).kids.getD 0 0)).1 (underU u ((tyU u i).kids.getD 0 0)).2.1).kind=7
   ·rw[if_pos h3]
    exact⟨hr,fun s hs=>absurd hs (by simp),fun s hs=>absurd hs (by simp),rfl,by simp,by simp,fun s hs=>absurd hs (by simp),fun s hs=>absurd hs (by simp),fun s hs=>absurd hs (by simp)⟩
   ·rw[if_neg h3]at h0 ⊢
    have hu:=(ZV hr ((tyU u i).kids.getD 0 0)).2 (Y7 h2);have A0:=hi;unfold inL at A0;have A0:=Yf A0;obtain⟨z,rfl⟩:∃z:Nat,i=(z:Int):=⟨i.toNat,by omega⟩
    have hz:z<u.types.length:=by omega
    have A2:=hr;rw[Z8,Yd]at A2;refine A1 (s:=⟨(tyU u (z:Int)).kids.getD 0 0,true,[],false⟩) hu.1 ?_ rfl h0;exact Zg0 hu.2.1 (by rw[Z80 hz];exact Zu1 A2.1 (ZK hr) hz 0)
theorem Lok.len{n:Nat}{l:Lv}(h:Lok n l):l.es.length<=400/\l.seen.length<=400:=by
 have hr:=h.r;rw[Z8,Yd]at hr;refine⟨?_,ZN1 hr.1 h.nd h.si⟩;have:=ZN1 hr.1 h.ed (fun t ht=>by obtain⟨y,hy,rfl⟩:=Y4.1 ht;exact h.es y hy)
 simpa using this
def pC(z:Ez):List Value:=[.int .i64 z.sp.typ,.bool z.sp.via,.slice z.po z.sp.path.length z.pc,.bool z.sp.many]
theorem Z08(z:Ez):(pC z).length=4:=rfl
theorem Zpa(z:Ez):∀u∈pC z,u.oneCell'=true:=by
 intro u hu;simp only[pC,List.mem_cons,List.not_mem_nil,or_false]at hu
 rcases hu with rfl|rfl|rfl|rfl<;>rfl
theorem ZFa:(Tryz.prog.info? 100).map (fun i=>(i.zero,i.size,i.bytes))=some (some (.agg #[.int .i64 0,.bool false,.slice none 0 0,.bool false]),4,48):=by kernel_rfl
def PRow(Sb:Nat->Prop)(w:World)(v:Value)(es:List Sp):Prop:=∃lo cap,∃zs:List Ez,v=.slice lo es.length cap/\zs.map (·.sp)=es/\GRow 4 pC Sb w lo zs/\zs.length<=cap/\∀z∈zs,IRowS Sb w z.po z.sp.path/\z.sp.path.length<=z.pc
theorem ZA4(Sb:Nat->Prop)(w:World):PRow Sb w (.slice none 0 0) []:=⟨none,0,[],rfl,rfl,.inl rfl,Yk _,fun z hz=>absurd hz (by simp)⟩
theorem ZE7{Sb:Nat->Prop}{w w1:World}{t:Int}{via:Bool}{T:TypeId}(hSb:Sb w.heap.size)(h:w.alloc (.cells #[.int .i64 t,.bool via,.slice none 0 0,.bool false] T)=w1):PRow Sb w1 (.slice (some ⟨w.heap.size,0,none⟩) 1 1) [⟨t,via,[],false⟩]:=by
 have k:=(Za h).1;obtain⟨c0,c1,c2,c3⟩:=cell4 k;refine⟨_,1,[⟨⟨t,via,[],false⟩,none,0⟩],rfl,rfl,.inr ⟨w.heap.size,0,rfl,k.lt,hSb,fun i hi j v hv=>?_⟩,Yk _,fun z hz=>by obtain rfl:=Yo.1 hz;exact⟨.inl rfl,Yk _⟩⟩;obtain rfl:i=0:=by simpa using hi
 have hv:(pC ⟨⟨t,via,[],false⟩,none,0⟩)[j]? = some v:=hv;simp only[Nat.zero_add,Nat.zero_mul]
 match j,hv with
 | 0,hv=>exact c0.trans hv
 | 1,hv=>exact c1.trans hv
 | 2,hv=>exact c2.trans hv
 | 3,hv=>exact c3.trans hv
 | j+4,hv=>exact absurd hv (by simp[pC])
set_option maxRecDepth 100000 in
theorem ZS9(Sb:Nat->Prop)(u:Un)(z:Nat)(wb:Nat)(W0 w:World)(hB:Below W0.heap.size W0 w)(hwb:W0.heap.size<=wb)(hSb:∀b,w.heap.size<=b->Sb b)(hns:¬Sb wb)(hK:WkAt Sb w wb u 0)(hE:Env W0)(hr:rightU u=true)(hzl:z<u.types.length) :
  Calls Tryz.prog 45 #[.pointer (some ⟨wb,0,none⟩),.int .i64 z] w fun e w'=>∃v V,e=.returned v/\PRow Sb w' v (frontT u z).2.1/\WkR Sb W0 w wb V (frontT u z).2.2 w'/\((frontT u z).2.2=0->V=(frontT u z).1):=by
 have A1:=hr;rw[Z8,Yd]at A1;obtain⟨ao,no,ac,nc,hKB,hU⟩:=hK;obtain⟨ab,aof,rfl,hab,hac2⟩:=hU.o.types.cells (by omega);obtain⟨xw,xwc,xk,xkc,a0,a1,a2,a3,a4,hwc,hkc,hxc⟩:=hac2 z hzl;have Af:=Yh (fun h1=>ZD2 A1.1 hzl h1);have A9:=Zu1 A1.1 (ZK hr) hzl 0;obtain⟨G,hG⟩:=Yn (frontT u (z:Int))
 have Aa:G=if u.types[z].kind≠1 then(u,[⟨(z:Int),false,[],false⟩],0)
   else if(underU u (u.types[z].kids.getD 0 0)).2.2≠0 then(noUn,[],(underU u (u.types[z].kids.getD 0 0)).2.2)
   else if(tyU (underU u (u.types[z].kids.getD 0 0)).1 (underU u (u.types[z].kids.getD 0 0)).2.1).kind=1\/(tyU (underU u (u.types[z].kids.getD 0 0)).1 (underU u (u.types[z].kids.getD 0 0)).2.1).kind=7 then((underU u (u.types[z].kids.getD 0 0)).1,[],0)
   else((underU u (u.types[z].kids.getD 0 0)).1,[⟨u.types[z].kids.getD 0 0,true,[],false⟩],0):=by
  rw[<-hG];unfold frontT;rw[Z80 hzl]
 rw[hG];obtain⟨x,hx⟩:=Yn (u.types[z]);rw[hx]at a0 a1 a2 a3 a4 hwc hkc hxc Af A9 Aa;have Ag:=Yh Aa;obtain⟨L,hL⟩:=Yn (u.types.length);obtain⟨n,hn⟩:=Yn (u.named.length);rw[hL,hn]at hKB;have Al:=hU.tl;rw[hL]at Al hzl;have AA:(z:Int)<(L:Int):=by omega
 obtain⟨m,hm⟩:=Yn (x.words.length);obtain⟨kl,hkl⟩:=Yn (x.kids.length);rw[hm]at a3;rw[hkl]at a4;have Ab:=Yh hkl;obtain⟨w1,h1,k1,q1,z1⟩:=YA w #[.int .i64 x.kind,.string x.name,.int .i64 x.n,.slice xw m xwc,.slice xk kl xkc] 50;have Q1:=Yh q1;have Ac:=Yh hSb;have Am:=Yh hxc;have B1:=Yh (hB.trans (q1.mono hB.size));obtain⟨y0,y1,y2⟩:=cell3m hKB;obtain⟨d0,d1,d2,d3,d4⟩:=cell5 k1;have An:=Yh A9;have Ao:=Yh hE;have Ap:=Yh hr;have Aq:=Yh hns;have Ar:=Yh hwb;have Ah:=@Yh (WkAt Sb w1 wb u 0) (⟨some ⟨ab,aof,none⟩,no,ac,nc,by rw[hL,hn];exact hKB.below q1,hU.same (SameS.below q1)⟩);clear hG Aa hx hL hn hm hkl hKB hU hr A1 k1 q1 z1 hac2 hwc hkc hxc hB hSb hns hE A9 hwb hab;go_enter Tryz.func45,Tryz.ntmps45
 by_cases hk:x.kind=1
 case neg =>
  have A0:=@Yh (G=(u,[⟨(z:Int),false,[],false⟩],0)) (by rw[Ag.o,if_pos hk]);have hq:(x.kind != 1)=true:=by rw[YJ];exact hk
  clear hk;obtain⟨w2,h2⟩:=Yn (w1.alloc (.cells #[.int .i64 z,.bool false,.slice none 0 0,.bool false] 100));have HP:=Yh (ZE7 (Sb:=Sb) (Ac.o _ Q1.o.size) h2);have q2:=(Za h2).2.1
  have W2:=Yh (show WkR Sb W0 w wb u 0 w2 from by
   obtain⟨ao',no',ac',nc',hk',hu'⟩:=Ah.o;exact⟨⟨ao',no',ac',nc',hk'.below q2,hu'.same (SameS.below q2)⟩,(SameX.below (c:=wb) Q1.o).trans (SameX.below q2),YU B1 q2⟩)
  clear q2;go_wp2_with fail;go_ret;exact⟨_,u,rfl,by rw[A0.o];exact HP.o,by rw[A0.o];exact W2.o,fun _=>by rw[A0.o]⟩
 have hq:(x.kind != 1)=false:=by rw[bne_eq_false_iff_eq];exact hk
 obtain⟨q,hq0⟩:=Yn (x.kids.getD 0 0);have A4:=Ag.o;rw[if_neg (fun g=>g hk),hq0]at A4;have Ai:=An.o;rw[hq0]at Ai;have A5:kl=1:=by rw[<-Ab.o];exact Af.o hk
 subst A5;obtain⟨kb,kof,rfl,hkb,hkc⟩:=Am.o.kids.cells (by rw[Ab.o];decide);have c0:=hkc 0 (by rw[Ab.o];decide);rw[Nat.add_zero,hq0]at c0;have c0:=(Q1.o.cell (p:=⟨kb,kof,none⟩) hkb).trans c0;have A2:=Zx2 Sb u q wb W0 w1 B1.o Ar.o (fun b hb=>Ac.o b (Yj Q1.o.size hb)) Aq.o Ah.o Ao.o;obtain⟨⟨V,f,e1⟩,hR⟩:∃R,underU u q=R:=⟨_,rfl⟩
 rw[hR]at A4 A2;have HR:=Yh hR;have Aj:=Yh A4;have As:=Yh A2;clear hk hq0 A4 Ai hkb hkc hR A2;go_wp2_with fail;refine As.o.mono ?_;rintro e9 w2 ⟨rfl,hWR⟩;have A3:=@Yh (WkR Sb W0 w wb V e1 w2) (⟨hWR.1,(SameX.below (c:=wb) Q1.o).trans hWR.2.1,hWR.2.2⟩);obtain⟨a2',o2',c2',n2',hk2,hu2⟩:=hWR.1;have At:=Yh hu2;have Ak:=Yh hk2;clear hWR hk2 hu2 y0 y1 y2 d0 d1 d2 d3 d4 a0 a1 a2 a3 a4 c0 h1;obtain⟨L2,hL2⟩:=Yn (V.types.length);have Au:=Yh hL2;rw[hL2]at Ak;clear hL2;obtain⟨y0,y1,y2⟩:=cell3m Ak.o
 by_cases he:e1=0
 case neg =>
  have A0:=@Yh (G=(noUn,[],e1)) (by rw[Aj.o,if_pos he]);have Av:(e1 != 0)=true:=by rw[YJ];exact he
  have Aw:=Yh he;clear he;go_wp2_with fail;go_ret;exact⟨_,V,rfl,by rw[A0.o];exact ZA4 _ _,by rw[A0.o];exact A3.o,fun h=>absurd (show e1=0 by rw[A0.o]at h;exact h) Aw.o⟩
 subst he;have Av:((0:Int) != 0)=false:=rfl;have A6:=Aj.o;rw[if_neg (fun g=>g rfl)]at A6;have A7:=(ZV Ap.o q).2 (by rw[HR.o]);rw[HR.o]at A7;have Ax:rightU V=true:=A7.1;have A8:inL V.types f=true:=A7.2.2.1;unfold inL at A8;have A8:=Yf A8;obtain⟨zf,rfl⟩:∃zf:Nat,f=(zf:Int):=⟨f.toNat,by omega⟩
 have Ad:zf<V.types.length:=by omega
 obtain⟨vb,vof,rfl,hvb,hvcl⟩:=At.o.o.types.cells (by omega);obtain⟨_,_,_,_,k8,-,-,-,-,-,-,-⟩:=hvcl zf Ad;obtain⟨kf,hkf⟩:=Yn (V.types[zf].kind);rw[Z80 Ad,hkf]at A6;rw[hkf]at k8;have Ae:=Yh A6;have Ay:(zf:Int)<(L2:Int):=by rw[<-Au.o];omega
 clear A6 A7 Ax A8 hvcl hkf Ad hvb
 by_cases h1:kf=1
 ·have A0:=@Yh (G=(V,[],0)) (by rw[Ae.o,if_pos (.inl h1)])
  have A5:(kf==1)=true:=by rw[YK];exact h1
  clear h1;go_wp2_with fail;go_ret;exact⟨_,V,rfl,by rw[A0.o];exact ZA4 _ _,by rw[A0.o];exact A3.o,fun _=>by rw[A0.o]⟩
 by_cases h7:kf=7
 ·have A0:=@Yh (G=(V,[],0)) (by rw[Ae.o,if_pos (.inr h7)])
  have A5:(kf==1)=false:=by rw[Yc];exact h1
  have Az:(kf==7)=true:=by rw[YK];exact h7
  clear h1 h7;go_wp2_with fail;go_ret;exact⟨_,V,rfl,by rw[A0.o];exact ZA4 _ _,by rw[A0.o];exact A3.o,fun _=>by rw[A0.o]⟩
 have A0:=@Yh (G=(V,[⟨q,true,[],false⟩],0)) (by rw[Ae.o,if_neg (fun g=>g.elim h1 h7)]);have A5:(kf==1)=false:=by rw[Yc];exact h1
 have Az:(kf==7)=false:=by rw[Yc];exact h7
 clear h1 h7;obtain⟨w3,h3⟩:=Yn (w2.alloc (.cells #[.int .i64 q,.bool true,.slice none 0 0,.bool false] 100));have HP:=Yh (ZE7 (Sb:=Sb) (Ac.o _ A3.o.2.1.1) h3);have q3:=(Za h3).2.1
 have W3:=Yh (show WkR Sb W0 w wb V 0 w3 from by
  obtain⟨⟨ao',no',ac',nc',hk',hu'⟩,hs,hb⟩:=A3.o;exact⟨⟨ao',no',ac',nc',hk'.below q3,hu'.same (SameS.below q3)⟩,hs.trans (SameX.below q3),hb.trans (q3.mono hb.size)⟩)
 clear q3;go_wp2_with fail;go_ret;exact⟨_,V,rfl,by rw[A0.o];exact HP.o,by rw[A0.o];exact W3.o,fun _=>by rw[A0.o]⟩
end Go.Proofs.YtdcajkagakikiaaGreatDoor
