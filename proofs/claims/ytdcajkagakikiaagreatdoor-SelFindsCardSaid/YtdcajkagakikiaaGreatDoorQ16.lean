import Derived.Test.YtdcajkagakikiaaGreatDoorQ15
namespace Go.Proofs.YtdcajkagakikiaaGreatDoor
set_option maxHeartbeats 64000000
set_option linter.unusedSimpArgs false
set_option linter.unusedVariables false
open Go.RowKit
theorem ZJd:(Tryz.prog.info? 53).map (fun i=>(i.zero,i.size,i.bytes))=some (some (.agg #[.string ⟨#[]⟩,.slice none 0 0,.int .i64 0,.slice none 0 0]),4,72):=by kernel_rfl
structure Nz where
 t:Nm
 bo:Option Addr
 bc:Nat
 mo:Option Addr
 mc:Nat
def nzC1(z:Nz):List Value:=[.string z.t.name,.slice z.bo z.t.bounds.length z.bc,.int .i64 z.t.under,.slice z.mo z.t.methods.length z.mc]
def nzC(l:List Nz):List Value:=l.flatMap nzC1
theorem Znd(l r:List Nz):nzC (l++r)=nzC l++nzC r:=by unfold nzC;simp
theorem ZLb:∀(l:List Nz) (k:Nat) (h:k<l.length),(nzC l)[k*4]? = some (.string l[k].t.name)/\(nzC l)[k*4+1]? = some (.slice l[k].bo l[k].t.bounds.length l[k].bc)/\(nzC l)[k*4+2]? = some (.int .i64 l[k].t.under)/\(nzC l)[k*4+3]? = some (.slice l[k].mo l[k].t.methods.length l[k].mc)
 | [],k,h=>absurd h (Yr _)
 | t::r,0,h=>⟨rfl,rfl,rfl,rfl⟩
 | t::r,k+1,h=>by
  have ih:=ZLb r k (Nat.lt_of_succ_lt_succ h)
  have e:∀j,(nzC (t::r))[(k+1)*4+j]? = (nzC r)[k*4+j]?:=fun j=>by
   unfold nzC;rw[List.flatMap_cons,List.getElem?_append_right (by show 4<=_;omega)];exact congrArg (fun n=>(r.flatMap nzC1)[n]?) (show(k+1)*4+j-4=k*4+j by omega)
  exact⟨(e 0).trans ih.1,(e 1).trans ih.2.1,(e 2).trans ih.2.2.1,(e 3).trans ih.2.2.2⟩
def OwnN(w:World)(base:Nat)(v:Value)(l:List Nz):Prop:=w.ownsRow base 53 4 v l.length (nzC l)
def InN(w:World)(z:Nz):Prop:=z.t.bounds.length<=z.bc/\z.t.methods.length<=z.mc/\NmC w z.bo z.mo z.t
theorem InN.below{w w':World}{z:Nz}(h:InN w z)(hb:Below w.heap.size w w'):InN w' z:=⟨h.1,h.2.1,h.2.2.below hb⟩
theorem ZEc(w:World)(base:Nat):OwnN w base (.slice none 0 0) []:=World.ownsRow_nil _ _ _ _
theorem OwnN.lower{w:World}{a b:Nat}{v:Value}{l:List Nz}(h:OwnN w b v l)(hb:a<=b):OwnN w a v l:=by
 obtain⟨h1,h2⟩:=h;refine⟨h1,?_⟩
 rcases h2 with h2|⟨g,cap,cur,hv,hg,rest⟩
 ·exact .inl h2
 ·exact .inr ⟨g,cap,cur,hv,Yj hb hg,rest⟩
theorem OwnN.kept{w w':World}{base:Nat}{v:Value}{l:List Nz}(h:OwnN w base v l)(hb:Below w.heap.size w w'):OwnN w' base v l:=by
 obtain⟨h1,h2⟩:=h;refine⟨h1,?_⟩
 rcases h2 with h2|⟨g,cap,cur,hv,hg,hcur,rest⟩
 ·exact .inl h2
 ·exact .inr ⟨g,cap,cur,hv,hg,by rw[hb.block _ (Yy.1 hcur).1];exact hcur,rest⟩
theorem Zf0{w:World}{base:Nat}{v:Value}{l:List Nz}(h:OwnN w base v l){b:Nat}(hb:b<base\/w.heap.size<=b):v.ownBlock≠some b:=fun he=>by
 have:=World.ownsRow.lt h b he
 omega
theorem ZMa{W wr w1:World}{base:Nat}{v v':Value}{l r:List Nz}{o:Obj}{n:Nat}(hn:n=l.length+r.length)(hW:W.heap.size<=base)(ho:OwnN wr base v l)(hB:Below W.heap.size W wr)
  (h1:w1.ownsRow base 53 4 v' n (nzC l++nzC r)) (hg:(wr.alloc o).grownBy w1 v.ownBlock) :
  OwnN w1 base v' (l++r)/\Below W.heap.size W w1/\∀b,b<wr.heap.size->v.ownBlock≠some b->w1.heap[b]? = wr.heap[b]?:=by
 have ba:Below wr.heap.size wr (wr.alloc o):=(Y8 _ _).alloc (Yk _) _;have A0:=hB.trans (ba.mono hB.size);refine⟨?_,A0.grown hg (by have:=A0.size;omega) (fun k hk=>?_),fun b hb hne=>?_⟩
 ·subst hn
  unfold OwnN;rw[Znd,Ye];exact h1
 ·have:=World.ownsRow.lt ho k hk
  omega
 ·rw[hg.block b (by simp;omega) (fun e=>hne e.symm)]
  exact ba.block b hb
theorem Zsc(z:Nz):∀u∈nzC1 z,u.oneCell'=true:=by
 intro u hu;simp only[nzC1,List.mem_cons,List.not_mem_nil,or_false]at hu
 rcases hu with rfl|rfl|rfl|rfl<;>rfl
structure NmIn (w:World) (bo mo:Option Addr) (bc mc:Nat) (n:Nm):Prop where
 bounds:IRow w bo n.bounds
 methods:MRow w mo n.methods
 bc1:n.bounds.length<=bc
 bc2:bc<=9223372036854775807
 mc1:n.methods.length<=mc
 mc2:mc<=9223372036854775807
 nl:n.name.size<=9223372036854775807
 un:-9223372036854775808<=n.under/\n.under<=9223372036854775807
 bs:∀b∈n.bounds,-9223372036854775808<=b/\b<=9223372036854775807
 ms:∀m∈n.methods,m.name.size<=9223372036854775807/\-9223372036854775808<=m.sig/\m.sig<=9223372036854775807
def InNRow(w:World)(no:Option Addr)(l:List Nm):Prop:=
 l=[]\/∃b off,no=some ⟨b,off,none⟩/\b<w.heap.size/\∀i (h:i<l.length),∃bo bc mo mc,w.cell? ⟨b,off+i*4,none⟩=some (.string l[i].name)/\w.cell? ⟨b,off+i*4+1,none⟩=some (.slice bo l[i].bounds.length bc)/\w.cell? ⟨b,off+i*4+2,none⟩=some (.int .i64 l[i].under)/\w.cell? ⟨b,off+i*4+3,none⟩=some (.slice mo l[i].methods.length mc)/\NmIn w bo mo bc mc l[i]
theorem InNRow.cells{w:World}{no:Option Addr}{l:List Nm}(h:InNRow w no l)(hn:0<l.length):∃b off,no=some ⟨b,off,none⟩/\b<w.heap.size/\∀i (h:i<l.length),∃bo bc mo mc,w.cell? ⟨b,off+i*4,none⟩=some (.string l[i].name)/\w.cell? ⟨b,off+i*4+1,none⟩=some (.slice bo l[i].bounds.length bc)/\w.cell? ⟨b,off+i*4+2,none⟩=some (.int .i64 l[i].under)/\w.cell? ⟨b,off+i*4+3,none⟩=some (.slice mo l[i].methods.length mc)/\NmIn w bo mo bc mc l[i]:=by
 rcases h with h|h
 ·rw[h]at hn;exact absurd hn (by simp)
 ·exact h
structure InUn (w:World) (ao no:Option Addr) (ac nc:Nat) (u:Un):Prop where
 types:InRow w ao u.types
 named:InNRow w no u.named
 tc:u.types.length<=ac
 tc2:ac<=9223372036854775807
 ncl:u.named.length<=nc
 nc2:nc<=9223372036854775807
theorem MRow.take{w:World}{ao:Option Addr}{ms:List Mt}(h:MRow w ao ms)(k:Nat):MRow w ao (ms.take k):=by
 rcases h with h|⟨b,off,e,l,cc⟩
 ·exact .inl (by rw[h];simp)
 ·refine .inr ⟨b,off,e,l,fun i hi=>?_⟩
  rw[Y5]at hi;rw[List.getElem_take];exact cc i (by omega)
def cutN(t:Nm)(a b c:Nat):Nm:=⟨t.name.extract 0 a,t.bounds.take b,t.under,t.methods.take c⟩
theorem ZEd{w:World}{bo mo:Option Addr}{bc mc a b c:Nat}{t:Nm}(h:NmIn w bo mo bc mc t)(ha:a<=50)(ha2:a<=t.name.size)(hb:b<=18)(hb2:b<=t.bounds.length)(hc:c<=18)(hc2:c<=t.methods.length) :
  (cutN t a b c).bounds.length=b/\(cutN t a b c).methods.length=c/\InN w ⟨cutN t a b c,bo,bc,mo,mc⟩:=by
 have e1:(t.bounds.take b).length=b:=by rw[Y5];omega
 have e2:(t.methods.take c).length=c:=by rw[Y5];omega
 refine⟨e1,e2,?_,?_,h.bounds.take b,h.methods.take c,?_⟩
 ·show(t.bounds.take b).length<=bc
  have:=h.bc1
  omega
 ·show(t.methods.take c).length<=mc
  have:=h.mc1
  omega
 ·refine⟨?_,by show(t.bounds.take b).length<=18;omega,by show(t.methods.take c).length<=18;omega,h.un,fun k hk=>h.bs k (List.mem_of_mem_take hk),fun k hk=>h.ms k (List.mem_of_mem_take hk)⟩
  show(t.name.extract 0 a).size<=50
  rw[ByteArray.size_extract]
  omega
theorem ZK0{w:World}{base:Nat}{v:Value}{l:List Nz}(h:OwnN w base v l){b:Nat}(hb:v.ownBlock≠some b)(j:Nat)(u:Value):OwnN (w.setCell ⟨b,j,none⟩ u) base v l:=by
 obtain⟨h1,h2⟩:=h;refine⟨h1,?_⟩
 rcases h2 with h2|⟨g,cap,cur,rfl,hg,hcur,rest⟩
 ·exact .inl h2
 ·have A0:g≠b:=fun e=>hb (by rw[e];rfl)
  exact .inr ⟨g,cap,cur,rfl,hg,(show BlockAt (w.setCell ⟨b,j,none⟩ u) g cur _ from BlockAt.other (show BlockAt w g cur _ from hcur) A0 j u),rest⟩
def SameX(c:Nat)(w w':World):Prop:=w.heap.size<=w'.heap.size/\∀b,b<w.heap.size->b≠c->w'.heap[b]? = w.heap[b]?
theorem SameX.trans{c:Nat}{w w1 w2:World}(h:SameX c w w1)(h2:SameX c w1 w2):SameX c w w2:=⟨Yj h.1 h2.1,fun b hb hc=>(h2.2 b (Yi hb h.1) hc).trans (h.2 b hb hc)⟩
theorem SameX.below{c:Nat}{w w':World}(h:Below w.heap.size w w'):SameX c w w':=⟨h.size,fun b hb _=>h.block b hb⟩
theorem SameX.set{c k:Nat}{w w':World}{v:Value}(h:w.setCell ⟨c,k,none⟩ v=w'):SameX c w w':=by
 subst h;exact⟨by simp,fun b hb hc=>Y9 _ _ _ _ hc⟩
theorem SameX.block{c b:Nat}{w w':World}{xs:Array Value}{T:TypeId}(h:SameX c w w')(hb:BlockAt w b xs T)(hc:b≠c):BlockAt w' b xs T:=by
 unfold BlockAt;rw[h.2 b hb.lt hc];exact hb
theorem OwnZ.sameX{c base:Nat}{w w':World}{v:Value}{l:List Tz}(h:OwnZ w base v l)(hs:SameX c w w')(hc:c<base):OwnZ w' base v l:=by
 obtain⟨h1,h2⟩:=h;refine⟨h1,?_⟩
 rcases h2 with h2|⟨g,cap,cur,hv,hg,hcur,rest⟩
 ·exact .inl h2
 ·exact .inr ⟨g,cap,cur,hv,hg,by rw[hs.2 _ (Yy.1 hcur).1 (by omega)];exact hcur,rest⟩
theorem OwnZ.slice{base:Nat}{w:World}{v:Value}{l:List Tz}(h:OwnZ w base v l):∃ao cap,v=.slice ao l.length cap:=by
 obtain⟨h1,h2⟩:=h
 rcases h2 with⟨rfl,h0⟩|⟨g,cap,cur,rfl,_⟩
 ·exact⟨none,0,by rw[h0]⟩
 ·exact⟨_,_,rfl⟩
theorem OwnN.slice{base:Nat}{w:World}{v:Value}{l:List Nz}(h:OwnN w base v l):∃ao cap,v=.slice ao l.length cap:=by
 obtain⟨h1,h2⟩:=h
 rcases h2 with⟨rfl,h0⟩|⟨g,cap,cur,rfl,_⟩
 ·exact⟨none,0,by rw[h0]⟩
 ·exact⟨_,_,rfl⟩
def FewU(W0 w:World)(e:Ending)(w':World):Prop:=∃v1 v2 xs ys,e=.returned (.agg #[v1,v2])/\OwnZ w' w.heap.size v1 xs/\OwnN w' w.heap.size v2 ys/\(∀z∈xs,InZ W0 z)/\(∀z∈ys,InN W0 z)/\xs.length<=70/\ys.length<=20/\Below w.heap.size w w'
set_option maxRecDepth 100000 in
theorem Zpc(W0:World)(u:Un)(ao no:Option Addr)(ac nc:Nat)(w:World)(hb0:Below W0.heap.size W0 w)(hin:InUn W0 ao no ac nc u) :
  Calls Tryz.prog 5 #[unV u ao ac no nc] w (FewU W0 w):=by
 obtain⟨i0,hi,hz0,hz1,Ad⟩:=info_parts ZD1;obtain⟨n0,hni,hnz0,hnz1,hnz2⟩:=info_parts ZJd;have HA:=Yh hin;have Ap:=Yh hb0;obtain⟨L,hL⟩:=Yn (u.types.length);obtain⟨n,hn⟩:=Yn (u.named.length);have HL:=Yh hL;have HN:=Yh hn;have hc:=hin.tc;have Aq:=hin.ncl;unfold unV;rw[hL]at hc ⊢;rw[hn]at Aq ⊢;have Ax:=hin.tc2;have Ar:=hin.nc2;obtain⟨m,hmm⟩:∃m:Nat,min L 70=m:=⟨_,rfl⟩
 have m1:m<=L:=by omega
 have m2:m<=70:=by omega
 have m3:m<=ac:=by omega
 obtain⟨r,hrr⟩:∃r:Nat,min n 20=r:=⟨_,rfl⟩
 have r1:r<=n:=by omega
 have r2:r<=20:=by omega
 have r3:r<=nc:=by omega
 have Hm:∀(ts:Array TypeId) (t:TypeId) (W:World),(Builtin.min_ ts t #[.int .i64 (L:Int),.int .i64 70]).run Tryz.prog W=.ok (.int .i64 (m:Int)) W:=fun ts t W=>by rw[run_min_int2,show(if(70:Int)<(L:Int)then(70:Int)else(L:Int))=(m:Int)by split<;>omega]
 have Hr:∀(ts:Array TypeId) (t:TypeId) (W:World),(Builtin.min_ ts t #[.int .i64 (n:Int),.int .i64 20]).run Tryz.prog W=.ok (.int .i64 (r:Int)) W:=fun ts t W=>by rw[run_min_int2,show(if(20:Int)<(n:Int)then(20:Int)else(n:Int))=(r:Int)by split<;>omega]
 obtain⟨w1,h1,k1,q1,z1⟩:=YA w #[.slice ao L ac,.slice no n nc] 25;obtain⟨w2,h2,k2,q2,z2⟩:=YA w1 #[.slice none 0 0,.slice none 0 0] 25;obtain⟨w3,h3,k3,q3,z3⟩:=YA w2 #[.slice none 0 0,.slice none 0 0] 25;have B2:=q1.trans (q2.mono q1.size);have B3:=Yh (B2.trans (q3.mono B2.size));have K1:=Yh ((k1.below q2).below q3);have K2:=Yh (k2.below q3);have K3:=Yh k3;have SZ:=@Yh (w.heap.size<w3.heap.size/\w1.heap.size<w3.heap.size/\w2.heap.size<w3.heap.size/\w.heap.size<=w1.heap.size/\w.heap.size<=w2.heap.size/\w.heap.size≠w2.heap.size/\w1.heap.size≠w2.heap.size) (by omega);obtain⟨c0,c1⟩:=cell2 ((k1.below q2).below q3);have H3:=Yh h3;obtain⟨y0,y1⟩:=cell2 (k1.below q2);clear hmm hrr hL hn hin hb0 k1 k2 k3 q1 q2 q3 z1 z2 z3 B2 h3;go_enter Tryz.func5,Tryz.ntmps5;go_upto_region 2 with fail;rw[H3.o];clear h1 h2 y0 y1;go_wp2_with fail;clear c0 c1;go_loopw [17] (fun i wr=>∃(k:Nat) (xs:List Tz) (vo:Value),k<=m/\i=.int .i64 k/\Hi (xs.length=k)/\Hi (OwnZ wr w3.heap.size vo xs)/\Hi (∀z∈xs,InZ W0 z)/\Hi (BlockAt wr w.heap.size #[.slice ao L ac,.slice no n nc] 25)/\Hi (BlockAt wr w1.heap.size #[.slice none 0 0,.slice none 0 0] 25)/\Hi (BlockAt wr w2.heap.size #[vo,.slice none 0 0] 25)/\Hi (Below w.heap.size w wr)/\Hi (w3.heap.size<=wr.heap.size)) (fun i _=>m-(intOf i).toNat)
 case atStart=>exact⟨0,[],.slice none 0 0,Yl _,rfl,Yh rfl,Yh (ZCd _ _),Yh (by simp),K1,K2,K3,B3,Yh (Yk _)⟩
 case round =>
  obtain⟨k,xs,vo,hk,rfl,Hlen,Hown,Hz,HK1,HK2,HK3,HB,HSZ⟩:=hrel
  by_cases hkm:k<m
  ·have Ab:k<u.types.length:=by rw[HL.o];omega
   have A2:=YT Ap HB.o;obtain⟨ab,aof,rfl,hab,hcl⟩:=HA.o.types.cells (by omega);obtain⟨xw,xwc,xk,xkc,a0',a1',a2',a3',a4',hxc0⟩:=hcl k Ab;obtain⟨x,hx⟩:=Yn (u.types[k]);rw[hx]at a0' a1' a2' a3' a4' hxc0;have a0:=(A2.o.cell hab).trans a0';have a1:=(A2.o.cell hab).trans a1';have a2:=(A2.o.cell hab).trans a2';have a3:=(A2.o.cell hab).trans a3';have a4:=(A2.o.cell hab).trans a4';have A0:=Yh hxc0;clear hx hcl hab Ab a0' a1' a2' a3' a4';obtain⟨wn,hwn,k2,qn,z2⟩:=YA wr #[.int .i64 x.kind,.string x.name,.int .i64 x.n,.slice xw x.words.length xwc,.slice xk x.kids.length xkc] 50;obtain⟨xb,hxb⟩:=Yn (wr.heap.size);rw[hxb]at k2;have A4:=Yh hxb;have J0:=Yh k2;obtain⟨-,c1,-,c3,c4⟩:=cell5 k2;have Ae:=Yh qn;have A5:=@Yh (wr.heap.size<=xb) (by rw[<-hxb];exact Yk _);have A1:=Yh (Hown.o.kept qn);obtain⟨q0,hq0⟩:∃q:Nat,min x.name.size 50=q:=⟨_,rfl⟩
   obtain⟨q1,hq1⟩:∃q:Nat,min x.words.length 18=q:=⟨_,rfl⟩
   obtain⟨q2,hq2⟩:∃q:Nat,min x.kids.length 18=q:=⟨_,rfl⟩
   have Ac:q0<=x.name.size:=by omega
   have Af:q0<=50:=by omega
   have A6:q1<=x.words.length:=by omega
   have Ag:q1<=18:=by omega
   have Ah:q1<=xwc:=Yj A6 A0.o.wc1;have A7:q2<=x.kids.length:=by omega
   have Ai:q2<=18:=by omega
   have Aj:q2<=xkc:=Yj A7 A0.o.kc1;have n1:=A0.o.nl;have n2:=Yj A0.o.wc1 A0.o.wc2;have n3:=Yj A0.o.kc1 A0.o.kc2;have n4:=A0.o.wc2;have n5:=A0.o.kc2;have A8:=Yh (ZYd A0.o Af Ac Ag A6 Ai A7);have G0:∀(ts:Array TypeId) (ty:TypeId) (W:World),(Builtin.min_ ts ty #[.int .i64 (x.name.size:Int),.int .i64 50]).run Tryz.prog W=.ok (.int .i64 (q0:Int)) W:=fun ts ty W=>by rw[run_min_int2,show(if(50:Int)<(x.name.size:Int)then(50:Int)else(x.name.size:Int))=(q0:Int)by split<;>omega]
   have G1:∀(ts:Array TypeId) (ty:TypeId) (W:World),(Builtin.min_ ts ty #[.int .i64 (x.words.length:Int),.int .i64 18]).run Tryz.prog W=.ok (.int .i64 (q1:Int)) W:=fun ts ty W=>by rw[run_min_int2,show(if(18:Int)<(x.words.length:Int)then(18:Int)else(x.words.length:Int))=(q1:Int)by split<;>omega]
   have G2:∀(ts:Array TypeId) (ty:TypeId) (W:World),(Builtin.min_ ts ty #[.int .i64 (x.kids.length:Int),.int .i64 18]).run Tryz.prog W=.ok (.int .i64 (q2:Int)) W:=fun ts ty W=>by rw[run_min_int2,show(if(18:Int)<(x.kids.length:Int)then(18:Int)else(x.kids.length:Int))=(q2:Int)by split<;>omega]
   clear hq0 hq1 hq2 k2 qn z2 hxc0;go_upto_region 5 with fail;clear hwn a0 a1 a2 a3 a4 hxb;refine GoG.start [(22,⟨xb,1,none⟩,.string x.name),(24,⟨xb,3,none⟩,.slice xw x.words.length xwc),(26,⟨xb,4,none⟩,.slice xk x.kids.length xkc)] (by kernel_rfl) ?_ ?_
   ·exact Kd (Kd (Kd Kn))
   refine GoG.fr 0 ?_;refine GoG.s1 1 0 [22] ?_;refine GoG.fr 2 ?_;refine GoG.s1 3 0 [22] ?_;refine GoG.fr 4 ?_;refine GoG.fr 5 ?_;refine GoG.fr 6 ?_;refine GoG.fr 7 ?_;refine GoG.s1 8 1 [24] ?_;refine GoG.fr 9 ?_;refine GoG.s1 10 1 [24] ?_;refine GoG.fr 11 ?_;refine GoG.fr 12 ?_;refine GoG.fr 13 ?_;refine GoG.fr 14 ?_;refine GoG.s1 15 2 [26] ?_;refine GoG.fr 16 ?_;refine GoG.s1 17 2 [26] ?_;refine GoG.fr 18 ?_;refine GoG.fr 19 ?_;refine GoG.fr 20 ?_;refine GoG.fr 21 ?_;have fr:=J0.o.free 1;have cc:=J0.o.cell 1;refine GoG.on 22 fun K hK=>?_
   go_simp;refine hK.out _ _ (Ku (Kc ?_ (Kc ?_ Kn))) ?_
   ·exact((J0.o.set 1 _).cell 3)
   ·exact((J0.o.set 1 _).cell 4)
   clear hK K fr cc;have J1:=Yh (J0.o.set 1 (.string (x.name.extract 0 q0)));refine GoG.fr 23 ?_;have fr:=J0.o.free 3;have cc:=J1.o.cell 3;refine GoG.on 24 fun K hK=>?_
   go_simp;refine hK.out _ _ (Ku (Ku (Kc ?_ Kn))) ?_
   ·exact((J1.o.set 3 _).cell 4)
   clear hK K fr cc;have J2:=Yh (J1.o.set 3 (.slice xw q1 xwc));refine GoG.fr 25 ?_;have fr:=J0.o.free 4;have cc:=J2.o.cell 4;refine GoG.on 26 fun K hK=>?_
   go_simp;refine hK.out _ _ (Ku (Ku (Ku Kn))) ?_;clear hK K fr cc;have J3:=Yh (J2.o.set 4 (.slice xk q2 xkc))
   try simp only[Act.put,YB,YC,YD,YE,YF,YG]
   refine GoG.done (by kernel_rfl) ?_ _;have BR:=@Yh (Below wr.heap.size wr ((((wn.setCell ⟨xb,1,none⟩ (.string (x.name.extract 0 q0))).setCell ⟨xb,3,none⟩ (.slice xw q1 xwc)).setCell ⟨xb,4,none⟩ (.slice xk q2 xkc)).drew)) ((((Ae.o.setCell A5.o _).setCell A5.o _).setCell A5.o _).drew);have Ak:=@Yh (BlockAt ((((wn.setCell ⟨xb,1,none⟩ (.string (x.name.extract 0 q0))).setCell ⟨xb,3,none⟩ (.slice xw q1 xwc)).setCell ⟨xb,4,none⟩ (.slice xk q2 xkc)).drew) _ _ _) (J3.o);have OW:=@Yh (OwnZ ((((wn.setCell ⟨xb,1,none⟩ (.string (x.name.extract 0 q0))).setCell ⟨xb,3,none⟩ (.slice xw q1 xwc)).setCell ⟨xb,4,none⟩ (.slice xk q2 xkc)).drew) w3.heap.size _ xs) (Zi0 (Zi0 (Zi0 A1.o (Zh0 Hown.o (.inr (by rw[A4.o];exact Yk _))) 1 _) (Zh0 Hown.o (.inr (by rw[A4.o];exact Yk _))) 3 _) (Zh0 Hown.o (.inr (by rw[A4.o];exact Yk _))) 4 _)
   generalize (((wn.setCell ⟨xb,1,none⟩ (.string (x.name.extract 0 q0))).setCell ⟨xb,3,none⟩ (.slice xw q1 xwc)).setCell ⟨xb,4,none⟩ (.slice xk q2 xkc)).drew=wz at *
   have J:=Ak.o;simp only[List.setIfInBounds_toArray,List.set_cons_zero,List.set_cons_succ]at J;obtain⟨j0,j1,j2,j3,j4⟩:=cell5 J;have BD:=YT HB BR.o;have KZ:=Yh (HK3.o.below BR.o);obtain⟨t0,t1⟩:=cell2 KZ.o;have A3:=OW.o;unfold OwnZ at A3;rw[Hlen.o]at A3;have Al:=Yh A3;have BZ:=Yh BR.o.size
   have CI:=Yh (show tzC1 ⟨cutT x q0 q1 q2,xw,xwc,xk,xkc⟩=[.int .i64 x.kind,.string (x.name.extract 0 q0),.int .i64 x.n,.slice xw q1 xwc,.slice xk q2 xkc]from by
    unfold tzC1
    show[_,_,_,Value.slice xw (cutT x q0 q1 q2).words.length xwc,Value.slice xk (cutT x q0 q1 q2).kids.length xkc]=_
    rw[A8.o.1,A8.o.2.1]
    rfl)
   clear J J3 G0 G1 G2 c1 c3 c4 n1 n2 n3 n4 n5 Ac A7 A6 Ah Aj A3 Hown;go_wp2_with (at_builtin;refine wpList_append_own_at _ rfl _ _ 22 rfl w3.heap.size 50 i0 (.agg #[.int .i64 0,.string ⟨#[]⟩,.int .i64 0,.slice none 0 0,.slice none 0 0]) 5 80 Tryz.underlying22 hi hz0 hz1 Ad rfl (by decide) _ k (tzC xs) rfl (Al.o.alloc _) ⟨wz.heap.size,0,none⟩ 1 1 [.int .i64 x.kind,.string (x.name.extract 0 q0),.int .i64 x.n,.slice xw q1 xwc,.slice xk q2 xkc] rfl ?c1 ?c2 ?c3 ?c4 ?c5 ?c6 ?_)
   case c1=>rfl
   case c2=>exact Z9 _ _ _
   case c3=>exact fun v hv=>by rw[<-CI.o]at hv;exact ZO1 _ v hv
   case c4=>unfold maxLen;omega
   case c5=>omega
   case c6=>have h1:=BZ.o;have h2:=HSZ.o;simp;omega
   intro v' w4 hown3 hgrow _ hblk;have hp:=Zj1 (W:=w) (r:=[⟨cutT x q0 q1 q2,xw,xwc,xk,xkc⟩]) (by first|(rw[Hlen.o];done)|(rw[Hlen.o];rfl)) (Nat.le_of_lt SZ.o.1) OW.o BD.o (by simpa [tzC,CI.o] using hown3) hgrow;obtain⟨so,sc,hso⟩:=hp.1.slice;rw[show(xs++[(⟨cutT x q0 q1 q2,xw,xwc,xk,xkc⟩:Tz)]).length=k+1 by rw[Ye,Hlen.o];rfl]at hso;subst hso;have HP:=Yh hp
   have A9:=Yh (show ∀b cs T,BlockAt wr b cs T->b<w3.heap.size->BlockAt w4 b cs T from fun b cs T hB hlt=>by
    have hz:=hB.below BR.o;unfold BlockAt;rw[HP.o.2.2 b hz.lt (Zh0 OW.o (.inl hlt))];exact hz)
   have Ad:=Yh (show ∀z∈xs++[⟨cutT x q0 q1 q2,xw,xwc,xk,xkc⟩],InZ W0 z from fun z hz=>by
    rcases Yz.1 hz with h1|h1
    ·exact Hz.o z h1
    ·rw[Yo.1 h1]
     exact A8.o.2.2)
   have Am:=@Yh ((xs++[(⟨cutT x q0 q1 q2,xw,xwc,xk,xkc⟩:Tz)]).length=k+1) (by rw[Ye,Hlen.o];rfl);obtain⟨w5,h5⟩:=Yn (w4.setCell ⟨w2.heap.size,0,none⟩ (.slice so (k+1) sc));have K4:=Yh (A9.o _ _ _ HK3.o SZ.o.2.2.1);have An:=Yh (Zc K4.o h5);have As:=Yh (Z4 (A9.o _ _ _ HK1.o SZ.o.1) SZ.o.2.2.2.2.2.1 h5);have At:=Yh (Z4 (A9.o _ _ _ HK2.o SZ.o.2.1) SZ.o.2.2.2.2.2.2 h5);have Ao:=@Yh (OwnZ w5 w3.heap.size _ _) (by rw[<-h5];exact Zi0 HP.o.1 (Zh0 HP.o.1 (.inl SZ.o.2.2.1)) 0 _);have nb:=Yh (Z6 HP.o.2.1 SZ.o.2.2.2.2.1 h5)
   have ns:=Yh (show w3.heap.size<=w5.heap.size by
    have e:w5.heap.size=w4.heap.size:=by rw[<-h5];simp
    rw[e];have g:=hgrow.size;have g1:=BZ.o;have g2:=HSZ.o;simp at g
    omega)
   have t0:=(cell2 K4.o).1;have f0:=K4.o.free 0;clear hown3 hgrow hblk hp j0 j1 j2 j3 j4;go_wp2_with fail;clear t0 f0 t1 h5;go_roundw
   case rel=>exact⟨k+1,_,_,by omega,by go_num,Am,Ao,Ad,As,At,An,nb,ns⟩
   case measure=>first|(simp[intOf];done)|(simp[intOf];omega)
  ·obtain rfl:k=m:=by omega
   obtain⟨wX,rfl⟩:∃wX,wX=wr:=⟨_,rfl⟩
   obtain⟨e0,e1⟩:=cell2 HK1.o;have Ay:=HB;have Aa:=@Yh (w.heap.size<wX.heap.size/\w1.heap.size<wX.heap.size/\w2.heap.size<wX.heap.size) (⟨Yi SZ.o.1 HSZ.o,Yi SZ.o.2.1 HSZ.o,Yi SZ.o.2.2.1 HSZ.o⟩);go_wp2_with fail;clear e0 e1;go_loopw [60] (fun i wr=>∃(g:Nat) (ys:List Nz) (vn:Value),g<=r/\i=.int .i64 g/\Hi (ys.length=g)/\Hi (OwnN wr wX.heap.size vn ys)/\Hi (∀z∈ys,InN W0 z)/\Hi (BlockAt wr w2.heap.size #[vo,vn] 25)/\Hi (SameX w2.heap.size wX wr)/\Hi (Below w.heap.size w wr)) (fun i _=>r-(intOf i).toNat)
   case atStart=>exact⟨0,[],.slice none 0 0,Yl _,rfl,Yh rfl,Yh (ZEc _ _),Yh (by simp),HK3,Yh ⟨Yk _,fun _ _ _=>rfl⟩,HB⟩
   case round =>
    obtain⟨g,ys,vn,hg,rfl,HlenN,HownN,HzN,HKN,HSX,HBN⟩:=hrel
    by_cases hgm:g<r
    ·have Ab:g<u.named.length:=by rw[HN.o];omega
     have A2:=YT Ap HBN.o;obtain⟨ab,aof,rfl,hab,hcl⟩:=HA.o.named.cells (by omega);obtain⟨xb_,xbc,xm,xmc,a0',a1',a2',a3',hxc0⟩:=hcl g Ab;obtain⟨x,hx⟩:=Yn (u.named[g]);rw[hx]at a0' a1' a2' a3' hxc0;have a0:=(A2.o.cell hab).trans a0';have a1:=(A2.o.cell hab).trans a1';have a2:=(A2.o.cell hab).trans a2';have a3:=(A2.o.cell hab).trans a3';have A0:=Yh hxc0;clear hx hcl hab Ab a0' a1' a2' a3';obtain⟨wn,hwn,k2,qn,z2⟩:=YA wr #[.string x.name,.slice xb_ x.bounds.length xbc,.int .i64 x.under,.slice xm x.methods.length xmc] 53;obtain⟨xb,hxb⟩:=Yn (wr.heap.size);rw[hxb]at k2;have A4:=Yh hxb;have J0:=Yh k2;obtain⟨c0,c1,-,c3⟩:=cell4 k2;have Ae:=Yh qn;have A5:=@Yh (wr.heap.size<=xb) (by rw[<-hxb];exact Yk _);have A1:=Yh (HownN.o.kept qn);obtain⟨q0,hq0⟩:∃q:Nat,min x.name.size 50=q:=⟨_,rfl⟩
     obtain⟨q1,hq1⟩:∃q:Nat,min x.bounds.length 18=q:=⟨_,rfl⟩
     obtain⟨q2,hq2⟩:∃q:Nat,min x.methods.length 18=q:=⟨_,rfl⟩
     have Ac:q0<=x.name.size:=by omega
     have Af:q0<=50:=by omega
     have A6:q1<=x.bounds.length:=by omega
     have Ag:q1<=18:=by omega
     have Ah:q1<=xbc:=Yj A6 A0.o.bc1;have A7:q2<=x.methods.length:=by omega
     have Ai:q2<=18:=by omega
     have Aj:q2<=xmc:=Yj A7 A0.o.mc1;have n1:=A0.o.nl;have n2:=Yj A0.o.bc1 A0.o.bc2;have n3:=Yj A0.o.mc1 A0.o.mc2;have n4:=A0.o.bc2;have n5:=A0.o.mc2;have A8:=Yh (ZEd A0.o Af Ac Ag A6 Ai A7);have G0:∀(ts:Array TypeId) (ty:TypeId) (W:World),(Builtin.min_ ts ty #[.int .i64 (x.name.size:Int),.int .i64 50]).run Tryz.prog W=.ok (.int .i64 (q0:Int)) W:=fun ts ty W=>by rw[run_min_int2,show(if(50:Int)<(x.name.size:Int)then(50:Int)else(x.name.size:Int))=(q0:Int)by split<;>omega]
     have G1:∀(ts:Array TypeId) (ty:TypeId) (W:World),(Builtin.min_ ts ty #[.int .i64 (x.bounds.length:Int),.int .i64 18]).run Tryz.prog W=.ok (.int .i64 (q1:Int)) W:=fun ts ty W=>by rw[run_min_int2,show(if(18:Int)<(x.bounds.length:Int)then(18:Int)else(x.bounds.length:Int))=(q1:Int)by split<;>omega]
     have G2:∀(ts:Array TypeId) (ty:TypeId) (W:World),(Builtin.min_ ts ty #[.int .i64 (x.methods.length:Int),.int .i64 18]).run Tryz.prog W=.ok (.int .i64 (q2:Int)) W:=fun ts ty W=>by rw[run_min_int2,show(if(18:Int)<(x.methods.length:Int)then(18:Int)else(x.methods.length:Int))=(q2:Int)by split<;>omega]
     clear hq0 hq1 hq2 k2 qn z2 hxc0;go_upto_region 11 with fail;clear hwn a0 a1 a2 a3 hxb;refine GoG.start [(22,⟨xb,0,none⟩,.string x.name),(24,⟨xb,1,none⟩,.slice xb_ x.bounds.length xbc),(26,⟨xb,3,none⟩,.slice xm x.methods.length xmc)] (by kernel_rfl) ?_ ?_
     ·exact Kd (Kd (Kd Kn))
     refine GoG.fr 0 ?_;refine GoG.s1 1 0 [22] ?_;refine GoG.fr 2 ?_;refine GoG.s1 3 0 [22] ?_;refine GoG.fr 4 ?_;refine GoG.fr 5 ?_;refine GoG.fr 6 ?_;refine GoG.fr 7 ?_;refine GoG.s1 8 1 [24] ?_;refine GoG.fr 9 ?_;refine GoG.s1 10 1 [24] ?_;refine GoG.fr 11 ?_;refine GoG.fr 12 ?_;refine GoG.fr 13 ?_;refine GoG.fr 14 ?_;refine GoG.s1 15 2 [26] ?_;refine GoG.fr 16 ?_;refine GoG.s1 17 2 [26] ?_;refine GoG.fr 18 ?_;refine GoG.fr 19 ?_;refine GoG.fr 20 ?_;refine GoG.fr 21 ?_;have fr:=J0.o.free 0;have cc:=J0.o.cell 0;refine GoG.on 22 fun K hK=>?_
     go_simp;refine hK.out _ _ (Ku (Kc ?_ (Kc ?_ Kn))) ?_
     ·exact((J0.o.set 0 _).cell 1)
     ·exact((J0.o.set 0 _).cell 3)
     clear hK K fr cc;have J1:=Yh (J0.o.set 0 (.string (x.name.extract 0 q0)));refine GoG.fr 23 ?_;have fr:=J0.o.free 1;have cc:=J1.o.cell 1;refine GoG.on 24 fun K hK=>?_
     go_simp;refine hK.out _ _ (Ku (Ku (Kc ?_ Kn))) ?_
     ·exact((J1.o.set 1 _).cell 3)
     clear hK K fr cc;have J2:=Yh (J1.o.set 1 (.slice xb_ q1 xbc));refine GoG.fr 25 ?_;have fr:=J0.o.free 3;have cc:=J2.o.cell 3;refine GoG.on 26 fun K hK=>?_
     go_simp;refine hK.out _ _ (Ku (Ku (Ku Kn))) ?_;clear hK K fr cc;have J3:=Yh (J2.o.set 3 (.slice xm q2 xmc))
     try simp only[Act.put,YB,YC,YD,YE,YF,YG]
     refine GoG.done (by kernel_rfl) ?_ _;have BR:=@Yh (Below wr.heap.size wr ((((wn.setCell ⟨xb,0,none⟩ (.string (x.name.extract 0 q0))).setCell ⟨xb,1,none⟩ (.slice xb_ q1 xbc)).setCell ⟨xb,3,none⟩ (.slice xm q2 xmc)).drew)) ((((Ae.o.setCell A5.o _).setCell A5.o _).setCell A5.o _).drew);have Ak:=@Yh (BlockAt ((((wn.setCell ⟨xb,0,none⟩ (.string (x.name.extract 0 q0))).setCell ⟨xb,1,none⟩ (.slice xb_ q1 xbc)).setCell ⟨xb,3,none⟩ (.slice xm q2 xmc)).drew) _ _ _) (J3.o);have OW:=@Yh (OwnN ((((wn.setCell ⟨xb,0,none⟩ (.string (x.name.extract 0 q0))).setCell ⟨xb,1,none⟩ (.slice xb_ q1 xbc)).setCell ⟨xb,3,none⟩ (.slice xm q2 xmc)).drew) wX.heap.size _ ys) (ZK0 (ZK0 (ZK0 A1.o (Zf0 HownN.o (.inr (by rw[A4.o];exact Yk _))) 0 _) (Zf0 HownN.o (.inr (by rw[A4.o];exact Yk _))) 1 _) (Zf0 HownN.o (.inr (by rw[A4.o];exact Yk _))) 3 _)
     generalize (((wn.setCell ⟨xb,0,none⟩ (.string (x.name.extract 0 q0))).setCell ⟨xb,1,none⟩ (.slice xb_ q1 xbc)).setCell ⟨xb,3,none⟩ (.slice xm q2 xmc)).drew=wz at *
     have J:=Ak.o;simp only[List.setIfInBounds_toArray,List.set_cons_zero,List.set_cons_succ]at J;obtain⟨j0,j1,j2,j3⟩:=cell4 J;have BD:=YT HBN BR.o;have KZ:=Yh (HKN.o.below BR.o);obtain⟨t0,t1⟩:=cell2 KZ.o;have A3:=OW.o;unfold OwnN at A3;rw[HlenN.o]at A3;have Al:=Yh A3;have BZ:=Yh BR.o.size
     have CI:=Yh (show nzC1 ⟨cutN x q0 q1 q2,xb_,xbc,xm,xmc⟩=[.string (x.name.extract 0 q0),.slice xb_ q1 xbc,.int .i64 x.under,.slice xm q2 xmc]from by
      unfold nzC1
      show[_,Value.slice xb_ (cutN x q0 q1 q2).bounds.length xbc,_,Value.slice xm (cutN x q0 q1 q2).methods.length xmc]=_
      rw[A8.o.1,A8.o.2.1]
      rfl)
     clear J J3 G0 G1 G2 c0 c1 c3 n1 n2 n3 n4 n5 Ac A7 A6 Ah Aj A3 HownN;go_wp2_with (at_builtin;refine wpList_append_own_at _ rfl _ _ 23 rfl wX.heap.size 53 n0 (.agg #[.string ⟨#[]⟩,.slice none 0 0,.int .i64 0,.slice none 0 0]) 4 72 Tryz.underlying23 hni hnz0 hnz1 hnz2 rfl (by decide) _ g (nzC ys) rfl (Al.o.alloc _) ⟨wz.heap.size,0,none⟩ 1 1 [.string (x.name.extract 0 q0),.slice xb_ q1 xbc,.int .i64 x.under,.slice xm q2 xmc] rfl ?c1 ?c2 ?c3 ?c4 ?c5 ?c6 ?_)
     case c1=>rfl
     case c2=>exact Z9 _ _ _
     case c3=>exact fun v hv=>by rw[<-CI.o]at hv;exact Zsc _ v hv
     case c4=>unfold maxLen;omega
     case c5=>omega
     case c6=>have h1:=BZ.o;have h2:=HSX.o.1;simp;omega
     intro v' w4 hown3 hgrow _ hblk;have hp:=ZMa (W:=w) (r:=[⟨cutN x q0 q1 q2,xb_,xbc,xm,xmc⟩]) (by first|(rw[HlenN.o];done)|(rw[HlenN.o];rfl)) (Nat.le_of_lt Aa.o.1) OW.o BD.o (by simpa [nzC,CI.o] using hown3) hgrow;obtain⟨so,sc,hso⟩:=hp.1.slice;rw[show(ys++[(⟨cutN x q0 q1 q2,xb_,xbc,xm,xmc⟩:Nz)]).length=g+1 by rw[Ye,HlenN.o];rfl]at hso;subst hso;have HP:=Yh hp
     have Ad:=Yh (show ∀z∈ys++[⟨cutN x q0 q1 q2,xb_,xbc,xm,xmc⟩],InN W0 z from fun z hz=>by
      rcases Yz.1 hz with h1|h1
      ·exact HzN.o z h1
      ·rw[Yo.1 h1]
       exact A8.o.2.2)
     have Am:=@Yh ((ys++[(⟨cutN x q0 q1 q2,xb_,xbc,xm,xmc⟩:Nz)]).length=g+1) (by rw[Ye,HlenN.o];rfl);have Au:=@Yh (SameX w2.heap.size wX w4) (⟨by have g1:=hgrow.size;have g2:=HSX.o.1;have g3:=BR.o.size;simp at g1;omega,fun b hb hne=>(HP.o.2.2 b (Yi hb (Yj HSX.o.1 BR.o.size)) (Zf0 OW.o (.inl hb))).trans ((BR.o.block b (Yi hb HSX.o.1)).trans (HSX.o.2 b hb hne))⟩);obtain⟨w5,h5⟩:=Yn (w4.setCell ⟨w2.heap.size,1,none⟩ (.slice so (g+1) sc))
     have K4:=Yh (show BlockAt w4 w2.heap.size #[vo,vn] 25 by
      unfold BlockAt;rw[HP.o.2.2 _ KZ.o.lt (Zf0 OW.o (.inl Aa.o.2.2))];exact KZ.o)
     have An:=Yh (ZIb K4.o h5);have Ao:=@Yh (OwnN w5 wX.heap.size _ _) (by rw[<-h5];exact ZK0 HP.o.1 (Zf0 HP.o.1 (.inl Aa.o.2.2)) 1 _);have nb:=Yh (Z6 HP.o.2.1 SZ.o.2.2.2.2.1 h5);have nx:=Yh (Au.o.trans (SameX.set h5));have t1:=(cell2 K4.o).2;have f1:=K4.o.free 1;clear hown3 hgrow hblk hp j0 j1 j2 j3;go_wp2_with fail;clear t0 f1 t1 h5;go_roundw
     case rel=>exact⟨g+1,_,_,by omega,by go_num,Am,Ao,Ad,An,nx,nb⟩
     case measure=>first|(simp[intOf];done)|(simp[intOf];omega)
    ·obtain rfl:g=r:=by omega
     obtain⟨zo,zc,hzo⟩:=Hown.o.slice;subst hzo;obtain⟨zn,znc,hzn⟩:=HownN.o.slice;subst hzn;rw[Hlen.o]at Hown HKN;rw[HlenN.o]at HownN HKN;have KR:=Yh (HSX.o.block HK2.o SZ.o.2.2.2.2.2.2);have OZ:=Yh (Hown.o.sameX HSX.o SZ.o.2.2.1);obtain⟨w5,h5⟩:=Yn (wr.setCell ⟨w1.heap.size,0,none⟩ (.slice zo k zc));obtain⟨w6,h6⟩:=Yn (w5.setCell ⟨w1.heap.size,1,none⟩ (.slice zn g znc));have K6:=ZQ KR.o h5 h6;have B6:=Yh (ZC HBN.o SZ.o.2.2.2.1 h5 h6);have Av:=@Yh (OwnZ w6 w3.heap.size _ xs) (by rw[<-h6,<-h5];exact Zi0 (Zi0 OZ.o (Zh0 OZ.o (.inl SZ.o.2.1)) 0 _) (Zh0 OZ.o (.inl SZ.o.2.1)) 1 _);have Aw:=@Yh (OwnN w6 wX.heap.size _ ys) (by rw[<-h6,<-h5];exact ZK0 (ZK0 HownN.o (Zf0 HownN.o (.inl Aa.o.2.1)) 0 _) (Zf0 HownN.o (.inl Aa.o.2.1)) 1 _);have t0:=(cell2 KR.o).1;have f0:=KR.o.free 0;have t1:=(cell2 (Zc KR.o h5)).2;have f1:=(Zc KR.o h5).free 1;obtain⟨g0,g1⟩:=cell2 HKN.o;obtain⟨e0,e1⟩:=cell2 K6;clear K6;go_wp2_with fail
     try simp only[Exit.inBlock,Exit.then]
     refine bodyPost_ret (v:=.agg #[.slice zo k zc,.slice zn g znc]) ?_ rfl ?_
     ·simp[results,Tryz.results5,go_sem,e0,e1]
     exact⟨_,_,xs,ys,rfl,Av.o.lower (Nat.le_of_lt SZ.o.1),Aw.o.lower (Nat.le_of_lt Aa.o.1),Hz.o,HzN.o,by rw[Hlen.o];omega,by rw[HlenN.o];omega,B6.o⟩
theorem Zn2:(Tryz.prog.info? 112).map (fun i=>(i.zero,i.size,i.bytes))=some (some (.agg #[.string ⟨#[]⟩,.bool false,.int .i64 0]),3,32):=by kernel_rfl
def mtC1(m:Mt):List Value:=[.string m.name,.bool m.ptr,.int .i64 m.sig]
def mtC(l:List Mt):List Value:=l.flatMap mtC1
theorem Zl2:∀l:List Mt,(mtC l).length=l.length*3
 | []=>rfl
 | t::r=>by
  have ih:=Zl2 r;unfold mtC at *;rw[List.flatMap_cons,Ye,ih,List.length_cons]
  show 3+_=_
  omega
theorem Zbd(l r:List Mt):mtC (l++r)=mtC l++mtC r:=by unfold mtC;simp
theorem Zs5:∀(l:List Mt) (k:Nat) (h:k<l.length),(mtC l)[k*3]? = some (.string l[k].name)/\(mtC l)[k*3+1]? = some (.bool l[k].ptr)/\(mtC l)[k*3+2]? = some (.int .i64 l[k].sig)
 | [],k,h=>absurd h (Yr _)
 | t::r,0,h=>⟨rfl,rfl,rfl⟩
 | t::r,k+1,h=>by
  have ih:=Zs5 r k (Nat.lt_of_succ_lt_succ h)
  have e:∀j,(mtC (t::r))[(k+1)*3+j]? = (mtC r)[k*3+j]?:=fun j=>by
   unfold mtC;rw[List.flatMap_cons,List.getElem?_append_right (by show 3<=_;omega)];exact congrArg (fun n=>(r.flatMap mtC1)[n]?) (show(k+1)*3+j-3=k*3+j by omega)
  exact⟨(e 0).trans ih.1,(e 1).trans ih.2.1,(e 2).trans ih.2.2⟩
theorem Zj2(l:List Mt):∀u∈mtC l,u.oneCell'=true:=by
 intro u hu;obtain⟨m,_,hm⟩:=List.mem_flatMap.1 hu;simp only[mtC1,List.mem_cons,List.not_mem_nil,or_false]at hm
 rcases hm with rfl|rfl|rfl<;>rfl
def OwnM(w:World)(base:Nat)(v:Value)(l:List Mt):Prop:=w.ownsRow base 112 3 v l.length (mtC l)
def MB(w:World)(base:Nat)(lo:Option Addr)(ms:List Mt):Prop:=
 ms=[]\/∃g cur,lo=some ⟨g,0,none⟩/\base<=g/\BlockAt w g cur 112/\∀i (h:i<ms.length),cur[i*3]? = some (.string ms[i].name)/\cur[i*3+1]? = some (.bool ms[i].ptr)/\cur[i*3+2]? = some (.int .i64 ms[i].sig)
theorem ZM0{w:World}{base:Nat}{v:Value}{l:List Mt}(h:OwnM w base v l):∃lo cap,v=.slice lo l.length cap/\MB w base lo l/\l.length<=cap/\∀a,lo=some a->base<=a.block:=by
 obtain⟨h1,h2⟩:=h
 rcases h2 with⟨rfl,h0⟩|⟨g,cap,cur,rfl,hg,hcur,hcap1,hcap2,hcs,htk⟩
 ·exact⟨none,0,by rw[h0],.inl (Yp h0),by rw[h0];exact Yk _,fun a h=>by cases h⟩
 ·refine⟨_,_,rfl,.inr ⟨g,cur,rfl,hg,hcur,fun k hk=>?_⟩,hcap1,fun a h=>by injection h with h;subst h;exact hg⟩
  obtain⟨c0,c1,c2⟩:=Zs5 l k hk
  have e:∀j,j<l.length*3->cur[j]? = (mtC l)[j]?:=fun j hj=>by
   rw[<-htk,List.getElem?_take_of_lt hj];simp
  exact⟨(e _ (by omega)).trans c0,(e _ (by omega)).trans c1,(e _ (by omega)).trans c2⟩
theorem MB.below{w w':World}{base:Nat}{lo:Option Addr}{ms:List Mt}(h:MB w base lo ms)(hb:Below w.heap.size w w'):MB w' base lo ms:=by
 rcases h with h|⟨g,cur,e,hg,hB,cc⟩
 ·exact .inl h
 ·exact .inr ⟨g,cur,e,hg,hB.below hb,cc⟩
theorem MB.row{w:World}{base:Nat}{lo:Option Addr}{ms:List Mt}(h:MB w base lo ms):MRow w lo ms:=by
 rcases h with h|⟨g,cur,e,hg,hB,cc⟩
 ·exact .inl h
 ·refine .inr ⟨g,0,e,hB.lt,fun i hi=>?_⟩
  rw[Nat.zero_add];exact⟨(hB.cell _).trans (cc i hi).1,(hB.cell _).trans (cc i hi).2.1,(hB.cell _).trans (cc i hi).2.2⟩
theorem MB.rowS{Sb:Nat->Prop}{w:World}{base:Nat}{lo:Option Addr}{ms:List Mt}(h:MB w base lo ms)(hS:∀b,base<=b->Sb b):MRowS Sb w lo ms:=by
 rcases h with h|⟨g,cur,e,hg,hB,cc⟩
 ·exact .inl h
 ·refine .inr ⟨g,0,e,hB.lt,hS _ hg,fun i hi=>?_⟩
  rw[Nat.zero_add];exact⟨(hB.cell _).trans (cc i hi).1,(hB.cell _).trans (cc i hi).2.1,(hB.cell _).trans (cc i hi).2.2⟩
theorem MB.other{w w':World}{base b k:Nat}{lo:Option Addr}{ms:List Mt}{v:Value}(h:MB w base lo ms)(hb:b<base)(h1:w.setCell ⟨b,k,none⟩ v=w'):MB w' base lo ms:=by
 rcases h with h|⟨g,cur,e,hg,hB,cc⟩
 ·exact .inl h
 ·exact .inr ⟨g,cur,e,hg,Z4 hB (by omega) h1,cc⟩
theorem MB.cells{w:World}{base:Nat}{lo:Option Addr}{ms:List Mt}(h:MB w base lo ms)(h0:0<ms.length):∃g cur,lo=some ⟨g,0,none⟩/\base<=g/\BlockAt w g cur 112/\∀i (h:i<ms.length),cur[i*3]? = some (.string ms[i].name)/\cur[i*3+1]? = some (.bool ms[i].ptr)/\cur[i*3+2]? = some (.int .i64 ms[i].sig):=by
 rcases h with h|h
 ·rw[h]at h0;exact absurd h0 (Nat.lt_irrefl _)
 ·exact h
theorem MB.put{w w':World}{base g k:Nat}{cur:Array Value}{a r:List Mt}{x:Mt}{q:Int}(hg:base<=g)(hB:BlockAt w g cur 112)
  (cc:∀i (h:i<(a++x::r).length),cur[i*3]? = some (.string (a++x::r)[i].name)/\cur[i*3+1]? = some (.bool (a++x::r)[i].ptr)/\cur[i*3+2]? = some (.int .i64 (a++x::r)[i].sig)) (hk:a.length=k) (h1:w.setCell ⟨g,k*3+2,none⟩ (.int .i64 q)=w') :
  MB w' base (some ⟨g,0,none⟩) (a++⟨x.name,x.ptr,q⟩::r):=by
 subst h1;subst hk;refine .inr ⟨g,_,rfl,hg,hB.set _ _,fun i hi=>?_⟩;have A0:i<(a++x::r).length:=by simpa using hi
 obtain⟨c0,c1,c2⟩:=cc i A0;have A1:=(cc a.length (by simp)).2.2;have A2:a.length*3+2<cur.size:=(Yy.1 A1).1;rw[Array.getElem?_setIfInBounds_ne (by omega),Array.getElem?_setIfInBounds_ne (by omega)]
 rcases Nat.lt_trichotomy i a.length with h|h|h
 ·rw[Array.getElem?_setIfInBounds_ne (by omega)]
  rw[List.getElem_append_left h]at c0 c1 c2 ⊢;exact⟨c0,c1,c2⟩
 ·subst h
  rw[Array.getElem?_setIfInBounds_self_of_lt A2];rw[List.getElem_append_right (Yk _)]at c0 c1 ⊢;simp only[Nat.sub_self,List.getElem_cons_zero]at c0 c1 ⊢;exact⟨c0,c1,by first|trivial|rfl⟩
 ·rw[Array.getElem?_setIfInBounds_ne (by omega)]
  obtain⟨d,hd⟩:∃d,i=a.length+(d+1):=⟨i-a.length-1,by omega⟩
  subst hd;rw[List.getElem_append_right (by omega)]at c0 c1 c2 ⊢;simp only[Nat.add_sub_cancel_left,List.getElem_cons_succ]at c0 c1 c2 ⊢;exact⟨c0,c1,c2⟩
theorem Z79(w:World)(a:Option Addr)(n c:Nat):(binOp .eql 51 (.slice a n c) (.slice none 0 0)).run Tryz.prog w=.ok (.bool a.isNone) w:=by
 simp only[binOp];simp[Op.equal,Op.maxDepth,Lib.run_equalIn_slice_nil w 9999 51 112 a n c 0 0 Tryz.underlying51]
set_option maxRecDepth 100000 in
theorem ZI9(ao:Option Addr)(c:Nat)(zs:List Mt)(w:World)(hr:MRow w ao zs)(hl:zs.length<=1000) :
  Calls Tryz.prog 138 #[.slice ao zs.length c] w fun e w'=>∃v,e=.returned v/\OwnM w' w.heap.size v zs/\Below w.heap.size w w':=by
 cases ao with
 | none =>
  have hz:zs=[]:=by
   rcases hr with h|⟨b,off,h,-⟩
   ·exact h
   ·cases h
  subst hz;have A0:=fun W=>Z79 W none 0 c
  simp only[Option.isNone_none]at A0;go_enter Tryz.func138,Tryz.ntmps138;go_wp2_with fail;go_ret;exact⟨_,rfl,World.ownsRow_nil _ _ _ _,Y8 _ _⟩
 | some ad =>
  obtain⟨i0,hi,hz0,hz1,hz2⟩:=info_parts Zn2;have HR:=Yh hr;have O0:=@Yh ((w.alloc (.cells #[] 112)).ownsRow w.heap.size 112 3 (.slice (some ⟨w.heap.size,0,none⟩) 0 0) 0 []) (World.ownsRow_made w #[] 0 (Yk _) (by unfold maxLen;omega) rfl);have B0:=@Yh (Below w.heap.size w (w.alloc (.cells #[] 112))) ((Y8 _ _).alloc (Yk _) _);obtain⟨n,hn⟩:=Yn (zs.length);have HN:=Yh hn
  have HC:=Yh (show ∀j u,(mtC zs)[j]? = some u->(w.alloc (.cells #[] 112)).cell? (ad.add j)=some u from fun j u hu=>by
   have hj:=(YI.1 hu).1;rw[Zl2]at hj;obtain⟨b,off,e,hb,hc⟩:=HR.o.cells (by omega)
   injection e with e
   subst e;have A1:(⟨b,off,none⟩:Addr).add j=⟨b,off+j,none⟩:=by unfold Addr.add;split<;>simp_all
   rw[A1,B0.o.cell (p:=⟨b,off+j,none⟩) hb];have A2:j / 3<zs.length:=by omega
   obtain⟨g0,g1,g2⟩:=hc (j / 3) A2;obtain⟨a0,a1,a2⟩:=Zs5 zs (j / 3) A2
   rcases(by omega:j=j / 3*3\/j=j / 3*3+1\/j=j / 3*3+2)with h|h|h
   ·rw[<-h]at g0 a0;rw[g0,<-hu,a0]
   ·rw[<-h]at a1;rw[Nat.add_assoc,<-h]at g1;rw[g1,<-hu,a1]
   ·rw[<-h]at a2;rw[Nat.add_assoc,<-h]at g2;rw[g2,<-hu,a2])
  rw[hn]at hl ⊢;clear hr hn;have A0:=fun W=>Z79 W (some ad) n c
  simp only[Option.isNone_some]at A0;go_enter Tryz.func138,Tryz.ntmps138;go_wp2_with (at_builtin;refine wpList_append_own_at _ rfl _ _ 51 rfl w.heap.size 112 i0 (.agg #[.string ⟨#[]⟩,.bool false,.int .i64 0]) 3 32 Tryz.underlying51 hi hz0 hz1 hz2 rfl (by decide) _ 0 [] rfl O0.o ad n c (mtC zs) rfl ?c1 ?c2 ?c3 ?c4 ?c5 ?c6 ?_)
  case c1=>rw[Zl2,HN.o]
  case c2=>exact HC.o
  case c3=>exact Zj2 _
  case c4=>unfold maxLen;omega
  case c5=>omega
  case c6=>exact B0.o.size
  intro v' w1 hown hgrow _ _;have B1:=Yh (B0.o.grown hgrow B0.o.size (fun k hk=>(O0.o.lt k hk).1))
  have HO:=Yh (show OwnM w1 w.heap.size v' zs from by
   unfold OwnM;rw[HN.o]
   simpa using hown)
  clear hown hgrow;go_wp2_with fail;go_ret;exact⟨v',rfl,HO.o,B1.o⟩
def MethR(Sb:Nat->Prop)(w:World)(R:Un×List Mt×Int)(e:Ending)(w':World):Prop:=∃ao no ac nc lo lc,e=.returned (.tuple #[unV R.1 ao ac no nc,.slice lo R.2.1.length lc,.int .i64 R.2.2])/\UnS Sb w' ao no ac nc R.1/\MRowS Sb w' lo R.2.1/\R.2.1.length<=lc/\Below w.heap.size w w'
theorem Zf{S T:Nat->Prop}{w:World}{ao no:Option Addr}{ac nc:Nat}{u:Un}(h:UnS S w ao no ac nc u)(k:∀b,b<w.heap.size->S b->T b):UnS T w ao no ac nc u:=by
 have ir:∀{ao zs},IRowS S w ao zs->IRowS T w ao zs:=fun {ao zs} h=>by
  rcases h with h|⟨b,off,e,l,n,cc⟩
  ·exact .inl h
  ·exact .inr ⟨b,off,e,l,k b l n,cc⟩
 have sr:∀{ao zs},SRowS S w ao zs->SRowS T w ao zs:=fun {ao zs} h=>by
  rcases h with h|⟨b,off,e,l,n,cc⟩
  ·exact .inl h
  ·exact .inr ⟨b,off,e,l,k b l n,cc⟩
 have mr:∀{ao zs},MRowS S w ao zs->MRowS T w ao zs:=fun {ao zs} h=>by
  rcases h with h|⟨b,off,e,l,n,cc⟩
  ·exact .inl h
  ·exact .inr ⟨b,off,e,l,k b l n,cc⟩
 refine⟨?_,?_,h.tl,h.nl,h.tc,h.nc⟩
 ·rcases h.types with h|⟨b,off,e,l,n,cc⟩
  ·exact .inl h
  ·refine .inr ⟨b,off,e,l,k b l n,fun i hi=>?_⟩
   obtain⟨wo,wc,ko,kc,c0,c1,c2,c3,c4,g1,g2,g3⟩:=cc i hi;exact⟨wo,wc,ko,kc,c0,c1,c2,c3,c4,g1,g2,⟨sr g3.words,ir g3.kids,g3.ok⟩⟩
 ·rcases h.named with h|⟨b,off,e,l,n,cc⟩
  ·exact .inl h
  ·refine .inr ⟨b,off,e,l,k b l n,fun i hi=>?_⟩
   obtain⟨bo,bc,mo,mc,h1,h2,h3,h4,h5,h6,h7⟩:=cc i hi;exact⟨bo,bc,mo,mc,h1,h2,h3,h4,h5,h6,⟨ir h7.bounds,mr h7.methods,h7.ok⟩⟩
def offS(Sb:Nat->Prop)(lo:Option Addr):Nat->Prop:=fun b=>Sb b/\∀a,lo=some a->b≠a.block
def joinM(d:List Mt)(R:Un×List Mt×Int):Un×List Mt×Int:=if R.2.2≠0 then(noUn,[],R.2.2)else(R.1,d++R.2.1,0)
theorem join_nil(ks:List Int):∀(ms:List Mt) (u:Un),joinM [] (methF ks ms u)=methF ks ms u
 | [],u=>rfl
 | m::r,u=>by
  unfold joinM;rw[methF]
  by_cases c1:(fillU u m.sig ks).2.2≠0
  ·rw[if_pos c1,if_pos c1]
  ·rw[if_neg c1]
   by_cases c2:(methF ks r (fillU u m.sig ks).1).2.2≠0
   ·rw[if_pos c2,if_pos c2]
   ·rw[if_neg c2,if_neg (fun g=>g rfl)]
    rfl
theorem Z98{ks:List Int}{d r:List Mt}{m:Mt}{u V:Un}{q e:Int}(h:fillU u m.sig ks=(V,q,e))(he:e≠0):joinM d (methF ks (m::r) u)=(noUn,[],e):=by
 unfold joinM;rw[methF,h,if_pos he,if_pos he]
theorem join_step{ks:List Int}{d r:List Mt}{m:Mt}{u V:Un}{q:Int}(h:fillU u m.sig ks=(V,q,0)):joinM d (methF ks (m::r) u)=joinM (d++[⟨m.name,m.ptr,q⟩]) (methF ks r V):=by
 unfold joinM;rw[methF,h,if_neg (show ¬((0:Int)≠0)from fun g=>g rfl)]
 by_cases c2:(methF ks r V).2.2≠0
 ·rw[if_pos c2,if_pos c2,if_pos c2]
 ·rw[if_neg c2,if_neg c2,if_neg (fun g=>g rfl)]
  simp
theorem ZG7(ks:List Int)(d:List Mt)(u:Un):joinM d (methF ks [] u)=(u,d,0):=by
 unfold joinM;rw[methF,if_neg (fun g=>g rfl),List.append_nil]
theorem ZF{S T:Nat->Prop}{w:World}{ao:Option Addr}{ms:List Mt}(h:MRowS S w ao ms)(k:∀b,b<w.heap.size->S b->T b):MRowS T w ao ms:=by
 rcases h with h|⟨b,off,e,l,n,cc⟩
 ·exact .inl h
 ·exact .inr ⟨b,off,e,l,k b l n,cc⟩
def ifaceM(ps:List (ByteArray×Int)):List Mt:=(ps.filter (fun p=>nameB p.1)).map fun p=>⟨p.1,false,p.2⟩
theorem Zr2(ps:List (ByteArray×Int)):(ifaceM ps).length<=ps.length:=by
 unfold ifaceM;rw[Yg];exact List.length_filter_le _ _
theorem Zn5{ws:List ByteArray}{ks:List Int}{k:Nat}{s:ByteArray}{q:Int}(h1:k<ws.length)(h2:k<ks.length)(e1:ws[k]=s)(e2:ks[k]=q)(h:nameB s=true):ifaceM ((ws.zip ks).take (k+1))=ifaceM ((ws.zip ks).take k)++[⟨s,false,q⟩]:=by
 have hz:k<(ws.zip ks).length:=by rw[List.length_zip];omega
 rw[List.take_add_one,Yv hz,List.getElem_zip,e1,e2];unfold ifaceM;simp[h]
theorem ZT6{ws:List ByteArray}{ks:List Int}{k:Nat}{s:ByteArray}(h1:k<ws.length)(h2:k<ks.length)(e1:ws[k]=s)(h:nameB s=false):ifaceM ((ws.zip ks).take (k+1))=ifaceM ((ws.zip ks).take k):=by
 have hz:k<(ws.zip ks).length:=by rw[List.length_zip];omega
 rw[List.take_add_one,Yv hz,List.getElem_zip,e1];unfold ifaceM;simp[h]
theorem Z72{l:List Ty}(h:rightT l=true){z:Nat}(hz:z<l.length)(h7:l[z].kind=7):l[z].words.length=l[z].kids.length:=by
 by_cases h22:z<22
 ·rw[Zl h hz h22]
  unfold bas
  split<;>rfl
 ·have hm:=(Zq h hz h22).1
  unfold madeB at hm;rw[Yd]at hm;have hm:=hm.2;rw[h7]at hm;simp only[show ¬((7:Int)=1\/(7:Int)=2)by omega,show ¬(7:Int)=3 by omega,show ¬(7:Int)=4 by omega,show ¬(7:Int)=5 by omega,show ¬(7:Int)=6 by omega,if_false,if_true,Yd,decide_eq_true_eq]at hm;exact hm.1.2.2.2.2
def methU(u:Un)(i:Int):Un×List Mt×Int:=
 if thereU u i≠0 then(noUn,[],thereU u i)
 else if kindAt u.types i=8 then methF (funT u.types i.toNat).kids (u.named.getD (atU u.named (funT u.types i.toNat).name).toNat ⟨⟨#[]⟩,[],0,[]⟩).methods u
 else if kindAt u.types i=7 then(u,ifaceM ((funT u.types i.toNat).words.zip (funT u.types i.toNat).kids),0)else(u,[],0)
theorem Zq4(w:World)(base:Nat):OwnM w base (.slice none 0 0) []:=World.ownsRow_nil _ _ _ _
theorem Zo3{W wr w1:World}{base:Nat}{v v':Value}{l r:List Mt}{o:Obj}{n:Nat}(hn:n=l.length+r.length)(hW:W.heap.size<=base)(ho:OwnM wr base v l)(hB:Below W.heap.size W wr)
  (h1:w1.ownsRow base 112 3 v' n (mtC l++mtC r)) (hg:(wr.alloc o).grownBy w1 v.ownBlock) :
  OwnM w1 base v' (l++r)/\Below W.heap.size W w1:=by
 have ba:Below wr.heap.size wr (wr.alloc o):=(Y8 _ _).alloc (Yk _) _;have A0:=hB.trans (ba.mono hB.size);refine⟨?_,A0.grown hg (by have:=A0.size;omega) (fun k hk=>?_)⟩
 ·subst hn
  unfold OwnM;rw[Zbd,Ye];exact h1
 ·have:=World.ownsRow.lt ho k hk
  omega
theorem ZZ3{u:Un}(h:rightU u=true)(i:Int):thereU u i=0\/thereU u i=8:=by
 unfold thereU;rw[if_neg (by rw[h];decide)]
 by_cases c:i<0\/(u.types.length:Int)<=i
 ·rw[if_pos c];exact .inr rfl
 ·rw[if_neg c];exact .inl rfl
theorem Z01{u:Un}(h:rightU u=true){i:Int}(hi:inL u.types i=true):thereU u i=0:=by
 unfold inL at hi;have hi:=Yf hi;unfold thereU;rw[if_neg (by rw[h];decide),if_neg (by omega)]
theorem ZV9{l:List Ty}{i k:Int}(h:inL l i=true):isB l i k=decide (kindAt l i=k):=by
 unfold isB;rw[h,Bool.true_and]
theorem ZR0{l:List Ty}(hr:rightT l=true){z:Nat}(hz:z<l.length):inArena l l[z].kids=true:=
 List.all_eq_true.2 fun k hk=>by
  have:=Zn hr hz k hk;exact Yb (by omega)
theorem ZX0{u:Un}(h:rightU u=true){z:Nat}(hz:z<u.types.length)(h8:u.types[z].kind=8) :
  ∃n,u.named.getD (atU u.named u.types[z].name).toNat ⟨⟨#[]⟩,[],0,[]⟩=n/\oneU u.types n=true/\n.bounds.length=u.types[z].kids.length:=by
 obtain⟨h1,h2,h3⟩:=Zy0 h hz h8;rw[Z8,Yd]at h;have g:=restU_iff.1 h.2;have hf:=List.all_eq_true.1 g.2.2.2 _ (Yq hz);rw[ZF2 g.2.2.1 h8,Yd]at hf;rw[h2,Yw];refine⟨_,rfl,?_,Yf hf.2⟩;rw[Z3 h3];exact g.2.1 _ (Yq h3)
theorem ZV{u:Un}(h:rightU u=true)(i:Int) :
  (underU u i).2.2≠1/\((underU u i).2.2=0->rightU (underU u i).1=true/\Ext u.types (underU u i).1.types/\inL (underU u i).1.types (underU u i).2.1=true/\kindAt (underU u i).1.types (underU u i).2.1≠8):=by
 unfold underU
 rcases ZZ3 h i with h0|h0
 ·rw[h0,if_neg (fun g=>g rfl)]
  obtain⟨-,hi0,hi1⟩:=Ze0 h0;have hr:=h;rw[Z8,Yd]at hr;obtain⟨z,rfl⟩:∃z:Nat,i=(z:Int):=⟨i.toNat,by omega⟩
  have hz:z<u.types.length:=by omega
  have A1:inL u.types (z:Int)=true:=by unfold inL;exact Yb (by omega)
  by_cases h8:kindAt u.types (z:Int)≠8
  ·rw[if_pos h8]
   exact⟨by show(0:Int)≠1;decide,fun _=>⟨h,Ext.refl _,A1,h8⟩⟩
  ·rw[if_neg h8]
   have h8:kindAt u.types (z:Int)=8:=Y7 h8;have hk:=h8;rw[Ze hz]at hk;obtain⟨n,hn,ho,hb⟩:=ZX0 h hz hk;rw[Yw];have hf:funT u.types z=u.types[z]:=by unfold funT;rw[Z3 hz]
   rw[hf,hn];obtain⟨-,-,hu,-,-,-⟩:=oneU_iff.1 ho;obtain⟨u1,u2,u3,-,-⟩:=underB_iff3.1 hu;have A0:=Z60 u1;rw[ZV9 A0]at u2 u3;have ha:=u1;unfold fitB at ha;rw[Yd]at ha;obtain⟨f1,f2⟩:=Zy1 h A0 (ks:=u.types[z].kids) (by have:=Yf ha.2;omega) (ZR0 hr.1 hz) (of_decide_eq_false u3);refine⟨f1,fun g=>?_⟩;obtain⟨g1,g2,-,g4,g5⟩:=f2 g;exact⟨g1,g2,g4,by rw[g5];exact of_decide_eq_false u2⟩
 ·rw[h0,if_pos (by decide)]
  exact⟨by show(8:Int)≠1;decide,fun g=>absurd (show(8:Int)=0 from g) (by decide)⟩
theorem ZL8{V:Un}{n:Int}(h:rightU V=true)(hi:inL V.types n=true)(h8:kindAt V.types n≠8):underU V n=(V,n,0):=by
 unfold underU;rw[Z01 h hi,if_neg (fun g=>g rfl),if_pos h8]
theorem Zo8{s:ByteArray}{c:UInt8}(h:s.toList=[c]):byteAt s 0=(c.toNat:Int):=by
 rw[ByteArray.toList_eq]at h;unfold byteAt;rw[<-Array.getElem?_toList,h]
 rfl
theorem ZV4{s:ByteArray}(h:nameB s=true):markB s=false:=by
 unfold nameB at h;obtain⟨h1,-,h2,-⟩:=Yf h;unfold markB;rw[Bool.or_eq_false_iff,Yc,Yc]
 constructor
 ·intro e
  rw[Zo8 e]at h2
  revert h2
  decide
 ·intro e
  rw[Zo8 e]at h2
  revert h2
  decide
theorem ZK9{xs:List ByteArray}(h:xs.Pairwise (fun a b=>lessB a b=true)):risesB xs=true:=by
 refine Zp1 fun k hk=>?_
 unfold riseB;rw[Bool.or_eq_true]
 by_cases h0:k=0
 ·exact .inl (Yb h0)
 ·refine .inr ?_
  rw[Z3 hk,Z3 (by omega)];exact List.pairwise_iff_getElem.1 h (k-1) k (by omega) hk (by omega)
theorem ZO8{l:List Ty}(hr:rightT l=true){z:Nat}(hz:z<l.length)(h7:l[z].kind=7) :
  risesB ((ifaceM (l[z].words.zip l[z].kids)).map (·.name))=true/\(∀m∈ifaceM (l[z].words.zip l[z].kids),isB l m.sig 5=true)/\(ifaceM (l[z].words.zip l[z].kids)).length<=16:=by
 by_cases h22:z<22
 ·have hw:l[z].words=[]:=by
   rw[Zl hr hz h22];unfold bas
   split<;>rfl
  rw[hw];exact⟨rfl,fun m hm=>absurd hm (by unfold ifaceM;simp),by unfold ifaceM;simp⟩
 ·have hm:=(Zq hr hz h22).1
  unfold madeB at hm;rw[Yd]at hm;have A0:=hm.2;rw[h7]at A0;simp only[show ¬((7:Int)=1\/(7:Int)=2)by omega,show ¬(7:Int)=3 by omega,show ¬(7:Int)=4 by omega,show ¬(7:Int)=5 by omega,show ¬(7:Int)=6 by omega,if_false,if_true,Yd,decide_eq_true_eq]at A0;obtain⟨⟨a1,a2,a3,a4,a5⟩,a6⟩:=A0;obtain⟨b1,b2⟩:=Z07 a5 a6;have tl:(l.take z).length=z:=by rw[Y5];omega
  refine⟨?_,fun m hm=>?_,Yj (Zr2 _) (by rw[List.length_zip];omega)⟩
  ·unfold ifaceM
   rw[List.map_map];have hs:=b2.sublist (List.filter_sublist (l:=l[z].words.zip l[z].kids) (p:=fun p=>nameB p.1));refine ZK9 ?_;rw[List.pairwise_map];refine(List.pairwise_iff_forall_sublist.2 fun {a b} hab=>?_);have hb:=hab.subset (Yx _ (Yo.2 rfl));rw[List.mem_filter]at hb;have g:nextP a b:=List.pairwise_iff_forall_sublist.1 hs hab;unfold nextP at g;rw[if_neg (by rw[ZV4 hb.2];decide)]at g;exact g.2
  ·unfold ifaceM at hm
   obtain⟨p,hp,rfl⟩:=Y4.1 hm;rw[List.mem_filter]at hp;have g:=b1 p hp.1;unfold okP at g;rw[if_neg (by rw[ZV4 hp.2];decide),Yd]at g;have g5:=Yf g.2;have hk:=Zn hr hz p.2 (List.of_mem_zip hp.1).2;unfold isB inL;rw[(Zy4 l (show z<=l.length by omega)).kind hk.1 (by rw[tl];omega)];rw[Yd];exact⟨Yb (show 0<=p.2/\p.2<(l.length:Int)by omega),Yb g5⟩
theorem Zj5{u:Un}(h:rightU u=true)(i:Int) :
  (methU u i).2.2≠1/\((methU u i).2.2=0->rightU (methU u i).1=true/\risesB ((methU u i).2.1.map (·.name))=true/\(∀m∈(methU u i).2.1,isB (methU u i).1.types m.sig 5=true)/\(methU u i).2.1.length<=16):=by
 unfold methU
 rcases ZZ3 h i with h0|h0
 ·rw[h0,if_neg (fun g=>g rfl)]
  obtain⟨-,hi0,hi1⟩:=Ze0 h0;have hr:=h;rw[Z8,Yd]at hr;obtain⟨z,rfl⟩:∃z:Nat,i=(z:Int):=⟨i.toNat,by omega⟩
  have hz:z<u.types.length:=by omega
  have hf:funT u.types z=u.types[z]:=by unfold funT;rw[Z3 hz]
  rw[Yw,hf,Ze hz]
  by_cases h8:u.types[z].kind=8
  ·rw[if_pos h8]
   obtain⟨n,hn,ho,hb⟩:=ZX0 h hz h8;rw[hn];obtain⟨-,hl16,-,-,hm,hrise⟩:=oneU_iff.1 ho;rw[hb]at hm;obtain⟨f1,f2⟩:=Za2 h (ZR0 hr.1 hz) hm;refine⟨f1,fun g=>?_⟩;obtain⟨g1,-,g3,g4⟩:=f2 g;exact⟨g1,by rw[g3];exact hrise,g4,by have:=congrArg List.length g3;rw[Yg,Yg]at this;omega⟩
  ·rw[if_neg h8]
   by_cases h7:u.types[z].kind=7
   ·rw[if_pos h7]
    exact⟨by show(0:Int)≠1;decide,fun _=>⟨h,ZO8 hr.1 hz h7⟩⟩
   ·rw[if_neg h7]
    exact⟨by show(0:Int)≠1;decide,fun _=>⟨h,rfl,fun m hm=>absurd hm (by show m ∉ ([]:List Mt);simp),by show([]:List Mt).length<=16;decide⟩⟩
 ·rw[h0,if_pos (by decide)]
  exact⟨by show(8:Int)≠1;decide,fun g=>absurd (show(8:Int)=0 from g) (by decide)⟩
structure Sp where
 typ:Int
 via:Bool
 path:List Int
 many:Bool
deriving DecidableEq
structure Lk where
 sp:Sp
 form:Int
 ms:List Mt
deriving DecidableEq
structure Se where
 meth:Bool
 typ:Int
 ptr:Bool
 via:Bool
 path:List Int
deriving DecidableEq
def noSe:Se:=⟨false,0,false,false,[]⟩
def tyU(u:Un)(i:Int):Ty:=funT u.types i.toNat
def ownU(u:Un)(typ form:Int):Un×List Mt×Int:=if kindAt u.types form=7 then methU u form else if kindAt u.types typ=8 then methU u typ else(u,[],0)
def lookT:List Sp->Un->Un×List Lk×Int
 | [],u=>(u,[],0)
 | s::r,u =>
  if(underU u s.typ).2.2≠0 then(noUn,[],(underU u s.typ).2.2)
  else if(ownU (underU u s.typ).1 s.typ (underU u s.typ).2.1).2.2≠0 then(noUn,[],(ownU (underU u s.typ).1 s.typ (underU u s.typ).2.1).2.2)
  else if(lookT r (ownU (underU u s.typ).1 s.typ (underU u s.typ).2.1).1).2.2≠0 then(noUn,[],(lookT r (ownU (underU u s.typ).1 s.typ (underU u s.typ).2.1).1).2.2)
  else((lookT r (ownU (underU u s.typ).1 s.typ (underU u s.typ).2.1).1).1,⟨s,(underU u s.typ).2.1,(ownU (underU u s.typ).1 s.typ (underU u s.typ).2.1).2.1⟩::(lookT r (ownU (underU u s.typ).1 s.typ (underU u s.typ).2.1).1).2.1,0)
def frontT(u:Un)(i:Int):Un×List Sp×Int:=
 if(tyU u i).kind≠1 then(u,[⟨i,false,[],false⟩],0)
 else if(underU u ((tyU u i).kids.getD 0 0)).2.2≠0 then(noUn,[],(underU u ((tyU u i).kids.getD 0 0)).2.2)
 else if(tyU (underU u ((tyU u i).kids.getD 0 0)).1 (underU u ((tyU u i).kids.getD 0 0)).2.1).kind=1\/(tyU (underU u ((tyU u i).kids.getD 0 0)).1 (underU u ((tyU u i).kids.getD 0 0)).2.1).kind=7 then((underU u ((tyU u i).kids.getD 0 0)).1,[],0)
 else((underU u ((tyU u i).kids.getD 0 0)).1,[⟨(tyU u i).kids.getD 0 0,true,[],false⟩],0)
def embB(w:ByteArray):Bool:=decide (0<w.size/\byteAt w 0=43)
def downS(u:Un)(s:Sp)(n:Nat)(k:Int):Sp:=
 if(tyU u k).kind=1 then⟨(tyU u k).kids.getD 0 0,true,s.path++[(n:Int)],s.many⟩else⟨k,s.via,s.path++[(n:Int)],s.many⟩
def addS(seen:List Int)(es:List Sp)(x:Sp):List Sp:=
 if es.any (fun e=>decide (e.typ=x.typ))=true then es.map (fun e=>if e.typ=x.typ then { e with many:=true } else e)
 else if seen.contains x.typ=true then es else es++[x]
def embsT(u:Un)(s:Sp):Nat->List (ByteArray×Int)->List Sp
 | _,[]=>[]
 | n,(w,k)::r=>(if embB w=true then[downS u s n k]else[])++embsT u s (n+1) r
def allEmbs(u:Un)(ls:List Lk):List Sp:=ls.flatMap fun l=>if(tyU u l.form).kind=6 then embsT u l.sp 0 ((tyU u l.form).words.zip (tyU u l.form).kids)else[]
def nextT(u:Un)(ls:List Lk)(seen:List Int):List Sp:=(allEmbs u ls).foldl (addS seen) []
def hitM(l:Lk):List (ByteArray×Se):=l.ms.map fun m=>(m.name,⟨true,m.sig,m.ptr,l.sp.via,l.sp.path⟩)
def hitF(s:Sp):Nat->List (ByteArray×Int)->List (ByteArray×Se)
 | _,[]=>[]
 | n,(w,k)::r=>(fieldT w,⟨false,k,false,s.via,s.path++[(n:Int)]⟩)::hitF s (n+1) r
def hitsT(u:Un)(l:Lk):List (ByteArray×Se):=hitM l++if(tyU u l.form).kind=6 then hitF l.sp 0 ((tyU u l.form).words.zip (tyU u l.form).kids)else[]
def ofName(name:ByteArray)(hs:List (ByteArray×Se)):List Se:=(hs.filter fun h=>decide (h.1=name)).map (·.2)
def hadT(u:Un)(ls:List Lk)(name:ByteArray):List Se:=ls.flatMap fun l=>if l.sp.many=true then ofName name (hitsT u l)++ofName name (hitsT u l)else ofName name (hitsT u l)
def seekT(name:ByteArray):Nat->Un->List Sp->List Int->Un×Se×Int
 | 0,_,_,_=>(noUn,noSe,8)
 | n+1,u,es,seen =>
  if es=[]then(noUn,noSe,8)
  else if(lookT es u).2.2≠0 then(noUn,noSe,(lookT es u).2.2)
  else match hadT (lookT es u).1 (lookT es u).2.1 name with
   | [s]=>((lookT es u).1,s,0)
   | _::_::_=>(noUn,noSe,9)
   | []=>seekT name n (lookT es u).1 (nextT (lookT es u).1 (lookT es u).2.1 (seen++es.map (·.typ))) (seen++es.map (·.typ))
def selT(u:Un)(i:Int)(name:ByteArray):Un×Se×Int:=
 if(frontT u i).2.2≠0 then(noUn,noSe,(frontT u i).2.2)else seekT name 7 (frontT u i).1 (frontT u i).2.1 []
def findSe(u:Un)(i:Int)(name:ByteArray):Un×Se×Int:=
 if thereU u i≠0 then(noUn,noSe,thereU u i)else if(nameB name&&!blankB name)=false then(noUn,noSe,1)else selT u i name
def withU(u:Un)(i:Int)(ks:List Int):Un×Int×Int:=
 if(substT u.types i.toNat ks).2.2≠0 then(noUn,0,(substT u.types i.toNat ks).2.2)else(⟨(substT u.types i.toNat ks).1,u.named⟩,(substT u.types i.toNat ks).2.1,0)
theorem Ze6{u:Un}(h:rightU u=true){i:Int}{ks:List Int}(hi:inL u.types i=true)(ha:askN u.types i<=(ks.length:Int)):fillU u i ks=withU u i ks:=by
 have h2:=h;rw[Z8,Yd]at h2;have A0:=hi;unfold inL at A0;have A0:=Yf A0;unfold fillU withU
 by_cases hk:ks.length=0
 ·rw[if_pos hk]
  have A1:ks=[]:=Yp hk;unfold askN at ha;have hz:=(Zw0 (Z20 h2.1) (i.toNat+1) i.toNat).1;rw[ZUc h2.1 (i:=i.toNat) (by omega) (by rw[hk]at ha;omega) ks A1];rw[if_neg (fun g=>g rfl)]
  show(u,i,(0:Int))=(⟨u.types,u.named⟩,(i.toNat:Int),0)
  rw[show(i.toNat:Int)=i by omega]
 ·rw[if_neg hk,Zz5 h2.1 hi]
theorem Zbb{u:Un}(h:rightU u=true){z:Nat}(hz:z<u.types.length)(h8:u.types[z].kind=8)(h7:kindAt u.types (u.named.getD (atU u.named u.types[z].name).toNat ⟨⟨#[]⟩,[],0,[]⟩).under=7):methU u (z:Int)=(u,[],0):=by
 have hr:=h;rw[Z8,Yd]at hr;obtain⟨n,hn,ho,hb⟩:=ZX0 h hz h8;rw[hn]at h7;obtain⟨-,-,hu,-,-,-⟩:=oneU_iff.1 ho;obtain⟨u1,-,-,-,u5⟩:=underB_iff3.1 hu;have A0:inL u.types (z:Int)=true:=by unfold inL;exact Yb (by omega)
 have hm:n.methods=[]:=by
  rcases u5 with g|⟨g,-⟩
  ·exact g
  ·rw[ZV9 (Z60 u1),h7]at g
   exact absurd g (by decide)
 have hf:funT u.types z=u.types[z]:=by unfold funT;rw[Z3 hz]
 unfold methU;rw[Z01 h A0,if_neg (fun g=>g rfl),Yw,hf,Ze hz,if_pos h8,hn,hm]
 rfl
theorem ZP9{u:Un}(h:rightU u=true){z:Nat}(hz:z<u.types.length)(h8:u.types[z].kind=8){V:Un}{f:Int}(he:underU u (z:Int)=(V,f,0)) :
  ∃h2:z<V.types.length,V.types[z]=u.types[z]/\V.named=u.named/\kindAt V.types (V.named.getD (atU V.named V.types[z].name).toNat ⟨⟨#[]⟩,[],0,[]⟩).under=kindAt V.types f:=by
 have hr:=h;rw[Z8,Yd]at hr;have A3:inL u.types (z:Int)=true:=by unfold inL;exact Yb (by omega)
 obtain⟨n,hn,ho,hb⟩:=ZX0 h hz h8;have hf:funT u.types z=u.types[z]:=by unfold funT;rw[Z3 hz]
 obtain⟨-,-,hu,-,-,-⟩:=oneU_iff.1 ho;obtain⟨u1,u2,u3,-,-⟩:=underB_iff3.1 hu;have A0:=Z60 u1;rw[ZV9 A0]at u3;have ha:=u1;unfold fitB at ha;rw[Yd]at ha;have A1:=Zy1 h A0 (ks:=u.types[z].kids) (by have:=Yf ha.2;omega) (ZR0 hr.1 hz) (of_decide_eq_false u3);unfold underU at he;rw[Z01 h A3,if_neg (fun g=>g rfl),Ze hz,if_neg (fun g=>g h8),Yw,hf,hn]at he;rw[he]at A1;obtain⟨-,g2,g3,-,g5⟩:=A1.2 rfl;have g2:Ext u.types V.types:=g2;have g3:V.named=u.named:=g3;have g5:kindAt V.types f=kindAt u.types n.under:=g5;have A2:z<V.types.length:=Yi hz g2.2;have hg:=g2.get hz;rw[Yv A2,Yv hz,Option.some_inj]at hg;refine⟨A2,hg,g3,?_⟩;rw[g3,hg,hn,g5];unfold inL at A0;have A0:=Yf A0;exact g2.kind A0.1 A0.2
end Go.Proofs.YtdcajkagakikiaaGreatDoor
