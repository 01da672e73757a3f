import Derived.Lib.Hide
import Derived.Below
import Derived.Test.YtdcajkagakikiaaGreatDoorRows
import Derived.WalkKit
import Derived.OneCell
import Derived.Deep.QuietTactic
import Derived.BigQuiet
import Derived.OrdersHeld
import Derived.Deep.RegionHeld
import Derived.Maps.AppendAt
import Derived.OrdersIn
import Derived.TacticsIn
import Derived.RangeFuncCalls
import Derived.Lib.AppendStr
import Derived.Lib.ConvBytes
import Derived.Lib.UnsafeStr
import Derived.ArgAppend
import Derived.Deep.Upon
import Derived.Deep.MidRow
import Derived.Laws.IdiomStrings
import Derived.Laws.BytesArg
import Derived.Shelf.Strings.Builder1
import Derived.Shelf.Strings.Builder2
import Derived.Shelf.Strings.OnBuilder
import Derived.Shelf.Strconv.Itoa0
import Derived.Shelf.Strconv.Itoa1
import Derived.Shelf.LaysM
import Derived.Shelf.Strconv.Itoa2
import Derived.Shelf.Strconv.Itoa3
import Derived.Shelf.Strings.Search1
import Derived.Shelf.Strings.Search2
import Derived.Shelf.Strings.Cut
import Derived.Shelf.Strings.Shaped
import Derived.Shelf.Strconv.AppendUint10
import Derived.Shelf.Strconv.AppendInt10
import Derived.Shelf.Strconv.AppendIntPublic10
import Derived.Shelf.Strings.Prefix
import Derived.Ground.SlgnProg
import Derived.Shelf.SlicesE.Equal
import Derived.Shelf.SlicesE.Clone
namespace Go.Proofs.YtdcajkagakikiaaGreatDoor
set_option maxHeartbeats 64000000
set_option linter.unusedSimpArgs false
set_option linter.unusedVariables false
open Go.RowKit
theorem Yn {α : Sort _} (a : α) : ∃ b, a = b := ⟨a, rfl⟩
def Hi (p : Prop) : Prop := p
theorem Hi.o {p : Prop} (h : Hi p) : p := h
theorem Yh {p : Prop} (h : p) : Hi p := h
theorem YU {W w w' : World} (h : Hi (Below W.heap.size W w)) (b : Below w.heap.size w w') : Below W.heap.size W w' := h.o.trans (b.mono h.o.size)
theorem YT {W w w' : World} (h : Hi (Below W.heap.size W w)) (b : Below w.heap.size w w') : Hi (Below W.heap.size W w') := h.o.trans (b.mono h.o.size)
theorem YR {w w' : World} {b o : Nat} {v : Value} (hb : Below w.heap.size w w') (h : w.cell? ⟨b, o, none⟩ = some v) : w'.cell? ⟨b, o, none⟩ = some v :=
  (hb.cell (p := ⟨b, o, none⟩) (Nat.lt_of_not_le (fun h1 => by
    unfold World.cell? at h
    rw [Array.getElem?_eq_none h1] at h
    simp at h))).trans h
theorem Ya:∀{p:Prop}[Decidable p],¬p->decide p=false:=@decide_eq_false
theorem Yb:∀{p:Prop}[Decidable p],p->decide p=true:=@decide_eq_true
theorem Yc:∀{α:Type _}[BEq α][LawfulBEq α]{a b:α},(a==b)=false↔a≠b:=@beq_eq_false_iff_ne
theorem Yd:∀a b:Bool,((a&&b)=true)=(a=true/\b=true):=@Bool.and_eq_true
theorem Ye:∀{α:Type _}{l r:List α},(l++r).length=l.length+r.length:=@List.length_append
theorem Yf:∀{p:Prop}[Decidable p],decide p=true->p:=@of_decide_eq_true
theorem Yg:∀{α:Type _}{β:Type _}{l:List α}(f:α->β),(List.map f l).length=l.length:=@List.length_map
theorem Yi:∀{n m k:Nat},n<m->m<=k->n<k:=@Nat.lt_of_lt_of_le
theorem Yj:∀{n m k:Nat},n<=m->m<=k->n<=k:=@Nat.le_trans
theorem Yk:∀n:Nat,n<=n:=@Nat.le_refl
theorem Yl:∀n:Nat,0<=n:=@Nat.zero_le
theorem Ym:∀{n m:Nat},n<=m->n<m\/n=m:=@Nat.lt_or_eq_of_le
theorem Yo:∀{α:Type _}{a b:α},a∈[b]↔a=b:=@List.mem_singleton
theorem Yp:∀{α:Type _}{l:List α},l.length=0->l=[]:=@List.eq_nil_of_length_eq_zero
theorem Yq:∀{α:Type _}{l:List α}{n:Nat}(h:n<l.length),l[n]∈l:=@List.getElem_mem
theorem Yr:∀n:Nat,¬n<0:=@Nat.not_lt_zero
theorem Ys:∀{m n:Nat},m<n.succ->m<=n:=@Nat.le_of_lt_succ
theorem Yt:∀{α:Type _}{a:α}{l:List α},a∈a::l:=@List.mem_cons_self
theorem Yu:∀{α:Type _}{β:Type _}{f:α->β}{l r:List α},List.map f (l++r)=List.map f l++List.map f r:=@List.map_append
theorem Yv:∀{α:Type _}{l:List α}{i:Nat}(h:i<l.length),l[i]? = some l[i]:=@List.getElem?_eq_getElem
theorem Yw:∀n:Nat,(n:Int).toNat=n:=@Int.toNat_natCast
theorem Yx:∀{α:Type _}(y:α){a:α}{l:List α},a∈l->a∈y::l:=@List.mem_cons_of_mem
theorem Yy:∀{α:Type _}{i:Nat}{b:α}{xs:Array α},xs[i]? = some b↔∃h:i<xs.size,xs[i]=b:=@Array.getElem?_eq_some_iff
theorem Yz:∀{α:Type _}{a:α}{s t:List α},a∈s++t↔a∈s\/a∈t:=@List.mem_append
theorem Y1:∀{p:Prop}{_:Decidable p},decide p=false↔¬p:=@decide_eq_false_iff_not
theorem Y3:∀{α:Type _}{i:Nat}{l:List α},l.length<=i->List.take i l=l:=@List.take_of_length_le
theorem Y4:∀{α:Type _}{β:Type _}{b:β}{f:α->β}{l:List α},b∈List.map f l↔∃a,a∈l/\f a=b:=@List.mem_map
theorem Y5:∀{α:Type _}{i:Nat}{l:List α},(List.take i l).length=min i l.length:=@List.length_take
theorem Y6:∀{α:Type _}(l r q:List α),l++r++q=l++(r++q):=@List.append_assoc
theorem Y7:∀{p:Prop},(¬p->False)->p:=@Classical.byContradiction
theorem Y8:∀(B:Nat)(w:World),Below B w w:=@Below.refl
theorem Y9:∀(w:World)(a:Addr)(u:Value)(k:Nat),k≠a.block->(w.setCell a u).heap[k]? = w.heap[k]?:=@Below.heap_setCell
theorem YH:∀{a b:Prop},a->b->a/\b:=@And.intro
theorem YI:∀{α:Type _}{i:Nat}{a:α}{l:List α},l[i]? = some a↔∃h:i<l.length,l[i]=a:=@List.getElem?_eq_some_iff
theorem YJ:∀{α:Type _}[BEq α][LawfulBEq α]{a b:α},(a != b)=true↔a≠b:=@bne_iff_ne
theorem YK:∀{α:Type _}[BEq α][LawfulBEq α]{a b:α},(a==b)=true↔a=b:=@beq_iff_eq
def BlockAt(w:World)(b:Nat)(xs:Array Value)(t:TypeId):Prop:=w.heap[b]? = some (.cells xs t (0,0))
theorem BlockAt.lt{w:World}{b:Nat}{xs:Array Value}{t:TypeId}(h:BlockAt w b xs t):b<w.heap.size:=lt_of_block h
theorem BlockAt.cell{w:World}{b:Nat}{xs:Array Value}{t:TypeId}(h:BlockAt w b xs t)(k:Nat):w.cell? ⟨b,k,none⟩=xs[k]?:=by
 have h':w.heap[b]? = some (.cells xs t (0,0)):=h;simp[World.cell?,h']
theorem BlockAt.free{w:World}{b:Nat}{xs:Array Value}{t:TypeId}(h:BlockAt w b xs t)(k:Nat):w.frozen? ⟨b,k,none⟩=false:=by
 have h':w.heap[b]? = some (.cells xs t (0,0)):=h;simp[World.frozen?,h']
theorem BlockAt.below{w w':World}{b:Nat}{xs:Array Value}{t:TypeId}(h:BlockAt w b xs t)(hb:Below w.heap.size w w'):BlockAt w' b xs t:=by
 show w'.heap[b]? = _
 rw[hb.block _ h.lt];exact h
theorem BlockAt.new(w:World)(xs:Array Value)(t:TypeId):BlockAt (w.alloc (.cells xs t)) w.heap.size xs t:=by
 show(w.alloc (.cells xs t)).heap[w.heap.size]? = _
 simp only[World.alloc];exact Array.getElem?_push_size
theorem BlockAt.set{w:World}{b:Nat}{xs:Array Value}{t:TypeId}(h:BlockAt w b xs t)(k:Nat)(v:Value):BlockAt (w.setCell ⟨b,k,none⟩ v) b (xs.setIfInBounds k v) t:=by
 have A0:=lt_of_block h
 have h':w.heap[b]=.cells xs t (0,0):=by
  have h2:w.heap[b]? = some (.cells xs t (0,0)):=h
  simpa [Array.getElem?_eq_getElem A0] using h2
 show(w.heap.modify b _)[b]? = _
 rw[Array.getElem?_eq_getElem (by simpa using A0),Array.getElem_modify_self,h']
 rfl
theorem BlockAt.other{w:World}{b c:Nat}{xs:Array Value}{t:TypeId}(h:BlockAt w b xs t)(hn:b≠c)(k:Nat)(v:Value):BlockAt (w.setCell ⟨c,k,none⟩ v) b xs t:=by
 show(w.setCell ⟨c,k,none⟩ v).heap[b]? = _
 rw[Y9 _ _ _ _ hn];exact h
theorem BlockAt.drewN{w:World}{b:Nat}{xs:Array Value}{t:TypeId}(h:BlockAt w b xs t)(n:Nat):BlockAt (w.drewN n) b xs t:=h
theorem YA(w:World)(xs:Array Value)(T:TypeId):∃w1,w.alloc (.cells xs T)=w1/\BlockAt w1 w.heap.size xs T/\Below w.heap.size w w1/\w1.heap.size=w.heap.size+1:=⟨_,rfl,BlockAt.new _ _ _,(Y8 _ _).alloc (Yk _) _,by simp⟩
open Go
section
variable {P:Program} {ops:Array Oper} {Q:Exit->Act->World->Prop} {md:Region.Mode}
def Keeps(cs:List (Nat×Addr×Value))(L:Array Bool)(w:World):Prop:=∀x∈cs,L.getD x.1 false=false->w.cell? x.2.1=some x.2.2
theorem Keeps.nil{L:Array Bool}{w:World}:Keeps [] L w:=fun _ h=>by cases h
theorem Keeps.up{n:Nat}{p:Addr}{v:Value}{cs:List (Nat×Addr×Value)}{L:Array Bool}{w:World}(h:L.getD n false=true)(hs:Keeps cs L w):Keeps ((n,p,v)::cs) L w:=fun x hx hl=>by
 rcases List.mem_cons.1 hx with rfl|hx
 ·rw[h]at hl;cases hl
 ·exact hs x hx hl
theorem Keeps.cons{n:Nat}{p:Addr}{v:Value}{cs:List (Nat×Addr×Value)}{L:Array Bool}{w:World}(h:w.cell? p=some v)(hs:Keeps cs L w):Keeps ((n,p,v)::cs) L w:=fun x hx hl=>by
 rcases List.mem_cons.1 hx with rfl|hx
 ·exact h
 ·exact hs x hx hl
theorem Keeps.set{cs:List (Nat×Addr×Value)}{i:Nat}(hi:cs.all (fun x=>x.1 != i)=true)(L:Array Bool)(w:World):Keeps cs (L.setIfInBounds i true) w↔Keeps cs L w:=by
 have hne:∀x∈cs,i≠x.1:=fun x hx=>by
  have:=List.all_eq_true.1 hi x hx;intro e;rw[e]at this;simp at this
 constructor
 ·intro h x hx hl
  exact h x hx (by rw[getD_set_ne false (hne x hx)];exact hl)
 ·intro h x hx hl
  exact h x hx (by rw[getD_set_ne false (hne x hx)]at hl;exact hl)
def wpAnyG(P:Program)(md:Region.Mode)(ops:Array Oper)(Q:Exit->Act->World->Prop)(cs:List (Nat×Addr×Value)):Nat->Array Bool->Act->World->Prop
 | 0,listed,a,w=>Region.ready md ops listed=[]/\Q .normal a w
 | fuel+1,listed,a,w =>
  (Region.ready md ops listed=[]->Q .normal a w) /\
  ∀i∈Region.ready md ops listed,wpOp P ops Q i (fun a' w'=>Keeps cs (listed.setIfInBounds i true) w'/\wpAnyG P md ops Q cs fuel (listed.setIfInBounds i true) a' w') a w
theorem Zy2{cs:List (Nat×Addr×Value)}:∀(fuel:Nat) (listed:Array Bool) (a:Act) (w:World),wpAnyG P md ops Q cs fuel listed a w->wpAny P md ops Q fuel listed a w
 | 0,_,_,_,h=>h
 | fuel+1,_,_,_,h=>⟨h.1,fun i hi=>wpOp_mono (fun a' w' h'=>Zy2 fuel _ a' w' h'.2) (h.2 i hi)⟩
def waitsB(md:Region.Mode)(ops:Array Oper)(i:Nat)(D:List Nat):Bool:=D.all fun d=>match ops[d]? with
 | some o=>o.after.any fun e=>Region.binds md e&&(e.on==i||D.contains e.on)
 | none=>true
theorem ZC8{i j:Nat}{D:List Nat}{listed:Array Bool}(h:waitsB md ops i D=true)(hi:listed.getD i false=false)(hD:∀d∈D,listed.getD d false=false)(hj:j∈Region.ready md ops listed):j ∉ D:=by
 intro hjd;obtain⟨_,o,ho,hall⟩:=mem_ready.1 hj;have h1:=List.all_eq_true.1 h j hjd;simp only[ho]at h1;obtain⟨k,hk,h2⟩:=Array.any_eq_true.1 h1;simp only[Yd,Bool.or_eq_true,YK]at h2;have h3:=hall _ (Array.getElem_mem hk) h2.1
 rcases h2.2 with h4|h4
 ·rw[h4,hi]at h3;cases h3
 ·rw[hD _ (by simpa using h4)]at h3;cases h3
theorem Zf8{i:Nat}{oi:Oper}{v:Value}{cs:List (Nat×Addr×Value)}{D:List Nat}(hi:ops[i]? = some oi)(hsel:∀(j:Nat) (o:Oper) cs b,ops[j]? = some o->o.op≠.select cs b)
  (hQ:∀c a w,Q (.panic c) (a.put oi.dst v) w->Q (.panic c) a w) (hw:waitsB md ops i D=true) (hne:cs.all (fun x=>x.1 != i)=true) :
  ∀(fuel:Nat) (listed:Array Bool) (a:Act) (w:World),
   (∀j oj,ops[j]? = some oj->j≠i->listed.getD j true=false->(∀e∈oj.after,Region.binds md e=true->e.on≠i)->oi.apart ops oj=true) ->
   i∈Region.ready md ops listed->(∀d∈D,listed.getD d false=false)->YieldsIf P ops (fun w=>∀x∈cs,x.1∈D->w.cell? x.2.1=some x.2.2) oi v a->Keeps cs listed w ->
   wpAnyG P md ops Q cs fuel (listed.setIfInBounds i true) (a.put oi.dst v) w->wpAnyG P md ops Q cs (fuel+1) listed a w:=by
 have hT:∀(L:Array Bool) (w:World),(∀d∈D,L.getD d false=false)->Keeps cs L w->∀x∈cs,x.1∈D->w.cell? x.2.1=some x.2.2:=fun L w h1 h2 x hx hxd=>h2 x hx (h1 _ hxd)
 intro fuel
 induction fuel with
 | zero =>
  intro listed a w _ hr hD hy hS H;refine⟨fun h=>(by rw[h]at hr;cases hr),fun j hj=>?_⟩
  by_cases hji:j=i
  ·subst hji;exact hy.wpOp hi (hT _ _ hD hS) ⟨(Keeps.set hne _ _).2 hS,H⟩
  ·have:=ready_mono hj hji
   rw[H.1]at this
   cases this
 | succ fuel ih =>
  intro listed a w hfree hr hD hy hS H;refine⟨fun h=>(by rw[h]at hr;cases hr),fun j hj=>?_⟩
  by_cases hji:j=i
  ·subst hji;exact hy.wpOp hi (hT _ _ hD hS) ⟨(Keeps.set hne _ _).2 hS,H⟩
  ·have h1:=H.2 j (ready_mono hj hji)
   obtain⟨hjun,oj,hoj,hall⟩:=mem_ready.1 hj
   have hi0:listed.getD i false=false:=by
    have h0:=(mem_ready.1 hr).1
    rcases Nat.lt_or_ge i listed.size with h' | h'
    ·simp[h']at h0 ⊢;exact h0
    ·simp[Array.getElem?_eq_none h']
   have hnot:∀e∈oj.after,Region.binds md e=true->e.on≠i:=fun e he hb heq=>by
    have h1:=hall e he hb;rw[heq,hi0]at h1
    cases h1
   have hjD:j ∉ D:=ZC8 hw hi0 hD hj
   have hD':∀d∈D,(listed.setIfInBounds j true).getD d false=false:=fun d hd=>by
    rw[getD_set_ne false (show j≠d from fun e=>hjD (by rw[e];exact hd))];exact hD d hd
   have h2:=wpOp_putIf hoj (hfree j oj hoj hji hjun hnot) (fun cs b=>hsel i oi cs b hi) (fun cs b=>hsel j oj cs b hoj) hQ hy h1
   have hfree':∀k ok,ops[k]? = some ok->k≠i->(listed.setIfInBounds j true).getD k true=false ->
     (∀e∈ok.after,Region.binds md e=true->e.on≠i)->oi.apart ops ok=true:=fun k ok hk hki hun hno=>by
    refine hfree k ok hk hki ?_ hno
    by_cases hjk:j=k
    ·subst hjk;exact hjun
    ·rw[getD_set_ne true hjk]at hun;exact hun
   refine wpOp_mono (fun a' w' h3=>?_) h2
   have h4:Keeps cs (listed.setIfInBounds j true) w':=by
    have:=h3.2.1;rw[Array.setIfInBounds_comm _ _ (Ne.symm hji)]at this;exact(Keeps.set hne _ _).1 this
   refine⟨h4,ih (listed.setIfInBounds j true) a' w' hfree' (ready_mono hr (Ne.symm hji)) hD' h3.1 h4 ?_⟩;rw[Array.setIfInBounds_comm _ _ hji];exact h3.2.2
def GoG(P:Program)(md:Region.Mode)(ops:Array Oper)(Q:Exit->Act->World->Prop)(cs:List (Nat×Addr×Value))(fuel:Nat)(listed:Array Bool)(a:Act)(w:World):Prop:=
 Keeps cs listed w->wpAnyG P md ops Q cs fuel listed a w
theorem GoG.take{i:Nat}{oi:Oper}{v:Value}{cs:List (Nat×Addr×Value)}(D:List Nat){fuel:Nat}{listed:Array Bool}{a:Act}{w:World}(hi:ops[i]? = some oi)
  (hs:Region.noSelect ops=true) (hf:Region.free md ops listed i=true) (hr:(Region.ready md ops listed).contains i=true) (hw:waitsB md ops i D=true) (hne:cs.all (fun x=>x.1 != i)=true) (hD:D.all (fun d=>!listed.getD d false)=true)
  (hQ:∀c a w,Q (.panic c) (a.put oi.dst v) w->Q (.panic c) a w) (hy:YieldsIf P ops (fun w=>∀x∈cs,x.1∈D->w.cell? x.2.1=some x.2.2) oi v a)
  (h:GoG P md ops Q cs fuel (listed.setIfInBounds i true) (a.put oi.dst v) w):GoG P md ops Q cs (fuel+1) listed a w:=fun hS =>
 Zf8 hi (Region.noSelect_spec hs) hQ hw hne fuel listed a w (Region.free_spec hi hf) (by simpa using hr) (fun d hd=>by simpa using List.all_eq_true.1 hD d hd) hy hS (h ((Keeps.set hne _ _).2 hS))
theorem Z1e{o:Oper}{v:Value}{a:Act}{cs:List (Nat×Addr×Value)}{D:List Nat}(n:Nat)(p:Addr)(u:Value)(hm:(n,p,u)∈cs)(hd:n∈D)(hw:Region.wanted o (yielded ops a.tmps)=true)
  (h:∀w:World,w.cell? p=some u->(execOp a.eval o).run P w=.ok (.value v) w):YieldsIf P ops (fun w=>∀x∈cs,x.1∈D->w.cell? x.2.1=some x.2.2) o v a:=
 .inl ⟨hw,fun w hS=>h w (hS _ hm hd)⟩
theorem ZB8{o:Oper}{v:Value}{a:Act}{S:World->Prop}(hw:Region.wanted o (yielded ops a.tmps)=true)(h:∀w:World,(execOp a.eval o).run P w=.ok (.value v) w):YieldsIf P ops S o v a:=
 .inl ⟨hw,fun w _=>h w⟩
theorem GoG.one{i:Nat}{o:Oper}{cs:List (Nat×Addr×Value)}{fuel:Nat}{listed:Array Bool}{a:Act}{w:World}(ho:ops[i]? = some o)(hr:Region.ready md ops listed=[i])
  (h:∀K':Act->World->Prop,Shut (∀a w,Keeps cs (listed.setIfInBounds i true) w->GoG P md ops Q cs fuel (listed.setIfInBounds i true) a w->K' a w)->if Region.wanted o (yielded ops a.tmps)=true then Oper.wp P o a w K' Q else K' (a.put o.dst undef) w) :
  GoG P md ops Q cs (fuel+1) listed a w:=fun _=>by
 refine⟨fun h0=>absurd (hr▸h0) (by simp),fun j hj=>?_⟩;rw[hr]at hj;obtain rfl:j=i:=by simpa using hj
 exact wpOp_step ho (fun K' hK=>h K' (fun a w hS hW=>hK a w ⟨hS,hW hS⟩))
theorem GoG.done{cs:List (Nat×Addr×Value)}{listed:Array Bool}{a:Act}{w:World}(hr:Region.ready md ops listed=[])(h:Q .normal a w):∀fuel,GoG P md ops Q cs fuel listed a w
 | 0=>fun _=>⟨hr,h⟩
 | _+1=>fun _=>⟨fun _=>h,by rw[hr];simp⟩
theorem GoG.start{id:Nat}{a:Act}{w:World}(cs:List (Nat×Addr×Value))(hm:P.follows .mixedOrders=true)(hS:Keeps cs (Array.replicate ops.size false) w.drew)
  (h:GoG P .any ops Q cs ops.size (Array.replicate ops.size false) a w.drew):(Code.region id ops true).wp P Q a w:=
 wp_region_any hm (Zy2 _ _ _ _ (h hS))
end
section
variable {P:Program} {ops:Array Oper} {Q:Exit->Act->World->Prop} {md:Region.Mode} {oi:Oper} {v:Value} {cs:List (Nat×Addr×Value)} {fuel:Nat} {listed:Array Bool} {a a':Act} {w:World}
theorem YB{α:Type}{xs:List α}{i:Nat}(h:i<xs.toArray.size):xs.toArray[i]'h=xs[i]'(by simpa using h):=List.getElem_toArray h
theorem YC{α:Type}{a:α}{l:List α}{n:Nat}{h:n+1<(a::l).length}:(a::l)[n+1]'h=l[n]'(by simpa using h):=List.getElem_cons_succ ..
theorem YD{α:Type}{a:α}{l:List α}{h:0<(a::l).length}:(a::l)[0]'h=a:=List.getElem_cons_zero ..
theorem YE{α:Type}{l:List α}{i:Nat}{a:α}:l.toArray.setIfInBounds i a=(l.set i a).toArray:=List.setIfInBounds_toArray ..
theorem YF{α:Type}{x b:α}{xs:List α}:(x::xs).set 0 b=b::xs:=List.set_cons_zero ..
theorem YG{α:Type}{x b:α}{xs:List α}{i:Nat}:(x::xs).set (i+1) b=x::xs.set i b:=List.set_cons_succ ..
def okB(md:Region.Mode)(ops:Array Oper)(cs:List (Nat×Addr×Value))(listed:Array Bool)(i:Nat)(D:List Nat):Bool:=Region.noSelect ops&&Region.free md ops listed i&&(Region.ready md ops listed).contains i&&waitsB md ops i D&&cs.all (fun x=>x.1 != i)&&D.all (fun d=>!listed.getD d false)
theorem Zv0{i:Nat}{D:List Nat}(ha:a.put oi.dst v=a')(hk:okB md ops cs listed i D=true)(hi:ops[i]? = some oi)(hQ:∀c a w,Q (.panic c) (a.put oi.dst v) w->Q (.panic c) a w)(hy:YieldsIf P ops (fun w=>∀x∈cs,x.1∈D->w.cell? x.2.1=some x.2.2) oi v a)(h:GoG P md ops Q cs fuel (listed.setIfInBounds i true) a' w):GoG P md ops Q cs (fuel+1) listed a w:=by
 subst ha;unfold okB at hk;simp only[Yd]at hk;exact GoG.take D hi hk.1.1.1.1.1 hk.1.1.1.1.2 hk.1.1.1.2 hk.1.1.2 hk.1.2 hk.2 hQ hy h
variable (i:Nat)
theorem GoG.fr(h:GoG P md ops Q cs fuel (listed.setIfInBounds i true) a' w)(hi:ops[i]? = some oi:=by rfl)(hw:Region.wanted oi (yielded ops a.tmps)=true:=by rfl)(hr:∀w:World,(execOp a.eval oi).run P w=.ok (.value v) w:=by(intro w;go_simp;try (with_reducible rfl)))(ha:a.put oi.dst v=a':=by(simp only[Act.put,YB,YC,YD,YE,YF,YG];try (with_reducible rfl)))(hk:okB md ops cs listed i []=true:=by kernel_rfl)(hQ:∀c a w,Q (.panic c) (a.put oi.dst v) w->Q (.panic c) a w:=by exact fun _ _ _ h=>h):GoG P md ops Q cs (fuel+1) listed a w:=Zv0 ha hk hi hQ (ZB8 hw hr) h
theorem GoG.uw(h:GoG P md ops Q cs fuel (listed.setIfInBounds i true) a' w)(hi:ops[i]? = some oi:=by rfl)(hw:Region.wanted oi (yielded ops a.tmps)=false:=by rfl)(hv:v=undef:=by rfl)(ha:a.put oi.dst v=a':=by(simp only[Act.put,YB,YC,YD,YE,YF,YG];try (with_reducible rfl)))(hk:okB md ops cs listed i []=true:=by kernel_rfl)(hQ:∀c a w,Q (.panic c) (a.put oi.dst v) w->Q (.panic c) a w:=by exact fun _ _ _ h=>h):GoG P md ops Q cs (fuel+1) listed a w:=Zv0 ha hk hi hQ (.inr ⟨hw,hv⟩) h
theorem GoG.s1(k:Nat)(D:List Nat){n0:Nat}{p0:Addr}{u0:Value}(h:GoG P md ops Q cs fuel (listed.setIfInBounds i true) a' w)(hi:ops[i]? = some oi:=by rfl)(c0:cs[k+0]? = some (n0,p0,u0):=by rfl)(d0:D.contains n0=true:=by kernel_rfl)(hw:Region.wanted oi (yielded ops a.tmps)=true:=by rfl)(hr:∀w:World,w.cell? p0=some u0->(execOp a.eval oi).run P w=.ok (.value v) w:=by(intro w g0;go_simp;try (with_reducible rfl)))(ha:a.put oi.dst v=a':=by(simp only[Act.put,YB,YC,YD,YE,YF,YG];try (with_reducible rfl)))(hk:okB md ops cs listed i D=true:=by kernel_rfl)(hQ:∀c a w,Q (.panic c) (a.put oi.dst v) w->Q (.panic c) a w:=by exact fun _ _ _ h=>h):GoG P md ops Q cs (fuel+1) listed a w:=Zv0 ha hk hi hQ (.inl ⟨hw,fun w hS=>hr w (hS _ (List.mem_of_getElem? c0) (List.contains_iff_mem.1 d0))⟩) h
theorem GoG.s2(k:Nat)(D:List Nat){n0:Nat}{p0:Addr}{u0:Value}{n1:Nat}{p1:Addr}{u1:Value}(h:GoG P md ops Q cs fuel (listed.setIfInBounds i true) a' w)(hi:ops[i]? = some oi:=by rfl)(c0:cs[k+0]? = some (n0,p0,u0):=by rfl)(d0:D.contains n0=true:=by kernel_rfl)(c1:cs[k+1]? = some (n1,p1,u1):=by rfl)(d1:D.contains n1=true:=by kernel_rfl)(hw:Region.wanted oi (yielded ops a.tmps)=true:=by rfl)(hr:∀w:World,w.cell? p0=some u0->w.cell? p1=some u1->(execOp a.eval oi).run P w=.ok (.value v) w:=by(intro w g0 g1;go_simp;try (with_reducible rfl)))(ha:a.put oi.dst v=a':=by(simp only[Act.put,YB,YC,YD,YE,YF,YG];try (with_reducible rfl)))(hk:okB md ops cs listed i D=true:=by kernel_rfl)(hQ:∀c a w,Q (.panic c) (a.put oi.dst v) w->Q (.panic c) a w:=by exact fun _ _ _ h=>h):GoG P md ops Q cs (fuel+1) listed a w:=Zv0 ha hk hi hQ (.inl ⟨hw,fun w hS=>hr w (hS _ (List.mem_of_getElem? c0) (List.contains_iff_mem.1 d0)) (hS _ (List.mem_of_getElem? c1) (List.contains_iff_mem.1 d1))⟩) h
theorem GoG.s4(k:Nat)(D:List Nat){n0:Nat}{p0:Addr}{u0:Value}{n1:Nat}{p1:Addr}{u1:Value}{n2:Nat}{p2:Addr}{u2:Value}{n3:Nat}{p3:Addr}{u3:Value}(h:GoG P md ops Q cs fuel (listed.setIfInBounds i true) a' w)(hi:ops[i]? = some oi:=by rfl)(c0:cs[k+0]? = some (n0,p0,u0):=by rfl)(d0:D.contains n0=true:=by kernel_rfl)(c1:cs[k+1]? = some (n1,p1,u1):=by rfl)(d1:D.contains n1=true:=by kernel_rfl)(c2:cs[k+2]? = some (n2,p2,u2):=by rfl)(d2:D.contains n2=true:=by kernel_rfl)(c3:cs[k+3]? = some (n3,p3,u3):=by rfl)(d3:D.contains n3=true:=by kernel_rfl)(hw:Region.wanted oi (yielded ops a.tmps)=true:=by rfl)(hr:∀w:World,w.cell? p0=some u0->w.cell? p1=some u1->w.cell? p2=some u2->w.cell? p3=some u3->(execOp a.eval oi).run P w=.ok (.value v) w:=by(intro w g0 g1 g2 g3;go_simp;try (with_reducible rfl)))(ha:a.put oi.dst v=a':=by(simp only[Act.put,YB,YC,YD,YE,YF,YG];try (with_reducible rfl)))(hk:okB md ops cs listed i D=true:=by kernel_rfl)(hQ:∀c a w,Q (.panic c) (a.put oi.dst v) w->Q (.panic c) a w:=by exact fun _ _ _ h=>h):GoG P md ops Q cs (fuel+1) listed a w:=Zv0 ha hk hi hQ (.inl ⟨hw,fun w hS=>hr w (hS _ (List.mem_of_getElem? c0) (List.contains_iff_mem.1 d0)) (hS _ (List.mem_of_getElem? c1) (List.contains_iff_mem.1 d1)) (hS _ (List.mem_of_getElem? c2) (List.contains_iff_mem.1 d2)) (hS _ (List.mem_of_getElem? c3) (List.contains_iff_mem.1 d3))⟩) h
theorem GoG.s5(k:Nat)(D:List Nat){n0:Nat}{p0:Addr}{u0:Value}{n1:Nat}{p1:Addr}{u1:Value}{n2:Nat}{p2:Addr}{u2:Value}{n3:Nat}{p3:Addr}{u3:Value}{n4:Nat}{p4:Addr}{u4:Value}(h:GoG P md ops Q cs fuel (listed.setIfInBounds i true) a' w)(hi:ops[i]? = some oi:=by rfl)(c0:cs[k+0]? = some (n0,p0,u0):=by rfl)(d0:D.contains n0=true:=by kernel_rfl)(c1:cs[k+1]? = some (n1,p1,u1):=by rfl)(d1:D.contains n1=true:=by kernel_rfl)(c2:cs[k+2]? = some (n2,p2,u2):=by rfl)(d2:D.contains n2=true:=by kernel_rfl)(c3:cs[k+3]? = some (n3,p3,u3):=by rfl)(d3:D.contains n3=true:=by kernel_rfl)(c4:cs[k+4]? = some (n4,p4,u4):=by rfl)(d4:D.contains n4=true:=by kernel_rfl)(hw:Region.wanted oi (yielded ops a.tmps)=true:=by rfl)(hr:∀w:World,w.cell? p0=some u0->w.cell? p1=some u1->w.cell? p2=some u2->w.cell? p3=some u3->w.cell? p4=some u4->(execOp a.eval oi).run P w=.ok (.value v) w:=by(intro w g0 g1 g2 g3 g4;go_simp;try (with_reducible rfl)))(ha:a.put oi.dst v=a':=by(simp only[Act.put,YB,YC,YD,YE,YF,YG];try (with_reducible rfl)))(hk:okB md ops cs listed i D=true:=by kernel_rfl)(hQ:∀c a w,Q (.panic c) (a.put oi.dst v) w->Q (.panic c) a w:=by exact fun _ _ _ h=>h):GoG P md ops Q cs (fuel+1) listed a w:=Zv0 ha hk hi hQ (.inl ⟨hw,fun w hS=>hr w (hS _ (List.mem_of_getElem? c0) (List.contains_iff_mem.1 d0)) (hS _ (List.mem_of_getElem? c1) (List.contains_iff_mem.1 d1)) (hS _ (List.mem_of_getElem? c2) (List.contains_iff_mem.1 d2)) (hS _ (List.mem_of_getElem? c3) (List.contains_iff_mem.1 d3)) (hS _ (List.mem_of_getElem? c4) (List.contains_iff_mem.1 d4))⟩) h
theorem Kd{n:Nat}{p:Addr}{L:Array Bool}(hs:Keeps cs L w)(h:w.cell? p=some v:=by assumption):Keeps ((n,p,v)::cs) L w:=Keeps.cons h hs
theorem Ku{n:Nat}{p:Addr}{L:Array Bool}(hs:Keeps cs L w)(h:L.getD n false=true:=by rfl):Keeps ((n,p,v)::cs) L w:=Keeps.up h hs
theorem Kc{n:Nat}{p:Addr}{L:Array Bool}(h:w.cell? p=some v)(hs:Keeps cs L w):Keeps ((n,p,v)::cs) L w:=Keeps.cons h hs
theorem Kn{L:Array Bool}:Keeps [] L w:=Keeps.nil
theorem GoG.on(h:∀K':Act->World->Prop,Shut (∀a w,Keeps cs (listed.setIfInBounds i true) w->GoG P md ops Q cs fuel (listed.setIfInBounds i true) a w->K' a w)->if Region.wanted oi (yielded ops a.tmps)=true then Oper.wp P oi a w K' Q else K' (a.put oi.dst undef) w)(ho:ops[i]? = some oi:=by rfl)(hr:Region.ready md ops listed=[i]:=by kernel_rfl):GoG P md ops Q cs (fuel+1) listed a w:=GoG.one ho hr h
end
section
variable {P:Program} {ops:Array Oper} {Q:Exit->Act->World->Prop} {md:Region.Mode}
theorem GoG.append{i:Nat}{o:Oper}{cs:List (Nat×Addr×Value)}{fuel:Nat}{listed:Array Bool}{a:Act}{w:World}(ho:ops[i]? = some o)(hr:Region.ready md ops listed=[i])(hgd:o.guard=none)(s x:Operand)(t:TypeId)
  (hop:o.op=.call { callee:=.builtin .append,args:=#[s,x],argTypes:=#[t,t] })
  (base:Nat) (e:TypeId) (ti:TypeInfo) (z:Value) (size bytes:Nat) (ht:P.underlying t=some (.slice e)) (hi:P.info? e=some ti) (hz:ti.zero=some z)
  (hsize:ti.size=size) (hby:ti.bytes=bytes) (hzs:z.cells.size=size) (hsz:0<size)
  (v:Value) (n:Nat) (xs:List Value) (hs:a.eval s=v) (hown:w.ownsRow base e size v n xs)
  (ad:Addr) (m c:Nat) (news:List Value) (hx:a.eval x=.slice (some ad) m c) (hl:news.length=m*size) (hnews:∀j u,news[j]? = some u->w.cell? (ad.add j)=some u) (h1:∀u∈news,u.oneCell'=true)
  (h63:n+m<=maxLen) (hbytes:(n+m)*bytes<=140737488355328) (hbase:base<=w.heap.size)
  (h:∀v' w',w'.ownsRow base e size v' (n+m) (xs++news)->w.grownBy w' v.ownBlock->(v'.ownBlock=v.ownBlock\/v'.ownBlock=some w.heap.size) ->
   Keeps cs (listed.setIfInBounds i true) w'/\GoG P md ops Q cs fuel (listed.setIfInBounds i true) (a.put o.dst v') w') :
  GoG P md ops Q cs (fuel+1) listed a w:=by
 refine GoG.one ho hr (fun K' hK=>?_);have hw:Region.wanted o (yielded ops a.tmps)=true:=by unfold Region.wanted;rw[hgd]
 rw[if_pos hw];obtain⟨v',w',hr',h2,h3,h4,h5⟩:=run_append_own_at (P:=P) w base t o.type e ti z size bytes ht hi hz hsize hby hzs hsz v n xs hown ad m c news hl hnews h1 h63 hbytes hbase;unfold Oper.wp execOp;simp only[hop,resolve,invoke,builtin,Sem.run_bind,Sem.run_pure,Result.andThen_ok,List.map_toArray,List.map_cons,List.map_nil,hs,hx,hr'];have h6:=h v' w' h2 h3 h5;exact hK.out _ _ h6.1 h6.2
end
section
variable {P:Program} {ops:Array Oper} {Q:Exit->Act->World->Prop} {md:Region.Mode} {l n:Nat}
def noDefer(ops:Array Oper):Bool:=ops.all fun o=>match o.op with | .defer _=>false|_=>true
theorem Zk7(h:noDefer ops=true){i:Nat}{o:Oper}(ho:ops[i]? = some o):∀c,o.op≠.defer c:=by
 intro c e;obtain⟨hi,rfl⟩:=Yy.1 ho;have:=Array.all_eq_true.1 h i hi;rw[e]at this
 cases this
theorem Zkb{row:String}{args:Array Value}{w:World}{R:Value->World->Prop}(h:Rows P row args w R):RowsIn (Fence.wide.inRound l) n P row args w R:=fun c cs _=>by
 obtain⟨v,w',h1,h2⟩:=h c cs;exact⟨v,w',h1,stepsIn_wide.2 h2⟩
theorem Z3b{o:Oper}{a:Act}{w:World}{K:Act->World->Prop}(hd:∀c,o.op≠.defer c)(h:Oper.wp P o a w K Q):Oper.wpIn (Fence.wide.inRound l) n P o a w K Q:=by
 unfold Oper.wp at h;unfold Oper.wpIn;refine⟨fun _ _=>trivial,?_⟩;rw[Fence.inRound_round,Oper.semAt_some _ _ _ hd]
 generalize (execOp a.eval o).run P w=r at *
 cases r with
 | ok x w' =>
  cases x with
  | value v=>exact h
  | skip=>exact h
  | defer d=>exact h
  | enter f args=>exact⟨fun g=>(by cases g),CallsIn.inRound l (callsIn_wide.2 h)⟩
  | row row args=>exact⟨fun g=>(by cases g),Zkb h⟩
  | _=>exact h.elim
 | halt x w' =>
  cases x with
  | panic v=>exact h
  | _=>exact h.elim
theorem Zsb(hd:noDefer ops=true)(hL:¬LetsOut Q){i:Nat}{K:Act->World->Prop}{a:Act}{w:World}(h:wpOp P ops Q i K a w):wpOpIn (Fence.wide.inRound l) n P ops Q i K a w:=by
 unfold wpOp at h;unfold wpOpIn
 cases ho:ops[i]? with
 | none=>rw[ho]at h;exact h
 | some o =>
  rw[ho]at h;simp only at h ⊢
  split
  ·rename_i hw
   rw[if_pos hw]at h;exact Z3b (Zk7 hd ho) (h.resolve_right (fun g=>hL g.2))
  ·rename_i hw
   rw[if_neg hw]at h;exact⟨fun _ _=>trivial,h⟩
theorem Zt5(hd:noDefer ops=true)(hL:¬LetsOut Q):∀(fuel:Nat) (listed:Array Bool) (a:Act) (w:World),wpAny P md ops Q fuel listed a w->wpAnyIn (Fence.wide.inRound l) n P md ops Q fuel listed a w
 | 0,_,_,_,h=>h
 | fuel+1,_,_,_,h=>⟨h.1,fun i hi=>wpOpIn_mono (fun a' w' h'=>Zt5 hd hL fuel _ a' w' h') (Zsb hd hL (h.2 i hi))⟩
theorem GoG.startIn{id:Nat}{a:Act}{w:World}(cs:List (Nat×Addr×Value))(hm:P.follows .mixedOrders=true)(hd:noDefer ops=true)(hL:¬LetsOut Q)(hS:Keeps cs (Array.replicate ops.size false) w.drew)
  (h:GoG P .any ops Q cs ops.size (Array.replicate ops.size false) a w.drew):(Code.region id ops true).wpIn (Fence.wide.inRound l) n P Q a w:=
 wpIn_region_any hm (Zt5 hd hL _ _ _ _ (Zy2 _ _ _ _ (h hS)))
end
section
variable {P:Program} {ops:Array Oper} {Q:Exit->Act->World->Prop} {md:Region.Mode}
theorem GoG.two{i j:Nat}{oi oj:Oper}{cs:List (Nat×Addr×Value)}{fuel:Nat}{listed:Array Bool}{a:Act}{w:World}(hi:ops[i]? = some oi)(hj:ops[j]? = some oj)(hr:Region.ready md ops listed=[i,j])
  (h1:∀K':Act->World->Prop,Shut (∀a w,Keeps cs (listed.setIfInBounds i true) w->GoG P md ops Q cs fuel (listed.setIfInBounds i true) a w->K' a w)->if Region.wanted oi (yielded ops a.tmps)=true then Oper.wp P oi a w K' Q else K' (a.put oi.dst undef) w)
  (h2:∀K':Act->World->Prop,Shut (∀a w,Keeps cs (listed.setIfInBounds j true) w->GoG P md ops Q cs fuel (listed.setIfInBounds j true) a w->K' a w)->if Region.wanted oj (yielded ops a.tmps)=true then Oper.wp P oj a w K' Q else K' (a.put oj.dst undef) w) :
  GoG P md ops Q cs (fuel+1) listed a w:=fun _=>by
 refine⟨fun h0=>absurd (hr▸h0) (by simp),fun k hk=>?_⟩;rw[hr]at hk
 rcases(by simpa using hk:k=i\/k=j)with rfl|rfl
 ·exact wpOp_step hi (fun K' hK=>h1 K' (fun a w hS hW=>hK a w ⟨hS,hW hS⟩))
 ·exact wpOp_step hj (fun K' hK=>h2 K' (fun a w hS hW=>hK a w ⟨hS,hW hS⟩))
end
open Go Go.RowKit
def RowC(w:World)(base:Nat)(v:Value)(n:Nat)(xs:List Value):Prop:=
 ∃g cap,v=.slice (some ⟨g,0,none⟩) n cap/\base<=g/\g<w.heap.size/\n<=cap/\cap<=maxLen/\xs.length=n /\
  (∀j u,xs[j]? = some u->w.cell? ⟨g,j,none⟩=some u)/\∀j,j<cap->(w.cell? ⟨g,j,none⟩).isSome=true/\w.frozen? ⟨g,j,none⟩=false
theorem Z42(g j:Nat):(⟨g,0,none⟩:Addr).add j=⟨g,j,none⟩:=by unfold Addr.add;split<;>simp_all
theorem RowC.carry{w w':World}{base:Nat}{v:Value}{n:Nat}{xs:List Value}(h:RowC w base v n xs)(hs:w.heap.size<=w'.heap.size)(hb:∀g,v.ownBlock=some g->w'.heap[g]? = w.heap[g]?):RowC w' base v n xs:=by
 obtain⟨g,cap,rfl,h1,h2,h3,h4,h5,h6,h7⟩:=h;have e:=hb g rfl;refine⟨g,cap,rfl,h1,Yi h2 hs,h3,h4,h5,fun j u hu=>?_,fun j hj=>?_⟩
 ·exact(World.cell?_of_block (a:=⟨g,j,none⟩) e).trans (h6 j u hu)
 ·exact⟨by rw[World.cell?_of_block (a:=⟨g,j,none⟩) e];exact(h7 j hj).1,(World.frozen?_of_block (a:=⟨g,j,none⟩) e).trans (h7 j hj).2⟩
theorem RowC.lt{w:World}{base:Nat}{v:Value}{n:Nat}{xs:List Value}(h:RowC w base v n xs):∀k,v.ownBlock=some k->base<=k/\k<w.heap.size:=by
 obtain⟨g,cap,rfl,h1,h2,-⟩:=h;intro k hk;simp[Value.ownBlock]at hk;subst hk;exact⟨h1,h2⟩
theorem RowC.below{w w':World}{base:Nat}{v:Value}{n:Nat}{xs:List Value}(h:RowC w base v n xs)(hb:Below w.heap.size w w'):RowC w' base v n xs:=
 h.carry hb.size (fun g hg=>hb.block g (h.lt g hg).2)
theorem RowC.alloc{w:World}{base:Nat}{v:Value}{n:Nat}{xs:List Value}(h:RowC w base v n xs)(o:Obj):RowC (w.alloc o) base v n xs:=
 h.below ((Y8 _ _).alloc (Yk _) _)
theorem RowC.mono{w:World}{base base':Nat}{v:Value}{n:Nat}{xs:List Value}(h:RowC w base v n xs)(hb:base'<=base):RowC w base' v n xs:=by
 obtain⟨g,cap,h0,h1,h2⟩:=h;exact⟨g,cap,h0,Yj hb h1,h2⟩
theorem RowC.slice{w:World}{base:Nat}{v:Value}{n:Nat}{xs:List Value}(h:RowC w base v n xs):∃ao cap,v=.slice ao n cap:=by
 obtain⟨g,cap,rfl,-⟩:=h;exact⟨_,_,rfl⟩
theorem Z14{w:World}{base:Nat}{e:TypeId}{v:Value}{n:Nat}{xs:List Value}(h:w.ownsRow base e 1 v n xs)(hv:v≠.slice none 0 0):RowC w base v n xs:=by
 have hc:=fun g hg=>h.cells (g:=g) hg
 obtain⟨h1,h2⟩:=h
 rcases h2 with⟨rfl,-⟩|⟨g,cap,cur,rfl,hb,hcur,hcap1,hcap2,hcs,htk⟩
 ·exact absurd rfl hv
 ·refine⟨g,cap,rfl,hb,(Yy.1 hcur).1,hcap1,hcap2,by rw[h1,Nat.mul_one],fun j u hu=>by have:=hc g rfl j u hu;rwa [Z42]at this,fun j hj=>⟨?_,?_⟩⟩
  ·simp only[World.cell?,hcur,Option.isSome_none,Bool.false_eq_true,if_false]
   rw[Array.getElem?_eq_getElem (by omega)]
   rfl
  ·simp[World.frozen?,hcur]
theorem ZKb(w:World)(e:TypeId)(s:ByteArray)(base:Nat)(hb:base<=w.heap.size)(hs:s.size<=140737488355328) :
  RowC (Lib.bytesWorld w e s) base (.slice (some ⟨w.heap.size,0,none⟩) s.size (grownCap w s.size 0 e)) s.size (Lib.byteCells s.data.toList):=by
 have A0:=Lib.bytesWorld_at_new w e s;have A2:=grownCap_ge w s.size 0 e;have A3:(Lib.bytesCells w e s).size=grownCap w s.size 0 e:=by simp[Lib.bytesCells];omega
 refine⟨w.heap.size,_,rfl,hb,by rw[Lib.bytesWorld_size];omega,A2,grownCap_le_maxLen w s.size 0 e (by unfold maxLen;omega),by rw[Lib.byteCells_length];simp,fun j u hu=>?_,fun j hj=>⟨?_,?_⟩⟩
 ·have hj:j<s.size:=by
   have:=(YI.1 hu).1;rw[Lib.byteCells_length]at this
   simpa using this
  rw[Lib.bytesWorld_cell w e s j hj];have A1:j<s.data.toList.length:=by simpa using hj
  simp only[Lib.byteCells,List.getElem?_map,Yv A1,Option.map_some]at hu;rw[<-hu,List.getD_eq_getElem?_getD,Yv A1]
  rfl
 ·simp only[World.cell?,A0,Option.isSome_none,Bool.false_eq_true,if_false]
  rw[Array.getElem?_eq_getElem (by omega)]
  rfl
 ·simp[World.frozen?,A0]
  omega
section
variable {P:Program} (w:World)
theorem ZH0:∀(vs:List Value) (g o:Nat) (w:World),(w.setCells g o vs).heap.size=w.heap.size
 | [],_,_,_=>rfl
 | v::r,g,o,w=>by
  show((w.setCell ⟨g,o,none⟩ v).setCells g (o+1) r).heap.size=_
  rw[ZH0 r];simp[World.setCell]
theorem ZV2:∀(vs:List Value) (g o:Nat) (w:World),(w.setCells g o vs).tape=w.tape
 | [],_,_,_=>rfl
 | v::r,g,o,w=>by
  show((w.setCell ⟨g,o,none⟩ v).setCells g (o+1) r).tape=_
  rw[ZV2 r]
  rfl
theorem ZD6{base g n cap m:Nat}{xs news:List Value}(h:RowC w base (.slice (some ⟨g,0,none⟩) n cap) n xs)(hm:news.length=m)(hroom:n+m<=cap) :
  RowC (w.setCells g n news) base (.slice (some ⟨g,0,none⟩) (n+m) cap) (n+m) (xs++news)/\w.grownBy (w.setCells g n news) (some g):=by
 obtain⟨g',cap',hv,h1,h2,h3,h4,h5,h6,h7⟩:=h;have A1:=hv;simp only[Value.slice.injEq,Option.some.injEq,Addr.mk.injEq]at hv;obtain⟨⟨rfl,-⟩,-,rfl⟩:=hv
 refine⟨⟨g,cap,rfl,h1,by rw[ZH0];exact h2,hroom,h4,by rw[Ye,h5,hm],fun j u hu=>?_,fun j hj=>⟨World.isSome_setCells g _ _ _ _ (h7 j hj).1,(World.frozen?_setCells g _ _ _ _).trans (h7 j hj).2⟩⟩,
  ⟨World.os_setCells w g n news,ZV2 _ _ _ _,World.output_setCells w g n news,by rw[ZH0];exact Yk _,fun k hk hne=>World.heap_setCells_other w g n news hk (fun e=>hne (by rw[e]))⟩⟩
 by_cases hj:j<n
 ·rw[List.getElem?_append_left (by omega)]at hu
  rw[World.cell?_setCells_out g _ _ _ _ (fun _ _=>Or.inl hj)];exact h6 j u hu
 ·rw[List.getElem?_append_right (by omega),h5]at hu
  have A0:=(YI.1 hu).1;have:=World.cell?_setCells_in g news n w (fun i hi=>(h7 (n+i) (by omega)).1) (j-n) A0;rw[show n+(j-n)=j by omega]at this;rw[this];rw[Yv A0]at hu;exact hu
variable {i:TypeInfo} {t e:TypeId}
theorem Zl7(ty:TypeId)(base:Nat)(ht:P.underlying t=some (.slice e))(hi:P.info? e=some i)(hz:i.zero=some (.int .u8 0))(hsize:i.size=1)(hby:i.bytes=1)
  (v:Value) (n:Nat) (xs:List Value) (h:RowC w base v n xs) (a:Addr) (m c:Nat) (news:List Value) (hl:news.length=m) (hnews:∀j u,news[j]? = some u->w.cell? (a.add j)=some u) (h1:∀u∈news,u.oneCell'=true)
  (hbytes:n+m<=140737488355328) (hbase:base<=w.heap.size) :
  ∃v' w',(Builtin.append_ #[t,t] ty #[v,.slice (some a) m c]).run P w=.ok v' w'/\RowC w' base v' (n+m) (xs++news)/\w.grownBy w' v.ownBlock:=by
 have h0:=h;obtain⟨g,cap,rfl,g1,g2,g3,g4,g5,g6,g7⟩:=h
 by_cases hroom:n+m<=cap
 ·have hr:=run_append_room_cells (P:=P) w t ty e i ht hi g 0 n cap a m c news (by rw[hsize,hl,Nat.mul_one]) hnews h1 hroom
   (fun j hj=>by rw[hsize,Nat.mul_one,Nat.zero_add];exact(g7 (n+j) (by omega)).1) (fun j hj=>by rw[hsize,Nat.mul_one,Nat.zero_add];exact(g7 (n+j) (by omega)).2)
  rw[hsize,Nat.mul_one,Nat.zero_add]at hr;have k:=ZD6 w h0 hl hroom;exact⟨_,_,hr,k.1,k.2⟩
 ·have hr:=run_append_grow (P:=P) w t ty e i (.int .u8 0) ht hi hz ⟨g,0,none⟩ n cap xs (by rw[hsize,g5,Nat.mul_one]) (fun j u hu=>by rw[Z42];exact g6 j u hu) a m c news (by rw[hsize,hl,Nat.mul_one]) hnews (by omega) (by omega)
   (by rw[hby];exact growslice_fits (by omega) (by omega))
  refine⟨_,_,hr,Z14 (e:=e) ⟨by rw[Ye,g5,hl,Nat.mul_one],.inr ⟨w.heap.size,_,_,rfl,hbase,heap_alloc_new w.drew _,grownCap_ge _ _ _ _,grownCap_le_maxLen _ _ _ _ (by unfold maxLen;omega),?_,?_⟩⟩ (by simp),
   ⟨rfl,rfl,rfl,by simp,fun k hk _=>by first|exact heap_alloc_old w.drew _ k hk|exact heap_alloc_old w.drew _ hk⟩⟩
  ·have A1:=grownCap_ge w (n+m) cap e
   have A0:(Value.int IntKind.u8 0).cells.size=1:=rfl;simp only[Array.size_append,List.size_toArray,size_zeroCells,A0,g5,hl]
   omega
  ·simp only[Array.toList_append,Y6]
   rw[<-Y6,Nat.mul_one,show n+m=(xs++news).length by rw[Ye,g5,hl]];exact List.take_left
theorem Z17(ty:TypeId){u:TypeId}(base:Nat)(ht:P.underlying t=some (.slice e))(hu:P.underlying u=some .string)(hi:P.info? e=some i)(hz:i.zero=some (.int .u8 0))(hsize:i.size=1)(hby:i.bytes=1)
  (v:Value) (n:Nat) (xs:List Value) (h:RowC w base v n xs) (s:ByteArray) (hbytes:n+s.size<=140737488355328) (hbase:base<=w.heap.size) :
  ∃v' w',(Builtin.append_ #[t,u] ty #[v,.string s]).run P w=.ok v' w'/\RowC w' base v' (n+s.size) (xs++Lib.strCells s)/\w.grownBy w' v.ownBlock:=by
 have h0:=h;obtain⟨g,cap,rfl,g1,g2,g3,g4,g5,g6,g7⟩:=h;have hl:=Lib.strCells_length s
 by_cases hroom:n+s.size<=cap
 ·have hf:=Lib.run_firstCells_string (P:=P) w 1 s
  have A0:=run_storeCells_cells (P:=P) g n (Lib.strCells s) 0 w (fun j hj=>by rw[Nat.add_zero];exact(g7 (n+j) (by omega)).1) (fun j hj=>by rw[Nat.add_zero];exact(g7 (n+j) (by omega)).2) (Lib.strCells_oneCell s);have k:=ZD6 w h0 hl hroom;refine⟨_,_,?_,k.1,k.2⟩;simp[Builtin.append_,run_underlying ht,run_underlying hu,sizeOf,typeInfo,hi,hsize,Builtin.lenOf,hroom,hf,Addr.add_lit,A0]
 ·have hr:=Lib.run_append_grow_string (P:=P) w t u ty e i (.int .u8 0) ht hu hi hz ⟨g,0,none⟩ n cap xs (by rw[hsize,g5,Nat.mul_one]) (fun j u hu=>by rw[Z42];exact g6 j u hu) s (by omega) (by omega) (by rw[hby];exact growslice_fits (by omega) (by omega))
  refine⟨_,_,hr,Z14 (e:=e) ⟨by rw[Ye,g5,hl,Nat.mul_one],.inr ⟨w.heap.size,_,_,rfl,hbase,heap_alloc_new w.drew _,grownCap_ge _ _ _ _,grownCap_le_maxLen _ _ _ _ (by unfold maxLen;omega),?_,?_⟩⟩ (by simp),
   ⟨rfl,rfl,rfl,by simp,fun k hk _=>by first|exact heap_alloc_old w.drew _ k hk|exact heap_alloc_old w.drew _ hk⟩⟩
  ·have A2:=grownCap_ge w (n+s.size) cap e
   have A1:(Value.int IntKind.u8 0).cells.size=1:=rfl;simp only[Array.size_append,List.size_toArray,size_zeroCells,A1,g5,hl]
   omega
  ·simp only[Array.toList_append,Y6]
   rw[<-Y6,Nat.mul_one,show n+s.size=(xs++Lib.strCells s).length by rw[Ye,g5,hl]];exact List.take_left
theorem Zd1{ops:Array Oper}{rest:List Oper}{o:Oper}{a:Act}{Q:Exit->Act->World->Prop}(hgd:o.guard=none)(s x:Operand)
  (ho:o.op=.call { callee:=.builtin .append,args:=#[s,x],argTypes:=#[t,t] }) (base:Nat) (ht:P.underlying t=some (.slice e)) (hi:P.info? e=some i) (hz:i.zero=some (.int .u8 0)) (hsize:i.size=1) (hby:i.bytes=1)
  (v:Value) (n:Nat) (xs:List Value) (hs:a.eval s=v) (h:RowC w base v n xs) (ad:Addr) (m c:Nat) (news:List Value) (hx:a.eval x=.slice (some ad) m c) (hl:news.length=m)
  (hnews:∀j u,news[j]? = some u->w.cell? (ad.add j)=some u) (h1:∀u∈news,u.oneCell'=true) (hbytes:n+m<=140737488355328) (hbase:base<=w.heap.size)
  (hK:∀v' w',RowC w' base v' (n+m) (xs++news)->w.grownBy w' v.ownBlock->wpList P ops Q rest (a.put o.dst v') w'):wpList P ops Q (o::rest) a w:=by
 refine wpList_plain hgd fun K hK'=>?_
 obtain⟨v',w',hr,h2,h3⟩:=Zl7 (P:=P) w o.type base ht hi hz hsize hby v n xs h ad m c news hl hnews h1 hbytes hbase;unfold Oper.wp execOp;simp only[ho,resolve,invoke,builtin,Sem.run_bind,Sem.run_pure,Result.andThen_ok,List.map_toArray,List.map_cons,List.map_nil,hs,hx,hr];exact hK' _ _ (hK v' w' h2 h3)
theorem Zp4{ops:Array Oper}{rest:List Oper}{o:Oper}{a:Act}{Q:Exit->Act->World->Prop}(hgd:o.guard=none)(sl x:Operand){u:TypeId}
  (ho:o.op=.call { callee:=.builtin .append,args:=#[sl,x],argTypes:=#[t,u] }) (base:Nat) (ht:P.underlying t=some (.slice e)) (hu:P.underlying u=some .string) (hi:P.info? e=some i) (hz:i.zero=some (.int .u8 0)) (hsize:i.size=1) (hby:i.bytes=1)
  (v:Value) (n:Nat) (xs:List Value) (hs:a.eval sl=v) (h:RowC w base v n xs) (s:ByteArray) (hx:a.eval x=.string s) (hbytes:n+s.size<=140737488355328) (hbase:base<=w.heap.size)
  (hK:∀v' w',RowC w' base v' (n+s.size) (xs++Lib.strCells s)->w.grownBy w' v.ownBlock->wpList P ops Q rest (a.put o.dst v') w'):wpList P ops Q (o::rest) a w:=by
 refine wpList_plain hgd fun K hK'=>?_
 obtain⟨v',w',hr,h2,h3⟩:=Z17 (P:=P) w o.type base ht hu hi hz hsize hby v n xs h s hbytes hbase;unfold Oper.wp execOp;simp only[ho,resolve,invoke,builtin,Sem.run_bind,Sem.run_pure,Result.andThen_ok,List.map_toArray,List.map_cons,List.map_nil,hs,hx,hr];exact hK' _ _ (hK v' w' h2 h3)
end
theorem RowC.text{w:World}{base:Nat}{v:Value}{l:List UInt8}(h:RowC w base v l.length (Lib.byteCells l)):(convert 186 9 v).run Tryz.prog w=.ok (.string ⟨l.toArray⟩) w:=by
 obtain⟨g,cap,rfl,g1,g2,g3,g4,g5,g6,g7⟩:=h;refine run_convert_bytes_back w 186 9 5 ⟨g,0,none⟩ cap l Tryz.underlying186 Tryz.underlying5 Tryz.underlying9 (fun j hj=>?_);rw[Z42];exact g6 j _ (by simp[Lib.byteCells,hj])
end Go.Proofs.YtdcajkagakikiaaGreatDoor
namespace Go.Proofs
open Go.Shelf
def Tryz.lays156_ren:Go.Shelf.Ren:=⟨fun|156=>132|165=>148|166=>149|169=>150|240=>158|241=>159|276=>165|277=>166|n=>n,fun|31=>42|9=>9|3=>3|4=>4|0=>0|20=>20 | 72=>203|76=>207|70=>201|37=>186|75=>206|127=>212|164=>218|5=>5|80=>209|n=>n,fun|n=>n⟩
theorem Tryz.lays156:Go.Proofs.Lays.n156 Tryz.prog Tryz.lays156_ren:={
 mixed:=by kernel_rfl
 f156:=Tryz.func132.trans (congrArg some (by kernel_rfl))
 f165:=Tryz.func148.trans (congrArg some (by kernel_rfl))
 f166:=Tryz.func149.trans (congrArg some (by kernel_rfl))
 f169:=Tryz.func150.trans (congrArg some (by kernel_rfl))
 f240:=Tryz.func158.trans (congrArg some (by kernel_rfl))
 f241:=Tryz.func159.trans (congrArg some (by kernel_rfl))
 f276:=Tryz.func165.trans (congrArg some (by kernel_rfl))
 f277:=Tryz.func166.trans (congrArg some (by kernel_rfl))
 t0:=Tryz.underlying0
 a0:=Tryz.isAgg0
 z0:=Tryz.sizeOf0
 v0:=Tryz.zeroValue0
 t3:=Tryz.underlying3
 a3:=Tryz.isAgg3
 z3:=Tryz.sizeOf3
 v3:=Tryz.zeroValue3
 t4:=Tryz.underlying4
 a4:=Tryz.isAgg4
 z4:=Tryz.sizeOf4
 v4:=Tryz.zeroValue4
 t9:=Tryz.underlying9
 a9:=Tryz.isAgg9
 z9:=Tryz.sizeOf9
 v9:=Tryz.zeroValue9
 t20:=Tryz.underlying20
 a20:=Tryz.isAgg20
 z20:=Tryz.sizeOf20
 v20:=Tryz.zeroValue20
 t31:=Tryz.underlying42
 a31:=Tryz.isAgg42
 z31:=Tryz.sizeOf42
 v31:=Tryz.zeroValue42
 t37:=Tryz.underlying186
 a37:=Tryz.isAgg186
 z37:=Tryz.sizeOf186
 v37:=Tryz.zeroValue186
 t70:=Tryz.underlying201
 a70:=Tryz.isAgg201
 z70:=Tryz.sizeOf201
 v70:=Tryz.zeroValue201
 t72:=Tryz.underlying203
 a72:=Tryz.isAgg203
 z72:=Tryz.sizeOf203
 v72:=Tryz.zeroValue203
 t75:=Tryz.underlying206
 a75:=Tryz.isAgg206
 z75:=Tryz.sizeOf206
 v75:=Tryz.zeroValue206
 t76:=Tryz.underlying207
 a76:=Tryz.isAgg207
 z76:=Tryz.sizeOf207
 v76:=Tryz.zeroValue207
 t127:=Tryz.underlying212
 a127:=Tryz.isAgg212
 z127:=Tryz.sizeOf212
 v127:=Tryz.zeroValue212
 t164:=Tryz.underlying218
 a164:=Tryz.isAgg218
 z164:=Tryz.sizeOf218
 v164:=Tryz.zeroValue218 }
theorem Tryz.Builder_Extra_156:Builder.Extra Tryz.prog Tryz.lays156_ren:={
 sizeBuilder:=by kernel_rfl
 liesBuilder:=by kernel_rfl
 t5:=Tryz.underlying5
 a5:=Tryz.isAgg5
 z5:=Tryz.sizeOf5
 v5:=Tryz.zeroValue5
 infoByte:=by kernel_rfl
 cellsByte:=by kernel_rfl
 sizeByte:=by kernel_rfl
 neB5:=by decide }
open Go.RowKit in
theorem Tryz.strings_Join(bk o c:Nat)(xs:List ByteArray)(sep:ByteArray)(w:World)(hcells:∀(j:Nat) x,xs[j]? = some x->w.cell? ⟨bk,o+j,none⟩=some (.string x))(hbk:bk<w.heap.size)(hN:xs.length<=140737488355328)(hcap:xs.length<=c)(hlen:(Lib.join (xs.map (·.data.toList)) sep.data.toList).length<=140737488355328) :
  Calls Tryz.prog 132 #[.slice (some ⟨bk,o,none⟩) xs.length c,.string sep] w fun e w'=>e=.returned (.string ⟨(Lib.join (xs.map (·.data.toList)) sep.data.toList).toArray⟩)/\Below w.heap.size w w':=Any.strings_Join Tryz.lays156 Tryz.Builder_Extra_156 bk o c xs sep w hcells hbk hN hcap hlen
def Tryz.lays283_ren:Go.Shelf.Ren:=⟨fun|283=>167|n=>n,fun|3=>3|9=>9|4=>4|n=>n,fun|n=>n⟩
theorem Tryz.lays283:Go.Proofs.Lays.n283 Tryz.prog Tryz.lays283_ren:={
 mixed:=by kernel_rfl
 f283:=Tryz.func167.trans (congrArg some (by kernel_rfl))
 t3:=Tryz.underlying3
 a3:=Tryz.isAgg3
 z3:=Tryz.sizeOf3
 v3:=Tryz.zeroValue3
 t4:=Tryz.underlying4
 a4:=Tryz.isAgg4
 z4:=Tryz.sizeOf4
 v4:=Tryz.zeroValue4
 t9:=Tryz.underlying9
 a9:=Tryz.isAgg9
 z9:=Tryz.sizeOf9
 v9:=Tryz.zeroValue9 }
open Go.Lib in
theorem Tryz.internal_strconv_small(i:Nat)(h:i<100)(w:World) :
  Calls Tryz.prog 167 #[.int .i64 i] w fun e w'=>e=.returned (.string ⟨(Lib.decDigits i).toArray⟩)/\w'=w:=Any.internal_strconv_small Tryz.lays283 i h w
def Tryz.laysM284_ren:Go.Shelf.Ren:=⟨fun|284=>168|129=>104|317=>183|318=>184|n=>n,fun|53=>161|3=>3|212=>238|0=>0|4=>4|46=>136|5=>5|9=>9|n=>n,fun|17=>2|n=>n⟩
theorem Tryz.laysM284:Go.Proofs.LaysM.n284 Tryz.prog Tryz.laysM284_ren:={
 mixed:=by kernel_rfl
 f129:=Tryz.func104.trans (congrArg some (by kernel_rfl))
 f284:=Tryz.func168.trans (congrArg some (by kernel_rfl))
 f317:=Tryz.func183.trans (congrArg some (by kernel_rfl))
 f318:=Tryz.func184.trans (congrArg some (by kernel_rfl))
 t0:=Tryz.underlying0
 a0:=Tryz.isAgg0
 z0:=Tryz.sizeOf0
 v0:=Tryz.zeroValue0
 t3:=Tryz.underlying3
 a3:=Tryz.isAgg3
 z3:=Tryz.sizeOf3
 v3:=Tryz.zeroValue3
 t4:=Tryz.underlying4
 a4:=Tryz.isAgg4
 z4:=Tryz.sizeOf4
 v4:=Tryz.zeroValue4
 t5:=Tryz.underlying5
 a5:=Tryz.isAgg5
 z5:=Tryz.sizeOf5
 v5:=Tryz.zeroValue5
 t9:=Tryz.underlying9
 a9:=Tryz.isAgg9
 z9:=Tryz.sizeOf9
 v9:=Tryz.zeroValue9
 t46:=Tryz.underlying136
 a46:=Tryz.isAgg136
 z46:=Tryz.sizeOf136
 v46:=Tryz.zeroValue136
 t53:=Tryz.underlying161
 a53:=Tryz.isAgg161
 z53:=Tryz.sizeOf161
 v53:=Tryz.zeroValue161
 t212:=Tryz.underlying238
 a212:=Tryz.isAgg238
 z212:=Tryz.sizeOf238
 v212:=Tryz.zeroValue238
 g17:=by kernel_rfl
 i0:=by kernel_rfl
 i3:=by kernel_rfl
 i4:=by kernel_rfl
 i5:=by kernel_rfl
 i9:=by kernel_rfl
 i46:=by kernel_rfl
 i53:=by kernel_rfl
 i212:=by kernel_rfl
 m17:=by kernel_rfl }
open Go.Lib in
theorem Tryz.internal_strconv_numDigits(u:Nat)(h1:1<=u)(h2:u<18446744073709551616)(w:World)(htab:Lib.TabIs Tryz.prog w "internal/strconv.uint64pow10" .u64 Lib.pow10Tab) :
  Calls Tryz.prog 168 #[.int .u64 u] w fun e w'=>e=.returned (.int .i64 (Lib.nDigits u))/\w'=w:=Any.internal_strconv_numDigits Tryz.laysM284 u h1 h2 w htab
def Tryz.lays285_ren:Go.Shelf.Ren:=⟨fun|285=>169|n=>n,fun|37=>186|53=>161|3=>3|4=>4|51=>159|9=>9|5=>5|0=>0|n=>n,fun|n=>n⟩
theorem Tryz.lays285:Go.Proofs.Lays.n285 Tryz.prog Tryz.lays285_ren:={
 mixed:=by kernel_rfl
 f285:=Tryz.func169.trans (congrArg some (by kernel_rfl))
 t0:=Tryz.underlying0
 a0:=Tryz.isAgg0
 z0:=Tryz.sizeOf0
 v0:=Tryz.zeroValue0
 t3:=Tryz.underlying3
 a3:=Tryz.isAgg3
 z3:=Tryz.sizeOf3
 v3:=Tryz.zeroValue3
 t4:=Tryz.underlying4
 a4:=Tryz.isAgg4
 z4:=Tryz.sizeOf4
 v4:=Tryz.zeroValue4
 t5:=Tryz.underlying5
 a5:=Tryz.isAgg5
 z5:=Tryz.sizeOf5
 v5:=Tryz.zeroValue5
 t9:=Tryz.underlying9
 a9:=Tryz.isAgg9
 z9:=Tryz.sizeOf9
 v9:=Tryz.zeroValue9
 t37:=Tryz.underlying186
 a37:=Tryz.isAgg186
 z37:=Tryz.sizeOf186
 v37:=Tryz.zeroValue186
 t51:=Tryz.underlying159
 a51:=Tryz.isAgg159
 z51:=Tryz.sizeOf159
 v51:=Tryz.zeroValue159
 t53:=Tryz.underlying161
 a53:=Tryz.isAgg161
 z53:=Tryz.sizeOf161
 v53:=Tryz.zeroValue161 }
open Go.RowKit Go.Sort Go.Lib in
theorem Tryz.internal_strconv_formatBase10(blk off cap:Nat)(u:Nat)(d:Array UInt8)(w:World)(hH:Holds (fun(b:UInt8)=>Value.int .u8 (b.toNat:Int)) w blk off d)(hu:u<10 ^ d.size)(hu64:u<18446744073709551616)(hsz:d.size<4611686018427387904) :
  Calls Tryz.prog 169 #[.slice (some ⟨blk,off,none⟩) d.size cap,.int .u64 u] w fun e w' =>
   e=.returned (.tuple #[])/\∃(n v':Nat) (dk:Array UInt8),w'=(putRow (fun(b:UInt8)=>Value.int .u8 (b.toNat:Int)) w blk off dk).drewN n/\FmtInv d.size u 0 v' dk:=Any.internal_strconv_formatBase10 Tryz.lays285 blk off cap u d w hH hu hu64 hsz
def Tryz.lays145_ren:Go.Shelf.Ren:=⟨fun|145=>134|220=>152|219=>161|217=>171|225=>172|224=>173|267=>174|266=>187|314=>188|n=>n,fun|9=>9|4=>4|59=>188|3=>3|5=>5|46=>136|146=>240|51=>159|n=>n,fun|1=>1|n=>n⟩
theorem Tryz.lays145:Go.Proofs.Lays.n145 Tryz.prog Tryz.lays145_ren:={
 mixed:=by kernel_rfl
 f145:=Tryz.func134.trans (congrArg some (by kernel_rfl))
 f217:=Tryz.func171.trans (congrArg some (by kernel_rfl))
 f219:=Tryz.func161.trans (congrArg some (by kernel_rfl))
 f220:=Tryz.func152.trans (congrArg some (by kernel_rfl))
 f224:=Tryz.func173.trans (congrArg some (by kernel_rfl))
 f225:=Tryz.func172.trans (congrArg some (by kernel_rfl))
 f266:=Tryz.func187.trans (congrArg some (by kernel_rfl))
 f267:=Tryz.func174.trans (congrArg some (by kernel_rfl))
 f314:=Tryz.func188.trans (congrArg some (by kernel_rfl))
 t3:=Tryz.underlying3
 a3:=Tryz.isAgg3
 z3:=Tryz.sizeOf3
 v3:=Tryz.zeroValue3
 t4:=Tryz.underlying4
 a4:=Tryz.isAgg4
 z4:=Tryz.sizeOf4
 v4:=Tryz.zeroValue4
 t5:=Tryz.underlying5
 a5:=Tryz.isAgg5
 z5:=Tryz.sizeOf5
 v5:=Tryz.zeroValue5
 t9:=Tryz.underlying9
 a9:=Tryz.isAgg9
 z9:=Tryz.sizeOf9
 v9:=Tryz.zeroValue9
 t46:=Tryz.underlying136
 a46:=Tryz.isAgg136
 z46:=Tryz.sizeOf136
 v46:=Tryz.zeroValue136
 t51:=Tryz.underlying159
 a51:=Tryz.isAgg159
 z51:=Tryz.sizeOf159
 v51:=Tryz.zeroValue159
 t59:=Tryz.underlying188
 a59:=Tryz.isAgg188
 z59:=Tryz.sizeOf188
 v59:=Tryz.zeroValue188
 t146:=Tryz.underlying240
 a146:=Tryz.isAgg240
 z146:=Tryz.sizeOf240
 v146:=Tryz.zeroValue240
 g1:=by kernel_rfl }
open Go.RowKit Go.Lib in
theorem Tryz.strings_Cut(s sep:ByteArray)(m:Int)(w:World)(hs:s.size<4294967281)(hm:w.cell? ⟨1,0,none⟩=some (.int .i64 m)) :
  Calls Tryz.prog 134 #[.string s,.string sep] w fun e w'=>e=.returned (.tuple #[.string ⟨(Lib.cut s.data.toList sep.data.toList).1.toArray⟩,.string ⟨(Lib.cut s.data.toList sep.data.toList).2.1.toArray⟩,.bool (Lib.cut s.data.toList sep.data.toList).2.2])/\∃n,w'=w.drewN n:=Any.strings_Cut Tryz.lays145 s sep m w hs hm
def Tryz.lays101_ren:Go.Shelf.Ren:=⟨fun|101=>142|208=>157|206=>164|n=>n,fun|9=>9|4=>4|3=>3|n=>n,fun|n=>n⟩
theorem Tryz.lays101:Go.Proofs.Lays.n101 Tryz.prog Tryz.lays101_ren:={
 mixed:=by kernel_rfl
 f101:=Tryz.func142.trans (congrArg some (by kernel_rfl))
 f206:=Tryz.func164.trans (congrArg some (by kernel_rfl))
 f208:=Tryz.func157.trans (congrArg some (by kernel_rfl))
 t3:=Tryz.underlying3
 a3:=Tryz.isAgg3
 z3:=Tryz.sizeOf3
 v3:=Tryz.zeroValue3
 t4:=Tryz.underlying4
 a4:=Tryz.isAgg4
 z4:=Tryz.sizeOf4
 v4:=Tryz.zeroValue4
 t9:=Tryz.underlying9
 a9:=Tryz.isAgg9
 z9:=Tryz.sizeOf9
 v9:=Tryz.zeroValue9 }
open Go.RowKit Go.Lib in
theorem Tryz.strings_TrimPrefix(s p:ByteArray)(w:World) :
  Calls Tryz.prog 142 #[.string s,.string p] w fun e w'=>e=.returned (.string ⟨(Lib.trimPrefix s.data.toList p.data.toList).toArray⟩)/\w'=w:=Any.strings_TrimPrefix Tryz.lays101 s p w
def Tryz.laysSlE041_f25_ren:Go.Shelf.Ren:=⟨fun|41=>181|n=>n,fun|22=>42|23=>9|4=>4|n=>n,fun|n=>n⟩
def Tryz.laysSlE041_f26_ren:Go.Shelf.Ren:=⟨fun|41=>72|n=>n,fun|22=>26|23=>3|4=>4|n=>n,fun|n=>n⟩
end Go.Proofs
namespace Go.Proofs.YtdcajkagakikiaaGreatDoor
set_option maxHeartbeats 64000000
set_option linter.unusedSimpArgs false
set_option linter.unusedVariables false
end Go.Proofs.YtdcajkagakikiaaGreatDoor
