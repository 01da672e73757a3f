import Derived.OrdersHeld
import Derived.Deep.RegionHeld
import Derived.WalkKit
/- A region that draws its order, loads cells and stores into them: what is held of a cell holds till its store has come up. -/
namespace Go.Proofs.YtkmnfkhchcoamaaGreatDoor
open Go

section
variable {P : Program} {ops : Array Oper} {Q : Exit → Act → World → Prop} {md : Region.Mode}

/-- Cells and what they hold, each till the operation of its number has come up. -/
def Keeps (cs : List (Nat × Addr × Value)) (L : Array Bool) (w : World) : Prop := ∀ x ∈ cs, L.getD x.1 false = false → w.cell? x.2.1 = some x.2.2
theorem Keeps.nil {L : Array Bool} {w : World} : Keeps [] L w := fun _ h => by cases h
theorem Keeps.up {n : Nat} {p : Addr} {v : Value} {cs : List (Nat × Addr × Value)} {L : Array Bool} {w : World} (h : L.getD n false = true) (hs : Keeps cs L w) : Keeps ((n, p, v) :: cs) L w := fun x hx hl => by
  rcases List.mem_cons.1 hx with rfl | hx
  · rw [h] at hl; cases hl
  · exact hs x hx hl
theorem Keeps.cons {n : Nat} {p : Addr} {v : Value} {cs : List (Nat × Addr × Value)} {L : Array Bool} {w : World} (h : w.cell? p = some v) (hs : Keeps cs L w) : Keeps ((n, p, v) :: cs) L w := fun x hx hl => by
  rcases List.mem_cons.1 hx with rfl | hx
  · exact h
  · exact hs x hx hl
theorem Keeps.set {cs : List (Nat × Addr × Value)} {i : Nat} (hi : cs.all (fun x => x.1 != i) = true) (L : Array Bool) (w : World) : Keeps cs (L.setIfInBounds i true) w ↔ Keeps cs L w := by
  have hne : ∀ x ∈ cs, i ≠ x.1 := fun x hx => by
    have := List.all_eq_true.1 hi x hx
    intro e
    rw [e] at this
    simp at this
  constructor
  · intro h x hx hl
    exact h x hx (by rw [getD_set_ne false (hne x hx)]; exact hl)
  · intro h x hx hl
    exact h x hx (by rw [getD_set_ne false (hne x hx)] at hl; exact hl)

/-- Whatever order is picked from here on, and what is held holds behind every operation that is carried out. -/
def wpAnyG (P : Program) (md : Region.Mode) (ops : Array Oper) (Q : Exit → Act → World → Prop) (cs : List (Nat × Addr × Value)) : Nat → Array Bool → Act → World → Prop
  | 0, listed, a, w => Region.ready md ops listed = [] ∧ Q .normal a w
  | fuel + 1, listed, a, w =>
    (Region.ready md ops listed = [] → Q .normal a w) ∧
    ∀ i ∈ Region.ready md ops listed, wpOp P ops Q i (fun a' w' => Keeps cs (listed.setIfInBounds i true) w' ∧ wpAnyG P md ops Q cs fuel (listed.setIfInBounds i true) a' w') a w
theorem wpAny_of_G {cs : List (Nat × Addr × Value)} : ∀ (fuel : Nat) (listed : Array Bool) (a : Act) (w : World), wpAnyG P md ops Q cs fuel listed a w → wpAny P md ops Q fuel listed a w
  | 0, _, _, _, h => h
  | fuel + 1, _, _, _, h => ⟨h.1, fun i hi => wpOp_mono (fun a' w' h' => wpAny_of_G fuel _ a' w' h'.2) (h.2 i hi)⟩

/-- Each of D waits for i, or for one of D. -/
def waitsB (md : Region.Mode) (ops : Array Oper) (i : Nat) (D : List Nat) : Bool := D.all fun d => match ops[d]? with
  | some o => o.after.any fun e => Region.binds md e && (e.on == i || D.contains e.on)
  | none => true
theorem waitsB_spec {i j : Nat} {D : List Nat} {listed : Array Bool} (h : waitsB md ops i D = true) (hi : listed.getD i false = false) (hD : ∀ d ∈ D, listed.getD d false = false) (hj : j ∈ Region.ready md ops listed) : j ∉ D := by
  intro hjd
  obtain ⟨_, o, ho, hall⟩ := mem_ready.1 hj
  have h1 := List.all_eq_true.1 h j hjd
  simp only [ho] at h1
  obtain ⟨k, hk, h2⟩ := Array.any_eq_true.1 h1
  simp only [Bool.and_eq_true, Bool.or_eq_true, beq_iff_eq] at h2
  have h3 := hall _ (Array.getElem_mem hk) h2.1
  rcases h2.2 with h4 | h4
  · rw [h4, hi] at h3; cases h3
  · rw [hD _ (by simpa using h4)] at h3; cases h3

theorem wpAnyG_first {i : Nat} {oi : Oper} {v : Value} {cs : List (Nat × Addr × Value)} {D : List Nat} (hi : ops[i]? = some oi) (hsel : ∀ (j : Nat) (o : Oper) cs b, ops[j]? = some o → o.op ≠ .select cs b)
    (hQ : ∀ c a w, Q (.panic c) (a.put oi.dst v) w → Q (.panic c) a w) (hw : waitsB md ops i D = true) (hne : cs.all (fun x => x.1 != i) = true) :
    ∀ (fuel : Nat) (listed : Array Bool) (a : Act) (w : World),
      (∀ j oj, ops[j]? = some oj → j ≠ i → listed.getD j true = false → (∀ e ∈ oj.after, Region.binds md e = true → e.on ≠ i) → oi.apart ops oj = true) →
      i ∈ Region.ready md ops listed → (∀ d ∈ D, listed.getD d false = false) → YieldsIf P ops (fun w => ∀ x ∈ cs, x.1 ∈ D → w.cell? x.2.1 = some x.2.2) oi v a → Keeps cs listed w →
      wpAnyG P md ops Q cs fuel (listed.setIfInBounds i true) (a.put oi.dst v) w → wpAnyG P md ops Q cs (fuel + 1) listed a w := by
  have hT : ∀ (L : Array Bool) (w : World), (∀ d ∈ D, L.getD d false = false) → Keeps cs L w → ∀ x ∈ cs, x.1 ∈ D → w.cell? x.2.1 = some x.2.2 := fun L w h1 h2 x hx hxd => h2 x hx (h1 _ hxd)
  intro fuel
  induction fuel with
  | zero =>
    intro listed a w _ hr hD hy hS H
    refine ⟨fun h => (by rw [h] at hr; cases hr), fun j hj => ?_⟩
    by_cases hji : j = i
    · subst hji; exact hy.wpOp hi (hT _ _ hD hS) ⟨(Keeps.set hne _ _).2 hS, H⟩
    · have := ready_mono hj hji
      rw [H.1] at this
      cases this
  | succ fuel ih =>
    intro listed a w hfree hr hD hy hS H
    refine ⟨fun h => (by rw [h] at hr; cases hr), fun j hj => ?_⟩
    by_cases hji : j = i
    · subst hji; exact hy.wpOp hi (hT _ _ hD hS) ⟨(Keeps.set hne _ _).2 hS, H⟩
    · have h1 := H.2 j (ready_mono hj hji)
      obtain ⟨hjun, oj, hoj, hall⟩ := mem_ready.1 hj
      have hi0 : listed.getD i false = false := by
        have h0 := (mem_ready.1 hr).1
        rcases Nat.lt_or_ge i listed.size with h' | h'
        · simp [h'] at h0 ⊢; exact h0
        · simp [Array.getElem?_eq_none h']
      have hnot : ∀ e ∈ oj.after, Region.binds md e = true → e.on ≠ i := fun e he hb heq => by
        have h1 := hall e he hb
        rw [heq, hi0] at h1
        cases h1
      have hjD : j ∉ D := waitsB_spec hw hi0 hD hj
      have hD' : ∀ d ∈ D, (listed.setIfInBounds j true).getD d false = false := fun d hd => by
        rw [getD_set_ne false (show j ≠ d from fun e => hjD (by rw [e]; exact hd))]
        exact hD d hd
      have h2 := wpOp_putIf hoj (hfree j oj hoj hji hjun hnot) (fun cs b => hsel i oi cs b hi) (fun cs b => hsel j oj cs b hoj) hQ hy h1
      have hfree' : ∀ k ok, ops[k]? = some ok → k ≠ i → (listed.setIfInBounds j true).getD k true = false →
          (∀ e ∈ ok.after, Region.binds md e = true → e.on ≠ i) → oi.apart ops ok = true := fun k ok hk hki hun hno => by
        refine hfree k ok hk hki ?_ hno
        by_cases hjk : j = k
        · subst hjk; exact hjun
        · rw [getD_set_ne true hjk] at hun; exact hun
      refine wpOp_mono (fun a' w' h3 => ?_) h2
      have h4 : Keeps cs (listed.setIfInBounds j true) w' := by
        have := h3.2.1
        rw [Array.setIfInBounds_comm _ _ (Ne.symm hji)] at this
        exact (Keeps.set hne _ _).1 this
      refine ⟨h4, ih (listed.setIfInBounds j true) a' w' hfree' (ready_mono hr (Ne.symm hji)) hD' h3.1 h4 ?_⟩
      rw [Array.setIfInBounds_comm _ _ hji]
      exact h3.2.2

/-- The walk's goal: what is held stands ahead. -/
def GoG (P : Program) (md : Region.Mode) (ops : Array Oper) (Q : Exit → Act → World → Prop) (cs : List (Nat × Addr × Value)) (fuel : Nat) (listed : Array Bool) (a : Act) (w : World) : Prop :=
  Keeps cs listed w → wpAnyG P md ops Q cs fuel listed a w
/-- Number i, which yields v in every world that holds the cells of D, is taken first. -/
theorem GoG.take {i : Nat} {oi : Oper} {v : Value} {cs : List (Nat × Addr × Value)} (D : List Nat) {fuel : Nat} {listed : Array Bool} {a : Act} {w : World} (hi : ops[i]? = some oi)
    (hs : Region.noSelect ops = true) (hf : Region.free md ops listed i = true) (hr : (Region.ready md ops listed).contains i = true) (hw : waitsB md ops i D = true) (hne : cs.all (fun x => x.1 != i) = true) (hD : D.all (fun d => !listed.getD d false) = true)
    (hQ : ∀ c a w, Q (.panic c) (a.put oi.dst v) w → Q (.panic c) a w) (hy : YieldsIf P ops (fun w => ∀ x ∈ cs, x.1 ∈ D → w.cell? x.2.1 = some x.2.2) oi v a)
    (h : GoG P md ops Q cs fuel (listed.setIfInBounds i true) (a.put oi.dst v) w) : GoG P md ops Q cs (fuel + 1) listed a w := fun hS =>
  wpAnyG_first hi (Region.noSelect_spec hs) hQ hw hne fuel listed a w (Region.free_spec hi hf) (by simpa using hr) (fun d hd => by simpa using List.all_eq_true.1 hD d hd) hy hS (h ((Keeps.set hne _ _).2 hS))
/-- What yields in every world whose cell p holds u. -/
theorem yields_load {o : Oper} {v : Value} {a : Act} {cs : List (Nat × Addr × Value)} {D : List Nat} (n : Nat) (p : Addr) (u : Value) (hm : (n, p, u) ∈ cs) (hd : n ∈ D) (hw : Region.wanted o (yielded ops a.tmps) = true)
    (h : ∀ w : World, w.cell? p = some u → (execOp a.eval o).run P w = .ok (.value v) w) : YieldsIf P ops (fun w => ∀ x ∈ cs, x.1 ∈ D → w.cell? x.2.1 = some x.2.2) o v a :=
  .inl ⟨hw, fun w hS => h w (hS _ hm hd)⟩
theorem yields_free {o : Oper} {v : Value} {a : Act} {S : World → Prop} (hw : Region.wanted o (yielded ops a.tmps) = true) (h : ∀ w : World, (execOp a.eval o).run P w = .ok (.value v) w) : YieldsIf P ops S o v a :=
  .inl ⟨hw, fun w _ => h w⟩
/-- Number i alone may come up. -/
theorem GoG.one {i : Nat} {o : Oper} {cs : List (Nat × Addr × Value)} {fuel : Nat} {listed : Array Bool} {a : Act} {w : World} (ho : ops[i]? = some o) (hr : Region.ready md ops listed = [i])
    (h : ∀ K' : Act → World → Prop, Shut (∀ a w, Keeps cs (listed.setIfInBounds i true) w → GoG P md ops Q cs fuel (listed.setIfInBounds i true) a w → K' a w) → if Region.wanted o (yielded ops a.tmps) = true then Oper.wp P o a w K' Q else K' (a.put o.dst undef) w) :
    GoG P md ops Q cs (fuel + 1) listed a w := fun _ => by
  refine ⟨fun h0 => absurd (hr ▸ h0) (by simp), fun j hj => ?_⟩
  rw [hr] at hj
  obtain rfl : j = i := by simpa using hj
  exact wpOp_step ho (fun K' hK => h K' (fun a w hS hW => hK a w ⟨hS, hW hS⟩))
/-- All have come up. -/
theorem GoG.done {cs : List (Nat × Addr × Value)} {listed : Array Bool} {a : Act} {w : World} (hr : Region.ready md ops listed = []) (h : Q .normal a w) : ∀ fuel, GoG P md ops Q cs fuel listed a w
  | 0 => fun _ => ⟨hr, h⟩
  | _ + 1 => fun _ => ⟨fun _ => h, by rw [hr]; simp⟩
/-- The beginning. -/
theorem GoG.start {id : Nat} {a : Act} {w : World} (cs : List (Nat × Addr × Value)) (hm : P.follows .mixedOrders = true) (hS : Keeps cs (Array.replicate ops.size false) w.drew)
    (h : GoG P .any ops Q cs ops.size (Array.replicate ops.size false) a w.drew) : (Code.region id ops true).wp P Q a w :=
  wp_region_any hm (wpAny_of_G _ _ _ _ (h hS))
end
end Go.Proofs.YtkmnfkhchcoamaaGreatDoor

