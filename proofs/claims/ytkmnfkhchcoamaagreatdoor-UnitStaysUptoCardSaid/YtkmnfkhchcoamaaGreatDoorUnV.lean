import Derived.Test.YtkmnfkhchcoamaaGreatDoorUnQ
import Derived.Test.YtkmnfkhchcoamaaGreatDoorUnS
/- The program's there, filled, Under. -/
namespace Go.Proofs.YtkmnfkhchcoamaaGreatDoor
open Go.RowKit
set_option linter.unusedSimpArgs false
set_option linter.unusedVariables false

theorem box2_set {w w1 w2 : World} {b : Nat} {a0 a1 v0 v1 : Value} {T : TypeId} (h : BlockAt w b #[a0, a1] T) (h1 : w.setCell ⟨b, 0, none⟩ v0 = w1) (h2 : w1.setCell ⟨b, 1, none⟩ v1 = w2) : BlockAt w2 b #[v0, v1] T := by
  subst h1
  subst h2
  have := (h.set 0 v0).set 1 v1
  simpa using this
theorem box2_set0 {w w1 : World} {b : Nat} {a0 a1 v0 : Value} {T : TypeId} (h : BlockAt w b #[a0, a1] T) (h1 : w.setCell ⟨b, 0, none⟩ v0 = w1) : BlockAt w1 b #[v0, a1] T := by
  subst h1
  have := h.set 0 v0
  simpa using this
theorem box2_set1 {w w1 : World} {b : Nat} {a0 a1 v1 : Value} {T : TypeId} (h : BlockAt w b #[a0, a1] T) (h1 : w.setCell ⟨b, 1, none⟩ v1 = w1) : BlockAt w1 b #[a0, v1] T := by
  subst h1
  have := h.set 1 v1
  simpa using this
theorem set2_below {W w w1 w2 : World} {b : Nat} {v0 v1 : Value} (hb : Below W.heap.size W w) (hw : W.heap.size ≤ b) (h1 : w.setCell ⟨b, 0, none⟩ v0 = w1) (h2 : w1.setCell ⟨b, 1, none⟩ v1 = w2) : Below W.heap.size W w2 := by
  subst h1
  subst h2
  exact (hb.setCell hw _).setCell hw _
theorem set1_below {W w w1 : World} {b k : Nat} {v0 : Value} (hb : Below W.heap.size W w) (hw : W.heap.size ≤ b) (h1 : w.setCell ⟨b, k, none⟩ v0 = w1) : Below W.heap.size W w1 := by
  subst h1
  exact hb.setCell hw _
theorem other_set {w w1 : World} {b c k : Nat} {xs : Array Value} {T : TypeId} {v : Value} (h : BlockAt w b xs T) (hn : b ≠ c) (h1 : w.setCell ⟨c, k, none⟩ v = w1) : BlockAt w1 b xs T := by
  subst h1
  exact h.other hn k v
/-- A unit whose rows lie in blocks of Sb. -/
def MRowS (Sb : Nat → Prop) (w : World) (ao : Option Addr) (ms : List Mt) : Prop :=
  ms = [] ∨ ∃ b off, ao = some ⟨b, off, none⟩ ∧ b < w.heap.size ∧ Sb b ∧ ∀ i (h : i < ms.length), w.cell? ⟨b, off + i * 3, none⟩ = some (.string ms[i].name) ∧ w.cell? ⟨b, off + i * 3 + 1, none⟩ = some (.bool ms[i].ptr) ∧ w.cell? ⟨b, off + i * 3 + 2, none⟩ = some (.int .i64 ms[i].sig)
structure NmS (Sb : Nat → Prop) (w : World) (bo mo : Option Addr) (n : Nm) : Prop where
  bounds : IRowS Sb w bo n.bounds
  methods : MRowS Sb w mo n.methods
  ok : NmOk n
def URowS (Sb : Nat → Prop) (w : World) (no : Option Addr) (ns : List Nm) : Prop :=
  ns = [] ∨ ∃ b off, no = some ⟨b, off, none⟩ ∧ b < w.heap.size ∧ Sb b ∧ ∀ i (h : i < ns.length), ∃ bo bc mo mc, w.cell? ⟨b, off + i * 4, none⟩ = some (.string ns[i].name) ∧ w.cell? ⟨b, off + i * 4 + 1, none⟩ = some (.slice bo ns[i].bounds.length bc) ∧ w.cell? ⟨b, off + i * 4 + 2, none⟩ = some (.int .i64 ns[i].under) ∧ w.cell? ⟨b, off + i * 4 + 3, none⟩ = some (.slice mo ns[i].methods.length mc) ∧ ns[i].bounds.length ≤ bc ∧ ns[i].methods.length ≤ mc ∧ NmS Sb w bo mo ns[i]
structure UnS (Sb : Nat → Prop) (w : World) (ao no : Option Addr) (ac nc : Nat) (u : Un) : Prop where
  types : ARowS Sb w ao u.types
  named : URowS Sb w no u.named
  tl : u.types.length ≤ 1000
  nl : u.named.length ≤ 1000
  tc : u.types.length ≤ ac
  nc : u.named.length ≤ nc
section
variable {Sb : Nat → Prop} {w w' : World} {ao no bo mo : Option Addr} {ac nc : Nat}
theorem MRowS.out {ms : List Mt} (h : MRowS Sb w ao ms) : MRow w ao ms := by
  rcases h with h | ⟨b, off, e, l, _, cc⟩
  · exact .inl h
  · exact .inr ⟨b, off, e, l, cc⟩
theorem MRowS.same {ms : List Mt} (h : MRowS Sb w ao ms) (hs : SameS Sb w w') : MRowS Sb w' ao ms := by
  rcases h with h | ⟨b, off, e, l, n, cc⟩
  · exact .inl h
  · exact .inr ⟨b, off, e, Nat.lt_of_lt_of_le l hs.1, n, fun i hi => ⟨(hs.2 _ _ l n).trans (cc i hi).1, (hs.2 _ _ l n).trans (cc i hi).2.1, (hs.2 _ _ l n).trans (cc i hi).2.2⟩⟩
theorem MRowS.fresh {ms : List Mt} (h : MRow w ao ms) (hS : ∀ b, b < w.heap.size → Sb b) : MRowS Sb w ao ms := by
  rcases h with h | ⟨b, off, e, l, cc⟩
  · exact .inl h
  · exact .inr ⟨b, off, e, l, hS _ l, cc⟩
theorem NmS.out {n : Nm} (h : NmS Sb w bo mo n) : NmC w bo mo n := ⟨h.bounds.out, h.methods.out, h.ok⟩
theorem NmS.same {n : Nm} (h : NmS Sb w bo mo n) (hs : SameS Sb w w') : NmS Sb w' bo mo n := ⟨h.bounds.same hs, h.methods.same hs, h.ok⟩
theorem NmS.fresh {n : Nm} (h : NmC w bo mo n) (hS : ∀ b, b < w.heap.size → Sb b) : NmS Sb w bo mo n := ⟨.fresh h.bounds hS, .fresh h.methods hS, h.ok⟩
theorem URowS.out {ns : List Nm} (h : URowS Sb w no ns) : URow w no ns := by
  rcases h with h | ⟨b, off, e, l, _, cc⟩
  · exact .inl h
  · refine .inr ⟨b, off, e, l, fun i hi => ?_⟩
    obtain ⟨bo, bc, mo, mc, h1, h2, h3, h4, h5, h6, h7⟩ := cc i hi
    exact ⟨bo, bc, mo, mc, h1, h2, h3, h4, h5, h6, h7.out⟩
theorem URowS.same {ns : List Nm} (h : URowS Sb w no ns) (hs : SameS Sb w w') : URowS Sb w' no ns := by
  rcases h with h | ⟨b, off, e, l, n, cc⟩
  · exact .inl h
  · refine .inr ⟨b, off, e, Nat.lt_of_lt_of_le l hs.1, n, fun i hi => ?_⟩
    obtain ⟨bo, bc, mo, mc, h1, h2, h3, h4, h5, h6, h7⟩ := cc i hi
    exact ⟨bo, bc, mo, mc, (hs.2 _ _ l n).trans h1, (hs.2 _ _ l n).trans h2, (hs.2 _ _ l n).trans h3, (hs.2 _ _ l n).trans h4, h5, h6, h7.same hs⟩
theorem URowS.fresh {ns : List Nm} (h : URow w no ns) (hS : ∀ b, b < w.heap.size → Sb b) : URowS Sb w no ns := by
  rcases h with h | ⟨b, off, e, l, cc⟩
  · exact .inl h
  · refine .inr ⟨b, off, e, l, hS _ l, fun i hi => ?_⟩
    obtain ⟨bo, bc, mo, mc, h1, h2, h3, h4, h5, h6, h7⟩ := cc i hi
    exact ⟨bo, bc, mo, mc, h1, h2, h3, h4, h5, h6, .fresh h7 hS⟩
theorem UnS.out {u : Un} (h : UnS Sb w ao no ac nc u) : UnC w ao no ac nc u := ⟨h.types.out, h.named.out, h.tl, h.nl, h.tc, h.nc⟩
theorem UnS.same {u : Un} (h : UnS Sb w ao no ac nc u) (hs : SameS Sb w w') : UnS Sb w' ao no ac nc u := ⟨h.types.same hs, h.named.same hs, h.tl, h.nl, h.tc, h.nc⟩
theorem UnS.fresh {u : Un} (h : UnC w ao no ac nc u) (hS : ∀ b, b < w.heap.size → Sb b) : UnS Sb w ao no ac nc u := ⟨.fresh h.types hS, .fresh h.named hS, h.tl, h.nl, h.tc, h.nc⟩
end
/-- What tells of a unit and a place. -/
def UnR (Sb : Nat → Prop) (w : World) (R : Un × Int × Int) (e : Ending) (w' : World) : Prop := ∃ ao no ac nc, e = .returned (.tuple #[unV R.1 ao ac no nc, .int .i64 R.2.1, .int .i64 R.2.2]) ∧ UnS Sb w' ao no ac nc R.1 ∧ Below w.heap.size w w'
def noUn : Un := ⟨[], []⟩
theorem noUn_in (Sb : Nat → Prop) (w : World) : UnS Sb w none none 0 0 noUn := ⟨.inl rfl, .inl rfl, by decide, by decide, by decide, by decide⟩
/-- The set Sb, two blocks apart. -/
def lessS (Sb : Nat → Prop) (c d : Nat) : Nat → Prop := fun b => Sb b ∧ b ≠ c ∧ b ≠ d
theorem less_from {Sb : Nat → Prop} {c d : Nat} {w : World} {ao no : Option Addr} {ac nc : Nat} {u : Un} (h : UnS Sb w ao no ac nc u) (hc : w.heap.size ≤ c ∧ w.heap.size ≤ d) : UnS (lessS Sb c d) w ao no ac nc u := by
  have k : ∀ b, b < w.heap.size → Sb b → lessS Sb c d b := fun b hb hs => ⟨hs, by omega, by omega⟩
  have ir : ∀ {ao zs}, IRowS Sb w ao zs → IRowS (lessS Sb c d) w ao zs := fun {ao zs} h => by
    rcases h with h | ⟨b, off, e, l, n, cc⟩
    · exact .inl h
    · exact .inr ⟨b, off, e, l, k b l n, cc⟩
  have sr : ∀ {ao zs}, SRowS Sb w ao zs → SRowS (lessS Sb c d) w ao zs := fun {ao zs} h => by
    rcases h with h | ⟨b, off, e, l, n, cc⟩
    · exact .inl h
    · exact .inr ⟨b, off, e, l, k b l n, cc⟩
  have mr : ∀ {ao zs}, MRowS Sb w ao zs → MRowS (lessS Sb c d) w ao zs := fun {ao zs} h => by
    rcases h with h | ⟨b, off, e, l, n, cc⟩
    · exact .inl h
    · exact .inr ⟨b, off, e, l, k b l n, cc⟩
  refine ⟨?_, ?_, h.tl, h.nl, h.tc, h.nc⟩
  · rcases h.types with h | ⟨b, off, e, l, n, cc⟩
    · exact .inl h
    · refine .inr ⟨b, off, e, l, k b l n, fun i hi => ?_⟩
      obtain ⟨wo, wc, ko, kc, c0, c1, c2, c3, c4, g1, g2, g3⟩ := cc i hi
      exact ⟨wo, wc, ko, kc, c0, c1, c2, c3, c4, g1, g2, ⟨sr g3.words, ir g3.kids, g3.ok⟩⟩
  · rcases h.named with h | ⟨b, off, e, l, n, cc⟩
    · exact .inl h
    · refine .inr ⟨b, off, e, l, k b l n, fun i hi => ?_⟩
      obtain ⟨bo, bc, mo, mc, h1, h2, h3, h4, h5, h6, h7⟩ := cc i hi
      exact ⟨bo, bc, mo, mc, h1, h2, h3, h4, h5, h6, ⟨ir h7.bounds, mr h7.methods, h7.ok⟩⟩
theorem less_back {Sb : Nat → Prop} {c d : Nat} {w : World} {ao no : Option Addr} {ac nc : Nat} {u : Un} (h : UnS (lessS Sb c d) w ao no ac nc u) : UnS Sb w ao no ac nc u := by
  have ir : ∀ {ao zs}, IRowS (lessS Sb c d) w ao zs → IRowS Sb w ao zs := fun {ao zs} h => by
    rcases h with h | ⟨b, off, e, l, n, cc⟩
    · exact .inl h
    · exact .inr ⟨b, off, e, l, n.1, cc⟩
  have sr : ∀ {ao zs}, SRowS (lessS Sb c d) w ao zs → SRowS Sb w ao zs := fun {ao zs} h => by
    rcases h with h | ⟨b, off, e, l, n, cc⟩
    · exact .inl h
    · exact .inr ⟨b, off, e, l, n.1, cc⟩
  have mr : ∀ {ao zs}, MRowS (lessS Sb c d) w ao zs → MRowS Sb w ao zs := fun {ao zs} h => by
    rcases h with h | ⟨b, off, e, l, n, cc⟩
    · exact .inl h
    · exact .inr ⟨b, off, e, l, n.1, cc⟩
  refine ⟨?_, ?_, h.tl, h.nl, h.tc, h.nc⟩
  · rcases h.types with h | ⟨b, off, e, l, n, cc⟩
    · exact .inl h
    · refine .inr ⟨b, off, e, l, n.1, fun i hi => ?_⟩
      obtain ⟨wo, wc, ko, kc, c0, c1, c2, c3, c4, g1, g2, g3⟩ := cc i hi
      exact ⟨wo, wc, ko, kc, c0, c1, c2, c3, c4, g1, g2, ⟨sr g3.words, ir g3.kids, g3.ok⟩⟩
  · rcases h.named with h | ⟨b, off, e, l, n, cc⟩
    · exact .inl h
    · refine .inr ⟨b, off, e, l, n.1, fun i hi => ?_⟩
      obtain ⟨bo, bc, mo, mc, h1, h2, h3, h4, h5, h6, h7⟩ := cc i hi
      exact ⟨bo, bc, mo, mc, h1, h2, h3, h4, h5, h6, ⟨ir h7.bounds, mr h7.methods, h7.ok⟩⟩
def thereU (u : Un) (i : Int) : Int := if rightU u = false then 1 else if i < 0 ∨ (u.types.length : Int) ≤ i then 8 else 0
set_option maxHeartbeats 4000000 in
set_option maxRecDepth 100000 in
theorem there_uany (u : Un) (ao no : Option Addr) (ac nc : Nat) (i : Int) (w : World) (hU : UnC w ao no ac nc u) (hE : Env w) :
    Calls Tryz.prog 36 #[unV u ao ac no nc, .int .i64 i] w fun e w' => e = .returned (.int .i64 (thereU u i)) ∧ Below w.heap.size w w' := by
  obtain ⟨R, hR⟩ : ∃ R, thereU u i = R := ⟨_, rfl⟩
  rw [hR]
  have HR := Lib.hid hR
  have htl := hU.tl
  obtain ⟨w1, h1⟩ : ∃ w1, w.alloc (.cells #[.slice ao u.types.length ac, .slice no u.named.length nc] 25) = w1 := ⟨_, rfl⟩
  obtain ⟨k1, q1, z1⟩ := box_new h1
  have B1 := Lib.hid q1
  have HP0 := right_uany u ao no ac nc w1 (hU.below q1) (hE.below q1) (hE.max.below q1)
  unfold unV at HP0
  unfold unV
  obtain ⟨L, hL⟩ : ∃ L, u.types.length = L := ⟨_, rfl⟩
  have HL := Lib.hid hL
  rw [hL] at h1 k1 HP0 htl ⊢
  have K1 := Lib.hid k1
  obtain ⟨c0, c1⟩ := cell2 k1
  clear hL hU hE hR k1 q1 z1
  go_enter Tryz.func36, Tryz.ntmps36
  cases ht : rightU u <;> rw [ht] at HP0 <;> have HT := Lib.hid ht <;> have HP := Lib.hid HP0 <;> clear ht HP0
  · have HV := Lib.hid (show (1 : Int) = R by rw [← HR.out]; unfold thereU; rw [if_pos HT.out])
    go_wp2_with fail
    refine HP.out.mono ?_
    rintro e w2 ⟨rfl, b2⟩
    have B2 := Lib.hid (B1.out.trans (b2.mono B1.out.size))
    clear b2 c0 c1 h1
    go_wp2_with fail
    go_ret
    exact ⟨ret_int HV.out, B2.out⟩
  have HR2 := Lib.hid (show (if i < 0 ∨ (L : Int) ≤ i then (8 : Int) else 0) = R by rw [← HR.out]; unfold thereU; rw [HL.out]; simp [HT.out])
  by_cases h0 : i < 0
  · have HV := Lib.hid (show (8 : Int) = R by rw [← HR2.out, if_pos (.inl h0)])
    have hd0 : decide (i < 0) = true := decide_eq_true h0
    go_wp2_with fail
    refine HP.out.mono ?_
    rintro e w2 ⟨rfl, b2⟩
    have B2 := Lib.hid (B1.out.trans (b2.mono B1.out.size))
    clear b2 c0 c1 h1
    go_wp2_with fail
    go_ret
    exact ⟨ret_int HV.out, B2.out⟩
  have hd0 : decide (i < 0) = false := decide_eq_false h0
  by_cases h9 : (L : Int) ≤ i
  · have HV := Lib.hid (show (8 : Int) = R by rw [← HR2.out, if_pos (.inr h9)])
    have hd1 : decide ((L : Int) ≤ i) = true := decide_eq_true h9
    go_wp2_with fail
    refine HP.out.mono ?_
    rintro e w2 ⟨rfl, b2⟩
    have B2 := Lib.hid (B1.out.trans (b2.mono B1.out.size))
    clear c0 c1 h1
    obtain ⟨c0, c1⟩ := cell2 (K1.out.below b2)
    clear b2
    go_wp2_with fail
    go_ret
    exact ⟨ret_int HV.out, B2.out⟩
  · have HV := Lib.hid (show (0 : Int) = R by rw [← HR2.out, if_neg (by omega)])
    have hd1 : decide ((L : Int) ≤ i) = false := decide_eq_false h9
    go_wp2_with fail
    refine HP.out.mono ?_
    rintro e w2 ⟨rfl, b2⟩
    have B2 := Lib.hid (B1.out.trans (b2.mono B1.out.size))
    clear c0 c1 h1
    obtain ⟨c0, c1⟩ := cell2 (K1.out.below b2)
    clear b2
    go_wp2_with fail
    go_ret
    exact ⟨ret_int HV.out, B2.out⟩
/-- A type that a name stands for, of kids. -/
def fillU (u : Un) (i : Int) (ks : List Int) : Un × Int × Int :=
  if ks.length = 0 then (u, i, 0) else if (psubT u.types i ks).2.2 ≠ 0 then (noUn, 0, (psubT u.types i ks).2.2) else (⟨(psubT u.types i ks).1, u.named⟩, (psubT u.types i ks).2.1, 0)
theorem psub_len (l : List Ty) (i : Int) (ks : List Int) (h : (psubT l i ks).2.2 = 0) : (psubT l i ks).1.length ≤ 400 := by
  unfold psubT at h ⊢
  split at h
  · rename_i h0
    rw [if_pos h0]
    obtain ⟨hr, g1, g2⟩ := there_zero h0
    unfold substT at h ⊢
    split at h
    · exact absurd (show (1 : Int) = 0 from h) (by decide)
    · rename_i ha
      rw [if_neg ha]
      split at h
      · exact absurd (show (1 : Int) = 0 from h) (by decide)
      · rename_i hin
        rw [if_neg hin]
        split at h
        · rename_i he
          exact absurd h he
        · rename_i he
          rw [if_neg he]
          have hI := inv_run hr (i := i.toNat) (by omega) (args := ks) (by simpa using hin) ha (i.toNat + 1) (Nat.le_refl _) (by simpa using he)
          exact (right_step hI.right).1.2
  · rename_i h0
    rw [if_neg h0]
    exact Nat.zero_le _
set_option maxHeartbeats 8000000 in
set_option maxRecDepth 100000 in
theorem filled_any (Sb : Nat → Prop) (u : Un) (ao no : Option Addr) (ac nc : Nat) (i : Int) (ks : List Int) (go : Option Addr) (gc : Nat) (w : World) (hSb : ∀ b, w.heap.size ≤ b → Sb b) (hU : UnS Sb w ao no ac nc u) (hE : Env w) (hg : IRow w go ks) (hgl : ks.length ≤ 1000) (hg6 : ∀ a ∈ ks, -9223372036854775808 ≤ a ∧ a ≤ 9223372036854775807) :
    Calls Tryz.prog 37 #[unV u ao ac no nc, .int .i64 i, .slice go ks.length gc] w (UnR Sb w (fillU u i ks)) := by
  obtain ⟨w1, h1⟩ : ∃ w1, w.alloc (.cells #[.slice ao u.types.length ac, .slice no u.named.length nc] 25) = w1 := ⟨_, rfl⟩
  obtain ⟨k1, q1, z1⟩ := box_new h1
  obtain ⟨w2, h2⟩ : ∃ w2, w1.alloc (.cells #[.slice none 0 0, .slice none 0 0] 25) = w2 := ⟨_, rfl⟩
  obtain ⟨k2, q2, z2⟩ := box_new h2
  have B2 := Lib.hid (q1.trans (q2.mono q1.size))
  have HU := Lib.hid ((less_from hU (c := w.heap.size) (d := w1.heap.size) ⟨Nat.le_refl _, q1.size⟩).same (SameS.below B2.out))
  have HLS := Lib.hid (show ∀ b, w2.heap.size ≤ b → lessS Sb w.heap.size w1.heap.size b from fun b hb => ⟨hSb b (by omega), by omega, by omega⟩)
  have HNS1 := Lib.hid (show ¬ lessS Sb w.heap.size w1.heap.size w.heap.size from fun g => g.2.1 rfl)
  have HNS2 := Lib.hid (show ¬ lessS Sb w.heap.size w1.heap.size w1.heap.size from fun g => g.2.2 rfl)
  have HS0 := subst_aps (lessS Sb w.heap.size w1.heap.size) u.types ao ac i ks go gc w2 HLS.out HU.out.types hU.tl hU.tc (hE.below B2.out) (hg.below B2.out) hgl hg6
  have HPL := Lib.hid (psub_len u.types i ks)
  have HFU := Lib.hid (show fillU u i ks = (if ks.length = 0 then (u, i, 0) else if (psubT u.types i ks).2.2 ≠ 0 then (noUn, 0, (psubT u.types i ks).2.2) else (⟨(psubT u.types i ks).1, u.named⟩, (psubT u.types i ks).2.1, 0)) from rfl)
  obtain ⟨F, hF⟩ : ∃ F, fillU u i ks = F := ⟨_, rfl⟩
  rw [hF] at HFU ⊢
  obtain ⟨⟨M, p, ec⟩, hPS⟩ : ∃ r, psubT u.types i ks = r := ⟨_, rfl⟩
  rw [hPS] at HS0 HPL HFU
  obtain ⟨kl, hkl⟩ : ∃ kl, ks.length = kl := ⟨_, rfl⟩
  rw [hkl] at HS0 HFU ⊢
  have HS := Lib.hid HS0
  have K1 := Lib.hid (k1.below q2)
  have K2 := Lib.hid k2
  have NE := Lib.hid (show w.heap.size ≠ w1.heap.size by omega)
  have LE1 := Lib.hid (show w.heap.size ≤ w1.heap.size by omega)
  obtain ⟨c0, c1⟩ := cell2 (k1.below q2)
  have f0 := k2.free 0
  have f1 := k2.free 1
  have t0 := (cell2 k2).1
  have t1 := (cell2 k2).2
  unfold unV
  clear hF hPS hkl HS0 k1 k2 q1 q2 z1 z2 hU hE hg hgl hg6 hSb
  go_enter Tryz.func37, Tryz.ntmps37
  by_cases hk0 : kl = 0
  · subst hk0
    have HF := Lib.hid (show F = (u, i, 0) by rw [HFU.out, if_pos rfl])
    obtain ⟨w3, h3⟩ : ∃ w3, w2.setCell ⟨w1.heap.size, 0, none⟩ (.slice ao u.types.length ac) = w3 := ⟨_, rfl⟩
    obtain ⟨w4, h4⟩ : ∃ w4, w3.setCell ⟨w1.heap.size, 1, none⟩ (.slice no u.named.length nc) = w4 := ⟨_, rfl⟩
    have K4 := box2_set K2.out h3 h4
    have f1 := (box2_set0 K2.out h3).free 1
    have t1 := (cell2 (box2_set0 K2.out h3)).2
    have B4 := Lib.hid (set2_below B2.out LE1.out h3 h4)
    have HU4 := Lib.hid (less_back ((HU.out.same (SameS.set HNS2.out h3)).same (SameS.set HNS2.out h4)))
    obtain ⟨e0, e1⟩ := cell2 K4
    clear K4
    go_wp2_with fail
    try simp only [Exit.inBlock, Exit.then]
    refine bodyPost_ret (v := .tuple #[.agg #[.slice ao u.types.length ac, .slice no u.named.length nc], .int .i64 i, .int .i64 0]) ?_ rfl ?_
    · simp [results, Tryz.results37, go_sem, e0, e1]
    rw [HF.out]
    exact ⟨ao, no, ac, nc, rfl, HU4.out, B4.out⟩
  have hq : ((kl : Int) == 0) = false := by rw [beq_eq_false_iff_ne]; omega
  by_cases he : ec = 0
  · subst he
    have HF := Lib.hid (show F = (⟨M, u.named⟩, p, 0) by rw [HFU.out, if_neg hk0, if_neg (fun g => g rfl)])
    have HML := Lib.hid (HPL.out rfl)
    clear hk0
    go_wp2_with fail
    refine HS.out.mono ?_
    rintro e w3 ⟨mo, mc, rfl, hM, hmc, b3⟩
    have B3 := Lib.hid (B2.out.trans (b3.mono B2.out.size))
    have K13 := Lib.hid (K1.out.below b3)
    have K23 := Lib.hid (K2.out.below b3)
    have HN := Lib.hid (HU.out.named.same (SameS.below b3))
    obtain ⟨w4, h4⟩ : ∃ w4, w3.setCell ⟨w.heap.size, 0, none⟩ (.slice mo M.length mc) = w4 := ⟨_, rfl⟩
    have K14 := Lib.hid (box2_set0 K13.out h4)
    have K24 := Lib.hid (other_set K23.out (fun g => NE.out g.symm) h4)
    have g0 := K13.out.free 0
    obtain ⟨w5, h5⟩ : ∃ w5, w4.setCell ⟨w1.heap.size, 0, none⟩ (.slice mo M.length mc) = w5 := ⟨_, rfl⟩
    obtain ⟨w6, h6⟩ : ∃ w6, w5.setCell ⟨w1.heap.size, 1, none⟩ (.slice no u.named.length nc) = w6 := ⟨_, rfl⟩
    have K6 := box2_set K24.out h5 h6
    have B4 := Lib.hid (set1_below B3.out (Nat.le_refl _) h4)
    have B6 := Lib.hid (set2_below B4.out LE1.out h5 h6)
    have AP := Lib.hid (less_back (c := w.heap.size) (d := w1.heap.size) (show UnS (lessS Sb w.heap.size w1.heap.size) w6 mo no mc nc ⟨M, u.named⟩ from ((⟨hM, HN.out, by show M.length ≤ 1000; have := HML.out; omega, HU.out.nl, hmc, HU.out.nc⟩ : UnS (lessS Sb w.heap.size w1.heap.size) w3 mo no mc nc ⟨M, u.named⟩).same (SameS.set HNS1.out h4)).same ((SameS.set HNS2.out h5).trans (SameS.set HNS2.out h6))))
    clear b3 hM hmc c0 c1 f0 f1 t0 t1
    obtain ⟨c0, c1⟩ := cell2 K14.out
    have f0 := K24.out.free 0
    have f1 := (box2_set0 K24.out h5).free 1
    have t0 := (cell2 K24.out).1
    have t1 := (cell2 (box2_set0 K24.out h5)).2
    have t2 := (cell2 K13.out).1
    obtain ⟨e0, e1⟩ := cell2 K6
    clear K6
    go_wp2_with fail
    try simp only [Exit.inBlock, Exit.then]
    refine bodyPost_ret (v := .tuple #[.agg #[.slice mo M.length mc, .slice no u.named.length nc], .int .i64 p, .int .i64 0]) ?_ rfl ?_
    · simp [results, Tryz.results37, go_sem, e0, e1]
    rw [HF.out]
    exact ⟨mo, no, mc, nc, rfl, AP.out, B6.out⟩
  · have HF := Lib.hid (show F = (noUn, 0, ec) by rw [HFU.out, if_neg hk0, if_pos he])
    have hqe : (ec != 0) = true := by rw [bne_iff_ne]; exact he
    clear hk0 he
    go_wp2_with fail
    refine HS.out.mono ?_
    rintro e w3 ⟨mo, mc, rfl, -, -, b3⟩
    have B3 := Lib.hid (B2.out.trans (b3.mono B2.out.size))
    have K23 := Lib.hid (K2.out.below b3)
    obtain ⟨w4, h4⟩ : ∃ w4, w3.setCell ⟨w1.heap.size, 0, none⟩ (.slice none 0 0) = w4 := ⟨_, rfl⟩
    obtain ⟨w5, h5⟩ : ∃ w5, w4.setCell ⟨w1.heap.size, 1, none⟩ (.slice none 0 0) = w5 := ⟨_, rfl⟩
    have K5 := box2_set K23.out h4 h5
    have B5 := Lib.hid (set2_below B3.out LE1.out h4 h5)
    clear b3 c0 c1 f0 f1 t0 t1
    have f0 := K23.out.free 0
    have f1 := (box2_set0 K23.out h4).free 1
    have t0 := (cell2 K23.out).1
    have t1 := (cell2 (box2_set0 K23.out h4)).2
    obtain ⟨e0, e1⟩ := cell2 K5
    clear K5
    go_wp2_with fail
    try simp only [Exit.inBlock, Exit.then]
    refine bodyPost_ret (v := .tuple #[.agg #[.slice none 0 0, .slice none 0 0], .int .i64 0, .int .i64 ec]) ?_ rfl ?_
    · simp [results, Tryz.results37, go_sem, e0, e1]
    rw [HF.out]
    exact ⟨none, none, 0, 0, rfl, noUn_in _ _, B5.out⟩
end Go.Proofs.YtkmnfkhchcoamaaGreatDoor
/- The program's Under. -/
namespace Go.Proofs.YtkmnfkhchcoamaaGreatDoor
open Go.RowKit
set_option linter.unusedSimpArgs false
set_option linter.unusedVariables false

/-- What a type is. -/
def underU (u : Un) (i : Int) : Un × Int × Int :=
  if thereU u i ≠ 0 then (noUn, 0, thereU u i) else if kindAt u.types i ≠ 8 then (u, i, 0)
  else fillU u (u.named.getD (atU u.named (funT u.types i.toNat).name).toNat ⟨⟨#[]⟩, [], 0, []⟩).under (funT u.types i.toNat).kids
theorem thereU_zero {u : Un} {i : Int} (h : thereU u i = 0) : rightU u = true ∧ 0 ≤ i ∧ i < (u.types.length : Int) := by
  unfold thereU at h
  cases hr : rightU u
  · simp [hr] at h
  · rw [hr] at h
    by_cases c : i < 0 ∨ (u.types.length : Int) ≤ i
    · rw [if_neg (by decide), if_pos c] at h
      exact absurd h (by decide)
    · exact ⟨rfl, by omega, by omega⟩
theorem rightU_fits {u : Un} (h : rightU u = true) {i : Nat} (hi : i < u.types.length) (h8 : u.types[i].kind = 8) : foundU u.named u.types[i].name = true ∧ atU u.named u.types[i].name = (lowU (namesU u.named) u.types[i].name : Int) ∧ lowU (namesU u.named) u.types[i].name < u.named.length := by
  rw [rightU_rest, Bool.and_eq_true] at h
  have h2 := restU_iff.1 h.2
  have hf := List.all_eq_true.1 h2.2.2.2 _ (List.getElem_mem hi)
  rw [fits_found h2.2.2.1 h8, Bool.and_eq_true] at hf
  refine ⟨hf.1, ?_, ?_⟩
  · rcases found_at (s := u.types[i].name) h2.2.2.1 with g | g
    · exact g.2
    · rw [hf.1] at g; cases g.1
  · have := hf.1
    unfold foundU at this
    exact (of_decide_eq_true this).1
set_option maxHeartbeats 16000000 in
set_option maxRecDepth 100000 in
theorem under_any (Sb : Nat → Prop) (u : Un) (ao no : Option Addr) (ac nc : Nat) (i : Int) (w : World) (hSb : ∀ b, w.heap.size ≤ b → Sb b) (hU : UnS Sb w ao no ac nc u) (hE : Env w) :
    Calls Tryz.prog 16 #[unV u ao ac no nc, .int .i64 i] w (UnR Sb w (underU u i)) := by
  obtain ⟨w1, h1⟩ : ∃ w1, w.alloc (.cells #[.slice ao u.types.length ac, .slice no u.named.length nc] 25) = w1 := ⟨_, rfl⟩
  obtain ⟨k1, q1, z1⟩ := box_new h1
  obtain ⟨w2, h2⟩ : ∃ w2, w1.alloc (.cells #[.slice none 0 0, .slice none 0 0] 25) = w2 := ⟨_, rfl⟩
  obtain ⟨k2, q2, z2⟩ := box_new h2
  have B2 := Lib.hid (q1.trans (q2.mono q1.size))
  have HU := Lib.hid (hU.same (SameS.below B2.out))
  have HUL := Lib.hid ((less_from hU (c := w1.heap.size) (d := w1.heap.size) ⟨q1.size, q1.size⟩).same (SameS.below B2.out))
  have HLS := Lib.hid (show ∀ b, w2.heap.size ≤ b → lessS Sb w1.heap.size w1.heap.size b from fun b hb => ⟨hSb b (by omega), by omega, by omega⟩)
  have HNS := Lib.hid (show ¬ lessS Sb w1.heap.size w1.heap.size w1.heap.size from fun g => g.2.2 rfl)
  have LE1 := Lib.hid (show w.heap.size ≤ w1.heap.size by omega)
  have HTH0 := there_uany u ao no ac nc i w2 HU.out.out (hE.below B2.out)
  have HE := Lib.hid (hE.below B2.out)
  obtain ⟨F, hF⟩ : ∃ F, underU u i = F := ⟨_, rfl⟩
  have HUF := Lib.hid hF
  rw [hF]
  unfold unV at HTH0
  unfold unV
  obtain ⟨te, hte⟩ : ∃ te, thereU u i = te := ⟨_, rfl⟩
  have HTE := Lib.hid hte
  rw [hte] at HTH0
  have HTH := Lib.hid HTH0
  have K1 := Lib.hid (k1.below q2)
  have K2 := Lib.hid k2
  obtain ⟨c0, c1⟩ := cell2 (k1.below q2)
  have HTL := Lib.hid hU.tl
  have HNL := Lib.hid hU.nl
  clear hF hte HTH0 k1 k2 q1 q2 z1 z2 hU hE hSb
  go_enter Tryz.func16, Tryz.ntmps16
  by_cases h0 : te = 0
  case neg =>
    have HF := Lib.hid (show F = (noUn, 0, te) by rw [← HUF.out]; unfold underU; rw [HTE.out, if_pos h0])
    have hq : (te != 0) = true := by rw [bne_iff_ne]; exact h0
    clear h0
    go_wp2_with fail
    refine HTH.out.mono ?_
    rintro e w3 ⟨rfl, b3⟩
    have B3 := Lib.hid (B2.out.trans (b3.mono B2.out.size))
    have K23 := Lib.hid (K2.out.below b3)
    obtain ⟨w4, h4⟩ : ∃ w4, w3.setCell ⟨w1.heap.size, 0, none⟩ (.slice none 0 0) = w4 := ⟨_, rfl⟩
    obtain ⟨w5, h5⟩ : ∃ w5, w4.setCell ⟨w1.heap.size, 1, none⟩ (.slice none 0 0) = w5 := ⟨_, rfl⟩
    have K5 := box2_set K23.out h4 h5
    have B5 := Lib.hid (set2_below B3.out LE1.out h4 h5)
    clear b3 c0 c1 h1 h2
    have t0 := (cell2 K23.out).1
    have f0 := K23.out.free 0
    have t1 := (cell2 (box2_set0 K23.out h4)).2
    have f1 := (box2_set0 K23.out h4).free 1
    obtain ⟨e0, e1⟩ := cell2 K5
    clear K5
    go_wp2_with fail
    try simp only [Exit.inBlock, Exit.then]
    refine bodyPost_ret (v := .tuple #[.agg #[.slice none 0 0, .slice none 0 0], .int .i64 0, .int .i64 te]) ?_ rfl ?_
    · simp [results, Tryz.results16, go_sem, e0, e1]
    rw [HF.out]
    exact ⟨none, none, 0, 0, rfl, noUn_in _ _, B5.out⟩
  subst h0
  obtain ⟨hru, hi0, hi1⟩ := thereU_zero HTE.out
  have HRU := Lib.hid hru
  obtain ⟨z, rfl⟩ : ∃ z : Nat, i = (z : Int) := ⟨i.toNat, by omega⟩
  have hzl : z < u.types.length := by omega
  have hru2 := hru
  rw [rightU_rest, Bool.and_eq_true] at hru2
  have HRI := Lib.hid (restU_iff.1 hru2.2).2.2.1
  have HFT := Lib.hid (fun h8 => rightU_fits hru hzl h8)
  have HF2 := Lib.hid (show F = if u.types[z].kind ≠ 8 then (u, (z : Int), 0) else fillU u (u.named.getD (atU u.named u.types[z].name).toNat ⟨⟨#[]⟩, [], 0, []⟩).under u.types[z].kids by
    rw [← HUF.out]
    unfold underU
    rw [HTE.out, if_neg (fun g => g rfl), kindAt_eq hzl, Int.toNat_natCast]
    unfold funT
    rw [getD_of hzl])
  clear hru hru2 hi0 hi1
  obtain ⟨ab, aof, rfl, hab, hac2⟩ := HU.out.out.types.cells (by omega)
  obtain ⟨xw, xwc, xk, xkc, a0', a1', a2', a3', a4', -, hkc, hxc⟩ := hac2 z hzl
  obtain ⟨x, hx⟩ : ∃ x, u.types[z] = x := ⟨_, rfl⟩
  rw [hx] at a0' a1' a2' a3' a4' hkc hxc HF2 HFT
  have HXC := Lib.hid hxc
  obtain ⟨L, hL⟩ : ∃ L, u.types.length = L := ⟨_, rfl⟩
  obtain ⟨n, hn⟩ : ∃ n, u.named.length = n := ⟨_, rfl⟩
  have HL := Lib.hid hL
  have HN := Lib.hid hn
  rw [hL] at c0 h1 K1 HTH hzl ⊢
  rw [hn] at c1 h1 K1 HTH ⊢
  have htl := HTL.out
  have hnl := HNL.out
  rw [hL] at htl
  rw [hn] at hnl
  have hzI : (z : Int) < (L : Int) := by omega
  clear hx hxc hac2 hL hn
  go_wp2_with fail
  refine HTH.out.mono ?_
  rintro e w3 ⟨rfl, b3⟩
  have B3 := Lib.hid (B2.out.trans (b3.mono B2.out.size))
  have K13 := Lib.hid (K1.out.below b3)
  have K23 := Lib.hid (K2.out.below b3)
  have HU3 := Lib.hid (HU.out.same (SameS.below b3))
  have HUL3 := Lib.hid (HUL.out.same (SameS.below b3))
  have HXC3 := Lib.hid (HXC.out.below b3)
  have HE3 := Lib.hid (HE.out.below b3)
  have HSZ3 := Lib.hid b3.size
  have a0 := (b3.cell hab).trans a0'
  have a1 := (b3.cell hab).trans a1'
  have a2 := (b3.cell hab).trans a2'
  have a3 := (b3.cell hab).trans a3'
  have a4 := (b3.cell hab).trans a4'
  clear b3 c0 c1 h1 h2 hab a0' a1' a2' a3' a4' HTH
  obtain ⟨c0, c1⟩ := cell2 K13.out
  obtain ⟨w4, h4⟩ : ∃ w4, w3.alloc (.cells #[.int .i64 x.kind, .string x.name, .int .i64 x.n, .slice xw x.words.length xwc, .slice xk x.kids.length xkc] 38) = w4 := ⟨_, rfl⟩
  obtain ⟨k4, q4, z4⟩ := box_new h4
  have KX := Lib.hid k4
  have Q4 := Lib.hid q4
  obtain ⟨d0, d1, d2, d3, d4⟩ := cell5 k4
  clear k4 q4 z4
  by_cases h8 : x.kind = 8
  case neg =>
    have HF := Lib.hid (show F = (u, (z : Int), 0) by rw [HF2.out, if_pos h8])
    have hq : (x.kind != 8) = true := by rw [bne_iff_ne]; exact h8
    have K14 := Lib.hid (K13.out.below Q4.out)
    have K24 := Lib.hid (K23.out.below Q4.out)
    have B4 := Lib.hid (B3.out.trans (Q4.out.mono B3.out.size))
    obtain ⟨w5, h5⟩ : ∃ w5, w4.setCell ⟨w1.heap.size, 0, none⟩ (.slice (some ⟨ab, aof, none⟩) L ac) = w5 := ⟨_, rfl⟩
    obtain ⟨w6, h6⟩ : ∃ w6, w5.setCell ⟨w1.heap.size, 1, none⟩ (.slice no n nc) = w6 := ⟨_, rfl⟩
    have K6 := box2_set K24.out h5 h6
    have B6 := Lib.hid (set2_below B4.out LE1.out h5 h6)
    have HU6 := Lib.hid (less_back (((HUL3.out.same (SameS.below Q4.out)).same (SameS.set HNS.out h5)).same (SameS.set HNS.out h6)))
    have t0 := (cell2 K24.out).1
    have f0 := K24.out.free 0
    have t1 := (cell2 (box2_set0 K24.out h5)).2
    have f1 := (box2_set0 K24.out h5).free 1
    obtain ⟨y0, y1⟩ := cell2 K14.out
    obtain ⟨e0, e1⟩ := cell2 K6
    clear K6 h8
    go_wp2_with fail
    try simp only [Exit.inBlock, Exit.then]
    refine bodyPost_ret (v := .tuple #[.agg #[.slice (some ⟨ab, aof, none⟩) L ac, .slice no n nc], .int .i64 z, .int .i64 0]) ?_ rfl ?_
    · simp [results, Tryz.results16, go_sem, e0, e1]
    rw [HF.out]
    refine ⟨some ⟨ab, aof, none⟩, no, ac, nc, ?_, HU6.out, B6.out⟩
    unfold unV
    rw [HL.out, HN.out]
  have hq : (x.kind != 8) = false := by rw [bne_eq_false_iff_eq]; exact h8
  obtain ⟨ffo, fat, flt⟩ := HFT.out h8
  have HFI0 := ufind_any u (some ⟨ab, aof, none⟩) no ac nc x.name w4 (HU3.out.out.below Q4.out) HRI.out
  obtain ⟨lo, hlo⟩ : ∃ lo, lowU (namesU u.named) x.name = lo := ⟨_, rfl⟩
  rw [hlo, ffo] at HFI0
  rw [hlo] at fat flt
  unfold unV at HFI0
  rw [HL.out, HN.out] at HFI0
  have HFI := Lib.hid HFI0
  obtain ⟨ud, hud⟩ : ∃ ud, u.named[lo].under = ud := ⟨_, rfl⟩
  have HF := Lib.hid (show F = fillU u ud x.kids by rw [HF2.out, if_neg (fun g => g h8), fat, Int.toNat_natCast, getD_of flt, hud])
  have hln : lo < n := by rw [← HN.out]; exact flt
  have hlI : (lo : Int) < (n : Int) := by omega
  obtain ⟨b, o, rfl, hb, hc⟩ := HU3.out.out.named.cells (by omega)
  obtain ⟨_, _, _, _, -, -, a2n', -, -, -, -⟩ := hc lo flt
  rw [hud] at a2n'
  have A2N := Lib.hid a2n'
  have HBL := Lib.hid hb
  have K14 := Lib.hid (K13.out.below Q4.out)
  have K24 := Lib.hid (K23.out.below Q4.out)
  have B4 := Lib.hid (B3.out.trans (Q4.out.mono B3.out.size))
  obtain ⟨y0, y1⟩ := cell2 K14.out
  clear HFI0 hlo ffo fat hud hb hc a2n' h8
  go_wp2_with fail
  refine HFI.out.mono ?_
  rintro e w5 ⟨rfl, b5⟩
  have B5 := Lib.hid (B4.out.trans (b5.mono B4.out.size))
  have B35 := Lib.hid (Q4.out.trans (b5.mono Q4.out.size))
  have K45 := Lib.hid (K24.out.below b5)
  have HX5 := Lib.hid (KX.out.below b5)
  clear c0 c1 d0 d1 d2 d3 d4 y0 y1 a0 a1 a2 a3 a4 h4 HFI
  obtain ⟨kl, hkl⟩ : ∃ kl, x.kids.length = kl := ⟨_, rfl⟩
  have HFL0 := filled_any (lessS Sb w1.heap.size w1.heap.size) u (some ⟨ab, aof, none⟩) (some ⟨b, o, none⟩) ac nc ud x.kids xk xkc w5.drew (fun bb hbb => HLS.out bb (Nat.le_trans (Nat.le_trans HSZ3.out B35.out.size) hbb)) ((HUL3.out.same (SameS.below B35.out)).same (SameS.below (Below.refl _ _).drew)) ((HE3.out.below B35.out).below (Below.refl _ _).drew) ((HXC3.out.kids.below B35.out).below (Below.refl _ _).drew) (by have := HXC3.out.ok.kl; omega) HXC3.out.ok.ks
  unfold unV at HFL0
  rw [HL.out, HN.out, ← HF.out] at HFL0
  have c0 := (cell2 (K14.out.below b5)).1
  have c1 := (cell2 (K14.out.below b5)).2
  have a2 := (B35.out.cell (p := ⟨b, o + lo * 4 + 2, none⟩) HBL.out).trans A2N.out
  have d4 := (cell5 HX5.out).2.2.2.2
  rw [hkl] at HFL0 d4 HX5
  have HFL := Lib.hid HFL0
  obtain ⟨xb, hxb⟩ : ∃ xb, w3.heap.size = xb := ⟨_, rfl⟩
  obtain ⟨ub, hub⟩ : ∃ ub, w.heap.size = ub := ⟨_, rfl⟩
  obtain ⟨rb, hrb⟩ : ∃ rb, w1.heap.size = rb := ⟨_, rfl⟩
  have HUB := Lib.hid hub
  rw [hxb] at d4
  rw [hub] at c0 c1
  rw [hrb] at K45 LE1 HNS HUL HUL3 HLS
  rw [hrb] at HFL
  clear HFL0 b5
  go_upto_region 8 with fail
  clear hxb hub hrb
  refine GoG.start [(13, ⟨ub, 0, none⟩, .slice (some ⟨ab, aof, none⟩) L ac), (13, ⟨ub, 1, none⟩, .slice (some ⟨b, o, none⟩) n nc), (13, ⟨b, o + lo * 4 + 2, none⟩, .int .i64 ud), (13, ⟨xb, 4, none⟩, .slice xk kl xkc)] (by kernel_rfl) ?_ ?_
  · exact Keeps.cons (by first | exact c0 | assumption) (Keeps.cons (by first | exact c1 | assumption) (Keeps.cons (by first | exact a2 | assumption) (Keeps.cons (by first | exact d4 | assumption) (Keeps.nil))))
  refine GoG.take (i := 0) (v := ?_) [13] rfl (by kernel_rfl) (by kernel_rfl) (by kernel_rfl) (by kernel_rfl) (by kernel_rfl) (by kernel_rfl) (fun _ _ _ h => h) (.inl ⟨by rfl, fun WW hS => ?_⟩) ?_
  rotate_left
  · have g0 : WW.cell? ⟨ub, 0, none⟩ = some (.slice (some ⟨ab, aof, none⟩) L ac) := hS (13, ⟨ub, 0, none⟩, .slice (some ⟨ab, aof, none⟩) L ac) (by simp) (by simp)
    have g1 : WW.cell? ⟨ub, 1, none⟩ = some (.slice (some ⟨b, o, none⟩) n nc) := hS (13, ⟨ub, 1, none⟩, .slice (some ⟨b, o, none⟩) n nc) (by simp) (by simp)
    clear hS
    go_simp; try (with_reducible rfl)
  try simp only [Act.put, List.getElem_toArray, List.getElem_cons_succ, List.getElem_cons_zero, List.setIfInBounds_toArray, List.set_cons_zero, List.set_cons_succ]
  refine GoG.take (i := 1) (v := ?_) [] rfl (by kernel_rfl) (by kernel_rfl) (by kernel_rfl) (by kernel_rfl) (by kernel_rfl) (by kernel_rfl) (fun _ _ _ h => h) (yields_free (by rfl) (fun w => ?_)) ?_
  rotate_left
  · go_simp; try (with_reducible rfl)
  try simp only [Act.put, List.getElem_toArray, List.getElem_cons_succ, List.getElem_cons_zero, List.setIfInBounds_toArray, List.set_cons_zero, List.set_cons_succ]
  refine GoG.take (i := 2) (v := ?_) [13] rfl (by kernel_rfl) (by kernel_rfl) (by kernel_rfl) (by kernel_rfl) (by kernel_rfl) (by kernel_rfl) (fun _ _ _ h => h) (yields_load 13 ⟨ub, 1, none⟩ (.slice (some ⟨b, o, none⟩) n nc) (by simp) (by decide) (by rfl) (fun w hw => ?_)) ?_
  rotate_left
  · go_simp; try (with_reducible rfl)
  try simp only [Act.put, List.getElem_toArray, List.getElem_cons_succ, List.getElem_cons_zero, List.setIfInBounds_toArray, List.set_cons_zero, List.set_cons_succ]
  refine GoG.take (i := 3) (v := ?_) [] rfl (by kernel_rfl) (by kernel_rfl) (by kernel_rfl) (by kernel_rfl) (by kernel_rfl) (by kernel_rfl) (fun _ _ _ h => h) (yields_free (by rfl) (fun w => ?_)) ?_
  rotate_left
  · go_simp; try (with_reducible rfl)
  try simp only [Act.put, List.getElem_toArray, List.getElem_cons_succ, List.getElem_cons_zero, List.setIfInBounds_toArray, List.set_cons_zero, List.set_cons_succ]
  refine GoG.take (i := 4) (v := ?_) [] rfl (by kernel_rfl) (by kernel_rfl) (by kernel_rfl) (by kernel_rfl) (by kernel_rfl) (by kernel_rfl) (fun _ _ _ h => h) (yields_free (by rfl) (fun w => ?_)) ?_
  rotate_left
  · go_simp; try (with_reducible rfl)
  try simp only [Act.put, List.getElem_toArray, List.getElem_cons_succ, List.getElem_cons_zero, List.setIfInBounds_toArray, List.set_cons_zero, List.set_cons_succ]
  refine GoG.take (i := 5) (v := ?_) [] rfl (by kernel_rfl) (by kernel_rfl) (by kernel_rfl) (by kernel_rfl) (by kernel_rfl) (by kernel_rfl) (fun _ _ _ h => h) (yields_free (by rfl) (fun w => ?_)) ?_
  rotate_left
  · go_simp; try (with_reducible rfl)
  try simp only [Act.put, List.getElem_toArray, List.getElem_cons_succ, List.getElem_cons_zero, List.setIfInBounds_toArray, List.set_cons_zero, List.set_cons_succ]
  refine GoG.take (i := 6) (v := ?_) [13] rfl (by kernel_rfl) (by kernel_rfl) (by kernel_rfl) (by kernel_rfl) (by kernel_rfl) (by kernel_rfl) (fun _ _ _ h => h) (yields_load 13 ⟨b, o + lo * 4 + 2, none⟩ (.int .i64 ud) (by simp) (by decide) (by rfl) (fun w hw => ?_)) ?_
  rotate_left
  · go_simp; try (with_reducible rfl)
  try simp only [Act.put, List.getElem_toArray, List.getElem_cons_succ, List.getElem_cons_zero, List.setIfInBounds_toArray, List.set_cons_zero, List.set_cons_succ]
  refine GoG.take (i := 7) (v := ?_) [] rfl (by kernel_rfl) (by kernel_rfl) (by kernel_rfl) (by kernel_rfl) (by kernel_rfl) (by kernel_rfl) (fun _ _ _ h => h) (yields_free (by rfl) (fun w => ?_)) ?_
  rotate_left
  · go_simp; try (with_reducible rfl)
  try simp only [Act.put, List.getElem_toArray, List.getElem_cons_succ, List.getElem_cons_zero, List.setIfInBounds_toArray, List.set_cons_zero, List.set_cons_succ]
  refine GoG.take (i := 8) (v := ?_) [13] rfl (by kernel_rfl) (by kernel_rfl) (by kernel_rfl) (by kernel_rfl) (by kernel_rfl) (by kernel_rfl) (fun _ _ _ h => h) (yields_load 13 ⟨xb, 4, none⟩ (.slice xk kl xkc) (by simp) (by decide) (by rfl) (fun w hw => ?_)) ?_
  rotate_left
  · go_simp; try (with_reducible rfl)
  try simp only [Act.put, List.getElem_toArray, List.getElem_cons_succ, List.getElem_cons_zero, List.setIfInBounds_toArray, List.set_cons_zero, List.set_cons_succ]
  refine GoG.one (i := 9) rfl (by kernel_rfl) (fun K hK => ?_)
  go_simp
  refine HFL.out.mono ?_
  rintro e w7 ⟨fo, fn, fc, fnc, rfl, hF, b7⟩
  unfold unV
  have B7 := Lib.hid (B5.out.drew.trans (b7.mono B5.out.drew.size))
  have K7 := Lib.hid ((K45.out.below (Below.refl _ _).drew).below b7)
  have HF := Lib.hid hF
  refine hK.out _ _ (Keeps.cons ((b7.cell (p := ⟨ub, 0, none⟩) (show _ < w5.heap.size from cell_ltB c0)).trans c0) (Keeps.cons ((b7.cell (p := ⟨ub, 1, none⟩) (show _ < w5.heap.size from cell_ltB c1)).trans c1) (Keeps.cons ((b7.cell (p := ⟨b, o + lo * 4 + 2, none⟩) (show _ < w5.heap.size from cell_ltB a2)).trans a2) (Keeps.cons ((b7.cell (p := ⟨xb, 4, none⟩) (show _ < w5.heap.size from cell_ltB d4)).trans d4) (Keeps.nil))))) ?_
  clear hK K b7 hF c0 c1 a2 d4
  try simp only [Act.put, List.getElem_toArray, List.getElem_cons_succ, List.getElem_cons_zero, List.setIfInBounds_toArray, List.set_cons_zero, List.set_cons_succ]
  refine GoG.take (i := 10) (v := ?_) [] rfl (by kernel_rfl) (by kernel_rfl) (by kernel_rfl) (by kernel_rfl) (by kernel_rfl) (by kernel_rfl) (fun _ _ _ h => h) (yields_free (by rfl) (fun w => ?_)) ?_
  rotate_left
  · go_simp; try (with_reducible rfl)
  try simp only [Act.put, List.getElem_toArray, List.getElem_cons_succ, List.getElem_cons_zero, List.setIfInBounds_toArray, List.set_cons_zero, List.set_cons_succ]
  refine GoG.take (i := 11) (v := ?_) [] rfl (by kernel_rfl) (by kernel_rfl) (by kernel_rfl) (by kernel_rfl) (by kernel_rfl) (by kernel_rfl) (fun _ _ _ h => h) (yields_free (by rfl) (fun w => ?_)) ?_
  rotate_left
  · go_simp; try (with_reducible rfl)
  try simp only [Act.put, List.getElem_toArray, List.getElem_cons_succ, List.getElem_cons_zero, List.setIfInBounds_toArray, List.set_cons_zero, List.set_cons_succ]
  refine GoG.take (i := 12) (v := ?_) [] rfl (by kernel_rfl) (by kernel_rfl) (by kernel_rfl) (by kernel_rfl) (by kernel_rfl) (by kernel_rfl) (fun _ _ _ h => h) (yields_free (by rfl) (fun w => ?_)) ?_
  rotate_left
  · go_simp; try (with_reducible rfl)
  try simp only [Act.put, List.getElem_toArray, List.getElem_cons_succ, List.getElem_cons_zero, List.setIfInBounds_toArray, List.set_cons_zero, List.set_cons_succ]
  obtain ⟨w8, h8⟩ : ∃ w8, w7.setCell ⟨rb, 0, none⟩ (.slice fo F.1.types.length fc) = w8 := ⟨_, rfl⟩
  obtain ⟨w9, h9⟩ : ∃ w9, w8.setCell ⟨rb, 1, none⟩ (.slice fn F.1.named.length fnc) = w9 := ⟨_, rfl⟩
  have K9 := Lib.hid (box2_set K7.out h8 h9)
  have t0 := (cell2 K7.out).1
  have f0 := K7.out.free 0
  have t1 := (cell2 (box2_set0 K7.out h8)).2
  have f1 := (box2_set0 K7.out h8).free 1
  have B9 := Lib.hid (set2_below B7.out LE1.out h8 h9)
  have HF9 := Lib.hid (less_back ((HF.out.same (SameS.set HNS.out h8)).same (SameS.set HNS.out h9)))
  refine GoG.one (i := 13) rfl (by kernel_rfl) (fun K hK => ?_)
  go_simp
  refine hK.out _ _ (Keeps.up (by rfl) (Keeps.up (by rfl) (Keeps.up (by rfl) (Keeps.up (by rfl) (Keeps.nil))))) ?_
  clear hK K
  try simp only [Act.put, List.getElem_toArray, List.getElem_cons_succ, List.getElem_cons_zero, List.setIfInBounds_toArray, List.set_cons_zero, List.set_cons_succ]
  refine GoG.take (i := 14) (v := ?_) [] rfl (by kernel_rfl) (by kernel_rfl) (by kernel_rfl) (by kernel_rfl) (by kernel_rfl) (by kernel_rfl) (fun _ _ _ h => h) (yields_free (by rfl) (fun w => ?_)) ?_
  rotate_left
  · go_simp; try (with_reducible rfl)
  try simp only [Act.put, List.getElem_toArray, List.getElem_cons_succ, List.getElem_cons_zero, List.setIfInBounds_toArray, List.set_cons_zero, List.set_cons_succ]
  refine GoG.take (i := 15) (v := ?_) [] rfl (by kernel_rfl) (by kernel_rfl) (by kernel_rfl) (by kernel_rfl) (by kernel_rfl) (by kernel_rfl) (fun _ _ _ h => h) (yields_free (by rfl) (fun w => ?_)) ?_
  rotate_left
  · go_simp; try (with_reducible rfl)
  try simp only [Act.put, List.getElem_toArray, List.getElem_cons_succ, List.getElem_cons_zero, List.setIfInBounds_toArray, List.set_cons_zero, List.set_cons_succ]
  refine GoG.done (by kernel_rfl) ?_ _
  clear t0 f0 t1 f1 h8 h9
  obtain ⟨e0, e1⟩ := cell2 K9.out
  go_wp2_with fail
  try simp only [Exit.inBlock, Exit.then]
  refine bodyPost_ret (v := .tuple #[.agg #[.slice fo F.1.types.length fc, .slice fn F.1.named.length fnc], .int .i64 F.2.1, .int .i64 F.2.2]) ?_ rfl ?_
  · simp [results, Tryz.results16, go_sem, e0, e1]
  exact ⟨fo, fn, fc, fnc, rfl, HF9.out, B9.out⟩
end Go.Proofs.YtkmnfkhchcoamaaGreatDoor

