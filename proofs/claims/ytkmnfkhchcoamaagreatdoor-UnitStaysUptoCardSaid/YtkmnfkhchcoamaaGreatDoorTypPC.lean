import Derived.Test.YtkmnfkhchcoamaaGreatDoorTyB
import Derived.WalkSpells
/- slices.Clone and slices.Clip. -/
namespace Go.Proofs.YtkmnfkhchcoamaaGreatDoor
open Go.RowKit
set_option linter.unusedSimpArgs false
set_option linter.unusedVariables false

theorem eql_strC (w : World) (a : Option Addr) (n c : Nat) : (binOp .eql 35 (.slice a n c) (.slice none 0 0)).run Tryz.prog w = .ok (.bool a.isNone) w := by
  simp only [binOp]
  simp [Op.equal, Op.maxDepth, Lib.run_equalIn_slice_nil w 9999 35 9 a n c 0 0 Tryz.underlying35]
theorem info_strC : (Tryz.prog.info? 9).map (fun i => (i.zero, i.size, i.bytes)) = some (some (.string ⟨#[]⟩), 1, 16) := by kernel_rfl
theorem own_strC {w : World} {base : Nat} {v : Value} {zs : List ByteArray} (h : w.ownsRow base 9 1 v zs.length (zs.map Value.string)) : ∃ ao cap, v = .slice ao zs.length cap ∧ SRow w ao zs ∧ zs.length ≤ cap ∧ ∀ a, ao = some a → base ≤ a.block := by
  have hc := fun g hg => h.cells (g := g) hg
  obtain ⟨h1, h2⟩ := h
  rcases h2 with ⟨rfl, h0⟩ | ⟨g, cap, cur, rfl, hg, hcur, hcap1, hcap2, hcs, htk⟩
  · exact ⟨none, 0, by rw [h0], .inl (List.eq_nil_of_length_eq_zero h0), by rw [h0]; exact Nat.le_refl _, fun a h => by cases h⟩
  · refine ⟨_, _, rfl, .inr ⟨g, 0, rfl, (Array.getElem?_eq_some_iff.1 hcur).1, fun i hi => ?_⟩, hcap1, fun a h => by (injection h with h; subst h; exact hg)⟩
    have := hc g rfl i _ (by rw [List.getElem?_map, List.getElem?_eq_getElem hi]; rfl)
    have hadd : (⟨g, 0, none⟩ : Addr).add i = ⟨g, i, none⟩ := by unfold Addr.add; split <;> simp_all
    rw [hadd] at this
    rw [Nat.zero_add, this, getD_of hi]
theorem row_setstr {w : World} {ao : Option Addr} {zs : List ByteArray} {b k : Nat} {v : Value} (h : SRow w ao zs) (hn : ∀ a, ao = some a → a.block ≠ b) : SRow (w.setCell ⟨b, k, none⟩ v) ao zs := by
  rcases h with h | ⟨c, off, rfl, h2, h3⟩
  · exact .inl h
  · have hc : c ≠ b := hn _ rfl
    refine .inr ⟨c, off, rfl, by simpa [World.setCell] using h2, fun i hi => ?_⟩
    rw [← h3 i hi]
    exact World.cell?_of_block (a := ⟨c, off + i, none⟩) (Below.heap_setCell _ _ _ _ hc)
/-- What Clone gives. -/
def Clonestr (zs : List ByteArray) (w : World) (e : Ending) (w' : World) : Prop := ∃ ao cap, e = .returned (.slice ao zs.length cap) ∧ SRow w' ao zs ∧ zs.length ≤ cap ∧ (∀ a, ao = some a → w.heap.size ≤ a.block) ∧ Below w.heap.size w w'
set_option maxRecDepth 100000 in
set_option maxHeartbeats 4000000 in
theorem clone_str (ao : Option Addr) (c : Nat) (zs : List ByteArray) (w : World) (hr : SRow w ao zs) (hl : zs.length ≤ 1000) :
    Calls Tryz.prog 57 #[.slice ao zs.length c] w (Clonestr zs w) := by
  cases ao with
  | none =>
    have hz : zs = [] := by
      rcases hr with h | ⟨b, off, h, -⟩
      · exact h
      · cases h
    subst hz
    have heq := fun W => eql_strC W none 0 c
    simp only [Option.isNone_none] at heq
    go_enter Tryz.func57, Tryz.ntmps57
    go_wp2_with fail
    go_ret
    exact ⟨none, 0, rfl, .inl rfl, Nat.le_refl _, (fun a h => by cases h), Below.refl _ _⟩
  | some ad =>
    obtain ⟨i0, hi, hz0, hz1, hz2⟩ := info_parts info_strC
    have HR := Lib.hid hr
    have O0 := Lib.hid (show (w.alloc (.cells #[] 9)).ownsRow w.heap.size 9 1 (.slice (some ⟨w.heap.size, 0, none⟩) 0 0) 0 [] from World.ownsRow_made w #[] 0 (Nat.le_refl _) (by unfold maxLen; omega) rfl)
    have B0 := Lib.hid (show Below w.heap.size w (w.alloc (.cells #[] 9)) from (Below.refl _ _).alloc (Nat.le_refl _) _)
    obtain ⟨n, hn⟩ : ∃ n, zs.length = n := ⟨_, rfl⟩
    have HN := Lib.hid hn
    have HC := Lib.hid (show ∀ j u, (zs.map Value.string)[j]? = some u → (w.alloc (.cells #[] 9)).cell? (ad.add j) = some u from fun j u hu => by
      obtain ⟨hj, rfl⟩ := List.getElem?_eq_some_iff.1 hu
      rw [List.length_map] at hj
      obtain ⟨b, off, e, hb, hc⟩ := HR.out.cells (by omega)
      injection e with e
      subst e
      have hadd : (⟨b, off, none⟩ : Addr).add j = ⟨b, off + j, none⟩ := by unfold Addr.add; split <;> simp_all
      rw [hadd, B0.out.cell (p := ⟨b, off + j, none⟩) hb, hc j hj, List.getElem_map, getD_of hj])
    rw [hn] at hl ⊢
    clear hr hn
    have heq := fun W => eql_strC W (some ad) n c
    simp only [Option.isNone_some] at heq
    go_enter Tryz.func57, Tryz.ntmps57
    go_wp2_with (at_builtin; refine wpList_append_own_at _ rfl _ _ 35 rfl w.heap.size 9 i0 (.string ⟨#[]⟩) 1 16 Tryz.underlying35 hi hz0 hz1 hz2 rfl (by decide) _ 0 [] rfl O0.out ad n c (zs.map Value.string) rfl ?c1 ?c2 ?c3 ?c4 ?c5 ?c6 ?_)
    case c1 => rw [List.length_map, HN.out, Nat.mul_one]
    case c2 => exact HC.out
    case c3 => intro u hu; obtain ⟨x, _, rfl⟩ := List.mem_map.1 hu; rfl
    case c4 => unfold maxLen; omega
    case c5 => omega
    case c6 => exact B0.out.size
    intro v' w1 hown hgrow _ _
    have B1 := Lib.hid (B0.out.grown hgrow B0.out.size (fun k hk => (O0.out.lt k hk).1))
    have hown' : w1.ownsRow w.heap.size 9 1 v' zs.length (zs.map Value.string) := by
      rw [HN.out]
      simpa using hown
    obtain ⟨ao', cap', rfl, hr', hc', hn'⟩ := own_strC hown'
    have HX := Lib.hid (And.intro hr' (And.intro hc' hn'))
    clear hown hown' hgrow hr' hc' hn'
    rw [HN.out]
    go_wp2_with fail
    go_ret
    exact ⟨ao', cap', by (rw [HN.out]; rfl), HX.out.1, HX.out.2.1, HX.out.2.2, B1.out⟩
theorem eql_intC (w : World) (a : Option Addr) (n c : Nat) : (binOp .eql 36 (.slice a n c) (.slice none 0 0)).run Tryz.prog w = .ok (.bool a.isNone) w := by
  simp only [binOp]
  simp [Op.equal, Op.maxDepth, Lib.run_equalIn_slice_nil w 9999 36 3 a n c 0 0 Tryz.underlying36]
theorem info_intC : (Tryz.prog.info? 3).map (fun i => (i.zero, i.size, i.bytes)) = some (some (.int .i64 0), 1, 8) := by kernel_rfl
theorem own_intC {w : World} {base : Nat} {v : Value} {zs : List Int} (h : w.ownsRow base 3 1 v zs.length (zs.map (Value.int .i64))) : ∃ ao cap, v = .slice ao zs.length cap ∧ IRow w ao zs ∧ zs.length ≤ cap ∧ ∀ a, ao = some a → base ≤ a.block := by
  have hc := fun g hg => h.cells (g := g) hg
  obtain ⟨h1, h2⟩ := h
  rcases h2 with ⟨rfl, h0⟩ | ⟨g, cap, cur, rfl, hg, hcur, hcap1, hcap2, hcs, htk⟩
  · exact ⟨none, 0, by rw [h0], .inl (List.eq_nil_of_length_eq_zero h0), by rw [h0]; exact Nat.le_refl _, fun a h => by cases h⟩
  · refine ⟨_, _, rfl, .inr ⟨g, 0, rfl, (Array.getElem?_eq_some_iff.1 hcur).1, fun i hi => ?_⟩, hcap1, fun a h => by (injection h with h; subst h; exact hg)⟩
    have := hc g rfl i _ (by rw [List.getElem?_map, List.getElem?_eq_getElem hi]; rfl)
    have hadd : (⟨g, 0, none⟩ : Addr).add i = ⟨g, i, none⟩ := by unfold Addr.add; split <;> simp_all
    rw [hadd] at this
    rw [Nat.zero_add, this, getD_of hi]
theorem row_setint {w : World} {ao : Option Addr} {zs : List Int} {b k : Nat} {v : Value} (h : IRow w ao zs) (hn : ∀ a, ao = some a → a.block ≠ b) : IRow (w.setCell ⟨b, k, none⟩ v) ao zs := by
  rcases h with h | ⟨c, off, rfl, h2, h3⟩
  · exact .inl h
  · have hc : c ≠ b := hn _ rfl
    refine .inr ⟨c, off, rfl, by simpa [World.setCell] using h2, fun i hi => ?_⟩
    rw [← h3 i hi]
    exact World.cell?_of_block (a := ⟨c, off + i, none⟩) (Below.heap_setCell _ _ _ _ hc)
/-- What Clone gives. -/
def Cloneint (zs : List Int) (w : World) (e : Ending) (w' : World) : Prop := ∃ ao cap, e = .returned (.slice ao zs.length cap) ∧ IRow w' ao zs ∧ zs.length ≤ cap ∧ (∀ a, ao = some a → w.heap.size ≤ a.block) ∧ Below w.heap.size w w'
set_option maxRecDepth 100000 in
set_option maxHeartbeats 4000000 in
theorem clone_int (ao : Option Addr) (c : Nat) (zs : List Int) (w : World) (hr : IRow w ao zs) (hl : zs.length ≤ 1000) :
    Calls Tryz.prog 58 #[.slice ao zs.length c] w (Cloneint zs w) := by
  cases ao with
  | none =>
    have hz : zs = [] := by
      rcases hr with h | ⟨b, off, h, -⟩
      · exact h
      · cases h
    subst hz
    have heq := fun W => eql_intC W none 0 c
    simp only [Option.isNone_none] at heq
    go_enter Tryz.func58, Tryz.ntmps58
    go_wp2_with fail
    go_ret
    exact ⟨none, 0, rfl, .inl rfl, Nat.le_refl _, (fun a h => by cases h), Below.refl _ _⟩
  | some ad =>
    obtain ⟨i0, hi, hz0, hz1, hz2⟩ := info_parts info_intC
    have HR := Lib.hid hr
    have O0 := Lib.hid (show (w.alloc (.cells #[] 3)).ownsRow w.heap.size 3 1 (.slice (some ⟨w.heap.size, 0, none⟩) 0 0) 0 [] from World.ownsRow_made w #[] 0 (Nat.le_refl _) (by unfold maxLen; omega) rfl)
    have B0 := Lib.hid (show Below w.heap.size w (w.alloc (.cells #[] 3)) from (Below.refl _ _).alloc (Nat.le_refl _) _)
    obtain ⟨n, hn⟩ : ∃ n, zs.length = n := ⟨_, rfl⟩
    have HN := Lib.hid hn
    have HC := Lib.hid (show ∀ j u, (zs.map (Value.int .i64))[j]? = some u → (w.alloc (.cells #[] 3)).cell? (ad.add j) = some u from fun j u hu => by
      obtain ⟨hj, rfl⟩ := List.getElem?_eq_some_iff.1 hu
      rw [List.length_map] at hj
      obtain ⟨b, off, e, hb, hc⟩ := HR.out.cells (by omega)
      injection e with e
      subst e
      have hadd : (⟨b, off, none⟩ : Addr).add j = ⟨b, off + j, none⟩ := by unfold Addr.add; split <;> simp_all
      rw [hadd, B0.out.cell (p := ⟨b, off + j, none⟩) hb, hc j hj, List.getElem_map, getD_of hj])
    rw [hn] at hl ⊢
    clear hr hn
    have heq := fun W => eql_intC W (some ad) n c
    simp only [Option.isNone_some] at heq
    go_enter Tryz.func58, Tryz.ntmps58
    go_wp2_with (at_builtin; refine wpList_append_own_at _ rfl _ _ 36 rfl w.heap.size 3 i0 (.int .i64 0) 1 8 Tryz.underlying36 hi hz0 hz1 hz2 rfl (by decide) _ 0 [] rfl O0.out ad n c (zs.map (Value.int .i64)) rfl ?c1 ?c2 ?c3 ?c4 ?c5 ?c6 ?_)
    case c1 => rw [List.length_map, HN.out, Nat.mul_one]
    case c2 => exact HC.out
    case c3 => intro u hu; obtain ⟨x, _, rfl⟩ := List.mem_map.1 hu; rfl
    case c4 => unfold maxLen; omega
    case c5 => omega
    case c6 => exact B0.out.size
    intro v' w1 hown hgrow _ _
    have B1 := Lib.hid (B0.out.grown hgrow B0.out.size (fun k hk => (O0.out.lt k hk).1))
    have hown' : w1.ownsRow w.heap.size 3 1 v' zs.length (zs.map (Value.int .i64)) := by
      rw [HN.out]
      simpa using hown
    obtain ⟨ao', cap', rfl, hr', hc', hn'⟩ := own_intC hown'
    have HX := Lib.hid (And.intro hr' (And.intro hc' hn'))
    clear hown hown' hgrow hr' hc' hn'
    rw [HN.out]
    go_wp2_with fail
    go_ret
    exact ⟨ao', cap', by (rw [HN.out]; rfl), HX.out.1, HX.out.2.1, HX.out.2.2, B1.out⟩
set_option maxHeartbeats 4000000 in
theorem clip_any (b off n c : Nat) (w : World) (hn : n ≤ 1000) (hc : n ≤ c) :
    Calls Tryz.prog 59 #[.slice (some ⟨b, off, none⟩) n c] w fun e w' => e = .returned (.slice (some ⟨b, off, none⟩) n n) ∧ w' = w := by
  by_cases h0 : n = 0
  · subst h0
    go_enter Tryz.func59, Tryz.ntmps59
    go_wp2_with fail
    go_ret
    exact ⟨rfl, rfl⟩
  · have h1 : ¬ (n = 0) := h0
    go_enter Tryz.func59, Tryz.ntmps59
    go_wp2_with fail
    go_ret
    exact ⟨by simp [h0], rfl⟩
end Go.Proofs.YtkmnfkhchcoamaaGreatDoor

