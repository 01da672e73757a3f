/- The document's answer: name, number, quoted, Token. -/
import Derived.Test.YtjhgibdebcapfaaScanRefK
namespace Go.Proofs.Ytjhgibdebcapfaa
open Go.RowKit
set_option linter.unusedSimpArgs false
set_option linter.unusedVariables false

/-- A token as the document's answer gives it. -/
def gotV (g : Got) : Value := .agg #[.int .i64 g.kind, .int .i64 (g.stop : Int), .int .i64 g.err]
theorem ret_got {a b c : Int} {g : Got} (h1 : g.kind = a) (h2 : (g.stop : Int) = b) (h3 : g.err = c) : Ending.returned (.agg #[.int .i64 a, .int .i64 b, .int .i64 c]) = .returned (gotV g) := by
  subst h1; subst h2; subst h3; rfl
theorem byteAt_any (s : ByteArray) (k : Nat) : 0 ≤ byteAt s k ∧ byteAt s k < 256 := byteAt_range s k
theorem set3_below {w w1 : World} (h : Below w.heap.size w w1) (v0 v1 v2 : Value) : Below w.heap.size w (((w1.setCell ⟨w.heap.size, 0, none⟩ v0).setCell ⟨w.heap.size, 1, none⟩ v1).setCell ⟨w.heap.size, 2, none⟩ v2) :=
  ((h.setCell (Nat.le_refl _) _).setCell (Nat.le_refl _) _).setCell (Nat.le_refl _) _
theorem cell3 {w : World} {b : Nat} {a0 a1 a2 : Value} {T : TypeId} (h : BlockAt w b #[a0, a1, a2] T) :
    w.cell? ⟨b, 0, none⟩ = some a0 ∧ w.cell? ⟨b, 1, none⟩ = some a1 ∧ w.cell? ⟨b, 2, none⟩ = some a2 := ⟨h.cell 0, h.cell 1, h.cell 2⟩
theorem set3_cells {w : World} {b : Nat} {a0 a1 a2 : Value} {T : TypeId} (h : BlockAt w b #[a0, a1, a2] T) (v0 v1 v2 : Value) :
    (((w.setCell ⟨b, 0, none⟩ v0).setCell ⟨b, 1, none⟩ v1).setCell ⟨b, 2, none⟩ v2).cell? ⟨b, 0, none⟩ = some v0 ∧ (((w.setCell ⟨b, 0, none⟩ v0).setCell ⟨b, 1, none⟩ v1).setCell ⟨b, 2, none⟩ v2).cell? ⟨b, 1, none⟩ = some v1 ∧ (((w.setCell ⟨b, 0, none⟩ v0).setCell ⟨b, 1, none⟩ v1).setCell ⟨b, 2, none⟩ v2).cell? ⟨b, 2, none⟩ = some v2 := by
  have k := ((h.set 0 v0).set 1 v1).set 2 v2
  exact ⟨k.cell 0, k.cell 1, k.cell 2⟩
set_option maxHeartbeats 4000000 in
set_option maxRecDepth 100000 in
theorem refname_any (s : ByteArray) (i : Nat) (w : World) (hs : s.size ≤ 4010) (hi : i < s.size) :
    Calls Try.prog 32 #[.string s, .int .i64 i] w fun e w' => e = .returned (gotV (nameT s i)) ∧ Below w.heap.size w w' := by
  obtain ⟨w1, hw⟩ : ∃ w1, w.alloc (.cells #[.int .i64 0, .int .i64 0, .int .i64 0] 46) = w1 := ⟨_, rfl⟩
  obtain ⟨k1, q1, z1⟩ := box_new hw
  have B := Lib.hid q1
  have K1 := Lib.hid k1
  clear k1 q1 z1
  obtain ⟨e, he⟩ : ∃ e, run (fun k => inB (byteAt s k)) s.size i = e := ⟨_, rfl⟩
  have HE := Lib.hid he
  have e1 : i ≤ e := by rw [← he]; exact le_run
  have e2 : e ≤ s.size := by rw [← he]; exact run_le (by omega)
  have HT : nameT s i = (if 20 < e - i then ⟨0, 0, 7⟩ else if keyB (s.extract i e) = true then ⟨7, e, 0⟩ else ⟨1, e, 0⟩) := by unfold nameT; rw [he]
  clear he
  go_enter Try.func32, Try.ntmps32
  go_wp2_with fail
  clear hw
  go_loop [5] (fun v => ∃ k : Nat, k ≤ e ∧ v = .int .i64 k ∧ Hid (run (fun k => inB (byteAt s k)) s.size k = e)) (fun v => s.size - (intOf v).toNat)
  case atStart => exact ⟨i, e1, rfl, HE⟩
  case round =>
    obtain ⟨k, hk, rfl, Hrun⟩ := hrel
    have HA := Lib.hid (at_any s k w1 (by omega))
    have HWd := word_any (byteAt s k) w1
    go_wp2_with fail
    refine HA.out.mono ?_
    rintro x w' ⟨rfl, rfl⟩
    cases hin : inB (byteAt s k) <;> rw [hin] at HWd <;> have HW := Lib.hid HWd <;> clear HWd
    · have hke : k = e := by rw [← Hrun.out]; exact (run_stop (fun h => by rw [hin] at h; cases h.2)).symm
      subst hke
      clear hin
      have BW := B.out
      by_cases h20 : 20 < k - i
      · have HN := Lib.hid (show nameT s i = ⟨0, 0, 7⟩ by rw [HT, if_pos h20])
        have h21 : (20 : Int) < (k : Int) - (i : Int) := by omega
        clear HT
        go_wp2_with fail
        refine HW.out.mono ?_
        rintro x w' ⟨rfl, rfl⟩
        clear h20
        obtain ⟨e0, e1, e2⟩ := cell3 K1.out
        obtain ⟨g0, g1, g2⟩ := set3_cells K1.out (.int .i64 0) (.int .i64 0) (.int .i64 7)
        have fr0 := K1.out.free 0
        have fr1 := K1.out.free 1
        have fr2 := K1.out.free 2
        go_wp2_with fail
        try clear e0 e1 e2
        refine bodyPost_ret (v := .agg #[.int .i64 0, .int .i64 0, .int .i64 7]) (by simp [results, Try.results32, go_sem, g0, g1, g2]) rfl ⟨ret_got (by rw [HN.out]) (by rw [HN.out]; try rfl) (by rw [HN.out]), set3_below B.out _ _ _⟩
      · have h21 : ¬ (20 : Int) < (k : Int) - (i : Int) := by omega
        rw [if_neg h20] at HT
        have HKK := refkey_any (s.extract i k) w1
        cases hkey : keyB (s.extract i k) <;> rw [hkey] at HT HKK <;> have HK := Lib.hid HKK <;> clear HKK hkey
        · have HN := Lib.hid (show nameT s i = ⟨1, k, 0⟩ by rw [HT]; rfl)
          clear HT
          go_wp2_with fail
          refine HW.out.mono ?_
          rintro x w' ⟨rfl, rfl⟩
          go_wp2_with fail
          refine HK.out.mono ?_
          rintro x w2 ⟨rfl, bb⟩
          have K2 := K1.out.below bb
          have B2 := Lib.hid (B.out.trans (bb.mono B.out.size))
          obtain ⟨e0, e1, e2⟩ := cell3 K2
          obtain ⟨g0, g1, g2⟩ := set3_cells K2 (.int .i64 1) (.int .i64 (k : Int)) (.int .i64 0)
          have fr0 := K2.free 0
          have fr1 := K2.free 1
          have fr2 := K2.free 2
          go_wp2_with fail
          try clear e0 e1 e2
          refine bodyPost_ret (v := .agg #[.int .i64 1, .int .i64 (k : Int), .int .i64 0]) (by simp [results, Try.results32, go_sem, g0, g1, g2]) rfl ⟨ret_got (by rw [HN.out]) (by rw [HN.out]; try rfl) (by rw [HN.out]), set3_below B2.out _ _ _⟩
        · have HN := Lib.hid (show nameT s i = ⟨7, k, 0⟩ by rw [HT]; rfl)
          clear HT
          go_wp2_with fail
          refine HW.out.mono ?_
          rintro x w' ⟨rfl, rfl⟩
          go_wp2_with fail
          refine HK.out.mono ?_
          rintro x w2 ⟨rfl, bb⟩
          have K2 := K1.out.below bb
          have B2 := Lib.hid (B.out.trans (bb.mono B.out.size))
          obtain ⟨e0, e1, e2⟩ := cell3 K2
          obtain ⟨g0, g1, g2⟩ := set3_cells K2 (.int .i64 7) (.int .i64 (k : Int)) (.int .i64 0)
          have fr0 := K2.free 0
          have fr1 := K2.free 1
          have fr2 := K2.free 2
          go_wp2_with fail
          try clear e0 e1 e2
          refine bodyPost_ret (v := .agg #[.int .i64 7, .int .i64 (k : Int), .int .i64 0]) (by simp [results, Try.results32, go_sem, g0, g1, g2]) rfl ⟨ret_got (by rw [HN.out]) (by rw [HN.out]; try rfl) (by rw [HN.out]), set3_below B2.out _ _ _⟩
    · have hkn : k < s.size := by
        rcases Nat.lt_or_ge k s.size with h1 | h1
        · exact h1
        · rw [byteAt_none (by omega)] at hin; cases hin
      have Hnx := Lib.hid (show run (fun k => inB (byteAt s k)) s.size (k + 1) = e by rw [← Hrun.out]; exact (run_step hkn hin).symm)
      have hke : k + 1 ≤ e := by rw [← Hnx.out]; exact le_run
      clear hin HT
      go_wp2_with fail
      refine HW.out.mono ?_
      rintro x w' ⟨rfl, rfl⟩
      go_wp2_with fail
      go_round
      case rel => exact ⟨k + 1, hke, by go_num, Hnx⟩
      case measure => simp [intOf]; omega
end Go.Proofs.Ytjhgibdebcapfaa
