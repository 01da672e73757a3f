/- Contracts: the document's own answer for a byte's place; the program is alive. -/
import Derived.Test.YtnjnpfdhjgjdmaaSrcPlace
import Derived.Below
namespace Go.Proofs.Ytnjnpfdhjgjdmaa
open Go.RowKit

/-- The line and the column in front of byte k, as the loop holds them. -/
def placeAt (s : ByteArray) (k : Nat) : Obj := .cells #[.int .i64 (1 + (nls s k : Int)), .int .i64 ((k : Int) - lix s k)] 32

set_option maxHeartbeats 1000000 in
theorem refPlace_any (s : ByteArray) (n : Nat) (w : World) (hn : n ≤ s.size) (hs : s.size < 4611686018427387904) :
    Calls Try.prog 15 #[.string s, .int .i64 n] w fun e w' => e = .returned (.agg #[.int .i64 (1 + (nls s n : Int)), .int .i64 ((n : Int) - lix s n)]) ∧ Below w.heap.size w w' := by
  go_enter Try.func15, Try.ntmps15
  go_wp2_with fail
  go_loopw [6] (fun i wr => ∃ k : Nat, k ≤ n ∧ i = .int .i64 k ∧ ∃ l c : Int, Hid (l = 1 + (nls s k : Int)) ∧ Hid (c = (k : Int) - lix s k) ∧ 1 ≤ l ∧ l ≤ k + 1 ∧ 1 ≤ c ∧ c ≤ k + 1 ∧ wr = (w.alloc (.cells #[.int .i64 0, .int .i64 0] 32)).alloc (.cells #[.int .i64 l, .int .i64 c] 32)) (fun i _ => n - (intOf i).toNat)
  case atStart => exact ⟨0, Nat.zero_le _, rfl, 1, 1, Lib.hid (by rw [nls_zero]; rfl), Lib.hid (by rw [lix_zero]; rfl), by omega, by omega, by omega, by omega, rfl⟩
  case round =>
    obtain ⟨k, hk, rfl, l, c, hl, hc, l1, l2, c1, c2, rfl⟩ := hrel
    by_cases hlt : k < n
    · have hks : k < s.size := by omega
      have hb := byteAt_eq hks
      have hns := nls_succ hks
      have hls := lix_succ hks
      by_cases h10 : byteAt s k = 10
      · rw [if_pos h10] at hns hls
        rw [hb] at h10
        have Hns := Lib.hid hns
        have Hls := Lib.hid hls
        have h2 : ((s[k].toNat : Int) == 10) = true := by simpa using h10
        have H10 := Lib.hid h10
        have Hb := Lib.hid hb
        clear hns hls hb h10
        go_wp2_with fail
        go_roundw
        case rel => exact ⟨k + 1, by omega, by go_num, l + 1, 1, Lib.hid (by rw [hl.out, Hns.out]; omega), Lib.hid (by rw [Hls.out]; omega), by omega, by omega, by omega, by omega, rfl⟩
        case measure => simp [intOf]; omega
      · rw [if_neg h10] at hns hls
        rw [hb] at h10
        have Hns := Lib.hid hns
        have Hls := Lib.hid hls
        have h2 : ((s[k].toNat : Int) == 10) = false := by simpa using h10
        have Hb := Lib.hid hb
        clear hns hls hb
        go_wp2_with fail
        go_roundw
        case rel => exact ⟨k + 1, by omega, by go_num, l, c + 1, Lib.hid (by rw [hl.out, Hns.out]; omega), Lib.hid (by rw [Hls.out, hc.out]; omega), by omega, by omega, by omega, by omega, rfl⟩
        case measure => simp [intOf]; omega
    · have : k = n := by omega
      subst this
      go_wp2_with fail
      refine bodyPost_ret (v := .agg #[.int .i64 l, .int .i64 c]) (by simp [results, Try.results15, go_sem]) rfl ⟨by rw [hl.out, hc.out], ?_⟩
      exact ((Below.refl _ _).alloc (Nat.le_refl _) _).alloc (by simp) _

set_option maxHeartbeats 400000 in
theorem alive_any (w : World) :
    Calls Try.prog 7 #[] w fun e w' => e = .returned (.bool true) ∧ w = w' := by
  have e1 : nls ⟨#[97, 10, 98, 99]⟩ 3 = 1 := by decide
  have e2 : lix ⟨#[97, 10, 98, 99]⟩ 3 = 1 := by decide
  have e3 : pubB ⟨#[65, 98]⟩ = true := by decide
  have e4 : letB 95 = true := by decide
  have h1 := place_yes ⟨#[97, 10, 98, 99]⟩ 3 w (by decide) (by decide)
  rw [e1, e2] at h1
  have h2 := public_any ⟨#[65, 98]⟩ w (by decide)
  rw [e3] at h2
  have h3 := letter_any 95 w
  rw [e4] at h3
  have H1 := Lib.hid h1
  have H2 := Lib.hid h2
  have H3 := Lib.hid h3
  clear h1 h2 h3 e1 e2 e3 e4
  go_enter Try.func7, Try.ntmps7
  go_wp2_with fail
  refine H1.out.mono ?_
  rintro e w' ⟨rfl, rfl⟩
  go_wp2_with fail
  refine H2.out.mono ?_
  rintro e w' ⟨rfl, rfl⟩
  go_wp2_with fail
  refine H3.out.mono ?_
  rintro e w' ⟨rfl, rfl⟩
  go_wp2_with fail
  go_ret
  exact ⟨rfl, rfl⟩
end Go.Proofs.Ytnjnpfdhjgjdmaa
