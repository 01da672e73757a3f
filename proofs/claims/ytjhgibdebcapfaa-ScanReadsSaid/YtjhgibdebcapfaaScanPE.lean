/- The program's comment, whole. -/
import Derived.Test.YtjhgibdebcapfaaScanPD
namespace Go.Proofs.Ytjhgibdebcapfaa
open Go.RowKit
set_option linter.unusedSimpArgs false
set_option linter.unusedVariables false

theorem pcomment_any (w : World) (B pb : Nat) (s : ByteArray) (i : Nat) (l : List Tk) (h : PS w B pb s i l) (hg : GoodL l) (hM : MaxAt w) (hs : s.size ≤ 4010) (hi : i < s.size) (hl : l.length ≤ 20000) (h0 : byteAt s i = 47) :
    Calls Try.prog 21 #[ptr pb] w fun en w' => en = .returned (.tuple #[.bool (decide ((skipT s i).err = 0 ∧ i < (skipT s i).stop)), .int .i64 (skipT s i).err]) ∧
      ((skipT s i).err = 0 → PS w' B pb s (skipT s i).stop (lineT (skipT s i).line i l)) ∧ ((skipT s i).err ≠ 0 → PS w' B pb s i l) ∧ Below B w w' := by
  by_cases h1 : byteAt s (i + 1) = 47
  · have hk := skip_line2 h0 h1
    have hlt : i < run (fun k => !decide (byteAt s k = 10)) s.size (i + 2) := Nat.lt_of_lt_of_le (by omega) le_run
    refine (pcomment_line w B pb s i _ l h hs hi h0 h1 rfl).mono ?_
    rintro en w' ⟨rfl, hp, hb⟩
    rw [hk]
    refine ⟨?_, fun _ => by rw [lineT_no]; exact hp, fun hh => absurd rfl hh, hb⟩
    rw [decide_eq_true ⟨rfl, hlt⟩]
  by_cases h2 : byteAt s (i + 1) = 42
  · have hk := skip_com (e := run (comC s) s.size (i + 2)) h0 h2 rfl
    refine (pcomment_block w B pb s i l h hg hM hs hi hl h0 h2).mono ?_
    rintro en w' ⟨⟨ha, rfl, hp⟩ | ⟨ha, rfl, hp⟩, hb⟩
    · rw [if_pos ha] at hk
      rw [hk]
      refine ⟨?_, fun hh => absurd hh (by decide), fun _ => hp, hb⟩
      rw [decide_eq_false (fun hh => absurd hh.1 (by decide))]
    · have hlt : i < run (comC s) s.size (i + 2) + 2 := Nat.lt_of_lt_of_le (by omega) (Nat.le_trans (le_run (p := comC s) (n := s.size) (i := i + 2)) (Nat.le_add_right _ 2))
      rw [if_neg (by omega)] at hk
      rw [hk]
      refine ⟨?_, fun _ => hp, fun hh => absurd rfl hh, hb⟩
      rw [decide_eq_true ⟨rfl, hlt⟩]
  · have hk := skip_slash h0 h1 h2
    refine (pcomment_not w B pb s i l h hs hi h1 h2).mono ?_
    rintro en w' ⟨rfl, hp, hb⟩
    rw [hk]
    refine ⟨?_, fun _ => by rw [lineT_no]; exact hp, fun hh => absurd rfl hh, hb⟩
    rw [decide_eq_false (fun hh => Nat.lt_irrefl _ hh.2)]
end Go.Proofs.Ytjhgibdebcapfaa
