/- The law of texts put together: for every two texts and two places the law answers true. -/
import Derived.Test.YtnjnpfdhjgjdmaaSrcCutsMath
import Derived.Deep.DeepCutAuto
import Derived.Laws.Concat
namespace Go.Proofs.Ytnjnpfdhjgjdmaa
open Go.RowKit

/-- What Check's two results say of a text: the place and the error. -/
def ChkAs (s : ByteArray) (a e : Int) : Prop := chk s = .tuple #[.int .i64 a, .int .i64 e]

theorem chk_cases (s : ByteArray) : (spoil s = -1 ∧ ChkAs s 0 0) ∨ ∃ k : Nat, k < s.size ∧ spoil s = k ∧ ChkAs s k 12 := by
  obtain ⟨b1, b2⟩ := spoil_bounds s s.size 0
  by_cases h : spoil s = -1
  · exact .inl ⟨h, chk_ok h⟩
  · have b1' : -1 ≤ spoil s := b1
    have b2' : spoil s < s.size := b2
    obtain ⟨k, hk⟩ : ∃ k : Nat, spoil s = k := ⟨(spoil s).toNat, by omega⟩
    exact .inr ⟨k, by omega, hk, chk_bad hk⟩

/-- What is asked of the three answers. -/
def CutsOk (n a e b f c g : Int) : Prop :=
  (e = 0 → f = 0 → g = 0 ∧ c = 0) ∧ (e = 0 → f = 12 → g = 12 ∧ c = n + b) ∧ (e = 12 → g = 0 → n < a + 4)

theorem cuts_ok (s t : ByteArray) : ∃ a e b f c g : Int, ChkAs s a e ∧ ChkAs t b f ∧ ChkAs (s ++ t) c g ∧ CutsOk s.size a e b f c g ∧ (e = 0 ∨ e = 12) ∧ (f = 0 ∨ f = 12) ∧ (g = 0 ∨ g = 12) ∧ 0 ≤ a ∧ a ≤ s.size ∧ 0 ≤ b ∧ b ≤ t.size := by
  have e1 : spoil s = -1 → spoil t = -1 → spoil (s ++ t) = -1 := fun a b => by rw [spoil_both s t a, b]; rfl
  have e2 : ∀ y : Nat, spoil s = -1 → spoil t = y → spoil (s ++ t) = s.size + y := fun y a b => by
    rw [spoil_both s t a, b, shiftBy, if_neg (by omega)]
  have e3 : ∀ x : Nat, spoil s = x → spoil (s ++ t) = -1 → s.size < x + 4 := fun x a b => by
    by_cases h : x + 4 ≤ s.size
    · have := spoil_stays s t x a h; omega
    · omega
  rcases chk_cases s with ⟨h1, k1⟩ | ⟨x, x1, h1, k1⟩ <;> rcases chk_cases t with ⟨h2, k2⟩ | ⟨y, y1, h2, k2⟩ <;> rcases chk_cases (s ++ t) with ⟨h3, k3⟩ | ⟨z, z1, h3, k3⟩
  all_goals
    refine ⟨_, _, _, _, _, _, k1, k2, k3, ⟨fun e f => ?_, fun e f => ?_, fun e g => ?_⟩, by omega, by omega, by omega, by omega, by omega, by omega, by omega⟩
  all_goals first | omega | (have := e1 h1 h2; omega) | (have := e2 _ h1 h2; omega) | (have := e3 _ h1 h3; omega)

set_option maxHeartbeats 400000 in
theorem check_as (s : ByteArray) (a e : Int) (w : World) (hs : s.size ≤ 4000) (h : ChkAs s a e) :
    Calls Try.prog 6 #[.string s] w fun x w' => x = .returned (.tuple #[.int .i64 a, .int .i64 e]) ∧ Below w.heap.size w w' :=
  (check_few s w hs).mono fun _ _ ⟨hx, hb⟩ => ⟨by rw [hx, h], hb⟩

/-- What the law asks of two places of one text. -/
theorem rises (s : ByteArray) (i k : Nat) (h : i < k) (hk : k ≤ s.size) : 1 + (nls s i : Int) < 1 + (nls s k : Int) ∨ (1 + (nls s i : Int) = 1 + (nls s k : Int) ∧ (i : Int) - lix s i < (k : Int) - lix s k) := by
  rcases place_rises s i k h hk with h1 | ⟨h1, h2⟩
  · exact .inl (by omega)
  · exact .inr ⟨by omega, by omega⟩

theorem two_places (s : ByteArray) (i k : Nat) (h : i < k) (hk : k ≤ s.size) (hs : s.size < 4611686018427387904) : ∃ l m n o : Int,
    (∀ w, Calls Try.prog 9 #[.string s, .int .i64 i] w fun e w' => e = .returned (.tuple #[.int .i64 l, .int .i64 m, .int .i64 0]) ∧ w = w') ∧
    (∀ w, Calls Try.prog 9 #[.string s, .int .i64 k] w fun e w' => e = .returned (.tuple #[.int .i64 n, .int .i64 o, .int .i64 0]) ∧ w = w') ∧
    (l < n ∨ (l = n ∧ m < o)) :=
  ⟨_, _, _, _, fun w => place_yes s i w (by omega) hs, fun w => place_yes s k w hk hs, rises s i k h hk⟩

set_option maxHeartbeats 4000000 in
set_option maxRecDepth 100000 in
theorem cuts_walk (s0 t0 : ByteArray) (i k : Int) (w : World) (hs : s0.size ≤ 9223372036854775807) (ht : t0.size ≤ 9223372036854775807) (hi0 : -9223372036854775808 ≤ i) (hi1 : i ≤ 9223372036854775807) (hk0 : -9223372036854775808 ≤ k) (hk1 : k ≤ 9223372036854775807) :
    Calls Try.prog 5 #[.string s0, .string t0, .int .i64 i, .int .i64 k] w fun e w' => e = .returned (.bool true) ∧ Below w.heap.size w w' := by
  go_enter Try.func5, Try.ntmps5
  go_upto_region 1 with fail
  go_cut [0, 1] (fun v0 v1 wx => ∃ s t : ByteArray, v0 = .string s ∧ v1 = .string t ∧ s.size ≤ 1000 ∧ t.size ≤ 1000 ∧ Below w.heap.size w wx)
  case first =>
    go_quiet (fail)
    all_goals go_wp2_with fail
    all_goals go_meet
    all_goals exact ⟨_, _, rfl, rfl, by first | omega | (simp; try omega), by first | omega | (simp; try omega), below_drewN (Below.refl _ _) _⟩
  case rest =>
    obtain ⟨s, t, rfl, rfl, hs1, ht1, hb⟩ := hcut
    clear hs ht
    have hst : (s ++ t).size ≤ 2000 := by simp; omega
    have hs2 : s.size < 4611686018427387904 := by omega
    obtain ⟨a, e, b, f, c, g, k1, k2, k3, hok, he, hf, hg, ha0, ha1, hb0, hb1⟩ := cuts_ok s t
    have Hok := Lib.hid hok
    clear hok
    go_wp2_with fail
    refine (check_as s a e _ (by omega) k1).mono ?_
    rintro x w1 ⟨rfl, q1⟩
    have r1 := hb.trans (q1.mono hb.size)
    go_wp2_with fail
    refine (check_as t b f _ (by omega) k2).mono ?_
    rintro x w2 ⟨rfl, q2⟩
    have r2 := r1.trans (q2.mono r1.size)
    go_wp2_with fail
    refine (check_as (s ++ t) c g _ (by omega) k3).mono ?_
    rintro x w3 ⟨rfl, q3⟩
    have r3 := r2.trans (q3.mono r2.size)
    clear q1 q2 q3 r1 r2 hb
    obtain ⟨o1, o2, o3⟩ := Hok.out
    by_cases hik : i < 0 ∨ k ≤ i ∨ (s.size : Int) < k
    · rcases he with rfl | rfl <;> rcases hf with rfl | rfl <;> rcases hg with rfl | rfl
      all_goals first
        | (exfalso; have := o1 rfl rfl; omega)
        | (exfalso; have := o2 rfl rfl; omega)
        | (obtain ⟨_, rfl⟩ := o1 rfl rfl; clear o1 o2 o3 Hok)
        | (obtain ⟨_, rfl⟩ := o2 rfl rfl; clear o1 o2 o3 Hok)
        | (have o4 := o3 rfl rfl; clear o1 o2 o3 Hok)
        | (clear o1 o2 o3 Hok)
      all_goals
        go_wp2_with (go_at_call 7; refine (alive_any _).mono ?_; rintro e w' ⟨rfl, rfl⟩)
        all_goals
          go_ret
          exact ⟨rfl, r3⟩
    · obtain ⟨i, rfl⟩ := Int.eq_ofNat_of_zero_le (show 0 ≤ i by omega)
      obtain ⟨k, rfl⟩ := Int.eq_ofNat_of_zero_le (show 0 ≤ k by omega)
      have hik1 : i < k := by omega
      have hik2 : k ≤ s.size := by omega
      have hik3 : ¬ (k : Int) ≤ i := by omega
      clear hik
      obtain ⟨l, m, n, o, p1, p2, hr⟩ := two_places s i k hik1 hik2 hs2
      have P1 := Lib.hid p1
      have P2 := Lib.hid p2
      clear p1 p2
      rcases he with rfl | rfl <;> rcases hf with rfl | rfl <;> rcases hg with rfl | rfl
      all_goals first
        | (exfalso; have := o1 rfl rfl; omega)
        | (exfalso; have := o2 rfl rfl; omega)
        | (obtain ⟨_, rfl⟩ := o1 rfl rfl; clear o1 o2 o3 Hok)
        | (obtain ⟨_, rfl⟩ := o2 rfl rfl; clear o1 o2 o3 Hok)
        | (have o4 := o3 rfl rfl; clear o1 o2 o3 Hok)
        | (clear o1 o2 o3 Hok)
      all_goals
        go_wp2_with fail
        refine (P1.out _).mono ?_
        rintro x w4 ⟨rfl, rfl⟩
        go_wp2_with fail
        refine (P2.out _).mono ?_
        rintro x w4 ⟨rfl, rfl⟩
        rcases hr with hr | ⟨rfl, hr⟩
        all_goals
          go_wp2_with (go_at_call 7; refine (alive_any _).mono ?_; rintro e w' ⟨rfl, rfl⟩)
          go_ret
          exact ⟨rfl, r3⟩
end Go.Proofs.Ytnjnpfdhjgjdmaa
