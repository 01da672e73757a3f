/- Where the search for the nearest ends, and Bits: the same. -/
import Derived.Test.YtlkadnaoacoicaaRoundNearW
import Derived.Test.YtlkadnaoacoicaaRoundOrd
namespace Go.Proofs.Ytlkadnaoacoicaa
open Go.RowKit NM

theorem top_le {N D mant least E : Nat} {L : Int} (hm : 0 < mant) (hE : 2 ≤ E) (hD : 0 < D) (l : IsLog N D L) (h : vn (E * 2 ^ (mant - 1)) mant least * D ≤ N * vd (E * 2 ^ (mant - 1)) mant least) : E * 2 ^ (mant - 1) ≤ bitv N D L mant least := by
  have p0 : 0 < 2 ^ (mant - 1) := Nat.pow_pos (by decide)
  have d1 : E * 2 ^ (mant - 1) / 2 ^ (mant - 1) = E := Nat.mul_div_cancel _ p0
  have d2 : E * 2 ^ (mant - 1) % 2 ^ (mant - 1) = 0 := Nat.mul_mod_left _ _
  have e1 : fman (E * 2 ^ (mant - 1)) mant = 2 ^ (mant - 1) := by unfold fman; rw [d1, d2, if_neg (by omega), Nat.zero_add]
  have e2 : fexp (E * 2 ^ (mant - 1)) mant least = (E : Int) - 1 - least := by unfold fexp; rw [d1, if_neg (by omega)]
  unfold vn vd at h
  rw [e1, e2] at h
  have hL : ¬ (L + 1 ≤ (E : Int) - 1 - least + (mant - 1 : Nat)) := fun hk => by
    have h1 := log_hi (log_later l.hi hk)
    have h2 : 2 ^ (mant - 1) * up ((E : Int) - 1 - least) * D = 2 ^ (mant - 1) * (D * up ((E : Int) - 1 - least)) := by rw [Nat.mul_assoc, Nat.mul_comm D]
    omega
  have hl : lead L mant least = max (L - mant + 1) (-(least : Int)) := rfl
  have hlead : (E : Int) - 1 - least ≤ lead L mant least := by omega
  obtain ⟨_, _, f3⟩ := lead_facts (least := least) hm hD l
  have hr := f3 (by omega)
  unfold bitv
  have h1 : (E - 1) * 2 ^ (mant - 1) ≤ (lead L mant least + least).toNat * 2 ^ (mant - 1) := Nat.mul_le_mul_right _ (by omega)
  have h2 : E * 2 ^ (mant - 1) = (E - 1) * 2 ^ (mant - 1) + 2 ^ (mant - 1) := by
    rw [← Nat.succ_mul]
    congr 1
    omega
  omega
/-- What both answer, side by side. -/
def Meet (x : Rat) (T S : Nat) (e1 e2 : Ending) : Prop :=
  ∃ (wb b : Nat) (we ex : Bool) (k : Int), e1 = .returned (.agg #[.int .u64 wb, .bool we]) ∧ e2 = .returned (.tuple #[.int .u64 b, .bool ex, .int .i64 k]) ∧
    ((wb = T ∧ b = 0 ∧ ex = false ∧ k = 2) ∨ (wb < T ∧ k = 0 ∧ b = wb + (if x.num < 0 ∧ wb ≠ 0 then S else 0) ∧ ex = we))
theorem bits_any3 {size : Int} {S H E mant least : Nat} (F : Form3 size S H E mant least) (v : Value) (x : Rat) (w : World) (h : RatN w v x) (hx : 0 < x.num.natAbs) :
    Calls Try.prog 6 #[v, .int .i64 size] w fun e w' => BitsPost x mant least (E * H) S e ∧ Below w.heap.size w w' := by
  rcases F with ⟨rfl, rfl, rfl, rfl, rfl, rfl⟩ | ⟨rfl, rfl, rfl, rfl, rfl, rfl⟩
  · exact bits32_num v x w h hx
  · exact bits64_num v x w h hx
theorem down_pos {N D mant least lo : Nat} (h : NearEnds N D mant least lo) (hn : nearer N D mant least lo = 1) : N * vd lo mant least - vn lo mant least * D ≠ 0 := by
  intro h0
  have h1 := h.high
  have h2 : 0 < vn (lo + 1) mant least * D - N * vd (lo + 1) mant least := by omega
  have h3 := Nat.mul_pos h2 (vd_pos lo mant least)
  unfold nearer at hn
  rw [h0, Nat.zero_mul, if_neg (by omega)] at hn
  omega
theorem near_meets {size : Int} {S H E mant least : Nat} (F : Form3 size S H E mant least) {x : Rat} {e1 e2 : Ending} (h1 : NearPost x.num.natAbs x.den E H mant least e1)
    (h2 : (0 < x.num.natAbs ∧ BitsPost x mant least (E * H) S e2) ∨ (x = 0 ∧ e2 = .returned (.tuple #[.int .u64 0, .bool true, .int .i64 0]))) : Meet x (E * H) S e1 e2 := by
  obtain ⟨hm, hH, hEH, hH0, hS0, hS2, hE0⟩ := F.facts
  have hd := den_pos x
  have hm1 : 1 < mant ∧ 2 ≤ E := by rcases F with ⟨rfl, rfl, rfl, rfl, rfl, rfl⟩ | ⟨rfl, rfl, rfl, rfl, rfl, rfl⟩ <;> decide
  rcases h2 with ⟨hx, L, hL, hk⟩ | ⟨rfl, rfl⟩
  · rcases h1 with ⟨ht, rfl⟩ | ⟨lo, hlo, hends, hw⟩
    · have hb : E * H ≤ bitv x.num.natAbs x.den L mant least := by
        rw [hH] at ht ⊢
        exact top_le hm hm1.2 hd hL ht
      rcases hk with ⟨hk, _⟩ | ⟨_, rfl⟩
      · omega
      · exact ⟨_, 0, _, _, _, rfl, rfl, .inl ⟨rfl, rfl, rfl, rfl⟩⟩
    · obtain ⟨hb, hex⟩ := hends.bits hm1.1 hd hL
      rcases hw with ⟨hn, rfl⟩ | ⟨hn, rfl⟩
      · rw [hn] at hb
        rcases hk with ⟨hk, rfl⟩ | ⟨hk, rfl⟩
        · have hz : exactv x.num.natAbs x.den L mant least = false := by
            rw [← Bool.not_eq_true, hex]
            exact down_pos hends hn
          refine ⟨_, lo + 1 + (if x.num < 0 ∧ lo + 1 ≠ 0 then S else 0), _, _, _, rfl, ?_, .inr ⟨by omega, rfl, rfl, hz⟩⟩
          rw [hb]
          refine ret3_same ?_
          by_cases hc : x.num < 0
          · rw [if_pos ⟨decide_eq_true hc, by omega⟩, if_pos ⟨hc, by omega⟩]
            omega
          · rw [if_neg (fun h => hc (of_decide_eq_true h.1)), if_neg (fun h => hc h.1)]
            omega
        · refine ⟨_, 0, _, _, _, rfl, rfl, .inl ⟨by omega, rfl, rfl, rfl⟩⟩
      · rw [hn, Nat.add_zero] at hb
        rcases hk with ⟨hk, rfl⟩ | ⟨hk, rfl⟩
        · have hz : exactv x.num.natAbs x.den L mant least = decide (x.num.natAbs * vd lo mant least - vn lo mant least * x.den = 0) := by
            rw [Bool.eq_iff_iff, hex, decide_eq_true_iff]
          refine ⟨_, lo + (if x.num < 0 ∧ lo ≠ 0 then S else 0), _, _, _, rfl, ?_, .inr ⟨by omega, rfl, rfl, hz⟩⟩
          rw [hb]
          refine ret3_same ?_
          by_cases hc : x.num < 0 ∧ lo ≠ 0
          · rw [if_pos ⟨decide_eq_true hc.1, hc.2⟩, if_pos hc]
            omega
          · rw [if_neg (fun h => hc ⟨of_decide_eq_true h.1, h.2⟩), if_neg hc]
            omega
        · omega
  · rcases h1 with ⟨ht, rfl⟩ | ⟨lo, hlo, hends, hw⟩
    · exfalso
      have h3 : 0 < vn (E * H) mant least := Nat.mul_pos (fman_pos (Nat.mul_pos hE0 hH0)) (up_pos _)
      have h4 : vn (E * H) mant least * (0 : Rat).den ≤ 0 := by
        have : (0 : Rat).num.natAbs = 0 := rfl
        rw [this, Nat.zero_mul] at ht
        exact ht
      have := Nat.mul_pos h3 hd
      omega
    · have h0 : (0 : Rat).num.natAbs = 0 := rfl
      have hl0 : lo = 0 := by
        rcases Nat.eq_zero_or_pos lo with h | h
        · exact h
        · exfalso
          have h3 : 0 < vn lo mant least := Nat.mul_pos (fman_pos h) (up_pos _)
          have h4 := hends.low
          rw [h0, Nat.zero_mul] at h4
          have := Nat.mul_pos h3 hd
          omega
      subst hl0
      rcases hw with ⟨hn, rfl⟩ | ⟨hn, rfl⟩
      · have := down_pos hends hn
        rw [h0, Nat.zero_mul, Nat.zero_sub] at this
        exact absurd rfl this
      · refine ⟨_, 0, _, _, _, rfl, rfl, .inr ⟨by omega, rfl, ?_, ?_⟩⟩
        · rw [if_neg (fun h => h.2 rfl)]
        · rw [h0, Nat.zero_mul, Nat.zero_sub]
          rfl
end Go.Proofs.Ytlkadnaoacoicaa
