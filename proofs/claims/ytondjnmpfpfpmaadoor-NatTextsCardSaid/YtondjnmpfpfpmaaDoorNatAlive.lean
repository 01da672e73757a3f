/- The law's own guard: alive. -/
import Derived.Test.YtondjnmpfpfpmaaDoorNatText
namespace Go.Proofs.YtondjnmpfpfpmaaDoor
open Go.RowKit NM

theorem dv_same : ∀ {ds es : List Int}, Digs ds → Digs es → ds.length = es.length → dv ds = dv es → ds = es
  | [], [], _, _, _, _ => rfl
  | [], e :: es, _, _, h, _ => by simp at h
  | d :: ds, [], _, _, h, _ => by simp at h
  | d :: ds, e :: es, hd, he, hl, hv => by
    have h1 := hd d (List.mem_cons_self ..)
    have h2 := he e (List.mem_cons_self ..)
    rw [dv, dv] at hv
    have h3 : d = e := by omega
    have h4 := dv_same (fun x hx => hd x (List.mem_cons_of_mem _ hx)) (fun x hx => he x (List.mem_cons_of_mem _ hx)) (by simpa using hl) (show dv ds = dv es by omega)
    rw [h3, h4]
theorem ten_inv {a b : Nat} (h : (10 : Int) ^ a < 10 ^ b) : a < b := by
  rcases Nat.lt_or_ge a b with h1 | h1
  · exact h1
  · have := ten_le h1; omega
theorem dec_len {ds es : List Int} {N : Int} (h : Dec ds N) (k : Dec es N) : ds.length ≤ es.length := by
  obtain ⟨_, _, h3⟩ := h
  obtain ⟨k1, k2, k3⟩ := k
  have hr := dv_range k1
  rcases h3 with ⟨rfl, rfl⟩ | ⟨h0, h3⟩
  · rcases k3 with ⟨_, rfl⟩ | ⟨k0, _⟩
    · exact Nat.le_refl _
    · simp only [List.length_singleton]; omega
  · have := ten_inv (show (10 : Int) ^ (ds.length - 1) < 10 ^ es.length by omega)
    omega
/-- A number's digits are these and no others. -/
theorem dec_same {ds es : List Int} {N : Int} (h : Dec ds N) (k : Dec es N) : ds = es :=
  dv_same h.1 k.1 (Nat.le_antisymm (dec_len h k) (dec_len k h)) (h.2.1.trans k.2.1.symm)
theorem DecStr.same {s t : ByteArray} {N : Int} (h : DecStr s N) (k : DecStr t N) : s = t := by
  obtain ⟨ds, h1, rfl⟩ := h
  obtain ⟨es, h2, rfl⟩ := k
  rw [dec_same h1 h2]

def aliveText : ByteArray := ⟨#[49, 48, 48, 48, 48, 48, 48, 48, 48, 48, 48]⟩
theorem alive_parse (w : World) (hB : Bases w) :
    Calls Tryd.prog 28 #[.string aliveText, .int .i64 16] w fun e w' => (∃ v, e = .returned (.tuple #[v, .int .i64 0]) ∧ Num w' v 1099511627776) ∧ Below w.heap.size w w' := by
  refine (parse_any aliveText 16 w hB (by decide)).mono ?_
  rintro e w' ⟨h, hb⟩
  refine ⟨?_, hb⟩
  have h1 : baseB 16 = true := by decide
  have h2 : toldB aliveText 16 = true := by decide +kernel
  have h3 : pv aliveText 16 aliveText.size = 1099511627776 := by decide +kernel
  rcases h with ⟨h, _⟩ | ⟨_, h, _⟩ | ⟨_, _, h⟩
  · rw [h1] at h; cases h
  · rw [h2] at h; cases h
  · rw [h3] at h
    rcases h with ⟨_, v, he, hn⟩ | ⟨h, _⟩
    · exact ⟨v, he, hn⟩
    · have : (1099511627776 : Int) < pw 16 := by decide +kernel
      omega

theorem alive_dec : Dec [7, 7, 7, 2, 6, 1, 1, 5, 9, 9, 0, 1] 109951162777 := ⟨by unfold Digs; decide, by decide, .inr ⟨by decide, by decide⟩⟩
theorem alive_str : DecStr ⟨#[49, 48, 57, 57, 53, 49, 49, 54, 50, 55, 55, 55]⟩ 109951162777 := ⟨_, alive_dec, by decide +kernel⟩

set_option maxHeartbeats 1600000 in
set_option maxRecDepth 100000 in
theorem alive_any (w : World) (hB : Bases w) :
    Calls Tryd.prog 15 #[] w fun e w' => e = .returned (.bool true) ∧ Below w.heap.size w w' := by
  have P := alive_parse w hB
  unfold aliveText at P
  have HP := Lib.hid P
  clear P
  go_enter Tryd.func15, Tryd.ntmps15
  go_wp2_with fail
  refine HP.out.mono ?_
  rintro e w1 ⟨⟨a, rfl, ha⟩, b1⟩
  clear HP
  go_wp2_with fail
  refine (of_num 10 w1 (by omega) (by omega)).mono ?_
  rintro e w2 ⟨⟨t, rfl, ht⟩, b2⟩
  go_wp2_with fail
  refine (div_num a t 1099511627776 10 w2 (ha.below b2) ht (by omega)).mono ?_
  rintro e w3 ⟨⟨q, r, rfl, hq, hr⟩, b3⟩
  have hq' : Num w3 q 109951162777 := hq
  have hr' : Num w3 r 6 := hr
  go_wp2_with fail
  refine (text_num q 109951162777 w3 hq').mono ?_
  rintro e w4 ⟨⟨s, rfl, hs⟩, b4⟩
  obtain rfl := hs.same alive_str
  have hr4 := hr'.below b4
  obtain ⟨ao, n, ca, rfl, _, n0, n1, n2⟩ := hr4.len
  have hn : n = 1 := by
    rcases Nat.lt_or_ge n 2 with h | h
    · rcases Nat.eq_zero_or_pos n with h | h
      · have := n0.1 h; omega
      · omega
    · have := n2 h; omega
  subst hn
  obtain ⟨b, off, rfl, hc, _⟩ := n1 rfl
  have Hb := Lib.hid (((b1.trans (b2.mono b1.size)).trans (b3.mono (Nat.le_trans b1.size b2.size))).trans (b4.mono (Nat.le_trans (Nat.le_trans b1.size b2.size) b3.size)))
  clear n0 n1 n2 hs hr hr' hr4 hq hq' ha ht b1 b2 b3 b4 hB
  go_wp2_with fail
  go_ret
  exact ⟨rfl, Hb.out⟩
end Go.Proofs.YtondjnmpfpfpmaaDoor
