/- The document's answer: Key, Op. -/
import Derived.Test.YtjhgibdebcapfaaScanB
import Derived.Test.YtjhgibdebcapfaaBlock
namespace Go.Proofs.Ytjhgibdebcapfaa
open Go.RowKit
set_option linter.unusedSimpArgs false
set_option linter.unusedVariables false

theorem box_new {w w1 : World} {xs : Array Value} {T : TypeId} (h : w.alloc (.cells xs T) = w1) : BlockAt w1 w.heap.size xs T ∧ Below w.heap.size w w1 ∧ w1.heap.size = w.heap.size + 1 := by
  subst h
  exact ⟨BlockAt.new _ _ _, (Below.refl _ _).alloc (Nat.le_refl _) _, by simp⟩
theorem any_no {p : ByteArray → Bool} : ∀ (l : List ByteArray), (∀ j (h : j < l.length), p l[j] = false) → l.any p = false
  | [], _ => rfl
  | a :: r, h => by
    rw [List.any_cons, show p a = false from h 0 (Nat.succ_pos _), any_no r (fun j hj => h (j + 1) (Nat.succ_lt_succ hj))]
    rfl
def keysA : Array Value := #[.string ⟨#[98, 114, 101, 97, 107]⟩, .string ⟨#[99, 97, 115, 101]⟩, .string ⟨#[99, 104, 97, 110]⟩, .string ⟨#[99, 111, 110, 115, 116]⟩, .string ⟨#[99, 111, 110, 116, 105, 110, 117, 101]⟩, .string ⟨#[100, 101, 102, 97, 117, 108, 116]⟩, .string ⟨#[100, 101, 102, 101, 114]⟩, .string ⟨#[101, 108, 115, 101]⟩, .string ⟨#[102, 97, 108, 108, 116, 104, 114, 111, 117, 103, 104]⟩, .string ⟨#[102, 111, 114]⟩, .string ⟨#[102, 117, 110, 99]⟩, .string ⟨#[103, 111]⟩, .string ⟨#[103, 111, 116, 111]⟩, .string ⟨#[105, 102]⟩, .string ⟨#[105, 109, 112, 111, 114, 116]⟩, .string ⟨#[105, 110, 116, 101, 114, 102, 97, 99, 101]⟩, .string ⟨#[109, 97, 112]⟩, .string ⟨#[112, 97, 99, 107, 97, 103, 101]⟩, .string ⟨#[114, 97, 110, 103, 101]⟩, .string ⟨#[114, 101, 116, 117, 114, 110]⟩, .string ⟨#[115, 101, 108, 101, 99, 116]⟩, .string ⟨#[115, 116, 114, 117, 99, 116]⟩, .string ⟨#[115, 119, 105, 116, 99, 104]⟩, .string ⟨#[116, 121, 112, 101]⟩, .string ⟨#[118, 97, 114]⟩]
theorem keys_len : keys.length = 25 := rfl
theorem keysA_at : ∀ (k : Nat) (h : k < keys.length), keysA[k]? = some (.string keys[k]) := by
  have e : keysA = (keys.map Value.string).toArray := rfl
  intro k h
  rw [e]
  simp
set_option maxHeartbeats 4000000 in
set_option maxRecDepth 100000 in
theorem refkey_any (s : ByteArray) (w : World) :
    Calls Try.prog 9 #[.string s] w fun e w' => e = .returned (.bool (keyB s)) ∧ Below w.heap.size w w' := by
  obtain ⟨w1, hw⟩ : ∃ w1, w.alloc (.cells #[.string ⟨#[98, 114, 101, 97, 107]⟩, .string ⟨#[99, 97, 115, 101]⟩, .string ⟨#[99, 104, 97, 110]⟩, .string ⟨#[99, 111, 110, 115, 116]⟩, .string ⟨#[99, 111, 110, 116, 105, 110, 117, 101]⟩, .string ⟨#[100, 101, 102, 97, 117, 108, 116]⟩, .string ⟨#[100, 101, 102, 101, 114]⟩, .string ⟨#[101, 108, 115, 101]⟩, .string ⟨#[102, 97, 108, 108, 116, 104, 114, 111, 117, 103, 104]⟩, .string ⟨#[102, 111, 114]⟩, .string ⟨#[102, 117, 110, 99]⟩, .string ⟨#[103, 111]⟩, .string ⟨#[103, 111, 116, 111]⟩, .string ⟨#[105, 102]⟩, .string ⟨#[105, 109, 112, 111, 114, 116]⟩, .string ⟨#[105, 110, 116, 101, 114, 102, 97, 99, 101]⟩, .string ⟨#[109, 97, 112]⟩, .string ⟨#[112, 97, 99, 107, 97, 103, 101]⟩, .string ⟨#[114, 97, 110, 103, 101]⟩, .string ⟨#[114, 101, 116, 117, 114, 110]⟩, .string ⟨#[115, 101, 108, 101, 99, 116]⟩, .string ⟨#[115, 116, 114, 117, 99, 116]⟩, .string ⟨#[115, 119, 105, 116, 99, 104]⟩, .string ⟨#[116, 121, 112, 101]⟩, .string ⟨#[118, 97, 114]⟩] 9) = w1 := ⟨_, rfl⟩
  obtain ⟨k1, q1, -⟩ := box_new hw
  have B := Lib.hid q1
  have HC := Lib.hid (fun (k : Nat) (h : k < keys.length) => (k1.cell k).trans (keysA_at k h))
  clear k1 q1
  go_enter Try.func9, Try.ntmps9
  go_wp2_with fail
  clear hw
  go_loop [7] (fun i => ∃ k : Nat, k ≤ keys.length ∧ i = .int .i64 k ∧ Hid (∀ j (hj : j < keys.length), j < k → (s.toList == keys[j].toList) = false)) (fun i => 25 - (intOf i).toNat)
  case atStart => exact ⟨0, Nat.zero_le _, rfl, Lib.hid (fun j _ hj => absurd hj (Nat.not_lt_zero _))⟩
  case round =>
    obtain ⟨k, hk, rfl, Hok⟩ := hrel
    rw [keys_len] at hk
    by_cases hlt : k < 25
    · have hck := HC.out k (by rw [keys_len]; exact hlt)
      obtain ⟨t, ht⟩ : ∃ t, keys[k]'(by rw [keys_len]; exact hlt) = t := ⟨_, rfl⟩
      rw [ht] at hck
      have HT := Lib.hid ht
      clear ht
      cases he : (t.toList == s.toList)
      · have Hnx := Lib.hid (show ∀ j (hj : j < keys.length), j < k + 1 → (s.toList == keys[j].toList) = false from fun j hj hjk => by
          rcases Nat.lt_or_eq_of_le (Nat.le_of_lt_succ hjk) with h1 | h1
          · exact Hok.out j hj h1
          · subst h1; rw [HT.out, Bool.beq_comm]; exact he)
        go_wp2_with fail
        go_round
        case rel => exact ⟨k + 1, by rw [keys_len]; omega, by go_num, Hnx⟩
        case measure => simp [intOf]; omega
      · have Hr := Lib.hid (show keyB s = true by
          unfold keyB
          rw [List.any_eq_true]
          exact ⟨t, by rw [← HT.out]; exact List.getElem_mem _, by rw [Bool.beq_comm]; exact he⟩)
        go_wp2_with fail
        go_ret
        exact ⟨ret_bool Hr.out.symm, B.out⟩
    · obtain rfl : k = 25 := by omega
      have Hr := Lib.hid (show keyB s = false by
        unfold keyB
        exact any_no _ (fun j hj => Hok.out j hj hj))
      go_wp2_with fail
      go_ret
      exact ⟨ret_bool Hr.out.symm, B.out⟩
def opersA : Array Value := #[.string ⟨#[43]⟩, .string ⟨#[45]⟩, .string ⟨#[42]⟩, .string ⟨#[47]⟩, .string ⟨#[37]⟩, .string ⟨#[38]⟩, .string ⟨#[124]⟩, .string ⟨#[94]⟩, .string ⟨#[60, 60]⟩, .string ⟨#[62, 62]⟩, .string ⟨#[38, 38]⟩, .string ⟨#[124, 124]⟩, .string ⟨#[61, 61]⟩, .string ⟨#[33, 61]⟩, .string ⟨#[60]⟩, .string ⟨#[60, 61]⟩, .string ⟨#[62]⟩, .string ⟨#[62, 61]⟩, .string ⟨#[33]⟩, .string ⟨#[40]⟩, .string ⟨#[41]⟩, .string ⟨#[91]⟩, .string ⟨#[93]⟩, .string ⟨#[123]⟩, .string ⟨#[125]⟩, .string ⟨#[44]⟩, .string ⟨#[46]⟩, .string ⟨#[59]⟩, .string ⟨#[61]⟩, .string ⟨#[58, 61]⟩, .string ⟨#[58]⟩, .string ⟨#[126]⟩, .string ⟨#[46, 46, 46]⟩]
theorem opers_len : opers.length = 33 := rfl
theorem opersA_at : ∀ (k : Nat) (h : k < opers.length), opersA[k]? = some (.string opers[k]) := by
  have e : opersA = (opers.map Value.string).toArray := rfl
  intro k h
  rw [e]
  simp
set_option maxHeartbeats 4000000 in
set_option maxRecDepth 100000 in
theorem refop_any (s : ByteArray) (w : World) :
    Calls Try.prog 11 #[.string s] w fun e w' => e = .returned (.bool (opB s)) ∧ Below w.heap.size w w' := by
  obtain ⟨w1, hw⟩ : ∃ w1, w.alloc (.cells #[.string ⟨#[43]⟩, .string ⟨#[45]⟩, .string ⟨#[42]⟩, .string ⟨#[47]⟩, .string ⟨#[37]⟩, .string ⟨#[38]⟩, .string ⟨#[124]⟩, .string ⟨#[94]⟩, .string ⟨#[60, 60]⟩, .string ⟨#[62, 62]⟩, .string ⟨#[38, 38]⟩, .string ⟨#[124, 124]⟩, .string ⟨#[61, 61]⟩, .string ⟨#[33, 61]⟩, .string ⟨#[60]⟩, .string ⟨#[60, 61]⟩, .string ⟨#[62]⟩, .string ⟨#[62, 61]⟩, .string ⟨#[33]⟩, .string ⟨#[40]⟩, .string ⟨#[41]⟩, .string ⟨#[91]⟩, .string ⟨#[93]⟩, .string ⟨#[123]⟩, .string ⟨#[125]⟩, .string ⟨#[44]⟩, .string ⟨#[46]⟩, .string ⟨#[59]⟩, .string ⟨#[61]⟩, .string ⟨#[58, 61]⟩, .string ⟨#[58]⟩, .string ⟨#[126]⟩, .string ⟨#[46, 46, 46]⟩] 9) = w1 := ⟨_, rfl⟩
  obtain ⟨k1, q1, -⟩ := box_new hw
  have B := Lib.hid q1
  have HC := Lib.hid (fun (k : Nat) (h : k < opers.length) => (k1.cell k).trans (opersA_at k h))
  clear k1 q1
  go_enter Try.func11, Try.ntmps11
  go_wp2_with fail
  clear hw
  go_loop [7] (fun i => ∃ k : Nat, k ≤ opers.length ∧ i = .int .i64 k ∧ Hid (∀ j (hj : j < opers.length), j < k → (s.toList == opers[j].toList) = false)) (fun i => 33 - (intOf i).toNat)
  case atStart => exact ⟨0, Nat.zero_le _, rfl, Lib.hid (fun j _ hj => absurd hj (Nat.not_lt_zero _))⟩
  case round =>
    obtain ⟨k, hk, rfl, Hok⟩ := hrel
    rw [opers_len] at hk
    by_cases hlt : k < 33
    · have hck := HC.out k (by rw [opers_len]; exact hlt)
      obtain ⟨t, ht⟩ : ∃ t, opers[k]'(by rw [opers_len]; exact hlt) = t := ⟨_, rfl⟩
      rw [ht] at hck
      have HT := Lib.hid ht
      clear ht
      cases he : (t.toList == s.toList)
      · have Hnx := Lib.hid (show ∀ j (hj : j < opers.length), j < k + 1 → (s.toList == opers[j].toList) = false from fun j hj hjk => by
          rcases Nat.lt_or_eq_of_le (Nat.le_of_lt_succ hjk) with h1 | h1
          · exact Hok.out j hj h1
          · subst h1; rw [HT.out, Bool.beq_comm]; exact he)
        go_wp2_with fail
        go_round
        case rel => exact ⟨k + 1, by rw [opers_len]; omega, by go_num, Hnx⟩
        case measure => simp [intOf]; omega
      · have Hr := Lib.hid (show opB s = true by
          unfold opB
          rw [List.any_eq_true]
          exact ⟨t, by rw [← HT.out]; exact List.getElem_mem _, by rw [Bool.beq_comm]; exact he⟩)
        go_wp2_with fail
        go_ret
        exact ⟨ret_bool Hr.out.symm, B.out⟩
    · obtain rfl : k = 33 := by omega
      have Hr := Lib.hid (show opB s = false by
        unfold opB
        exact any_no _ (fun j hj => Hok.out j hj hj))
      go_wp2_with fail
      go_ret
      exact ⟨ret_bool Hr.out.symm, B.out⟩
end Go.Proofs.Ytjhgibdebcapfaa
