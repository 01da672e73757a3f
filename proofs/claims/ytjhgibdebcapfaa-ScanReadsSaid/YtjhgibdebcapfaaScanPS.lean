/- The program's begins. -/
import Derived.Test.YtjhgibdebcapfaaScanPB
import Derived.Test.YtjhgibdebcapfaaScanShelf
import Derived.Test.YtjhgibdebcapfaaScanLibM
namespace Go.Proofs.Ytjhgibdebcapfaa
open Go.RowKit
set_option linter.unusedSimpArgs false
set_option linter.unusedVariables false

/-- Does the text from i on begin with t? -/
def pfx (s : ByteArray) (i : Nat) (t : ByteArray) : Bool := Lib.hasPrefix (s.extract i s.size).data.toList t.data.toList
theorem any_yes {p : ByteArray → Bool} {l : List ByteArray} {k : Nat} (h : k < l.length) (hp : p l[k] = true) : l.any p = true := List.any_eq_true.2 ⟨_, List.getElem_mem h, hp⟩
set_option maxHeartbeats 8000000 in
set_option maxRecDepth 100000 in
theorem begins1_any (s t : ByteArray) (i q pb : Nat) (w : World) (hq : w.cell? ⟨q, 0, none⟩ = some (ptr pb)) (hp : w.cell? ⟨pb, 0, none⟩ = some (.string s)) (ha : w.cell? ⟨pb, 1, none⟩ = some (.int .i64 (i : Int))) (hi : i < s.size) (hs : s.size ≤ 4010) :
    Calls Try.prog 55 #[.string t, ptr q] w fun e w' => e = .returned (.bool (pfx s i t)) ∧ Below w.heap.size w w' := by
  have HH : Hid (∀ w', Calls Try.prog 19 #[.string (s.extract i s.size), .string t] w' fun e w2 => e = .returned (.bool (pfx s i t)) ∧ w2 = w') := Lib.hid (fun w' => Try.strings_HasPrefix (s.extract i s.size) t w')
  have hiI : (i : Int) ≤ (s.size : Int) := by omega
  have bd := Lib.hid (show Below w.heap.size w w.drew from (Below.refl _ _).drew)
  unfold ptr at *
  go_enter Try.func55, Try.ntmps55
  go_wp2_with fail
  refine GoG.start [(11, ⟨q, 0, none⟩, .pointer (some ⟨pb, 0, none⟩)), (11, ⟨pb, 0, none⟩, .string s), (11, ⟨pb, 1, none⟩, .int .i64 (i : Int))] (by kernel_rfl) ?_ ?_
  · exact Keeps.cons (by first | assumption | simp [*]) (Keeps.cons (by first | assumption | simp [*]) (Keeps.cons (by first | assumption | simp [*]) (Keeps.nil)))
  refine GoG.take (i := 0) (v := ?_) [11] rfl (by kernel_rfl) (by kernel_rfl) (by kernel_rfl) (by kernel_rfl) (by kernel_rfl) (by kernel_rfl) (fun _ _ _ h => h) (yields_load 11 ⟨q, 0, none⟩ (.pointer (some ⟨pb, 0, none⟩)) (by simp) (by decide) (by rfl) (fun w hw => ?_)) ?_
  rotate_left
  · go_simp; try (with_reducible rfl)
  try simp only [Act.put, List.setIfInBounds_toArray, List.set_cons_zero, List.set_cons_succ]
  refine GoG.take (i := 1) (v := ?_) [] rfl (by kernel_rfl) (by kernel_rfl) (by kernel_rfl) (by kernel_rfl) (by kernel_rfl) (by kernel_rfl) (fun _ _ _ h => h) (yields_free (by rfl) (fun w => ?_)) ?_
  rotate_left
  · go_simp; try (with_reducible rfl)
  try simp only [Act.put, List.setIfInBounds_toArray, List.set_cons_zero, List.set_cons_succ]
  refine GoG.take (i := 2) (v := ?_) [] rfl (by kernel_rfl) (by kernel_rfl) (by kernel_rfl) (by kernel_rfl) (by kernel_rfl) (by kernel_rfl) (fun _ _ _ h => h) (yields_free (by rfl) (fun w => ?_)) ?_
  rotate_left
  · go_simp; try (with_reducible rfl)
  try simp only [Act.put, List.setIfInBounds_toArray, List.set_cons_zero, List.set_cons_succ]
  refine GoG.take (i := 3) (v := ?_) [11] rfl (by kernel_rfl) (by kernel_rfl) (by kernel_rfl) (by kernel_rfl) (by kernel_rfl) (by kernel_rfl) (fun _ _ _ h => h) (yields_load 11 ⟨pb, 0, none⟩ (.string s) (by simp) (by decide) (by rfl) (fun w hw => ?_)) ?_
  rotate_left
  · go_simp; try (with_reducible rfl)
  try simp only [Act.put, List.setIfInBounds_toArray, List.set_cons_zero, List.set_cons_succ]
  refine GoG.take (i := 4) (v := ?_) [11] rfl (by kernel_rfl) (by kernel_rfl) (by kernel_rfl) (by kernel_rfl) (by kernel_rfl) (by kernel_rfl) (fun _ _ _ h => h) (yields_load 11 ⟨q, 0, none⟩ (.pointer (some ⟨pb, 0, none⟩)) (by simp) (by decide) (by rfl) (fun w hw => ?_)) ?_
  rotate_left
  · go_simp; try (with_reducible rfl)
  try simp only [Act.put, List.setIfInBounds_toArray, List.set_cons_zero, List.set_cons_succ]
  refine GoG.take (i := 5) (v := ?_) [] rfl (by kernel_rfl) (by kernel_rfl) (by kernel_rfl) (by kernel_rfl) (by kernel_rfl) (by kernel_rfl) (fun _ _ _ h => h) (yields_free (by rfl) (fun w => ?_)) ?_
  rotate_left
  · go_simp; try (with_reducible rfl)
  try simp only [Act.put, List.setIfInBounds_toArray, List.set_cons_zero, List.set_cons_succ]
  refine GoG.take (i := 6) (v := ?_) [] rfl (by kernel_rfl) (by kernel_rfl) (by kernel_rfl) (by kernel_rfl) (by kernel_rfl) (by kernel_rfl) (fun _ _ _ h => h) (yields_free (by rfl) (fun w => ?_)) ?_
  rotate_left
  · go_simp; try (with_reducible rfl)
  try simp only [Act.put, List.setIfInBounds_toArray, List.set_cons_zero, List.set_cons_succ]
  refine GoG.take (i := 7) (v := ?_) [11] rfl (by kernel_rfl) (by kernel_rfl) (by kernel_rfl) (by kernel_rfl) (by kernel_rfl) (by kernel_rfl) (fun _ _ _ h => h) (yields_load 11 ⟨pb, 1, none⟩ (.int .i64 (i : Int)) (by simp) (by decide) (by rfl) (fun w hw => ?_)) ?_
  rotate_left
  · go_simp; try (with_reducible rfl)
  try simp only [Act.put, List.setIfInBounds_toArray, List.set_cons_zero, List.set_cons_succ]
  refine GoG.take (i := 8) (v := ?_) [] rfl (by kernel_rfl) (by kernel_rfl) (by kernel_rfl) (by kernel_rfl) (by kernel_rfl) (by kernel_rfl) (fun _ _ _ h => h) (yields_free (by rfl) (fun w => ?_)) ?_
  rotate_left
  · go_simp; try (with_reducible rfl)
  try simp only [Act.put, List.setIfInBounds_toArray, List.set_cons_zero, List.set_cons_succ]
  refine GoG.take (i := 9) (v := ?_) [] rfl (by kernel_rfl) (by kernel_rfl) (by kernel_rfl) (by kernel_rfl) (by kernel_rfl) (by kernel_rfl) (fun _ _ _ h => h) (yields_free (by rfl) (fun w => ?_)) ?_
  rotate_left
  · go_simp; try (with_reducible rfl)
  try simp only [Act.put, List.setIfInBounds_toArray, List.set_cons_zero, List.set_cons_succ]
  refine GoG.one (i := 10) rfl (by kernel_rfl) (fun K hK => ?_)
  go_simp
  refine (HH.out _).mono ?_
  rintro x w' ⟨rfl, rfl⟩
  refine hK.out _ _ (Keeps.cons (by first | assumption | simp [*]) (Keeps.cons (by first | assumption | simp [*]) (Keeps.cons (by first | assumption | simp [*]) Keeps.nil))) ?_
  clear hK K
  refine GoG.one (i := 11) rfl (by kernel_rfl) (fun K hK => ?_)
  go_simp
  refine hK.out _ _ (Keeps.up (by rfl) (Keeps.up (by rfl) (Keeps.up (by rfl) Keeps.nil))) ?_
  clear hK K
  refine GoG.done (by kernel_rfl) ?_ _
  go_wp2_with fail
  go_ret
  exact ⟨rfl, bd.out⟩
set_option maxHeartbeats 8000000 in
set_option maxRecDepth 100000 in
theorem indexfunc_any (s : ByteArray) (i q pb : Nat) (ss : List ByteArray) (b cap : Nat) (w : World) (hr : ∀ k (h : k < ss.length), w.cell? ⟨b, k, none⟩ = some (.string ss[k])) (hl : ss.length ≤ 10) (hq : w.cell? ⟨q, 0, none⟩ = some (ptr pb)) (hp : w.cell? ⟨pb, 0, none⟩ = some (.string s)) (ha : w.cell? ⟨pb, 1, none⟩ = some (.int .i64 (i : Int))) (hi : i < s.size) (hs : s.size ≤ 4010) :
    Calls Try.prog 61 #[.slice (some ⟨b, 0, none⟩) ss.length cap, .func (.func 55) #[] #[ptr q]] w fun e w' => (∃ n : Int, e = .returned (.int .i64 n) ∧ decide (0 ≤ n) = ss.any (pfx s i)) ∧ Below w.heap.size w w' := by
  have Hr := Lib.hid hr
  have HQ := Lib.hid hq
  have HP := Lib.hid hp
  have HA := Lib.hid ha
  obtain ⟨L, hL⟩ : ∃ L, ss.length = L := ⟨_, rfl⟩
  have HL := Lib.hid hL
  rw [hL] at hl ⊢
  unfold ptr
  clear hL hr hq hp ha
  go_enter Try.func61, Try.ntmps61
  go_wp2_with fail
  go_loopw [8] (fun v wr => ∃ k : Nat, k ≤ L ∧ v = .int .i64 k ∧ Hid (∀ j (hj : j < ss.length), j < k → pfx s i ss[j] = false) ∧ Hid (Below w.heap.size w wr)) (fun v _ => L - (intOf v).toNat)
  case atStart => exact ⟨0, Nat.zero_le _, rfl, Lib.hid (fun j _ hj => absurd hj (Nat.not_lt_zero _)), Lib.hid (Below.refl _ _)⟩
  case round =>
    obtain ⟨k, hk, rfl, Hno, BR⟩ := hrel
    by_cases hkL : k < L
    · have hks : k < ss.length := by rw [HL.out]; exact hkL
      have hck0 := Hr.out k hks
      have hck := (BR.out.cell (p := ⟨b, k, none⟩) (World.block_lt_of_cell? _ _ hck0)).trans hck0
      have HC0 := begins1_any s ss[k] i q pb wr ((BR.out.cell (p := ⟨q, 0, none⟩) (World.block_lt_of_cell? _ _ HQ.out)).trans HQ.out) ((BR.out.cell (p := ⟨pb, 0, none⟩) (World.block_lt_of_cell? _ _ HP.out)).trans HP.out) ((BR.out.cell (p := ⟨pb, 1, none⟩) (World.block_lt_of_cell? _ _ HA.out)).trans HA.out) hi hs
      obtain ⟨t, ht⟩ : ∃ t, ss[k] = t := ⟨_, rfl⟩
      rw [ht] at hck HC0
      unfold ptr at HC0
      clear hck0
      cases hp : pfx s i t <;> rw [hp] at HC0 <;> have HC := Lib.hid HC0 <;> clear HC0
      · have Hno2 := Lib.hid (show ∀ j (hj : j < ss.length), j < k + 1 → pfx s i ss[j] = false from fun j hj hjk => by
          rcases Nat.lt_or_eq_of_le (Nat.le_of_lt_succ hjk) with h1 | h1
          · exact Hno.out j hj h1
          · subst h1; rw [ht]; exact hp)
        clear ht hp
        go_wp2_with fail
        refine HC.out.mono ?_
        rintro e w' ⟨rfl, bb⟩
        have BR2 := Lib.hid (BR.out.trans (bb.mono BR.out.size))
        clear bb
        go_wp2_with fail
        go_roundw
        case rel => exact ⟨k + 1, by omega, by go_num, Hno2, BR2⟩
        case measure => simp [intOf]; omega
      · have Hn := Lib.hid (show decide ((0 : Int) ≤ (k : Int)) = ss.any (pfx s i) by rw [decide_eq_true (by omega), any_yes hks (by rw [ht]; exact hp)])
        clear ht hp
        go_wp2_with fail
        refine HC.out.mono ?_
        rintro e w' ⟨rfl, bb⟩
        have BR2 := Lib.hid (BR.out.trans (bb.mono BR.out.size))
        clear bb
        go_wp2_with fail
        go_ret
        exact ⟨⟨_, rfl, Hn.out⟩, BR2.out⟩
    · obtain rfl : k = L := by omega
      have Hn := Lib.hid (show decide ((0 : Int) ≤ -1) = ss.any (pfx s i) by rw [decide_eq_false (by omega), any_no _ (fun j hj => Hno.out j hj (by rw [← HL.out]; exact hj))])
      go_wp2_with fail
      go_ret
      exact ⟨⟨_, rfl, Hn.out⟩, BR.out⟩
set_option maxHeartbeats 8000000 in
set_option maxRecDepth 100000 in
theorem containsfunc_any (s : ByteArray) (i q pb : Nat) (ss : List ByteArray) (b cap : Nat) (w : World) (hr : ∀ k (h : k < ss.length), w.cell? ⟨b, k, none⟩ = some (.string ss[k])) (hl : ss.length ≤ 10) (hq : w.cell? ⟨q, 0, none⟩ = some (ptr pb)) (hp : w.cell? ⟨pb, 0, none⟩ = some (.string s)) (ha : w.cell? ⟨pb, 1, none⟩ = some (.int .i64 (i : Int))) (hi : i < s.size) (hs : s.size ≤ 4010) :
    Calls Try.prog 54 #[.slice (some ⟨b, 0, none⟩) ss.length cap, .func (.func 55) #[] #[ptr q]] w fun e w' => e = .returned (.bool (ss.any (pfx s i))) ∧ Below w.heap.size w w' := by
  have HI := Lib.hid (indexfunc_any s i q pb ss b cap w hr hl hq hp ha hi hs)
  unfold ptr at *
  clear hr hp ha hq
  go_enter Try.func54, Try.ntmps54
  go_wp2_with fail
  refine HI.out.mono ?_
  rintro e w' ⟨⟨n, rfl, hn⟩, bb⟩
  have HN := Lib.hid hn
  have B2 := Lib.hid bb
  clear bb hn
  go_wp2_with fail
  go_ret
  exact ⟨ret_bool HN.out, B2.out⟩
set_option maxHeartbeats 8000000 in
set_option maxRecDepth 100000 in
theorem begins_any (s : ByteArray) (i pb : Nat) (ss : List ByteArray) (b cap : Nat) (w : World) (hr : ∀ k (h : k < ss.length), w.cell? ⟨b, k, none⟩ = some (.string ss[k])) (hb : b < w.heap.size) (hl : ss.length ≤ 10) (hp : w.cell? ⟨pb, 0, none⟩ = some (.string s)) (ha : w.cell? ⟨pb, 1, none⟩ = some (.int .i64 (i : Int))) (hi : i < s.size) (hs : s.size ≤ 4010) :
    Calls Try.prog 44 #[ptr pb, .slice (some ⟨b, 0, none⟩) ss.length cap] w fun e w' => e = .returned (.bool (ss.any (pfx s i))) ∧ Below w.heap.size w w' := by
  obtain ⟨w1, hw⟩ : ∃ w1, w.alloc (.cells #[.pointer (some ⟨pb, 0, none⟩)] 49) = w1 := ⟨_, rfl⟩
  obtain ⟨k1, q1, z1⟩ := box_new hw
  have x0 := k1.cell 0
  simp only [List.getElem?_toArray, List.getElem?_cons_zero] at x0
  have HI := Lib.hid (containsfunc_any s i w.heap.size pb ss b cap w1 (fun k h => (q1.cell (p := ⟨b, k, none⟩) hb).trans (hr k h)) hl x0 ((q1.cell (p := ⟨pb, 0, none⟩) (World.block_lt_of_cell? _ _ hp)).trans hp) ((q1.cell (p := ⟨pb, 1, none⟩) (World.block_lt_of_cell? _ _ ha)).trans ha) hi hs)
  have BB := Lib.hid q1
  unfold ptr at *
  clear k1 q1 z1 hr hp ha
  go_enter Try.func44, Try.ntmps44
  go_wp2_with fail
  clear hw
  refine HI.out.mono ?_
  rintro e w' ⟨rfl, bb⟩
  have B2 := Lib.hid (BB.out.trans (bb.mono BB.out.size))
  clear bb
  go_wp2_with fail
  go_ret
  exact ⟨rfl, B2.out⟩
end Go.Proofs.Ytjhgibdebcapfaa
