/- The reference's join and Text: as the program's. -/
import Derived.Test.YtbdhmelebedpiaaGreatDoorSemText
namespace Go.Proofs.YtbdhmelebedpiaaGreatDoor
open Go.RowKit
set_option linter.unusedSimpArgs false
set_option linter.unusedVariables false

def refJ (a : ByteArray) (ss : List ByteArray) : ByteArray := if 0 < ss.length then a ++ joinS ss else ⟨#[]⟩
theorem bytes_same {a b : ByteArray} (h : a.data.toList = b.data.toList) : a = b := by
  apply ByteArray.ext
  apply Array.toList_inj.1
  exact h
theorem list_app (a b : ByteArray) : (a ++ b).data.toList = a.data.toList ++ b.data.toList := by simp
theorem joinS_one (s : ByteArray) : joinS [s] = s := by
  apply bytes_same
  show Lib.join [s.data.toList] [46] = _
  rw [Lib.join_one]
theorem joinS_next {ss : List ByteArray} {k : Nat} {s : ByteArray} (hk : 0 < k) (h : k < ss.length) (hs : ss[k] = s) : joinS (ss.take (k + 1)) = joinS (ss.take k) ++ ⟨#[46]⟩ ++ s := by
  obtain ⟨j, rfl⟩ : ∃ j, k = j + 1 := ⟨k - 1, by omega⟩
  cases ss with
  | nil => simp at h
  | cons x r =>
    apply bytes_same
    rw [list_app, list_app]
    show Lib.join (((x :: r).take (j + 1 + 1)).map (·.data.toList)) [46] = Lib.join (((x :: r).take (j + 1)).map (·.data.toList)) [46] ++ [46] ++ s.data.toList
    rw [List.take_succ_cons, List.take_succ_cons, List.map_cons, List.map_cons, Lib.join_cons, Lib.join_cons, List.map_take, List.map_take]
    have hj : j < r.length := by simp at h; omega
    have hg : (r.map (·.data.toList))[j]? = some s.data.toList := by
      rw [List.getElem?_map, List.getElem?_eq_getElem hj]
      have : r[j] = s := by simpa using hs
      rw [this]; rfl
    rw [Lib.joinTail_take_succ _ _ _ _ hg]
    simp only [List.append_assoc]
theorem refJ_zero (a : ByteArray) (ss : List ByteArray) : refJ a (ss.take 0) = ⟨#[]⟩ := by simp [refJ]
theorem refJ_first {a : ByteArray} {ss : List ByteArray} {s : ByteArray} (h : 0 < ss.length) (hs : ss[0] = s) : refJ a (ss.take 1) = a ++ s := by
  cases ss with
  | nil => simp at h
  | cons x r =>
    obtain rfl : x = s := hs
    show (if 0 < [x].length then a ++ joinS [x] else _) = _
    rw [if_pos (show 0 < [x].length from Nat.succ_pos _), joinS_one]
theorem refJ_next {a : ByteArray} {ss : List ByteArray} {k : Nat} {s : ByteArray} (hk : 0 < k) (h : k < ss.length) (hs : ss[k] = s) : refJ a (ss.take (k + 1)) = refJ a (ss.take k) ++ ⟨#[46]⟩ ++ s := by
  unfold refJ
  rw [if_pos (by rw [List.length_take]; omega), if_pos (by rw [List.length_take]; omega), joinS_next hk h hs]
  simp only [ByteArray.append_assoc]
theorem refJ_size {a : ByteArray} {ss : List ByteArray} (ha : a.size ≤ 10) (h : ∀ s ∈ ss, s.size ≤ 1000) (hl : ss.length ≤ 1000) (k : Nat) : (refJ a (ss.take k)).size ≤ 1001010 := by
  unfold refJ
  split
  · have := joinS_size (ss.take k) (fun s hs => h s (List.mem_of_mem_take hs)) (by rw [List.length_take]; omega)
    rw [ByteArray.size_append]
    omega
  · show 0 ≤ _; omega
theorem refJ_all (a : ByteArray) (ss : List ByteArray) : refJ a (ss.take ss.length) = refJ a ss := by rw [List.take_length]
theorem app_nil (a : ByteArray) : a ++ ⟨#[]⟩ = a := by apply bytes_same; rw [list_app]; simp
theorem textS_ref (V : Vr) : itoaS V.ma ++ ⟨#[46]⟩ ++ itoaS V.mi ++ ⟨#[46]⟩ ++ itoaS V.pa ++ refJ ⟨#[45]⟩ V.pre ++ refJ ⟨#[43]⟩ V.build = textS V := by
  unfold textS preS headS refJ
  split <;> split <;> simp only [app_nil]
--JOIN
theorem ret_str {a b : ByteArray} (h : a = b) : Ending.returned (.string a) = .returned (.string b) := by rw [h]
theorem str_eq2 {a b : ByteArray} (h : a = b) : Value.string a = .string b := by rw [h]
set_option maxHeartbeats 8000000 in
set_option maxRecDepth 100000 in
theorem refjoin_any (a : ByteArray) (ao : Option Addr) (cap : Nat) (ss : List ByteArray) (w : World) (hr : SRow w ao ss) (ha : a.size ≤ 10) (hz : ∀ s ∈ ss, s.size ≤ 1000) (hl : ss.length ≤ 1000) :
    Calls Tryz.prog 36 #[.string a, .slice ao ss.length cap] w fun e w' => e = .returned (.string (refJ a ss)) ∧ Below w.heap.size w w' := by
  have R := Lib.hid hr
  have HZ := Lib.hid hz
  have HS := Lib.hid (fun k => refJ_size ha hz hl k)
  have Hall := Lib.hid (refJ_all a ss)
  have H0 := Lib.hid (refJ_zero a ss)
  clear hr hz
  go_enter Tryz.func36, Tryz.ntmps36
  go_wp2_with fail
  go_loopw [5, 10] (fun o i wr => ∃ k : Nat, k ≤ ss.length ∧ i = .int .i64 k ∧ o = .string (refJ a (ss.take k)) ∧ Hid (Below w.heap.size w wr)) (fun o i _ => ss.length - (intOf i).toNat)
  case atStart => exact ⟨0, Nat.zero_le _, rfl, str_eq2 H0.out.symm, Lib.hid (Below.refl _ _)⟩
  case round =>
    obtain ⟨k, hk, rfl, rfl, HB⟩ := hrel
    by_cases hlt : k < ss.length
    · obtain ⟨b, off, rfl, hb, hc⟩ := (R.out.below HB.out).cells (by omega)
      have hck := hc k hlt
      obtain ⟨s, hs⟩ : ∃ s, ss[k] = s := ⟨_, rfl⟩
      have hsz : s.size ≤ 1000 := by rw [← hs]; exact HZ.out _ (List.getElem_mem hlt)
      rw [hs] at hck
      clear hc hb
      by_cases hk0 : k = 0
      · subst hk0
        have Hn := Lib.hid (refJ_first (a := a) hlt hs)
        have n1 : ¬ 9223372036854775807 < a.size + s.size := by omega
        clear hs
        simp only [Nat.add_zero] at hck
        go_wp2_with fail
        go_roundw
        case rel => exact ⟨1, by omega, by go_num, str_eq2 Hn.out.symm, HB⟩
        case measure => simp [intOf]; omega
      · have hx := HS.out k
        have Hn := Lib.hid (refJ_next (a := a) (by omega) hlt hs)
        obtain ⟨x, hxe⟩ : ∃ x, refJ a (ss.take k) = x := ⟨_, rfl⟩
        rw [hxe] at hx Hn ⊢
        have n1 : ¬ 9223372036854775807 < x.size + 1 := by omega
        have n2 : ¬ 9223372036854775807 < x.size + 1 + s.size := by omega
        have hki : ((k : Int) == 0) = false := by rw [beq_eq_false_iff_ne]; omega
        clear hs hxe hx
        go_wp2_with fail
        go_roundw
        case rel => exact ⟨k + 1, by omega, by go_num, str_eq2 Hn.out.symm, HB⟩
        case measure => simp [intOf]; omega
    · obtain rfl : k = ss.length := by omega
      go_wp2_with fail
      go_ret
      exact ⟨ret_str Hall.out, HB.out⟩
set_option maxHeartbeats 16000000 in
set_option maxRecDepth 100000 in
theorem reftext_any (V : Vr) (po bo : Option Addr) (pc bc : Nat) (w : World) (hV : VerC w po bo V) (hT : PowAt w) :
    Calls Tryz.prog 12 #[verV V po pc bo bc] w fun e w' => e = .returned (.string (textS V)) ∧ Below w.heap.size w w' := by
  obtain ⟨wa, ha⟩ : ∃ wa, w.alloc (.cells #[.int .i64 V.ma, .int .i64 V.mi, .int .i64 V.pa, .slice po V.pre.length pc, .slice bo V.build.length bc] 24) = wa := ⟨_, rfl⟩
  obtain ⟨k1, q1, -⟩ := box_new ha
  have BW := Lib.hid q1
  have K1 := Lib.hid k1
  have I0 : ∀ {w'}, Below w.heap.size w w' → _ := fun {w'} h => Lib.hid (itoa_any V.ma w' hV.nums.1.1 hV.nums.1.2 (hT.below h))
  have I1 : ∀ {w'}, Below w.heap.size w w' → _ := fun {w'} h => Lib.hid (itoa_any V.mi w' hV.nums.2.1.1 hV.nums.2.1.2 (hT.below h))
  have I2 : ∀ {w'}, Below w.heap.size w w' → _ := fun {w'} h => Lib.hid (itoa_any V.pa w' hV.nums.2.2.1 hV.nums.2.2.2 (hT.below h))
  have z0 := itoaS_size V.ma hV.nums.1.1 hV.nums.1.2
  have z1 := itoaS_size V.mi hV.nums.2.1.1 hV.nums.2.1.2
  have z2 := itoaS_size V.pa hV.nums.2.2.1 hV.nums.2.2.2
  have J1 : ∀ {w'}, Below w.heap.size w w' → _ := fun {w'} h => Lib.hid (refjoin_any ⟨#[45]⟩ po pc V.pre w' (hV.pre.below h) (by decide) hV.ps hV.pl)
  have J2 : ∀ {w'}, Below w.heap.size w w' → _ := fun {w'} h => Lib.hid (refjoin_any ⟨#[43]⟩ bo bc V.build w' (hV.build.below h) (by decide) hV.bs hV.bl)
  have y1 := refJ_size (a := ⟨#[45]⟩) (by decide) hV.ps hV.pl V.pre.length
  have y2 := refJ_size (a := ⟨#[43]⟩) (by decide) hV.bs hV.bl V.build.length
  rw [refJ_all] at y1 y2
  have Hres := Lib.hid (textS_ref V)
  generalize itoaS V.ma = s0 at *
  generalize itoaS V.mi = s1 at *
  generalize itoaS V.pa = s2 at *
  generalize refJ ⟨#[45]⟩ V.pre = j1 at *
  generalize refJ ⟨#[43]⟩ V.build = j2 at *
  have n1 : ¬ 9223372036854775807 < s0.size + 1 := by omega
  have n2 : ¬ 9223372036854775807 < s0.size + 1 + s1.size := by omega
  have n3 : ¬ 9223372036854775807 < s0.size + 1 + s1.size + 1 := by omega
  have n4 : ¬ 9223372036854775807 < s0.size + 1 + s1.size + 1 + s2.size := by omega
  have n5 : ¬ 9223372036854775807 < s0.size + 1 + s1.size + 1 + s2.size + j1.size := by omega
  have n6 : ¬ 9223372036854775807 < s0.size + 1 + s1.size + 1 + s2.size + j1.size + j2.size := by omega
  obtain ⟨c0, c1, c2, c3, c4⟩ := cell5 k1
  unfold verV
  clear hV hT k1 q1
  go_enter Tryz.func12, Tryz.ntmps12
  go_wp2_with fail
  refine GoG.start [(21, ⟨w.heap.size, 0, none⟩, .int .i64 V.ma), (21, ⟨w.heap.size, 1, none⟩, .int .i64 V.mi), (21, ⟨w.heap.size, 2, none⟩, .int .i64 V.pa), (21, ⟨w.heap.size, 3, none⟩, .slice po V.pre.length pc), (21, ⟨w.heap.size, 4, none⟩, .slice bo V.build.length bc)] (by kernel_rfl) ?_ ?_
  · exact Keeps.cons (by first | assumption | simp [*]) (Keeps.cons (by first | assumption | simp [*]) (Keeps.cons (by first | assumption | simp [*]) (Keeps.cons (by first | assumption | simp [*]) (Keeps.cons (by first | assumption | simp [*]) (Keeps.nil)))))
  refine GoG.take (i := 0) (v := ?_) [] rfl (by kernel_rfl) (by kernel_rfl) (by kernel_rfl) (by kernel_rfl) (by kernel_rfl) (by kernel_rfl) (fun _ _ _ h => h) (yields_free (by rfl) (fun w => ?_)) ?_
  rotate_left
  · go_simp; try (with_reducible rfl)
  try simp only [Act.put, List.setIfInBounds_toArray, List.set_cons_zero, List.set_cons_succ]
  refine GoG.take (i := 1) (v := ?_) [2, 6, 11, 15, 19, 21] rfl (by kernel_rfl) (by kernel_rfl) (by kernel_rfl) (by kernel_rfl) (by kernel_rfl) (by kernel_rfl) (fun _ _ _ h => h) (yields_load 21 ⟨w.heap.size, 0, none⟩ (.int .i64 V.ma) (by simp) (by decide) (by rfl) (fun w hw => ?_)) ?_
  rotate_left
  · go_simp; try (with_reducible rfl)
  try simp only [Act.put, List.setIfInBounds_toArray, List.set_cons_zero, List.set_cons_succ]
  refine GoG.take (i := 4) (v := ?_) [] rfl (by kernel_rfl) (by kernel_rfl) (by kernel_rfl) (by kernel_rfl) (by kernel_rfl) (by kernel_rfl) (fun _ _ _ h => h) (yields_free (by rfl) (fun w => ?_)) ?_
  rotate_left
  · go_simp; try (with_reducible rfl)
  try simp only [Act.put, List.setIfInBounds_toArray, List.set_cons_zero, List.set_cons_succ]
  refine GoG.take (i := 5) (v := ?_) [6, 11, 15, 19, 21] rfl (by kernel_rfl) (by kernel_rfl) (by kernel_rfl) (by kernel_rfl) (by kernel_rfl) (by kernel_rfl) (fun _ _ _ h => h) (yields_load 21 ⟨w.heap.size, 1, none⟩ (.int .i64 V.mi) (by simp) (by decide) (by rfl) (fun w hw => ?_)) ?_
  rotate_left
  · go_simp; try (with_reducible rfl)
  try simp only [Act.put, List.setIfInBounds_toArray, List.set_cons_zero, List.set_cons_succ]
  refine GoG.take (i := 9) (v := ?_) [] rfl (by kernel_rfl) (by kernel_rfl) (by kernel_rfl) (by kernel_rfl) (by kernel_rfl) (by kernel_rfl) (fun _ _ _ h => h) (yields_free (by rfl) (fun w => ?_)) ?_
  rotate_left
  · go_simp; try (with_reducible rfl)
  try simp only [Act.put, List.setIfInBounds_toArray, List.set_cons_zero, List.set_cons_succ]
  refine GoG.take (i := 10) (v := ?_) [11, 15, 19, 21] rfl (by kernel_rfl) (by kernel_rfl) (by kernel_rfl) (by kernel_rfl) (by kernel_rfl) (by kernel_rfl) (fun _ _ _ h => h) (yields_load 21 ⟨w.heap.size, 2, none⟩ (.int .i64 V.pa) (by simp) (by decide) (by rfl) (fun w hw => ?_)) ?_
  rotate_left
  · go_simp; try (with_reducible rfl)
  try simp only [Act.put, List.setIfInBounds_toArray, List.set_cons_zero, List.set_cons_succ]
  refine GoG.take (i := 13) (v := ?_) [] rfl (by kernel_rfl) (by kernel_rfl) (by kernel_rfl) (by kernel_rfl) (by kernel_rfl) (by kernel_rfl) (fun _ _ _ h => h) (yields_free (by rfl) (fun w => ?_)) ?_
  rotate_left
  · go_simp; try (with_reducible rfl)
  try simp only [Act.put, List.setIfInBounds_toArray, List.set_cons_zero, List.set_cons_succ]
  refine GoG.take (i := 14) (v := ?_) [15, 19, 21] rfl (by kernel_rfl) (by kernel_rfl) (by kernel_rfl) (by kernel_rfl) (by kernel_rfl) (by kernel_rfl) (fun _ _ _ h => h) (yields_load 21 ⟨w.heap.size, 3, none⟩ (.slice po V.pre.length pc) (by simp) (by decide) (by rfl) (fun w hw => ?_)) ?_
  rotate_left
  · go_simp; try (with_reducible rfl)
  try simp only [Act.put, List.setIfInBounds_toArray, List.set_cons_zero, List.set_cons_succ]
  refine GoG.take (i := 17) (v := ?_) [] rfl (by kernel_rfl) (by kernel_rfl) (by kernel_rfl) (by kernel_rfl) (by kernel_rfl) (by kernel_rfl) (fun _ _ _ h => h) (yields_free (by rfl) (fun w => ?_)) ?_
  rotate_left
  · go_simp; try (with_reducible rfl)
  try simp only [Act.put, List.setIfInBounds_toArray, List.set_cons_zero, List.set_cons_succ]
  refine GoG.take (i := 18) (v := ?_) [19, 21] rfl (by kernel_rfl) (by kernel_rfl) (by kernel_rfl) (by kernel_rfl) (by kernel_rfl) (by kernel_rfl) (fun _ _ _ h => h) (yields_load 21 ⟨w.heap.size, 4, none⟩ (.slice bo V.build.length bc) (by simp) (by decide) (by rfl) (fun w hw => ?_)) ?_
  rotate_left
  · go_simp; try (with_reducible rfl)
  try simp only [Act.put, List.setIfInBounds_toArray, List.set_cons_zero, List.set_cons_succ]
  have BD := Lib.hid (show Below w.heap.size w wa.drew from BW.out.drew)
  have KD := Lib.hid (show BlockAt wa.drew w.heap.size _ _ from K1.out.below ((Below.refl _ _).drew))
  clear ha
  refine GoG.one (i := 2) rfl (by kernel_rfl) (fun K hK => ?_)
  go_simp
  refine (I0 BD.out).out.mono ?_
  rintro e w2 ⟨rfl, bb⟩
  have B2 := Lib.hid (BD.out.trans (bb.mono BD.out.size))
  have K2 := Lib.hid (KD.out.below bb)
  clear c0 c1 c2 c3 c4
  obtain ⟨c0, c1, c2, c3, c4⟩ := cell5 K2.out
  refine hK.out _ _ (Keeps.cons (by first | assumption | simp [*]) (Keeps.cons (by first | assumption | simp [*]) (Keeps.cons (by first | assumption | simp [*]) (Keeps.cons (by first | assumption | simp [*]) (Keeps.cons (by first | assumption | simp [*]) (Keeps.nil)))))) ?_
  clear hK K bb
  refine GoG.take (i := 3) (v := ?_) [] rfl (by kernel_rfl) (by kernel_rfl) (by kernel_rfl) (by kernel_rfl) (by kernel_rfl) (by kernel_rfl) (fun _ _ _ h => h) (yields_free (by rfl) (fun w => ?_)) ?_
  rotate_left
  · go_simp; try (with_reducible rfl)
  try simp only [Act.put, List.setIfInBounds_toArray, List.set_cons_zero, List.set_cons_succ]
  refine GoG.one (i := 6) rfl (by kernel_rfl) (fun K hK => ?_)
  go_simp
  refine (I1 B2.out).out.mono ?_
  rintro e w3 ⟨rfl, bb⟩
  have B3 := Lib.hid (B2.out.trans (bb.mono B2.out.size))
  have K3 := Lib.hid (K2.out.below bb)
  clear c0 c1 c2 c3 c4
  obtain ⟨c0, c1, c2, c3, c4⟩ := cell5 K3.out
  refine hK.out _ _ (Keeps.cons (by first | assumption | simp [*]) (Keeps.cons (by first | assumption | simp [*]) (Keeps.cons (by first | assumption | simp [*]) (Keeps.cons (by first | assumption | simp [*]) (Keeps.cons (by first | assumption | simp [*]) (Keeps.nil)))))) ?_
  clear hK K bb
  refine GoG.take (i := 7) (v := ?_) [] rfl (by kernel_rfl) (by kernel_rfl) (by kernel_rfl) (by kernel_rfl) (by kernel_rfl) (by kernel_rfl) (fun _ _ _ h => h) (yields_free (by rfl) (fun w => ?_)) ?_
  rotate_left
  · go_simp; try (with_reducible rfl)
  try simp only [Act.put, List.setIfInBounds_toArray, List.set_cons_zero, List.set_cons_succ]
  refine GoG.take (i := 8) (v := ?_) [] rfl (by kernel_rfl) (by kernel_rfl) (by kernel_rfl) (by kernel_rfl) (by kernel_rfl) (by kernel_rfl) (fun _ _ _ h => h) (yields_free (by rfl) (fun w => ?_)) ?_
  rotate_left
  · go_simp; try (with_reducible rfl)
  try simp only [Act.put, List.setIfInBounds_toArray, List.set_cons_zero, List.set_cons_succ]
  refine GoG.one (i := 11) rfl (by kernel_rfl) (fun K hK => ?_)
  go_simp
  refine (I2 B3.out).out.mono ?_
  rintro e w4 ⟨rfl, bb⟩
  have B4 := Lib.hid (B3.out.trans (bb.mono B3.out.size))
  have K4 := Lib.hid (K3.out.below bb)
  clear c0 c1 c2 c3 c4
  obtain ⟨c0, c1, c2, c3, c4⟩ := cell5 K4.out
  refine hK.out _ _ (Keeps.cons (by first | assumption | simp [*]) (Keeps.cons (by first | assumption | simp [*]) (Keeps.cons (by first | assumption | simp [*]) (Keeps.cons (by first | assumption | simp [*]) (Keeps.cons (by first | assumption | simp [*]) (Keeps.nil)))))) ?_
  clear hK K bb
  refine GoG.take (i := 12) (v := ?_) [] rfl (by kernel_rfl) (by kernel_rfl) (by kernel_rfl) (by kernel_rfl) (by kernel_rfl) (by kernel_rfl) (fun _ _ _ h => h) (yields_free (by rfl) (fun w => ?_)) ?_
  rotate_left
  · go_simp; try (with_reducible rfl)
  try simp only [Act.put, List.setIfInBounds_toArray, List.set_cons_zero, List.set_cons_succ]
  refine GoG.one (i := 15) rfl (by kernel_rfl) (fun K hK => ?_)
  go_simp
  refine (J1 B4.out).out.mono ?_
  rintro e w5 ⟨rfl, bb⟩
  have B5 := Lib.hid (B4.out.trans (bb.mono B4.out.size))
  have K5 := Lib.hid (K4.out.below bb)
  clear c0 c1 c2 c3 c4
  obtain ⟨c0, c1, c2, c3, c4⟩ := cell5 K5.out
  refine hK.out _ _ (Keeps.cons (by first | assumption | simp [*]) (Keeps.cons (by first | assumption | simp [*]) (Keeps.cons (by first | assumption | simp [*]) (Keeps.cons (by first | assumption | simp [*]) (Keeps.cons (by first | assumption | simp [*]) (Keeps.nil)))))) ?_
  clear hK K bb
  refine GoG.take (i := 16) (v := ?_) [] rfl (by kernel_rfl) (by kernel_rfl) (by kernel_rfl) (by kernel_rfl) (by kernel_rfl) (by kernel_rfl) (fun _ _ _ h => h) (yields_free (by rfl) (fun w => ?_)) ?_
  rotate_left
  · go_simp; try (with_reducible rfl)
  try simp only [Act.put, List.setIfInBounds_toArray, List.set_cons_zero, List.set_cons_succ]
  refine GoG.one (i := 19) rfl (by kernel_rfl) (fun K hK => ?_)
  go_simp
  refine (J2 B5.out).out.mono ?_
  rintro e w6 ⟨rfl, bb⟩
  have B6 := Lib.hid (B5.out.trans (bb.mono B5.out.size))
  have K6 := Lib.hid (K5.out.below bb)
  clear c0 c1 c2 c3 c4
  obtain ⟨c0, c1, c2, c3, c4⟩ := cell5 K6.out
  refine hK.out _ _ (Keeps.cons (by first | assumption | simp [*]) (Keeps.cons (by first | assumption | simp [*]) (Keeps.cons (by first | assumption | simp [*]) (Keeps.cons (by first | assumption | simp [*]) (Keeps.cons (by first | assumption | simp [*]) (Keeps.nil)))))) ?_
  clear hK K bb
  refine GoG.take (i := 20) (v := ?_) [] rfl (by kernel_rfl) (by kernel_rfl) (by kernel_rfl) (by kernel_rfl) (by kernel_rfl) (by kernel_rfl) (fun _ _ _ h => h) (yields_free (by rfl) (fun w => ?_)) ?_
  rotate_left
  · go_simp; try (with_reducible rfl)
  try simp only [Act.put, List.setIfInBounds_toArray, List.set_cons_zero, List.set_cons_succ]
  refine GoG.one (i := 21) rfl (by kernel_rfl) (fun K hK => ?_)
  go_simp
  refine hK.out _ _ (Keeps.up (by rfl) (Keeps.up (by rfl) (Keeps.up (by rfl) (Keeps.up (by rfl) (Keeps.up (by rfl) (Keeps.nil)))))) ?_
  clear hK K
  refine GoG.done (by kernel_rfl) ?_ _
  go_wp2_with fail
  go_ret
  exact ⟨ret_str Hres.out, B6.out⟩
end Go.Proofs.YtbdhmelebedpiaaGreatDoor
