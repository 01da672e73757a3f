/- Text. -/
import Derived.Test.YtbdhmelebedpiaaGreatDoorSemParse
import Derived.Lib.ItoaLen
namespace Go.Proofs.YtbdhmelebedpiaaGreatDoor
open Go.RowKit
set_option linter.unusedSimpArgs false
set_option linter.unusedVariables false

/-- The table of powers of ten. -/
def PowAt (w : World) : Prop := Lib.TabIs Tryz.prog w "internal/strconv.uint64pow10" .u64 Lib.pow10Tab
theorem PowAt.below {w w' : World} (h : PowAt w) (hb : Below w.heap.size w w') : PowAt w' := by
  unfold PowAt Lib.TabIs World.var? at *
  have hg : Tryz.prog.globalNamed "internal/strconv.uint64pow10" = some 0 := by kernel_rfl
  rw [hg] at h ⊢
  simp only [Option.bind_some] at h ⊢
  have hlt : 0 < w.heap.size := by
    rcases Nat.lt_or_ge 0 w.heap.size with h1 | h1
    · exact h1
    · rw [Array.getElem?_eq_none h1] at h; cases h
  rw [hb.block _ hlt]
  exact h
theorem grow_below (w : World) (k : Nat) (os : Array Obj) : Below w.heap.size w (Sort.grow (w.drewN k) os) :=
  ⟨rfl, rfl, rfl, by show w.heap.size ≤ (w.heap ++ os).size; simp, fun j hj => by show (w.heap ++ os)[j]? = w.heap[j]?; rw [Array.getElem?_append_left hj]⟩
def itoaS (n : Int) : ByteArray := ⟨(Lib.itoa n).toArray⟩
theorem itoa_any (n : Int) (w : World) (h0 : -9223372036854775808 ≤ n) (h1 : n ≤ 9223372036854775807) (ht : PowAt w) :
    Calls Tryz.prog 15 #[.int .i64 n] w fun e w' => e = .returned (.string (itoaS n)) ∧ Below w.heap.size w w' := by
  refine (Tryz.strconv_Itoa n h0 h1 w ht).mono ?_
  rintro e w' ⟨rfl, k, os, rfl⟩
  exact ⟨rfl, grow_below _ _ _⟩
theorem itoaS_size (n : Int) (h0 : -9223372036854775808 ≤ n) (h1 : n ≤ 9223372036854775807) : (itoaS n).size ≤ 21 := Lib.itoa_length_le n h0 h1
def joinS (ss : List ByteArray) : ByteArray := ⟨(Lib.join (ss.map (·.data.toList)) [46]).toArray⟩
theorem lens_le (k : Nat) : ∀ ss : List ByteArray, (∀ s ∈ ss, s.size ≤ k) → Lib.lens (ss.map (·.data.toList)) ≤ ss.length * k
  | [], _ => by unfold Lib.lens; simp
  | s :: r, h => by
    have ih := lens_le k r (fun x hx => h x (List.mem_cons_of_mem _ hx))
    have hs : s.data.toList.length ≤ k := h s List.mem_cons_self
    unfold Lib.lens at *
    rw [List.map_cons, List.map_cons, List.sum_cons, List.length_cons, Nat.add_mul]
    omega
theorem joinS_size (ss : List ByteArray) (h : ∀ s ∈ ss, s.size ≤ 1000) (hl : ss.length ≤ 1000) : (joinS ss).size ≤ 1001000 := by
  show (Lib.join (ss.map (·.data.toList)) [46]).length ≤ 1001000
  cases ss with
  | nil => simp [Lib.join]
  | cons x r =>
    rw [List.map_cons, Lib.join_length]
    have := lens_le 1000 (x :: r) h
    rw [List.map_cons] at this
    have h3 : (x :: r).length * 1000 ≤ 1000 * 1000 := Nat.mul_le_mul_right _ hl
    simp at hl ⊢
    omega
theorem join_any (ao : Option Addr) (cap : Nat) (ss : List ByteArray) (w : World) (hr : SRow w ao ss) (h0 : 0 < ss.length) (hz : ∀ s ∈ ss, s.size ≤ 1000) (hl : ss.length ≤ 1000) (hc : ss.length ≤ cap) :
    Calls Tryz.prog 16 #[.slice ao ss.length cap, .string ⟨#[46]⟩] w fun e w' => e = .returned (.string (joinS ss)) ∧ Below w.heap.size w w' := by
  obtain ⟨b, off, rfl, hb, hcell⟩ := hr.cells h0
  refine Tryz.strings_Join b off cap ss ⟨#[46]⟩ w (fun j x hx => ?_) hb (by omega) hc ?_
  · obtain ⟨hj, rfl⟩ := List.getElem?_eq_some_iff.1 hx
    exact hcell j hj
  · have := joinS_size ss hz hl
    have e : (joinS ss).size = (Lib.join (ss.map (·.data.toList)) [46]).length := rfl
    rw [e] at this
    show (Lib.join (ss.map (·.data.toList)) [46]).length ≤ _
    omega
def headS (V : Vr) : ByteArray := itoaS V.ma ++ ⟨#[46]⟩ ++ itoaS V.mi ++ ⟨#[46]⟩ ++ itoaS V.pa
def preS (V : Vr) : ByteArray := if 0 < V.pre.length then headS V ++ (⟨#[45]⟩ ++ joinS V.pre) else headS V
def textS (V : Vr) : ByteArray := if 0 < V.build.length then preS V ++ (⟨#[43]⟩ ++ joinS V.build) else preS V
set_option maxHeartbeats 8000000 in
set_option maxRecDepth 100000 in
theorem text_bad (V : Vr) (po bo : Option Addr) (pc bc : Nat) (w : World) (hV : VerC w po bo V) (hE : Errs w) (hr : rightB V = false) :
    Calls Tryz.prog 5 #[verV V po pc bo bc] w fun e w' => e = .returned (.tuple #[.string ⟨#[]⟩, .int .i64 1]) ∧ Below w.heap.size w w' := by
  obtain ⟨wa, ha⟩ : ∃ wa, w.alloc (.cells #[.int .i64 V.ma, .int .i64 V.mi, .int .i64 V.pa, .slice po V.pre.length pc, .slice bo V.build.length bc] 24) = wa := ⟨_, rfl⟩
  obtain ⟨k1, q1, -⟩ := box_new ha
  have BW := Lib.hid q1
  have HR := right_any V po bo pc bc wa (hV.below q1) (hE.below q1)
  rw [hr] at HR
  have HRR := Lib.hid HR
  obtain ⟨c0, c1, c2, c3, c4⟩ := cell5 k1
  unfold verV at *
  clear hV hE hr k1 q1 HR
  go_enter Tryz.func5, Tryz.ntmps5
  go_wp2_with fail
  refine HRR.out.mono ?_
  rintro e w1 ⟨rfl, b1⟩
  have B1 := Lib.hid (BW.out.trans (b1.mono BW.out.size))
  clear b1 c0 c1 c2 c3 c4 ha
  go_wp2_with fail
  go_ret2
  exact ⟨rfl, B1.out⟩
theorem ret_tupS {a b : ByteArray} (h : a = b) : Ending.returned (.tuple #[.string a, .int .i64 0]) = .returned (.tuple #[.string b, .int .i64 0]) := by rw [h]
set_option maxHeartbeats 16000000 in
set_option maxRecDepth 100000 in
theorem text_pb (V : Vr) (po bo : Option Addr) (pc bc : Nat) (w : World) (hV : VerC w po bo V) (hE : Errs w) (hT : PowAt w) (hr : rightB V = true) (hcp : V.pre.length ≤ pc) (hcb : V.build.length ≤ bc) (hp : 0 < V.pre.length) (hb : 0 < V.build.length) :
    Calls Tryz.prog 5 #[verV V po pc bo bc] w fun e w' => e = .returned (.tuple #[.string (textS V), .int .i64 0]) ∧ Below w.heap.size w w' := by
  obtain ⟨wa, ha⟩ : ∃ wa, w.alloc (.cells #[.int .i64 V.ma, .int .i64 V.mi, .int .i64 V.pa, .slice po V.pre.length pc, .slice bo V.build.length bc] 24) = wa := ⟨_, rfl⟩
  obtain ⟨k1, q1, -⟩ := box_new ha
  have BW := Lib.hid q1
  have HR := right_any V po bo pc bc wa (hV.below q1) (hE.below q1)
  rw [hr] at HR
  have HRR := Lib.hid HR
  have K1 := Lib.hid k1
  have I0 := fun w h => Lib.hid (itoa_any V.ma w hV.nums.1.1 hV.nums.1.2 h)
  have I1 := fun w h => Lib.hid (itoa_any V.mi w hV.nums.2.1.1 hV.nums.2.1.2 h)
  have I2 := fun w h => Lib.hid (itoa_any V.pa w hV.nums.2.2.1 hV.nums.2.2.2 h)
  have z0 := itoaS_size V.ma hV.nums.1.1 hV.nums.1.2
  have z1 := itoaS_size V.mi hV.nums.2.1.1 hV.nums.2.1.2
  have z2 := itoaS_size V.pa hV.nums.2.2.1 hV.nums.2.2.2
  have hpl := hV.pl
  have hbl := hV.bl
  have HT := Lib.hid hT
  have HV := Lib.hid hV
  have Hres := Lib.hid (show textS V = ((itoaS V.ma ++ ⟨#[46]⟩ ++ itoaS V.mi ++ ⟨#[46]⟩ ++ itoaS V.pa ++ (⟨#[45]⟩ ++ joinS V.pre)) ++ (⟨#[43]⟩ ++ joinS V.build)) by unfold textS preS headS; rw [if_pos hb, if_pos hp])
  generalize itoaS V.ma = s0 at *
  generalize itoaS V.mi = s1 at *
  generalize itoaS V.pa = s2 at *
  have n1 : ¬ 9223372036854775807 < s0.size + 1 := by omega
  have n2 : ¬ 9223372036854775807 < s0.size + 1 + s1.size := by omega
  have n3 : ¬ 9223372036854775807 < s0.size + 1 + s1.size + 1 := by omega
  have n4 : ¬ 9223372036854775807 < s0.size + 1 + s1.size + 1 + s2.size := by omega
  have J1 := fun w h => Lib.hid (join_any po pc V.pre w h hp hV.ps hV.pl hcp)
  have y1 := joinS_size V.pre hV.ps hV.pl
  generalize joinS V.pre = j1 at *
  have n5 : ¬ 9223372036854775807 < 1 + j1.size := by omega
  have n6 : ¬ 9223372036854775807 < s0.size + 1 + s1.size + 1 + s2.size + (1 + j1.size) := by omega
  have J2 := fun w h => Lib.hid (join_any bo bc V.build w h hb hV.bs hV.bl hcb)
  have y2 := joinS_size V.build hV.bs hV.bl
  generalize joinS V.build = j2 at *
  have n7 : ¬ 9223372036854775807 < 1 + j2.size := by omega
  have n8 : ¬ 9223372036854775807 < s0.size + 1 + s1.size + 1 + s2.size + (1 + j1.size) + (1 + j2.size) := by omega
  have hp2 : decide (0 < V.pre.length) = true := decide_eq_true hp
  have hb2 : decide (0 < V.build.length) = true := decide_eq_true hb
  obtain ⟨c0, c1, c2, c3, c4⟩ := cell5 k1
  unfold verV at *
  clear hV hE hr k1 q1 HR hT
  go_enter Tryz.func5, Tryz.ntmps5
  go_wp2_with fail
  refine HRR.out.mono ?_
  rintro e w1 ⟨rfl, b1⟩
  have B1 := Lib.hid (BW.out.trans (b1.mono BW.out.size))
  have K2 := Lib.hid (K1.out.below b1)
  clear b1 c0 c1 c2 c3 c4 ha BW K1
  obtain ⟨c0, c1, c2, c3, c4⟩ := cell5 K2.out
  go_wp2_with fail
  refine GoG.start [(13, ⟨w.heap.size, 0, none⟩, .int .i64 V.ma), (13, ⟨w.heap.size, 1, none⟩, .int .i64 V.mi), (13, ⟨w.heap.size, 2, none⟩, .int .i64 V.pa)] (by kernel_rfl) ?_ ?_
  · exact Keeps.cons (by first | assumption | simp [*]) (Keeps.cons (by first | assumption | simp [*]) (Keeps.cons (by first | assumption | simp [*]) (Keeps.nil)))
  refine GoG.take (i := 0) (v := ?_) [] rfl (by kernel_rfl) (by kernel_rfl) (by kernel_rfl) (by kernel_rfl) (by kernel_rfl) (by kernel_rfl) (fun _ _ _ h => h) (yields_free (by rfl) (fun w => ?_)) ?_
  rotate_left
  · go_simp; try (with_reducible rfl)
  try simp only [Act.put, List.setIfInBounds_toArray, List.set_cons_zero, List.set_cons_succ]
  refine GoG.take (i := 1) (v := ?_) [2, 6, 11, 13] rfl (by kernel_rfl) (by kernel_rfl) (by kernel_rfl) (by kernel_rfl) (by kernel_rfl) (by kernel_rfl) (fun _ _ _ h => h) (yields_load 13 ⟨w.heap.size, 0, none⟩ (.int .i64 V.ma) (by simp) (by decide) (by rfl) (fun w hw => ?_)) ?_
  rotate_left
  · go_simp; try (with_reducible rfl)
  try simp only [Act.put, List.setIfInBounds_toArray, List.set_cons_zero, List.set_cons_succ]
  refine GoG.take (i := 4) (v := ?_) [] rfl (by kernel_rfl) (by kernel_rfl) (by kernel_rfl) (by kernel_rfl) (by kernel_rfl) (by kernel_rfl) (fun _ _ _ h => h) (yields_free (by rfl) (fun w => ?_)) ?_
  rotate_left
  · go_simp; try (with_reducible rfl)
  try simp only [Act.put, List.setIfInBounds_toArray, List.set_cons_zero, List.set_cons_succ]
  refine GoG.take (i := 5) (v := ?_) [6, 11, 13] rfl (by kernel_rfl) (by kernel_rfl) (by kernel_rfl) (by kernel_rfl) (by kernel_rfl) (by kernel_rfl) (fun _ _ _ h => h) (yields_load 13 ⟨w.heap.size, 1, none⟩ (.int .i64 V.mi) (by simp) (by decide) (by rfl) (fun w hw => ?_)) ?_
  rotate_left
  · go_simp; try (with_reducible rfl)
  try simp only [Act.put, List.setIfInBounds_toArray, List.set_cons_zero, List.set_cons_succ]
  refine GoG.take (i := 9) (v := ?_) [] rfl (by kernel_rfl) (by kernel_rfl) (by kernel_rfl) (by kernel_rfl) (by kernel_rfl) (by kernel_rfl) (fun _ _ _ h => h) (yields_free (by rfl) (fun w => ?_)) ?_
  rotate_left
  · go_simp; try (with_reducible rfl)
  try simp only [Act.put, List.setIfInBounds_toArray, List.set_cons_zero, List.set_cons_succ]
  refine GoG.take (i := 10) (v := ?_) [11, 13] rfl (by kernel_rfl) (by kernel_rfl) (by kernel_rfl) (by kernel_rfl) (by kernel_rfl) (by kernel_rfl) (fun _ _ _ h => h) (yields_load 13 ⟨w.heap.size, 2, none⟩ (.int .i64 V.pa) (by simp) (by decide) (by rfl) (fun w hw => ?_)) ?_
  rotate_left
  · go_simp; try (with_reducible rfl)
  try simp only [Act.put, List.setIfInBounds_toArray, List.set_cons_zero, List.set_cons_succ]
  have BD := Lib.hid (show Below w.heap.size w w1.drew from B1.out.drew)
  have KD := Lib.hid (show BlockAt w1.drew w.heap.size _ _ from K2.out.below ((Below.refl _ _).drew))
  refine GoG.one (i := 2) rfl (by kernel_rfl) (fun K hK => ?_)
  go_simp
  refine (I0 _ (HT.out.below BD.out)).out.mono ?_
  rintro e w2 ⟨rfl, bb⟩
  have B2 := Lib.hid (BD.out.trans (bb.mono BD.out.size))
  have K3 := Lib.hid (KD.out.below bb)
  clear c0 c1 c2 c3 c4
  obtain ⟨c0, c1, c2, c3, c4⟩ := cell5 K3.out
  refine hK.out _ _ (Keeps.cons (by first | assumption | simp [*]) (Keeps.cons (by first | assumption | simp [*]) (Keeps.cons (by first | assumption | simp [*]) Keeps.nil))) ?_
  clear hK K bb
  refine GoG.take (i := 3) (v := ?_) [] rfl (by kernel_rfl) (by kernel_rfl) (by kernel_rfl) (by kernel_rfl) (by kernel_rfl) (by kernel_rfl) (fun _ _ _ h => h) (yields_free (by rfl) (fun w => ?_)) ?_
  rotate_left
  · go_simp; try (with_reducible rfl)
  try simp only [Act.put, List.setIfInBounds_toArray, List.set_cons_zero, List.set_cons_succ]
  refine GoG.one (i := 6) rfl (by kernel_rfl) (fun K hK => ?_)
  go_simp
  refine (I1 _ (HT.out.below B2.out)).out.mono ?_
  rintro e w3 ⟨rfl, bb⟩
  have B3 := Lib.hid (B2.out.trans (bb.mono B2.out.size))
  have K4 := Lib.hid (K3.out.below bb)
  clear c0 c1 c2 c3 c4
  obtain ⟨c0, c1, c2, c3, c4⟩ := cell5 K4.out
  refine hK.out _ _ (Keeps.cons (by first | assumption | simp [*]) (Keeps.cons (by first | assumption | simp [*]) (Keeps.cons (by first | assumption | simp [*]) Keeps.nil))) ?_
  clear hK K bb
  refine GoG.take (i := 7) (v := ?_) [] rfl (by kernel_rfl) (by kernel_rfl) (by kernel_rfl) (by kernel_rfl) (by kernel_rfl) (by kernel_rfl) (fun _ _ _ h => h) (yields_free (by rfl) (fun w => ?_)) ?_
  rotate_left
  · go_simp; try (with_reducible rfl)
  try simp only [Act.put, List.setIfInBounds_toArray, List.set_cons_zero, List.set_cons_succ]
  refine GoG.take (i := 8) (v := ?_) [] rfl (by kernel_rfl) (by kernel_rfl) (by kernel_rfl) (by kernel_rfl) (by kernel_rfl) (by kernel_rfl) (fun _ _ _ h => h) (yields_free (by rfl) (fun w => ?_)) ?_
  rotate_left
  · go_simp; try (with_reducible rfl)
  try simp only [Act.put, List.setIfInBounds_toArray, List.set_cons_zero, List.set_cons_succ]
  refine GoG.one (i := 11) rfl (by kernel_rfl) (fun K hK => ?_)
  go_simp
  refine (I2 _ (HT.out.below B3.out)).out.mono ?_
  rintro e w4 ⟨rfl, bb⟩
  have B4 := Lib.hid (B3.out.trans (bb.mono B3.out.size))
  have K5 := Lib.hid (K4.out.below bb)
  clear c0 c1 c2 c3 c4
  obtain ⟨c0, c1, c2, c3, c4⟩ := cell5 K5.out
  refine hK.out _ _ (Keeps.cons (by first | assumption | simp [*]) (Keeps.cons (by first | assumption | simp [*]) (Keeps.cons (by first | assumption | simp [*]) Keeps.nil))) ?_
  clear hK K bb
  refine GoG.take (i := 12) (v := ?_) [] rfl (by kernel_rfl) (by kernel_rfl) (by kernel_rfl) (by kernel_rfl) (by kernel_rfl) (by kernel_rfl) (fun _ _ _ h => h) (yields_free (by rfl) (fun w => ?_)) ?_
  rotate_left
  · go_simp; try (with_reducible rfl)
  try simp only [Act.put, List.setIfInBounds_toArray, List.set_cons_zero, List.set_cons_succ]
  refine GoG.one (i := 13) rfl (by kernel_rfl) (fun K hK => ?_)
  go_simp
  refine hK.out _ _ (Keeps.up (by rfl) (Keeps.up (by rfl) (Keeps.up (by rfl) Keeps.nil))) ?_
  clear hK K
  refine GoG.done (by kernel_rfl) ?_ _
  go_wp2_with fail
  refine (J1 _ (HV.out.pre.below B4.out)).out.mono ?_
  rintro e w5 ⟨rfl, bb⟩
  have B5 := Lib.hid (B4.out.trans (bb.mono B4.out.size))
  have K6 := Lib.hid (K5.out.below bb)
  clear c0 c1 c2 c3 c4 bb
  obtain ⟨c0, c1, c2, c3, c4⟩ := cell5 K6.out
  go_wp2_with fail
  refine (J2 _ (HV.out.build.below B5.out)).out.mono ?_
  rintro e w6 ⟨rfl, bb⟩
  have B6 := Lib.hid (B5.out.trans (bb.mono B5.out.size))
  clear c0 c1 c2 c3 c4 bb
  go_wp2_with fail
  go_ret2
  exact ⟨ret_tupS Hres.out.symm, B6.out⟩
set_option maxHeartbeats 16000000 in
set_option maxRecDepth 100000 in
theorem text_pn (V : Vr) (po bo : Option Addr) (pc bc : Nat) (w : World) (hV : VerC w po bo V) (hE : Errs w) (hT : PowAt w) (hr : rightB V = true) (hcp : V.pre.length ≤ pc) (hcb : V.build.length ≤ bc) (hp : 0 < V.pre.length) (hb : ¬ 0 < V.build.length) :
    Calls Tryz.prog 5 #[verV V po pc bo bc] w fun e w' => e = .returned (.tuple #[.string (textS V), .int .i64 0]) ∧ Below w.heap.size w w' := by
  obtain ⟨wa, ha⟩ : ∃ wa, w.alloc (.cells #[.int .i64 V.ma, .int .i64 V.mi, .int .i64 V.pa, .slice po V.pre.length pc, .slice bo V.build.length bc] 24) = wa := ⟨_, rfl⟩
  obtain ⟨k1, q1, -⟩ := box_new ha
  have BW := Lib.hid q1
  have HR := right_any V po bo pc bc wa (hV.below q1) (hE.below q1)
  rw [hr] at HR
  have HRR := Lib.hid HR
  have K1 := Lib.hid k1
  have I0 := fun w h => Lib.hid (itoa_any V.ma w hV.nums.1.1 hV.nums.1.2 h)
  have I1 := fun w h => Lib.hid (itoa_any V.mi w hV.nums.2.1.1 hV.nums.2.1.2 h)
  have I2 := fun w h => Lib.hid (itoa_any V.pa w hV.nums.2.2.1 hV.nums.2.2.2 h)
  have z0 := itoaS_size V.ma hV.nums.1.1 hV.nums.1.2
  have z1 := itoaS_size V.mi hV.nums.2.1.1 hV.nums.2.1.2
  have z2 := itoaS_size V.pa hV.nums.2.2.1 hV.nums.2.2.2
  have hpl := hV.pl
  have hbl := hV.bl
  have HT := Lib.hid hT
  have HV := Lib.hid hV
  have Hres := Lib.hid (show textS V = (itoaS V.ma ++ ⟨#[46]⟩ ++ itoaS V.mi ++ ⟨#[46]⟩ ++ itoaS V.pa ++ (⟨#[45]⟩ ++ joinS V.pre)) by unfold textS preS headS; rw [if_neg hb, if_pos hp])
  generalize itoaS V.ma = s0 at *
  generalize itoaS V.mi = s1 at *
  generalize itoaS V.pa = s2 at *
  have n1 : ¬ 9223372036854775807 < s0.size + 1 := by omega
  have n2 : ¬ 9223372036854775807 < s0.size + 1 + s1.size := by omega
  have n3 : ¬ 9223372036854775807 < s0.size + 1 + s1.size + 1 := by omega
  have n4 : ¬ 9223372036854775807 < s0.size + 1 + s1.size + 1 + s2.size := by omega
  have J1 := fun w h => Lib.hid (join_any po pc V.pre w h hp hV.ps hV.pl hcp)
  have y1 := joinS_size V.pre hV.ps hV.pl
  generalize joinS V.pre = j1 at *
  have n5 : ¬ 9223372036854775807 < 1 + j1.size := by omega
  have n6 : ¬ 9223372036854775807 < s0.size + 1 + s1.size + 1 + s2.size + (1 + j1.size) := by omega
  have hp2 : decide (0 < V.pre.length) = true := decide_eq_true hp
  have hb2 : decide (0 < V.build.length) = false := decide_eq_false hb
  obtain ⟨c0, c1, c2, c3, c4⟩ := cell5 k1
  unfold verV at *
  clear hV hE hr k1 q1 HR hT
  go_enter Tryz.func5, Tryz.ntmps5
  go_wp2_with fail
  refine HRR.out.mono ?_
  rintro e w1 ⟨rfl, b1⟩
  have B1 := Lib.hid (BW.out.trans (b1.mono BW.out.size))
  have K2 := Lib.hid (K1.out.below b1)
  clear b1 c0 c1 c2 c3 c4 ha BW K1
  obtain ⟨c0, c1, c2, c3, c4⟩ := cell5 K2.out
  go_wp2_with fail
  refine GoG.start [(13, ⟨w.heap.size, 0, none⟩, .int .i64 V.ma), (13, ⟨w.heap.size, 1, none⟩, .int .i64 V.mi), (13, ⟨w.heap.size, 2, none⟩, .int .i64 V.pa)] (by kernel_rfl) ?_ ?_
  · exact Keeps.cons (by first | assumption | simp [*]) (Keeps.cons (by first | assumption | simp [*]) (Keeps.cons (by first | assumption | simp [*]) (Keeps.nil)))
  refine GoG.take (i := 0) (v := ?_) [] rfl (by kernel_rfl) (by kernel_rfl) (by kernel_rfl) (by kernel_rfl) (by kernel_rfl) (by kernel_rfl) (fun _ _ _ h => h) (yields_free (by rfl) (fun w => ?_)) ?_
  rotate_left
  · go_simp; try (with_reducible rfl)
  try simp only [Act.put, List.setIfInBounds_toArray, List.set_cons_zero, List.set_cons_succ]
  refine GoG.take (i := 1) (v := ?_) [2, 6, 11, 13] rfl (by kernel_rfl) (by kernel_rfl) (by kernel_rfl) (by kernel_rfl) (by kernel_rfl) (by kernel_rfl) (fun _ _ _ h => h) (yields_load 13 ⟨w.heap.size, 0, none⟩ (.int .i64 V.ma) (by simp) (by decide) (by rfl) (fun w hw => ?_)) ?_
  rotate_left
  · go_simp; try (with_reducible rfl)
  try simp only [Act.put, List.setIfInBounds_toArray, List.set_cons_zero, List.set_cons_succ]
  refine GoG.take (i := 4) (v := ?_) [] rfl (by kernel_rfl) (by kernel_rfl) (by kernel_rfl) (by kernel_rfl) (by kernel_rfl) (by kernel_rfl) (fun _ _ _ h => h) (yields_free (by rfl) (fun w => ?_)) ?_
  rotate_left
  · go_simp; try (with_reducible rfl)
  try simp only [Act.put, List.setIfInBounds_toArray, List.set_cons_zero, List.set_cons_succ]
  refine GoG.take (i := 5) (v := ?_) [6, 11, 13] rfl (by kernel_rfl) (by kernel_rfl) (by kernel_rfl) (by kernel_rfl) (by kernel_rfl) (by kernel_rfl) (fun _ _ _ h => h) (yields_load 13 ⟨w.heap.size, 1, none⟩ (.int .i64 V.mi) (by simp) (by decide) (by rfl) (fun w hw => ?_)) ?_
  rotate_left
  · go_simp; try (with_reducible rfl)
  try simp only [Act.put, List.setIfInBounds_toArray, List.set_cons_zero, List.set_cons_succ]
  refine GoG.take (i := 9) (v := ?_) [] rfl (by kernel_rfl) (by kernel_rfl) (by kernel_rfl) (by kernel_rfl) (by kernel_rfl) (by kernel_rfl) (fun _ _ _ h => h) (yields_free (by rfl) (fun w => ?_)) ?_
  rotate_left
  · go_simp; try (with_reducible rfl)
  try simp only [Act.put, List.setIfInBounds_toArray, List.set_cons_zero, List.set_cons_succ]
  refine GoG.take (i := 10) (v := ?_) [11, 13] rfl (by kernel_rfl) (by kernel_rfl) (by kernel_rfl) (by kernel_rfl) (by kernel_rfl) (by kernel_rfl) (fun _ _ _ h => h) (yields_load 13 ⟨w.heap.size, 2, none⟩ (.int .i64 V.pa) (by simp) (by decide) (by rfl) (fun w hw => ?_)) ?_
  rotate_left
  · go_simp; try (with_reducible rfl)
  try simp only [Act.put, List.setIfInBounds_toArray, List.set_cons_zero, List.set_cons_succ]
  have BD := Lib.hid (show Below w.heap.size w w1.drew from B1.out.drew)
  have KD := Lib.hid (show BlockAt w1.drew w.heap.size _ _ from K2.out.below ((Below.refl _ _).drew))
  refine GoG.one (i := 2) rfl (by kernel_rfl) (fun K hK => ?_)
  go_simp
  refine (I0 _ (HT.out.below BD.out)).out.mono ?_
  rintro e w2 ⟨rfl, bb⟩
  have B2 := Lib.hid (BD.out.trans (bb.mono BD.out.size))
  have K3 := Lib.hid (KD.out.below bb)
  clear c0 c1 c2 c3 c4
  obtain ⟨c0, c1, c2, c3, c4⟩ := cell5 K3.out
  refine hK.out _ _ (Keeps.cons (by first | assumption | simp [*]) (Keeps.cons (by first | assumption | simp [*]) (Keeps.cons (by first | assumption | simp [*]) Keeps.nil))) ?_
  clear hK K bb
  refine GoG.take (i := 3) (v := ?_) [] rfl (by kernel_rfl) (by kernel_rfl) (by kernel_rfl) (by kernel_rfl) (by kernel_rfl) (by kernel_rfl) (fun _ _ _ h => h) (yields_free (by rfl) (fun w => ?_)) ?_
  rotate_left
  · go_simp; try (with_reducible rfl)
  try simp only [Act.put, List.setIfInBounds_toArray, List.set_cons_zero, List.set_cons_succ]
  refine GoG.one (i := 6) rfl (by kernel_rfl) (fun K hK => ?_)
  go_simp
  refine (I1 _ (HT.out.below B2.out)).out.mono ?_
  rintro e w3 ⟨rfl, bb⟩
  have B3 := Lib.hid (B2.out.trans (bb.mono B2.out.size))
  have K4 := Lib.hid (K3.out.below bb)
  clear c0 c1 c2 c3 c4
  obtain ⟨c0, c1, c2, c3, c4⟩ := cell5 K4.out
  refine hK.out _ _ (Keeps.cons (by first | assumption | simp [*]) (Keeps.cons (by first | assumption | simp [*]) (Keeps.cons (by first | assumption | simp [*]) Keeps.nil))) ?_
  clear hK K bb
  refine GoG.take (i := 7) (v := ?_) [] rfl (by kernel_rfl) (by kernel_rfl) (by kernel_rfl) (by kernel_rfl) (by kernel_rfl) (by kernel_rfl) (fun _ _ _ h => h) (yields_free (by rfl) (fun w => ?_)) ?_
  rotate_left
  · go_simp; try (with_reducible rfl)
  try simp only [Act.put, List.setIfInBounds_toArray, List.set_cons_zero, List.set_cons_succ]
  refine GoG.take (i := 8) (v := ?_) [] rfl (by kernel_rfl) (by kernel_rfl) (by kernel_rfl) (by kernel_rfl) (by kernel_rfl) (by kernel_rfl) (fun _ _ _ h => h) (yields_free (by rfl) (fun w => ?_)) ?_
  rotate_left
  · go_simp; try (with_reducible rfl)
  try simp only [Act.put, List.setIfInBounds_toArray, List.set_cons_zero, List.set_cons_succ]
  refine GoG.one (i := 11) rfl (by kernel_rfl) (fun K hK => ?_)
  go_simp
  refine (I2 _ (HT.out.below B3.out)).out.mono ?_
  rintro e w4 ⟨rfl, bb⟩
  have B4 := Lib.hid (B3.out.trans (bb.mono B3.out.size))
  have K5 := Lib.hid (K4.out.below bb)
  clear c0 c1 c2 c3 c4
  obtain ⟨c0, c1, c2, c3, c4⟩ := cell5 K5.out
  refine hK.out _ _ (Keeps.cons (by first | assumption | simp [*]) (Keeps.cons (by first | assumption | simp [*]) (Keeps.cons (by first | assumption | simp [*]) Keeps.nil))) ?_
  clear hK K bb
  refine GoG.take (i := 12) (v := ?_) [] rfl (by kernel_rfl) (by kernel_rfl) (by kernel_rfl) (by kernel_rfl) (by kernel_rfl) (by kernel_rfl) (fun _ _ _ h => h) (yields_free (by rfl) (fun w => ?_)) ?_
  rotate_left
  · go_simp; try (with_reducible rfl)
  try simp only [Act.put, List.setIfInBounds_toArray, List.set_cons_zero, List.set_cons_succ]
  refine GoG.one (i := 13) rfl (by kernel_rfl) (fun K hK => ?_)
  go_simp
  refine hK.out _ _ (Keeps.up (by rfl) (Keeps.up (by rfl) (Keeps.up (by rfl) Keeps.nil))) ?_
  clear hK K
  refine GoG.done (by kernel_rfl) ?_ _
  go_wp2_with fail
  refine (J1 _ (HV.out.pre.below B4.out)).out.mono ?_
  rintro e w5 ⟨rfl, bb⟩
  have B5 := Lib.hid (B4.out.trans (bb.mono B4.out.size))
  have K6 := Lib.hid (K5.out.below bb)
  clear c0 c1 c2 c3 c4 bb
  obtain ⟨c0, c1, c2, c3, c4⟩ := cell5 K6.out
  go_wp2_with fail
  go_ret2
  exact ⟨ret_tupS Hres.out.symm, B5.out⟩
set_option maxHeartbeats 16000000 in
set_option maxRecDepth 100000 in
theorem text_nb (V : Vr) (po bo : Option Addr) (pc bc : Nat) (w : World) (hV : VerC w po bo V) (hE : Errs w) (hT : PowAt w) (hr : rightB V = true) (hcp : V.pre.length ≤ pc) (hcb : V.build.length ≤ bc) (hp : ¬ 0 < V.pre.length) (hb : 0 < V.build.length) :
    Calls Tryz.prog 5 #[verV V po pc bo bc] w fun e w' => e = .returned (.tuple #[.string (textS V), .int .i64 0]) ∧ Below w.heap.size w w' := by
  obtain ⟨wa, ha⟩ : ∃ wa, w.alloc (.cells #[.int .i64 V.ma, .int .i64 V.mi, .int .i64 V.pa, .slice po V.pre.length pc, .slice bo V.build.length bc] 24) = wa := ⟨_, rfl⟩
  obtain ⟨k1, q1, -⟩ := box_new ha
  have BW := Lib.hid q1
  have HR := right_any V po bo pc bc wa (hV.below q1) (hE.below q1)
  rw [hr] at HR
  have HRR := Lib.hid HR
  have K1 := Lib.hid k1
  have I0 := fun w h => Lib.hid (itoa_any V.ma w hV.nums.1.1 hV.nums.1.2 h)
  have I1 := fun w h => Lib.hid (itoa_any V.mi w hV.nums.2.1.1 hV.nums.2.1.2 h)
  have I2 := fun w h => Lib.hid (itoa_any V.pa w hV.nums.2.2.1 hV.nums.2.2.2 h)
  have z0 := itoaS_size V.ma hV.nums.1.1 hV.nums.1.2
  have z1 := itoaS_size V.mi hV.nums.2.1.1 hV.nums.2.1.2
  have z2 := itoaS_size V.pa hV.nums.2.2.1 hV.nums.2.2.2
  have hpl := hV.pl
  have hbl := hV.bl
  have HT := Lib.hid hT
  have HV := Lib.hid hV
  have Hres := Lib.hid (show textS V = (itoaS V.ma ++ ⟨#[46]⟩ ++ itoaS V.mi ++ ⟨#[46]⟩ ++ itoaS V.pa ++ (⟨#[43]⟩ ++ joinS V.build)) by unfold textS preS headS; rw [if_pos hb, if_neg hp])
  generalize itoaS V.ma = s0 at *
  generalize itoaS V.mi = s1 at *
  generalize itoaS V.pa = s2 at *
  have n1 : ¬ 9223372036854775807 < s0.size + 1 := by omega
  have n2 : ¬ 9223372036854775807 < s0.size + 1 + s1.size := by omega
  have n3 : ¬ 9223372036854775807 < s0.size + 1 + s1.size + 1 := by omega
  have n4 : ¬ 9223372036854775807 < s0.size + 1 + s1.size + 1 + s2.size := by omega
  have J2 := fun w h => Lib.hid (join_any bo bc V.build w h hb hV.bs hV.bl hcb)
  have y2 := joinS_size V.build hV.bs hV.bl
  generalize joinS V.build = j2 at *
  have n7 : ¬ 9223372036854775807 < 1 + j2.size := by omega
  have n8 : ¬ 9223372036854775807 < s0.size + 1 + s1.size + 1 + s2.size + (1 + j2.size) := by omega
  have hp2 : decide (0 < V.pre.length) = false := decide_eq_false hp
  have hb2 : decide (0 < V.build.length) = true := decide_eq_true hb
  obtain ⟨c0, c1, c2, c3, c4⟩ := cell5 k1
  unfold verV at *
  clear hV hE hr k1 q1 HR hT
  go_enter Tryz.func5, Tryz.ntmps5
  go_wp2_with fail
  refine HRR.out.mono ?_
  rintro e w1 ⟨rfl, b1⟩
  have B1 := Lib.hid (BW.out.trans (b1.mono BW.out.size))
  have K2 := Lib.hid (K1.out.below b1)
  clear b1 c0 c1 c2 c3 c4 ha BW K1
  obtain ⟨c0, c1, c2, c3, c4⟩ := cell5 K2.out
  go_wp2_with fail
  refine GoG.start [(13, ⟨w.heap.size, 0, none⟩, .int .i64 V.ma), (13, ⟨w.heap.size, 1, none⟩, .int .i64 V.mi), (13, ⟨w.heap.size, 2, none⟩, .int .i64 V.pa)] (by kernel_rfl) ?_ ?_
  · exact Keeps.cons (by first | assumption | simp [*]) (Keeps.cons (by first | assumption | simp [*]) (Keeps.cons (by first | assumption | simp [*]) (Keeps.nil)))
  refine GoG.take (i := 0) (v := ?_) [] rfl (by kernel_rfl) (by kernel_rfl) (by kernel_rfl) (by kernel_rfl) (by kernel_rfl) (by kernel_rfl) (fun _ _ _ h => h) (yields_free (by rfl) (fun w => ?_)) ?_
  rotate_left
  · go_simp; try (with_reducible rfl)
  try simp only [Act.put, List.setIfInBounds_toArray, List.set_cons_zero, List.set_cons_succ]
  refine GoG.take (i := 1) (v := ?_) [2, 6, 11, 13] rfl (by kernel_rfl) (by kernel_rfl) (by kernel_rfl) (by kernel_rfl) (by kernel_rfl) (by kernel_rfl) (fun _ _ _ h => h) (yields_load 13 ⟨w.heap.size, 0, none⟩ (.int .i64 V.ma) (by simp) (by decide) (by rfl) (fun w hw => ?_)) ?_
  rotate_left
  · go_simp; try (with_reducible rfl)
  try simp only [Act.put, List.setIfInBounds_toArray, List.set_cons_zero, List.set_cons_succ]
  refine GoG.take (i := 4) (v := ?_) [] rfl (by kernel_rfl) (by kernel_rfl) (by kernel_rfl) (by kernel_rfl) (by kernel_rfl) (by kernel_rfl) (fun _ _ _ h => h) (yields_free (by rfl) (fun w => ?_)) ?_
  rotate_left
  · go_simp; try (with_reducible rfl)
  try simp only [Act.put, List.setIfInBounds_toArray, List.set_cons_zero, List.set_cons_succ]
  refine GoG.take (i := 5) (v := ?_) [6, 11, 13] rfl (by kernel_rfl) (by kernel_rfl) (by kernel_rfl) (by kernel_rfl) (by kernel_rfl) (by kernel_rfl) (fun _ _ _ h => h) (yields_load 13 ⟨w.heap.size, 1, none⟩ (.int .i64 V.mi) (by simp) (by decide) (by rfl) (fun w hw => ?_)) ?_
  rotate_left
  · go_simp; try (with_reducible rfl)
  try simp only [Act.put, List.setIfInBounds_toArray, List.set_cons_zero, List.set_cons_succ]
  refine GoG.take (i := 9) (v := ?_) [] rfl (by kernel_rfl) (by kernel_rfl) (by kernel_rfl) (by kernel_rfl) (by kernel_rfl) (by kernel_rfl) (fun _ _ _ h => h) (yields_free (by rfl) (fun w => ?_)) ?_
  rotate_left
  · go_simp; try (with_reducible rfl)
  try simp only [Act.put, List.setIfInBounds_toArray, List.set_cons_zero, List.set_cons_succ]
  refine GoG.take (i := 10) (v := ?_) [11, 13] rfl (by kernel_rfl) (by kernel_rfl) (by kernel_rfl) (by kernel_rfl) (by kernel_rfl) (by kernel_rfl) (fun _ _ _ h => h) (yields_load 13 ⟨w.heap.size, 2, none⟩ (.int .i64 V.pa) (by simp) (by decide) (by rfl) (fun w hw => ?_)) ?_
  rotate_left
  · go_simp; try (with_reducible rfl)
  try simp only [Act.put, List.setIfInBounds_toArray, List.set_cons_zero, List.set_cons_succ]
  have BD := Lib.hid (show Below w.heap.size w w1.drew from B1.out.drew)
  have KD := Lib.hid (show BlockAt w1.drew w.heap.size _ _ from K2.out.below ((Below.refl _ _).drew))
  refine GoG.one (i := 2) rfl (by kernel_rfl) (fun K hK => ?_)
  go_simp
  refine (I0 _ (HT.out.below BD.out)).out.mono ?_
  rintro e w2 ⟨rfl, bb⟩
  have B2 := Lib.hid (BD.out.trans (bb.mono BD.out.size))
  have K3 := Lib.hid (KD.out.below bb)
  clear c0 c1 c2 c3 c4
  obtain ⟨c0, c1, c2, c3, c4⟩ := cell5 K3.out
  refine hK.out _ _ (Keeps.cons (by first | assumption | simp [*]) (Keeps.cons (by first | assumption | simp [*]) (Keeps.cons (by first | assumption | simp [*]) Keeps.nil))) ?_
  clear hK K bb
  refine GoG.take (i := 3) (v := ?_) [] rfl (by kernel_rfl) (by kernel_rfl) (by kernel_rfl) (by kernel_rfl) (by kernel_rfl) (by kernel_rfl) (fun _ _ _ h => h) (yields_free (by rfl) (fun w => ?_)) ?_
  rotate_left
  · go_simp; try (with_reducible rfl)
  try simp only [Act.put, List.setIfInBounds_toArray, List.set_cons_zero, List.set_cons_succ]
  refine GoG.one (i := 6) rfl (by kernel_rfl) (fun K hK => ?_)
  go_simp
  refine (I1 _ (HT.out.below B2.out)).out.mono ?_
  rintro e w3 ⟨rfl, bb⟩
  have B3 := Lib.hid (B2.out.trans (bb.mono B2.out.size))
  have K4 := Lib.hid (K3.out.below bb)
  clear c0 c1 c2 c3 c4
  obtain ⟨c0, c1, c2, c3, c4⟩ := cell5 K4.out
  refine hK.out _ _ (Keeps.cons (by first | assumption | simp [*]) (Keeps.cons (by first | assumption | simp [*]) (Keeps.cons (by first | assumption | simp [*]) Keeps.nil))) ?_
  clear hK K bb
  refine GoG.take (i := 7) (v := ?_) [] rfl (by kernel_rfl) (by kernel_rfl) (by kernel_rfl) (by kernel_rfl) (by kernel_rfl) (by kernel_rfl) (fun _ _ _ h => h) (yields_free (by rfl) (fun w => ?_)) ?_
  rotate_left
  · go_simp; try (with_reducible rfl)
  try simp only [Act.put, List.setIfInBounds_toArray, List.set_cons_zero, List.set_cons_succ]
  refine GoG.take (i := 8) (v := ?_) [] rfl (by kernel_rfl) (by kernel_rfl) (by kernel_rfl) (by kernel_rfl) (by kernel_rfl) (by kernel_rfl) (fun _ _ _ h => h) (yields_free (by rfl) (fun w => ?_)) ?_
  rotate_left
  · go_simp; try (with_reducible rfl)
  try simp only [Act.put, List.setIfInBounds_toArray, List.set_cons_zero, List.set_cons_succ]
  refine GoG.one (i := 11) rfl (by kernel_rfl) (fun K hK => ?_)
  go_simp
  refine (I2 _ (HT.out.below B3.out)).out.mono ?_
  rintro e w4 ⟨rfl, bb⟩
  have B4 := Lib.hid (B3.out.trans (bb.mono B3.out.size))
  have K5 := Lib.hid (K4.out.below bb)
  clear c0 c1 c2 c3 c4
  obtain ⟨c0, c1, c2, c3, c4⟩ := cell5 K5.out
  refine hK.out _ _ (Keeps.cons (by first | assumption | simp [*]) (Keeps.cons (by first | assumption | simp [*]) (Keeps.cons (by first | assumption | simp [*]) Keeps.nil))) ?_
  clear hK K bb
  refine GoG.take (i := 12) (v := ?_) [] rfl (by kernel_rfl) (by kernel_rfl) (by kernel_rfl) (by kernel_rfl) (by kernel_rfl) (by kernel_rfl) (fun _ _ _ h => h) (yields_free (by rfl) (fun w => ?_)) ?_
  rotate_left
  · go_simp; try (with_reducible rfl)
  try simp only [Act.put, List.setIfInBounds_toArray, List.set_cons_zero, List.set_cons_succ]
  refine GoG.one (i := 13) rfl (by kernel_rfl) (fun K hK => ?_)
  go_simp
  refine hK.out _ _ (Keeps.up (by rfl) (Keeps.up (by rfl) (Keeps.up (by rfl) Keeps.nil))) ?_
  clear hK K
  refine GoG.done (by kernel_rfl) ?_ _
  go_wp2_with fail
  refine (J2 _ (HV.out.build.below B4.out)).out.mono ?_
  rintro e w6 ⟨rfl, bb⟩
  have B6 := Lib.hid (B4.out.trans (bb.mono B4.out.size))
  clear c0 c1 c2 c3 c4 bb
  go_wp2_with fail
  go_ret2
  exact ⟨ret_tupS Hres.out.symm, B6.out⟩
set_option maxHeartbeats 16000000 in
set_option maxRecDepth 100000 in
theorem text_nn (V : Vr) (po bo : Option Addr) (pc bc : Nat) (w : World) (hV : VerC w po bo V) (hE : Errs w) (hT : PowAt w) (hr : rightB V = true) (hcp : V.pre.length ≤ pc) (hcb : V.build.length ≤ bc) (hp : ¬ 0 < V.pre.length) (hb : ¬ 0 < V.build.length) :
    Calls Tryz.prog 5 #[verV V po pc bo bc] w fun e w' => e = .returned (.tuple #[.string (textS V), .int .i64 0]) ∧ Below w.heap.size w w' := by
  obtain ⟨wa, ha⟩ : ∃ wa, w.alloc (.cells #[.int .i64 V.ma, .int .i64 V.mi, .int .i64 V.pa, .slice po V.pre.length pc, .slice bo V.build.length bc] 24) = wa := ⟨_, rfl⟩
  obtain ⟨k1, q1, -⟩ := box_new ha
  have BW := Lib.hid q1
  have HR := right_any V po bo pc bc wa (hV.below q1) (hE.below q1)
  rw [hr] at HR
  have HRR := Lib.hid HR
  have K1 := Lib.hid k1
  have I0 := fun w h => Lib.hid (itoa_any V.ma w hV.nums.1.1 hV.nums.1.2 h)
  have I1 := fun w h => Lib.hid (itoa_any V.mi w hV.nums.2.1.1 hV.nums.2.1.2 h)
  have I2 := fun w h => Lib.hid (itoa_any V.pa w hV.nums.2.2.1 hV.nums.2.2.2 h)
  have z0 := itoaS_size V.ma hV.nums.1.1 hV.nums.1.2
  have z1 := itoaS_size V.mi hV.nums.2.1.1 hV.nums.2.1.2
  have z2 := itoaS_size V.pa hV.nums.2.2.1 hV.nums.2.2.2
  have hpl := hV.pl
  have hbl := hV.bl
  have HT := Lib.hid hT
  have HV := Lib.hid hV
  have Hres := Lib.hid (show textS V = itoaS V.ma ++ ⟨#[46]⟩ ++ itoaS V.mi ++ ⟨#[46]⟩ ++ itoaS V.pa by unfold textS preS headS; rw [if_neg hb, if_neg hp])
  generalize itoaS V.ma = s0 at *
  generalize itoaS V.mi = s1 at *
  generalize itoaS V.pa = s2 at *
  have n1 : ¬ 9223372036854775807 < s0.size + 1 := by omega
  have n2 : ¬ 9223372036854775807 < s0.size + 1 + s1.size := by omega
  have n3 : ¬ 9223372036854775807 < s0.size + 1 + s1.size + 1 := by omega
  have n4 : ¬ 9223372036854775807 < s0.size + 1 + s1.size + 1 + s2.size := by omega
  have hp2 : decide (0 < V.pre.length) = false := decide_eq_false hp
  have hb2 : decide (0 < V.build.length) = false := decide_eq_false hb
  obtain ⟨c0, c1, c2, c3, c4⟩ := cell5 k1
  unfold verV at *
  clear hV hE hr k1 q1 HR hT
  go_enter Tryz.func5, Tryz.ntmps5
  go_wp2_with fail
  refine HRR.out.mono ?_
  rintro e w1 ⟨rfl, b1⟩
  have B1 := Lib.hid (BW.out.trans (b1.mono BW.out.size))
  have K2 := Lib.hid (K1.out.below b1)
  clear b1 c0 c1 c2 c3 c4 ha BW K1
  obtain ⟨c0, c1, c2, c3, c4⟩ := cell5 K2.out
  go_wp2_with fail
  refine GoG.start [(13, ⟨w.heap.size, 0, none⟩, .int .i64 V.ma), (13, ⟨w.heap.size, 1, none⟩, .int .i64 V.mi), (13, ⟨w.heap.size, 2, none⟩, .int .i64 V.pa)] (by kernel_rfl) ?_ ?_
  · exact Keeps.cons (by first | assumption | simp [*]) (Keeps.cons (by first | assumption | simp [*]) (Keeps.cons (by first | assumption | simp [*]) (Keeps.nil)))
  refine GoG.take (i := 0) (v := ?_) [] rfl (by kernel_rfl) (by kernel_rfl) (by kernel_rfl) (by kernel_rfl) (by kernel_rfl) (by kernel_rfl) (fun _ _ _ h => h) (yields_free (by rfl) (fun w => ?_)) ?_
  rotate_left
  · go_simp; try (with_reducible rfl)
  try simp only [Act.put, List.setIfInBounds_toArray, List.set_cons_zero, List.set_cons_succ]
  refine GoG.take (i := 1) (v := ?_) [2, 6, 11, 13] rfl (by kernel_rfl) (by kernel_rfl) (by kernel_rfl) (by kernel_rfl) (by kernel_rfl) (by kernel_rfl) (fun _ _ _ h => h) (yields_load 13 ⟨w.heap.size, 0, none⟩ (.int .i64 V.ma) (by simp) (by decide) (by rfl) (fun w hw => ?_)) ?_
  rotate_left
  · go_simp; try (with_reducible rfl)
  try simp only [Act.put, List.setIfInBounds_toArray, List.set_cons_zero, List.set_cons_succ]
  refine GoG.take (i := 4) (v := ?_) [] rfl (by kernel_rfl) (by kernel_rfl) (by kernel_rfl) (by kernel_rfl) (by kernel_rfl) (by kernel_rfl) (fun _ _ _ h => h) (yields_free (by rfl) (fun w => ?_)) ?_
  rotate_left
  · go_simp; try (with_reducible rfl)
  try simp only [Act.put, List.setIfInBounds_toArray, List.set_cons_zero, List.set_cons_succ]
  refine GoG.take (i := 5) (v := ?_) [6, 11, 13] rfl (by kernel_rfl) (by kernel_rfl) (by kernel_rfl) (by kernel_rfl) (by kernel_rfl) (by kernel_rfl) (fun _ _ _ h => h) (yields_load 13 ⟨w.heap.size, 1, none⟩ (.int .i64 V.mi) (by simp) (by decide) (by rfl) (fun w hw => ?_)) ?_
  rotate_left
  · go_simp; try (with_reducible rfl)
  try simp only [Act.put, List.setIfInBounds_toArray, List.set_cons_zero, List.set_cons_succ]
  refine GoG.take (i := 9) (v := ?_) [] rfl (by kernel_rfl) (by kernel_rfl) (by kernel_rfl) (by kernel_rfl) (by kernel_rfl) (by kernel_rfl) (fun _ _ _ h => h) (yields_free (by rfl) (fun w => ?_)) ?_
  rotate_left
  · go_simp; try (with_reducible rfl)
  try simp only [Act.put, List.setIfInBounds_toArray, List.set_cons_zero, List.set_cons_succ]
  refine GoG.take (i := 10) (v := ?_) [11, 13] rfl (by kernel_rfl) (by kernel_rfl) (by kernel_rfl) (by kernel_rfl) (by kernel_rfl) (by kernel_rfl) (fun _ _ _ h => h) (yields_load 13 ⟨w.heap.size, 2, none⟩ (.int .i64 V.pa) (by simp) (by decide) (by rfl) (fun w hw => ?_)) ?_
  rotate_left
  · go_simp; try (with_reducible rfl)
  try simp only [Act.put, List.setIfInBounds_toArray, List.set_cons_zero, List.set_cons_succ]
  have BD := Lib.hid (show Below w.heap.size w w1.drew from B1.out.drew)
  have KD := Lib.hid (show BlockAt w1.drew w.heap.size _ _ from K2.out.below ((Below.refl _ _).drew))
  refine GoG.one (i := 2) rfl (by kernel_rfl) (fun K hK => ?_)
  go_simp
  refine (I0 _ (HT.out.below BD.out)).out.mono ?_
  rintro e w2 ⟨rfl, bb⟩
  have B2 := Lib.hid (BD.out.trans (bb.mono BD.out.size))
  have K3 := Lib.hid (KD.out.below bb)
  clear c0 c1 c2 c3 c4
  obtain ⟨c0, c1, c2, c3, c4⟩ := cell5 K3.out
  refine hK.out _ _ (Keeps.cons (by first | assumption | simp [*]) (Keeps.cons (by first | assumption | simp [*]) (Keeps.cons (by first | assumption | simp [*]) Keeps.nil))) ?_
  clear hK K bb
  refine GoG.take (i := 3) (v := ?_) [] rfl (by kernel_rfl) (by kernel_rfl) (by kernel_rfl) (by kernel_rfl) (by kernel_rfl) (by kernel_rfl) (fun _ _ _ h => h) (yields_free (by rfl) (fun w => ?_)) ?_
  rotate_left
  · go_simp; try (with_reducible rfl)
  try simp only [Act.put, List.setIfInBounds_toArray, List.set_cons_zero, List.set_cons_succ]
  refine GoG.one (i := 6) rfl (by kernel_rfl) (fun K hK => ?_)
  go_simp
  refine (I1 _ (HT.out.below B2.out)).out.mono ?_
  rintro e w3 ⟨rfl, bb⟩
  have B3 := Lib.hid (B2.out.trans (bb.mono B2.out.size))
  have K4 := Lib.hid (K3.out.below bb)
  clear c0 c1 c2 c3 c4
  obtain ⟨c0, c1, c2, c3, c4⟩ := cell5 K4.out
  refine hK.out _ _ (Keeps.cons (by first | assumption | simp [*]) (Keeps.cons (by first | assumption | simp [*]) (Keeps.cons (by first | assumption | simp [*]) Keeps.nil))) ?_
  clear hK K bb
  refine GoG.take (i := 7) (v := ?_) [] rfl (by kernel_rfl) (by kernel_rfl) (by kernel_rfl) (by kernel_rfl) (by kernel_rfl) (by kernel_rfl) (fun _ _ _ h => h) (yields_free (by rfl) (fun w => ?_)) ?_
  rotate_left
  · go_simp; try (with_reducible rfl)
  try simp only [Act.put, List.setIfInBounds_toArray, List.set_cons_zero, List.set_cons_succ]
  refine GoG.take (i := 8) (v := ?_) [] rfl (by kernel_rfl) (by kernel_rfl) (by kernel_rfl) (by kernel_rfl) (by kernel_rfl) (by kernel_rfl) (fun _ _ _ h => h) (yields_free (by rfl) (fun w => ?_)) ?_
  rotate_left
  · go_simp; try (with_reducible rfl)
  try simp only [Act.put, List.setIfInBounds_toArray, List.set_cons_zero, List.set_cons_succ]
  refine GoG.one (i := 11) rfl (by kernel_rfl) (fun K hK => ?_)
  go_simp
  refine (I2 _ (HT.out.below B3.out)).out.mono ?_
  rintro e w4 ⟨rfl, bb⟩
  have B4 := Lib.hid (B3.out.trans (bb.mono B3.out.size))
  have K5 := Lib.hid (K4.out.below bb)
  clear c0 c1 c2 c3 c4
  obtain ⟨c0, c1, c2, c3, c4⟩ := cell5 K5.out
  refine hK.out _ _ (Keeps.cons (by first | assumption | simp [*]) (Keeps.cons (by first | assumption | simp [*]) (Keeps.cons (by first | assumption | simp [*]) Keeps.nil))) ?_
  clear hK K bb
  refine GoG.take (i := 12) (v := ?_) [] rfl (by kernel_rfl) (by kernel_rfl) (by kernel_rfl) (by kernel_rfl) (by kernel_rfl) (by kernel_rfl) (fun _ _ _ h => h) (yields_free (by rfl) (fun w => ?_)) ?_
  rotate_left
  · go_simp; try (with_reducible rfl)
  try simp only [Act.put, List.setIfInBounds_toArray, List.set_cons_zero, List.set_cons_succ]
  refine GoG.one (i := 13) rfl (by kernel_rfl) (fun K hK => ?_)
  go_simp
  refine hK.out _ _ (Keeps.up (by rfl) (Keeps.up (by rfl) (Keeps.up (by rfl) Keeps.nil))) ?_
  clear hK K
  refine GoG.done (by kernel_rfl) ?_ _
  go_wp2_with fail
  go_ret2
  exact ⟨ret_tupS Hres.out.symm, B4.out⟩
theorem text_any (V : Vr) (po bo : Option Addr) (pc bc : Nat) (w : World) (hV : VerC w po bo V) (hE : Errs w) (hT : PowAt w) (hr : rightB V = true) (hcp : V.pre.length ≤ pc) (hcb : V.build.length ≤ bc) :
    Calls Tryz.prog 5 #[verV V po pc bo bc] w fun e w' => e = .returned (.tuple #[.string (textS V), .int .i64 0]) ∧ Below w.heap.size w w' := by
  by_cases hp : 0 < V.pre.length <;> by_cases hb : 0 < V.build.length
  · exact text_pb V po bo pc bc w hV hE hT hr hcp hcb hp hb
  · exact text_pn V po bo pc bc w hV hE hT hr hcp hcb hp hb
  · exact text_nb V po bo pc bc w hV hE hT hr hcp hcb hp hb
  · exact text_nn V po bo pc bc w hV hE hT hr hcp hcb hp hb
end Go.Proofs.YtbdhmelebedpiaaGreatDoor
