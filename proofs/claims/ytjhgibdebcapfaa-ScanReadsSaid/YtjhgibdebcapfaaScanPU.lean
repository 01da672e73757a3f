/- The program's number. -/
import Derived.Test.YtjhgibdebcapfaaScanPS
import Derived.Test.YtjhgibdebcapfaaRegT
import Derived.Deep.CutRange
import Derived.Deep.DeepCutAuto
namespace Go.Proofs.Ytjhgibdebcapfaa
open Go.RowKit
set_option linter.unusedSimpArgs false
set_option linter.unusedVariables false

theorem pfx2 {s : ByteArray} {i a b : Nat} (ha : a < 256) (hb : b < 256) (ha0 : 0 < a) (hb0 : 0 < b) : pfx s i ⟨#[UInt8.ofNat a, UInt8.ofNat b]⟩ = (decide (byteAt s i = a) && decide (byteAt s (i + 1) = b)) := by
  unfold pfx
  rw [ext_end]
  exact pre2 s i a b ha hb ha0 hb0
theorem hex_pfx (s : ByteArray) (i : Nat) : [(⟨#[48, 120]⟩ : ByteArray), ⟨#[48, 88]⟩].any (pfx s i) = decide (baseC s i = 88) := by
  have h1 := pfx2 (s := s) (i := i) (a := 48) (b := 120) (by omega) (by omega) (by omega) (by omega)
  have h2 := pfx2 (s := s) (i := i) (a := 48) (b := 88) (by omega) (by omega) (by omega) (by omega)
  simp only [List.any_cons, List.any_nil, Bool.or_false]
  rw [show pfx s i ⟨#[48, 120]⟩ = _ from h1, show pfx s i ⟨#[48, 88]⟩ = _ from h2]
  unfold baseC upC
  by_cases h48 : byteAt s i = 48
  · rw [if_pos h48, decide_eq_true (show byteAt s i = ((48 : Nat) : Int) from h48), Bool.true_and, Bool.true_and, Bool.eq_iff_iff]
    simp only [Bool.or_eq_true, decide_eq_true_eq]
    split <;> omega
  · rw [if_neg h48, decide_eq_false (show ¬ byteAt s i = ((48 : Nat) : Int) from h48)]
    rfl
theorem oth_pfx {s : ByteArray} {i : Nat} (hx : ¬ baseC s i = 88) : [(⟨#[48, 98]⟩ : ByteArray), ⟨#[48, 66]⟩, ⟨#[48, 111]⟩, ⟨#[48, 79]⟩].any (pfx s i) = otherB s i := by
  have h1 := pfx2 (s := s) (i := i) (a := 48) (b := 98) (by omega) (by omega) (by omega) (by omega)
  have h2 := pfx2 (s := s) (i := i) (a := 48) (b := 66) (by omega) (by omega) (by omega) (by omega)
  have h3 := pfx2 (s := s) (i := i) (a := 48) (b := 111) (by omega) (by omega) (by omega) (by omega)
  have h4 := pfx2 (s := s) (i := i) (a := 48) (b := 79) (by omega) (by omega) (by omega) (by omega)
  simp only [List.any_cons, List.any_nil, Bool.or_false]
  rw [show pfx s i ⟨#[48, 98]⟩ = _ from h1, show pfx s i ⟨#[48, 66]⟩ = _ from h2, show pfx s i ⟨#[48, 111]⟩ = _ from h3, show pfx s i ⟨#[48, 79]⟩ = _ from h4]
  unfold otherB
  by_cases h48 : byteAt s i = 48
  · have e : baseC s i = upC (byteAt s (i + 1)) := if_pos h48
    rw [e] at hx ⊢
    unfold upC at hx ⊢
    rw [decide_eq_true (show byteAt s i = ((48 : Nat) : Int) from h48), Bool.true_and, Bool.true_and, Bool.true_and, Bool.true_and, Bool.eq_iff_iff]
    simp only [Bool.or_eq_true, decide_eq_true_eq]
    split <;> rename_i hh <;> (try rw [if_pos hh] at hx) <;> (try rw [if_neg hh] at hx) <;> omega
  · have e : baseC s i = 0 := if_neg h48
    rw [e, decide_eq_false (show ¬ byteAt s i = ((48 : Nat) : Int) from h48)]
    rfl
theorem dot_any {s : ByteArray} {i e : Nat} (hie : i ≤ e) (hes : e ≤ s.size) : Lib.containsAny (s.extract i e).data.toList [46, 101, 69] = dotIn s i e := by
  unfold Lib.containsAny
  rw [(idxAny_any [46, 101, 69] _).1, ext_list]
  have h := any_bytes s (fun c => decide (c = 46 ∨ upC c = 69)) (e - i) i (by omega)
  unfold dotIn
  have h2 : (fun k => decide (byteAt s k = 46 ∨ upC (byteAt s k) = 69)) = dotB s := rfl
  rw [← h2, h]
  congr 1
  funext b
  have a1 := u8_val (b := b) (n := 46) (by omega)
  have a2 := u8_val (b := b) (n := 101) (by omega)
  have a3 := u8_val (b := b) (n := 69) (by omega)
  show (b == UInt8.ofNat 46 || (b == UInt8.ofNat 101 || (b == UInt8.ofNat 69 || false))) = _
  rw [a1, a2, a3, Bool.eq_iff_iff]
  simp only [Bool.or_eq_true, Bool.or_false, decide_eq_true_eq, upE_iff]
  omega
theorem num_ascii {s : ByteArray} {i e : Nat} (hi : i < s.size) (h0 : numC s i i = true) (he : run (numC s i) s.size i = e) : ∀ (j : Nat) b, (s.extract i e).data.toList[j]? = some b → b.toNat < 128 := by
  intro j b hb
  have hall : ∀ f k, (∀ q, k ≤ q → q < runF (numC s i) s.size f k → numC s i q = true) := by
    intro f
    induction f with
    | zero => intro k q h1 h2; have : runF (numC s i) s.size 0 k = k := rfl; omega
    | succ f ih =>
      intro k q h1 h2
      have e1 : runF (numC s i) s.size (f + 1) k = if k < s.size ∧ numC s i k = true then runF (numC s i) s.size f (k + 1) else k := rfl
      rw [e1] at h2
      by_cases hc : k < s.size ∧ numC s i k = true
      · rw [if_pos hc] at h2
        rcases Nat.lt_or_eq_of_le h1 with h3 | h3
        · exact ih (k + 1) q h3 h2
        · subst h3; exact hc.2
      · rw [if_neg hc] at h2; omega
  rw [ext_list, List.getElem?_take] at hb
  split at hb
  · rename_i hj
    rw [List.getElem?_drop] at hb
    have h1 := hall _ i (i + j) (by omega) (by show i + j < run (numC s i) s.size i; omega)
    have h2 : byteAt s (i + j) = (b.toNat : Int) := by
      unfold byteAt
      rw [show s.data[i + j]? = some b from by rw [← Array.getElem?_toList]; exact hb]
      rfl
    unfold numC inB letB digB at h1
    rw [h2] at h1
    simp only [Bool.or_eq_true, Bool.and_eq_true, decide_eq_true_eq] at h1
    omega
  · cases hb
set_option maxHeartbeats 16000000 in
set_option maxRecDepth 100000 in
theorem pnumber_any (w : World) (B pb : Nat) (s : ByteArray) (i : Nat) (l : List Tk) (h : PS w B pb s i l) (hs : s.size ≤ 4010) (hi : i < s.size) (hl : l.length ≤ 20000) (hn : numC s i i = true) :
    Calls Try.prog 25 #[ptr pb] w fun en w' => en = .returned (.tuple #[]) ∧ PS w' B pb s (numberT s i).stop (l ++ [⟨(numberT s i).kind, s.extract i (numberT s i).stop, i⟩]) ∧ Below B w w' := by
  have hpl := h.lt
  have hlow := h.low
  have hcc := h.cells
  obtain ⟨w1, hw⟩ : ∃ w1, w.alloc (.cells #[.pointer (some ⟨pb, 0, none⟩)] 49) = w1 := ⟨_, rfl⟩
  obtain ⟨k1, q1, z1⟩ := box_new hw
  have HP := Lib.hid (h.below q1)
  have BB := Lib.hid (q1.mono (show B ≤ w.heap.size from Nat.le_trans hlow (Nat.le_of_lt hpl)))
  have x0 := k1.cell 0
  simp only [List.getElem?_toArray, List.getElem?_cons_zero] at x0
  have c0 := HP.out.cells.1
  have c1 := HP.out.cells.2
  obtain ⟨e, he⟩ : ∃ e, run (numC s i) s.size i = e := ⟨_, rfl⟩
  have he1 : run (numC s i) s.size (i + 1) = e := by rw [← he]; exact (run_step hi hn).symm
  have e1 : i + 1 ≤ e := by rw [← he1]; exact le_run
  have e2 : e ≤ s.size := by rw [← he]; exact run_le (by omega)
  have HT : numberT s i = ⟨if otherB s i = false ∧ dotIn s i e = true then 3 else 2, e, 0⟩ := by unfold numberT; rw [he]
  have HAS := Lib.hid (num_ascii hi hn he)
  have hieI : (i : Int) ≤ (e : Int) := by omega
  have hesI : (e : Int) ≤ (s.size : Int) := by omega
  have TK := fun (kd : Int) w' (h : PS w' B pb s i l) => Lib.hid (take_any w' B pb s i l h kd e (by omega) e2 hs hl)
  obtain ⟨kd, hkd⟩ : ∃ kd, (if otherB s i = false ∧ dotIn s i e = true then (3 : Int) else 2) = kd := ⟨_, rfl⟩
  rw [hkd] at HT
  have HKD := Lib.hid hkd
  rw [HT]
  simp only
  clear hkd
  obtain ⟨hex, hhex⟩ : ∃ x, decide (baseC s i = 88) = x := ⟨_, rfl⟩
  have HX := Lib.hid hhex
  obtain ⟨w2, hw2⟩ : ∃ w2, w1.alloc (.cells #[.string ⟨#[48, 120]⟩, .string ⟨#[48, 88]⟩] 9) = w2 := ⟨_, rfl⟩
  obtain ⟨k2, q2, z2⟩ := box_new hw2
  have hrow : ∀ k (h : k < [(⟨#[48, 120]⟩ : ByteArray), ⟨#[48, 88]⟩].length), w2.cell? ⟨w1.heap.size, k, none⟩ = some (.string [(⟨#[48, 120]⟩ : ByteArray), ⟨#[48, 88]⟩][k]) := by
    intro k hk
    match k, hk with
    | 0, _ => exact k2.cell 0
    | 1, _ => exact k2.cell 1
  have HP2 := Lib.hid (HP.out.below q2)
  have B2 := Lib.hid (BB.out.trans (q2.mono (Nat.le_trans hlow (Nat.le_of_lt HP.out.lt))))
  have X2 := Lib.hid ((q2.cell (p := ⟨w.heap.size, 0, none⟩) (World.block_lt_of_cell? _ _ x0)).trans x0)
  have hBg := begins_any s i pb _ w1.heap.size 2 w2 hrow (by rw [z2]; exact Nat.lt_succ_self _) (by decide) HP2.out.cells.1 HP2.out.cells.2 hi hs
  rw [hex_pfx, hhex] at hBg
  have HBg := Lib.hid hBg
  unfold ptr at *
  clear h he hcc k1 q1 z1 hBg hrow k2 q2 z2 hhex HT
  go_enter Try.func25, Try.ntmps25
  go_wp2_with fail
  clear hw hw2 x0 c0 c1
  refine HBg.out.mono ?_
  rintro x w3 ⟨rfl, bb⟩
  have HP3 := Lib.hid (HP2.out.below bb)
  have B3 := Lib.hid (B2.out.trans (bb.mono (Nat.le_trans hlow (Nat.le_of_lt HP2.out.lt))))
  have X3 := (bb.cell (p := ⟨w.heap.size, 0, none⟩) (World.block_lt_of_cell? _ _ X2.out)).trans X2.out
  clear bb HBg HP2 B2 X2 HP BB
  have bq : Below w3.heap.size w3 (w3.alloc (.cells #[.bool hex] 4)) := (Below.refl _ _).alloc (Nat.le_refl _) _
  have HP4 := Lib.hid (HP3.out.below bq)
  have B4 := Lib.hid (B3.out.trans (bq.mono (Nat.le_trans hlow (Nat.le_of_lt HP3.out.lt))))
  have x0 := (bq.cell (p := ⟨w.heap.size, 0, none⟩) (World.block_lt_of_cell? _ _ X3)).trans X3
  have r0 := (BlockAt.new w3 #[.bool hex] 4).cell 0
  simp only [List.getElem?_toArray, List.getElem?_cons_zero] at r0
  have hqlt := World.block_lt_of_cell? _ _ X3
  go_wp2_with fail
  clear bq HP3 B3 X3
  generalize w3.alloc (.cells #[.bool hex] 4) = w4 at *
  have c0 := HP4.out.cells.1
  have c1 := HP4.out.cells.2
  have hEn := end_number s i pb w.heap.size w3.heap.size w4 hex x0 r0 HX.out.symm c0 c1 hs hi
  rw [he1] at hEn
  have HEn := Lib.hid hEn
  unfold ptr at HEn
  clear hEn
  refine HEn.out.mono ?_
  rintro x w5 ⟨rfl, bb⟩
  have HP5 := Lib.hid (HP4.out.below bb)
  have B5 := Lib.hid (B4.out.trans (bb.mono (Nat.le_trans hlow (Nat.le_of_lt HP4.out.lt))))
  have X5 := (bb.cell (p := ⟨w.heap.size, 0, none⟩) (World.block_lt_of_cell? _ _ x0)).trans x0
  have R5 := (bb.cell (p := ⟨w3.heap.size, 0, none⟩) (World.block_lt_of_cell? _ _ r0)).trans r0
  clear bb HEn HP4 B4 x0 r0 c0 c1
  have c0 := HP5.out.cells.1
  have c1 := HP5.out.cells.2
  cases hex
  rotate_left
  · have HK := Lib.hid (show kd = 2 from HKD.out.symm.trans <| if_neg (fun h => by unfold otherB at h; rw [decide_eq_true (.inl (of_decide_eq_true HX.out))] at h; cases h.1))
    go_wp2_with fail
    go_quiet (fail)
    go_wp2_with fail
    have bqn : Below w5.heap.size w5 (w5.drewN nq) := ⟨rfl, rfl, rfl, Nat.le_refl _, fun _ _ => rfl⟩
    refine (TK 2 _ (HP5.out.below bqn)).out.mono ?_
    rintro x w6 ⟨rfl, hp6, hb6⟩
    have HP6 := Lib.hid hp6
    have B6 := Lib.hid ((B5.out.trans (bqn.mono (Nat.le_trans hlow (Nat.le_of_lt HP5.out.lt)))).trans hb6)
    clear hp6 hb6 bqn
    go_wp2_with fail
    go_end0
    rw [HK.out]
    exact ⟨rfl, HP6.out, B6.out⟩
  · have hx88 : ¬ baseC s i = 88 := of_decide_eq_false HX.out
    obtain ⟨o, ho⟩ : ∃ o, otherB s i = o := ⟨_, rfl⟩
    have HO := Lib.hid ho
    have bs : Below w5.heap.size w5 (w5.alloc (.cells #[.string ⟨#[48, 98]⟩, .string ⟨#[48, 66]⟩, .string ⟨#[48, 111]⟩, .string ⟨#[48, 79]⟩] 9)).drew := ((Below.refl _ _).alloc (Nat.le_refl _) _).drew
    have k6 := (BlockAt.new w5 #[.string ⟨#[48, 98]⟩, .string ⟨#[48, 66]⟩, .string ⟨#[48, 111]⟩, .string ⟨#[48, 79]⟩] 9).below ((Below.refl _ _).drew)
    have hrow : ∀ k (h : k < [(⟨#[48, 98]⟩ : ByteArray), ⟨#[48, 66]⟩, ⟨#[48, 111]⟩, ⟨#[48, 79]⟩].length), (w5.alloc (.cells #[.string ⟨#[48, 98]⟩, .string ⟨#[48, 66]⟩, .string ⟨#[48, 111]⟩, .string ⟨#[48, 79]⟩] 9)).drew.cell? ⟨w5.heap.size, k, none⟩ = some (.string [(⟨#[48, 98]⟩ : ByteArray), ⟨#[48, 66]⟩, ⟨#[48, 111]⟩, ⟨#[48, 79]⟩][k]) := by
      intro k hk
      match k, hk with
      | 0, _ => exact k6.cell 0
      | 1, _ => exact k6.cell 1
      | 2, _ => exact k6.cell 2
      | 3, _ => exact k6.cell 3
    have HP6 := Lib.hid (HP5.out.below bs)
    have B6 := Lib.hid (B5.out.trans (bs.mono (Nat.le_trans hlow (Nat.le_of_lt HP5.out.lt))))
    have X6 := (bs.cell (p := ⟨w.heap.size, 0, none⟩) (World.block_lt_of_cell? _ _ X5)).trans X5
    have R6 := (bs.cell (p := ⟨w3.heap.size, 0, none⟩) (World.block_lt_of_cell? _ _ R5)).trans R5
    have hBg := begins_any s i pb _ w5.heap.size 4 _ hrow k6.lt (by decide) HP6.out.cells.1 HP6.out.cells.2 hi hs
    rw [oth_pfx hx88, ho] at hBg
    unfold ptr at hBg
    have HBg := Lib.hid hBg
    have HCA : Hid (∀ w', Calls Try.prog 46 #[.string (s.extract i e), .string ⟨#[46, 101, 69]⟩] w' fun en w2 => en = .returned (.bool (dotIn s i e)) ∧ Below w'.heap.size w' w2) := Lib.hid (fun w' => by
      have := Try.strings_ContainsAny_laid (s.extract i e) ⟨#[46, 101, 69]⟩ w' (by rw [ByteArray.size_extract]; omega) (by decide) HAS.out (by intro j b hb; match j, hb with | 0, hb => cases hb; decide | 1, hb => cases hb; decide | 2, hb => cases hb; decide)
      rw [dot_any (by omega) e2] at this
      exact this)
    clear hBg hrow k6 ho hx88
    cases o
    · go_wp2_with fail
      refine GoG.start [(20, ⟨w3.heap.size, 0, none⟩, .bool false), (20, ⟨w.heap.size, 0, none⟩, .pointer (some ⟨pb, 0, none⟩)), (20, ⟨pb, 0, none⟩, .string s), (20, ⟨pb, 1, none⟩, .int .i64 (i : Int))] (by kernel_rfl) ?_ ?_
      · exact Keeps.cons (by first | assumption | simp [*]) (Keeps.cons (by first | assumption | simp [*]) (Keeps.cons (by first | assumption | simp [*]) (Keeps.cons (by first | assumption | simp [*]) (Keeps.nil))))
      refine GoG.take (i := 0) (v := ?_) [1, 2, 7, 8, 20] rfl (by kernel_rfl) (by kernel_rfl) (by kernel_rfl) (by kernel_rfl) (by kernel_rfl) (by kernel_rfl) (fun _ _ _ h => h) (yields_load 20 ⟨w3.heap.size, 0, none⟩ (.bool false) (by simp) (by decide) (by rfl) (fun w hw => ?_)) ?_
      rotate_left
      · go_simp; try (with_reducible rfl)
      try simp only [Act.put, List.getElem_toArray, List.getElem_cons_succ, List.getElem_cons_zero, List.setIfInBounds_toArray, List.set_cons_zero, List.set_cons_succ]
      refine GoG.take (i := 1) (v := ?_) [] rfl (by kernel_rfl) (by kernel_rfl) (by kernel_rfl) (by kernel_rfl) (by kernel_rfl) (by kernel_rfl) (fun _ _ _ h => h) (yields_free (by rfl) (fun w => ?_)) ?_
      rotate_left
      · go_simp; try (with_reducible rfl)
      try simp only [Act.put, List.getElem_toArray, List.getElem_cons_succ, List.getElem_cons_zero, List.setIfInBounds_toArray, List.set_cons_zero, List.set_cons_succ]
      refine GoG.take (i := 2) (v := ?_) [] rfl (by kernel_rfl) (by kernel_rfl) (by kernel_rfl) (by kernel_rfl) (by kernel_rfl) (by kernel_rfl) (fun _ _ _ h => h) (yields_free (by rfl) (fun w => ?_)) ?_
      rotate_left
      · go_simp; try (with_reducible rfl)
      try simp only [Act.put, List.getElem_toArray, List.getElem_cons_succ, List.getElem_cons_zero, List.setIfInBounds_toArray, List.set_cons_zero, List.set_cons_succ]
      refine GoG.take (i := 3) (v := ?_) [5, 8, 20] rfl (by kernel_rfl) (by kernel_rfl) (by kernel_rfl) (by kernel_rfl) (by kernel_rfl) (by kernel_rfl) (fun _ _ _ h => h) (yields_load 20 ⟨w.heap.size, 0, none⟩ (.pointer (some ⟨pb, 0, none⟩)) (by simp) (by decide) (by rfl) (fun w hw => ?_)) ?_
      rotate_left
      · go_simp; try (with_reducible rfl)
      try simp only [Act.put, List.getElem_toArray, List.getElem_cons_succ, List.getElem_cons_zero, List.setIfInBounds_toArray, List.set_cons_zero, List.set_cons_succ]
      have yc0 := HP6.out.cells.1
      have yc1 := HP6.out.cells.2
      refine GoG.one (i := 4) rfl (by kernel_rfl) (fun K hK => ?_)
      go_simp
      refine hK.out _ _ (Keeps.cons (by first | assumption | exact R6) (Keeps.cons (by first | assumption | exact X6) (Keeps.cons (by first | assumption | exact yc0) (Keeps.cons (by first | assumption | exact yc1) (Keeps.nil))))) ?_
      clear hK K
      refine GoG.one (i := 5) rfl (by kernel_rfl) (fun K hK => ?_)
      go_simp
      refine HBg.out.mono ?_
      rintro x w7 ⟨rfl, bb⟩
      have HP7 := Lib.hid (HP6.out.below bb)
      have B7 := Lib.hid (B6.out.trans (bb.mono (Nat.le_trans hlow (Nat.le_of_lt HP6.out.lt))))
      have X7 := (bb.cell (p := ⟨w.heap.size, 0, none⟩) (World.block_lt_of_cell? _ _ X6)).trans X6
      have R7 := (bb.cell (p := ⟨w3.heap.size, 0, none⟩) (World.block_lt_of_cell? _ _ R6)).trans R6
      have d0 := HP7.out.cells.1
      have d1 := HP7.out.cells.2
      refine hK.out _ _ (Keeps.cons (by first | assumption | exact R7) (Keeps.cons (by first | assumption | exact X7) (Keeps.cons (by first | assumption | exact d0) (Keeps.cons (by first | assumption | exact d1) (Keeps.nil))))) ?_
      clear hK K bb HBg HP6 B6 X6 yc0 yc1 HP5 B5 c0 c1
      refine GoG.take (i := 6) (v := ?_) [] rfl (by kernel_rfl) (by kernel_rfl) (by kernel_rfl) (by kernel_rfl) (by kernel_rfl) (by kernel_rfl) (fun _ _ _ h => h) (yields_free (by rfl) (fun w => ?_)) ?_
      rotate_left
      · go_simp; try (with_reducible rfl)
      try simp only [Act.put, List.getElem_toArray, List.getElem_cons_succ, List.getElem_cons_zero, List.setIfInBounds_toArray, List.set_cons_zero, List.set_cons_succ]
      refine GoG.take (i := 7) (v := ?_) [] rfl (by kernel_rfl) (by kernel_rfl) (by kernel_rfl) (by kernel_rfl) (by kernel_rfl) (by kernel_rfl) (fun _ _ _ h => h) (yields_free (by rfl) (fun w => ?_)) ?_
      rotate_left
      · go_simp; try (with_reducible rfl)
      try simp only [Act.put, List.getElem_toArray, List.getElem_cons_succ, List.getElem_cons_zero, List.setIfInBounds_toArray, List.set_cons_zero, List.set_cons_succ]
      refine GoG.take (i := 8) (v := ?_) [] rfl (by kernel_rfl) (by kernel_rfl) (by kernel_rfl) (by kernel_rfl) (by kernel_rfl) (by kernel_rfl) (fun _ _ _ h => h) (yields_free (by rfl) (fun w => ?_)) ?_
      rotate_left
      · go_simp; try (with_reducible rfl)
      try simp only [Act.put, List.getElem_toArray, List.getElem_cons_succ, List.getElem_cons_zero, List.setIfInBounds_toArray, List.set_cons_zero, List.set_cons_succ]
      clear bs R5 X5 R6
      have HK := fun (d : Bool) (hd : dotIn s i e = d) => show kd = if d = true then 3 else 2 from by rw [← HKD.out, HO.out, hd]; cases d <;> rfl
      obtain ⟨d, hd⟩ : ∃ d, dotIn s i e = d := ⟨_, rfl⟩
      have HCB := HCA.out
      simp only [hd] at HCB
      have HKK1 := Lib.hid (HK d hd)
      have HCC := Lib.hid HCB
      clear HK HCB HCA hd
      refine GoG.take (i := 9) (v := ?_) [10, 11, 12, 18, 19, 20] rfl (by kernel_rfl) (by kernel_rfl) (by kernel_rfl) (by kernel_rfl) (by kernel_rfl) (by kernel_rfl) (fun _ _ _ h => h) (yields_load 20 ⟨w.heap.size, 0, none⟩ (.pointer (some ⟨pb, 0, none⟩)) (by simp) (by decide) (by rfl) (fun w hw => ?_)) ?_
      rotate_left
      · go_simp; try (with_reducible rfl)
      try simp only [Act.put, List.getElem_toArray, List.getElem_cons_succ, List.getElem_cons_zero, List.setIfInBounds_toArray, List.set_cons_zero, List.set_cons_succ]
      refine GoG.take (i := 10) (v := ?_) [] rfl (by kernel_rfl) (by kernel_rfl) (by kernel_rfl) (by kernel_rfl) (by kernel_rfl) (by kernel_rfl) (fun _ _ _ h => h) (yields_free (by rfl) (fun w => ?_)) ?_
      rotate_left
      · go_simp; try (with_reducible rfl)
      try simp only [Act.put, List.getElem_toArray, List.getElem_cons_succ, List.getElem_cons_zero, List.setIfInBounds_toArray, List.set_cons_zero, List.set_cons_succ]
      refine GoG.take (i := 11) (v := ?_) [] rfl (by kernel_rfl) (by kernel_rfl) (by kernel_rfl) (by kernel_rfl) (by kernel_rfl) (by kernel_rfl) (fun _ _ _ h => h) (yields_free (by rfl) (fun w => ?_)) ?_
      rotate_left
      · go_simp; try (with_reducible rfl)
      try simp only [Act.put, List.getElem_toArray, List.getElem_cons_succ, List.getElem_cons_zero, List.setIfInBounds_toArray, List.set_cons_zero, List.set_cons_succ]
      refine GoG.take (i := 12) (v := ?_) [18, 19, 20] rfl (by kernel_rfl) (by kernel_rfl) (by kernel_rfl) (by kernel_rfl) (by kernel_rfl) (by kernel_rfl) (fun _ _ _ h => h) (yields_load 20 ⟨pb, 0, none⟩ (.string s) (by simp) (by decide) (by rfl) (fun w hw => ?_)) ?_
      rotate_left
      · go_simp; try (with_reducible rfl)
      try simp only [Act.put, List.getElem_toArray, List.getElem_cons_succ, List.getElem_cons_zero, List.setIfInBounds_toArray, List.set_cons_zero, List.set_cons_succ]
      refine GoG.take (i := 13) (v := ?_) [14, 15, 16, 18, 19, 20] rfl (by kernel_rfl) (by kernel_rfl) (by kernel_rfl) (by kernel_rfl) (by kernel_rfl) (by kernel_rfl) (fun _ _ _ h => h) (yields_load 20 ⟨w.heap.size, 0, none⟩ (.pointer (some ⟨pb, 0, none⟩)) (by simp) (by decide) (by rfl) (fun w hw => ?_)) ?_
      rotate_left
      · go_simp; try (with_reducible rfl)
      try simp only [Act.put, List.getElem_toArray, List.getElem_cons_succ, List.getElem_cons_zero, List.setIfInBounds_toArray, List.set_cons_zero, List.set_cons_succ]
      refine GoG.take (i := 14) (v := ?_) [] rfl (by kernel_rfl) (by kernel_rfl) (by kernel_rfl) (by kernel_rfl) (by kernel_rfl) (by kernel_rfl) (fun _ _ _ h => h) (yields_free (by rfl) (fun w => ?_)) ?_
      rotate_left
      · go_simp; try (with_reducible rfl)
      try simp only [Act.put, List.getElem_toArray, List.getElem_cons_succ, List.getElem_cons_zero, List.setIfInBounds_toArray, List.set_cons_zero, List.set_cons_succ]
      refine GoG.take (i := 15) (v := ?_) [] rfl (by kernel_rfl) (by kernel_rfl) (by kernel_rfl) (by kernel_rfl) (by kernel_rfl) (by kernel_rfl) (fun _ _ _ h => h) (yields_free (by rfl) (fun w => ?_)) ?_
      rotate_left
      · go_simp; try (with_reducible rfl)
      try simp only [Act.put, List.getElem_toArray, List.getElem_cons_succ, List.getElem_cons_zero, List.setIfInBounds_toArray, List.set_cons_zero, List.set_cons_succ]
      refine GoG.take (i := 16) (v := ?_) [18, 19, 20] rfl (by kernel_rfl) (by kernel_rfl) (by kernel_rfl) (by kernel_rfl) (by kernel_rfl) (by kernel_rfl) (fun _ _ _ h => h) (yields_load 20 ⟨pb, 1, none⟩ (.int .i64 (i : Int)) (by simp) (by decide) (by rfl) (fun w hw => ?_)) ?_
      rotate_left
      · go_simp; try (with_reducible rfl)
      try simp only [Act.put, List.getElem_toArray, List.getElem_cons_succ, List.getElem_cons_zero, List.setIfInBounds_toArray, List.set_cons_zero, List.set_cons_succ]
      refine GoG.take (i := 17) (v := ?_) [] rfl (by kernel_rfl) (by kernel_rfl) (by kernel_rfl) (by kernel_rfl) (by kernel_rfl) (by kernel_rfl) (fun _ _ _ h => h) (yields_free (by rfl) (fun w => ?_)) ?_
      rotate_left
      · go_simp; try (with_reducible rfl)
      try simp only [Act.put, List.getElem_toArray, List.getElem_cons_succ, List.getElem_cons_zero, List.setIfInBounds_toArray, List.set_cons_zero, List.set_cons_succ]
      refine GoG.take (i := 18) (v := ?_) [] rfl (by kernel_rfl) (by kernel_rfl) (by kernel_rfl) (by kernel_rfl) (by kernel_rfl) (by kernel_rfl) (fun _ _ _ h => h) (yields_free (by rfl) (fun w => ?_)) ?_
      rotate_left
      · go_simp; try (with_reducible rfl)
      try simp only [Act.put, List.getElem_toArray, List.getElem_cons_succ, List.getElem_cons_zero, List.setIfInBounds_toArray, List.set_cons_zero, List.set_cons_succ]
      refine GoG.one (i := 19) rfl (by kernel_rfl) (fun K hK => ?_)
      go_simp
      refine (HCC.out _).mono ?_
      rintro x w8 ⟨rfl, bb⟩
      have HP8 := Lib.hid (HP7.out.below bb)
      have B8 := Lib.hid (B7.out.trans (bb.mono (Nat.le_trans hlow (Nat.le_of_lt HP7.out.lt))))
      have X8 := (bb.cell (p := ⟨w.heap.size, 0, none⟩) (World.block_lt_of_cell? _ _ X7)).trans X7
      have R8 := (bb.cell (p := ⟨w3.heap.size, 0, none⟩) (World.block_lt_of_cell? _ _ R7)).trans R7
      clear d0 d1
      have d0 := HP8.out.cells.1
      have d1 := HP8.out.cells.2
      refine hK.out _ _ (Keeps.cons (by first | assumption | exact R8) (Keeps.cons (by first | assumption | exact X8) (Keeps.cons (by first | assumption | exact d0) (Keeps.cons (by first | assumption | exact d1) (Keeps.nil))))) ?_
      clear hK K bb HCC HP7 B7 X7 R7
      refine GoG.one (i := 20) rfl (by kernel_rfl) (fun K hK => ?_)
      go_simp
      refine hK.out _ _ (Keeps.up (by rfl) (Keeps.up (by rfl) (Keeps.up (by rfl) (Keeps.up (by rfl) Keeps.nil)))) ?_
      clear hK K
      refine GoG.done (by kernel_rfl) ?_ _
      cases d
      · have HKK := Lib.hid (show kd = 2 from HKK1.out)
        clear HKK1
        go_wp2_with fail
        refine (TK 2 _ HP8.out).out.mono ?_
        rintro x w9 ⟨rfl, hp9, hb9⟩
        have HP9 := Lib.hid hp9
        have B9 := Lib.hid (B8.out.trans hb9)
        clear hp9 hb9
        go_wp2_with fail
        go_end0
        rw [HKK.out]
        exact ⟨rfl, HP9.out, B9.out⟩
      · have HKK := Lib.hid (show kd = 3 from HKK1.out)
        clear HKK1
        go_wp2_with fail
        refine (TK 3 _ HP8.out).out.mono ?_
        rintro x w9 ⟨rfl, hp9, hb9⟩
        have HP9 := Lib.hid hp9
        have B9 := Lib.hid (B8.out.trans hb9)
        clear hp9 hb9
        go_wp2_with fail
        go_end0
        rw [HKK.out]
        exact ⟨rfl, HP9.out, B9.out⟩
    · have HK := Lib.hid (show kd = 2 from HKD.out.symm.trans <| if_neg (fun h => by rw [HO.out] at h; cases h.1))
      go_wp2_with fail
      refine GoG.start [(20, ⟨w3.heap.size, 0, none⟩, .bool false), (20, ⟨w.heap.size, 0, none⟩, .pointer (some ⟨pb, 0, none⟩)), (20, ⟨pb, 0, none⟩, .string s), (20, ⟨pb, 1, none⟩, .int .i64 (i : Int))] (by kernel_rfl) ?_ ?_
      · exact Keeps.cons (by first | assumption | simp [*]) (Keeps.cons (by first | assumption | simp [*]) (Keeps.cons (by first | assumption | simp [*]) (Keeps.cons (by first | assumption | simp [*]) (Keeps.nil))))
      refine GoG.take (i := 0) (v := ?_) [1, 2, 7, 8, 20] rfl (by kernel_rfl) (by kernel_rfl) (by kernel_rfl) (by kernel_rfl) (by kernel_rfl) (by kernel_rfl) (fun _ _ _ h => h) (yields_load 20 ⟨w3.heap.size, 0, none⟩ (.bool false) (by simp) (by decide) (by rfl) (fun w hw => ?_)) ?_
      rotate_left
      · go_simp; try (with_reducible rfl)
      try simp only [Act.put, List.getElem_toArray, List.getElem_cons_succ, List.getElem_cons_zero, List.setIfInBounds_toArray, List.set_cons_zero, List.set_cons_succ]
      refine GoG.take (i := 1) (v := ?_) [] rfl (by kernel_rfl) (by kernel_rfl) (by kernel_rfl) (by kernel_rfl) (by kernel_rfl) (by kernel_rfl) (fun _ _ _ h => h) (yields_free (by rfl) (fun w => ?_)) ?_
      rotate_left
      · go_simp; try (with_reducible rfl)
      try simp only [Act.put, List.getElem_toArray, List.getElem_cons_succ, List.getElem_cons_zero, List.setIfInBounds_toArray, List.set_cons_zero, List.set_cons_succ]
      refine GoG.take (i := 2) (v := ?_) [] rfl (by kernel_rfl) (by kernel_rfl) (by kernel_rfl) (by kernel_rfl) (by kernel_rfl) (by kernel_rfl) (fun _ _ _ h => h) (yields_free (by rfl) (fun w => ?_)) ?_
      rotate_left
      · go_simp; try (with_reducible rfl)
      try simp only [Act.put, List.getElem_toArray, List.getElem_cons_succ, List.getElem_cons_zero, List.setIfInBounds_toArray, List.set_cons_zero, List.set_cons_succ]
      refine GoG.take (i := 3) (v := ?_) [5, 8, 20] rfl (by kernel_rfl) (by kernel_rfl) (by kernel_rfl) (by kernel_rfl) (by kernel_rfl) (by kernel_rfl) (fun _ _ _ h => h) (yields_load 20 ⟨w.heap.size, 0, none⟩ (.pointer (some ⟨pb, 0, none⟩)) (by simp) (by decide) (by rfl) (fun w hw => ?_)) ?_
      rotate_left
      · go_simp; try (with_reducible rfl)
      try simp only [Act.put, List.getElem_toArray, List.getElem_cons_succ, List.getElem_cons_zero, List.setIfInBounds_toArray, List.set_cons_zero, List.set_cons_succ]
      have yc0 := HP6.out.cells.1
      have yc1 := HP6.out.cells.2
      refine GoG.one (i := 4) rfl (by kernel_rfl) (fun K hK => ?_)
      go_simp
      refine hK.out _ _ (Keeps.cons (by first | assumption | exact R6) (Keeps.cons (by first | assumption | exact X6) (Keeps.cons (by first | assumption | exact yc0) (Keeps.cons (by first | assumption | exact yc1) (Keeps.nil))))) ?_
      clear hK K
      refine GoG.one (i := 5) rfl (by kernel_rfl) (fun K hK => ?_)
      go_simp
      refine HBg.out.mono ?_
      rintro x w7 ⟨rfl, bb⟩
      have HP7 := Lib.hid (HP6.out.below bb)
      have B7 := Lib.hid (B6.out.trans (bb.mono (Nat.le_trans hlow (Nat.le_of_lt HP6.out.lt))))
      have X7 := (bb.cell (p := ⟨w.heap.size, 0, none⟩) (World.block_lt_of_cell? _ _ X6)).trans X6
      have R7 := (bb.cell (p := ⟨w3.heap.size, 0, none⟩) (World.block_lt_of_cell? _ _ R6)).trans R6
      have d0 := HP7.out.cells.1
      have d1 := HP7.out.cells.2
      refine hK.out _ _ (Keeps.cons (by first | assumption | exact R7) (Keeps.cons (by first | assumption | exact X7) (Keeps.cons (by first | assumption | exact d0) (Keeps.cons (by first | assumption | exact d1) (Keeps.nil))))) ?_
      clear hK K bb HBg HP6 B6 X6 yc0 yc1 HP5 B5 c0 c1
      refine GoG.take (i := 6) (v := ?_) [] rfl (by kernel_rfl) (by kernel_rfl) (by kernel_rfl) (by kernel_rfl) (by kernel_rfl) (by kernel_rfl) (fun _ _ _ h => h) (yields_free (by rfl) (fun w => ?_)) ?_
      rotate_left
      · go_simp; try (with_reducible rfl)
      try simp only [Act.put, List.getElem_toArray, List.getElem_cons_succ, List.getElem_cons_zero, List.setIfInBounds_toArray, List.set_cons_zero, List.set_cons_succ]
      refine GoG.take (i := 7) (v := ?_) [] rfl (by kernel_rfl) (by kernel_rfl) (by kernel_rfl) (by kernel_rfl) (by kernel_rfl) (by kernel_rfl) (fun _ _ _ h => h) (yields_free (by rfl) (fun w => ?_)) ?_
      rotate_left
      · go_simp; try (with_reducible rfl)
      try simp only [Act.put, List.getElem_toArray, List.getElem_cons_succ, List.getElem_cons_zero, List.setIfInBounds_toArray, List.set_cons_zero, List.set_cons_succ]
      refine GoG.take (i := 8) (v := ?_) [] rfl (by kernel_rfl) (by kernel_rfl) (by kernel_rfl) (by kernel_rfl) (by kernel_rfl) (by kernel_rfl) (fun _ _ _ h => h) (yields_free (by rfl) (fun w => ?_)) ?_
      rotate_left
      · go_simp; try (with_reducible rfl)
      try simp only [Act.put, List.getElem_toArray, List.getElem_cons_succ, List.getElem_cons_zero, List.setIfInBounds_toArray, List.set_cons_zero, List.set_cons_succ]
      clear bs R5 X5 R6
      refine GoG.take (i := 9) (v := undef) [] rfl (by kernel_rfl) (by kernel_rfl) (by kernel_rfl) (by kernel_rfl) (by kernel_rfl) (by kernel_rfl) (fun _ _ _ h => h) (.inr ⟨by rfl, rfl⟩) ?_
      try simp only [Act.put, List.getElem_toArray, List.getElem_cons_succ, List.getElem_cons_zero, List.setIfInBounds_toArray, List.set_cons_zero, List.set_cons_succ]
      refine GoG.take (i := 10) (v := undef) [] rfl (by kernel_rfl) (by kernel_rfl) (by kernel_rfl) (by kernel_rfl) (by kernel_rfl) (by kernel_rfl) (fun _ _ _ h => h) (.inr ⟨by rfl, rfl⟩) ?_
      try simp only [Act.put, List.getElem_toArray, List.getElem_cons_succ, List.getElem_cons_zero, List.setIfInBounds_toArray, List.set_cons_zero, List.set_cons_succ]
      refine GoG.take (i := 11) (v := undef) [] rfl (by kernel_rfl) (by kernel_rfl) (by kernel_rfl) (by kernel_rfl) (by kernel_rfl) (by kernel_rfl) (fun _ _ _ h => h) (.inr ⟨by rfl, rfl⟩) ?_
      try simp only [Act.put, List.getElem_toArray, List.getElem_cons_succ, List.getElem_cons_zero, List.setIfInBounds_toArray, List.set_cons_zero, List.set_cons_succ]
      refine GoG.take (i := 12) (v := undef) [] rfl (by kernel_rfl) (by kernel_rfl) (by kernel_rfl) (by kernel_rfl) (by kernel_rfl) (by kernel_rfl) (fun _ _ _ h => h) (.inr ⟨by rfl, rfl⟩) ?_
      try simp only [Act.put, List.getElem_toArray, List.getElem_cons_succ, List.getElem_cons_zero, List.setIfInBounds_toArray, List.set_cons_zero, List.set_cons_succ]
      refine GoG.take (i := 13) (v := undef) [] rfl (by kernel_rfl) (by kernel_rfl) (by kernel_rfl) (by kernel_rfl) (by kernel_rfl) (by kernel_rfl) (fun _ _ _ h => h) (.inr ⟨by rfl, rfl⟩) ?_
      try simp only [Act.put, List.getElem_toArray, List.getElem_cons_succ, List.getElem_cons_zero, List.setIfInBounds_toArray, List.set_cons_zero, List.set_cons_succ]
      refine GoG.take (i := 14) (v := undef) [] rfl (by kernel_rfl) (by kernel_rfl) (by kernel_rfl) (by kernel_rfl) (by kernel_rfl) (by kernel_rfl) (fun _ _ _ h => h) (.inr ⟨by rfl, rfl⟩) ?_
      try simp only [Act.put, List.getElem_toArray, List.getElem_cons_succ, List.getElem_cons_zero, List.setIfInBounds_toArray, List.set_cons_zero, List.set_cons_succ]
      refine GoG.take (i := 15) (v := undef) [] rfl (by kernel_rfl) (by kernel_rfl) (by kernel_rfl) (by kernel_rfl) (by kernel_rfl) (by kernel_rfl) (fun _ _ _ h => h) (.inr ⟨by rfl, rfl⟩) ?_
      try simp only [Act.put, List.getElem_toArray, List.getElem_cons_succ, List.getElem_cons_zero, List.setIfInBounds_toArray, List.set_cons_zero, List.set_cons_succ]
      refine GoG.take (i := 16) (v := undef) [] rfl (by kernel_rfl) (by kernel_rfl) (by kernel_rfl) (by kernel_rfl) (by kernel_rfl) (by kernel_rfl) (fun _ _ _ h => h) (.inr ⟨by rfl, rfl⟩) ?_
      try simp only [Act.put, List.getElem_toArray, List.getElem_cons_succ, List.getElem_cons_zero, List.setIfInBounds_toArray, List.set_cons_zero, List.set_cons_succ]
      refine GoG.take (i := 17) (v := undef) [] rfl (by kernel_rfl) (by kernel_rfl) (by kernel_rfl) (by kernel_rfl) (by kernel_rfl) (by kernel_rfl) (fun _ _ _ h => h) (.inr ⟨by rfl, rfl⟩) ?_
      try simp only [Act.put, List.getElem_toArray, List.getElem_cons_succ, List.getElem_cons_zero, List.setIfInBounds_toArray, List.set_cons_zero, List.set_cons_succ]
      refine GoG.take (i := 18) (v := undef) [] rfl (by kernel_rfl) (by kernel_rfl) (by kernel_rfl) (by kernel_rfl) (by kernel_rfl) (by kernel_rfl) (fun _ _ _ h => h) (.inr ⟨by rfl, rfl⟩) ?_
      try simp only [Act.put, List.getElem_toArray, List.getElem_cons_succ, List.getElem_cons_zero, List.setIfInBounds_toArray, List.set_cons_zero, List.set_cons_succ]
      refine GoG.take (i := 19) (v := undef) [] rfl (by kernel_rfl) (by kernel_rfl) (by kernel_rfl) (by kernel_rfl) (by kernel_rfl) (by kernel_rfl) (fun _ _ _ h => h) (.inr ⟨by rfl, rfl⟩) ?_
      try simp only [Act.put, List.getElem_toArray, List.getElem_cons_succ, List.getElem_cons_zero, List.setIfInBounds_toArray, List.set_cons_zero, List.set_cons_succ]
      refine GoG.one (i := 20) rfl (by kernel_rfl) (fun K hK => ?_)
      go_simp
      refine hK.out _ _ (Keeps.up (by rfl) (Keeps.up (by rfl) (Keeps.up (by rfl) (Keeps.up (by rfl) Keeps.nil)))) ?_
      clear hK K
      refine GoG.done (by kernel_rfl) ?_ _
      go_wp2_with fail
      refine (TK 2 _ HP7.out).out.mono ?_
      rintro x w9 ⟨rfl, hp9, hb9⟩
      have HP9 := Lib.hid hp9
      have B9 := Lib.hid (B7.out.trans hb9)
      clear hp9 hb9
      go_wp2_with fail
      go_end0
      rw [HK.out]
      exact ⟨rfl, HP9.out, B9.out⟩
end Go.Proofs.Ytjhgibdebcapfaa
