import Derived.Test.YtkmnfkhchcoamaaGreatDoorTypShelf
import Derived.Test.YtkmnfkhchcoamaaGreatDoorTypElems
import Derived.Test.YtkmnfkhchcoamaaGreatDoorTypPA
/- The program's twoNames, term, and the closures of structure and iface. -/
namespace Go.Proofs.YtkmnfkhchcoamaaGreatDoor
open Go.RowKit
set_option linter.unusedSimpArgs false
set_option linter.unusedVariables false

/-- The library's greatest length: some number. -/
def MaxAt (w : World) : Prop := ∃ m, w.cell? ⟨1, 0, none⟩ = some (.int .i64 m)
theorem MaxAt.below {w w' : World} (h : MaxAt w) (hb : Below w.heap.size w w') : MaxAt w' := by
  obtain ⟨m, hm⟩ := h
  have hlt : 1 < w.heap.size := by
    rcases Nat.lt_or_ge 1 w.heap.size with h1 | h1
    · exact h1
    · exfalso
      unfold World.cell? at hm
      rw [Array.getElem?_eq_none (by simpa using h1)] at hm
      cases hm
  exact ⟨m, by rw [hb.cell (p := ⟨1, 0, none⟩) hlt]; exact hm⟩
theorem bytes_eq {a b : ByteArray} (h : a.data.toList = b.data.toList) : a = b := ByteArray.ext (Array.toList_inj.1 h)
theorem ext_list (s : ByteArray) (a b : Nat) : (s.extract a b).data.toList = (s.data.toList.take b).drop a := by
  simp [ByteArray.data_extract, List.extract, List.drop_take]
theorem take_all (s : ByteArray) : s.data.toList.take s.size = s.data.toList := List.take_of_length_le (by simp)
theorem trim_field (s : ByteArray) : (⟨(Lib.trimPrefix s.data.toList [43]).toArray⟩ : ByteArray) = fieldT s := by
  apply bytes_eq
  unfold fieldT Lib.trimPrefix Lib.hasPrefix
  by_cases h0 : 0 < s.size
  · have hl : s.data.toList = s.data[0]'(by simpa using h0) :: s.data.toList.tail := by
      cases he : s.data.toList with
      | nil =>
        have : s.data.toList.length = 0 := by rw [he]; rfl
        have h2 : s.data.toList.length = s.size := by simp
        omega
      | cons c r =>
        have : s.data[0]'(by simpa using h0) = c := by
          have h3 : s.data.toList[0]? = some c := by rw [he]; rfl
          rw [Array.getElem?_toList, Array.getElem?_eq_getElem (by simpa using h0)] at h3
          injection h3
        rw [this]; rfl
    have hb : byteAt s 0 = ((s.data[0]'(by simpa using h0)).toNat : Int) := by unfold byteAt; rw [Array.getElem?_eq_getElem (by simpa using h0)]; rfl
    have hp : [(43 : UInt8)].isPrefixOf s.data.toList = decide (byteAt s 0 = 43) := by
      rw [hl, hb]
      simp only [List.isPrefixOf, Bool.and_true]
      rw [Bool.eq_iff_iff, beq_iff_eq, decide_eq_true_iff]
      constructor
      · intro e; rw [← e]; rfl
      · intro e; exact UInt8.toNat_inj.1 (by show (43 : Nat) = _; omega)
    by_cases h43 : byteAt s 0 = 43
    · rw [hp, decide_eq_true h43, if_pos rfl, if_pos ⟨h0, h43⟩, ext_list, take_all]
      simp
    · rw [hp, decide_eq_false h43, if_neg (by decide), if_neg (fun g => h43 g.2)]
  · have he : s.data.toList = [] := List.eq_nil_of_length_eq_zero (by have h2 : s.data.toList.length = s.size := by simp
                                                                      omega)
    rw [if_neg (show ¬ (0 < s.size ∧ byteAt s 0 = 43) from fun g => h0 g.1), he]
    rfl
theorem trim_any (s : ByteArray) (w : World) :
    Calls Tryz.prog 96 #[.string s, .string ⟨#[43]⟩] w fun e w' => e = .returned (.string (fieldT s)) ∧ w = w' := by
  refine (Tryz.strings_TrimPrefix s ⟨#[43]⟩ w).mono ?_
  rintro e w' ⟨he, rfl⟩
  refine ⟨?_, rfl⟩
  rw [he, ← trim_field]
/-- Where the point stands, in a list. -/
theorem index_dot : ∀ l : List UInt8, (Lib.index l [46] = -1 ∧ ∀ c ∈ l, c ≠ 46) ∨ ∃ i : Nat, Lib.index l [46] = (i : Int) ∧ l[i]? = some 46 ∧ ∀ j, j < i → l[j]? ≠ some 46
  | [] => .inl ⟨rfl, by simp⟩
  | b :: l => by
    have ih := index_dot l
    have hstep : Lib.index (b :: l) [46] = if [(46 : UInt8)].isPrefixOf (b :: l) then 0 else if Lib.index l [46] == -1 then -1 else Lib.index l [46] + 1 := rfl
    have hp : [(46 : UInt8)].isPrefixOf (b :: l) = ((46 : UInt8) == b) := by simp [List.isPrefixOf]
    rw [hp] at hstep
    by_cases hb : b = 46
    · subst hb
      exact .inr ⟨0, by rw [hstep]; rfl, rfl, fun j hj => absurd hj (Nat.not_lt_zero _)⟩
    · have hne : ((46 : UInt8) == b) = false := by rw [beq_eq_false_iff_ne]; exact fun e => hb e.symm
      rw [hne, if_neg (by decide)] at hstep
      rcases ih with ⟨h1, h2⟩ | ⟨i, h1, h2, h3⟩
      · refine .inl ⟨by rw [hstep, h1]; rfl, fun c hc => ?_⟩
        rcases List.mem_cons.1 hc with rfl | hc
        · exact hb
        · exact h2 c hc
      · refine .inr ⟨i + 1, ?_, by simpa using h2, fun j hj => ?_⟩
        · rw [hstep, h1, if_neg (by rw [beq_iff_eq]; omega)]
          rfl
        · cases j with
          | zero => simpa using hb
          | succ j => simpa using h3 j (by omega)
theorem byte_list {s : ByteArray} {j : Nat} (hj : j < s.size) : (byteAt s j = 46 ↔ s.data.toList[j]? = some 46) := by
  rw [byteAt_eq hj, Array.getElem?_toList, Array.getElem?_eq_getElem (by simpa using hj)]
  constructor
  · intro h
    have : s[j] = (46 : UInt8) := UInt8.toNat_inj.1 (by show _ = 46; omega)
    exact congrArg some this
  · intro h
    have : s[j] = (46 : UInt8) := by injection h
    rw [this]; rfl
/-- What Cut tells of a text with a point. -/
theorem cut_dot (s : ByteArray) : (dotAt s = none ∧ (Lib.cut s.data.toList [46]).2.2 = false) ∨
    ∃ i, i < s.size ∧ dotAt s = some i ∧ (⟨(Lib.cut s.data.toList [46]).1.toArray⟩ : ByteArray) = s.extract 0 i ∧ (⟨(Lib.cut s.data.toList [46]).2.1.toArray⟩ : ByteArray) = s.extract (i + 1) s.size ∧ (Lib.cut s.data.toList [46]).2.2 = true := by
  have hsz : s.data.toList.length = s.size := by simp
  rcases index_dot s.data.toList with ⟨h1, h2⟩ | ⟨i, h1, h2, h3⟩
  · refine .inl ⟨dot_none (fun j hj e => ?_), ?_⟩
    · have := (byte_list hj).1 e
      exact h2 46 (List.mem_of_getElem? this) rfl
    · unfold Lib.cut
      rw [if_neg (by rw [h1]; decide)]
  · have hi : i < s.size := by
      have := (List.getElem?_eq_some_iff.1 h2).1
      omega
    refine .inr ⟨i, hi, dot_some hi (fun j hj e => h3 j hj ((byte_list (by omega)).1 e)) ((byte_list hi).2 h2), ?_, ?_, ?_⟩
    · unfold Lib.cut
      rw [if_pos (by rw [h1]; omega), h1]
      apply bytes_eq
      rw [ext_list]
      simp
    · unfold Lib.cut
      rw [if_pos (by rw [h1]; omega), h1]
      apply bytes_eq
      rw [ext_list, take_all]
      simp
    · unfold Lib.cut
      rw [if_pos (by rw [h1]; omega)]
theorem below_drewsM {W w : World} (h : Below W.heap.size W w) (n : Nat) : Below W.heap.size W (w.drewN n) := below_drewN h n
set_option maxHeartbeats 4000000 in
theorem twoNames_any (s : ByteArray) (w : World) (hs : s.size ≤ 1000) (hm : MaxAt w) :
    Calls Tryz.prog 82 #[.string s] w fun e w' => e = .returned (.bool (namedB s)) ∧ Below w.heap.size w w' := by
  obtain ⟨m, hm⟩ := hm
  have HC := Tryz.strings_Cut s ⟨#[46]⟩ m w (by omega) hm
  obtain ⟨r, hr⟩ : ∃ r, namedB s = r := ⟨_, rfl⟩
  rw [hr]
  unfold namedB at hr
  have e46 : (⟨#[46]⟩ : ByteArray).data.toList = [46] := rfl
  rw [e46] at HC
  rcases cut_dot s with ⟨h1, h2⟩ | ⟨i, hi, h1, h2, h3, h4⟩
  · rw [h1] at hr
    rw [h2] at HC
    have Hr := Lib.hid (show false = r from hr)
    have HC := Lib.hid HC
    clear h1 h2 hr hm
    go_enter Tryz.func82, Tryz.ntmps82
    go_wp2_with fail
    refine HC.out.mono ?_
    rintro e w' ⟨rfl, n, rfl⟩
    go_wp2_with fail
    go_ret
    exact ⟨ret_bool Hr.out, below_drewN (Below.refl _ _) n⟩
  · rw [h1] at hr
    rw [h2, h3, h4] at HC
    have hr : (nameB (s.extract 0 i) && nameB (s.extract (i + 1) s.size)) = r := hr
    have hz1 : (s.extract 0 i).size ≤ 1000 := by rw [ByteArray.size_extract]; omega
    have hz2 : (s.extract (i + 1) s.size).size ≤ 1000 := by rw [ByteArray.size_extract]; omega
    obtain ⟨a, ha⟩ : ∃ a, s.extract 0 i = a := ⟨_, rfl⟩
    obtain ⟨b, hb⟩ : ∃ b, s.extract (i + 1) s.size = b := ⟨_, rfl⟩
    rw [ha, hb] at hr HC
    rw [ha] at hz1
    rw [hb] at hz2
    have HC := Lib.hid HC
    have HN1 := Lib.hid (fun W => name_any a W (by omega))
    have HN2 := Lib.hid (fun W => name_any b W (by omega))
    clear h1 h2 h3 h4 ha hb hz1 hz2 hm
    cases hna : nameB a
    · rw [hna] at hr HN1
      have Hr := Lib.hid (show false = r from hr)
      clear hr hna
      go_enter Tryz.func82, Tryz.ntmps82
      go_wp2_with fail
      refine HC.out.mono ?_
      rintro e w' ⟨rfl, n, rfl⟩
      go_wp2_with fail
      refine (HN1.out _).mono ?_
      rintro e w' ⟨rfl, rfl⟩
      go_wp2_with fail
      go_ret
      exact ⟨ret_bool Hr.out, below_drewN (Below.refl _ _) n⟩
    · rw [hna] at hr HN1
      have Hr := Lib.hid (show nameB b = r from hr)
      clear hr hna
      go_enter Tryz.func82, Tryz.ntmps82
      go_wp2_with fail
      refine HC.out.mono ?_
      rintro e w' ⟨rfl, n, rfl⟩
      go_wp2_with fail
      refine (HN1.out _).mono ?_
      rintro e w' ⟨rfl, rfl⟩
      go_wp2_with fail
      refine (HN2.out _).mono ?_
      rintro e w' ⟨rfl, rfl⟩
      go_wp2_with fail
      go_ret
      exact ⟨ret_bool Hr.out, below_drewN (Below.refl _ _) n⟩
/-- May a type stand in a constraint? -/
def termB (l : List Ty) (k : Int) : Bool := decide (¬ (14 ≤ k ∧ k ≤ 19) ∧ kindAt l k ≠ 7 ∧ kindAt l k ≠ 9)
set_option maxHeartbeats 4000000 in
theorem term_any (l : List Ty) (ao : Option Addr) (ac : Nat) (z : Nat) (w : World) (hl : ARow w ao l) (hz : z < l.length) (ll : l.length ≤ 1000) :
    Calls Tryz.prog 101 #[.slice ao l.length ac, .int .i64 z] w fun e w' => e = .returned (.bool (termB l (z : Int))) ∧ w = w' := by
  obtain ⟨r, hr⟩ : ∃ r, termB l (z : Int) = r := ⟨_, rfl⟩
  rw [hr]
  unfold termB at hr
  obtain ⟨ab, aof, rfl, hab, hac⟩ := hl.cells (by omega)
  obtain ⟨_, _, _, _, ca, -⟩ := hac z hz
  rw [kindAt_eq hz] at hr
  obtain ⟨X, hX⟩ : ∃ X, l[z].kind = X := ⟨_, rfl⟩
  rw [hX] at ca hr
  have HR := Lib.hid hr
  obtain ⟨L, hL⟩ : ∃ L, l.length = L := ⟨_, rfl⟩
  rw [hL] at hz ll ⊢
  clear hr hX hac hab hl hL
  by_cases h1 : 14 ≤ (z : Int) ∧ (z : Int) ≤ 19
  · obtain ⟨h2, h3⟩ := h1
    have Hr := Lib.hid (show false = r by rw [← HR.out, decide_eq_false (by omega)])
    go_enter Tryz.func101, Tryz.ntmps101
    go_wp2_with fail
    go_ret
    exact ⟨ret_bool Hr.out, rfl⟩
  have h1' : ¬ (14 ≤ (z : Int)) ∨ ¬ ((z : Int) ≤ 19) := by omega
  by_cases h7 : X = 7
  · have Hr := Lib.hid (show false = r by rw [← HR.out, decide_eq_false (by omega)])
    subst h7
    clear h1
    rcases h1' with h1 | h1
    · go_enter Tryz.func101, Tryz.ntmps101
      go_wp2_with fail
      go_ret
      exact ⟨ret_bool Hr.out, rfl⟩
    · have h2 : 14 ≤ (z : Int) := by omega
      go_enter Tryz.func101, Tryz.ntmps101
      go_wp2_with fail
      go_ret
      exact ⟨ret_bool Hr.out, rfl⟩
  have e7 : (X != 7) = true := by rw [bne_iff_ne]; exact h7
  by_cases h9 : X = 9
  · have Hr := Lib.hid (show false = r by rw [← HR.out, decide_eq_false (by omega)])
    subst h9
    clear h1
    rcases h1' with h1 | h1
    · go_enter Tryz.func101, Tryz.ntmps101
      go_wp2_with fail
      go_ret
      exact ⟨ret_bool Hr.out, rfl⟩
    · have h2 : 14 ≤ (z : Int) := by omega
      go_enter Tryz.func101, Tryz.ntmps101
      go_wp2_with fail
      go_ret
      exact ⟨ret_bool Hr.out, rfl⟩
  have e9 : (X != 9) = true := by rw [bne_iff_ne]; exact h9
  have Hr := Lib.hid (show true = r by rw [← HR.out, decide_eq_true (by omega)])
  clear h1 h7 h9
  rcases h1' with h1 | h1
  · go_enter Tryz.func101, Tryz.ntmps101
    go_wp2_with fail
    go_ret
    exact ⟨ret_bool Hr.out, rfl⟩
  · have h2 : 14 ≤ (z : Int) := by omega
    go_enter Tryz.func101, Tryz.ntmps101
    go_wp2_with fail
    go_ret
    exact ⟨ret_bool Hr.out, rfl⟩
set_option maxHeartbeats 4000000 in
theorem iface1_any (s : ByteArray) (w : World) :
    Calls Tryz.prog 100 #[.string s] w fun e w' => e = .returned (.bool (markB s)) ∧ w = w' := by
  obtain ⟨r, hr⟩ : ∃ r, markB s = r := ⟨_, rfl⟩
  rw [hr]
  unfold markB at hr
  cases h1 : (s.toList == [61])
  · have HR := Lib.hid (show (s.toList == [126]) = r by rw [← hr, h1]; rfl)
    clear hr
    go_enter Tryz.func100, Tryz.ntmps100
    go_wp2_with fail
    go_ret
    exact ⟨ret_bool (by first | exact HR.out | (rw [← HR.out]; simp)), rfl⟩
  · have HR := Lib.hid (show true = r by rw [← hr, h1]; rfl)
    clear hr
    go_enter Tryz.func100, Tryz.ntmps100
    go_wp2_with fail
    go_ret
    exact ⟨ret_bool HR.out, rfl⟩
set_option maxHeartbeats 4000000 in
theorem structure1_any (s name : ByteArray) (b : Nat) (w : World) (hc : w.cell? ⟨b, 0, none⟩ = some (.string name)) :
    Calls Tryz.prog 98 #[.string s, .pointer (some ⟨b, 0, none⟩)] w fun e w' => e = .returned (.bool (decide (fieldT s = name))) ∧ ∃ n, w' = w.drewN n := by
  have hst := Lib.hid (ty_str_eq (fieldT s) name)
  have HT0 : ∀ W, Calls Tryz.prog 96 #[.string s, .string ⟨#[43]⟩] W fun e w' => e = .returned (.string (fieldT s)) ∧ w' = W := fun W => (trim_any s W).mono fun _ _ h => ⟨h.1, h.2.symm⟩
  have HT := Lib.hid HT0
  clear HT0
  generalize fieldT s = u at *
  go_enter Tryz.func98, Tryz.ntmps98
  go_wp2_with fail
  go_quiet ((go_at_call 96; exact Calls.quiet_of_same (HT.out _)))
  rename_i nq
  go_wp2_with fail
  go_ret
  exact ⟨ret_bool hst.out, _, rfl⟩
end Go.Proofs.YtkmnfkhchcoamaaGreatDoor

