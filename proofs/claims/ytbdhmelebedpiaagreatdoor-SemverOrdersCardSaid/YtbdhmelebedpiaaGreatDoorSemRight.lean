/- Right. -/
import Derived.Test.YtbdhmelebedpiaaGreatDoorSemNextM
namespace Go.Proofs.YtbdhmelebedpiaaGreatDoor
open Go.RowKit

/-- What is told of a version in memory. -/
structure VerC (w : World) (po bo : Option Addr) (V : Vr) : Prop where
  pre : SRow w po V.pre
  build : SRow w bo V.build
  ps : ∀ s ∈ V.pre, s.size ≤ 1000
  bs : ∀ s ∈ V.build, s.size ≤ 1000
  pl : V.pre.length ≤ 1000
  bl : V.build.length ≤ 1000
  nums : (-9223372036854775808 ≤ V.ma ∧ V.ma ≤ 9223372036854775807) ∧ (-9223372036854775808 ≤ V.mi ∧ V.mi ≤ 9223372036854775807) ∧ -9223372036854775808 ≤ V.pa ∧ V.pa ≤ 9223372036854775807
theorem VerC.below {w w' : World} {po bo : Option Addr} {V : Vr} (h : VerC w po bo V) (hb : Below w.heap.size w w') : VerC w' po bo V :=
  ⟨h.pre.below hb, h.build.below hb, h.ps, h.bs, h.pl, h.bl, h.nums⟩
/-- A version, as a value. -/
def verV (V : Vr) (po : Option Addr) (pc : Nat) (bo : Option Addr) (bc : Nat) : Value :=
  .agg #[.int .i64 V.ma, .int .i64 V.mi, .int .i64 V.pa, .slice po V.pre.length pc, .slice bo V.build.length bc]
theorem all_no {p : ByteArray → Bool} {ss : List ByteArray} {k : Nat} (h : k < ss.length) (hp : p ss[k] = false) : ss.all p = false := by
  rw [Bool.eq_false_iff]
  intro ha
  rw [List.all_eq_true.1 ha _ (List.getElem_mem h)] at hp
  cases hp
theorem all_yes {p : ByteArray → Bool} {ss : List ByteArray} (h : ∀ j (hj : j < ss.length), p ss[j] = true) : ss.all p = true := by
  rw [List.all_eq_true]
  intro x hx
  obtain ⟨j, hj, rfl⟩ := List.getElem_of_mem hx
  exact h j hj
theorem right_neg {V : Vr} (h : V.ma < 0 ∨ V.mi < 0 ∨ V.pa < 0 ∨ fewB V.pre = false ∨ fewB V.build = false ∨ V.pre.all okPre = false) : rightB V = false := by
  rw [Bool.eq_false_iff]
  intro ha
  unfold rightB at ha
  simp only [Bool.and_eq_true, decide_eq_true_eq] at ha
  obtain ⟨⟨⟨⟨⟨⟨a, b⟩, c⟩, d⟩, e⟩, f⟩, g⟩ := ha
  rcases h with h | h | h | h | h | h
  · omega
  · omega
  · omega
  · rw [d] at h; cases h
  · rw [e] at h; cases h
  · rw [f] at h; cases h
theorem right_eq {V : Vr} (a : 0 ≤ V.ma) (b : 0 ≤ V.mi) (c : 0 ≤ V.pa) (d : fewB V.pre = true) (e : fewB V.build = true) (f : V.pre.all okPre = true) : rightB V = !V.build.any badWord := by
  unfold rightB
  rw [decide_eq_true a, decide_eq_true b, decide_eq_true c, d, e, f]
  rfl
/-- A new block of five cells. -/
theorem box5 {w w1 : World} {a b c d e : Value} {T : TypeId} (h : w.alloc (.cells #[a, b, c, d, e] T) = w1) :
    Below w.heap.size w w1 ∧ w1.heap.size = w.heap.size + 1 ∧ w1.cell? ⟨w.heap.size, 0, none⟩ = some a ∧ w1.cell? ⟨w.heap.size, 1, none⟩ = some b ∧ w1.cell? ⟨w.heap.size, 2, none⟩ = some c ∧ w1.cell? ⟨w.heap.size, 3, none⟩ = some d ∧ w1.cell? ⟨w.heap.size, 4, none⟩ = some e := by
  subst h
  refine ⟨(Below.refl _ _).alloc (Nat.le_refl _) _, by simp, ?_, ?_, ?_, ?_, ?_⟩ <;> (rw [World.cell?_alloc_at _ _ _ _ rfl]; rfl)
theorem okPre_no {s : ByteArray} (h : wordB s = false ∨ preB s = false ∨ (numB s = true ∧ (numRes s).2 = false)) : okPre s = false := by
  unfold okPre
  rcases h with h | h | ⟨h, h2⟩
  · rw [h]; rfl
  · rw [h, Bool.and_false]; rfl
  · rw [h, h2, Bool.not_true, Bool.or_false, Bool.and_false]
theorem okPre_yes {s : ByteArray} (h1 : wordB s = true) (h2 : preB s = true) (h3 : numB s = false ∨ (numRes s).2 = true) : okPre s = true := by
  unfold okPre
  rw [h1, h2]
  rcases h3 with h3 | h3
  · rw [h3]; rfl
  · rw [h3, Bool.or_true]; rfl
set_option maxHeartbeats 8000000 in
set_option maxRecDepth 100000 in
theorem right_any (V : Vr) (po bo : Option Addr) (pc bc : Nat) (w : World) (hv : VerC w po bo V) (hE : Errs w) :
    Calls Tryz.prog 7 #[verV V po pc bo bc] w fun e w' => e = .returned (.bool (rightB V)) ∧ Below w.heap.size w w' := by
  unfold verV
  have hlp := hv.pl
  have hlb := hv.bl
  have HV := Lib.hid hv
  have HE := Lib.hid hE
  clear hv hE
  by_cases c1 : V.ma < 0
  · have Hn := Lib.hid (right_neg (V := V) (.inl c1))
    go_enter Tryz.func7, Tryz.ntmps7
    go_wp2_with fail
    go_ret
    exact ⟨ret_bool Hn.out.symm, (Below.refl _ _).alloc (Nat.le_refl _) _⟩
  by_cases c2 : V.mi < 0
  · have Hn := Lib.hid (right_neg (V := V) (.inr (.inl c2)))
    go_enter Tryz.func7, Tryz.ntmps7
    go_wp2_with fail
    go_ret
    exact ⟨ret_bool Hn.out.symm, (Below.refl _ _).alloc (Nat.le_refl _) _⟩
  by_cases c3 : V.pa < 0
  · have Hn := Lib.hid (right_neg (V := V) (.inr (.inr (.inl c3))))
    go_enter Tryz.func7, Tryz.ntmps7
    go_wp2_with fail
    go_ret
    exact ⟨ret_bool Hn.out.symm, (Below.refl _ _).alloc (Nat.le_refl _) _⟩
  have d1 : 0 ≤ V.ma := by omega
  have d2 : 0 ≤ V.mi := by omega
  have d3 : 0 ≤ V.pa := by omega
  have D1 := Lib.hid (And.intro d1 (And.intro d2 d3))
  clear c1 c2 c3
  obtain ⟨w1, hw1⟩ : ∃ w1, w.alloc (.cells #[.int .i64 V.ma, .int .i64 V.mi, .int .i64 V.pa, .slice po V.pre.length pc, .slice bo V.build.length bc] 24) = w1 := ⟨_, rfl⟩
  obtain ⟨bw, hz, x0, x1, x2, x3, x4⟩ := box5 hw1
  have BW := Lib.hid bw
  have HZ := Lib.hid hz
  have X4 := Lib.hid x4
  have F1 := Lib.hid (fewWords_any po pc V.pre w1 (HV.out.pre.below bw) (fun s hs => by have := HV.out.ps s hs; omega) (by omega))
  have F2 := Lib.hid (fewWords_any bo bc V.build w1 (HV.out.build.below bw) (fun s hs => by have := HV.out.bs s hs; omega) (by omega))
  clear bw hz
  cases hf1 : fewB V.pre <;> rw [hf1] at F1 <;> have G1 := Lib.hid hf1 <;> clear hf1
  · have Hn := Lib.hid (right_neg (V := V) (.inr (.inr (.inr (.inl G1.out)))))
    go_enter Tryz.func7, Tryz.ntmps7
    go_wp2_with fail
    refine F1.out.mono ?_
    rintro e w' ⟨rfl, rfl⟩
    go_wp2_with fail
    go_ret
    exact ⟨ret_bool Hn.out.symm, BW.out⟩
  cases hf2 : fewB V.build <;> rw [hf2] at F2 <;> have G2 := Lib.hid hf2 <;> clear hf2
  · have Hn := Lib.hid (right_neg (V := V) (.inr (.inr (.inr (.inr (.inl G2.out))))))
    go_enter Tryz.func7, Tryz.ntmps7
    go_wp2_with fail
    refine F1.out.mono ?_
    rintro e w' ⟨rfl, rfl⟩
    go_wp2_with fail
    refine F2.out.mono ?_
    rintro e w' ⟨rfl, rfl⟩
    go_wp2_with fail
    go_ret
    exact ⟨ret_bool Hn.out.symm, BW.out⟩
  go_enter Tryz.func7, Tryz.ntmps7
  go_wp2_with fail
  refine F1.out.mono ?_
  rintro e w' ⟨rfl, rfl⟩
  go_wp2_with fail
  refine F2.out.mono ?_
  rintro e w' ⟨rfl, rfl⟩
  go_wp2_with fail
  clear hw1 x0 x1 x2 x3 x4 F1 F2 d1 d2 d3
  go_loopw [35] (fun i wr => ∃ k : Nat, k ≤ V.pre.length ∧ i = .int .i64 k ∧ Hid (∀ j (hj : j < V.pre.length), j < k → okPre V.pre[j] = true) ∧ Hid (Below w1.heap.size w1 wr)) (fun i _ => V.pre.length - (intOf i).toNat)
  case atStart => exact ⟨0, Nat.zero_le _, rfl, Lib.hid (fun j _ hj => absurd hj (Nat.not_lt_zero _)), Lib.hid (Below.refl _ _)⟩
  case round =>
    obtain ⟨k, hk, rfl, Hok, HB⟩ := hrel
    have BB := Lib.hid (BW.out.trans (HB.out.mono BW.out.size))
    by_cases hlt : k < V.pre.length
    · have hsz := HV.out.ps _ (List.getElem_mem hlt)
      obtain ⟨b, off, rfl, hb, hc⟩ := (HV.out.pre.below BB.out).cells (by omega)
      have hck := hc k hlt
      clear hc
      have EX : ∃ s, V.pre[k] = s := ⟨_, rfl⟩
      obtain ⟨s, hs⟩ := EX
      have HS := Lib.hid hs
      rw [hs] at hck hsz
      clear hs
      have HW := Lib.hid (isWord_any s wr (by omega))
      have HP := Lib.hid (rightPre_any s wr (by omega))
      have HN := Lib.hid (number_any s wr (by omega) (HE.out.below BB.out))
      have HNu := fun w2 => Lib.hid (numeric_any s w2 (by omega))
      have Hnot := Lib.hid (show okPre s = false → rightB V = false from fun h => right_neg (.inr (.inr (.inr (.inr (.inr (all_no hlt (by rw [HS.out]; exact h))))))))
      cases hw : wordB s <;> rw [hw] at HW <;> have GW := Lib.hid hw <;> clear hw
      · go_wp2_with fail
        refine HW.out.mono ?_
        rintro e w' ⟨rfl, rfl⟩
        go_wp2_with fail
        go_ret
        exact ⟨ret_bool (Hnot.out (okPre_no (.inl GW.out))).symm, BB.out⟩
      cases hp : preB s <;> rw [hp] at HP <;> have GP := Lib.hid hp <;> clear hp
      · go_wp2_with fail
        refine HW.out.mono ?_
        rintro e w' ⟨rfl, rfl⟩
        go_wp2_with fail
        refine HP.out.mono ?_
        rintro e w' ⟨rfl, rfl⟩
        go_wp2_with fail
        go_ret
        exact ⟨ret_bool (Hnot.out (okPre_no (.inr (.inl GP.out)))).symm, BB.out⟩
      have GR : Hid ((numRes s).2 = (numRes s).2) := Lib.hid rfl
      obtain ⟨z, hz⟩ : ∃ z, (numRes s).1 = z := ⟨_, rfl⟩
      rw [hz] at HN
      clear hz GR
      cases hr : (numRes s).2 <;> rw [hr] at HN <;> have GR := Lib.hid hr <;> clear hr
      · cases hn : numB s <;> rw [hn] at HNu <;> have GN := Lib.hid hn <;> clear hn
        · have Hnx := Lib.hid (show ∀ j (hj : j < V.pre.length), j < k + 1 → okPre V.pre[j] = true from fun j hj hjk => by
            rcases Nat.lt_or_eq_of_le (Nat.le_of_lt_succ hjk) with h1 | h1
            · exact Hok.out j hj h1
            · subst h1; rw [HS.out]; exact okPre_yes GW.out GP.out (.inl GN.out))
          go_wp2_with fail
          refine HW.out.mono ?_
          rintro e w' ⟨rfl, rfl⟩
          go_wp2_with fail
          refine HP.out.mono ?_
          rintro e w' ⟨rfl, rfl⟩
          go_wp2_with fail
          refine HN.out.mono ?_
          rintro e w2 ⟨rfl, b2⟩
          have B2 := Lib.hid b2
          clear b2
          go_wp2_with fail
          refine (HNu w2).out.mono ?_
          rintro e w' ⟨rfl, rfl⟩
          go_wp2_with fail
          go_roundw
          case rel => exact ⟨k + 1, by omega, by go_num, Hnx, Lib.hid (HB.out.trans (B2.out.mono HB.out.size))⟩
          case measure => simp [intOf]; omega
        · go_wp2_with fail
          refine HW.out.mono ?_
          rintro e w' ⟨rfl, rfl⟩
          go_wp2_with fail
          refine HP.out.mono ?_
          rintro e w' ⟨rfl, rfl⟩
          go_wp2_with fail
          refine HN.out.mono ?_
          rintro e w2 ⟨rfl, b2⟩
          have B2 := Lib.hid b2
          clear b2
          go_wp2_with fail
          refine (HNu w2).out.mono ?_
          rintro e w' ⟨rfl, rfl⟩
          go_wp2_with fail
          go_ret
          exact ⟨ret_bool (Hnot.out (okPre_no (.inr (.inr ⟨GN.out, GR.out⟩)))).symm, BB.out.trans (B2.out.mono BB.out.size)⟩
      · have Hnx := Lib.hid (show ∀ j (hj : j < V.pre.length), j < k + 1 → okPre V.pre[j] = true from fun j hj hjk => by
            rcases Nat.lt_or_eq_of_le (Nat.le_of_lt_succ hjk) with h1 | h1
            · exact Hok.out j hj h1
            · subst h1; rw [HS.out]; exact okPre_yes GW.out GP.out (.inr GR.out))
        cases hn : numB s <;> rw [hn] at HNu <;> clear hn
        all_goals
          go_wp2_with fail
          refine HW.out.mono ?_
          rintro e w' ⟨rfl, rfl⟩
          go_wp2_with fail
          refine HP.out.mono ?_
          rintro e w' ⟨rfl, rfl⟩
          go_wp2_with fail
          refine HN.out.mono ?_
          rintro e w2 ⟨rfl, b2⟩
          have B2 := Lib.hid b2
          clear b2
          go_wp2_with fail
          refine (HNu w2).out.mono ?_
          rintro e w' ⟨rfl, rfl⟩
          go_wp2_with fail
          go_roundw
          case rel => exact ⟨k + 1, by omega, by go_num, Hnx, Lib.hid (HB.out.trans (B2.out.mono HB.out.size))⟩
          case measure => simp [intOf]; omega
    · obtain rfl : k = V.pre.length := by omega
      have x4 := (HB.out.cell (p := ⟨w.heap.size, 4, none⟩) (by rw [HZ.out]; exact Nat.lt_succ_self _)).trans X4.out
      have HC := Lib.hid (containsW_any bo bc V.build wr (HV.out.build.below BB.out) (fun s hs => by have := HV.out.bs s hs; omega) (by omega))
      have Hn := Lib.hid (right_eq D1.out.1 D1.out.2.1 D1.out.2.2 G1.out G2.out (all_yes fun j hj => Hok.out j hj hj))
      go_wp2_with fail
      refine HC.out.mono ?_
      rintro e w' ⟨rfl, rfl⟩
      go_wp2_with fail
      go_ret
      exact ⟨ret_bool Hn.out.symm, BB.out⟩
end Go.Proofs.YtbdhmelebedpiaaGreatDoor
