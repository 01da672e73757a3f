/- The program's Scan. -/
import Derived.Test.YtjhgibdebcapfaaScanPF
import Derived.Test.YtjhgibdebcapfaaScanPT
import Derived.Test.YtjhgibdebcapfaaSrcCheckWalk
import Derived.Laws.MakeOwn
namespace Go.Proofs.Ytjhgibdebcapfaa
open Go.RowKit
set_option linter.unusedSimpArgs false
set_option linter.unusedVariables false

theorem name_kind {s : ByteArray} {i : Nat} (he : (nameT s i).err = 0) : 1 ≤ (nameT s i).kind ∧ (nameT s i).kind ≤ 7 := by
  unfold nameT at he ⊢
  simp only at he ⊢
  split at he
  · cases he
  · rename_i hn
    rw [if_neg hn]
    split
    · exact (show (1 : Int) ≤ 7 ∧ (7 : Int) ≤ 7 by decide)
    · exact (show (1 : Int) ≤ 1 ∧ (1 : Int) ≤ 7 by decide)
theorem number_kind {s : ByteArray} {i : Nat} : 1 ≤ (numberT s i).kind ∧ (numberT s i).kind ≤ 7 := by
  unfold numberT
  simp only
  split <;> decide
theorem quoted_kind {s : ByteArray} {i : Nat} (he : (quotedT s i).err = 0) : 1 ≤ (quotedT s i).kind ∧ (quotedT s i).kind ≤ 7 := by
  unfold quotedT at he ⊢
  cases hq : quo s (byteAt s i) (i + 1) with
  | none => rw [hq] at he; exact absurd (show (5 : Int) = 0 from he) (by decide)
  | some e => unfold quoG; simp only; split <;> decide
theorem oper_kind {s : ByteArray} {i : Nat} (he : (operT s i).err = 0) : 1 ≤ (operT s i).kind ∧ (operT s i).kind ≤ 7 := by
  unfold operT at he ⊢
  split at he
  · rename_i h; rw [if_pos h]; exact (show (1 : Int) ≤ 6 ∧ (6 : Int) ≤ 7 by decide)
  · rename_i h; rw [if_neg h]
    split at he
    · rename_i h; rw [if_pos h]; exact (show (1 : Int) ≤ 6 ∧ (6 : Int) ≤ 7 by decide)
    · rename_i h; rw [if_neg h]
      split at he
      · rename_i h; rw [if_pos h]; exact (show (1 : Int) ≤ 6 ∧ (6 : Int) ≤ 7 by decide)
      · cases he
theorem tok_kind {s : ByteArray} {i : Nat} (he : (tokT s i).err = 0) : 1 ≤ (tokT s i).kind ∧ (tokT s i).kind ≤ 7 := by
  unfold tokT at he ⊢
  split at he
  · rename_i h1; rw [if_pos h1]; exact name_kind he
  · rename_i h1; rw [if_neg h1]
    split at he
    · rename_i h1; rw [if_pos h1]; exact number_kind
    · rename_i h1; rw [if_neg h1]
      split at he
      · rename_i h1; rw [if_pos h1]; exact quoted_kind he
      · rename_i h1; rw [if_neg h1]; exact oper_kind he
/-- What Scan gives. -/
def PRes (W w' : World) (e : Ending) (R : Res) : Prop := ∃ v, e = .returned (.tuple #[v, .int .i64 R.pos, .int .i64 R.err]) ∧ Own w' W.heap.size v R.toks ∧ Below W.heap.size W w'
set_option maxHeartbeats 4000000 in
theorem pscan_many (s : ByteArray) (w : World) (hm : 4000 < s.size) :
    Calls Try.prog 4 #[.string s] w fun e w' => PRes w w' e (scanT s) := by
  have HR := Lib.hid (show scanT s = ⟨[], 0, 7⟩ by unfold scanT; rw [if_pos hm])
  have HC := Lib.hid (check_many s w hm)
  clear hm
  unfold PRes
  go_enter Try.func4, Try.ntmps4
  go_wp2_with fail
  refine HC.out.mono ?_
  rintro x w1 ⟨rfl, b1⟩
  have B1 := Lib.hid b1
  clear b1 HC
  go_wp2_with fail
  try simp only [Exit.inBlock, Exit.then, Exit.noGoto]
  refine bodyPost_ret (v := .tuple #[.slice none 0 0, .int .i64 0, .int .i64 7]) (by simp [results, Try.results4, go_sem]) rfl ⟨_, by rw [HR.out], by rw [HR.out]; exact own_nil _ _, B1.out⟩
set_option maxHeartbeats 4000000 in
theorem pscan_spoilt (s : ByteArray) (w : World) (hs : s.size ≤ 4000) (hm : spoil s ≠ -1) :
    Calls Try.prog 4 #[.string s] w fun e w' => PRes w w' e (scanT s) := by
  have HR := Lib.hid (show scanT s = ⟨[], spoil s, 12⟩ by unfold scanT; rw [if_neg (by omega), if_pos hm])
  have hb := spoil_bounds s s.size 0
  obtain ⟨k, hk⟩ : ∃ k : Nat, spoil s = (k : Int) := ⟨(spoil s).toNat, by have : -1 ≤ spoil s := hb.1; omega⟩
  have HC0 := check_few s w hs
  rw [chk_bad hk] at HC0
  have HC := Lib.hid HC0
  have HK := Lib.hid hk
  clear hm hb hk HC0
  unfold PRes
  go_enter Try.func4, Try.ntmps4
  go_wp2_with fail
  refine HC.out.mono ?_
  rintro x w1 ⟨rfl, b1⟩
  have B1 := Lib.hid b1
  clear b1 HC
  go_wp2_with fail
  try simp only [Exit.inBlock, Exit.then, Exit.noGoto]
  refine bodyPost_ret (v := .tuple #[.slice none 0 0, .int .i64 k, .int .i64 12]) (by simp [results, Try.results4, go_sem]) rfl ⟨_, by rw [HR.out, HK.out], by rw [HR.out]; exact own_nil _ _, B1.out⟩
set_option maxHeartbeats 64000000 in
set_option maxRecDepth 100000 in
theorem pscan_good (s : ByteArray) (w : World) (hs : s.size ≤ 4000) (hm : spoil s = -1) (hM : MaxAt w) :
    Calls Try.prog 4 #[.string s] w fun e w' => PRes w w' e (scanT s) := by
  obtain ⟨RR, hRR⟩ : ∃ RR, scanR s 0 [] = RR := ⟨_, rfl⟩
  have HR := Lib.hid (show scanT s = RR by unfold scanT; rw [if_neg (by omega), if_neg (fun h => h hm), hRR])
  have HR0 := Lib.hid hRR
  clear hRR
  have hMl : 0 < w.heap.size := by
    obtain ⟨m, h⟩ := hM
    rcases Nat.lt_or_ge 0 w.heap.size with h1 | h1
    · exact h1
    · simp only [World.cell?, Array.getElem?_eq_none h1] at h
      cases h
  have HMx : ∀ w', Below w.heap.size w w' → MaxAt w' := fun w' hb => by
    obtain ⟨m, hm⟩ := hM
    exact ⟨m, (hb.cell (p := ⟨0, 0, none⟩) hMl).trans hm⟩
  have HMM := Lib.hid HMx
  have HC0 := check_few s w hs
  rw [chk_ok hm] at HC0
  have HC := Lib.hid HC0
  clear HC0 HMx hm hM
  obtain ⟨i0, hi0, hz0, hz1, hz2⟩ := info_parts info_tok
  obtain ⟨cur, hcs, hmk0⟩ : ∃ cur : Array Value, cur.size = (s.size / 3 + 2) * 3 ∧ ∀ W, (Instr.makeSlice 22 (.int .i64 0) (.int .i64 ((s.size : Int) / 3 + 2))).run Try.prog W = .ok (.slice (some ⟨W.heap.size, 0, none⟩) 0 (s.size / 3 + 2)) (W.alloc (.cells cur 39)) := by
    refine ⟨madeCells (Value.agg #[.int .i64 0, .string ⟨#[]⟩, .int .i64 0]).cells ((s.size / 3 + 2) * 3), size_madeCells _ _, fun W => ?_⟩
    have h := run_make (P := Try.prog) W 22 39 i0 _ Try.underlying22 hi0 hz0 .i64 .i64 0 ((s.size : Int) / 3 + 2) (Int.le_refl _) (by omega) (by rw [hz2]; omega) (by omega)
    rw [show ((s.size : Int) / 3 + 2).toNat = s.size / 3 + 2 by omega, hz1] at h
    exact h
  have hmk := hmk0
  have HCS := Lib.hid hcs
  clear hmk0 hcs
  unfold PRes
  go_enter Try.func4, Try.ntmps4
  go_wp2_with fail
  refine HC.out.mono ?_
  rintro x w1 ⟨rfl, b1⟩
  have B1 := Lib.hid b1
  have hw1 : w.heap.size ≤ w1.heap.size := b1.size
  clear b1 HC
  go_wp2_with fail
  clear hmk
  have bq : Below w1.heap.size w1 (w1.alloc (.cells cur 39)) := (Below.refl _ _).alloc (Nat.le_refl _) _
  have O1 : Own (w1.alloc (.cells cur 39)) w.heap.size (.slice (some ⟨w1.heap.size, 0, none⟩) 0 (s.size / 3 + 2)) [] := World.ownsRow_made w1 cur (s.size / 3 + 2) hw1 (by unfold maxLen; omega) HCS.out
  have B2 := B1.out.trans (bq.mono hw1)
  have hz : (w1.alloc (.cells cur 39)).heap.size = w1.heap.size + 1 := by simp
  obtain ⟨w2, hw2⟩ : ∃ x, w1.alloc (.cells cur 39) = x := ⟨_, rfl⟩
  rw [hw2] at O1 B2 hz ⊢
  clear bq hw2
  obtain ⟨pb, hpb⟩ : ∃ pb, w1.heap.size + 1 = pb := ⟨_, rfl⟩
  obtain ⟨w3, hw3⟩ : ∃ x, w2.alloc (.cells #[.string s, .int .i64 0, .slice (some ⟨w1.heap.size, 0, none⟩) 0 (s.size / 3 + 2)] 36) = x := ⟨_, rfl⟩
  obtain ⟨k3, q3, z3⟩ := box_new hw3
  rw [hw3, hpb]
  rw [hz, hpb] at k3
  have hPS : PS w3 w.heap.size pb s 0 [] := ⟨⟨_, k3, O1.kept q3, fun h => by simp [Value.ownBlock] at h; omega⟩, by omega⟩
  have HPS := Lib.hid hPS
  have B3 := Lib.hid (B2.trans (q3.mono (by rw [hz]; omega)))
  have HG0 := Lib.hid (show GoodL [] from fun t ht => by cases ht)
  clear hPS k3 q3 z3 hw3 O1 B2 hz HCS B1
  go_loopg [] s.size (fun k wr => ∃ (i : Nat) (l : List Tk), i + k = s.size ∧ l.length ≤ 2 * i ∧ Hid (scanR s i l = RR) ∧ Hid (PS wr w.heap.size pb s i l) ∧ Hid (GoodL l) ∧ Hid (Below w.heap.size w wr))
  case atStart => exact ⟨0, [], by omega, by simp, HR0, HPS, HG0, B3⟩
  case round =>
    obtain ⟨i, l, hik, hll, Hsc, HP, HG, BR⟩ := hrel
    have HSK0 := pskip_any wr w.heap.size pb s i l HP.out HG.out (HMM.out _ BR.out) hs (by omega) hll hMl
    unfold ptr at HSK0
    have HSK := Lib.hid HSK0
    clear HSK0
    go_wp2_with fail
    refine HSK.out.mono ?_
    rintro x w4 ⟨hk, hb⟩
    have B4 := Lib.hid (BR.out.trans hb)
    have HK := Lib.hid hk
    clear hk hb HSK BR HP
    have hkk := HK.out
    unfold SkipP at hkk
    rw [Hsc.out] at hkk
    have BQ := Lib.hid (fun n => (show Below w4.heap.size w4 (w4.drewN n) from ⟨rfl, rfl, rfl, Nat.le_refl _, fun _ _ => rfl⟩))
    have hw4 : w.heap.size ≤ w4.heap.size := B4.out.size
    clear HK HR0 HPS B3 HG0
    rcases hkk with ⟨j, m, e, rfl, he, hp, hR⟩ | ⟨m, rfl, hp, hR, hg, hl2⟩ | ⟨j, m, rfl, hij, hj, hp, hR, hse, hsk, hg, hl2⟩
    · have n1 : (e != 0) = true := by rw [bne, show (e == 0) = false by rw [beq_eq_false_iff_ne]; exact he]; rfl
      have HRZ := Lib.hid hR
      have c1 := hp.cells.2
      have hlt := hp.lt
      clear hp hR he
      go_wp2_with fail
      go_quiet (fail)
      go_wp2_with fail
      try simp only [Exit.inBlock, Exit.then, Exit.noGoto]
      refine bodyPost_ret (v := .tuple #[.slice none 0 0, .int .i64 (j : Int), .int .i64 e]) (by simp [results, Try.results4, go_sem]) rfl ⟨_, by rw [HR.out, HRZ.out], by rw [HR.out, HRZ.out]; exact own_nil _ _, B4.out.trans ((BQ.out _).mono hw4)⟩
    · have HRZ := Lib.hid hR
      have HP4 := Lib.hid hp
      obtain ⟨L, hL⟩ : ∃ L, lineT true s.size m = L := ⟨_, rfl⟩
      have hLl : L.length ≤ 2 * s.size + 1 := by rw [← hL]; have := lineT_len true s.size m; omega
      have HRY := Lib.hid (show RR = if 1500 < L.length + 1 then ⟨[], 0, 7⟩ else ⟨L ++ [⟨0, ⟨#[]⟩, s.size⟩], 0, 0⟩ by
        rw [hR, ← hL]; unfold closeT; simp only [List.length_append, List.length_cons, List.length_nil])
      obtain ⟨v, b1, b2, b3⟩ := hp.ex
      have hlow := hp.low
      rw [hL] at b2
      clear hR hp hg hl2 HP4 HRZ hL
      obtain ⟨ao, cap, rfl, -⟩ := own_row b2
      have HB1 := Lib.hid b1
      have HB2 := Lib.hid b2
      have HB3 := Lib.hid b3
      have hpb4 := b1.lt
      obtain ⟨c0, c1, c2⟩ := cell3 b1
      have fr2 := b1.free 2
      clear b1 b2 b3
      go_wp2_with (at_builtin; refine wpList_append_own_at _ rfl _ _ 22 rfl w.heap.size 39 i0 (.agg #[.int .i64 0, .string ⟨#[]⟩, .int .i64 0]) 3 32 Try.underlying22 hi0 hz0 hz1 hz2 rfl (by decide) (.slice ao L.length cap) L.length (tkC L) rfl (World.ownsRow.alloc HB2.out _) ⟨w4.heap.size, 0, none⟩ 1 1 [.int .i64 0, .string ⟨#[]⟩, .int .i64 (s.size : Int)] rfl rfl ?c1 ?c2 ?c3 ?c4 ?c5 ?_)
      try case c1 => exact cell_new3 _ _ _ _ _
      case c2 => simp [Value.oneCell']
      case c3 => unfold maxLen; omega
      case c4 => omega
      case c5 => simp; omega
      intro v2 wn hown1 hgrow _ hob
      have hpq := push_B (t := ⟨0, ⟨#[]⟩, s.size⟩) rfl hlow HB2.out B4.out HB1.out HB3.out hown1 hgrow (hob.imp id fun h => h.trans (by simp))
      have q1 := hpq.1
      have q2 := hpq.2.1
      have q3 := hpq.2.2.1
      have q4 := hpq.2.2.2
      clear hpq hown1 hgrow hob c0 c1 c2 fr2
      obtain ⟨ao2, cap2, hv2, -⟩ := own_row q1
      rw [List.length_append, List.length_singleton] at hv2
      subst hv2
      have hcc := cell3 q3
      have c2 := hcc.2.2
      have fr2 := q3.free 2
      clear hcc
      have O5 := Lib.hid (own_set q1 q4 2 (.slice ao2 (L.length + 1) cap2))
      have B5 := Lib.hid (q2.setCell hlow (p := ⟨pb, 2, none⟩) (.slice ao2 (L.length + 1) cap2))
      clear q1 q2 q3 q4
      have HRW := HRY.out
      clear HRY
      by_cases hbig : 1500 < L.length + 1
      · rw [if_pos hbig] at HRW
        have HRZ := Lib.hid HRW
        have hbI : (1500 : Int) < (L.length : Int) + 1 := by omega
        clear HRW
        go_wp2_with fail
        try simp only [Exit.inBlock, Exit.then, Exit.noGoto]
        refine bodyPost_ret (v := .tuple #[.slice none 0 0, .int .i64 0, .int .i64 7]) (by simp [results, Try.results4, go_sem]) rfl ⟨_, by rw [HR.out, HRZ.out], by rw [HR.out, HRZ.out]; exact own_nil _ _, B5.out⟩
      · rw [if_neg hbig] at HRW
        have HRZ := Lib.hid HRW
        have hbI : ¬ (1500 : Int) < (L.length : Int) + 1 := by omega
        clear HRW
        go_wp2_with fail
        try simp only [Exit.inBlock, Exit.then, Exit.noGoto]
        refine bodyPost_ret (v := .tuple #[.slice ao2 (L.length + 1) cap2, .int .i64 0, .int .i64 0]) (by simp [results, Try.results4, go_sem]) rfl ⟨_, by rw [HR.out, HRZ.out], by rw [HR.out, HRZ.out]; exact O5.out, B5.out⟩
    · have c1 := hp.cells.2
      have hlt := hp.lt
      have hne : ((j : Int) == (s.size : Int)) = false := by rw [beq_eq_false_iff_ne]; omega
      have HTK0 := ptoken_any w4 w.heap.size pb s j m hp (by omega) hj (by omega)
      have hrise := tok_rise (s := s) (i := j) hj
      have hkind := tok_kind (s := s) (i := j)
      obtain ⟨⟨tk, ts, te⟩, ht⟩ : ∃ g, tokT s j = g := ⟨_, rfl⟩
      have HT := Lib.hid ht
      rw [ht] at HTK0 hrise hkind
      unfold ptr TokP at HTK0
      simp only at HTK0 hrise hkind
      have HTK := Lib.hid HTK0
      have HSE := Lib.hid hse
      have HSN := Lib.hid hsk
      have HGM := Lib.hid hg
      have HRA := Lib.hid hR
      have HRI := Lib.hid hrise
      have HKI := Lib.hid hkind
      clear hp hR hse hsk hg HTK0 ht hrise hkind
      go_wp2_with fail
      refine HTK.out.mono ?_
      rintro x w5 ⟨rfl, h1, h2, hb5⟩
      have B5 := Lib.hid (B4.out.trans hb5)
      have H1 := Lib.hid h1
      have H2 := Lib.hid h2
      clear h1 h2 hb5 HTK c1
      by_cases hte : te = 0
      · subst hte
        have hpx := H1.out rfl
        have hri := HRI.out rfl
        have HGN := Lib.hid (show GoodL (m ++ [⟨tk, s.extract j ts, j⟩]) from fun t ht => by
          rcases List.mem_append.1 ht with h | h
          · exact HGM.out t h
          · rw [List.mem_singleton] at h; subst h; exact HKI.out rfl)
        have HNX := Lib.hid (show scanR s ts (m ++ [⟨tk, s.extract j ts, j⟩]) = RR by
          have := scanR_tok (l := m) hj HSE.out HSN.out (by rw [HT.out])
          rw [skip_line HSE.out HSN.out, lineT_no, HT.out] at this
          rw [← this, ← HRA.out])
        have HPX := Lib.hid hpx
        clear hpx H1 H2 HKI HRI
        have hml : (m ++ [(⟨tk, s.extract j ts, j⟩ : Tk)]).length = m.length + 1 := by simp
        go_wp2_with fail
        go_roundg (s.size - ts)
        case rel => exact ⟨ts, _, by omega, by omega, HNX, HPX, HGN, B5⟩
        case measure => omega
      · have n1 : (te != 0) = true := by rw [bne, show (te == 0) = false by rw [beq_eq_false_iff_ne]; exact hte]; rfl
        have hpx := H2.out hte
        have c1 := hpx.cells.2
        have hlt := hpx.lt
        have BQ := Lib.hid (fun n => (show Below w5.heap.size w5 (w5.drewN n) from ⟨rfl, rfl, rfl, Nat.le_refl _, fun _ _ => rfl⟩))
        have HRZ := Lib.hid (show RR = ⟨[], j, te⟩ by
          rw [HRA.out, scanR_wrong (l := m) hj HSE.out HSN.out (by rw [HT.out]; exact hte), HT.out])
        have hw5 : w.heap.size ≤ w5.heap.size := B5.out.size
        clear hpx H1 H2 HKI HRI hte
        go_wp2_with fail
        go_quiet (fail)
        go_wp2_with fail
        try simp only [Exit.inBlock, Exit.then, Exit.noGoto]
        refine bodyPost_ret (v := .tuple #[.slice none 0 0, .int .i64 (j : Int), .int .i64 te]) (by simp [results, Try.results4, go_sem]) rfl ⟨_, by rw [HR.out, HRZ.out], by rw [HR.out, HRZ.out]; exact own_nil _ _, B5.out.trans ((BQ.out _).mono hw5)⟩
theorem pscan_any (s : ByteArray) (w : World) (hM : MaxAt w) :
    Calls Try.prog 4 #[.string s] w fun e w' => PRes w w' e (scanT s) := by
  by_cases hm : 4000 < s.size
  · exact pscan_many s w hm
  · by_cases hp : spoil s = -1
    · exact pscan_good s w (by omega) hp hM
    · exact pscan_spoilt s w (by omega) hp
theorem max_lt {w : World} (hM : MaxAt w) : 0 < w.heap.size := by
  obtain ⟨m, h⟩ := hM
  rcases Nat.lt_or_ge 0 w.heap.size with h1 | h1
  · exact h1
  · simp only [World.cell?, Array.getElem?_eq_none h1] at h
    cases h
theorem MaxAt.below {w w' : World} (hM : MaxAt w) (hb : Below w.heap.size w w') : MaxAt w' := by
  have hMl := max_lt hM
  obtain ⟨m, hm⟩ := hM
  exact ⟨m, (hb.cell (p := ⟨0, 0, none⟩) hMl).trans hm⟩
end Go.Proofs.Ytjhgibdebcapfaa
