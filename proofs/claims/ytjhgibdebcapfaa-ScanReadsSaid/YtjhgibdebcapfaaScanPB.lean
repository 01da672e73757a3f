/- The program's take and line. -/
import Derived.Test.YtjhgibdebcapfaaScanPA
import Derived.Test.YtjhgibdebcapfaaScanRefR
namespace Go.Proofs.Ytjhgibdebcapfaa
open Go.RowKit
set_option linter.unusedSimpArgs false
set_option linter.unusedVariables false

/-- What is there behind an append to the scanner's row, and behind its store. -/
theorem push_B {W wr w1 : World} {B pb : Nat} {v v' : Value} {l : List Tk} {t : Tk} {cs xs : Array Value} {T U : TypeId} {n : Nat} (hn : n = l.length + 1) (hBp : B ≤ pb) (ho : Own wr B v l) (hB : Below B W wr) (hpb : BlockAt wr pb xs U) (hv : v.ownBlock ≠ some pb)
    (h1 : w1.ownsRow B 39 3 v' n (tkC l ++ tkC1 t)) (hg : (wr.alloc (.cells cs T)).grownBy w1 v.ownBlock) (hob : v'.ownBlock = v.ownBlock ∨ v'.ownBlock = some (wr.alloc (.cells cs T)).heap.size) :
    Own w1 B v' (l ++ [t]) ∧ Below B W w1 ∧ BlockAt w1 pb xs U ∧ v'.ownBlock ≠ some pb := by
  have ba : Below wr.heap.size wr (wr.alloc (.cells cs T)) := (Below.refl _ _).alloc (Nat.le_refl _) _
  have hlt := hpb.lt
  have hBw : B ≤ wr.heap.size := Nat.le_trans hBp (Nat.le_of_lt hlt)
  have hb2 := hB.trans (ba.mono hBw)
  refine ⟨own_more hn h1, hb2.grown hg (Nat.le_trans hBw ba.size) (fun k hk => (World.ownsRow.lt ho k hk).1), block_grown hg (hpb.below ba) hv, fun he => ?_⟩
  rcases hob with h | h
  · exact hv (h.symm.trans he)
  · have := h.symm.trans he
    injection this with this
    exact absurd (Nat.lt_of_lt_of_le hlt ba.size) (by rw [this]; exact Nat.lt_irrefl _)
theorem PS.stored {w : World} {B pb : Nat} {s : ByteArray} {i : Nat} {l : List Tk} {v v' : Value} (hb : BlockAt w pb #[.string s, .int .i64 (i : Int), v] 36) (ho : Own w B v' l) (hv : v'.ownBlock ≠ some pb) (hl : B ≤ pb) : PS (w.setCell ⟨pb, 2, none⟩ v') B pb s i l :=
  ⟨⟨v', hb.set 2 v', own_set ho hv 2 v', hv⟩, hl⟩
theorem PS.moved {w : World} {B pb : Nat} {s : ByteArray} {i : Nat} {l : List Tk} (h : PS w B pb s i l) (j : Nat) : PS (w.setCell ⟨pb, 1, none⟩ (.int .i64 (j : Int))) B pb s j l := by
  obtain ⟨v, h1, h2, h3⟩ := h.ex
  exact ⟨⟨v, h1.set 1 _, own_set h2 h3 1 _, h3⟩, h.low⟩
set_option maxHeartbeats 8000000 in
set_option maxRecDepth 100000 in
theorem take_any (w : World) (B pb : Nat) (s : ByteArray) (i : Nat) (l : List Tk) (h : PS w B pb s i l) (kd : Int) (e : Nat) (hie : i ≤ e) (hes : e ≤ s.size) (hs : s.size ≤ 4010) (hl : l.length ≤ 20000) :
    Calls Try.prog 43 #[ptr pb, .int .i64 kd, .int .i64 e] w fun en w' => en = .returned (.tuple #[]) ∧ PS w' B pb s e (l ++ [⟨kd, s.extract i e, i⟩]) ∧ Below B w w' := by
  obtain ⟨v, h1, h2, h3⟩ := h.ex
  have hlow := h.low
  have HPB := Lib.hid h1
  have HO := Lib.hid h2
  have HV := Lib.hid h3
  obtain ⟨c0, c1, c2⟩ := cell3 h1
  obtain ⟨i0, hi0, hz0, hz1, hz2⟩ := info_parts info_tok
  have hieI : (i : Int) ≤ (e : Int) := by omega
  have hesI : (e : Int) ≤ (s.size : Int) := by omega
  clear h h1 h2 h3
  unfold ptr
  go_enter Try.func43, Try.ntmps43
  go_wp2_with fail
  refine GoG.start [(25, ⟨pb, 0, none⟩, .string s), (25, ⟨pb, 1, none⟩, .int .i64 (i : Int)), (25, ⟨pb, 2, none⟩, v)] (by kernel_rfl) ?_ ?_
  · exact Keeps.cons (by first | assumption | simp [*]) (Keeps.cons (by first | assumption | simp [*]) (Keeps.cons (by first | assumption | simp [*]) (Keeps.nil)))
  refine GoG.take (i := 0) (v := ?_) [] rfl (by kernel_rfl) (by kernel_rfl) (by kernel_rfl) (by kernel_rfl) (by kernel_rfl) (by kernel_rfl) (fun _ _ _ h => h) (yields_free (by rfl) (fun w => ?_)) ?_
  rotate_left
  · go_simp; try (with_reducible rfl)
  try simp only [Act.put, List.setIfInBounds_toArray, List.set_cons_zero, List.set_cons_succ]
  refine GoG.take (i := 1) (v := ?_) [] rfl (by kernel_rfl) (by kernel_rfl) (by kernel_rfl) (by kernel_rfl) (by kernel_rfl) (by kernel_rfl) (fun _ _ _ h => h) (yields_free (by rfl) (fun w => ?_)) ?_
  rotate_left
  · go_simp; try (with_reducible rfl)
  try simp only [Act.put, List.setIfInBounds_toArray, List.set_cons_zero, List.set_cons_succ]
  refine GoG.take (i := 2) (v := ?_) [] rfl (by kernel_rfl) (by kernel_rfl) (by kernel_rfl) (by kernel_rfl) (by kernel_rfl) (by kernel_rfl) (fun _ _ _ h => h) (yields_free (by rfl) (fun w => ?_)) ?_
  rotate_left
  · go_simp; try (with_reducible rfl)
  try simp only [Act.put, List.setIfInBounds_toArray, List.set_cons_zero, List.set_cons_succ]
  refine GoG.take (i := 3) (v := ?_) [] rfl (by kernel_rfl) (by kernel_rfl) (by kernel_rfl) (by kernel_rfl) (by kernel_rfl) (by kernel_rfl) (fun _ _ _ h => h) (yields_free (by rfl) (fun w => ?_)) ?_
  rotate_left
  · go_simp; try (with_reducible rfl)
  try simp only [Act.put, List.setIfInBounds_toArray, List.set_cons_zero, List.set_cons_succ]
  refine GoG.take (i := 4) (v := ?_) [25] rfl (by kernel_rfl) (by kernel_rfl) (by kernel_rfl) (by kernel_rfl) (by kernel_rfl) (by kernel_rfl) (fun _ _ _ h => h) (yields_load 25 ⟨pb, 2, none⟩ (v) (by simp) (by decide) (by rfl) (fun w hw => ?_)) ?_
  rotate_left
  · go_simp; try (with_reducible rfl)
  try simp only [Act.put, List.setIfInBounds_toArray, List.set_cons_zero, List.set_cons_succ]
  refine GoG.take (i := 5) (v := ?_) [] rfl (by kernel_rfl) (by kernel_rfl) (by kernel_rfl) (by kernel_rfl) (by kernel_rfl) (by kernel_rfl) (fun _ _ _ h => h) (yields_free (by rfl) (fun w => ?_)) ?_
  rotate_left
  · go_simp; try (with_reducible rfl)
  try simp only [Act.put, List.setIfInBounds_toArray, List.set_cons_zero, List.set_cons_succ]
  refine GoG.take (i := 6) (v := ?_) [] rfl (by kernel_rfl) (by kernel_rfl) (by kernel_rfl) (by kernel_rfl) (by kernel_rfl) (by kernel_rfl) (fun _ _ _ h => h) (yields_free (by rfl) (fun w => ?_)) ?_
  rotate_left
  · go_simp; try (with_reducible rfl)
  try simp only [Act.put, List.setIfInBounds_toArray, List.set_cons_zero, List.set_cons_succ]
  refine GoG.take (i := 7) (v := ?_) [] rfl (by kernel_rfl) (by kernel_rfl) (by kernel_rfl) (by kernel_rfl) (by kernel_rfl) (by kernel_rfl) (fun _ _ _ h => h) (yields_free (by rfl) (fun w => ?_)) ?_
  rotate_left
  · go_simp; try (with_reducible rfl)
  try simp only [Act.put, List.setIfInBounds_toArray, List.set_cons_zero, List.set_cons_succ]
  refine GoG.take (i := 8) (v := ?_) [] rfl (by kernel_rfl) (by kernel_rfl) (by kernel_rfl) (by kernel_rfl) (by kernel_rfl) (by kernel_rfl) (fun _ _ _ h => h) (yields_free (by rfl) (fun w => ?_)) ?_
  rotate_left
  · go_simp; try (with_reducible rfl)
  try simp only [Act.put, List.setIfInBounds_toArray, List.set_cons_zero, List.set_cons_succ]
  refine GoG.take (i := 9) (v := ?_) [25] rfl (by kernel_rfl) (by kernel_rfl) (by kernel_rfl) (by kernel_rfl) (by kernel_rfl) (by kernel_rfl) (fun _ _ _ h => h) (yields_load 25 ⟨pb, 0, none⟩ (.string s) (by simp) (by decide) (by rfl) (fun w hw => ?_)) ?_
  rotate_left
  · go_simp; try (with_reducible rfl)
  try simp only [Act.put, List.setIfInBounds_toArray, List.set_cons_zero, List.set_cons_succ]
  refine GoG.take (i := 10) (v := ?_) [] rfl (by kernel_rfl) (by kernel_rfl) (by kernel_rfl) (by kernel_rfl) (by kernel_rfl) (by kernel_rfl) (fun _ _ _ h => h) (yields_free (by rfl) (fun w => ?_)) ?_
  rotate_left
  · go_simp; try (with_reducible rfl)
  try simp only [Act.put, List.setIfInBounds_toArray, List.set_cons_zero, List.set_cons_succ]
  refine GoG.take (i := 11) (v := ?_) [] rfl (by kernel_rfl) (by kernel_rfl) (by kernel_rfl) (by kernel_rfl) (by kernel_rfl) (by kernel_rfl) (fun _ _ _ h => h) (yields_free (by rfl) (fun w => ?_)) ?_
  rotate_left
  · go_simp; try (with_reducible rfl)
  try simp only [Act.put, List.setIfInBounds_toArray, List.set_cons_zero, List.set_cons_succ]
  refine GoG.take (i := 12) (v := ?_) [] rfl (by kernel_rfl) (by kernel_rfl) (by kernel_rfl) (by kernel_rfl) (by kernel_rfl) (by kernel_rfl) (fun _ _ _ h => h) (yields_free (by rfl) (fun w => ?_)) ?_
  rotate_left
  · go_simp; try (with_reducible rfl)
  try simp only [Act.put, List.setIfInBounds_toArray, List.set_cons_zero, List.set_cons_succ]
  refine GoG.take (i := 13) (v := ?_) [25] rfl (by kernel_rfl) (by kernel_rfl) (by kernel_rfl) (by kernel_rfl) (by kernel_rfl) (by kernel_rfl) (fun _ _ _ h => h) (yields_load 25 ⟨pb, 1, none⟩ (.int .i64 (i : Int)) (by simp) (by decide) (by rfl) (fun w hw => ?_)) ?_
  rotate_left
  · go_simp; try (with_reducible rfl)
  try simp only [Act.put, List.setIfInBounds_toArray, List.set_cons_zero, List.set_cons_succ]
  refine GoG.take (i := 14) (v := ?_) [] rfl (by kernel_rfl) (by kernel_rfl) (by kernel_rfl) (by kernel_rfl) (by kernel_rfl) (by kernel_rfl) (fun _ _ _ h => h) (yields_free (by rfl) (fun w => ?_)) ?_
  rotate_left
  · go_simp; try (with_reducible rfl)
  try simp only [Act.put, List.setIfInBounds_toArray, List.set_cons_zero, List.set_cons_succ]
  refine GoG.take (i := 15) (v := ?_) [] rfl (by kernel_rfl) (by kernel_rfl) (by kernel_rfl) (by kernel_rfl) (by kernel_rfl) (by kernel_rfl) (fun _ _ _ h => h) (yields_free (by rfl) (fun w => ?_)) ?_
  rotate_left
  · go_simp; try (with_reducible rfl)
  try simp only [Act.put, List.setIfInBounds_toArray, List.set_cons_zero, List.set_cons_succ]
  refine GoG.take (i := 16) (v := ?_) [] rfl (by kernel_rfl) (by kernel_rfl) (by kernel_rfl) (by kernel_rfl) (by kernel_rfl) (by kernel_rfl) (fun _ _ _ h => h) (yields_free (by rfl) (fun w => ?_)) ?_
  rotate_left
  · go_simp; try (with_reducible rfl)
  try simp only [Act.put, List.setIfInBounds_toArray, List.set_cons_zero, List.set_cons_succ]
  refine GoG.take (i := 17) (v := ?_) [] rfl (by kernel_rfl) (by kernel_rfl) (by kernel_rfl) (by kernel_rfl) (by kernel_rfl) (by kernel_rfl) (fun _ _ _ h => h) (yields_free (by rfl) (fun w => ?_)) ?_
  rotate_left
  · go_simp; try (with_reducible rfl)
  try simp only [Act.put, List.setIfInBounds_toArray, List.set_cons_zero, List.set_cons_succ]
  refine GoG.take (i := 18) (v := ?_) [] rfl (by kernel_rfl) (by kernel_rfl) (by kernel_rfl) (by kernel_rfl) (by kernel_rfl) (by kernel_rfl) (fun _ _ _ h => h) (yields_free (by rfl) (fun w => ?_)) ?_
  rotate_left
  · go_simp; try (with_reducible rfl)
  try simp only [Act.put, List.setIfInBounds_toArray, List.set_cons_zero, List.set_cons_succ]
  refine GoG.take (i := 19) (v := ?_) [25] rfl (by kernel_rfl) (by kernel_rfl) (by kernel_rfl) (by kernel_rfl) (by kernel_rfl) (by kernel_rfl) (fun _ _ _ h => h) (yields_load 25 ⟨pb, 1, none⟩ (.int .i64 (i : Int)) (by simp) (by decide) (by rfl) (fun w hw => ?_)) ?_
  rotate_left
  · go_simp; try (with_reducible rfl)
  try simp only [Act.put, List.setIfInBounds_toArray, List.set_cons_zero, List.set_cons_succ]
  refine GoG.take (i := 20) (v := ?_) [] rfl (by kernel_rfl) (by kernel_rfl) (by kernel_rfl) (by kernel_rfl) (by kernel_rfl) (by kernel_rfl) (fun _ _ _ h => h) (yields_free (by rfl) (fun w => ?_)) ?_
  rotate_left
  · go_simp; try (with_reducible rfl)
  try simp only [Act.put, List.setIfInBounds_toArray, List.set_cons_zero, List.set_cons_succ]
  have bd : Below w.heap.size w w.drew := (Below.refl _ _).drew
  have HO2 := Lib.hid (HO.out.kept bd)
  have HP2 := Lib.hid (HPB.out.below bd)
  have BB := Lib.hid (bd.mono (show B ≤ w.heap.size from Nat.le_trans hlow (Nat.le_of_lt HPB.out.lt)))
  have hbq : Below w.drew.heap.size w.drew (w.drew.alloc (.cells #[.int .i64 kd, .string (s.extract i e), .int .i64 (i : Int)] 39)) := (Below.refl _ _).alloc (Nat.le_refl _) _
  have hbase : B ≤ (w.drew.alloc (.cells #[.int .i64 kd, .string (s.extract i e), .int .i64 (i : Int)] 39)).heap.size := Nat.le_trans (Nat.le_trans hlow (Nat.le_of_lt HP2.out.lt)) hbq.size
  clear c0 c1 c2
  have hcc := cell3 (HP2.out.below hbq)
  have c0 := hcc.1
  have c1 := hcc.2.1
  have c2 := hcc.2.2
  clear hcc
  refine GoG.one (i := 21) rfl (by kernel_rfl) (fun K hK => ?_)
  go_simp
  refine hK.out _ _ (Keeps.cons (by first | assumption | exact c0) (Keeps.cons (by first | assumption | exact c1) (Keeps.cons (by first | assumption | exact c2) Keeps.nil))) ?_
  clear hK K c0 c1 c2 hbq bd
  refine GoG.append (i := 22) rfl (by kernel_rfl) rfl _ _ 22 rfl B 39 i0 (.agg #[.int .i64 0, .string ⟨#[]⟩, .int .i64 0]) 3 32 Try.underlying22 hi0 hz0 hz1 hz2 rfl (by decide) v l.length (tkC l) rfl (World.ownsRow.alloc HO2.out _) ⟨w.drew.heap.size, 0, none⟩ 1 1 [.int .i64 kd, .string (s.extract i e), .int .i64 (i : Int)] rfl rfl (cell_new3 _ _ _ _ _) (by simp [Value.oneCell']) (by unfold maxLen; omega) (by omega) hbase (fun v2 wn hown1 hgrow hob => ?_)
  have hpq := push_B (t := ⟨kd, s.extract i e, i⟩) rfl hlow HO2.out BB.out HP2.out HV.out hown1 hgrow hob
  have q1 := hpq.1
  have q2 := hpq.2.1
  have q3 := hpq.2.2.1
  have q4 := hpq.2.2.2
  clear hpq
  obtain ⟨ao2, cap2, hv2, -⟩ := own_row q1
  rw [List.length_append, List.length_singleton] at hv2
  subst hv2
  have hcc := cell3 q3
  have c0 := hcc.1
  have c1 := hcc.2.1
  have c2 := hcc.2.2
  clear hcc
  have HQ := Lib.hid (PS.stored q3 q1 q4 hlow)
  have HQB := Lib.hid (q2.setCell hlow (p := ⟨pb, 2, none⟩) (.slice ao2 (l.length + 1) cap2))
  have fr2 := q3.free 2
  clear hown1 hgrow hob q1 q2 q3 q4 HO2 HP2
  refine ⟨Keeps.cons c0 (Keeps.cons c1 (Keeps.cons c2 Keeps.nil)), ?_⟩
  refine GoG.take (i := 23) (v := ?_) [] rfl (by kernel_rfl) (by kernel_rfl) (by kernel_rfl) (by kernel_rfl) (by kernel_rfl) (by kernel_rfl) (fun _ _ _ h => h) (yields_free (by rfl) (fun w => ?_)) ?_
  rotate_left
  · go_simp; try (with_reducible rfl)
  try simp only [Act.put, List.setIfInBounds_toArray, List.set_cons_zero, List.set_cons_succ]
  refine GoG.take (i := 24) (v := ?_) [] rfl (by kernel_rfl) (by kernel_rfl) (by kernel_rfl) (by kernel_rfl) (by kernel_rfl) (by kernel_rfl) (fun _ _ _ h => h) (yields_free (by rfl) (fun w => ?_)) ?_
  rotate_left
  · go_simp; try (with_reducible rfl)
  try simp only [Act.put, List.setIfInBounds_toArray, List.set_cons_zero, List.set_cons_succ]
  refine GoG.one (i := 25) rfl (by kernel_rfl) (fun K hK => ?_)
  go_simp
  refine hK.out _ _ (Keeps.up (by rfl) (Keeps.up (by rfl) (Keeps.up (by rfl) (Keeps.nil)))) ?_
  clear hK K c0 c1 c2 fr2
  refine GoG.done (by kernel_rfl) ?_ _
  generalize wn.setCell ⟨pb, 2, none⟩ (.slice ao2 (l.length + 1) cap2) = wm at *
  obtain ⟨v3, h1, h2, h3⟩ := HQ.out.ex
  obtain ⟨c0, c1, c2⟩ := cell3 h1
  have fr1 := h1.free 1
  go_wp2_with fail
  go_end0
  exact ⟨rfl, HQ.out.moved e, HQB.out.setCell hlow (p := ⟨pb, 1, none⟩) _⟩
end Go.Proofs.Ytjhgibdebcapfaa
