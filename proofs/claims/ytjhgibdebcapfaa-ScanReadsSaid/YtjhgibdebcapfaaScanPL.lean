/- The program's line. -/
import Derived.Test.YtjhgibdebcapfaaScanPB
namespace Go.Proofs.Ytjhgibdebcapfaa
open Go.RowKit
set_option linter.unusedSimpArgs false
set_option linter.unusedVariables false

def GoodL (l : List Tk) : Prop := ∀ t ∈ l, 1 ≤ t.kind ∧ t.kind ≤ 7
theorem GoodL.nl {l : List Tk} (h : GoodL l) (i : Nat) : GoodL (lineT true i l) := by
  unfold lineT
  split
  · intro t ht
    rcases List.mem_append.1 ht with h1 | h1
    · exact h t h1
    · rw [List.mem_singleton] at h1; subst h1; exact ⟨(by decide : (1 : Int) ≤ 6), (by decide : (6 : Int) ≤ 7)⟩
  · exact h
set_option maxHeartbeats 16000000 in
set_option maxRecDepth 100000 in
theorem line_none (w : World) (B pb : Nat) (s : ByteArray) (i : Nat) (h : PS w B pb s i []) :
    Calls Try.prog 20 #[ptr pb] w fun en w' => en = .returned (.tuple #[]) ∧ PS w' B pb s i (lineT true i []) ∧ Below B w w' := by
  obtain ⟨v, h1, h2, h3⟩ := h.ex
  obtain ⟨ao, cap, hv, -⟩ := own_row h2
  subst hv
  obtain ⟨c0, c1, c2⟩ := cell3 h1
  have HP := Lib.hid h
  clear h h1 h2 h3
  unfold ptr
  simp only [List.length_nil] at c2
  go_enter Try.func20, Try.ntmps20
  go_wp2_with fail
  first | go_end0 | (refine bodyPost_ret (v := .tuple #[]) (by simp [results, Try.results20, go_sem]) rfl ?_)
  exact ⟨rfl, HP.out, Below.refl _ _⟩
set_option maxHeartbeats 64000000 in
set_option maxRecDepth 100000 in
theorem line_some (w : World) (B pb : Nat) (s : ByteArray) (i : Nat) (l : List Tk) (h : PS w B pb s i l) (hg : GoodL l) (hs : s.size ≤ 4010) (hl : l.length ≤ 20000) (h0 : 0 < l.length) :
    Calls Try.prog 20 #[ptr pb] w fun en w' => en = .returned (.tuple #[]) ∧ PS w' B pb s i (lineT true i l) ∧ Below B w w' := by
  obtain ⟨v, h1, h2, h3⟩ := h.ex
  have hlow := h.low
  obtain ⟨ao, cap, hv, hr⟩ := own_row h2
  subst hv
  obtain ⟨b, off, hao, hb, hc⟩ := hr.cells h0
  subst hao
  obtain ⟨m, hm⟩ : ∃ m, l.length = m + 1 := ⟨l.length - 1, by omega⟩
  have hE := ends_last hm
  have hcm := hc m (by omega)
  have hgm := hg _ (List.getElem_mem (show m < l.length by omega))
  obtain ⟨t, ht⟩ : ∃ t, l[m]'(by omega) = t := ⟨_, rfl⟩
  rw [ht] at hE hcm hgm
  obtain ⟨kd, tx, ps⟩ := t
  obtain ⟨x0, x1, x2⟩ := hcm
  simp only at x0 x1 x2 hgm
  have HE := Lib.hid (show endsT l = if kd = 6 then (tx.toList == [41] || tx.toList == [93] || tx.toList == [125]) else if kd = 7 then tx.toList == [114, 101, 116, 117, 114, 110] else true from hE)
  have HPS := Lib.hid h
  obtain ⟨c0, c1, c2⟩ := cell3 h1
  rw [hm] at c2
  have hsub : ((m + 1 : Nat) : Int) - 1 = (m : Int) := by omega
  have hm2 : m ≤ 20000 := by omega
  have hmlt : (m : Int) < (m : Int) + 1 := by omega
  have hwr : IntKind.i64.wrap (m : Int) = (m : Int) := by rw [IntWalk.i64_in _ (by omega)]
  obtain ⟨i0, hi0, hz0, hz1, hz2⟩ := info_parts info_tok
  have hne : ((m + 1 : Nat) == 0) = false := rfl
  clear h h1 h2 h3 hr hc hE ht hg h0
  unfold ptr
  go_enter Try.func20, Try.ntmps20
  go_wp2_with fail
  refine GoG.start [(13, ⟨pb, 2, none⟩, .slice (some ⟨b, off, none⟩) (m + 1) cap), (13, ⟨b, off + m * 3, none⟩, .int .i64 kd), (13, ⟨b, off + m * 3 + 1, none⟩, .string tx), (13, ⟨b, off + m * 3 + 2, none⟩, .int .i64 (ps : Int))] (by kernel_rfl) ?_ ?_
  · exact Keeps.cons (by first | assumption | simp [*]) (Keeps.cons (by first | assumption | simp [*]) (Keeps.cons (by first | assumption | simp [*]) (Keeps.cons (by first | assumption | simp [*]) (Keeps.nil))))
  refine GoG.take (i := 0) (v := ?_) [] rfl (by kernel_rfl) (by kernel_rfl) (by kernel_rfl) (by kernel_rfl) (by kernel_rfl) (by kernel_rfl) (fun _ _ _ h => h) (yields_free (by rfl) (fun w => ?_)) ?_
  rotate_left
  · go_simp; try (with_reducible rfl)
  try simp only [Act.put, List.setIfInBounds_toArray, List.set_cons_zero, List.set_cons_succ]
  refine GoG.take (i := 1) (v := ?_) [] rfl (by kernel_rfl) (by kernel_rfl) (by kernel_rfl) (by kernel_rfl) (by kernel_rfl) (by kernel_rfl) (fun _ _ _ h => h) (yields_free (by rfl) (fun w => ?_)) ?_
  rotate_left
  · go_simp; try (with_reducible rfl)
  try simp only [Act.put, List.setIfInBounds_toArray, List.set_cons_zero, List.set_cons_succ]
  refine GoG.take (i := 2) (v := ?_) [] rfl (by kernel_rfl) (by kernel_rfl) (by kernel_rfl) (by kernel_rfl) (by kernel_rfl) (by kernel_rfl) (fun _ _ _ h => h) (yields_free (by rfl) (fun w => ?_)) ?_
  rotate_left
  · go_simp; try (with_reducible rfl)
  try simp only [Act.put, List.setIfInBounds_toArray, List.set_cons_zero, List.set_cons_succ]
  refine GoG.take (i := 3) (v := ?_) [13] rfl (by kernel_rfl) (by kernel_rfl) (by kernel_rfl) (by kernel_rfl) (by kernel_rfl) (by kernel_rfl) (fun _ _ _ h => h) (yields_load 13 ⟨pb, 2, none⟩ (.slice (some ⟨b, off, none⟩) (m + 1) cap) (by simp) (by decide) (by rfl) (fun w hw => ?_)) ?_
  rotate_left
  · go_simp; try (with_reducible rfl)
  try simp only [Act.put, List.setIfInBounds_toArray, List.set_cons_zero, List.set_cons_succ]
  refine GoG.take (i := 4) (v := ?_) [] rfl (by kernel_rfl) (by kernel_rfl) (by kernel_rfl) (by kernel_rfl) (by kernel_rfl) (by kernel_rfl) (fun _ _ _ h => h) (yields_free (by rfl) (fun w => ?_)) ?_
  rotate_left
  · go_simp; try (with_reducible rfl)
  try simp only [Act.put, List.setIfInBounds_toArray, List.set_cons_zero, List.set_cons_succ]
  refine GoG.take (i := 5) (v := ?_) [] rfl (by kernel_rfl) (by kernel_rfl) (by kernel_rfl) (by kernel_rfl) (by kernel_rfl) (by kernel_rfl) (fun _ _ _ h => h) (yields_free (by rfl) (fun w => ?_)) ?_
  rotate_left
  · go_simp; try (with_reducible rfl)
  try simp only [Act.put, List.setIfInBounds_toArray, List.set_cons_zero, List.set_cons_succ]
  refine GoG.take (i := 6) (v := ?_) [] rfl (by kernel_rfl) (by kernel_rfl) (by kernel_rfl) (by kernel_rfl) (by kernel_rfl) (by kernel_rfl) (fun _ _ _ h => h) (yields_free (by rfl) (fun w => ?_)) ?_
  rotate_left
  · go_simp; try (with_reducible rfl)
  try simp only [Act.put, List.setIfInBounds_toArray, List.set_cons_zero, List.set_cons_succ]
  refine GoG.take (i := 7) (v := ?_) [13] rfl (by kernel_rfl) (by kernel_rfl) (by kernel_rfl) (by kernel_rfl) (by kernel_rfl) (by kernel_rfl) (fun _ _ _ h => h) (yields_load 13 ⟨pb, 2, none⟩ (.slice (some ⟨b, off, none⟩) (m + 1) cap) (by simp) (by decide) (by rfl) (fun w hw => ?_)) ?_
  rotate_left
  · go_simp; try (with_reducible rfl)
  try simp only [Act.put, List.setIfInBounds_toArray, List.set_cons_zero, List.set_cons_succ]
  refine GoG.take (i := 8) (v := ?_) [] rfl (by kernel_rfl) (by kernel_rfl) (by kernel_rfl) (by kernel_rfl) (by kernel_rfl) (by kernel_rfl) (fun _ _ _ h => h) (yields_free (by rfl) (fun w => ?_)) ?_
  rotate_left
  · go_simp; try (with_reducible rfl)
  try simp only [Act.put, List.setIfInBounds_toArray, List.set_cons_zero, List.set_cons_succ]
  refine GoG.take (i := 9) (v := ?_) [] rfl (by kernel_rfl) (by kernel_rfl) (by kernel_rfl) (by kernel_rfl) (by kernel_rfl) (by kernel_rfl) (fun _ _ _ h => h) (yields_free (by rfl) (fun w => ?_)) ?_
  rotate_left
  · go_simp; try (with_reducible rfl)
  try simp only [Act.put, List.setIfInBounds_toArray, List.set_cons_zero, List.set_cons_succ]
  refine GoG.take (i := 10) (v := ?_) [] rfl (by kernel_rfl) (by kernel_rfl) (by kernel_rfl) (by kernel_rfl) (by kernel_rfl) (by kernel_rfl) (fun _ _ _ h => h) (yields_free (by rfl) (fun w => ?_)) ?_
  rotate_left
  · go_simp; try (with_reducible rfl)
  try simp only [Act.put, List.setIfInBounds_toArray, List.set_cons_zero, List.set_cons_succ]
  refine GoG.take (i := 11) (v := ?_) [13] rfl (by kernel_rfl) (by kernel_rfl) (by kernel_rfl) (by kernel_rfl) (by kernel_rfl) (by kernel_rfl) (fun _ _ _ h => h) (.inl ⟨by rfl, fun wz hS => ?_⟩) ?_
  rotate_left
  · have y0 := hS (13, ⟨b, off + m * 3, none⟩, .int .i64 kd) (by simp) (by simp)
    have y1 := hS (13, ⟨b, off + m * 3 + 1, none⟩, .string tx) (by simp) (by simp)
    have y2 := hS (13, ⟨b, off + m * 3 + 2, none⟩, .int .i64 (ps : Int)) (by simp) (by simp)
    clear hS
    simp only at y0 y1 y2
    go_simp; try (with_reducible rfl)
  try simp only [Act.put, List.setIfInBounds_toArray, List.set_cons_zero, List.set_cons_succ]
  refine GoG.one (i := 12) rfl (by kernel_rfl) (fun K hK => ?_)
  have bz : Below w.heap.size w (w.alloc (.cells #[.int .i64 0, .string ⟨#[]⟩, .int .i64 0] 39)).drew := ((Below.refl _ _).alloc (Nat.le_refl _) _).drew
  have hpl := HPS.out.lt
  have k2 := (bz.cell (p := ⟨pb, 2, none⟩) hpl).trans c2
  have y0 := (bz.cell (p := ⟨b, off + m * 3, none⟩) hb).trans x0
  have y1 := (bz.cell (p := ⟨b, off + m * 3 + 1, none⟩) hb).trans x1
  have y2 := (bz.cell (p := ⟨b, off + m * 3 + 2, none⟩) hb).trans x2
  go_simp
  refine hK.out _ _ (Keeps.cons (by first | assumption | exact k2) (Keeps.cons (by first | assumption | exact y0) (Keeps.cons (by first | assumption | exact y1) (Keeps.cons (by first | assumption | exact y2) Keeps.nil)))) ?_
  clear hK K k2 y0 y1 y2 bz
  refine GoG.one (i := 13) rfl (by kernel_rfl) (fun K hK => ?_)
  go_simp
  refine hK.out _ _ (Keeps.up (by rfl) (Keeps.up (by rfl) (Keeps.up (by rfl) (Keeps.up (by rfl) (Keeps.nil))))) ?_
  clear hK K
  refine GoG.done (by kernel_rfl) ?_ _
  have bz2 : Below w.heap.size w (w.alloc (.cells #[.int .i64 kd, .string tx, .int .i64 (ps : Int)] 39)).drew := ((Below.refl _ _).alloc (Nat.le_refl _) _).drew
  have HP2 := Lib.hid (HPS.out.below bz2)
  have BB := Lib.hid (bz2.mono (Nat.le_trans hlow (Nat.le_of_lt hpl)))
  have tT := (BlockAt.new w #[.int .i64 kd, .string tx, .int .i64 (ps : Int)] 39).below ((Below.refl _ _).drew)
  clear c0 c1 c2 x0 x1 x2 bz2 HPS hpl
  generalize (w.alloc (.cells #[.int .i64 kd, .string tx, .int .i64 (ps : Int)] 39)).drew = w2 at *
  have hcc := cell3 tT
  have z0 := hcc.1
  have z1 := hcc.2.1
  have z2 := hcc.2.2
  clear hcc tT
  have hkd : kd = 1 ∨ kd = 2 ∨ kd = 3 ∨ kd = 4 ∨ kd = 5 ∨ kd = 6 ∨ kd = 7 := by omega
  clear hgm
  rcases hkd with hk | hk | hk | hk | hk | hk | hk
  · subst hk
    have HT := Lib.hid (show endsT l = true by rw [HE.out]; rfl)
    clear HE
    go_wp2_with fail
    clear z0 z1 z2
    obtain ⟨v, h1, h2, h3⟩ := HP2.out.ex
    have HPB := Lib.hid h1
    have HO := Lib.hid h2
    have HV := Lib.hid h3
    have c1 := h1.cell 1
    have c2 := h1.cell 2
    simp only [List.getElem?_toArray, List.getElem?_cons_zero, List.getElem?_cons_succ] at c1 c2
    clear h1 h2 h3
    refine GoG.start [(14, ⟨pb, 1, none⟩, .int .i64 (i : Int)), (14, ⟨pb, 2, none⟩, v)] (by kernel_rfl) ?_ ?_
    · exact Keeps.cons (by first | assumption | simp [*]) (Keeps.cons (by first | assumption | simp [*]) (Keeps.nil))
    refine GoG.take (i := 0) (v := ?_) [] rfl (by kernel_rfl) (by kernel_rfl) (by kernel_rfl) (by kernel_rfl) (by kernel_rfl) (by kernel_rfl) (fun _ _ _ h => h) (yields_free (by rfl) (fun w => ?_)) ?_
    rotate_left
    · go_simp; try (with_reducible rfl)
    try simp only [Act.put, List.setIfInBounds_toArray, List.set_cons_zero, List.set_cons_succ]
    refine GoG.take (i := 1) (v := ?_) [] rfl (by kernel_rfl) (by kernel_rfl) (by kernel_rfl) (by kernel_rfl) (by kernel_rfl) (by kernel_rfl) (fun _ _ _ h => h) (yields_free (by rfl) (fun w => ?_)) ?_
    rotate_left
    · go_simp; try (with_reducible rfl)
    try simp only [Act.put, List.setIfInBounds_toArray, List.set_cons_zero, List.set_cons_succ]
    refine GoG.take (i := 2) (v := ?_) [] rfl (by kernel_rfl) (by kernel_rfl) (by kernel_rfl) (by kernel_rfl) (by kernel_rfl) (by kernel_rfl) (fun _ _ _ h => h) (yields_free (by rfl) (fun w => ?_)) ?_
    rotate_left
    · go_simp; try (with_reducible rfl)
    try simp only [Act.put, List.setIfInBounds_toArray, List.set_cons_zero, List.set_cons_succ]
    refine GoG.take (i := 3) (v := ?_) [] rfl (by kernel_rfl) (by kernel_rfl) (by kernel_rfl) (by kernel_rfl) (by kernel_rfl) (by kernel_rfl) (fun _ _ _ h => h) (yields_free (by rfl) (fun w => ?_)) ?_
    rotate_left
    · go_simp; try (with_reducible rfl)
    try simp only [Act.put, List.setIfInBounds_toArray, List.set_cons_zero, List.set_cons_succ]
    refine GoG.take (i := 4) (v := ?_) [14] rfl (by kernel_rfl) (by kernel_rfl) (by kernel_rfl) (by kernel_rfl) (by kernel_rfl) (by kernel_rfl) (fun _ _ _ h => h) (yields_load 14 ⟨pb, 2, none⟩ (v) (by simp) (by decide) (by rfl) (fun w hw => ?_)) ?_
    rotate_left
    · go_simp; try (with_reducible rfl)
    try simp only [Act.put, List.setIfInBounds_toArray, List.set_cons_zero, List.set_cons_succ]
    refine GoG.take (i := 5) (v := ?_) [] rfl (by kernel_rfl) (by kernel_rfl) (by kernel_rfl) (by kernel_rfl) (by kernel_rfl) (by kernel_rfl) (fun _ _ _ h => h) (yields_free (by rfl) (fun w => ?_)) ?_
    rotate_left
    · go_simp; try (with_reducible rfl)
    try simp only [Act.put, List.setIfInBounds_toArray, List.set_cons_zero, List.set_cons_succ]
    refine GoG.take (i := 6) (v := ?_) [] rfl (by kernel_rfl) (by kernel_rfl) (by kernel_rfl) (by kernel_rfl) (by kernel_rfl) (by kernel_rfl) (fun _ _ _ h => h) (yields_free (by rfl) (fun w => ?_)) ?_
    rotate_left
    · go_simp; try (with_reducible rfl)
    try simp only [Act.put, List.setIfInBounds_toArray, List.set_cons_zero, List.set_cons_succ]
    refine GoG.take (i := 7) (v := ?_) [] rfl (by kernel_rfl) (by kernel_rfl) (by kernel_rfl) (by kernel_rfl) (by kernel_rfl) (by kernel_rfl) (fun _ _ _ h => h) (yields_free (by rfl) (fun w => ?_)) ?_
    rotate_left
    · go_simp; try (with_reducible rfl)
    try simp only [Act.put, List.setIfInBounds_toArray, List.set_cons_zero, List.set_cons_succ]
    refine GoG.take (i := 8) (v := ?_) [14] rfl (by kernel_rfl) (by kernel_rfl) (by kernel_rfl) (by kernel_rfl) (by kernel_rfl) (by kernel_rfl) (fun _ _ _ h => h) (yields_load 14 ⟨pb, 1, none⟩ (.int .i64 (i : Int)) (by simp) (by decide) (by rfl) (fun w hw => ?_)) ?_
    rotate_left
    · go_simp; try (with_reducible rfl)
    try simp only [Act.put, List.setIfInBounds_toArray, List.set_cons_zero, List.set_cons_succ]
    refine GoG.take (i := 9) (v := ?_) [] rfl (by kernel_rfl) (by kernel_rfl) (by kernel_rfl) (by kernel_rfl) (by kernel_rfl) (by kernel_rfl) (fun _ _ _ h => h) (yields_free (by rfl) (fun w => ?_)) ?_
    rotate_left
    · go_simp; try (with_reducible rfl)
    try simp only [Act.put, List.setIfInBounds_toArray, List.set_cons_zero, List.set_cons_succ]
    have bd : Below w2.heap.size w2 w2.drew := (Below.refl _ _).drew
    have HO2 := Lib.hid (HO.out.kept bd)
    have HP3 := Lib.hid (HPB.out.below bd)
    have B2 := Lib.hid (BB.out.trans (bd.mono (show B ≤ w2.heap.size from Nat.le_trans hlow (Nat.le_of_lt HPB.out.lt))))
    have hbq : Below w2.drew.heap.size w2.drew (w2.drew.alloc (.cells #[.int .i64 6, .string ⟨#[10]⟩, .int .i64 (i : Int)] 39)) := (Below.refl _ _).alloc (Nat.le_refl _) _
    have hbase : B ≤ (w2.drew.alloc (.cells #[.int .i64 6, .string ⟨#[10]⟩, .int .i64 (i : Int)] 39)).heap.size := Nat.le_trans (Nat.le_trans hlow (Nat.le_of_lt HP3.out.lt)) hbq.size
    clear c1 c2
    have hcc := cell3 (HP3.out.below hbq)
    have c1 := hcc.2.1
    have c2 := hcc.2.2
    clear hcc
    refine GoG.one (i := 10) rfl (by kernel_rfl) (fun K hK => ?_)
    go_simp
    refine hK.out _ _ (Keeps.cons (by first | assumption | exact c1) (Keeps.cons (by first | assumption | exact c2) Keeps.nil)) ?_
    clear hK K c1 c2 hbq bd
    refine GoG.append (i := 11) rfl (by kernel_rfl) rfl _ _ 22 rfl B 39 i0 (.agg #[.int .i64 0, .string ⟨#[]⟩, .int .i64 0]) 3 32 Try.underlying22 hi0 hz0 hz1 hz2 rfl (by decide) v l.length (tkC l) rfl (World.ownsRow.alloc HO2.out _) ⟨w2.drew.heap.size, 0, none⟩ 1 1 [.int .i64 6, .string ⟨#[10]⟩, .int .i64 (i : Int)] rfl rfl (cell_new3 _ _ _ _ _) (by simp [Value.oneCell']) (by unfold maxLen; omega) (by omega) hbase (fun v2 wn hown1 hgrow hob => ?_)
    have hpq := push_B (t := nlT i) rfl hlow HO2.out B2.out HP3.out HV.out hown1 hgrow hob
    have q1 := hpq.1
    have q2 := hpq.2.1
    have q3 := hpq.2.2.1
    have q4 := hpq.2.2.2
    clear hpq
    obtain ⟨ao2, cap2, hv2, -⟩ := own_row q1
    rw [List.length_append, List.length_singleton, hm] at hv2
    subst hv2
    have hcc := cell3 q3
    have c1 := hcc.2.1
    have c2 := hcc.2.2
    clear hcc
    have HQ := Lib.hid (PS.stored q3 q1 q4 hlow)
    have HQB := Lib.hid (q2.setCell hlow (p := ⟨pb, 2, none⟩) (.slice ao2 (m + 1 + 1) cap2))
    have fr2 := q3.free 2
    clear hown1 hgrow hob q1 q2 q3 q4 HO2 HP3
    refine ⟨Keeps.cons c1 (Keeps.cons c2 Keeps.nil), ?_⟩
    refine GoG.take (i := 12) (v := ?_) [] rfl (by kernel_rfl) (by kernel_rfl) (by kernel_rfl) (by kernel_rfl) (by kernel_rfl) (by kernel_rfl) (fun _ _ _ h => h) (yields_free (by rfl) (fun w => ?_)) ?_
    rotate_left
    · go_simp; try (with_reducible rfl)
    try simp only [Act.put, List.setIfInBounds_toArray, List.set_cons_zero, List.set_cons_succ]
    refine GoG.take (i := 13) (v := ?_) [] rfl (by kernel_rfl) (by kernel_rfl) (by kernel_rfl) (by kernel_rfl) (by kernel_rfl) (by kernel_rfl) (fun _ _ _ h => h) (yields_free (by rfl) (fun w => ?_)) ?_
    rotate_left
    · go_simp; try (with_reducible rfl)
    try simp only [Act.put, List.setIfInBounds_toArray, List.set_cons_zero, List.set_cons_succ]
    refine GoG.one (i := 14) rfl (by kernel_rfl) (fun K hK => ?_)
    go_simp
    refine hK.out _ _ (Keeps.up (by rfl) (Keeps.up (by rfl) (Keeps.nil))) ?_
    clear hK K c1 c2 fr2
    refine GoG.done (by kernel_rfl) ?_ _
    go_wp2_with fail
    go_end0
    exact ⟨rfl, by rw [lineT_yes HT.out]; exact HQ.out, HQB.out⟩
  · subst hk
    have HT := Lib.hid (show endsT l = true by rw [HE.out]; rfl)
    clear HE
    go_wp2_with fail
    clear z0 z1 z2
    obtain ⟨v, h1, h2, h3⟩ := HP2.out.ex
    have HPB := Lib.hid h1
    have HO := Lib.hid h2
    have HV := Lib.hid h3
    have c1 := h1.cell 1
    have c2 := h1.cell 2
    simp only [List.getElem?_toArray, List.getElem?_cons_zero, List.getElem?_cons_succ] at c1 c2
    clear h1 h2 h3
    refine GoG.start [(14, ⟨pb, 1, none⟩, .int .i64 (i : Int)), (14, ⟨pb, 2, none⟩, v)] (by kernel_rfl) ?_ ?_
    · exact Keeps.cons (by first | assumption | simp [*]) (Keeps.cons (by first | assumption | simp [*]) (Keeps.nil))
    refine GoG.take (i := 0) (v := ?_) [] rfl (by kernel_rfl) (by kernel_rfl) (by kernel_rfl) (by kernel_rfl) (by kernel_rfl) (by kernel_rfl) (fun _ _ _ h => h) (yields_free (by rfl) (fun w => ?_)) ?_
    rotate_left
    · go_simp; try (with_reducible rfl)
    try simp only [Act.put, List.setIfInBounds_toArray, List.set_cons_zero, List.set_cons_succ]
    refine GoG.take (i := 1) (v := ?_) [] rfl (by kernel_rfl) (by kernel_rfl) (by kernel_rfl) (by kernel_rfl) (by kernel_rfl) (by kernel_rfl) (fun _ _ _ h => h) (yields_free (by rfl) (fun w => ?_)) ?_
    rotate_left
    · go_simp; try (with_reducible rfl)
    try simp only [Act.put, List.setIfInBounds_toArray, List.set_cons_zero, List.set_cons_succ]
    refine GoG.take (i := 2) (v := ?_) [] rfl (by kernel_rfl) (by kernel_rfl) (by kernel_rfl) (by kernel_rfl) (by kernel_rfl) (by kernel_rfl) (fun _ _ _ h => h) (yields_free (by rfl) (fun w => ?_)) ?_
    rotate_left
    · go_simp; try (with_reducible rfl)
    try simp only [Act.put, List.setIfInBounds_toArray, List.set_cons_zero, List.set_cons_succ]
    refine GoG.take (i := 3) (v := ?_) [] rfl (by kernel_rfl) (by kernel_rfl) (by kernel_rfl) (by kernel_rfl) (by kernel_rfl) (by kernel_rfl) (fun _ _ _ h => h) (yields_free (by rfl) (fun w => ?_)) ?_
    rotate_left
    · go_simp; try (with_reducible rfl)
    try simp only [Act.put, List.setIfInBounds_toArray, List.set_cons_zero, List.set_cons_succ]
    refine GoG.take (i := 4) (v := ?_) [14] rfl (by kernel_rfl) (by kernel_rfl) (by kernel_rfl) (by kernel_rfl) (by kernel_rfl) (by kernel_rfl) (fun _ _ _ h => h) (yields_load 14 ⟨pb, 2, none⟩ (v) (by simp) (by decide) (by rfl) (fun w hw => ?_)) ?_
    rotate_left
    · go_simp; try (with_reducible rfl)
    try simp only [Act.put, List.setIfInBounds_toArray, List.set_cons_zero, List.set_cons_succ]
    refine GoG.take (i := 5) (v := ?_) [] rfl (by kernel_rfl) (by kernel_rfl) (by kernel_rfl) (by kernel_rfl) (by kernel_rfl) (by kernel_rfl) (fun _ _ _ h => h) (yields_free (by rfl) (fun w => ?_)) ?_
    rotate_left
    · go_simp; try (with_reducible rfl)
    try simp only [Act.put, List.setIfInBounds_toArray, List.set_cons_zero, List.set_cons_succ]
    refine GoG.take (i := 6) (v := ?_) [] rfl (by kernel_rfl) (by kernel_rfl) (by kernel_rfl) (by kernel_rfl) (by kernel_rfl) (by kernel_rfl) (fun _ _ _ h => h) (yields_free (by rfl) (fun w => ?_)) ?_
    rotate_left
    · go_simp; try (with_reducible rfl)
    try simp only [Act.put, List.setIfInBounds_toArray, List.set_cons_zero, List.set_cons_succ]
    refine GoG.take (i := 7) (v := ?_) [] rfl (by kernel_rfl) (by kernel_rfl) (by kernel_rfl) (by kernel_rfl) (by kernel_rfl) (by kernel_rfl) (fun _ _ _ h => h) (yields_free (by rfl) (fun w => ?_)) ?_
    rotate_left
    · go_simp; try (with_reducible rfl)
    try simp only [Act.put, List.setIfInBounds_toArray, List.set_cons_zero, List.set_cons_succ]
    refine GoG.take (i := 8) (v := ?_) [14] rfl (by kernel_rfl) (by kernel_rfl) (by kernel_rfl) (by kernel_rfl) (by kernel_rfl) (by kernel_rfl) (fun _ _ _ h => h) (yields_load 14 ⟨pb, 1, none⟩ (.int .i64 (i : Int)) (by simp) (by decide) (by rfl) (fun w hw => ?_)) ?_
    rotate_left
    · go_simp; try (with_reducible rfl)
    try simp only [Act.put, List.setIfInBounds_toArray, List.set_cons_zero, List.set_cons_succ]
    refine GoG.take (i := 9) (v := ?_) [] rfl (by kernel_rfl) (by kernel_rfl) (by kernel_rfl) (by kernel_rfl) (by kernel_rfl) (by kernel_rfl) (fun _ _ _ h => h) (yields_free (by rfl) (fun w => ?_)) ?_
    rotate_left
    · go_simp; try (with_reducible rfl)
    try simp only [Act.put, List.setIfInBounds_toArray, List.set_cons_zero, List.set_cons_succ]
    have bd : Below w2.heap.size w2 w2.drew := (Below.refl _ _).drew
    have HO2 := Lib.hid (HO.out.kept bd)
    have HP3 := Lib.hid (HPB.out.below bd)
    have B2 := Lib.hid (BB.out.trans (bd.mono (show B ≤ w2.heap.size from Nat.le_trans hlow (Nat.le_of_lt HPB.out.lt))))
    have hbq : Below w2.drew.heap.size w2.drew (w2.drew.alloc (.cells #[.int .i64 6, .string ⟨#[10]⟩, .int .i64 (i : Int)] 39)) := (Below.refl _ _).alloc (Nat.le_refl _) _
    have hbase : B ≤ (w2.drew.alloc (.cells #[.int .i64 6, .string ⟨#[10]⟩, .int .i64 (i : Int)] 39)).heap.size := Nat.le_trans (Nat.le_trans hlow (Nat.le_of_lt HP3.out.lt)) hbq.size
    clear c1 c2
    have hcc := cell3 (HP3.out.below hbq)
    have c1 := hcc.2.1
    have c2 := hcc.2.2
    clear hcc
    refine GoG.one (i := 10) rfl (by kernel_rfl) (fun K hK => ?_)
    go_simp
    refine hK.out _ _ (Keeps.cons (by first | assumption | exact c1) (Keeps.cons (by first | assumption | exact c2) Keeps.nil)) ?_
    clear hK K c1 c2 hbq bd
    refine GoG.append (i := 11) rfl (by kernel_rfl) rfl _ _ 22 rfl B 39 i0 (.agg #[.int .i64 0, .string ⟨#[]⟩, .int .i64 0]) 3 32 Try.underlying22 hi0 hz0 hz1 hz2 rfl (by decide) v l.length (tkC l) rfl (World.ownsRow.alloc HO2.out _) ⟨w2.drew.heap.size, 0, none⟩ 1 1 [.int .i64 6, .string ⟨#[10]⟩, .int .i64 (i : Int)] rfl rfl (cell_new3 _ _ _ _ _) (by simp [Value.oneCell']) (by unfold maxLen; omega) (by omega) hbase (fun v2 wn hown1 hgrow hob => ?_)
    have hpq := push_B (t := nlT i) rfl hlow HO2.out B2.out HP3.out HV.out hown1 hgrow hob
    have q1 := hpq.1
    have q2 := hpq.2.1
    have q3 := hpq.2.2.1
    have q4 := hpq.2.2.2
    clear hpq
    obtain ⟨ao2, cap2, hv2, -⟩ := own_row q1
    rw [List.length_append, List.length_singleton, hm] at hv2
    subst hv2
    have hcc := cell3 q3
    have c1 := hcc.2.1
    have c2 := hcc.2.2
    clear hcc
    have HQ := Lib.hid (PS.stored q3 q1 q4 hlow)
    have HQB := Lib.hid (q2.setCell hlow (p := ⟨pb, 2, none⟩) (.slice ao2 (m + 1 + 1) cap2))
    have fr2 := q3.free 2
    clear hown1 hgrow hob q1 q2 q3 q4 HO2 HP3
    refine ⟨Keeps.cons c1 (Keeps.cons c2 Keeps.nil), ?_⟩
    refine GoG.take (i := 12) (v := ?_) [] rfl (by kernel_rfl) (by kernel_rfl) (by kernel_rfl) (by kernel_rfl) (by kernel_rfl) (by kernel_rfl) (fun _ _ _ h => h) (yields_free (by rfl) (fun w => ?_)) ?_
    rotate_left
    · go_simp; try (with_reducible rfl)
    try simp only [Act.put, List.setIfInBounds_toArray, List.set_cons_zero, List.set_cons_succ]
    refine GoG.take (i := 13) (v := ?_) [] rfl (by kernel_rfl) (by kernel_rfl) (by kernel_rfl) (by kernel_rfl) (by kernel_rfl) (by kernel_rfl) (fun _ _ _ h => h) (yields_free (by rfl) (fun w => ?_)) ?_
    rotate_left
    · go_simp; try (with_reducible rfl)
    try simp only [Act.put, List.setIfInBounds_toArray, List.set_cons_zero, List.set_cons_succ]
    refine GoG.one (i := 14) rfl (by kernel_rfl) (fun K hK => ?_)
    go_simp
    refine hK.out _ _ (Keeps.up (by rfl) (Keeps.up (by rfl) (Keeps.nil))) ?_
    clear hK K c1 c2 fr2
    refine GoG.done (by kernel_rfl) ?_ _
    go_wp2_with fail
    go_end0
    exact ⟨rfl, by rw [lineT_yes HT.out]; exact HQ.out, HQB.out⟩
  · subst hk
    have HT := Lib.hid (show endsT l = true by rw [HE.out]; rfl)
    clear HE
    go_wp2_with fail
    clear z0 z1 z2
    obtain ⟨v, h1, h2, h3⟩ := HP2.out.ex
    have HPB := Lib.hid h1
    have HO := Lib.hid h2
    have HV := Lib.hid h3
    have c1 := h1.cell 1
    have c2 := h1.cell 2
    simp only [List.getElem?_toArray, List.getElem?_cons_zero, List.getElem?_cons_succ] at c1 c2
    clear h1 h2 h3
    refine GoG.start [(14, ⟨pb, 1, none⟩, .int .i64 (i : Int)), (14, ⟨pb, 2, none⟩, v)] (by kernel_rfl) ?_ ?_
    · exact Keeps.cons (by first | assumption | simp [*]) (Keeps.cons (by first | assumption | simp [*]) (Keeps.nil))
    refine GoG.take (i := 0) (v := ?_) [] rfl (by kernel_rfl) (by kernel_rfl) (by kernel_rfl) (by kernel_rfl) (by kernel_rfl) (by kernel_rfl) (fun _ _ _ h => h) (yields_free (by rfl) (fun w => ?_)) ?_
    rotate_left
    · go_simp; try (with_reducible rfl)
    try simp only [Act.put, List.setIfInBounds_toArray, List.set_cons_zero, List.set_cons_succ]
    refine GoG.take (i := 1) (v := ?_) [] rfl (by kernel_rfl) (by kernel_rfl) (by kernel_rfl) (by kernel_rfl) (by kernel_rfl) (by kernel_rfl) (fun _ _ _ h => h) (yields_free (by rfl) (fun w => ?_)) ?_
    rotate_left
    · go_simp; try (with_reducible rfl)
    try simp only [Act.put, List.setIfInBounds_toArray, List.set_cons_zero, List.set_cons_succ]
    refine GoG.take (i := 2) (v := ?_) [] rfl (by kernel_rfl) (by kernel_rfl) (by kernel_rfl) (by kernel_rfl) (by kernel_rfl) (by kernel_rfl) (fun _ _ _ h => h) (yields_free (by rfl) (fun w => ?_)) ?_
    rotate_left
    · go_simp; try (with_reducible rfl)
    try simp only [Act.put, List.setIfInBounds_toArray, List.set_cons_zero, List.set_cons_succ]
    refine GoG.take (i := 3) (v := ?_) [] rfl (by kernel_rfl) (by kernel_rfl) (by kernel_rfl) (by kernel_rfl) (by kernel_rfl) (by kernel_rfl) (fun _ _ _ h => h) (yields_free (by rfl) (fun w => ?_)) ?_
    rotate_left
    · go_simp; try (with_reducible rfl)
    try simp only [Act.put, List.setIfInBounds_toArray, List.set_cons_zero, List.set_cons_succ]
    refine GoG.take (i := 4) (v := ?_) [14] rfl (by kernel_rfl) (by kernel_rfl) (by kernel_rfl) (by kernel_rfl) (by kernel_rfl) (by kernel_rfl) (fun _ _ _ h => h) (yields_load 14 ⟨pb, 2, none⟩ (v) (by simp) (by decide) (by rfl) (fun w hw => ?_)) ?_
    rotate_left
    · go_simp; try (with_reducible rfl)
    try simp only [Act.put, List.setIfInBounds_toArray, List.set_cons_zero, List.set_cons_succ]
    refine GoG.take (i := 5) (v := ?_) [] rfl (by kernel_rfl) (by kernel_rfl) (by kernel_rfl) (by kernel_rfl) (by kernel_rfl) (by kernel_rfl) (fun _ _ _ h => h) (yields_free (by rfl) (fun w => ?_)) ?_
    rotate_left
    · go_simp; try (with_reducible rfl)
    try simp only [Act.put, List.setIfInBounds_toArray, List.set_cons_zero, List.set_cons_succ]
    refine GoG.take (i := 6) (v := ?_) [] rfl (by kernel_rfl) (by kernel_rfl) (by kernel_rfl) (by kernel_rfl) (by kernel_rfl) (by kernel_rfl) (fun _ _ _ h => h) (yields_free (by rfl) (fun w => ?_)) ?_
    rotate_left
    · go_simp; try (with_reducible rfl)
    try simp only [Act.put, List.setIfInBounds_toArray, List.set_cons_zero, List.set_cons_succ]
    refine GoG.take (i := 7) (v := ?_) [] rfl (by kernel_rfl) (by kernel_rfl) (by kernel_rfl) (by kernel_rfl) (by kernel_rfl) (by kernel_rfl) (fun _ _ _ h => h) (yields_free (by rfl) (fun w => ?_)) ?_
    rotate_left
    · go_simp; try (with_reducible rfl)
    try simp only [Act.put, List.setIfInBounds_toArray, List.set_cons_zero, List.set_cons_succ]
    refine GoG.take (i := 8) (v := ?_) [14] rfl (by kernel_rfl) (by kernel_rfl) (by kernel_rfl) (by kernel_rfl) (by kernel_rfl) (by kernel_rfl) (fun _ _ _ h => h) (yields_load 14 ⟨pb, 1, none⟩ (.int .i64 (i : Int)) (by simp) (by decide) (by rfl) (fun w hw => ?_)) ?_
    rotate_left
    · go_simp; try (with_reducible rfl)
    try simp only [Act.put, List.setIfInBounds_toArray, List.set_cons_zero, List.set_cons_succ]
    refine GoG.take (i := 9) (v := ?_) [] rfl (by kernel_rfl) (by kernel_rfl) (by kernel_rfl) (by kernel_rfl) (by kernel_rfl) (by kernel_rfl) (fun _ _ _ h => h) (yields_free (by rfl) (fun w => ?_)) ?_
    rotate_left
    · go_simp; try (with_reducible rfl)
    try simp only [Act.put, List.setIfInBounds_toArray, List.set_cons_zero, List.set_cons_succ]
    have bd : Below w2.heap.size w2 w2.drew := (Below.refl _ _).drew
    have HO2 := Lib.hid (HO.out.kept bd)
    have HP3 := Lib.hid (HPB.out.below bd)
    have B2 := Lib.hid (BB.out.trans (bd.mono (show B ≤ w2.heap.size from Nat.le_trans hlow (Nat.le_of_lt HPB.out.lt))))
    have hbq : Below w2.drew.heap.size w2.drew (w2.drew.alloc (.cells #[.int .i64 6, .string ⟨#[10]⟩, .int .i64 (i : Int)] 39)) := (Below.refl _ _).alloc (Nat.le_refl _) _
    have hbase : B ≤ (w2.drew.alloc (.cells #[.int .i64 6, .string ⟨#[10]⟩, .int .i64 (i : Int)] 39)).heap.size := Nat.le_trans (Nat.le_trans hlow (Nat.le_of_lt HP3.out.lt)) hbq.size
    clear c1 c2
    have hcc := cell3 (HP3.out.below hbq)
    have c1 := hcc.2.1
    have c2 := hcc.2.2
    clear hcc
    refine GoG.one (i := 10) rfl (by kernel_rfl) (fun K hK => ?_)
    go_simp
    refine hK.out _ _ (Keeps.cons (by first | assumption | exact c1) (Keeps.cons (by first | assumption | exact c2) Keeps.nil)) ?_
    clear hK K c1 c2 hbq bd
    refine GoG.append (i := 11) rfl (by kernel_rfl) rfl _ _ 22 rfl B 39 i0 (.agg #[.int .i64 0, .string ⟨#[]⟩, .int .i64 0]) 3 32 Try.underlying22 hi0 hz0 hz1 hz2 rfl (by decide) v l.length (tkC l) rfl (World.ownsRow.alloc HO2.out _) ⟨w2.drew.heap.size, 0, none⟩ 1 1 [.int .i64 6, .string ⟨#[10]⟩, .int .i64 (i : Int)] rfl rfl (cell_new3 _ _ _ _ _) (by simp [Value.oneCell']) (by unfold maxLen; omega) (by omega) hbase (fun v2 wn hown1 hgrow hob => ?_)
    have hpq := push_B (t := nlT i) rfl hlow HO2.out B2.out HP3.out HV.out hown1 hgrow hob
    have q1 := hpq.1
    have q2 := hpq.2.1
    have q3 := hpq.2.2.1
    have q4 := hpq.2.2.2
    clear hpq
    obtain ⟨ao2, cap2, hv2, -⟩ := own_row q1
    rw [List.length_append, List.length_singleton, hm] at hv2
    subst hv2
    have hcc := cell3 q3
    have c1 := hcc.2.1
    have c2 := hcc.2.2
    clear hcc
    have HQ := Lib.hid (PS.stored q3 q1 q4 hlow)
    have HQB := Lib.hid (q2.setCell hlow (p := ⟨pb, 2, none⟩) (.slice ao2 (m + 1 + 1) cap2))
    have fr2 := q3.free 2
    clear hown1 hgrow hob q1 q2 q3 q4 HO2 HP3
    refine ⟨Keeps.cons c1 (Keeps.cons c2 Keeps.nil), ?_⟩
    refine GoG.take (i := 12) (v := ?_) [] rfl (by kernel_rfl) (by kernel_rfl) (by kernel_rfl) (by kernel_rfl) (by kernel_rfl) (by kernel_rfl) (fun _ _ _ h => h) (yields_free (by rfl) (fun w => ?_)) ?_
    rotate_left
    · go_simp; try (with_reducible rfl)
    try simp only [Act.put, List.setIfInBounds_toArray, List.set_cons_zero, List.set_cons_succ]
    refine GoG.take (i := 13) (v := ?_) [] rfl (by kernel_rfl) (by kernel_rfl) (by kernel_rfl) (by kernel_rfl) (by kernel_rfl) (by kernel_rfl) (fun _ _ _ h => h) (yields_free (by rfl) (fun w => ?_)) ?_
    rotate_left
    · go_simp; try (with_reducible rfl)
    try simp only [Act.put, List.setIfInBounds_toArray, List.set_cons_zero, List.set_cons_succ]
    refine GoG.one (i := 14) rfl (by kernel_rfl) (fun K hK => ?_)
    go_simp
    refine hK.out _ _ (Keeps.up (by rfl) (Keeps.up (by rfl) (Keeps.nil))) ?_
    clear hK K c1 c2 fr2
    refine GoG.done (by kernel_rfl) ?_ _
    go_wp2_with fail
    go_end0
    exact ⟨rfl, by rw [lineT_yes HT.out]; exact HQ.out, HQB.out⟩
  · subst hk
    have HT := Lib.hid (show endsT l = true by rw [HE.out]; rfl)
    clear HE
    go_wp2_with fail
    clear z0 z1 z2
    obtain ⟨v, h1, h2, h3⟩ := HP2.out.ex
    have HPB := Lib.hid h1
    have HO := Lib.hid h2
    have HV := Lib.hid h3
    have c1 := h1.cell 1
    have c2 := h1.cell 2
    simp only [List.getElem?_toArray, List.getElem?_cons_zero, List.getElem?_cons_succ] at c1 c2
    clear h1 h2 h3
    refine GoG.start [(14, ⟨pb, 1, none⟩, .int .i64 (i : Int)), (14, ⟨pb, 2, none⟩, v)] (by kernel_rfl) ?_ ?_
    · exact Keeps.cons (by first | assumption | simp [*]) (Keeps.cons (by first | assumption | simp [*]) (Keeps.nil))
    refine GoG.take (i := 0) (v := ?_) [] rfl (by kernel_rfl) (by kernel_rfl) (by kernel_rfl) (by kernel_rfl) (by kernel_rfl) (by kernel_rfl) (fun _ _ _ h => h) (yields_free (by rfl) (fun w => ?_)) ?_
    rotate_left
    · go_simp; try (with_reducible rfl)
    try simp only [Act.put, List.setIfInBounds_toArray, List.set_cons_zero, List.set_cons_succ]
    refine GoG.take (i := 1) (v := ?_) [] rfl (by kernel_rfl) (by kernel_rfl) (by kernel_rfl) (by kernel_rfl) (by kernel_rfl) (by kernel_rfl) (fun _ _ _ h => h) (yields_free (by rfl) (fun w => ?_)) ?_
    rotate_left
    · go_simp; try (with_reducible rfl)
    try simp only [Act.put, List.setIfInBounds_toArray, List.set_cons_zero, List.set_cons_succ]
    refine GoG.take (i := 2) (v := ?_) [] rfl (by kernel_rfl) (by kernel_rfl) (by kernel_rfl) (by kernel_rfl) (by kernel_rfl) (by kernel_rfl) (fun _ _ _ h => h) (yields_free (by rfl) (fun w => ?_)) ?_
    rotate_left
    · go_simp; try (with_reducible rfl)
    try simp only [Act.put, List.setIfInBounds_toArray, List.set_cons_zero, List.set_cons_succ]
    refine GoG.take (i := 3) (v := ?_) [] rfl (by kernel_rfl) (by kernel_rfl) (by kernel_rfl) (by kernel_rfl) (by kernel_rfl) (by kernel_rfl) (fun _ _ _ h => h) (yields_free (by rfl) (fun w => ?_)) ?_
    rotate_left
    · go_simp; try (with_reducible rfl)
    try simp only [Act.put, List.setIfInBounds_toArray, List.set_cons_zero, List.set_cons_succ]
    refine GoG.take (i := 4) (v := ?_) [14] rfl (by kernel_rfl) (by kernel_rfl) (by kernel_rfl) (by kernel_rfl) (by kernel_rfl) (by kernel_rfl) (fun _ _ _ h => h) (yields_load 14 ⟨pb, 2, none⟩ (v) (by simp) (by decide) (by rfl) (fun w hw => ?_)) ?_
    rotate_left
    · go_simp; try (with_reducible rfl)
    try simp only [Act.put, List.setIfInBounds_toArray, List.set_cons_zero, List.set_cons_succ]
    refine GoG.take (i := 5) (v := ?_) [] rfl (by kernel_rfl) (by kernel_rfl) (by kernel_rfl) (by kernel_rfl) (by kernel_rfl) (by kernel_rfl) (fun _ _ _ h => h) (yields_free (by rfl) (fun w => ?_)) ?_
    rotate_left
    · go_simp; try (with_reducible rfl)
    try simp only [Act.put, List.setIfInBounds_toArray, List.set_cons_zero, List.set_cons_succ]
    refine GoG.take (i := 6) (v := ?_) [] rfl (by kernel_rfl) (by kernel_rfl) (by kernel_rfl) (by kernel_rfl) (by kernel_rfl) (by kernel_rfl) (fun _ _ _ h => h) (yields_free (by rfl) (fun w => ?_)) ?_
    rotate_left
    · go_simp; try (with_reducible rfl)
    try simp only [Act.put, List.setIfInBounds_toArray, List.set_cons_zero, List.set_cons_succ]
    refine GoG.take (i := 7) (v := ?_) [] rfl (by kernel_rfl) (by kernel_rfl) (by kernel_rfl) (by kernel_rfl) (by kernel_rfl) (by kernel_rfl) (fun _ _ _ h => h) (yields_free (by rfl) (fun w => ?_)) ?_
    rotate_left
    · go_simp; try (with_reducible rfl)
    try simp only [Act.put, List.setIfInBounds_toArray, List.set_cons_zero, List.set_cons_succ]
    refine GoG.take (i := 8) (v := ?_) [14] rfl (by kernel_rfl) (by kernel_rfl) (by kernel_rfl) (by kernel_rfl) (by kernel_rfl) (by kernel_rfl) (fun _ _ _ h => h) (yields_load 14 ⟨pb, 1, none⟩ (.int .i64 (i : Int)) (by simp) (by decide) (by rfl) (fun w hw => ?_)) ?_
    rotate_left
    · go_simp; try (with_reducible rfl)
    try simp only [Act.put, List.setIfInBounds_toArray, List.set_cons_zero, List.set_cons_succ]
    refine GoG.take (i := 9) (v := ?_) [] rfl (by kernel_rfl) (by kernel_rfl) (by kernel_rfl) (by kernel_rfl) (by kernel_rfl) (by kernel_rfl) (fun _ _ _ h => h) (yields_free (by rfl) (fun w => ?_)) ?_
    rotate_left
    · go_simp; try (with_reducible rfl)
    try simp only [Act.put, List.setIfInBounds_toArray, List.set_cons_zero, List.set_cons_succ]
    have bd : Below w2.heap.size w2 w2.drew := (Below.refl _ _).drew
    have HO2 := Lib.hid (HO.out.kept bd)
    have HP3 := Lib.hid (HPB.out.below bd)
    have B2 := Lib.hid (BB.out.trans (bd.mono (show B ≤ w2.heap.size from Nat.le_trans hlow (Nat.le_of_lt HPB.out.lt))))
    have hbq : Below w2.drew.heap.size w2.drew (w2.drew.alloc (.cells #[.int .i64 6, .string ⟨#[10]⟩, .int .i64 (i : Int)] 39)) := (Below.refl _ _).alloc (Nat.le_refl _) _
    have hbase : B ≤ (w2.drew.alloc (.cells #[.int .i64 6, .string ⟨#[10]⟩, .int .i64 (i : Int)] 39)).heap.size := Nat.le_trans (Nat.le_trans hlow (Nat.le_of_lt HP3.out.lt)) hbq.size
    clear c1 c2
    have hcc := cell3 (HP3.out.below hbq)
    have c1 := hcc.2.1
    have c2 := hcc.2.2
    clear hcc
    refine GoG.one (i := 10) rfl (by kernel_rfl) (fun K hK => ?_)
    go_simp
    refine hK.out _ _ (Keeps.cons (by first | assumption | exact c1) (Keeps.cons (by first | assumption | exact c2) Keeps.nil)) ?_
    clear hK K c1 c2 hbq bd
    refine GoG.append (i := 11) rfl (by kernel_rfl) rfl _ _ 22 rfl B 39 i0 (.agg #[.int .i64 0, .string ⟨#[]⟩, .int .i64 0]) 3 32 Try.underlying22 hi0 hz0 hz1 hz2 rfl (by decide) v l.length (tkC l) rfl (World.ownsRow.alloc HO2.out _) ⟨w2.drew.heap.size, 0, none⟩ 1 1 [.int .i64 6, .string ⟨#[10]⟩, .int .i64 (i : Int)] rfl rfl (cell_new3 _ _ _ _ _) (by simp [Value.oneCell']) (by unfold maxLen; omega) (by omega) hbase (fun v2 wn hown1 hgrow hob => ?_)
    have hpq := push_B (t := nlT i) rfl hlow HO2.out B2.out HP3.out HV.out hown1 hgrow hob
    have q1 := hpq.1
    have q2 := hpq.2.1
    have q3 := hpq.2.2.1
    have q4 := hpq.2.2.2
    clear hpq
    obtain ⟨ao2, cap2, hv2, -⟩ := own_row q1
    rw [List.length_append, List.length_singleton, hm] at hv2
    subst hv2
    have hcc := cell3 q3
    have c1 := hcc.2.1
    have c2 := hcc.2.2
    clear hcc
    have HQ := Lib.hid (PS.stored q3 q1 q4 hlow)
    have HQB := Lib.hid (q2.setCell hlow (p := ⟨pb, 2, none⟩) (.slice ao2 (m + 1 + 1) cap2))
    have fr2 := q3.free 2
    clear hown1 hgrow hob q1 q2 q3 q4 HO2 HP3
    refine ⟨Keeps.cons c1 (Keeps.cons c2 Keeps.nil), ?_⟩
    refine GoG.take (i := 12) (v := ?_) [] rfl (by kernel_rfl) (by kernel_rfl) (by kernel_rfl) (by kernel_rfl) (by kernel_rfl) (by kernel_rfl) (fun _ _ _ h => h) (yields_free (by rfl) (fun w => ?_)) ?_
    rotate_left
    · go_simp; try (with_reducible rfl)
    try simp only [Act.put, List.setIfInBounds_toArray, List.set_cons_zero, List.set_cons_succ]
    refine GoG.take (i := 13) (v := ?_) [] rfl (by kernel_rfl) (by kernel_rfl) (by kernel_rfl) (by kernel_rfl) (by kernel_rfl) (by kernel_rfl) (fun _ _ _ h => h) (yields_free (by rfl) (fun w => ?_)) ?_
    rotate_left
    · go_simp; try (with_reducible rfl)
    try simp only [Act.put, List.setIfInBounds_toArray, List.set_cons_zero, List.set_cons_succ]
    refine GoG.one (i := 14) rfl (by kernel_rfl) (fun K hK => ?_)
    go_simp
    refine hK.out _ _ (Keeps.up (by rfl) (Keeps.up (by rfl) (Keeps.nil))) ?_
    clear hK K c1 c2 fr2
    refine GoG.done (by kernel_rfl) ?_ _
    go_wp2_with fail
    go_end0
    exact ⟨rfl, by rw [lineT_yes HT.out]; exact HQ.out, HQB.out⟩
  · subst hk
    have HT := Lib.hid (show endsT l = true by rw [HE.out]; rfl)
    clear HE
    go_wp2_with fail
    clear z0 z1 z2
    obtain ⟨v, h1, h2, h3⟩ := HP2.out.ex
    have HPB := Lib.hid h1
    have HO := Lib.hid h2
    have HV := Lib.hid h3
    have c1 := h1.cell 1
    have c2 := h1.cell 2
    simp only [List.getElem?_toArray, List.getElem?_cons_zero, List.getElem?_cons_succ] at c1 c2
    clear h1 h2 h3
    refine GoG.start [(14, ⟨pb, 1, none⟩, .int .i64 (i : Int)), (14, ⟨pb, 2, none⟩, v)] (by kernel_rfl) ?_ ?_
    · exact Keeps.cons (by first | assumption | simp [*]) (Keeps.cons (by first | assumption | simp [*]) (Keeps.nil))
    refine GoG.take (i := 0) (v := ?_) [] rfl (by kernel_rfl) (by kernel_rfl) (by kernel_rfl) (by kernel_rfl) (by kernel_rfl) (by kernel_rfl) (fun _ _ _ h => h) (yields_free (by rfl) (fun w => ?_)) ?_
    rotate_left
    · go_simp; try (with_reducible rfl)
    try simp only [Act.put, List.setIfInBounds_toArray, List.set_cons_zero, List.set_cons_succ]
    refine GoG.take (i := 1) (v := ?_) [] rfl (by kernel_rfl) (by kernel_rfl) (by kernel_rfl) (by kernel_rfl) (by kernel_rfl) (by kernel_rfl) (fun _ _ _ h => h) (yields_free (by rfl) (fun w => ?_)) ?_
    rotate_left
    · go_simp; try (with_reducible rfl)
    try simp only [Act.put, List.setIfInBounds_toArray, List.set_cons_zero, List.set_cons_succ]
    refine GoG.take (i := 2) (v := ?_) [] rfl (by kernel_rfl) (by kernel_rfl) (by kernel_rfl) (by kernel_rfl) (by kernel_rfl) (by kernel_rfl) (fun _ _ _ h => h) (yields_free (by rfl) (fun w => ?_)) ?_
    rotate_left
    · go_simp; try (with_reducible rfl)
    try simp only [Act.put, List.setIfInBounds_toArray, List.set_cons_zero, List.set_cons_succ]
    refine GoG.take (i := 3) (v := ?_) [] rfl (by kernel_rfl) (by kernel_rfl) (by kernel_rfl) (by kernel_rfl) (by kernel_rfl) (by kernel_rfl) (fun _ _ _ h => h) (yields_free (by rfl) (fun w => ?_)) ?_
    rotate_left
    · go_simp; try (with_reducible rfl)
    try simp only [Act.put, List.setIfInBounds_toArray, List.set_cons_zero, List.set_cons_succ]
    refine GoG.take (i := 4) (v := ?_) [14] rfl (by kernel_rfl) (by kernel_rfl) (by kernel_rfl) (by kernel_rfl) (by kernel_rfl) (by kernel_rfl) (fun _ _ _ h => h) (yields_load 14 ⟨pb, 2, none⟩ (v) (by simp) (by decide) (by rfl) (fun w hw => ?_)) ?_
    rotate_left
    · go_simp; try (with_reducible rfl)
    try simp only [Act.put, List.setIfInBounds_toArray, List.set_cons_zero, List.set_cons_succ]
    refine GoG.take (i := 5) (v := ?_) [] rfl (by kernel_rfl) (by kernel_rfl) (by kernel_rfl) (by kernel_rfl) (by kernel_rfl) (by kernel_rfl) (fun _ _ _ h => h) (yields_free (by rfl) (fun w => ?_)) ?_
    rotate_left
    · go_simp; try (with_reducible rfl)
    try simp only [Act.put, List.setIfInBounds_toArray, List.set_cons_zero, List.set_cons_succ]
    refine GoG.take (i := 6) (v := ?_) [] rfl (by kernel_rfl) (by kernel_rfl) (by kernel_rfl) (by kernel_rfl) (by kernel_rfl) (by kernel_rfl) (fun _ _ _ h => h) (yields_free (by rfl) (fun w => ?_)) ?_
    rotate_left
    · go_simp; try (with_reducible rfl)
    try simp only [Act.put, List.setIfInBounds_toArray, List.set_cons_zero, List.set_cons_succ]
    refine GoG.take (i := 7) (v := ?_) [] rfl (by kernel_rfl) (by kernel_rfl) (by kernel_rfl) (by kernel_rfl) (by kernel_rfl) (by kernel_rfl) (fun _ _ _ h => h) (yields_free (by rfl) (fun w => ?_)) ?_
    rotate_left
    · go_simp; try (with_reducible rfl)
    try simp only [Act.put, List.setIfInBounds_toArray, List.set_cons_zero, List.set_cons_succ]
    refine GoG.take (i := 8) (v := ?_) [14] rfl (by kernel_rfl) (by kernel_rfl) (by kernel_rfl) (by kernel_rfl) (by kernel_rfl) (by kernel_rfl) (fun _ _ _ h => h) (yields_load 14 ⟨pb, 1, none⟩ (.int .i64 (i : Int)) (by simp) (by decide) (by rfl) (fun w hw => ?_)) ?_
    rotate_left
    · go_simp; try (with_reducible rfl)
    try simp only [Act.put, List.setIfInBounds_toArray, List.set_cons_zero, List.set_cons_succ]
    refine GoG.take (i := 9) (v := ?_) [] rfl (by kernel_rfl) (by kernel_rfl) (by kernel_rfl) (by kernel_rfl) (by kernel_rfl) (by kernel_rfl) (fun _ _ _ h => h) (yields_free (by rfl) (fun w => ?_)) ?_
    rotate_left
    · go_simp; try (with_reducible rfl)
    try simp only [Act.put, List.setIfInBounds_toArray, List.set_cons_zero, List.set_cons_succ]
    have bd : Below w2.heap.size w2 w2.drew := (Below.refl _ _).drew
    have HO2 := Lib.hid (HO.out.kept bd)
    have HP3 := Lib.hid (HPB.out.below bd)
    have B2 := Lib.hid (BB.out.trans (bd.mono (show B ≤ w2.heap.size from Nat.le_trans hlow (Nat.le_of_lt HPB.out.lt))))
    have hbq : Below w2.drew.heap.size w2.drew (w2.drew.alloc (.cells #[.int .i64 6, .string ⟨#[10]⟩, .int .i64 (i : Int)] 39)) := (Below.refl _ _).alloc (Nat.le_refl _) _
    have hbase : B ≤ (w2.drew.alloc (.cells #[.int .i64 6, .string ⟨#[10]⟩, .int .i64 (i : Int)] 39)).heap.size := Nat.le_trans (Nat.le_trans hlow (Nat.le_of_lt HP3.out.lt)) hbq.size
    clear c1 c2
    have hcc := cell3 (HP3.out.below hbq)
    have c1 := hcc.2.1
    have c2 := hcc.2.2
    clear hcc
    refine GoG.one (i := 10) rfl (by kernel_rfl) (fun K hK => ?_)
    go_simp
    refine hK.out _ _ (Keeps.cons (by first | assumption | exact c1) (Keeps.cons (by first | assumption | exact c2) Keeps.nil)) ?_
    clear hK K c1 c2 hbq bd
    refine GoG.append (i := 11) rfl (by kernel_rfl) rfl _ _ 22 rfl B 39 i0 (.agg #[.int .i64 0, .string ⟨#[]⟩, .int .i64 0]) 3 32 Try.underlying22 hi0 hz0 hz1 hz2 rfl (by decide) v l.length (tkC l) rfl (World.ownsRow.alloc HO2.out _) ⟨w2.drew.heap.size, 0, none⟩ 1 1 [.int .i64 6, .string ⟨#[10]⟩, .int .i64 (i : Int)] rfl rfl (cell_new3 _ _ _ _ _) (by simp [Value.oneCell']) (by unfold maxLen; omega) (by omega) hbase (fun v2 wn hown1 hgrow hob => ?_)
    have hpq := push_B (t := nlT i) rfl hlow HO2.out B2.out HP3.out HV.out hown1 hgrow hob
    have q1 := hpq.1
    have q2 := hpq.2.1
    have q3 := hpq.2.2.1
    have q4 := hpq.2.2.2
    clear hpq
    obtain ⟨ao2, cap2, hv2, -⟩ := own_row q1
    rw [List.length_append, List.length_singleton, hm] at hv2
    subst hv2
    have hcc := cell3 q3
    have c1 := hcc.2.1
    have c2 := hcc.2.2
    clear hcc
    have HQ := Lib.hid (PS.stored q3 q1 q4 hlow)
    have HQB := Lib.hid (q2.setCell hlow (p := ⟨pb, 2, none⟩) (.slice ao2 (m + 1 + 1) cap2))
    have fr2 := q3.free 2
    clear hown1 hgrow hob q1 q2 q3 q4 HO2 HP3
    refine ⟨Keeps.cons c1 (Keeps.cons c2 Keeps.nil), ?_⟩
    refine GoG.take (i := 12) (v := ?_) [] rfl (by kernel_rfl) (by kernel_rfl) (by kernel_rfl) (by kernel_rfl) (by kernel_rfl) (by kernel_rfl) (fun _ _ _ h => h) (yields_free (by rfl) (fun w => ?_)) ?_
    rotate_left
    · go_simp; try (with_reducible rfl)
    try simp only [Act.put, List.setIfInBounds_toArray, List.set_cons_zero, List.set_cons_succ]
    refine GoG.take (i := 13) (v := ?_) [] rfl (by kernel_rfl) (by kernel_rfl) (by kernel_rfl) (by kernel_rfl) (by kernel_rfl) (by kernel_rfl) (fun _ _ _ h => h) (yields_free (by rfl) (fun w => ?_)) ?_
    rotate_left
    · go_simp; try (with_reducible rfl)
    try simp only [Act.put, List.setIfInBounds_toArray, List.set_cons_zero, List.set_cons_succ]
    refine GoG.one (i := 14) rfl (by kernel_rfl) (fun K hK => ?_)
    go_simp
    refine hK.out _ _ (Keeps.up (by rfl) (Keeps.up (by rfl) (Keeps.nil))) ?_
    clear hK K c1 c2 fr2
    refine GoG.done (by kernel_rfl) ?_ _
    go_wp2_with fail
    go_end0
    exact ⟨rfl, by rw [lineT_yes HT.out]; exact HQ.out, HQB.out⟩
  · subst hk
    have HE2 := HE.out
    simp only [if_true, if_false, show ¬ ((7 : Int) = 6) by decide] at HE2
    clear HE
    by_cases t0 : (tx.toList == [41]) = true
    · have HT := Lib.hid (show endsT l = true by rw [HE2, t0] <;> simp)
      clear HE2
      go_wp2_with fail
      clear z0 z1 z2
      obtain ⟨v, h1, h2, h3⟩ := HP2.out.ex
      have HPB := Lib.hid h1
      have HO := Lib.hid h2
      have HV := Lib.hid h3
      have c1 := h1.cell 1
      have c2 := h1.cell 2
      simp only [List.getElem?_toArray, List.getElem?_cons_zero, List.getElem?_cons_succ] at c1 c2
      clear h1 h2 h3
      refine GoG.start [(14, ⟨pb, 1, none⟩, .int .i64 (i : Int)), (14, ⟨pb, 2, none⟩, v)] (by kernel_rfl) ?_ ?_
      · exact Keeps.cons (by first | assumption | simp [*]) (Keeps.cons (by first | assumption | simp [*]) (Keeps.nil))
      refine GoG.take (i := 0) (v := ?_) [] rfl (by kernel_rfl) (by kernel_rfl) (by kernel_rfl) (by kernel_rfl) (by kernel_rfl) (by kernel_rfl) (fun _ _ _ h => h) (yields_free (by rfl) (fun w => ?_)) ?_
      rotate_left
      · go_simp; try (with_reducible rfl)
      try simp only [Act.put, List.setIfInBounds_toArray, List.set_cons_zero, List.set_cons_succ]
      refine GoG.take (i := 1) (v := ?_) [] rfl (by kernel_rfl) (by kernel_rfl) (by kernel_rfl) (by kernel_rfl) (by kernel_rfl) (by kernel_rfl) (fun _ _ _ h => h) (yields_free (by rfl) (fun w => ?_)) ?_
      rotate_left
      · go_simp; try (with_reducible rfl)
      try simp only [Act.put, List.setIfInBounds_toArray, List.set_cons_zero, List.set_cons_succ]
      refine GoG.take (i := 2) (v := ?_) [] rfl (by kernel_rfl) (by kernel_rfl) (by kernel_rfl) (by kernel_rfl) (by kernel_rfl) (by kernel_rfl) (fun _ _ _ h => h) (yields_free (by rfl) (fun w => ?_)) ?_
      rotate_left
      · go_simp; try (with_reducible rfl)
      try simp only [Act.put, List.setIfInBounds_toArray, List.set_cons_zero, List.set_cons_succ]
      refine GoG.take (i := 3) (v := ?_) [] rfl (by kernel_rfl) (by kernel_rfl) (by kernel_rfl) (by kernel_rfl) (by kernel_rfl) (by kernel_rfl) (fun _ _ _ h => h) (yields_free (by rfl) (fun w => ?_)) ?_
      rotate_left
      · go_simp; try (with_reducible rfl)
      try simp only [Act.put, List.setIfInBounds_toArray, List.set_cons_zero, List.set_cons_succ]
      refine GoG.take (i := 4) (v := ?_) [14] rfl (by kernel_rfl) (by kernel_rfl) (by kernel_rfl) (by kernel_rfl) (by kernel_rfl) (by kernel_rfl) (fun _ _ _ h => h) (yields_load 14 ⟨pb, 2, none⟩ (v) (by simp) (by decide) (by rfl) (fun w hw => ?_)) ?_
      rotate_left
      · go_simp; try (with_reducible rfl)
      try simp only [Act.put, List.setIfInBounds_toArray, List.set_cons_zero, List.set_cons_succ]
      refine GoG.take (i := 5) (v := ?_) [] rfl (by kernel_rfl) (by kernel_rfl) (by kernel_rfl) (by kernel_rfl) (by kernel_rfl) (by kernel_rfl) (fun _ _ _ h => h) (yields_free (by rfl) (fun w => ?_)) ?_
      rotate_left
      · go_simp; try (with_reducible rfl)
      try simp only [Act.put, List.setIfInBounds_toArray, List.set_cons_zero, List.set_cons_succ]
      refine GoG.take (i := 6) (v := ?_) [] rfl (by kernel_rfl) (by kernel_rfl) (by kernel_rfl) (by kernel_rfl) (by kernel_rfl) (by kernel_rfl) (fun _ _ _ h => h) (yields_free (by rfl) (fun w => ?_)) ?_
      rotate_left
      · go_simp; try (with_reducible rfl)
      try simp only [Act.put, List.setIfInBounds_toArray, List.set_cons_zero, List.set_cons_succ]
      refine GoG.take (i := 7) (v := ?_) [] rfl (by kernel_rfl) (by kernel_rfl) (by kernel_rfl) (by kernel_rfl) (by kernel_rfl) (by kernel_rfl) (fun _ _ _ h => h) (yields_free (by rfl) (fun w => ?_)) ?_
      rotate_left
      · go_simp; try (with_reducible rfl)
      try simp only [Act.put, List.setIfInBounds_toArray, List.set_cons_zero, List.set_cons_succ]
      refine GoG.take (i := 8) (v := ?_) [14] rfl (by kernel_rfl) (by kernel_rfl) (by kernel_rfl) (by kernel_rfl) (by kernel_rfl) (by kernel_rfl) (fun _ _ _ h => h) (yields_load 14 ⟨pb, 1, none⟩ (.int .i64 (i : Int)) (by simp) (by decide) (by rfl) (fun w hw => ?_)) ?_
      rotate_left
      · go_simp; try (with_reducible rfl)
      try simp only [Act.put, List.setIfInBounds_toArray, List.set_cons_zero, List.set_cons_succ]
      refine GoG.take (i := 9) (v := ?_) [] rfl (by kernel_rfl) (by kernel_rfl) (by kernel_rfl) (by kernel_rfl) (by kernel_rfl) (by kernel_rfl) (fun _ _ _ h => h) (yields_free (by rfl) (fun w => ?_)) ?_
      rotate_left
      · go_simp; try (with_reducible rfl)
      try simp only [Act.put, List.setIfInBounds_toArray, List.set_cons_zero, List.set_cons_succ]
      have bd : Below w2.heap.size w2 w2.drew := (Below.refl _ _).drew
      have HO2 := Lib.hid (HO.out.kept bd)
      have HP3 := Lib.hid (HPB.out.below bd)
      have B2 := Lib.hid (BB.out.trans (bd.mono (show B ≤ w2.heap.size from Nat.le_trans hlow (Nat.le_of_lt HPB.out.lt))))
      have hbq : Below w2.drew.heap.size w2.drew (w2.drew.alloc (.cells #[.int .i64 6, .string ⟨#[10]⟩, .int .i64 (i : Int)] 39)) := (Below.refl _ _).alloc (Nat.le_refl _) _
      have hbase : B ≤ (w2.drew.alloc (.cells #[.int .i64 6, .string ⟨#[10]⟩, .int .i64 (i : Int)] 39)).heap.size := Nat.le_trans (Nat.le_trans hlow (Nat.le_of_lt HP3.out.lt)) hbq.size
      clear c1 c2
      have hcc := cell3 (HP3.out.below hbq)
      have c1 := hcc.2.1
      have c2 := hcc.2.2
      clear hcc
      refine GoG.one (i := 10) rfl (by kernel_rfl) (fun K hK => ?_)
      go_simp
      refine hK.out _ _ (Keeps.cons (by first | assumption | exact c1) (Keeps.cons (by first | assumption | exact c2) Keeps.nil)) ?_
      clear hK K c1 c2 hbq bd
      refine GoG.append (i := 11) rfl (by kernel_rfl) rfl _ _ 22 rfl B 39 i0 (.agg #[.int .i64 0, .string ⟨#[]⟩, .int .i64 0]) 3 32 Try.underlying22 hi0 hz0 hz1 hz2 rfl (by decide) v l.length (tkC l) rfl (World.ownsRow.alloc HO2.out _) ⟨w2.drew.heap.size, 0, none⟩ 1 1 [.int .i64 6, .string ⟨#[10]⟩, .int .i64 (i : Int)] rfl rfl (cell_new3 _ _ _ _ _) (by simp [Value.oneCell']) (by unfold maxLen; omega) (by omega) hbase (fun v2 wn hown1 hgrow hob => ?_)
      have hpq := push_B (t := nlT i) rfl hlow HO2.out B2.out HP3.out HV.out hown1 hgrow hob
      have q1 := hpq.1
      have q2 := hpq.2.1
      have q3 := hpq.2.2.1
      have q4 := hpq.2.2.2
      clear hpq
      obtain ⟨ao2, cap2, hv2, -⟩ := own_row q1
      rw [List.length_append, List.length_singleton, hm] at hv2
      subst hv2
      have hcc := cell3 q3
      have c1 := hcc.2.1
      have c2 := hcc.2.2
      clear hcc
      have HQ := Lib.hid (PS.stored q3 q1 q4 hlow)
      have HQB := Lib.hid (q2.setCell hlow (p := ⟨pb, 2, none⟩) (.slice ao2 (m + 1 + 1) cap2))
      have fr2 := q3.free 2
      clear hown1 hgrow hob q1 q2 q3 q4 HO2 HP3
      refine ⟨Keeps.cons c1 (Keeps.cons c2 Keeps.nil), ?_⟩
      refine GoG.take (i := 12) (v := ?_) [] rfl (by kernel_rfl) (by kernel_rfl) (by kernel_rfl) (by kernel_rfl) (by kernel_rfl) (by kernel_rfl) (fun _ _ _ h => h) (yields_free (by rfl) (fun w => ?_)) ?_
      rotate_left
      · go_simp; try (with_reducible rfl)
      try simp only [Act.put, List.setIfInBounds_toArray, List.set_cons_zero, List.set_cons_succ]
      refine GoG.take (i := 13) (v := ?_) [] rfl (by kernel_rfl) (by kernel_rfl) (by kernel_rfl) (by kernel_rfl) (by kernel_rfl) (by kernel_rfl) (fun _ _ _ h => h) (yields_free (by rfl) (fun w => ?_)) ?_
      rotate_left
      · go_simp; try (with_reducible rfl)
      try simp only [Act.put, List.setIfInBounds_toArray, List.set_cons_zero, List.set_cons_succ]
      refine GoG.one (i := 14) rfl (by kernel_rfl) (fun K hK => ?_)
      go_simp
      refine hK.out _ _ (Keeps.up (by rfl) (Keeps.up (by rfl) (Keeps.nil))) ?_
      clear hK K c1 c2 fr2
      refine GoG.done (by kernel_rfl) ?_ _
      go_wp2_with fail
      go_end0
      exact ⟨rfl, by rw [lineT_yes HT.out]; exact HQ.out, HQB.out⟩
    have t0 : (tx.toList == [41]) = false := by simpa using t0
    by_cases t1 : (tx.toList == [93]) = true
    · have HT := Lib.hid (show endsT l = true by rw [HE2, t1] <;> simp)
      clear HE2
      go_wp2_with fail
      clear z0 z1 z2
      obtain ⟨v, h1, h2, h3⟩ := HP2.out.ex
      have HPB := Lib.hid h1
      have HO := Lib.hid h2
      have HV := Lib.hid h3
      have c1 := h1.cell 1
      have c2 := h1.cell 2
      simp only [List.getElem?_toArray, List.getElem?_cons_zero, List.getElem?_cons_succ] at c1 c2
      clear h1 h2 h3
      refine GoG.start [(14, ⟨pb, 1, none⟩, .int .i64 (i : Int)), (14, ⟨pb, 2, none⟩, v)] (by kernel_rfl) ?_ ?_
      · exact Keeps.cons (by first | assumption | simp [*]) (Keeps.cons (by first | assumption | simp [*]) (Keeps.nil))
      refine GoG.take (i := 0) (v := ?_) [] rfl (by kernel_rfl) (by kernel_rfl) (by kernel_rfl) (by kernel_rfl) (by kernel_rfl) (by kernel_rfl) (fun _ _ _ h => h) (yields_free (by rfl) (fun w => ?_)) ?_
      rotate_left
      · go_simp; try (with_reducible rfl)
      try simp only [Act.put, List.setIfInBounds_toArray, List.set_cons_zero, List.set_cons_succ]
      refine GoG.take (i := 1) (v := ?_) [] rfl (by kernel_rfl) (by kernel_rfl) (by kernel_rfl) (by kernel_rfl) (by kernel_rfl) (by kernel_rfl) (fun _ _ _ h => h) (yields_free (by rfl) (fun w => ?_)) ?_
      rotate_left
      · go_simp; try (with_reducible rfl)
      try simp only [Act.put, List.setIfInBounds_toArray, List.set_cons_zero, List.set_cons_succ]
      refine GoG.take (i := 2) (v := ?_) [] rfl (by kernel_rfl) (by kernel_rfl) (by kernel_rfl) (by kernel_rfl) (by kernel_rfl) (by kernel_rfl) (fun _ _ _ h => h) (yields_free (by rfl) (fun w => ?_)) ?_
      rotate_left
      · go_simp; try (with_reducible rfl)
      try simp only [Act.put, List.setIfInBounds_toArray, List.set_cons_zero, List.set_cons_succ]
      refine GoG.take (i := 3) (v := ?_) [] rfl (by kernel_rfl) (by kernel_rfl) (by kernel_rfl) (by kernel_rfl) (by kernel_rfl) (by kernel_rfl) (fun _ _ _ h => h) (yields_free (by rfl) (fun w => ?_)) ?_
      rotate_left
      · go_simp; try (with_reducible rfl)
      try simp only [Act.put, List.setIfInBounds_toArray, List.set_cons_zero, List.set_cons_succ]
      refine GoG.take (i := 4) (v := ?_) [14] rfl (by kernel_rfl) (by kernel_rfl) (by kernel_rfl) (by kernel_rfl) (by kernel_rfl) (by kernel_rfl) (fun _ _ _ h => h) (yields_load 14 ⟨pb, 2, none⟩ (v) (by simp) (by decide) (by rfl) (fun w hw => ?_)) ?_
      rotate_left
      · go_simp; try (with_reducible rfl)
      try simp only [Act.put, List.setIfInBounds_toArray, List.set_cons_zero, List.set_cons_succ]
      refine GoG.take (i := 5) (v := ?_) [] rfl (by kernel_rfl) (by kernel_rfl) (by kernel_rfl) (by kernel_rfl) (by kernel_rfl) (by kernel_rfl) (fun _ _ _ h => h) (yields_free (by rfl) (fun w => ?_)) ?_
      rotate_left
      · go_simp; try (with_reducible rfl)
      try simp only [Act.put, List.setIfInBounds_toArray, List.set_cons_zero, List.set_cons_succ]
      refine GoG.take (i := 6) (v := ?_) [] rfl (by kernel_rfl) (by kernel_rfl) (by kernel_rfl) (by kernel_rfl) (by kernel_rfl) (by kernel_rfl) (fun _ _ _ h => h) (yields_free (by rfl) (fun w => ?_)) ?_
      rotate_left
      · go_simp; try (with_reducible rfl)
      try simp only [Act.put, List.setIfInBounds_toArray, List.set_cons_zero, List.set_cons_succ]
      refine GoG.take (i := 7) (v := ?_) [] rfl (by kernel_rfl) (by kernel_rfl) (by kernel_rfl) (by kernel_rfl) (by kernel_rfl) (by kernel_rfl) (fun _ _ _ h => h) (yields_free (by rfl) (fun w => ?_)) ?_
      rotate_left
      · go_simp; try (with_reducible rfl)
      try simp only [Act.put, List.setIfInBounds_toArray, List.set_cons_zero, List.set_cons_succ]
      refine GoG.take (i := 8) (v := ?_) [14] rfl (by kernel_rfl) (by kernel_rfl) (by kernel_rfl) (by kernel_rfl) (by kernel_rfl) (by kernel_rfl) (fun _ _ _ h => h) (yields_load 14 ⟨pb, 1, none⟩ (.int .i64 (i : Int)) (by simp) (by decide) (by rfl) (fun w hw => ?_)) ?_
      rotate_left
      · go_simp; try (with_reducible rfl)
      try simp only [Act.put, List.setIfInBounds_toArray, List.set_cons_zero, List.set_cons_succ]
      refine GoG.take (i := 9) (v := ?_) [] rfl (by kernel_rfl) (by kernel_rfl) (by kernel_rfl) (by kernel_rfl) (by kernel_rfl) (by kernel_rfl) (fun _ _ _ h => h) (yields_free (by rfl) (fun w => ?_)) ?_
      rotate_left
      · go_simp; try (with_reducible rfl)
      try simp only [Act.put, List.setIfInBounds_toArray, List.set_cons_zero, List.set_cons_succ]
      have bd : Below w2.heap.size w2 w2.drew := (Below.refl _ _).drew
      have HO2 := Lib.hid (HO.out.kept bd)
      have HP3 := Lib.hid (HPB.out.below bd)
      have B2 := Lib.hid (BB.out.trans (bd.mono (show B ≤ w2.heap.size from Nat.le_trans hlow (Nat.le_of_lt HPB.out.lt))))
      have hbq : Below w2.drew.heap.size w2.drew (w2.drew.alloc (.cells #[.int .i64 6, .string ⟨#[10]⟩, .int .i64 (i : Int)] 39)) := (Below.refl _ _).alloc (Nat.le_refl _) _
      have hbase : B ≤ (w2.drew.alloc (.cells #[.int .i64 6, .string ⟨#[10]⟩, .int .i64 (i : Int)] 39)).heap.size := Nat.le_trans (Nat.le_trans hlow (Nat.le_of_lt HP3.out.lt)) hbq.size
      clear c1 c2
      have hcc := cell3 (HP3.out.below hbq)
      have c1 := hcc.2.1
      have c2 := hcc.2.2
      clear hcc
      refine GoG.one (i := 10) rfl (by kernel_rfl) (fun K hK => ?_)
      go_simp
      refine hK.out _ _ (Keeps.cons (by first | assumption | exact c1) (Keeps.cons (by first | assumption | exact c2) Keeps.nil)) ?_
      clear hK K c1 c2 hbq bd
      refine GoG.append (i := 11) rfl (by kernel_rfl) rfl _ _ 22 rfl B 39 i0 (.agg #[.int .i64 0, .string ⟨#[]⟩, .int .i64 0]) 3 32 Try.underlying22 hi0 hz0 hz1 hz2 rfl (by decide) v l.length (tkC l) rfl (World.ownsRow.alloc HO2.out _) ⟨w2.drew.heap.size, 0, none⟩ 1 1 [.int .i64 6, .string ⟨#[10]⟩, .int .i64 (i : Int)] rfl rfl (cell_new3 _ _ _ _ _) (by simp [Value.oneCell']) (by unfold maxLen; omega) (by omega) hbase (fun v2 wn hown1 hgrow hob => ?_)
      have hpq := push_B (t := nlT i) rfl hlow HO2.out B2.out HP3.out HV.out hown1 hgrow hob
      have q1 := hpq.1
      have q2 := hpq.2.1
      have q3 := hpq.2.2.1
      have q4 := hpq.2.2.2
      clear hpq
      obtain ⟨ao2, cap2, hv2, -⟩ := own_row q1
      rw [List.length_append, List.length_singleton, hm] at hv2
      subst hv2
      have hcc := cell3 q3
      have c1 := hcc.2.1
      have c2 := hcc.2.2
      clear hcc
      have HQ := Lib.hid (PS.stored q3 q1 q4 hlow)
      have HQB := Lib.hid (q2.setCell hlow (p := ⟨pb, 2, none⟩) (.slice ao2 (m + 1 + 1) cap2))
      have fr2 := q3.free 2
      clear hown1 hgrow hob q1 q2 q3 q4 HO2 HP3
      refine ⟨Keeps.cons c1 (Keeps.cons c2 Keeps.nil), ?_⟩
      refine GoG.take (i := 12) (v := ?_) [] rfl (by kernel_rfl) (by kernel_rfl) (by kernel_rfl) (by kernel_rfl) (by kernel_rfl) (by kernel_rfl) (fun _ _ _ h => h) (yields_free (by rfl) (fun w => ?_)) ?_
      rotate_left
      · go_simp; try (with_reducible rfl)
      try simp only [Act.put, List.setIfInBounds_toArray, List.set_cons_zero, List.set_cons_succ]
      refine GoG.take (i := 13) (v := ?_) [] rfl (by kernel_rfl) (by kernel_rfl) (by kernel_rfl) (by kernel_rfl) (by kernel_rfl) (by kernel_rfl) (fun _ _ _ h => h) (yields_free (by rfl) (fun w => ?_)) ?_
      rotate_left
      · go_simp; try (with_reducible rfl)
      try simp only [Act.put, List.setIfInBounds_toArray, List.set_cons_zero, List.set_cons_succ]
      refine GoG.one (i := 14) rfl (by kernel_rfl) (fun K hK => ?_)
      go_simp
      refine hK.out _ _ (Keeps.up (by rfl) (Keeps.up (by rfl) (Keeps.nil))) ?_
      clear hK K c1 c2 fr2
      refine GoG.done (by kernel_rfl) ?_ _
      go_wp2_with fail
      go_end0
      exact ⟨rfl, by rw [lineT_yes HT.out]; exact HQ.out, HQB.out⟩
    have t1 : (tx.toList == [93]) = false := by simpa using t1
    by_cases t2 : (tx.toList == [125]) = true
    · have HT := Lib.hid (show endsT l = true by rw [HE2, t2] <;> simp)
      clear HE2
      go_wp2_with fail
      clear z0 z1 z2
      obtain ⟨v, h1, h2, h3⟩ := HP2.out.ex
      have HPB := Lib.hid h1
      have HO := Lib.hid h2
      have HV := Lib.hid h3
      have c1 := h1.cell 1
      have c2 := h1.cell 2
      simp only [List.getElem?_toArray, List.getElem?_cons_zero, List.getElem?_cons_succ] at c1 c2
      clear h1 h2 h3
      refine GoG.start [(14, ⟨pb, 1, none⟩, .int .i64 (i : Int)), (14, ⟨pb, 2, none⟩, v)] (by kernel_rfl) ?_ ?_
      · exact Keeps.cons (by first | assumption | simp [*]) (Keeps.cons (by first | assumption | simp [*]) (Keeps.nil))
      refine GoG.take (i := 0) (v := ?_) [] rfl (by kernel_rfl) (by kernel_rfl) (by kernel_rfl) (by kernel_rfl) (by kernel_rfl) (by kernel_rfl) (fun _ _ _ h => h) (yields_free (by rfl) (fun w => ?_)) ?_
      rotate_left
      · go_simp; try (with_reducible rfl)
      try simp only [Act.put, List.setIfInBounds_toArray, List.set_cons_zero, List.set_cons_succ]
      refine GoG.take (i := 1) (v := ?_) [] rfl (by kernel_rfl) (by kernel_rfl) (by kernel_rfl) (by kernel_rfl) (by kernel_rfl) (by kernel_rfl) (fun _ _ _ h => h) (yields_free (by rfl) (fun w => ?_)) ?_
      rotate_left
      · go_simp; try (with_reducible rfl)
      try simp only [Act.put, List.setIfInBounds_toArray, List.set_cons_zero, List.set_cons_succ]
      refine GoG.take (i := 2) (v := ?_) [] rfl (by kernel_rfl) (by kernel_rfl) (by kernel_rfl) (by kernel_rfl) (by kernel_rfl) (by kernel_rfl) (fun _ _ _ h => h) (yields_free (by rfl) (fun w => ?_)) ?_
      rotate_left
      · go_simp; try (with_reducible rfl)
      try simp only [Act.put, List.setIfInBounds_toArray, List.set_cons_zero, List.set_cons_succ]
      refine GoG.take (i := 3) (v := ?_) [] rfl (by kernel_rfl) (by kernel_rfl) (by kernel_rfl) (by kernel_rfl) (by kernel_rfl) (by kernel_rfl) (fun _ _ _ h => h) (yields_free (by rfl) (fun w => ?_)) ?_
      rotate_left
      · go_simp; try (with_reducible rfl)
      try simp only [Act.put, List.setIfInBounds_toArray, List.set_cons_zero, List.set_cons_succ]
      refine GoG.take (i := 4) (v := ?_) [14] rfl (by kernel_rfl) (by kernel_rfl) (by kernel_rfl) (by kernel_rfl) (by kernel_rfl) (by kernel_rfl) (fun _ _ _ h => h) (yields_load 14 ⟨pb, 2, none⟩ (v) (by simp) (by decide) (by rfl) (fun w hw => ?_)) ?_
      rotate_left
      · go_simp; try (with_reducible rfl)
      try simp only [Act.put, List.setIfInBounds_toArray, List.set_cons_zero, List.set_cons_succ]
      refine GoG.take (i := 5) (v := ?_) [] rfl (by kernel_rfl) (by kernel_rfl) (by kernel_rfl) (by kernel_rfl) (by kernel_rfl) (by kernel_rfl) (fun _ _ _ h => h) (yields_free (by rfl) (fun w => ?_)) ?_
      rotate_left
      · go_simp; try (with_reducible rfl)
      try simp only [Act.put, List.setIfInBounds_toArray, List.set_cons_zero, List.set_cons_succ]
      refine GoG.take (i := 6) (v := ?_) [] rfl (by kernel_rfl) (by kernel_rfl) (by kernel_rfl) (by kernel_rfl) (by kernel_rfl) (by kernel_rfl) (fun _ _ _ h => h) (yields_free (by rfl) (fun w => ?_)) ?_
      rotate_left
      · go_simp; try (with_reducible rfl)
      try simp only [Act.put, List.setIfInBounds_toArray, List.set_cons_zero, List.set_cons_succ]
      refine GoG.take (i := 7) (v := ?_) [] rfl (by kernel_rfl) (by kernel_rfl) (by kernel_rfl) (by kernel_rfl) (by kernel_rfl) (by kernel_rfl) (fun _ _ _ h => h) (yields_free (by rfl) (fun w => ?_)) ?_
      rotate_left
      · go_simp; try (with_reducible rfl)
      try simp only [Act.put, List.setIfInBounds_toArray, List.set_cons_zero, List.set_cons_succ]
      refine GoG.take (i := 8) (v := ?_) [14] rfl (by kernel_rfl) (by kernel_rfl) (by kernel_rfl) (by kernel_rfl) (by kernel_rfl) (by kernel_rfl) (fun _ _ _ h => h) (yields_load 14 ⟨pb, 1, none⟩ (.int .i64 (i : Int)) (by simp) (by decide) (by rfl) (fun w hw => ?_)) ?_
      rotate_left
      · go_simp; try (with_reducible rfl)
      try simp only [Act.put, List.setIfInBounds_toArray, List.set_cons_zero, List.set_cons_succ]
      refine GoG.take (i := 9) (v := ?_) [] rfl (by kernel_rfl) (by kernel_rfl) (by kernel_rfl) (by kernel_rfl) (by kernel_rfl) (by kernel_rfl) (fun _ _ _ h => h) (yields_free (by rfl) (fun w => ?_)) ?_
      rotate_left
      · go_simp; try (with_reducible rfl)
      try simp only [Act.put, List.setIfInBounds_toArray, List.set_cons_zero, List.set_cons_succ]
      have bd : Below w2.heap.size w2 w2.drew := (Below.refl _ _).drew
      have HO2 := Lib.hid (HO.out.kept bd)
      have HP3 := Lib.hid (HPB.out.below bd)
      have B2 := Lib.hid (BB.out.trans (bd.mono (show B ≤ w2.heap.size from Nat.le_trans hlow (Nat.le_of_lt HPB.out.lt))))
      have hbq : Below w2.drew.heap.size w2.drew (w2.drew.alloc (.cells #[.int .i64 6, .string ⟨#[10]⟩, .int .i64 (i : Int)] 39)) := (Below.refl _ _).alloc (Nat.le_refl _) _
      have hbase : B ≤ (w2.drew.alloc (.cells #[.int .i64 6, .string ⟨#[10]⟩, .int .i64 (i : Int)] 39)).heap.size := Nat.le_trans (Nat.le_trans hlow (Nat.le_of_lt HP3.out.lt)) hbq.size
      clear c1 c2
      have hcc := cell3 (HP3.out.below hbq)
      have c1 := hcc.2.1
      have c2 := hcc.2.2
      clear hcc
      refine GoG.one (i := 10) rfl (by kernel_rfl) (fun K hK => ?_)
      go_simp
      refine hK.out _ _ (Keeps.cons (by first | assumption | exact c1) (Keeps.cons (by first | assumption | exact c2) Keeps.nil)) ?_
      clear hK K c1 c2 hbq bd
      refine GoG.append (i := 11) rfl (by kernel_rfl) rfl _ _ 22 rfl B 39 i0 (.agg #[.int .i64 0, .string ⟨#[]⟩, .int .i64 0]) 3 32 Try.underlying22 hi0 hz0 hz1 hz2 rfl (by decide) v l.length (tkC l) rfl (World.ownsRow.alloc HO2.out _) ⟨w2.drew.heap.size, 0, none⟩ 1 1 [.int .i64 6, .string ⟨#[10]⟩, .int .i64 (i : Int)] rfl rfl (cell_new3 _ _ _ _ _) (by simp [Value.oneCell']) (by unfold maxLen; omega) (by omega) hbase (fun v2 wn hown1 hgrow hob => ?_)
      have hpq := push_B (t := nlT i) rfl hlow HO2.out B2.out HP3.out HV.out hown1 hgrow hob
      have q1 := hpq.1
      have q2 := hpq.2.1
      have q3 := hpq.2.2.1
      have q4 := hpq.2.2.2
      clear hpq
      obtain ⟨ao2, cap2, hv2, -⟩ := own_row q1
      rw [List.length_append, List.length_singleton, hm] at hv2
      subst hv2
      have hcc := cell3 q3
      have c1 := hcc.2.1
      have c2 := hcc.2.2
      clear hcc
      have HQ := Lib.hid (PS.stored q3 q1 q4 hlow)
      have HQB := Lib.hid (q2.setCell hlow (p := ⟨pb, 2, none⟩) (.slice ao2 (m + 1 + 1) cap2))
      have fr2 := q3.free 2
      clear hown1 hgrow hob q1 q2 q3 q4 HO2 HP3
      refine ⟨Keeps.cons c1 (Keeps.cons c2 Keeps.nil), ?_⟩
      refine GoG.take (i := 12) (v := ?_) [] rfl (by kernel_rfl) (by kernel_rfl) (by kernel_rfl) (by kernel_rfl) (by kernel_rfl) (by kernel_rfl) (fun _ _ _ h => h) (yields_free (by rfl) (fun w => ?_)) ?_
      rotate_left
      · go_simp; try (with_reducible rfl)
      try simp only [Act.put, List.setIfInBounds_toArray, List.set_cons_zero, List.set_cons_succ]
      refine GoG.take (i := 13) (v := ?_) [] rfl (by kernel_rfl) (by kernel_rfl) (by kernel_rfl) (by kernel_rfl) (by kernel_rfl) (by kernel_rfl) (fun _ _ _ h => h) (yields_free (by rfl) (fun w => ?_)) ?_
      rotate_left
      · go_simp; try (with_reducible rfl)
      try simp only [Act.put, List.setIfInBounds_toArray, List.set_cons_zero, List.set_cons_succ]
      refine GoG.one (i := 14) rfl (by kernel_rfl) (fun K hK => ?_)
      go_simp
      refine hK.out _ _ (Keeps.up (by rfl) (Keeps.up (by rfl) (Keeps.nil))) ?_
      clear hK K c1 c2 fr2
      refine GoG.done (by kernel_rfl) ?_ _
      go_wp2_with fail
      go_end0
      exact ⟨rfl, by rw [lineT_yes HT.out]; exact HQ.out, HQB.out⟩
    have t2 : (tx.toList == [125]) = false := by simpa using t2
    have HT := Lib.hid (show endsT l = false by rw [HE2, t0, t1, t2] <;> rfl)
    clear HE2
    go_wp2_with fail
    go_end0
    exact ⟨rfl, by rw [lineT_not HT.out]; exact HP2.out, BB.out⟩
  · subst hk
    have HE2 := HE.out
    simp only [if_true, if_false, show ¬ ((7 : Int) = 6) by decide] at HE2
    clear HE
    by_cases t0 : (tx.toList == [114, 101, 116, 117, 114, 110]) = true
    · have HT := Lib.hid (show endsT l = true by rw [HE2, t0] <;> simp)
      clear HE2
      go_wp2_with fail
      clear z0 z1 z2
      obtain ⟨v, h1, h2, h3⟩ := HP2.out.ex
      have HPB := Lib.hid h1
      have HO := Lib.hid h2
      have HV := Lib.hid h3
      have c1 := h1.cell 1
      have c2 := h1.cell 2
      simp only [List.getElem?_toArray, List.getElem?_cons_zero, List.getElem?_cons_succ] at c1 c2
      clear h1 h2 h3
      refine GoG.start [(14, ⟨pb, 1, none⟩, .int .i64 (i : Int)), (14, ⟨pb, 2, none⟩, v)] (by kernel_rfl) ?_ ?_
      · exact Keeps.cons (by first | assumption | simp [*]) (Keeps.cons (by first | assumption | simp [*]) (Keeps.nil))
      refine GoG.take (i := 0) (v := ?_) [] rfl (by kernel_rfl) (by kernel_rfl) (by kernel_rfl) (by kernel_rfl) (by kernel_rfl) (by kernel_rfl) (fun _ _ _ h => h) (yields_free (by rfl) (fun w => ?_)) ?_
      rotate_left
      · go_simp; try (with_reducible rfl)
      try simp only [Act.put, List.setIfInBounds_toArray, List.set_cons_zero, List.set_cons_succ]
      refine GoG.take (i := 1) (v := ?_) [] rfl (by kernel_rfl) (by kernel_rfl) (by kernel_rfl) (by kernel_rfl) (by kernel_rfl) (by kernel_rfl) (fun _ _ _ h => h) (yields_free (by rfl) (fun w => ?_)) ?_
      rotate_left
      · go_simp; try (with_reducible rfl)
      try simp only [Act.put, List.setIfInBounds_toArray, List.set_cons_zero, List.set_cons_succ]
      refine GoG.take (i := 2) (v := ?_) [] rfl (by kernel_rfl) (by kernel_rfl) (by kernel_rfl) (by kernel_rfl) (by kernel_rfl) (by kernel_rfl) (fun _ _ _ h => h) (yields_free (by rfl) (fun w => ?_)) ?_
      rotate_left
      · go_simp; try (with_reducible rfl)
      try simp only [Act.put, List.setIfInBounds_toArray, List.set_cons_zero, List.set_cons_succ]
      refine GoG.take (i := 3) (v := ?_) [] rfl (by kernel_rfl) (by kernel_rfl) (by kernel_rfl) (by kernel_rfl) (by kernel_rfl) (by kernel_rfl) (fun _ _ _ h => h) (yields_free (by rfl) (fun w => ?_)) ?_
      rotate_left
      · go_simp; try (with_reducible rfl)
      try simp only [Act.put, List.setIfInBounds_toArray, List.set_cons_zero, List.set_cons_succ]
      refine GoG.take (i := 4) (v := ?_) [14] rfl (by kernel_rfl) (by kernel_rfl) (by kernel_rfl) (by kernel_rfl) (by kernel_rfl) (by kernel_rfl) (fun _ _ _ h => h) (yields_load 14 ⟨pb, 2, none⟩ (v) (by simp) (by decide) (by rfl) (fun w hw => ?_)) ?_
      rotate_left
      · go_simp; try (with_reducible rfl)
      try simp only [Act.put, List.setIfInBounds_toArray, List.set_cons_zero, List.set_cons_succ]
      refine GoG.take (i := 5) (v := ?_) [] rfl (by kernel_rfl) (by kernel_rfl) (by kernel_rfl) (by kernel_rfl) (by kernel_rfl) (by kernel_rfl) (fun _ _ _ h => h) (yields_free (by rfl) (fun w => ?_)) ?_
      rotate_left
      · go_simp; try (with_reducible rfl)
      try simp only [Act.put, List.setIfInBounds_toArray, List.set_cons_zero, List.set_cons_succ]
      refine GoG.take (i := 6) (v := ?_) [] rfl (by kernel_rfl) (by kernel_rfl) (by kernel_rfl) (by kernel_rfl) (by kernel_rfl) (by kernel_rfl) (fun _ _ _ h => h) (yields_free (by rfl) (fun w => ?_)) ?_
      rotate_left
      · go_simp; try (with_reducible rfl)
      try simp only [Act.put, List.setIfInBounds_toArray, List.set_cons_zero, List.set_cons_succ]
      refine GoG.take (i := 7) (v := ?_) [] rfl (by kernel_rfl) (by kernel_rfl) (by kernel_rfl) (by kernel_rfl) (by kernel_rfl) (by kernel_rfl) (fun _ _ _ h => h) (yields_free (by rfl) (fun w => ?_)) ?_
      rotate_left
      · go_simp; try (with_reducible rfl)
      try simp only [Act.put, List.setIfInBounds_toArray, List.set_cons_zero, List.set_cons_succ]
      refine GoG.take (i := 8) (v := ?_) [14] rfl (by kernel_rfl) (by kernel_rfl) (by kernel_rfl) (by kernel_rfl) (by kernel_rfl) (by kernel_rfl) (fun _ _ _ h => h) (yields_load 14 ⟨pb, 1, none⟩ (.int .i64 (i : Int)) (by simp) (by decide) (by rfl) (fun w hw => ?_)) ?_
      rotate_left
      · go_simp; try (with_reducible rfl)
      try simp only [Act.put, List.setIfInBounds_toArray, List.set_cons_zero, List.set_cons_succ]
      refine GoG.take (i := 9) (v := ?_) [] rfl (by kernel_rfl) (by kernel_rfl) (by kernel_rfl) (by kernel_rfl) (by kernel_rfl) (by kernel_rfl) (fun _ _ _ h => h) (yields_free (by rfl) (fun w => ?_)) ?_
      rotate_left
      · go_simp; try (with_reducible rfl)
      try simp only [Act.put, List.setIfInBounds_toArray, List.set_cons_zero, List.set_cons_succ]
      have bd : Below w2.heap.size w2 w2.drew := (Below.refl _ _).drew
      have HO2 := Lib.hid (HO.out.kept bd)
      have HP3 := Lib.hid (HPB.out.below bd)
      have B2 := Lib.hid (BB.out.trans (bd.mono (show B ≤ w2.heap.size from Nat.le_trans hlow (Nat.le_of_lt HPB.out.lt))))
      have hbq : Below w2.drew.heap.size w2.drew (w2.drew.alloc (.cells #[.int .i64 6, .string ⟨#[10]⟩, .int .i64 (i : Int)] 39)) := (Below.refl _ _).alloc (Nat.le_refl _) _
      have hbase : B ≤ (w2.drew.alloc (.cells #[.int .i64 6, .string ⟨#[10]⟩, .int .i64 (i : Int)] 39)).heap.size := Nat.le_trans (Nat.le_trans hlow (Nat.le_of_lt HP3.out.lt)) hbq.size
      clear c1 c2
      have hcc := cell3 (HP3.out.below hbq)
      have c1 := hcc.2.1
      have c2 := hcc.2.2
      clear hcc
      refine GoG.one (i := 10) rfl (by kernel_rfl) (fun K hK => ?_)
      go_simp
      refine hK.out _ _ (Keeps.cons (by first | assumption | exact c1) (Keeps.cons (by first | assumption | exact c2) Keeps.nil)) ?_
      clear hK K c1 c2 hbq bd
      refine GoG.append (i := 11) rfl (by kernel_rfl) rfl _ _ 22 rfl B 39 i0 (.agg #[.int .i64 0, .string ⟨#[]⟩, .int .i64 0]) 3 32 Try.underlying22 hi0 hz0 hz1 hz2 rfl (by decide) v l.length (tkC l) rfl (World.ownsRow.alloc HO2.out _) ⟨w2.drew.heap.size, 0, none⟩ 1 1 [.int .i64 6, .string ⟨#[10]⟩, .int .i64 (i : Int)] rfl rfl (cell_new3 _ _ _ _ _) (by simp [Value.oneCell']) (by unfold maxLen; omega) (by omega) hbase (fun v2 wn hown1 hgrow hob => ?_)
      have hpq := push_B (t := nlT i) rfl hlow HO2.out B2.out HP3.out HV.out hown1 hgrow hob
      have q1 := hpq.1
      have q2 := hpq.2.1
      have q3 := hpq.2.2.1
      have q4 := hpq.2.2.2
      clear hpq
      obtain ⟨ao2, cap2, hv2, -⟩ := own_row q1
      rw [List.length_append, List.length_singleton, hm] at hv2
      subst hv2
      have hcc := cell3 q3
      have c1 := hcc.2.1
      have c2 := hcc.2.2
      clear hcc
      have HQ := Lib.hid (PS.stored q3 q1 q4 hlow)
      have HQB := Lib.hid (q2.setCell hlow (p := ⟨pb, 2, none⟩) (.slice ao2 (m + 1 + 1) cap2))
      have fr2 := q3.free 2
      clear hown1 hgrow hob q1 q2 q3 q4 HO2 HP3
      refine ⟨Keeps.cons c1 (Keeps.cons c2 Keeps.nil), ?_⟩
      refine GoG.take (i := 12) (v := ?_) [] rfl (by kernel_rfl) (by kernel_rfl) (by kernel_rfl) (by kernel_rfl) (by kernel_rfl) (by kernel_rfl) (fun _ _ _ h => h) (yields_free (by rfl) (fun w => ?_)) ?_
      rotate_left
      · go_simp; try (with_reducible rfl)
      try simp only [Act.put, List.setIfInBounds_toArray, List.set_cons_zero, List.set_cons_succ]
      refine GoG.take (i := 13) (v := ?_) [] rfl (by kernel_rfl) (by kernel_rfl) (by kernel_rfl) (by kernel_rfl) (by kernel_rfl) (by kernel_rfl) (fun _ _ _ h => h) (yields_free (by rfl) (fun w => ?_)) ?_
      rotate_left
      · go_simp; try (with_reducible rfl)
      try simp only [Act.put, List.setIfInBounds_toArray, List.set_cons_zero, List.set_cons_succ]
      refine GoG.one (i := 14) rfl (by kernel_rfl) (fun K hK => ?_)
      go_simp
      refine hK.out _ _ (Keeps.up (by rfl) (Keeps.up (by rfl) (Keeps.nil))) ?_
      clear hK K c1 c2 fr2
      refine GoG.done (by kernel_rfl) ?_ _
      go_wp2_with fail
      go_end0
      exact ⟨rfl, by rw [lineT_yes HT.out]; exact HQ.out, HQB.out⟩
    have t0 : (tx.toList == [114, 101, 116, 117, 114, 110]) = false := by simpa using t0
    have HT := Lib.hid (show endsT l = false by rw [HE2, t0] <;> rfl)
    clear HE2
    go_wp2_with fail
    go_end0
    exact ⟨rfl, by rw [lineT_not HT.out]; exact HP2.out, BB.out⟩
theorem line_any (w : World) (B pb : Nat) (s : ByteArray) (i : Nat) (l : List Tk) (h : PS w B pb s i l) (hg : GoodL l) (hs : s.size ≤ 4010) (hl : l.length ≤ 20000) :
    Calls Try.prog 20 #[ptr pb] w fun en w' => en = .returned (.tuple #[]) ∧ PS w' B pb s i (lineT true i l) ∧ Below B w w' := by
  cases l with
  | nil => exact line_none w B pb s i h
  | cons t r => exact line_some w B pb s i (t :: r) h hg hs hl (Nat.succ_pos _)
end Go.Proofs.Ytjhgibdebcapfaa
