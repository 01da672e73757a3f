/- The law's own: few, is the same, Make, Text. -/
import Derived.Test.YthmhljfaenekfaaRatCmp
import Derived.StillTailTactics
namespace Go.Proofs.Ythmhljfaenekfaa
open Go.RowKit NM

theorem IsRow.sl {w : World} {a : Option Addr} {len cap : Nat} {zs : List Int} (h : IsRow .u32 w a len cap zs) (k : Nat) (hk : k ≤ len) (h18 : k ≤ 18) : Sl w (.slice a k cap) (zs.take k) := by
  rcases h with ⟨rfl, rfl, rfl, rfl⟩ | ⟨x, rfl, hl, hm, hz, hc, hwf⟩
  · obtain rfl : k = 0 := by omega
    exact ⟨none, 0, rfl, Nat.le_refl _, .inl rfl, U32s_nil, by simp, fun _ => rfl⟩
  · have hu : U32s zs := fun n hn => u32_of_wf (hwf n hn)
    have hlen : (zs.take k).length = k := by simp; omega
    refine ⟨some x, cap, by rw [hlen], by omega, ?_, U32s_take hu k, by omega, fun h => by cases h⟩
    by_cases h0 : zs.take k = []
    · exact .inl h0
    · have hk0 : 0 < k := by
        rcases Nat.eq_zero_or_pos k with h | h
        · subst h; simp at h0
        · exact h
      obtain ⟨b, off, spot⟩ := x
      have h1 := hc 0 (by omega)
      have hspot : spot = none := by simpa [Addr.add] using World.cell?_spot h1
      subst hspot
      refine .inr ⟨b, off, rfl, ?_, fun i hi => ?_⟩
      · by_cases hb : b < w.heap.size
        · exact hb
        · simp only [Addr.add] at h1
          rw [World.cell?, Array.getElem?_eq_none (by simp; omega)] at h1
          cases h1
      · rw [hlen] at hi
        have h2 := hc i (by omega)
        rw [lb_take hi, lb]
        by_cases hi0 : i = 0
        · subst hi0; simpa [Addr.add] using h2
        · simpa [Addr.add, hi0] using h2
theorem addr_lt {w : World} {p : Addr} {v : Value} (h : w.cell? p = some v) : p.block < w.heap.size := by
  by_cases hb : p.block < w.heap.size
  · exact hb
  · have hn : w.heap[p.block]? = none := Array.getElem?_eq_none (by omega)
    simp [World.cell?, hn] at h
theorem IsRow.later {w w' : World} {a : Option Addr} {len cap : Nat} {zs : List Int} (h : IsRow .u32 w a len cap zs) (hb : Below w.heap.size w w') : IsRow .u32 w' a len cap zs := by
  rcases h with h | ⟨x, h1, hl, hm, hz, hc, hwf⟩
  · exact .inl h
  · refine .inr ⟨x, h1, hl, hm, hz, fun i hi => ?_, hwf⟩
    have h2 := hc i hi
    rw [hb.cell (p := x.add i) (addr_lt h2)]
    exact h2
theorem IsRow.caps {w : World} {a : Option Addr} {len cap : Nat} {zs : List Int} (h : IsRow .u32 w a len cap zs) : len ≤ cap ∧ cap ≤ 9223372036854775807 := by
  rcases h with ⟨rfl, rfl, rfl, rfl⟩ | ⟨x, rfl, hl, hm, hz, hc, hwf⟩
  · omega
  · unfold maxLen at hm; omega

theorem Sl.set3 {w : World} {v : Value} {xs : List Int} {a : Bool} {b : Nat} {t : TypeId} {o1 o2 : Option Addr} {n1 n2 c1 c2 : Nat} (h : Sl w v xs) (hb : BlockAt w b #[.bool false, .slice none 0 0, .slice none 0 0] t) :
    Sl (((w.setCell ⟨b, 0, none⟩ (.bool a)).setCell ⟨b, 1, none⟩ (.slice o1 n1 c1)).setCell ⟨b, 2, none⟩ (.slice o2 n2 c2)) v xs := by
  obtain ⟨ao, ca, h1, h2, h3, h4⟩ := h
  have s1 := hb.set 0 (.bool a)
  have s2 := s1.set 1 (.slice o1 n1 c1)
  exact ⟨ao, ca, h1, h2, ((h3.set_other hb (noLimb3 (fun _ h => by cases h) (fun _ h => by cases h)) _ _).set_other s1 (noLimb3 (fun _ h => by cases h) (fun _ h => by cases h)) _ _).set_other s2 (noLimb3 (fun _ h => by cases h) (fun _ h => by cases h)) _ _, h4⟩

set_option maxHeartbeats 1600000 in
set_option maxRecDepth 100000 in
theorem fewR (s : Bool) (a0 : Option Addr) (len0 cap0 : Nat) (z0 : List Int) (a1 : Option Addr) (len1 cap1 : Nat) (z1 : List Int) (w : World) (h0 : IsRow .u32 w a0 len0 cap0 z0) (h1 : IsRow .u32 w a1 len1 cap1 z1) :
    Calls Try.prog 7 #[.agg #[.bool s, .slice a0 len0 cap0, .slice a1 len1 cap1]] w fun e w' => (∃ n d xs ys, e = .returned (.agg #[.bool s, n, d]) ∧ Sl w' n xs ∧ Sl w' d ys) ∧ Below w.heap.size w w' := by
  obtain ⟨l0, c0⟩ := h0.caps
  obtain ⟨l1, c1⟩ := h1.caps
  have H0 := Lib.hid h0
  have H1 := Lib.hid h1
  clear h0 h1
  obtain ⟨B, ha, hr⟩ := two_start w #[.bool s, .slice a0 len0 cap0, .slice a1 len1 cap1] #[.bool false, .slice none 0 0, .slice none 0 0] 25
  go_enter Try.func7, Try.ntmps7
  go_wp2_with fail
  generalize (w.alloc (.cells #[.bool s, .slice a0 len0 cap0, .slice a1 len1 cap1] 25)).alloc (.cells #[.bool false, .slice none 0 0, .slice none 0 0] 25) = W at *
  obtain ⟨k0, k1, k2⟩ := block3 ha
  have m0 : (0 : Int) ≤ min (len0 : Int) 18 := by omega
  have m1 : min (len0 : Int) 18 ≤ (cap0 : Int) := by omega
  have m2 : (0 : Int) ≤ min (len1 : Int) 18 := by omega
  have m3 : min (len1 : Int) 18 ≤ (cap1 : Int) := by omega
  go_still_tail 17, (by kernel_rfl)
  have q1 := (((H0.out.sl (min (len0 : Int) 18).toNat (by omega) (by omega)).below B).below ((Below.refl W.heap.size W).drew))
  have q2 := (((H1.out.sl (min (len1 : Int) 18).toNat (by omega) (by omega)).below B).below ((Below.refl W.heap.size W).drew))
  have hr := hr.below ((Below.refl W.heap.size W).drew)
  have B := B.drew
  have Q1 := Lib.hid q1
  have Q2 := Lib.hid q2
  clear q1 q2 ha H0 H1 k0 k1 k2 m0 m1 m2 m3
  change wpList _ _ _ _ _ W.drew
  generalize W.drew = w2 at *
  have f0 := hr.free 0
  have f1 := hr.free 1
  have f2 := hr.free 2
  have g0 := hr.cell 0
  have g1 := hr.cell 1
  have g2 := hr.cell 2
  simp at g0 g1 g2
  go_wp2_with fail
  refine bodyPost_ret (v := .agg #[.bool s, .slice a0 (min (len0 : Int) 18).toNat cap0, .slice a1 (min (len1 : Int) 18).toNat cap1]) (by simp [results, Try.results7, go_sem, g0, g1, g2]) rfl ⟨⟨_, _, _, _, rfl, Sl.set3 Q1.out hr, Sl.set3 Q2.out hr⟩, ?_⟩
  exact ((B.setCell (by simp) _).setCell (by simp) _).setCell (by simp) _

/-- Two structs' signs and slices. -/
def SlR (w : World) (v : Value) (s : Bool) (xs ys : List Int) : Prop := ∃ n d, v = .agg #[.bool s, n, d] ∧ Sl w n xs ∧ Sl w d ys

set_option maxHeartbeats 1600000 in
set_option maxRecDepth 100000 in
theorem sameR (v u : Value) (s t : Bool) (xs ys us vs : List Int) (w : World) (h1 : SlR w v s xs ys) (h2 : SlR w u t us vs) :
    Calls Try.prog 13 #[v, u] w fun e w' => e = .returned (.bool (decide (s = t ∧ xs = us ∧ ys = vs))) ∧ Below w.heap.size w w' := by
  obtain ⟨n1, d1, rfl, a1, a2⟩ := h1
  obtain ⟨n2, d2, rfl, a3, a4⟩ := h2
  obtain ⟨B, ha, hb⟩ := two_start w #[.bool s, n1, d1] #[.bool t, n2, d2] 25
  by_cases hs : s = t
  · subst hs
    have hse : (s == s) = true := by simp
    have HS := Lib.hid (same_sl n1 n2 xs us _ (a1.below B) (a3.below B))
    by_cases hx : xs = us
    · rw [decide_eq_true hx] at HS
      have hz := Lib.hid (show decide (ys = vs) = decide (s = s ∧ xs = us ∧ ys = vs) by rw [decide_eq_decide]; exact ⟨fun h => ⟨rfl, hx, h⟩, fun h => h.2.2⟩)
      have a2 := a2.below B
      have a4 := a4.below B
      clear hx a1 a3
      go_enter Try.func13, Try.ntmps13
      go_wp2_with fail
      generalize (w.alloc (.cells #[.bool s, n1, d1] 25)).alloc (.cells #[.bool s, n2, d2] 25) = W at *
      refine HS.out.mono ?_
      rintro e W2 ⟨rfl, bq⟩
      have HT := Lib.hid (same_sl d1 d2 ys vs W2 (a2.below bq) (a4.below bq))
      obtain ⟨c0, c1, c2⟩ := block3 (ha.below bq)
      obtain ⟨c3, c4, c5⟩ := block3 (hb.below bq)
      have B := B.trans (bq.mono B.size)
      clear HS a2 a4 bq
      go_wp2_with fail
      refine HT.out.mono ?_
      rintro e W3 ⟨rfl, bq⟩
      have B := B.trans (bq.mono B.size)
      clear HT bq c0 c1 c2 c3 c4 c5
      go_wp2_with fail
      go_ret
      exact ⟨ret_bool hz.out, B⟩
    · rw [decide_eq_false hx] at HS
      have hz := Lib.hid (show decide (s = s ∧ xs = us ∧ ys = vs) = false by rw [decide_eq_false_iff_not]; exact fun h => hx h.2.1)
      clear hx a1 a2 a3 a4
      go_enter Try.func13, Try.ntmps13
      go_wp2_with fail
      generalize (w.alloc (.cells #[.bool s, n1, d1] 25)).alloc (.cells #[.bool s, n2, d2] 25) = W at *
      refine HS.out.mono ?_
      rintro e W2 ⟨rfl, bq⟩
      have B := B.trans (bq.mono B.size)
      clear HS bq ha hb
      go_wp2_with fail
      go_ret
      exact ⟨ret_bool hz.out.symm, B⟩
  · have hse : (s == t) = false := by simpa using hs
    have hz := Lib.hid (show decide (s = t ∧ xs = us ∧ ys = vs) = false by rw [decide_eq_false_iff_not]; exact fun h => hs h.1)
    clear a1 a2 a3 a4 hs
    go_enter Try.func13, Try.ntmps13
    go_wp2_with fail
    go_ret
    exact ⟨ret_bool hz.out.symm, B⟩

theorem Num.slr {w : World} {v : Value} {N : Int} (h : Num w v N) : ∃ xs, Sl w v xs ∧ rightB xs = true ∧ val xs = N := h
theorem RatN.slr {w : World} {v : Value} {x : Rat} (h : RatN w v x) : ∃ xs ys, SlR w v (decide (x.num < 0)) xs ys ∧ rightB xs = true ∧ val xs = x.num.natAbs ∧ rightB ys = true ∧ val ys = x.den := by
  obtain ⟨n, d, rfl, ⟨xs, a1, a2, a3⟩, ⟨ys, b1, b2, b3⟩⟩ := h
  exact ⟨xs, ys, ⟨n, d, rfl, a1, b1⟩, a2, a3, b2, b3⟩
theorem same_rat {w : World} {v u : Value} {x y : Rat} (h1 : RatN w v x) (h2 : RatN w u y) :
    Calls Try.prog 13 #[v, u] w fun e w' => e = .returned (.bool (decide (x = y))) ∧ Below w.heap.size w w' := by
  obtain ⟨xs, ys, a0, a1, a2, a3, a4⟩ := h1.slr
  obtain ⟨us, vs, b0, b1, b2, b3, b4⟩ := h2.slr
  have h := sameR v u _ _ xs ys us vs w a0 b0
  have e : decide (decide (x.num < 0) = decide (y.num < 0) ∧ xs = us ∧ ys = vs) = decide (x = y) := by
    rw [decide_eq_decide]
    constructor
    · rintro ⟨h1, rfl, rfl⟩
      have hn : x.num = y.num := by
        have h3 : x.num.natAbs = y.num.natAbs := by omega
        rw [decide_eq_decide] at h1
        omega
      exact Rat.ext hn (by omega)
    · rintro rfl
      obtain ⟨n, d, rfl, s1, s2⟩ := a0
      obtain ⟨n', d', e', s3, s4⟩ := b0
      have c1 := (rightB_canon s1.choose_spec.choose_spec.2.2.2.1 a1).1
      have c2 := (rightB_canon s2.choose_spec.choose_spec.2.2.2.1 a3).1
      have c3 := (rightB_canon s3.choose_spec.choose_spec.2.2.2.1 b1).1
      have c4 := (rightB_canon s4.choose_spec.choose_spec.2.2.2.1 b3).1
      exact ⟨rfl, c1.inj c3 (by rw [a2, b2]), c2.inj c4 (by rw [a4, b4])⟩
  rw [e] at h
  exact h

set_option maxHeartbeats 1600000 in
set_option maxRecDepth 100000 in
theorem make_num (neg : Bool) (v u : Value) (N D : Nat) (w : World) (h1 : Num w v N) (h2 : Num w u D) (hD : 0 < D) :
    Calls Try.prog 8 #[.bool neg, v, u] w fun e w' => (∃ r, e = .returned (.tuple #[r, .int .i64 0]) ∧ RatN w' r (frac neg N D)) ∧ Below w.heap.size w w' := by
  have B : Below w.heap.size w (w.alloc (.cells #[.bool false, .slice none 0 0, .slice none 0 0] 25)) := (Below.refl _ _).alloc (Nat.le_refl _) _
  have hr := BlockAt.new w #[.bool false, .slice none 0 0, .slice none 0 0] 25
  have R1 := Lib.hid (right_num (h1.below B))
  have R2 := Lib.hid (right_num (h2.below B))
  have HR := Lib.hid (reduced_num neg v u N D _ (h1.below B) (h2.below B) hD)
  obtain ⟨uo, un, uc, rfl, -, un0, -, -⟩ := h2.len
  have hun : ((un : Int) == 0) = false := by
    rw [beq_eq_false_iff_ne]; intro h; have := un0.1 (by omega); omega
  clear h1 h2 un0 hD
  go_enter Try.func8, Try.ntmps8
  go_wp2_with fail
  generalize w.alloc (.cells #[.bool false, .slice none 0 0, .slice none 0 0] 25) = W at *
  refine R1.out.mono ?_
  rintro e w' ⟨rfl, rfl⟩
  go_wp2_with fail
  refine R2.out.mono ?_
  rintro e w' ⟨rfl, rfl⟩
  go_wp2_with fail
  refine HR.out.mono ?_
  rintro e W2 ⟨⟨r, rfl, hrat⟩, bq⟩
  have hr := hr.below bq
  have B := B.trans (bq.mono B.size)
  obtain ⟨s_, o1, m1, k1, o2, m2, k2, rfl⟩ := RawN.form hrat
  have Hr := Lib.hid hrat
  clear HR R1 R2 bq hrat
  have f0 := hr.free 0
  have f1 := hr.free 1
  have f2 := hr.free 2
  have g0 := hr.cell 0
  have g1 := hr.cell 1
  have g2 := hr.cell 2
  simp at g0 g1 g2
  go_wp2_with fail
  refine bodyPost_ret (v := .tuple #[.agg #[.bool s_, .slice o1 m1 k1, .slice o2 m2 k2], .int .i64 0]) (by simp [results, Try.results8, go_sem, g0, g1, g2]) rfl ⟨⟨_, rfl, RawN.set3 Hr.out hr⟩, ?_⟩
  exact ((B.setCell (by simp) _).setCell (by simp) _).setCell (by simp) _

/-- The text of a number. -/
def ratStr (x : Rat) : ByteArray :=
  let s := if decide (x.num < 0) then (⟨#[45]⟩ : ByteArray) ++ numStr x.num.natAbs else numStr x.num.natAbs
  if x.den = 1 then s else s ++ ((⟨#[47]⟩ : ByteArray) ++ numStr x.den)

set_option maxHeartbeats 1600000 in
set_option maxRecDepth 100000 in
theorem text_rat (v : Value) (x : Rat) (w : World) (h1 : RatN w v x) :
    Calls Try.prog 9 #[v] w fun e w' => e = .returned (.tuple #[.string (ratStr x), .int .i64 0]) ∧ Below w.heap.size w w' := by
  have R := fun (W : World) (B : Below w.heap.size w W) => right_rat (h1.below B)
  obtain ⟨n, d, rfl, a1, a2⟩ := h1
  have z1 := numStr_size (N := (x.num.natAbs : Int)) (by have := a1.range; have := pw_big (n := 16) (by omega); omega)
  have z2 := numStr_size (N := (x.den : Int)) (by have := a2.range; have := pw_big (n := 16) (by omega); omega)
  have hz := Lib.hid (show ratStr x = if x.den = 1 then (if decide (x.num < 0) then (⟨#[45]⟩ : ByteArray) ++ numStr x.num.natAbs else numStr x.num.natAbs) else (if decide (x.num < 0) then (⟨#[45]⟩ : ByteArray) ++ numStr x.num.natAbs else numStr x.num.natAbs) ++ ((⟨#[47]⟩ : ByteArray) ++ numStr x.den) from rfl)
  have B : Below w.heap.size w (w.alloc (.cells #[.bool (decide (x.num < 0)), n, d] 25)) := (Below.refl _ _).alloc (Nat.le_refl _) _
  have ha := BlockAt.new w #[.bool (decide (x.num < 0)), n, d] 25
  have R1 := Lib.hid (R _ B)
  have a1 := a1.below B
  have a2 := a2.below B
  rw [hz.out]
  clear R hz
  have T1 := Lib.hid (fun (W : World) (h : Num W n (x.num.natAbs : Int)) => text_fun h)
  have T2 := Lib.hid (fun (W : World) (h : Num W d (x.den : Int)) => text_fun h)
  have O2 := Lib.hid (fun (W : World) (h : Num W d (x.den : Int)) => one_num d _ W h)
  generalize numStr x.num.natAbs = ns at *
  generalize numStr x.den = dn at *
  generalize decide (x.num < 0) = neg at *
  have hadd : ∀ w : World, (Op.stringOp .add ⟨#[45]⟩ ns).run Try.prog w = .ok (.string (⟨#[45]⟩ ++ ns)) w := fun w => run_string_add_sum w _ _ (by show 1 + _ ≤ _; omega)
  have hadd2 : ∀ w : World, (Op.stringOp .add ⟨#[47]⟩ dn).run Try.prog w = .ok (.string (⟨#[47]⟩ ++ dn)) w := fun w => run_string_add_sum w _ _ (by show 1 + _ ≤ _; omega)
  have hadd3 : ∀ w : World, (Op.stringOp .add ns (⟨#[47]⟩ ++ dn)).run Try.prog w = .ok (.string (ns ++ (⟨#[47]⟩ ++ dn))) w := fun w => run_string_add_sum w _ _ (by rw [ByteArray.size_append]; show _ + (1 + _) ≤ _; omega)
  have hadd4 : ∀ w : World, (Op.stringOp .add (⟨#[45]⟩ ++ ns) (⟨#[47]⟩ ++ dn)).run Try.prog w = .ok (.string ((⟨#[45]⟩ ++ ns) ++ (⟨#[47]⟩ ++ dn))) w := fun w => run_string_add_sum w _ _ (by rw [ByteArray.size_append, ByteArray.size_append]; show (1 + _) + (1 + _) ≤ _; omega)
  by_cases h1 : x.den = 1
  · rw [if_pos h1]
    have hd1 : decide ((x.den : Int) = 1) = true := by simp [h1]
    rw [hd1] at O2
    clear h1 hd1 z1 z2
    go_enter Try.func9, Try.ntmps9
    go_wp2_with fail
    generalize w.alloc (.cells #[.bool neg, n, d] 25) = W at *
    refine R1.out.mono ?_
    rintro e W2 ⟨rfl, bq⟩
    have ha := ha.below bq
    have a1 := a1.below bq
    have a2 := a2.below bq
    have B := B.trans (bq.mono B.size)
    clear bq
    obtain ⟨c0, c1, c2⟩ := block3 ha
    go_wp2_with fail
    refine (T1.out _ a1).mono ?_
    rintro e W3 ⟨rfl, bq⟩
    clear c0 c1 c2
    have ha := ha.below bq
    have a1 := a1.below bq
    have a2 := a2.below bq
    have B := B.trans (bq.mono B.size)
    clear bq
    obtain ⟨c0, c1, c2⟩ := block3 ha
    cases neg
    all_goals
      go_wp2_with fail
      refine (O2.out _ a2).mono ?_
      rintro e w' ⟨rfl, rfl⟩
      go_wp2_with fail
      go_ret2
      exact ⟨rfl, B⟩
  · rw [if_neg h1]
    have hd1 : decide ((x.den : Int) = 1) = false := by simp; omega
    rw [hd1] at O2
    clear h1 hd1 z1 z2
    go_enter Try.func9, Try.ntmps9
    go_wp2_with fail
    generalize w.alloc (.cells #[.bool neg, n, d] 25) = W at *
    refine R1.out.mono ?_
    rintro e W2 ⟨rfl, bq⟩
    have ha := ha.below bq
    have a1 := a1.below bq
    have a2 := a2.below bq
    have B := B.trans (bq.mono B.size)
    clear bq
    obtain ⟨c0, c1, c2⟩ := block3 ha
    go_wp2_with fail
    refine (T1.out _ a1).mono ?_
    rintro e W3 ⟨rfl, bq⟩
    clear c0 c1 c2
    have ha := ha.below bq
    have a1 := a1.below bq
    have a2 := a2.below bq
    have B := B.trans (bq.mono B.size)
    clear bq
    obtain ⟨c0, c1, c2⟩ := block3 ha
    cases neg
    all_goals
      go_wp2_with fail
      refine (O2.out _ a2).mono ?_
      rintro e w' ⟨rfl, rfl⟩
      go_wp2_with fail
      refine (T2.out _ a2).mono ?_
      rintro e W4 ⟨rfl, bq⟩
      have B := B.trans (bq.mono B.size)
      clear bq c0 c1 c2
      go_wp2_with fail
      go_ret2
      exact ⟨rfl, B⟩
end Go.Proofs.Ythmhljfaenekfaa
