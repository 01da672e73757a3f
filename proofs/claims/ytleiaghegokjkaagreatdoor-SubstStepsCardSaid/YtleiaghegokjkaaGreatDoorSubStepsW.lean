import Derived.Test.YtleiaghegokjkaaGreatDoorSubL
import Derived.Test.YtleiaghegokjkaaGreatDoorSubS
import Derived.Test.YtleiaghegokjkaaGreatDoorSubH
import Derived.Test.YtleiaghegokjkaaGreatDoorTypArena
/- The law SubstSteps: its walk. -/
namespace Go.Proofs.YtleiaghegokjkaaGreatDoor
open Go.RowKit
set_option linter.unusedSimpArgs false
set_option linter.unusedVariables false

/-- What is told of a row of types that came in. -/
def CameT (w : World) (a : Option Addr) (l : List Ty) (cap : Nat) : Prop := l.length ≤ cap ∧ cap ≤ 9223372036854775807 ∧ InRow w a l
/-- What is told of a row of integers that came in. -/
def CameI (w : World) (a : Option Addr) (l : List Int) (cap : Nat) : Prop := l.length ≤ cap ∧ cap ≤ 9223372036854775807 ∧ IRow w a l ∧ ∀ z ∈ l, -9223372036854775808 ≤ z ∧ z ≤ 9223372036854775807
/-- A row of types apart from a row's own block. -/
def ApV (v : Value) (w : World) (ao : Option Addr) (l : List Ty) : Prop := match v.ownBlock with
  | none => ARow w ao l
  | some g => ∃ d, d < w.heap.size ∧ g < w.heap.size ∧ ARowA g d w ao l
theorem ApV.out {v : Value} {w : World} {ao : Option Addr} {l : List Ty} (h : ApV v w ao l) : ARow w ao l := by
  unfold ApV at h
  split at h
  · exact h
  · exact h.choose_spec.2.2.out
theorem ApV.below {v : Value} {w w' : World} {ao : Option Addr} {l : List Ty} (h : ApV v w ao l) (hb : Below w.heap.size w w') : ApV v w' ao l := by
  unfold ApV at *
  split at h
  · exact h.below hb
  · obtain ⟨d, h1, h2, h3⟩ := h
    exact ⟨d, Nat.lt_of_lt_of_le h1 hb.size, Nat.lt_of_lt_of_le h2 hb.size, h3.same (SameA.below hb)⟩
theorem ApV.grow {v v' : Value} {X w' : World} {ao : Option Addr} {l : List Ty} (h : ApV v X ao l) (hg : X.grownBy w' v.ownBlock) (hv : v'.ownBlock = v.ownBlock ∨ v'.ownBlock = some X.heap.size) (hl : ∀ g, v'.ownBlock = some g → g < w'.heap.size) : ApV v' w' ao l := by
  unfold ApV at *
  cases hv0 : v.ownBlock with
  | none =>
    rw [hv0] at h hg hv
    have b : Below X.heap.size X w' := (Below.refl _ _).grown hg (Nat.le_refl _) (fun j hj => by cases hj)
    rcases hv with e | e
    · rw [e]; exact ARow.below h b
    · rw [e]; exact ⟨X.heap.size, hl _ e, hl _ e, (ARowA.fresh h ⟨Nat.le_refl _, Nat.le_refl _⟩).same (SameA.below b)⟩
  | some g =>
    rw [hv0] at h hg hv
    obtain ⟨d, h1, h2, h3⟩ := h
    rcases hv with e | e
    · rw [e]; exact ⟨d, Nat.lt_of_lt_of_le h1 hg.size, Nat.lt_of_lt_of_le h2 hg.size, h3.same (SameA.grown hg)⟩
    · rw [e]; exact ⟨d, Nat.lt_of_lt_of_le h1 hg.size, hl _ e, h3.grow hg (.inr (Nat.le_refl _))⟩
def PAddV (v : Value) (w : World) (R : List Ty × Int × Int) (e : Ending) (w' : World) : Prop := ∃ ao cap, e = .returned (.tuple #[.slice ao R.1.length cap, .int .i64 R.2.1, .int .i64 R.2.2]) ∧ ApV v w' ao R.1 ∧ R.1.length ≤ cap ∧ Below w.heap.size w w'
theorem padd_ap (v : Value) (l : List Ty) (ao : Option Addr) (ac : Nat) (t : Ty) (wo ko : Option Addr) (wc kc : Nat) (w : World) (hl : ApV v w ao l) (ll : l.length ≤ 1000) (hac : l.length ≤ ac) (hE : Env w) (ht : TyC w wo ko t) (hsm : TySm t) (hwc : t.words.length ≤ wc) (hkc : t.kids.length ≤ kc) :
    Calls Tryz.prog 13 #[.slice ao l.length ac, tyV t wo wc ko kc] w (PAddV v w (paddT l t)) := by
  unfold PAddV
  unfold ApV at *
  cases hv : v.ownBlock with
  | none =>
    rw [hv] at hl
    exact padd_any l ao ac t wo ko wc kc w hl ll hac hE ht hsm hwc hkc
  | some g =>
    rw [hv] at hl
    obtain ⟨d, h1, h2, h3⟩ := hl
    refine (padd_apart g d l ao ac t wo ko wc kc w ⟨h2, h1⟩ h3 ll hac hE ht hsm hwc hkc).mono ?_
    rintro e w' ⟨ao, cap, e1, e2, e3, e4⟩
    exact ⟨ao, cap, e1, ⟨d, Nat.lt_of_lt_of_le h1 e4.size, Nat.lt_of_lt_of_le h2 e4.size, e2⟩, e3, e4⟩
theorem subst_ap (v : Value) (l : List Ty) (ao : Option Addr) (ac : Nat) (i : Int) (args : List Int) (go : Option Addr) (gc : Nat) (w : World) (hl : ApV v w ao l) (ll : l.length ≤ 1000) (hac : l.length ≤ ac) (hE : Env w) (hg : IRow w go args) (hgl : args.length ≤ 1000) (hg6 : ∀ a ∈ args, -9223372036854775808 ≤ a ∧ a ≤ 9223372036854775807) :
    Calls Tryz.prog 7 #[.slice ao l.length ac, .int .i64 i, .slice go args.length gc] w (PAddV v w (psubT l i args)) := by
  unfold PAddV
  unfold ApV at *
  cases hv : v.ownBlock with
  | none =>
    rw [hv] at hl
    exact subst_any l ao ac i args go gc w hl ll hac hE hg hgl hg6
  | some g =>
    rw [hv] at hl
    obtain ⟨d, h1, h2, h3⟩ := hl
    refine (subst_apart g d l ao ac i args go gc w ⟨h2, h1⟩ h3 ll hac hE hg hgl hg6).mono ?_
    rintro e w' ⟨ao, cap, e1, e2, e3, e4⟩
    exact ⟨ao, cap, e1, ⟨d, Nat.lt_of_lt_of_le h1 e4.size, Nat.lt_of_lt_of_le h2 e4.size, e2⟩, e3, e4⟩
/-- A param of its number. -/
def parT (k : Nat) : Ty := ⟨9, ⟨#[]⟩, (k : Int), [], []⟩
theorem parT_ok {k : Nat} (hk : k < 16) : TyOk (parT k) := ⟨by show (⟨#[]⟩ : ByteArray).size ≤ 50; decide, by show 0 ≤ 18; omega, by show 0 ≤ 18; omega, fun s hs => absurd hs (by simp [parT]), ⟨by show (-9223372036854775808 : Int) ≤ 9 ∧ (9 : Int) ≤ 9223372036854775807; omega, by show (-9223372036854775808 : Int) ≤ (k : Int) ∧ (k : Int) ≤ 9223372036854775807; omega⟩, fun j hj => absurd hj (by simp [parT])⟩
theorem parT_made {k : Nat} (hk : k < 16) (l : List Ty) : madeB l (parT k) = true := by
  unfold madeB parT bareB kidsB
  simp
  constructor
  · rfl
  · omega
/-- What the first loop holds. -/
structure SelfOk (l own : List Ty) (sf : List Int) (k : Nat) : Prop where
  right : rightT own = true
  ext : Ext l own
  len : sf.length = k
  most : own.length ≤ l.length + k
  par : ∀ j : Nat, j < k → 0 ≤ sf.getD j 0 ∧ sf.getD j 0 < (own.length : Int) ∧ funT own (sf.getD j 0).toNat = parT j
theorem SelfOk.next {l own : List Ty} {sf : List Int} {k : Nat} (h : SelfOk l own sf k) (hk : k < 16) (hl : own.length < 400) : ∃ (M : List Ty) (p : Nat), paddT own (parT k) = (M, (p : Int), 0) ∧ SelfOk l M (sf ++ [(p : Int)]) (k + 1) := by
  have he : (addT own (parT k)).2.2 = 0 := by
    unfold addT
    split
    · rfl
    · rw [if_neg (by rw [parT_made hk]; decide), if_neg (by omega)]
  obtain ⟨M, p, hp, e, hM, hR, hT, h1, h2⟩ := add_good h.right he
  have hx : Ext own M := ⟨hT, h1⟩
  refine ⟨M, p, by unfold paddT; rw [if_pos h.right, e], hR, h.ext.trans hx, by rw [List.length_append, h.len]; rfl, by have := h.most; omega, fun j hj => ?_⟩
  have hlen := h.len
  by_cases c : j < k
  · obtain ⟨g1, g2, g3⟩ := h.par j c
    rw [List.getD_eq_getElem?_getD, List.getElem?_append_left (by omega), ← List.getD_eq_getElem?_getD]
    exact ⟨g1, by omega, by rw [hx.fn (by omega)]; exact g3⟩
  · obtain rfl : j = k := by omega
    have e2 : (sf ++ [(p : Int)]).getD j 0 = (p : Int) := by
      rw [List.getD_eq_getElem?_getD, List.getElem?_append_right (by omega), hlen, Nat.sub_self]
      rfl
    rw [e2]
    refine ⟨by omega, by omega, ?_⟩
    rw [Int.toNat_natCast]
    unfold funT
    rw [getD_of hp]
    exact hM
/-- What the second loop holds. -/
structure BothOk (y z now : List Ty) (zs : List Int) (J : Nat → Int) (q0 : Nat) (both : List Int) (q : Nat) : Prop where
  right : rightT now = true
  ext : Ext z now
  len : both.length = q
  inn : ∀ j : Nat, j < q → 0 ≤ both.getD j 0 ∧ both.getD j 0 < (now.length : Int)
  same : ∀ j : Nat, j < q → needD (funT y) q0 (q0 + 1) (zs.getD j 0).toNat = true → both.getD j 0 = J (zs.getD j 0).toNat
theorem BothOk.next {y z now : List Ty} {zs others : List Int} {J : Nat → Int} {q0 : Nat} {both : List Int} {q : Nat} (h : BothOk y z now zs J q0 both q) (hy : rightT y = true) (hq0 : q0 < y.length) (hV : Went y q0 others z J) {a : Nat} (ha : a < now.length) (hza : zs.getD q 0 = (a : Int)) {M : List Ty} {p : Int}
    (hs : substT now a others = (M, p, 0)) : BothOk y z M zs J q0 (both ++ [p]) (q + 1) := by
  obtain ⟨I, hW, hp, hp0, hp1⟩ := sub_went h.right ha hs
  have hlen := h.len
  have hnew : (both ++ [p]).getD q 0 = p := by
    rw [List.getD_eq_getElem?_getD, List.getElem?_append_right (by omega), hlen, Nat.sub_self]
    rfl
  have hold : ∀ j, j < q → (both ++ [p]).getD j 0 = both.getD j 0 := fun j hj => by
    rw [List.getD_eq_getElem?_getD, List.getElem?_append_left (by omega), ← List.getD_eq_getElem?_getD]
  have hle := hW.ext.2
  refine ⟨hW.right, h.ext.trans hW.ext, by rw [List.length_append, hlen]; rfl, fun j hj => ?_, fun j hj hn => ?_⟩
  · by_cases c : j < q
    · rw [hold j c]; have := h.inn j c; omega
    · obtain rfl : j = q := by omega
      rw [hnew]; omega
  · by_cases c : j < q
    · rw [hold j c]; exact h.same j c hn
    · obtain rfl : j = q := by omega
      rw [hnew]
      rw [hza, Int.toNat_natCast] at hn ⊢
      have := resub hy hq0 hV h.ext h.right hn
      rw [this] at hs
      injection hs with _ hs
      injection hs with hs _
      exact hs.symm
theorem psub_eq {l : List Ty} {k : Nat} (hr : rightT l = true) (hk : k < l.length) (args : List Int) : psubT l (k : Int) args = substT l k args := by
  unfold psubT
  rw [if_pos (there_ok hr (by omega) (by omega)), Int.toNat_natCast]
theorem sub_bad {l : List Ty} {i : Nat} {args : List Int} : (substT l i args).2.2 ≠ 0 → (substT l i args).1 = [] := by
  unfold substT
  intro h
  split
  · rfl
  · split
    · rfl
    · split
      · rfl
      · rename_i h1 h2 h3
        rw [if_neg h1, if_neg h2, if_neg h3] at h
        exact absurd rfl h
set_option maxHeartbeats 16000000 in
set_option maxRecDepth 100000 in
theorem steps_walk (a0 : Option Addr) (l0 : List Ty) (cap0 : Nat) (i : Int) (g0 : Option Addr) (z0 : List Int) (gc0 : Nat) (x0 : Option Addr) (o0 : List Int) (xc0 : Nat) (w : World) (h0 : CameT w a0 l0 cap0) (h1 : CameI w g0 z0 gc0) (h2 : CameI w x0 o0 xc0) (hi : -9223372036854775808 ≤ i ∧ i ≤ 9223372036854775807) (hE : Env w) :
    Calls Tryz.prog 4 #[.slice a0 l0.length cap0, .int .i64 i, .slice g0 z0.length gc0, .slice x0 o0.length xc0] w fun e w' => e = .returned (.bool true) ∧ Below w.heap.size w w' := by
  obtain ⟨k0, hki, hk0, hk1, hk2⟩ := info_parts info_int1
  have BD := Lib.hid (show Below w.heap.size w w.drew from (Below.refl _ _).drew)
  have F0 := Lib.hid (few_any l0 a0 cap0 60 w.drew (h0.2.2.below BD.out) h0.1 h0.2.1 (by decide))
  have HE := Lib.hid hE
  obtain ⟨zs, hzs⟩ : ∃ zs, z0.take 4 = zs := ⟨_, rfl⟩
  obtain ⟨os, hos⟩ : ∃ os, o0.take 4 = os := ⟨_, rfl⟩
  have G := Lib.hid (show IRow w g0 zs ∧ ∀ z ∈ zs, -9223372036854775808 ≤ z ∧ z ≤ 9223372036854775807 from by
    rw [← hzs]
    exact ⟨h1.2.2.1.take 4, fun z hz => h1.2.2.2 z (List.mem_of_mem_take hz)⟩)
  have X := Lib.hid (show IRow w x0 os ∧ ∀ z ∈ os, -9223372036854775808 ≤ z ∧ z ≤ 9223372036854775807 from by
    rw [← hos]
    exact ⟨h2.2.2.1.take 4, fun z hz => h2.2.2.2 z (List.mem_of_mem_take hz)⟩)
  obtain ⟨n, hn⟩ : ∃ n, z0.length = n := ⟨_, rfl⟩
  have n1 : n ≤ gc0 := by rw [← hn]; exact h1.1
  have n2 := h1.2.1
  obtain ⟨m, hm⟩ : ∃ m : Nat, min n 4 = m := ⟨_, rfl⟩
  have m1 : m ≤ n := by omega
  have m2 : m ≤ 4 := by omega
  have m3 : m ≤ gc0 := by omega
  have HM := Lib.hid (show zs.length = m by rw [← hzs, List.length_take, hn]; omega)
  have Hm : ∀ (ts : Array TypeId) (t : TypeId) (W : World), (Builtin.min_ ts t #[.int .i64 (n : Int), .int .i64 4]).run Tryz.prog W = .ok (.int .i64 (m : Int)) W := fun ts t W => by rw [run_min_int2, show (if (4 : Int) < (n : Int) then (4 : Int) else (n : Int)) = (m : Int) by split <;> omega]
  obtain ⟨on, hon⟩ : ∃ n, o0.length = n := ⟨_, rfl⟩
  have on1 : on ≤ xc0 := by rw [← hon]; exact h2.1
  have on2 := h2.2.1
  obtain ⟨om, hom⟩ : ∃ m : Nat, min on 4 = m := ⟨_, rfl⟩
  have om1 : om ≤ on := by omega
  have om2 : om ≤ 4 := by omega
  have om3 : om ≤ xc0 := by omega
  have HOM := Lib.hid (show os.length = om by rw [← hos, List.length_take, hon]; omega)
  have Hom : ∀ (ts : Array TypeId) (t : TypeId) (W : World), (Builtin.min_ ts t #[.int .i64 (on : Int), .int .i64 4]).run Tryz.prog W = .ok (.int .i64 (om : Int)) W := fun ts t W => by rw [run_min_int2, show (if (4 : Int) < (on : Int) then (4 : Int) else (on : Int)) = (om : Int) by split <;> omega]
  rw [hn, hon]
  clear hm hom h0 hE h1 h2 hzs hos hn hon
  go_enter Tryz.func4, Tryz.ntmps4
  go_wp2_with fail
  refine GoG.start [] (by kernel_rfl) Keeps.nil ?_
  refine GoG.take (i := 0) (v := ?_) [] rfl (by kernel_rfl) (by kernel_rfl) (by kernel_rfl) (by kernel_rfl) (by kernel_rfl) (by kernel_rfl) (fun _ _ _ h => h) (yields_free (by rfl) (fun w => ?_)) ?_
  rotate_left
  · go_simp; try (with_reducible rfl)
  try simp only [Act.put, List.getElem_toArray, List.getElem_cons_succ, List.getElem_cons_zero, List.setIfInBounds_toArray, List.set_cons_zero, List.set_cons_succ]
  refine GoG.take (i := 2) (v := ?_) [] rfl (by kernel_rfl) (by kernel_rfl) (by kernel_rfl) (by kernel_rfl) (by kernel_rfl) (by kernel_rfl) (fun _ _ _ h => h) (yields_free (by rfl) (fun w => ?_)) ?_
  rotate_left
  · go_simp; try (with_reducible rfl)
  try simp only [Act.put, List.getElem_toArray, List.getElem_cons_succ, List.getElem_cons_zero, List.setIfInBounds_toArray, List.set_cons_zero, List.set_cons_succ]
  refine GoG.take (i := 3) (v := ?_) [] rfl (by kernel_rfl) (by kernel_rfl) (by kernel_rfl) (by kernel_rfl) (by kernel_rfl) (by kernel_rfl) (fun _ _ _ h => h) (yields_free (by rfl) (fun w => ?_)) ?_
  rotate_left
  · go_simp; try (with_reducible rfl)
  try simp only [Act.put, List.getElem_toArray, List.getElem_cons_succ, List.getElem_cons_zero, List.setIfInBounds_toArray, List.set_cons_zero, List.set_cons_succ]
  refine GoG.take (i := 4) (v := ?_) [] rfl (by kernel_rfl) (by kernel_rfl) (by kernel_rfl) (by kernel_rfl) (by kernel_rfl) (by kernel_rfl) (fun _ _ _ h => h) (yields_free (by rfl) (fun w => ?_)) ?_
  rotate_left
  · go_simp; try (with_reducible rfl)
  try simp only [Act.put, List.getElem_toArray, List.getElem_cons_succ, List.getElem_cons_zero, List.setIfInBounds_toArray, List.set_cons_zero, List.set_cons_succ]
  refine GoG.take (i := 5) (v := ?_) [] rfl (by kernel_rfl) (by kernel_rfl) (by kernel_rfl) (by kernel_rfl) (by kernel_rfl) (by kernel_rfl) (fun _ _ _ h => h) (yields_free (by rfl) (fun w => ?_)) ?_
  rotate_left
  · go_simp; try (with_reducible rfl)
  try simp only [Act.put, List.getElem_toArray, List.getElem_cons_succ, List.getElem_cons_zero, List.setIfInBounds_toArray, List.set_cons_zero, List.set_cons_succ]
  refine GoG.take (i := 6) (v := ?_) [] rfl (by kernel_rfl) (by kernel_rfl) (by kernel_rfl) (by kernel_rfl) (by kernel_rfl) (by kernel_rfl) (fun _ _ _ h => h) (yields_free (by rfl) (fun w => ?_)) ?_
  rotate_left
  · go_simp; try (with_reducible rfl)
  try simp only [Act.put, List.getElem_toArray, List.getElem_cons_succ, List.getElem_cons_zero, List.setIfInBounds_toArray, List.set_cons_zero, List.set_cons_succ]
  refine GoG.take (i := 7) (v := ?_) [] rfl (by kernel_rfl) (by kernel_rfl) (by kernel_rfl) (by kernel_rfl) (by kernel_rfl) (by kernel_rfl) (fun _ _ _ h => h) (yields_free (by rfl) (fun w => ?_)) ?_
  rotate_left
  · go_simp; try (with_reducible rfl)
  try simp only [Act.put, List.getElem_toArray, List.getElem_cons_succ, List.getElem_cons_zero, List.setIfInBounds_toArray, List.set_cons_zero, List.set_cons_succ]
  refine GoG.take (i := 8) (v := ?_) [] rfl (by kernel_rfl) (by kernel_rfl) (by kernel_rfl) (by kernel_rfl) (by kernel_rfl) (by kernel_rfl) (fun _ _ _ h => h) (yields_free (by rfl) (fun w => ?_)) ?_
  rotate_left
  · go_simp; try (with_reducible rfl)
  try simp only [Act.put, List.getElem_toArray, List.getElem_cons_succ, List.getElem_cons_zero, List.setIfInBounds_toArray, List.set_cons_zero, List.set_cons_succ]
  refine GoG.take (i := 9) (v := ?_) [] rfl (by kernel_rfl) (by kernel_rfl) (by kernel_rfl) (by kernel_rfl) (by kernel_rfl) (by kernel_rfl) (fun _ _ _ h => h) (yields_free (by rfl) (fun w => ?_)) ?_
  rotate_left
  · go_simp; try (with_reducible rfl)
  try simp only [Act.put, List.getElem_toArray, List.getElem_cons_succ, List.getElem_cons_zero, List.setIfInBounds_toArray, List.set_cons_zero, List.set_cons_succ]
  refine GoG.take (i := 10) (v := ?_) [] rfl (by kernel_rfl) (by kernel_rfl) (by kernel_rfl) (by kernel_rfl) (by kernel_rfl) (by kernel_rfl) (fun _ _ _ h => h) (yields_free (by rfl) (fun w => ?_)) ?_
  rotate_left
  · go_simp; try (with_reducible rfl)
  try simp only [Act.put, List.getElem_toArray, List.getElem_cons_succ, List.getElem_cons_zero, List.setIfInBounds_toArray, List.set_cons_zero, List.set_cons_succ]
  refine GoG.take (i := 11) (v := ?_) [] rfl (by kernel_rfl) (by kernel_rfl) (by kernel_rfl) (by kernel_rfl) (by kernel_rfl) (by kernel_rfl) (fun _ _ _ h => h) (yields_free (by rfl) (fun w => ?_)) ?_
  rotate_left
  · go_simp; try (with_reducible rfl)
  try simp only [Act.put, List.getElem_toArray, List.getElem_cons_succ, List.getElem_cons_zero, List.setIfInBounds_toArray, List.set_cons_zero, List.set_cons_succ]
  refine GoG.one (i := 1) rfl (by kernel_rfl) (fun K hK => ?_)
  go_simp
  refine F0.out.mono ?_
  rintro e w1 ⟨ao, cap, us, rfl, r0, hc, hl4, b1⟩
  refine hK.out _ _ Keeps.nil ?_
  clear hK K
  try simp only [Act.put, List.getElem_toArray, List.getElem_cons_succ, List.getElem_cons_zero, List.setIfInBounds_toArray, List.set_cons_zero, List.set_cons_succ]
  refine GoG.take (i := 12) (v := ?_) [] rfl (by kernel_rfl) (by kernel_rfl) (by kernel_rfl) (by kernel_rfl) (by kernel_rfl) (by kernel_rfl) (fun _ _ _ h => h) (yields_free (by rfl) (fun w => ?_)) ?_
  rotate_left
  · go_simp; try (with_reducible rfl)
  try simp only [Act.put, List.getElem_toArray, List.getElem_cons_succ, List.getElem_cons_zero, List.setIfInBounds_toArray, List.set_cons_zero, List.set_cons_succ]
  refine GoG.take (i := 13) (v := ?_) [] rfl (by kernel_rfl) (by kernel_rfl) (by kernel_rfl) (by kernel_rfl) (by kernel_rfl) (by kernel_rfl) (fun _ _ _ h => h) (yields_free (by rfl) (fun w => ?_)) ?_
  rotate_left
  · go_simp; try (with_reducible rfl)
  try simp only [Act.put, List.getElem_toArray, List.getElem_cons_succ, List.getElem_cons_zero, List.setIfInBounds_toArray, List.set_cons_zero, List.set_cons_succ]
  refine GoG.take (i := 14) (v := ?_) [] rfl (by kernel_rfl) (by kernel_rfl) (by kernel_rfl) (by kernel_rfl) (by kernel_rfl) (by kernel_rfl) (fun _ _ _ h => h) (yields_free (by rfl) (fun w => ?_)) ?_
  rotate_left
  · go_simp; try (with_reducible rfl)
  try simp only [Act.put, List.getElem_toArray, List.getElem_cons_succ, List.getElem_cons_zero, List.setIfInBounds_toArray, List.set_cons_zero, List.set_cons_succ]
  refine GoG.done (by kernel_rfl) ?_ _
  clear Hm Hom
  have B1 := Lib.hid (BD.out.trans (b1.mono BD.out.size))
  have HE1 := Lib.hid (HE.out.below B1.out)
  have R1 := Lib.hid r0
  have G1 := Lib.hid (And.intro (G.out.1.below B1.out) G.out.2)
  have X1 := Lib.hid (And.intro (X.out.1.below B1.out) X.out.2)
  have HP := Lib.hid (params_any us ao cap i w1 R1.out (by omega) hc HE1.out)
  obtain ⟨un, hun⟩ : ∃ un, us.length = un := ⟨_, rfl⟩
  have HUN := Lib.hid hun
  rw [hun] at hc hl4 HP ⊢
  clear b1 r0 F0 HE G X hun
  by_cases hth : thereT us i = 0
  · obtain ⟨hr, hi1, hi2⟩ := there_zero hth
    obtain ⟨k, rfl⟩ : ∃ k : Nat, i = (k : Int) := ⟨i.toNat, by omega⟩
    have hpT : paramsT us (k : Int) = (askD (funT us) (k + 1) k, 0) := by unfold paramsT; rw [if_pos hth, Int.toNat_natCast]
    have hku : k < us.length := by omega
    rw [HUN.out] at hi2
    have hk : k < un := by omega
    rw [hpT] at HP
    have HR := Lib.hid hr
    have HKU := Lib.hid hku
    have hAi := askD_in (right_param hr) (k + 1) k
    obtain ⟨an, han⟩ : ∃ an : Nat, askD (funT us) (k + 1) k = (an : Int) := ⟨(askD (funT us) (k + 1) k).toNat, by omega⟩
    have HAN := Lib.hid han
    rw [han] at HP hAi
    have ha16 : an ≤ 16 := by omega
    clear hth hpT han hr hku
    go_wp2_with fail
    refine HP.out.mono ?_
    rintro e w2 ⟨rfl, b2⟩
    have B2 := Lib.hid (B1.out.trans (b2.mono B1.out.size))
    have HE2 := Lib.hid (HE1.out.below b2)
    have R2 := Lib.hid (R1.out.below b2)
    have G2 := Lib.hid (And.intro (G1.out.1.below b2) G1.out.2)
    have X2 := Lib.hid (And.intro (X1.out.1.below b2) X1.out.2)
    clear b2 HP HE1 R1 G1 X1
    by_cases hz : an = 0
    · subst hz
      have HS0 := subst_any us ao cap (k : Int) [] none 0 w2 R2.out (by rw [HUN.out]; omega) (by rw [HUN.out]; exact hc) HE2.out (.inl rfl) (by decide) (fun a ha => absurd ha (by simp))
      rw [psub_eq HR.out HKU.out, sub_none HR.out HKU.out HAN.out [] rfl] at HS0
      rw [HUN.out] at HS0
      have HS := Lib.hid HS0
      clear HS0
      go_wp2_with fail
      refine HS.out.mono ?_
      rintro e w3 ⟨xo, xcap, rfl, hx, hxc, b3⟩
      have B3 := Lib.hid (B2.out.trans (b3.mono B2.out.size))
      have HE3 := Lib.hid (HE2.out.below b3)
      have R3 := Lib.hid (R2.out.below b3)
      have RX := Lib.hid (show ARow w3 xo us from hx)
      have HAL := Lib.hid (alive_any w3 HE3.out)
      clear b3 hx hxc HS
      go_wp2_with fail
      refine HAL.out.mono ?_
      rintro e w4 ⟨rfl, b4⟩
      have B4 := Lib.hid (B3.out.trans (b4.mono B3.out.size))
      have HAR := arenas_any us us xo ao xcap cap w4 (RX.out.below b4) (R3.out.below b4) (by rw [HUN.out]; omega) (by rw [HUN.out]; omega)
      rw [decide_eq_true (rfl : us = us), HUN.out] at HAR
      have HARH := Lib.hid HAR
      rw [show (us, (k : Int), (0 : Int)).1.length = un from HUN.out]
      clear b4 HAR
      go_wp2_with fail
      refine HARH.out.mono ?_
      rintro e w5 ⟨rfl, b5⟩
      have B5 := Lib.hid (B4.out.trans (b5.mono B4.out.size))
      clear b5
      go_wp2_with fail
      go_ret
      exact ⟨by first | rfl | (simp; done), B5.out⟩
    · have hzq : ((an : Int) == 0) = false := by rw [beq_eq_false_iff_ne]; omega
      have S0 := Lib.hid (show SelfOk us us [] 0 from ⟨HR.out, Ext.refl _, rfl, Nat.le_refl _, fun j hj => absurd hj (Nat.not_lt_zero _)⟩)
      have O0 := Lib.hid (ownK_nil w2 w2.heap.size)
      have A0 := Lib.hid (show ApV (.slice none 0 0) w2 ao us from R2.out)
      have BB0 := Lib.hid (Below.refl w2.heap.size w2)
      go_wp2_with fail
      go_loopw [14, 15, 16, 90] (fun v14 v15 v16 v90 wr => ∃ (j : Nat) (own : List Ty) (wo : Option Addr) (oc : Nat) (sf : List Int), j ≤ an ∧ v14 = .slice wo own.length oc ∧ v15 = .bool true ∧ v90 = .int .i64 j ∧ own.length ≤ oc ∧ Hid (OwnK wr w2.heap.size v16 sf) ∧ Hid (ApV v16 wr wo own) ∧ Hid (SelfOk us own sf j) ∧ Hid (Below w2.heap.size w2 wr)) (fun _ _ _ v _ => an - (intOf v).toNat)
      case atStart => exact ⟨0, us, ao, cap, [], Nat.zero_le _, (by rw [HUN.out]), rfl, rfl, (by rw [HUN.out]; exact hc), O0, A0, S0, BB0⟩
      case round =>
        obtain ⟨j, own, wo, oc, sf, hj, rfl, rfl, rfl, hoc, HO, HAP, HSF, HB⟩ := hrel
        have HBW := Lib.hid (B2.out.trans (HB.out.mono B2.out.size))
        have hmost := HSF.out.most
        rw [HUN.out] at hmost
        by_cases hja : j < an
        · have hjI : (j : Int) < (an : Int) := by omega
          obtain ⟨M, p, hpa, hnx⟩ := HSF.out.next (by omega) (by omega)
          have HNX := Lib.hid hnx
          have HAD0 := padd_ap u16 own wo oc (parT j) none none 0 0 wr HAP.out (by omega) hoc (HE2.out.below HB.out) ⟨.inl rfl, .inl rfl, parT_ok (by omega)⟩ (fun s hs => absurd hs (by simp [parT])) (Nat.le_refl _) (Nat.le_refl _)
          rw [hpa] at HAD0
          have HAD1 : Calls Tryz.prog 13 #[.slice wo own.length oc, .agg #[.int .i64 9, .string ⟨#[]⟩, .int .i64 j, .slice none 0 0, .slice none 0 0]] wr (PAddV u16 wr (M, (p : Int), 0)) := HAD0
          have HAD := Lib.hid HAD1
          clear HAD0 HAD1 hpa hnx
          go_wp2_with fail
          refine HAD.out.mono ?_
          intro e w3 hres
          obtain ⟨mo, mc, ee, hap, hmc, b3⟩ := hres
          have ee : e = .returned (.tuple #[.slice mo M.length mc, .int .i64 p, .int .i64 0]) := ee
          subst ee
          have B3 := Lib.hid (HB.out.trans (b3.mono HB.out.size))
          have HAP3 := Lib.hid (show ApV u16 w3 mo M from hap)
          have HO3 := Lib.hid (show OwnK w3 w2.heap.size u16 sf from row_kept HO.out b3)
          have HOZ := Lib.hid (show w3.ownsRow w2.heap.size 3 1 u16 j (intC sf) from by have h := HO3.out; unfold OwnK at h; rw [HSF.out.len] at h; exact h)
          have hmc : M.length ≤ mc := hmc
          have hB3 := B3.out.size
          clear hap b3
          go_wp2_with (at_builtin; refine wpList_append_own_at _ rfl _ _ 23 rfl w2.heap.size 3 k0 (.int .i64 0) 1 8 Tryz.underlying23 hki hk0 hk1 hk2 rfl (by decide) _ j (intC sf) rfl (HOZ.out.alloc _) ⟨w3.heap.size, 0, none⟩ 1 1 [.int .i64 p] rfl ?s1 ?s2 ?s3 ?s4 ?s5 ?s6 ?_)
          case s1 => rfl
          case s2 => exact cell_news _ _ _
          case s3 => exact fun v hv => by rw [List.mem_singleton.1 hv]; rfl
          case s4 => unfold maxLen; omega
          case s5 => omega
          case s6 => simp; omega
          intro v' w9 hown9 hgrow9 _ hblk9
          have HPU := Lib.hid (push_int1 (z := (p : Int)) HO3.out B3.out (by rw [HSF.out.len]; exact hown9) hgrow9)
          have HAV := Lib.hid ((HAP3.out.below ((Below.refl _ _).alloc (Nat.le_refl _) _)).grow hgrow9 (by simpa using hblk9) (fun g hg => (World.ownsRow.lt hown9 g hg).2))
          clear hown9 hgrow9 hblk9
          go_wp2_with fail
          go_roundw
          case rel => exact ⟨j + 1, M, mo, mc, sf ++ [(p : Int)], by omega, rfl, rfl, by go_num, hmc, Lib.hid HPU.out.1, HAV, HNX, Lib.hid HPU.out.2⟩
          case measure => first | (simp [intOf]; done) | (simp [intOf]; omega)
        · obtain rfl : j = an := by omega
          have hlx := HSF.out.ext
          have hlen := HSF.out.len
          obtain ⟨so, sc, rfl, hsr, hsc⟩ := ownK_row HO.out
          have hkw : k < own.length := Nat.lt_of_lt_of_le HKU.out hlx.2
          have hsub : psubT own (k : Int) sf = (own, (k : Int), 0) := by
            rw [psub_eq HSF.out.right hkw]
            refine sub_self HSF.out.right hkw ?_ (fun q hq => HSF.out.par q (by omega))
            rw [ask_two (g := funT us) (d := k + 1) (by omega) (by omega) (fun q hq => hlx.fn (by have := HKU.out; omega)), HAN.out]
            omega
          have HSS0 := subst_any own wo oc (k : Int) sf so sc wr HAP.out.out (by omega) hoc (HE2.out.below HB.out) hsr (by omega) (fun a ha => by
            obtain ⟨q, hq, rfl⟩ := List.getElem_of_mem ha
            have h := HSF.out.par q (by omega)
            rw [getD_of hq] at h
            omega)
          rw [hsub] at HSS0
          have HSS := Lib.hid HSS0
          have HSLF := Lib.hid (And.intro hlx hlen)
          have HOWN := Lib.hid HAP.out.out
          have hkk : ((k : Int) != (k : Int)) = false := by simp
          rw [hlen] at HSS
          rw [hlen]
          clear HSS0 hsub hsr hsc hkw hlx hlen
          go_wp2_with fail
          refine HSS.out.mono ?_
          intro e w3 hres
          obtain ⟨mo, mc, ee, hap, hmc, b3⟩ := hres
          have ee : e = .returned (.tuple #[.slice mo own.length mc, .int .i64 k, .int .i64 0]) := ee
          subst ee
          have B3 := Lib.hid (HBW.out.trans (b3.mono HBW.out.size))
          have B23 := Lib.hid (HB.out.trans (b3.mono HB.out.size))
          have HAR0 := arenas_any own own mo wo mc oc w3 hap (HOWN.out.below b3) (by omega) (by omega)
          rw [decide_eq_true (rfl : own = own)] at HAR0
          have HAR := Lib.hid HAR0
          clear hap hmc b3 HAR0 HSS
          go_wp2_with fail
          refine HAR.out.mono ?_
          rintro e w4 ⟨rfl, b4⟩
          have B4 := Lib.hid (B3.out.trans (b4.mono B3.out.size))
          have B24 := Lib.hid (B23.out.trans (b4.mono B23.out.size))
          have HAL := Lib.hid (alive_any w4 (HE2.out.below B24.out))
          clear b4 HAR
          go_wp2_with fail
          refine HAL.out.mono ?_
          rintro e w5 ⟨rfl, b5⟩
          have B5 := Lib.hid (B4.out.trans (b5.mono B4.out.size))
          have B25 := Lib.hid (B24.out.trans (b5.mono B24.out.size))
          have HY0 := subst_any us ao cap (k : Int) zs g0 gc0 w5 (R2.out.below B25.out) (by rw [HUN.out]; omega) (by rw [HUN.out]; exact hc) (HE2.out.below B25.out) (G2.out.1.below B25.out) (by rw [HM.out]; omega) G2.out.2
          rw [psub_eq HR.out HKU.out, HUN.out, HM.out] at HY0
          obtain ⟨⟨y, p1, e1⟩, hY⟩ : ∃ R, substT us k zs = R := ⟨_, rfl⟩
          rw [hY] at HY0
          have HYQ := Lib.hid hY
          have HY := Lib.hid HY0
          clear b5 HAL HY0 hY
          go_wp2_with fail
          refine HY.out.mono ?_
          intro e w6 hres
          obtain ⟨yo, yc, ee, hap, hyc, b6⟩ := hres
          have ee : e = .returned (.tuple #[.slice yo y.length yc, .int .i64 p1, .int .i64 e1]) := ee
          subst ee
          have B6 := Lib.hid (B5.out.trans (b6.mono B5.out.size))
          have B26 := Lib.hid (B25.out.trans (b6.mono B25.out.size))
          have RY := Lib.hid (show ARow w6 yo y from hap)
          have hyc : y.length ≤ yc := hyc
          clear b6 hap HY
          by_cases he1 : e1 = 0
          · subst he1
            obtain ⟨I, hW, hp1, hp10, hp11⟩ := sub_went HR.out HKU.out HYQ.out
            have HW := Lib.hid hW
            obtain ⟨q1, rfl⟩ : ∃ q : Nat, p1 = (q : Int) := ⟨p1.toNat, by omega⟩
            have hq1 : q1 < y.length := by omega
            have HQ1 := Lib.hid (show (I k).toNat = q1 by rw [← hp1, Int.toNat_natCast])
            have HQL := Lib.hid hq1
            have hyl := (right_step hW.right).1
            have HZ0 := subst_any y yo yc (q1 : Int) os x0 xc0 w6 RY.out (by omega) hyc (HE2.out.below B26.out) (X2.out.1.below B26.out) (by rw [HOM.out]; omega) X2.out.2
            rw [psub_eq hW.right hq1, HOM.out] at HZ0
            obtain ⟨⟨z, p2, e2⟩, hZ⟩ : ∃ R, substT y q1 os = R := ⟨_, rfl⟩
            rw [hZ] at HZ0
            have HZQ := Lib.hid hZ
            have HZ := Lib.hid HZ0
            clear HZ0 hZ hp1 hp10 hp11 hq1 hW
            go_wp2_with fail
            refine HZ.out.mono ?_
            intro e w7 hres
            obtain ⟨zo, zc, ee, hap, hzc, b7⟩ := hres
            have ee : e = .returned (.tuple #[.slice zo z.length zc, .int .i64 p2, .int .i64 e2]) := ee
            subst ee
            have B7 := Lib.hid (B6.out.trans (b7.mono B6.out.size))
            have B27 := Lib.hid (B26.out.trans (b7.mono B26.out.size))
            have RZ := Lib.hid (show ARow w7 zo z from hap)
            have hzc : z.length ≤ zc := hzc
            clear b7 hap HZ
            by_cases he2 : e2 = 0
            · subst he2
              obtain ⟨J, hV, hp2, -, -⟩ := sub_went HW.out.right HQL.out HZQ.out
              have HV := Lib.hid hV
              have HP2 := Lib.hid hp2
              have S1 := Lib.hid (show BothOk y z z zs J q1 [] 0 from ⟨hV.right, Ext.refl _, rfl, fun j hj => absurd hj (Nat.not_lt_zero _), fun j hj => absurd hj (Nat.not_lt_zero _)⟩)
              have O1 := Lib.hid (ownK_nil w7 w7.heap.size)
              have A1 := Lib.hid (show ApV (.slice none 0 0) w7 zo z from RZ.out)
              have BB1 := Lib.hid (Below.refl w7.heap.size w7)
              have HE7 := Lib.hid (HE2.out.below B27.out)
              have G7 := Lib.hid (And.intro (G2.out.1.below B27.out) G2.out.2)
              have X7 := Lib.hid (And.intro (X2.out.1.below B27.out) X2.out.2)
              have hzi := (psub_eq HR.out HKU.out zs).symm
              clear hV hp2 hzi
              go_wp2_with fail
              go_loopw [29, 30, 164] (fun v29 v30 v164 wr => ∃ (q : Nat) (now : List Ty) (no : Option Addr) (nc : Nat) (both : List Int), q ≤ m ∧ v29 = .slice no now.length nc ∧ v164 = .int .i64 q ∧ now.length ≤ nc ∧ Hid (OwnK wr w7.heap.size v30 both) ∧ Hid (ApV v30 wr no now) ∧ Hid (BothOk y z now zs J q1 both q) ∧ Hid (Below w7.heap.size w7 wr)) (fun _ _ v _ => m - (intOf v).toNat)
              case atStart => exact ⟨0, z, zo, zc, [], Nat.zero_le _, rfl, rfl, hzc, O1, A1, S1, BB1⟩
              case round =>
                obtain ⟨q, now, no, nc, both, hq, rfl, rfl, hnc, HO2, HAP2, HBO, HB2⟩ := hrel
                obtain ⟨wq, hwq⟩ : ∃ wq, wq = wr := ⟨_, rfl⟩
                subst hwq
                have HBW2 := Lib.hid (B7.out.trans (HB2.out.mono B7.out.size))
                have hnl := (right_step HBO.out.right).1
                have HUZ := Lib.hid (show us.length ≤ now.length from Nat.le_trans HW.out.ext.2 (Nat.le_trans HV.out.ext.2 HBO.out.ext.2))
                by_cases hqm : q < m
                · have hqI : (q : Int) < (m : Int) := by omega
                  obtain ⟨gb, gof, rfl, hgb, hgcell⟩ := G7.out.1.cells (by rw [HM.out]; omega)
                  have cg := (HB2.out.cell (p := ⟨gb, gof + q, none⟩) hgb).trans (hgcell q (by rw [HM.out]; exact hqm))
                  have hin := in_arena HW.out.inn (k := q) (by rw [HM.out]; exact hqm)
                  obtain ⟨a, ha⟩ : ∃ a : Nat, zs.getD q 0 = (a : Int) := ⟨(zs.getD q 0).toNat, by omega⟩
                  rw [ha] at cg hin
                  have hal : a < now.length := by have := HUZ.out; omega
                  have HS0 := subst_ap u30 now no nc (a : Int) os x0 xc0 wq HAP2.out (by omega) hnc (HE7.out.below HB2.out) (X7.out.1.below HB2.out) (by rw [HOM.out]; omega) X7.out.2
                  rw [psub_eq HBO.out.right hal, HOM.out] at HS0
                  obtain ⟨⟨M, pl, e3⟩, hM⟩ : ∃ R, substT now a os = R := ⟨_, rfl⟩
                  rw [hM] at HS0
                  have HMQ := Lib.hid hM
                  have HS := Lib.hid HS0
                  have HAL2 := Lib.hid (And.intro hal ha)
                  clear HS0 hM hgcell hgb hin hal ha
                  go_wp2_with fail
                  refine HS.out.mono ?_
                  intro e w8 hres
                  obtain ⟨mo2, mc2, ee, hap, hmc2, b8⟩ := hres
                  have ee : e = .returned (.tuple #[.slice mo2 M.length mc2, .int .i64 pl, .int .i64 e3]) := ee
                  subst ee
                  have B8 := Lib.hid (HB2.out.trans (b8.mono HB2.out.size))
                  have HAP8 := Lib.hid (show ApV u30 w8 mo2 M from hap)
                  have HO8 := Lib.hid (show OwnK w8 w7.heap.size u30 both from row_kept HO2.out b8)
                  have hmc2 : M.length ≤ mc2 := hmc2
                  clear hap b8 cg HS
                  by_cases he3 : e3 = 0
                  · subst he3
                    have HNX := Lib.hid (HBO.out.next HW.out.right HQL.out HV.out HAL2.out.1 HAL2.out.2 HMQ.out)
                    have HOZ := Lib.hid (show w8.ownsRow w7.heap.size 3 1 u30 q (intC both) from by have h := HO8.out; unfold OwnK at h; rw [HBO.out.len] at h; exact h)
                    have hB8 := B8.out.size
                    go_wp2_with (at_builtin; refine wpList_append_own_at _ rfl _ _ 23 rfl w7.heap.size 3 k0 (.int .i64 0) 1 8 Tryz.underlying23 hki hk0 hk1 hk2 rfl (by decide) _ q (intC both) rfl (HOZ.out.alloc _) ⟨w8.heap.size, 0, none⟩ 1 1 [.int .i64 pl] rfl ?t1 ?t2 ?t3 ?t4 ?t5 ?t6 ?_)
                    case t1 => rfl
                    case t2 => exact cell_news _ _ _
                    case t3 => exact fun v hv => by rw [List.mem_singleton.1 hv]; rfl
                    case t4 => unfold maxLen; omega
                    case t5 => omega
                    case t6 => simp; omega
                    intro v' w9 hown9 hgrow9 _ hblk9
                    have HPU := Lib.hid (push_int1 (z := pl) HO8.out B8.out (by rw [HBO.out.len]; exact hown9) hgrow9)
                    have HAV := Lib.hid ((HAP8.out.below ((Below.refl _ _).alloc (Nat.le_refl _) _)).grow hgrow9 (by simpa using hblk9) (fun g hg => (World.ownsRow.lt hown9 g hg).2))
                    clear hown9 hgrow9 hblk9
                    go_wp2_with fail
                    go_roundw
                    case rel => exact ⟨q + 1, M, mo2, mc2, both ++ [pl], by omega, rfl, by go_num, hmc2, Lib.hid HPU.out.1, HAV, HNX, Lib.hid HPU.out.2⟩
                    case measure => first | (simp [intOf]; done) | (simp [intOf]; omega)
                  · have hq3 : (e3 != 0) = true := by simp [he3]
                    clear he3
                    go_wp2_with fail
                    go_ret
                    exact ⟨by first | rfl | (simp; done), B7.out.trans (B8.out.mono B7.out.size)⟩
                · obtain rfl : q = m := by omega
                  have hlen := HBO.out.len
                  have hkN : k < now.length := Nat.lt_of_lt_of_le HKU.out HUZ.out
                  have hts := two_steps (both := both) HR.out HKU.out HW.out (by rw [HQ1.out]; exact HV.out) HBO.out.ext HBO.out.right (by rw [hlen, HM.out]) (all_arena (fun j hj => HBO.out.inn j (by rw [hlen] at hj; exact hj))) (fun j hj hn => HBO.out.same j (by rw [HM.out] at hj; exact hj) (by rw [HQ1.out] at hn; exact hn))
                  rw [HQ1.out, ← HP2.out] at hts
                  obtain ⟨bo, bc, rfl, hbr, hbc⟩ := ownK_row HO2.out
                  have HS0 := subst_any now no nc (k : Int) both bo bc wq HAP2.out.out (by omega) hnc (HE7.out.below HB2.out) hbr (by omega) (fun a ha => by
                    obtain ⟨j, hj, rfl⟩ := List.getElem_of_mem ha
                    have h := HBO.out.inn j (by omega)
                    rw [getD_of hj] at h
                    omega)
                  rw [psub_eq HBO.out.right hkN, hts, hlen] at HS0
                  have HS := Lib.hid HS0
                  rw [hlen]
                  clear HS0 hts hbr hbc hkN hlen
                  go_wp2_with fail
                  refine HS.out.mono ?_
                  intro e w8 hres
                  obtain ⟨mo2, mc2, ee, hap, hmc2, b8⟩ := hres
                  have ee : e = .returned (.tuple #[.slice mo2 now.length mc2, .int .i64 p2, .int .i64 0]) := ee
                  subst ee
                  have B8 := Lib.hid (HBW2.out.trans (b8.mono HBW2.out.size))
                  have HPR0 := pright_any now mo2 mc2 w8 hap (by omega) hmc2 (HE7.out.below (HB2.out.trans (b8.mono HB2.out.size)))
                  rw [HBO.out.right] at HPR0
                  have HPR := Lib.hid HPR0
                  clear b8 hap hmc2 HPR0 HS
                  go_wp2_with fail
                  refine HPR.out.mono ?_
                  rintro e w9 ⟨rfl, b9⟩
                  have B9 := Lib.hid (B8.out.trans (b9.mono B8.out.size))
                  clear b9
                  go_wp2_with fail
                  go_ret
                  exact ⟨by first | rfl | (simp; done), B9.out⟩
            · have hq2 : (e2 != 0) = true := by simp [he2]
              clear he2
              go_wp2_with fail
              go_ret
              exact ⟨by first | rfl | (simp; done), B7.out⟩
          · have hq1 : (e1 != 0) = true := by simp [he1]
            clear he1
            go_wp2_with fail
            go_ret
            exact ⟨by first | rfl | (simp; done), B6.out⟩
  · have hpT : paramsT us i = (0, thereT us i) := by unfold paramsT; rw [if_neg hth]
    rw [hpT] at HP
    obtain ⟨te, hte⟩ : ∃ te, thereT us i = te := ⟨_, rfl⟩
    rw [hte] at HP hth
    have hqe : (te != 0) = true := by simp [hth]
    clear hpT hte hth
    go_wp2_with fail
    refine HP.out.mono ?_
    rintro e w2 ⟨rfl, b2⟩
    have B2 := Lib.hid (B1.out.trans (b2.mono B1.out.size))
    have HAL := Lib.hid (alive_any w2 (HE1.out.below b2))
    clear b2
    go_wp2_with fail
    refine HAL.out.mono ?_
    rintro e w3 ⟨rfl, b3⟩
    have B3 := Lib.hid (B2.out.trans (b3.mono B2.out.size))
    clear b3
    go_wp2_with fail
    go_ret
    exact ⟨by first | rfl | (simp; done), B3.out⟩
end Go.Proofs.YtleiaghegokjkaaGreatDoor
