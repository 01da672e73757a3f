import Derived.Test.YtkmnfkhchcoamaaGreatDoorTypPMade
import Derived.Test.YtkmnfkhchcoamaaGreatDoorTypMap
import Derived.Test.YtkmnfkhchcoamaaGreatDoorTypKey
import Derived.Test.YtkmnfkhchcoamaaGreatDoorTypPB
import Derived.Test.YtkmnfkhchcoamaaGreatDoorTypRefRight
import Derived.Test.YtkmnfkhchcoamaaGreatDoorRegG
/- The program's index. -/
namespace Go.Proofs.YtkmnfkhchcoamaaGreatDoor
open Go.RowKit
set_option linter.unusedSimpArgs false
set_option linter.unusedVariables false

/-- The listed variables. -/
structure Env (w : World) : Prop where
  basics : EnvB w
  max : MaxAt w
  pow : PowAt w
theorem Env.below {w w' : World} (h : Env w) (hb : Below w.heap.size w w') : Env w' := ⟨h.basics.below hb, h.max.below hb, h.pow.below hb⟩
def noT : Ty := ⟨0, ⟨#[]⟩, 0, [], []⟩
/-- The keys of the types up to k, and their places. -/
def pairs (l : List Ty) (k : Nat) : List (Ky × Nat) := (List.range (k - 22)).map fun i => (keyT (l.getD (i + 22) noT), i + 22)
theorem pairs_zero (l : List Ty) : pairs l 22 = [] := rfl
theorem pairs_succ {l : List Ty} {k : Nat} (h : 22 ≤ k) : pairs l (k + 1) = pairs l k ++ [(keyT (l.getD k noT), k)] := by
  unfold pairs
  rw [show k + 1 - 22 = (k - 22) + 1 by omega, List.range_succ, List.map_append, List.map_cons, List.map_nil, show k - 22 + 22 = k by omega]
theorem pairs_len (l : List Ty) (k : Nat) : (pairs l k).length = k - 22 := by unfold pairs; simp
theorem pairs_mem {l : List Ty} {k : Nat} {p : Ky × Nat} (h : p ∈ pairs l k) : ∃ i, 22 ≤ i ∧ i < k ∧ p = (keyT (l.getD i noT), i) := by
  unfold pairs at h
  obtain ⟨i, hi, rfl⟩ := List.mem_map.1 h
  rw [List.mem_range] at hi
  exact ⟨i + 22, by omega, by omega, rfl⟩
theorem mem_pairs {l : List Ty} {k i : Nat} (h1 : 22 ≤ i) (h2 : i < k) : (keyT (l.getD i noT), i) ∈ pairs l k := by
  unfold pairs
  refine List.mem_map.2 ⟨i - 22, List.mem_range.2 (by omega), ?_⟩
  rw [show i - 22 + 22 = i by omega]
theorem keyT_ok {t : Ty} (h : TyOk t) (hs : TySm t) : KyOk (keyT t) := by
  have hk : ∀ i, -9223372036854775808 ≤ t.kids.getD i 0 ∧ t.kids.getD i 0 ≤ 9223372036854775807 := fun i => by
    by_cases hi : i < t.kids.length
    · exact h.ks _ (getD_mem hi)
    · rw [List.getD_eq_getElem?_getD, List.getElem?_eq_none (by omega)]
      exact ⟨by decide, by decide⟩
  refine ⟨h.nums.1, h.nums.2, ?_, hk 0, hk 1, ?_⟩
  · show _ ≤ (t.kids.length : Int) ∧ (t.kids.length : Int) ≤ _
    have := h.kl
    omega
  · show (restL t).length ≤ 20001000
    unfold restL
    have h1 : (baseL t).length ≤ 20000000 := baseT_size h hs
    have h2 := kidsL_len (ks := t.kids.drop 2) (fun x hx => h.ks x (List.mem_of_mem_drop hx))
    have h3 := h.kl
    have h4 : (t.kids.drop 2).length ≤ 18 := by rw [List.length_drop]; omega
    rw [List.length_append]
    omega
theorem step_basic {l : List Ty} {k : Nat} {x : Ty} (hk : 22 ≤ k) (hl : k < l.length) (hb : ∀ j (hj : j < l.length), j < 22 → l[j] = bas j) (h : 0 ≤ atT basics x) : stepB l k x = false := by
  have hm : x ∈ basics := by
    have := mt (atT_neg (l := basics) (t := x)).2
    exact Classical.byContradiction fun g => this (by omega) g
  obtain ⟨j, hj, rfl⟩ := List.getElem_of_mem hm
  have hj' : j < 22 := by rw [basics_len] at hj; exact hj
  refine step_at (by omega) ?_
  have : ¬ atT (l.take k) basics[j] < 0 := fun g => (atT_neg.1 g) (by
    rw [List.mem_take_iff_getElem]
    exact ⟨j, by omega, (hb j (by omega) hj').trans (bas_get hj).symm⟩)
  omega
theorem step_twice {l : List Ty} {k i : Nat} {x : Ty} (hk : ¬ k < 22) (hl : k ≤ l.length) (hi : i < k) (h : l[i]'(by omega) = x) : stepB l k x = false := by
  refine step_at hk ?_
  have : ¬ atT (l.take k) x < 0 := fun g => (atT_neg.1 g) (by
    rw [← h, List.mem_take_iff_getElem]
    exact ⟨i, by omega, rfl⟩)
  omega
theorem step_ok {l : List Ty} {k : Nat} {x : Ty} (hk : 22 ≤ k) (hl : k < l.length) (hb : ∀ j (hj : j < l.length), j < 22 → l[j] = bas j) (hst : ∀ j (hj : j < l.length), j < k → stepB l j l[j] = true)
    (hm : madeB (l.take k) x = true) (hn : atT basics x < 0) (hp : ∀ p ∈ pairs l k, p.1 ≠ keyT x) : stepB l k x = true := by
  refine step_yes (by omega) hm (atT_neg.2 fun g => ?_)
  rw [List.mem_take_iff_getElem] at g
  obtain ⟨j, hj, rfl⟩ := g
  by_cases hj2 : j < 22
  · refine absurd hn ?_
    have : ¬ atT basics l[j] < 0 := fun e => (atT_neg.1 e) (by
      rw [hb j (by omega) hj2, ← bas_get (by rw [basics_len]; exact hj2)]
      exact List.getElem_mem _)
    exact this
  · have := hp _ (mem_pairs (l := l) (k := k) (i := j) (by omega) (by omega))
    rw [getD_of (by omega)] at this
    exact this rfl
theorem step_parts {l : List Ty} {j : Nat} {x : Ty} (h : stepB l j x = true) (hj : ¬ j < 22) : Made x := by
  unfold stepB at h
  rw [if_neg hj, Bool.and_eq_true] at h
  exact made_shape h.1
theorem key_twice {l : List Ty} {k : Nat} {x : Ty} (hk : 22 ≤ k) (hl : k ≤ l.length) (hst : ∀ j (hj : j < l.length), j < k → stepB l j l[j] = true) (hm : madeB (l.take k) x = true) {p : Ky × Nat} (hp : p ∈ pairs l k) (he : p.1 = keyT x) : stepB l k x = false := by
  obtain ⟨i, h1, h2, rfl⟩ := pairs_mem hp
  have hi : i < l.length := by omega
  refine step_twice (by omega) hl h2 (keyT_inj (step_parts (hst i hi h2) (by omega)) (made_shape hm) ?_)
  have he : keyT (l.getD i noT) = keyT x := he
  rwa [getD_of hi] at he
theorem low_right {l : List Ty} {j : Nat} (hj : j < l.length) (h22 : j < 22) : stepB l j l[j] = decide (l[j] = bas j) := by
  rw [step_low h22, bas_get]
theorem make_map (m : Int) (w : World) : (Instr.makeMap 77 (some (.int .i64 m))).run Tryz.prog w = .ok (.map (some w.heap.size)) (w.alloc (.map #[] 0)) := by
  simp [Instr.makeMap, run_underlying Tryz.underlying77, asInt, asIntOf, Result.andThen]
/-- What index gives. -/
def IdxR (l : List Ty) (w : World) (e : Ending) (w' : World) : Prop :=
  ∃ mo, e = .returned (.tuple #[.map mo, .bool (rightT l)]) ∧ Below w.heap.size w w' ∧ (rightT l = true → ∃ b, mo = some b ∧ w.heap.size ≤ b ∧ KMap w' b (pairs l l.length))
theorem idx_no {l : List Ty} {w w' : World} (h : rightT l = false) (hb : Below w.heap.size w w') : IdxR l w (.returned (.tuple #[.map none, .bool false])) w' :=
  ⟨none, by rw [h], hb, fun g => by rw [h] at g; cases g⟩
theorem idx_yes {l : List Ty} {w w' : World} {b n : Nat} (h : rightT l = true) (hb : Below w.heap.size w w') (hm : w.heap.size ≤ b) (hn : l.length = n) (hk : KMap w' b (pairs l n)) : IdxR l w (.returned (.tuple #[.map (some b), .bool true])) w' :=
  ⟨some b, by rw [h], hb, fun _ => ⟨b, rfl, hm, by rw [hn]; exact hk⟩⟩
set_option maxHeartbeats 16000000 in
set_option maxRecDepth 100000 in
theorem index_any (l : List Ty) (ao : Option Addr) (ac : Nat) (w : World) (hl : ARow w ao l) (ll : l.length ≤ 1000) (hac : l.length ≤ ac) (hE : Env w) :
    Calls Tryz.prog 48 #[.slice ao l.length ac] w (IdxR l w) := by
  obtain ⟨n, hn⟩ : ∃ n, l.length = n := ⟨_, rfl⟩
  have HN := Lib.hid hn
  have HA := Lib.hid hl
  have HE := Lib.hid hE
  rw [hn] at ll hac ⊢
  clear hn hl hE
  by_cases c1 : n < 22
  · have Hn := Lib.hid (show rightT l = false from rightT_short (by rw [HN.out]; omega))
    go_enter Tryz.func48, Tryz.ntmps48
    go_wp2_with fail
    go_ret2
    exact idx_no Hn.out (Below.refl _ _)
  by_cases c2 : 400 < n
  · have Hn := Lib.hid (show rightT l = false from rightT_short (by rw [HN.out]; omega))
    go_enter Tryz.func48, Tryz.ntmps48
    go_wp2_with fail
    go_ret2
    exact idx_no Hn.out (Below.refl _ _)
  go_enter Tryz.func48, Tryz.ntmps48
  go_wp2_with fail
  go_loopw [19] (fun i wr => ∃ k : Nat, k ≤ 22 ∧ i = .int .i64 k ∧ Hid (∀ j (hj : j < l.length), j < k → l[j] = bas j) ∧ Hid (Below w.heap.size w wr)) (fun i _ => 22 - (intOf i).toNat)
  case atStart => exact ⟨0, Nat.zero_le _, rfl, Lib.hid (fun j _ hj => absurd hj (Nat.not_lt_zero _)), Lib.hid (Below.refl _ _)⟩
  case round =>
    obtain ⟨k, hk, rfl, Hall, HB⟩ := hrel
    by_cases hkl : k < 22
    · have hkx : k < l.length := by rw [HN.out]; omega
      obtain ⟨ab, aof, rfl, hab, hcl⟩ := (HA.out.below HB.out).cells (by omega)
      have hat := hcl k hkx
      obtain ⟨x, hx⟩ : ∃ x, l[k] = x := ⟨_, rfl⟩
      rw [hx] at hat
      have HX := Lib.hid hx
      obtain ⟨xw, xwc, xk, xkc, a0, a1, a2, a3, a4, hcap, -, hxc⟩ := hat
      have HBA := basic_any x xw xk xwc xkc k hkl wr hxc (HE.out.below HB.out).basics
      unfold tyV at HBA
      have HBA := Lib.hid HBA
      clear hx hcl hab hxc
      by_cases he : x = bas k
      · rw [decide_eq_true he] at HBA
        have Hx := Lib.hid (show ∀ j (hj : j < l.length), j < k + 1 → l[j] = bas j from fun j h1 hj => by
          rcases Nat.lt_or_eq_of_le (Nat.le_of_lt_succ hj) with h3 | h3
          · exact Hall.out j h1 h3
          · subst h3; rw [HX.out]; exact he)
        clear he
        go_wp2_with fail
        refine HBA.out.mono ?_
        rintro e w' ⟨rfl, b⟩
        have B2 := Lib.hid (HB.out.trans (b.mono HB.out.size))
        clear b a0 a1 a2 a3 a4
        go_wp2_with fail
        go_roundw
        case rel => exact ⟨k + 1, by omega, by go_num, Hx, B2⟩
        case measure => first | (simp [intOf]; done) | (simp [intOf]; omega)
      · rw [decide_eq_false he] at HBA
        have Hn := Lib.hid (show rightT l = false from rightT_no hkx (by rw [low_right hkx hkl, HX.out, decide_eq_false he]))
        clear he
        go_wp2_with fail
        refine HBA.out.mono ?_
        rintro e w' ⟨rfl, b⟩
        have B2 := Lib.hid (HB.out.trans (b.mono HB.out.size))
        clear b a0 a1 a2 a3 a4
        go_wp2_with fail
        go_ret2
        exact idx_no Hn.out B2.out
    · have HK22 := Lib.hid (show k = 22 by omega)
      have Hall := Lib.hid (show ∀ j (hj : j < l.length), j < 22 → l[j] = bas j from fun j hj h => Hall.out j hj (by rw [HK22.out]; exact h))
      obtain ⟨w2, hw2⟩ : ∃ w2, w2 = wr := ⟨_, rfl⟩
      subst hw2
      obtain ⟨wm, hwm⟩ : ∃ wm, w2.alloc (.map #[] 0) = wm := ⟨_, rfl⟩
      obtain ⟨mb, hmb⟩ : ∃ mb, w2.heap.size = mb := ⟨_, rfl⟩
      have KM0 := kmap_new w2
      have hmm := make_map ((n - 22 : Nat) : Int) w2
      have BM0 : Below w2.heap.size w2 wm := by rw [← hwm]; exact (Below.refl _ _).alloc (Nat.le_refl _) _
      rw [hwm, hmb] at KM0 hmm
      have HMB := Lib.hid hmb
      have KM := Lib.hid (show KMap wm mb (pairs l 22) from KM0)
      have BM := Lib.hid BM0
      have HBAS := Hall
      have HSTEP := Lib.hid (show ∀ j (hj : j < l.length), j < 22 → stepB l j l[j] = true from fun j hj h => by rw [low_right hj h, decide_eq_true (Hall.out j hj h)])
      have hsub : (n : Int) - 22 = ((n - 22 : Nat) : Int) := by omega
      have BW := HB
      clear KM0 BM0 Hall hwm hmb HB
      go_wp2_with fail
      clear hmm hsub
      go_loopw [6] (fun i wx => ∃ k : Nat, 22 ≤ k ∧ k ≤ n ∧ i = .int .i64 k ∧ Hid (∀ j (hj : j < l.length), j < k → stepB l j l[j] = true) ∧ Hid (KMap wx mb (pairs l k)) ∧ Hid (Below w2.heap.size w2 wx)) (fun i _ => n - (intOf i).toNat)
      case atStart => exact ⟨22, Nat.le_refl _, by omega, rfl, HSTEP, KM, BM⟩
      case round =>
        obtain ⟨k, hk0, hk, rfl, Hall, KM, HB⟩ := hrel
        have BB := Lib.hid (BW.out.trans (HB.out.mono BW.out.size))
        by_cases hkl : k < n
        · have hkx : k < l.length := by rw [HN.out]; exact hkl
          obtain ⟨ab, aof, rfl, hab, hcl⟩ := (HA.out.below BB.out).cells (by omega)
          have hat := hcl k hkx
          obtain ⟨x, hx⟩ : ∃ x, l[k] = x := ⟨_, rfl⟩
          rw [hx] at hat
          have HX := Lib.hid hx
          obtain ⟨xw, xwc, xk, xkc, a0, a1, a2, a3, a4, hcap, hkap, hxc⟩ := hat
          have HXO := Lib.hid hxc.ok
          clear hx hcl hab
          obtain ⟨wn, hwn⟩ : ∃ wn, wr.alloc (.cells #[.int .i64 x.kind, .string x.name, .int .i64 x.n, .slice xw x.words.length xwc, .slice xk x.kids.length xkc] 38) = wn := ⟨_, rfl⟩
          obtain ⟨k2, q2, z2⟩ := box_new hwn
          obtain ⟨c0, c1', c2', c3, c4⟩ := cell5 k2
          have BN := Lib.hid (HB.out.trans (q2.mono HB.out.size))
          have BNW := Lib.hid (BB.out.trans (q2.mono BB.out.size))
          have HXC := Lib.hid (And.intro hcap (And.intro hkap (hxc.below q2)))
          have ZL := Lib.hid (show wr.heap.size < wn.heap.size by omega)
          have KN := Lib.hid k2
          have KMN := Lib.hid (KM.out.below q2)
          have HEN := Lib.hid (HE.out.below BNW.out)
          clear k2 q2 z2 hxc hcap hkap
          have hlt : (l.take k).length = k := by rw [List.length_take]; omega
          have HMD0 := fun W (h : Below wn.heap.size wn W) => pmade_any (l.take k) (some ⟨ab, aof, none⟩) ac x xw xk xwc xkc W (((HA.out.below BNW.out).below h).take k) (HXC.out.2.2.below h) (by omega) HXC.out.1 (HEN.out.below h).max
          have HBP0 := fun W (h : Below wn.heap.size wn W) => basicPlace_any x xw xk xwc xkc W (HXC.out.2.2.below h) (HEN.out.below h).basics
          unfold tyV at HMD0 HBP0
          rw [hlt] at HMD0
          obtain ⟨mb1, hmb1⟩ : ∃ mb1, madeB (l.take k) x = mb1 := ⟨_, rfl⟩
          obtain ⟨at0, hat0⟩ : ∃ z, atT basics x = z := ⟨_, rfl⟩
          rw [hmb1] at HMD0
          rw [hat0] at HBP0
          have HMB1 := Lib.hid hmb1
          have HAB := Lib.hid hat0
          have HMD := Lib.hid HMD0
          have HBP := Lib.hid HBP0
          have hka : k ≤ ac := by omega
          clear HMD0 HBP0 hmb1 hat0 hlt
          cases mb1
          · have Hn := Lib.hid (show rightT l = false from rightT_no hkx (by rw [HX.out]; exact step_made (by omega) HMB1.out))
            go_wp2_with fail
            clear hwn a0 a1 a2 a3 a4
            have hB0 : Below wn.heap.size wn wn.drew := (Below.refl _ _).drew
            refine GoG.start [(4, ⟨wr.heap.size, 0, none⟩, .int .i64 x.kind), (4, ⟨wr.heap.size, 1, none⟩, .string x.name), (4, ⟨wr.heap.size, 2, none⟩, .int .i64 x.n), (4, ⟨wr.heap.size, 3, none⟩, .slice xw x.words.length xwc), (4, ⟨wr.heap.size, 4, none⟩, .slice xk x.kids.length xkc)] (by kernel_rfl) ?_ ?_
            · exact Keeps.cons (by first | exact c0 | assumption | simp [*]) (Keeps.cons (by first | exact c1' | assumption | simp [*]) (Keeps.cons (by first | exact c2' | assumption | simp [*]) (Keeps.cons (by first | exact c3 | assumption | simp [*]) (Keeps.cons (by first | exact c4 | assumption | simp [*]) (Keeps.nil)))))
            refine GoG.take (i := 0) (v := ?_) [] rfl (by kernel_rfl) (by kernel_rfl) (by kernel_rfl) (by kernel_rfl) (by kernel_rfl) (by kernel_rfl) (fun _ _ _ h => h) (yields_free (by rfl) (fun w => ?_)) ?_
            rotate_left
            · go_simp; try (with_reducible rfl)
            try simp only [Act.put, List.getElem_toArray, List.getElem_cons_succ, List.getElem_cons_zero, List.setIfInBounds_toArray, List.set_cons_zero, List.set_cons_succ]
            refine GoG.take (i := 1) (v := ?_) [] rfl (by kernel_rfl) (by kernel_rfl) (by kernel_rfl) (by kernel_rfl) (by kernel_rfl) (by kernel_rfl) (fun _ _ _ h => h) (yields_free (by rfl) (fun w => ?_)) ?_
            rotate_left
            · go_simp; try (with_reducible rfl)
            try simp only [Act.put, List.getElem_toArray, List.getElem_cons_succ, List.getElem_cons_zero, List.setIfInBounds_toArray, List.set_cons_zero, List.set_cons_succ]
            refine GoG.take (i := 2) (v := ?_) [] rfl (by kernel_rfl) (by kernel_rfl) (by kernel_rfl) (by kernel_rfl) (by kernel_rfl) (by kernel_rfl) (fun _ _ _ h => h) (yields_free (by rfl) (fun w => ?_)) ?_
            rotate_left
            · go_simp; try (with_reducible rfl)
            try simp only [Act.put, List.getElem_toArray, List.getElem_cons_succ, List.getElem_cons_zero, List.setIfInBounds_toArray, List.set_cons_zero, List.set_cons_succ]
            refine GoG.take (i := 3) (v := ?_) [4] rfl (by kernel_rfl) (by kernel_rfl) (by kernel_rfl) (by kernel_rfl) (by kernel_rfl) (by kernel_rfl) (fun _ _ _ h => h) (.inl ⟨by rfl, fun w hS => ?_⟩) ?_
            rotate_left
            · have g0 : w.cell? ⟨wr.heap.size, 0, none⟩ = some (.int .i64 x.kind) := hS (4, ⟨wr.heap.size, 0, none⟩, .int .i64 x.kind) (by simp) (by simp)
              have g1 : w.cell? ⟨wr.heap.size, 1, none⟩ = some (.string x.name) := hS (4, ⟨wr.heap.size, 1, none⟩, .string x.name) (by simp) (by simp)
              have g2 : w.cell? ⟨wr.heap.size, 2, none⟩ = some (.int .i64 x.n) := hS (4, ⟨wr.heap.size, 2, none⟩, .int .i64 x.n) (by simp) (by simp)
              have g3 : w.cell? ⟨wr.heap.size, 3, none⟩ = some (.slice xw x.words.length xwc) := hS (4, ⟨wr.heap.size, 3, none⟩, .slice xw x.words.length xwc) (by simp) (by simp)
              have g4 : w.cell? ⟨wr.heap.size, 4, none⟩ = some (.slice xk x.kids.length xkc) := hS (4, ⟨wr.heap.size, 4, none⟩, .slice xk x.kids.length xkc) (by simp) (by simp)
              clear hS
              go_simp; try (with_reducible rfl)
            try simp only [Act.put, List.getElem_toArray, List.getElem_cons_succ, List.getElem_cons_zero, List.setIfInBounds_toArray, List.set_cons_zero, List.set_cons_succ]
            refine GoG.one (i := 4) rfl (by kernel_rfl) (fun K hK => ?_)
            go_simp
            refine (HMD.out _ hB0).mono ?_
            rintro e w' ⟨rfl, bq⟩
            have hS2 := hB0.trans (bq.mono hB0.size)
            refine hK.out _ _ (Keeps.up (by rfl) (Keeps.up (by rfl) (Keeps.up (by rfl) (Keeps.up (by rfl) (Keeps.up (by rfl) (Keeps.nil)))))) ?_
            clear hK K
            try simp only [Act.put, List.getElem_toArray, List.getElem_cons_succ, List.getElem_cons_zero, List.setIfInBounds_toArray, List.set_cons_zero, List.set_cons_succ]
            refine GoG.take (i := 5) (v := ?_) [] rfl (by kernel_rfl) (by kernel_rfl) (by kernel_rfl) (by kernel_rfl) (by kernel_rfl) (by kernel_rfl) (fun _ _ _ h => h) (yields_free (by rfl) (fun w => ?_)) ?_
            rotate_left
            · go_simp; try (with_reducible rfl)
            try simp only [Act.put, List.getElem_toArray, List.getElem_cons_succ, List.getElem_cons_zero, List.setIfInBounds_toArray, List.set_cons_zero, List.set_cons_succ]
            refine GoG.take (i := 6) (v := ?_) [] rfl (by kernel_rfl) (by kernel_rfl) (by kernel_rfl) (by kernel_rfl) (by kernel_rfl) (by kernel_rfl) (fun _ _ _ h => h) (yields_free (by rfl) (fun w => ?_)) ?_
            rotate_left
            · go_simp; try (with_reducible rfl)
            try simp only [Act.put, List.getElem_toArray, List.getElem_cons_succ, List.getElem_cons_zero, List.setIfInBounds_toArray, List.set_cons_zero, List.set_cons_succ]
            refine GoG.take (i := 7) (v := undef) [] rfl (by kernel_rfl) (by kernel_rfl) (by kernel_rfl) (by kernel_rfl) (by kernel_rfl) (by kernel_rfl) (fun _ _ _ h => h) (.inr ⟨by rfl, rfl⟩) ?_
            try simp only [Act.put, List.getElem_toArray, List.getElem_cons_succ, List.getElem_cons_zero, List.setIfInBounds_toArray, List.set_cons_zero, List.set_cons_succ]
            refine GoG.take (i := 8) (v := undef) [] rfl (by kernel_rfl) (by kernel_rfl) (by kernel_rfl) (by kernel_rfl) (by kernel_rfl) (by kernel_rfl) (fun _ _ _ h => h) (.inr ⟨by rfl, rfl⟩) ?_
            try simp only [Act.put, List.getElem_toArray, List.getElem_cons_succ, List.getElem_cons_zero, List.setIfInBounds_toArray, List.set_cons_zero, List.set_cons_succ]
            refine GoG.take (i := 9) (v := undef) [] rfl (by kernel_rfl) (by kernel_rfl) (by kernel_rfl) (by kernel_rfl) (by kernel_rfl) (by kernel_rfl) (fun _ _ _ h => h) (.inr ⟨by rfl, rfl⟩) ?_
            try simp only [Act.put, List.getElem_toArray, List.getElem_cons_succ, List.getElem_cons_zero, List.setIfInBounds_toArray, List.set_cons_zero, List.set_cons_succ]
            refine GoG.take (i := 10) (v := ?_) [] rfl (by kernel_rfl) (by kernel_rfl) (by kernel_rfl) (by kernel_rfl) (by kernel_rfl) (by kernel_rfl) (fun _ _ _ h => h) (yields_free (by rfl) (fun w => ?_)) ?_
            rotate_left
            · go_simp; try (with_reducible rfl)
            try simp only [Act.put, List.getElem_toArray, List.getElem_cons_succ, List.getElem_cons_zero, List.setIfInBounds_toArray, List.set_cons_zero, List.set_cons_succ]
            refine GoG.done (by kernel_rfl) ?_ _
            have B2 := Lib.hid (BNW.out.trans (hS2.mono BNW.out.size))
            clear hS2 bq c0 c1' c2' c3 c4
            go_wp2_with fail
            go_ret2
            exact idx_no Hn.out B2.out
          · by_cases hneg : at0 < 0
            · have hge : ¬ (0 ≤ at0) := by omega
              go_wp2_with fail
              clear hwn a0 a1 a2 a3 a4
              go_region_held3 (fun w' => w'.cell? ⟨wr.heap.size, 0, none⟩ = some (.int .i64 x.kind) ∧ w'.cell? ⟨wr.heap.size, 1, none⟩ = some (.string x.name) ∧ w'.cell? ⟨wr.heap.size, 2, none⟩ = some (.int .i64 x.n) ∧ w'.cell? ⟨wr.heap.size, 3, none⟩ = some (.slice xw x.words.length xwc) ∧ w'.cell? ⟨wr.heap.size, 4, none⟩ = some (.slice xk x.kids.length xkc) ∧ Below wn.heap.size wn w')
                (first | exact ⟨c0, c1', c2', c3, c4, (Below.refl _ _).drew⟩ | assumption)
                (first | (go_at_call 56; refine (HMD.out _ (s5_below (by assumption))).mono ?_; rintro e w' ⟨rfl, bq⟩; have hS2 := s5_later ZL.out (by assumption) bq) | (go_at_call 69; refine (HBP.out _ (s5_below (by assumption))).mono ?_; rintro e w' ⟨rfl, bq3⟩; have hS3 := s5_later ZL.out (by assumption) bq3))
              have BQ := Lib.hid (s5_below hS3)
              have B2 := Lib.hid (BNW.out.trans (BQ.out.mono BNW.out.size))
              clear hS2 bq hS3 bq3 c0 c1' c2' c3 c4
              obtain ⟨w5, hw5⟩ : ∃ w5, w5 = w' := ⟨_, rfl⟩
              subst hw5
              obtain ⟨c0, c1', c2', c3, c4⟩ := cell5 (KN.out.below BQ.out)
              have HSM := Lib.hid (made_small HMB1.out)
              have HOK := Lib.hid (keyT_ok HXO.out HSM.out)
              have HKY0 := keyOf_any x xw xk xwc xkc w5 (HXC.out.2.2.below BQ.out) HSM.out HXC.out.1 HXC.out.2.1 (HEN.out.below BQ.out).pow
              obtain ⟨ky, hky⟩ : ∃ ky, keyT x = ky := ⟨_, rfl⟩
              rw [hky] at HKY0 HOK
              have HKE := Lib.hid hky
              unfold tyV at HKY0
              have HKY := Lib.hid HKY0
              clear HKY0 hky
              go_wp2_with fail
              refine HKY.out.mono ?_
              rintro e w6 ⟨rfl, b6⟩
              unfold keyV
              have B6 := Lib.hid (B2.out.trans (b6.mono B2.out.size))
              obtain ⟨w7, hw7⟩ : ∃ w7, w6.alloc (.cells #[.int .i64 ky.kind, .int .i64 ky.n, .int .i64 ky.many, .int .i64 ky.k0, .int .i64 ky.k1, .string ky.rest] 100) = w7 := ⟨_, rfl⟩
              obtain ⟨k7, q7, z7⟩ := box_new hw7
              have KM7 := Lib.hid (((KMN.out.below BQ.out).below b6).below q7)
              have B7 := Lib.hid (B6.out.trans (q7.mono B6.out.size))
              have BB7 := Lib.hid (BN.out.trans ((BQ.out.trans ((b6.trans (q7.mono b6.size)).mono BQ.out.size)).mono BN.out.size))
              obtain ⟨d0, d1, d2, d3, d4, d5⟩ := cell6 k7
              clear b6 k7 q7 z7 c0 c1' c2' c3 c4
              by_cases hd : ∃ p ∈ pairs l k, p.1 = ky
              · obtain ⟨⟨ky', i⟩, hp, he⟩ := hd
                have he : ky' = ky := he
                have Hn := Lib.hid (show rightT l = false from rightT_no hkx (by rw [HX.out]; exact key_twice hk0 (by omega) Hall.out HMB1.out hp (by rw [HKE.out]; exact he)))
                rw [he] at hp
                have hlk := KM7.out.hit HOK.out hp
                unfold keyV at hlk
                clear hp he
                go_wp2_with fail
                go_ret2
                exact idx_no Hn.out B7.out
              · have hno : ∀ p ∈ pairs l k, p.1 ≠ ky := fun p hp g => hd ⟨p, hp, g⟩
                have hlk := KM7.out.miss HOK.out hno
                obtain ⟨w8, hst, km8, g8⟩ := KM7.out.store HOK.out hno (i := k) (by omega) (by rw [pairs_len]; omega)
                unfold keyV at hlk hst
                have Hst := Lib.hid (step_ok hk0 hkx HBAS.out Hall.out HMB1.out (by rw [HAB.out]; exact hneg) (by rw [HKE.out]; exact hno))
                have Hx := Lib.hid (show ∀ j (hj : j < l.length), j < k + 1 → stepB l j l[j] = true from fun j h1 hj => by
                  rcases Nat.lt_or_eq_of_le (Nat.le_of_lt_succ hj) with h3 | h3
                  · exact Hall.out j h1 h3
                  · subst h3; rw [HX.out]; exact Hst.out)
                have KM8 := Lib.hid (show KMap w8 mb (pairs l (k + 1)) from by
                  rw [pairs_succ hk0, getD_of hkx, HX.out, HKE.out]
                  exact km8)
                have B8 := Lib.hid (BB7.out.grown g8 BB7.out.size (fun j hj => by injection hj with hj; rw [← hj, ← HMB.out]; exact Nat.le_refl _))
                clear hno hd km8 g8
                go_wp2_with fail
                go_roundw
                case rel => exact ⟨k + 1, by omega, by omega, by go_num, Hx, KM8, B8⟩
                case measure => first | (simp [intOf]; done) | (simp [intOf]; omega)
            · have Hn := Lib.hid (show rightT l = false from rightT_no hkx (by rw [HX.out]; exact step_basic hk0 hkx HBAS.out (by rw [HAB.out]; omega)))
              have hge : 0 ≤ at0 := by omega
              go_wp2_with fail
              clear hwn a0 a1 a2 a3 a4
              go_region_held3 (fun w' => w'.cell? ⟨wr.heap.size, 0, none⟩ = some (.int .i64 x.kind) ∧ w'.cell? ⟨wr.heap.size, 1, none⟩ = some (.string x.name) ∧ w'.cell? ⟨wr.heap.size, 2, none⟩ = some (.int .i64 x.n) ∧ w'.cell? ⟨wr.heap.size, 3, none⟩ = some (.slice xw x.words.length xwc) ∧ w'.cell? ⟨wr.heap.size, 4, none⟩ = some (.slice xk x.kids.length xkc) ∧ Below wn.heap.size wn w')
                (first | exact ⟨c0, c1', c2', c3, c4, (Below.refl _ _).drew⟩ | assumption)
                (first | (go_at_call 56; refine (HMD.out _ (s5_below (by assumption))).mono ?_; rintro e w' ⟨rfl, bq⟩; have hS2 := s5_later ZL.out (by assumption) bq) | (go_at_call 69; refine (HBP.out _ (s5_below (by assumption))).mono ?_; rintro e w' ⟨rfl, bq3⟩; have hS3 := s5_later ZL.out (by assumption) bq3))
              have B2 := Lib.hid (BNW.out.trans ((s5_below hS3).mono BNW.out.size))
              clear hS2 bq hS3 bq3 c0 c1' c2' c3 c4
              go_wp2_with fail
              go_ret2
              exact idx_no Hn.out B2.out
        · obtain rfl : k = n := by omega
          have Hy := Lib.hid (rightT_yes (l := l) (by rw [HN.out]; omega) (fun j hj => Hall.out j hj (by rw [← HN.out]; exact hj)))
          go_wp2_with fail
          go_ret2
          exact idx_yes Hy.out BB.out (by rw [← HMB.out]; exact BW.out.size) HN.out KM.out
end Go.Proofs.YtkmnfkhchcoamaaGreatDoor

