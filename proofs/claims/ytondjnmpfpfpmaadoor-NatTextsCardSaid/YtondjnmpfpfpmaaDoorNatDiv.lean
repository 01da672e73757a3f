/- Division. -/
import Derived.Test.YtondjnmpfpfpmaaDoorNatLong
import Derived.Laws.AppendOwn
import Derived.Laws.AppendOwnNone
namespace Go.Proofs.YtondjnmpfpfpmaaDoor
open Go.RowKit NM

/-- A row that an append has made is a slice of limbs. -/
theorem own_sl {w : World} {base : Nat} {v : Value} {n : Nat} {xs : List Int} (h : w.ownsRow base 59 1 v n (xs.map (Value.int .u32))) (hn : xs.length = n) (uu : U32s xs) (hl : xs.length ≤ 1000000) : Sl w v xs := by
  obtain ⟨h1, h2⟩ := h
  rcases h2 with ⟨rfl, h0⟩ | ⟨g, cap, cur, rfl, hg, hh, h3, h4, h5, h6⟩
  · have : xs = [] := List.eq_nil_of_length_eq_zero (by omega)
    subst this
    exact ⟨none, 0, rfl, Nat.le_refl _, .inl rfl, U32s_nil, by simp, fun _ => rfl⟩
  · refine ⟨some ⟨g, 0, none⟩, cap, by rw [hn], by omega, ?_, uu, by omega, fun h => by cases h⟩
    by_cases he : xs = []
    · exact .inl he
    · refine .inr ⟨g, 0, rfl, lt_of_block hh, fun i hi => ?_⟩
      rw [Nat.zero_add]
      simp only [World.cell?, hh, Option.isSome_none, Bool.false_eq_true, if_false]
      have e : cur[i]? = (cur.toList.take (n * 1))[i]? := by
        rw [List.getElem?_take_of_lt (by omega)]
        simp
      rw [e, h6]
      simp [lb, hi]

set_option maxHeartbeats 800000 in
set_option maxRecDepth 100000 in
theorem div_zero (v u : Value) (N : Int) (w : World) (h1 : Num w v N) (h2 : Num w u 0) :
    Calls Tryd.prog 22 #[v, u] w fun e w' => e = .returned (.tuple #[.slice none 0 0, .slice none 0 0, .int .i64 4]) ∧ Below w.heap.size w w' := by
  have R1 := Lib.hid (right_num h1)
  have R2 := Lib.hid (right_num h2)
  obtain ⟨ys, ⟨bo, cb, rfl, _, rb, uy, _⟩, ry, hvy⟩ := h2
  have hy : ys = [] := by
    by_cases h : ys = []
    · exact h
    · have := val_pos (rightB_canon uy ry).1 h
      omega
  subst hy
  clear h1 rb uy ry hvy
  go_enter Tryd.func22, Tryd.ntmps22
  go_wp2_with fail
  refine R1.out.mono ?_
  rintro e w' ⟨rfl, rfl⟩
  go_wp2_with fail
  refine R2.out.mono ?_
  rintro e w' ⟨rfl, rfl⟩
  go_wp2_with fail
  go_ret3
  exact ⟨rfl, Below.refl _ _⟩

theorem Num.len {w : World} {v : Value} {N : Int} (h : Num w v N) : ∃ ao n cap, v = .slice ao n cap ∧ n ≤ 16 ∧ (n = 0 ↔ N = 0) ∧ (n = 1 → ∃ b off, ao = some ⟨b, off, none⟩ ∧ w.cell? ⟨b, off, none⟩ = some (.int .u32 N) ∧ N < 4294967296) ∧ (2 ≤ n → 4294967296 ≤ N) := by
  obtain ⟨xs, ⟨ao, ca, rfl, _, ra, ux, _⟩, rx, rfl⟩ := h
  obtain ⟨cx, lx⟩ := rightB_canon ux rx
  refine ⟨ao, _, ca, rfl, lx, ?_, ?_, ?_⟩
  · constructor
    · intro h
      rw [List.eq_nil_of_length_eq_zero h]
      rfl
    · intro h
      by_cases he : xs = []
      · rw [he]; rfl
      · have := val_pos cx he; omega
  · intro h
    obtain ⟨b, off, rfl, _, hc⟩ := ra.cells (by omega)
    have h0 := hc 0 (by omega)
    match xs, h with
    | [x], _ =>
      have := ux x (by simp)
      refine ⟨b, off, rfl, ?_, by simp [val]; omega⟩
      rw [Nat.add_zero] at h0
      rw [h0]
      simp [lb, val]
  · intro h
    have h1 := val_ge_of_last cx (by intro e; rw [e] at h; simp at h)
    have h2 := pw_mono (show 1 ≤ xs.length - 1 by omega)
    have e : pw 1 = 4294967296 := rfl
    omega

set_option maxHeartbeats 800000 in
set_option maxRecDepth 100000 in
theorem div_less (v u : Value) (N M : Int) (w : World) (h1 : Num w v N) (h2 : Num w u M) (hlt : N < M) :
    Calls Tryd.prog 22 #[v, u] w fun e w' => (∃ r, e = .returned (.tuple #[.slice none 0 0, r, .int .i64 0]) ∧ Num w' r N) ∧ Below w.heap.size w w' := by
  have R1 := Lib.hid (right_num h1)
  have R2 := Lib.hid (right_num h2)
  have hC := compare_num h1 h2
  rw [show sgn N M = -1 by rw [sgn, if_pos hlt]] at hC
  have C := Lib.hid hC
  have hr := h1.range
  obtain ⟨bo, nb, cb, rfl, hb16, hb0, -, -⟩ := h2.len
  have hbn : ((nb : Int) == 0) = false := by
    rw [beq_eq_false_iff_ne]
    intro h
    have := hb0.1 (by omega)
    omega
  have H1 := Lib.hid h1
  obtain ⟨xs, ⟨ao, ca, rfl, hca, ra, ux, _, hao⟩, rx, hvx⟩ := h1
  obtain ⟨cx, lx⟩ := rightB_canon ux rx
  have Hvx := Lib.hid hvx
  have Hrx := Lib.hid rx
  obtain ⟨i0, hi, hz0, hz1, hz2⟩ := info_parts info_u32
  clear hvx rx hC h2 hb0 hlt hb16
  cases ao with
  | none =>
    have h0 := hao rfl
    have h00 : xs.length = 0 := by omega
    subst h0
    have hx0 : xs = [] := List.eq_nil_of_length_eq_zero h00
    subst hx0
    have Hao := Lib.hid hao
    clear hao h00
    go_enter Tryd.func22, Tryd.ntmps22
    go_wp2_with fail
    refine R1.out.mono ?_
    rintro e w' ⟨rfl, rfl⟩
    go_wp2_with fail
    refine R2.out.mono ?_
    rintro e w' ⟨rfl, rfl⟩
    go_wp2_with fail
    refine C.out.mono ?_
    rintro e w1 ⟨rfl, hb⟩
    go_wp2_with (at_builtin; refine wpList_append_own_none rfl _ _ 23 rfl w1.heap.size 59 i0 1 Tryd.underlying23 hi _ 0 [] rfl ⟨by simp, .inl ⟨rfl, rfl⟩⟩ rfl ?_)
    go_wp2_with fail
    go_ret3
    exact ⟨⟨_, rfl, by rw [← Hvx.out]; exact Num_nil _⟩, hb⟩
  | some ad =>
    have Hao := Lib.hid hao
    clear hao
    obtain ⟨n, hn⟩ : ∃ n, n = xs.length := ⟨_, rfl⟩
    rw [← hn] at lx R1 C ⊢
    have Hn := Lib.hid hn
    clear hn
    go_enter Tryd.func22, Tryd.ntmps22
    go_wp2_with fail
    refine R1.out.mono ?_
    rintro e w' ⟨rfl, rfl⟩
    go_wp2_with fail
    refine R2.out.mono ?_
    rintro e w' ⟨rfl, rfl⟩
    go_wp2_with fail
    refine C.out.mono ?_
    rintro e w1 ⟨rfl, hb⟩
    have ra1 := ra.below hb
    go_wp2_with (at_builtin; refine wpList_append_own _ rfl _ _ 23 rfl w1.heap.size 59 i0 (.int .u32 0) 1 4 Tryd.underlying23 hi hz0 hz1 hz2 rfl (by decide) _ 0 [] rfl ⟨by simp, .inl ⟨rfl, rfl⟩⟩ ad n ca (xs.map (Value.int .u32)) rfl ?c1 ?c2 ?c3 ?c4 ?c5 ?c6 ?_)
    case c1 => simp [Hn.out]
    case c2 =>
      intro j u hj
      by_cases hjl : j < xs.length
      · obtain ⟨b, off, e, _, hc⟩ := ra1.cells (by omega)
        cases e
        have h1 := hc j hjl
        rw [List.getElem?_map, List.getElem?_eq_getElem hjl] at hj
        simp at hj
        rw [← hj, ← lb_eq hjl]
        by_cases hj0 : j = 0
        · subst hj0; simpa [Addr.add] using h1
        · simpa [Addr.add, hj0] using h1
      · rw [List.getElem?_eq_none (by simp; omega)] at hj
        cases hj
    case c3 =>
      intro u hu
      simp at hu
      obtain ⟨a, _, rfl⟩ := hu
      rfl
    case c4 => unfold maxLen; omega
    case c5 => omega
    case c6 => exact Nat.le_refl _
    intro v' w2 hown hgrow _
    have hsl := own_sl (xs := xs) (n := n) (by simpa using hown) Hn.out.symm ux (by rw [← Hn.out]; omega)
    have hnum : Num w2 v' N := ⟨xs, hsl, Hrx.out, Hvx.out⟩
    have Hnum := Lib.hid hnum
    have hb2 : Below w.heap.size w w2 := hb.grown hgrow hb.size (by intro k hk; simp [Value.ownBlock] at hk)
    clear hown hgrow hsl hnum
    go_wp2_with fail
    go_ret3
    exact ⟨⟨_, rfl, Hnum.out⟩, hb2⟩

set_option maxHeartbeats 800000 in
set_option maxRecDepth 100000 in
theorem div_more (v u : Value) (N M : Int) (w : World) (h1 : Num w v N) (h2 : Num w u M) (hle : M ≤ N) (hpos : 0 < M) :
    Calls Tryd.prog 22 #[v, u] w fun e w' => (∃ q r, e = .returned (.tuple #[q, r, .int .i64 0]) ∧ Num w' q (N / M) ∧ Num w' r (N % M)) ∧ Below w.heap.size w w' := by
  have R1 := Lib.hid (right_num h1)
  have R2 := Lib.hid (right_num h2)
  have hC := compare_num h1 h2
  have hsg : 0 ≤ sgn N M := by rw [sgn]; split <;> (try split) <;> omega
  obtain ⟨sg, hsgd⟩ : ∃ sg, sgn N M = sg := ⟨_, rfl⟩
  rw [hsgd] at hC hsg
  have C := Lib.hid hC
  have hr := h1.range
  have H1 := Lib.hid h1
  have H2 := Lib.hid h2
  obtain ⟨ao, na, ca, rfl, -, -, -, -⟩ := h1.len
  obtain ⟨bo, nb, cb, rfl, hb16, hb0, hb1, hb2⟩ := h2.len
  have hbn : ((nb : Int) == 0) = false := by
    rw [beq_eq_false_iff_ne]
    intro h
    have := hb0.1 (by omega)
    omega
  by_cases hone : nb = 1
  · subst hone
    obtain ⟨b, off, rfl, hc, hM⟩ := hb1 rfl
    clear hb0 hb1 hb2 hC hsgd h1 h2
    go_enter Tryd.func22, Tryd.ntmps22
    go_wp2_with fail
    refine R1.out.mono ?_
    rintro e w' ⟨rfl, rfl⟩
    go_wp2_with fail
    refine R2.out.mono ?_
    rintro e w' ⟨rfl, rfl⟩
    go_wp2_with fail
    refine C.out.mono ?_
    rintro e w1 ⟨rfl, hbl⟩
    have hbw : b < w.heap.size := by
      by_cases h : b < w.heap.size
      · exact h
      · rw [World.cell?, Array.getElem?_eq_none (show w.heap.size ≤ b by omega)] at hc
        cases hc
    have hc1 : w1.cell? ⟨b, off, none⟩ = some (.int .u32 M) := by rw [hbl.cell (p := ⟨b, off, none⟩) hbw]; exact hc
    have hS := short_num _ N M w1 (H1.out.below hbl) hpos hM
    have HS := Lib.hid hS
    clear hS
    go_wp2_with fail
    refine HS.out.mono ?_
    rintro e w2 ⟨⟨q, rfl, hq⟩, hb2⟩
    have hm0 := Int.emod_nonneg N (show M ≠ 0 by omega)
    have hm1 := Int.emod_lt_of_pos N hpos
    have Hq := Lib.hid hq
    have hO := of_num (N % M) w2 hm0 (by omega)
    have HO := Lib.hid hO
    clear hq hO
    go_wp2_with fail
    refine HO.out.mono ?_
    rintro e w3 ⟨⟨r, rfl, hr3⟩, hb3⟩
    have Hq3 := Lib.hid (Hq.out.below hb3)
    have Hr3 := Lib.hid hr3
    have bl3 : Below w.heap.size w w3 := (hbl.trans (hb2.mono hbl.size)).trans (hb3.mono (Nat.le_trans hbl.size hb2.size))
    clear hr3 hb3 hb2
    go_wp2_with fail
    go_ret3
    exact ⟨⟨q, r, rfl, Hq3.out, Hr3.out⟩, bl3⟩
  · have hbn1 : ((nb : Int) == 1) = false := by rw [beq_eq_false_iff_ne]; omega
    have hnb0 : nb ≠ 0 := by intro h; have := hb0.1 h; omega
    have hbig := hb2 (by omega)
    clear hb0 hb1 hb2 hC hsgd h1 h2 hone hnb0
    go_enter Tryd.func22, Tryd.ntmps22
    go_wp2_with fail
    refine R1.out.mono ?_
    rintro e w' ⟨rfl, rfl⟩
    go_wp2_with fail
    refine R2.out.mono ?_
    rintro e w' ⟨rfl, rfl⟩
    go_wp2_with fail
    refine C.out.mono ?_
    rintro e w1 ⟨rfl, hbl⟩
    have hL := long_any _ _ N M w1 (H1.out.below hbl) (H2.out.below hbl) hle hbig
    have HL := Lib.hid hL
    clear hL
    go_wp2_with fail
    refine HL.out.mono ?_
    rintro e w2 ⟨⟨q, r, rfl, hq, hr2⟩, hb2⟩
    have Hq := Lib.hid hq
    have Hr := Lib.hid hr2
    have bl2 : Below w.heap.size w w2 := hbl.trans (hb2.mono hbl.size)
    clear hq hr2 hb2
    go_wp2_with fail
    go_ret3
    exact ⟨⟨q, r, rfl, Hq.out, Hr.out⟩, bl2⟩

/-- Division, all together: by what is not 0. -/
theorem div_num (v u : Value) (N M : Int) (w : World) (h1 : Num w v N) (h2 : Num w u M) (hpos : 0 < M) :
    Calls Tryd.prog 22 #[v, u] w fun e w' => (∃ q r, e = .returned (.tuple #[q, r, .int .i64 0]) ∧ Num w' q (N / M) ∧ Num w' r (N % M)) ∧ Below w.heap.size w w' := by
  by_cases h : M ≤ N
  · exact div_more v u N M w h1 h2 h hpos
  · have hr := h1.range
    refine (div_less v u N M w h1 h2 (by omega)).mono ?_
    rintro e w' ⟨⟨r, rfl, hn⟩, hb⟩
    refine ⟨⟨_, r, rfl, ?_, ?_⟩, hb⟩
    · rw [Int.ediv_eq_zero_of_lt hr.1 (by omega)]; exact Num_nil _
    · rw [Int.emod_eq_of_lt hr.1 (by omega)]; exact hn
end Go.Proofs.YtondjnmpfpfpmaaDoor
