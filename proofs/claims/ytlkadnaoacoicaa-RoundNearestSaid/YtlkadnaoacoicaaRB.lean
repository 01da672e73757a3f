/- The numbers of nat and of its reference, for this seat: XRatRefDiv, XRatCommon, XRatRefR. -/
import Derived.Test.YtlkadnaoacoicaaRA
import Derived.IntWalk
import Derived.Laws.Concat
namespace Go.Proofs.Ytlkadnaoacoicaa
open Go.RowKit NM

set_option maxHeartbeats 800000 in
set_option maxRecDepth 100000 in
theorem refdiv2_dec (ds : List Int) (B : Int) (w : World) (hd : Digs ds) (hm : ds.length ≤ 1000) (hB0 : 0 < B) (hB : 10 * B < big) :
    Calls Try.prog 37 #[.string (dstr ds), .string (numStr B)] w fun e w' => e = .returned (.agg #[.string (numStr (dv ds / B)), .string (numStr (dv ds % B))]) ∧ Below w.heap.size w w' := by
  have hsz := dstr_size ds
  obtain ⟨l, hl⟩ : ∃ l, ds.length = l := ⟨_, rfl⟩
  have Hl := Lib.hid hl
  have Hd := Lib.hid hd
  rw [hl] at hsz hm
  clear hl hd
  obtain ⟨s, hs⟩ : ∃ s, dstr ds = s := ⟨_, rfl⟩
  have Hs := Lib.hid hs
  rw [hs] at hsz ⊢
  clear hs
  have Hz := Lib.hid numStr_zero
  obtain ⟨bs, hbs⟩ : ∃ bs, numStr B = bs := ⟨_, rfl⟩
  have Hbs := Lib.hid hbs
  rw [hbs]
  clear hbs
  go_enter Try.func37, Try.ntmps37
  go_wp2_with fail
  go_loopw [6, 7, 8] (fun vi _ _ wr => ∃ (k : Nat) (P : Int), k ≤ l ∧ vi = .int .i64 k ∧ Hid (P = dv (ds.drop (l - k))) ∧ Hid (DivAt w wr (numStr (P / B)) (numStr (P % B)))) (fun vi _ _ _ => l - (intOf vi).toNat)
  case atStart =>
    refine ⟨0, 0, by omega, rfl, Lib.hid ?_, Lib.hid ?_⟩
    · rw [Nat.sub_zero, List.drop_of_length_le (by rw [Hl.out]; omega)]; rfl
    · rw [Int.zero_ediv, Int.zero_emod, Hz.out]
      refine ⟨?_, ?_, ?_⟩
      · simp only [World.alloc]
        rw [Array.getElem?_push_lt (by simp)]
        simp
      · simp only [World.alloc]
        exact block_second _ _ _
      · exact ((Below.refl _ _).alloc (Nat.le_refl _) _).alloc (by simp) _
  case round =>
    obtain ⟨k, P, hk, rfl, hP, hdv⟩ := hrel
    by_cases hkl : k < l
    · have hcR := hdv.out.cellR
      have hi : l - 1 - k < ds.length := by rw [Hl.out]; omega
      have hone := dstr_one hi (show k + 1 + (l - 1 - k) = ds.length by rw [Hl.out]; omega)
      have hdr := Hd.out _ (List.getElem_mem hi)
      obtain ⟨d, hdd⟩ : ∃ d, ds[l - 1 - k] = d := ⟨_, rfl⟩
      rw [hdd] at hone hdr
      rw [Hs.out] at hone
      have hP2 := Lib.hid (show d + 10 * P = dv (ds.drop (l - (k + 1))) by
        have := pre_step (fs := ds) (i := k) (by rw [Hl.out]; omega)
        simp only [Hl.out] at this
        rw [hdd] at this
        rw [this, hP.out]; omega)
      have hRr : 0 ≤ P % B ∧ P % B < B := ⟨Int.emod_nonneg _ (by omega), Int.emod_lt_of_pos _ hB0⟩
      have hPr := dv_range (ds := ds.drop (l - k)) (fun x hx => Hd.out x (List.mem_of_mem_drop hx))
      rw [← hP.out] at hPr
      have hPb : P < big := by
        have := ten_le (show (ds.drop (l - k)).length ≤ 1000 by rw [List.length_drop, Hl.out]; omega)
        unfold big; omega
      have hQr : 0 ≤ P / B ∧ P / B < big := ⟨Int.ediv_nonneg hPr.1 (by omega), by
        have := Int.ediv_le_self B hPr.1
        omega⟩
      clear hPr hPb
      obtain ⟨R, hR⟩ : ∃ R, P % B = R := ⟨_, rfl⟩
      obtain ⟨Q, hQ⟩ : ∃ Q, P / B = Q := ⟨_, rfl⟩
      rw [hR] at hRr hcR hdv
      rw [hQ] at hQr hdv
      have hd1 := Lib.hid (div_digit (P := P) (d := d) hB0)
      rw [hR, hQ] at hd1
      clear hi hdd hR hQ hP
      have HT := Lib.hid (fun w => trim_fun R d w hRr.1 (by omega) hdr.1 hdr.2)
      have H1 := Lib.hid hone
      clear hone
      go_upto_region 5 with fail
      have ha := IntWalk.i64_in ((k : Int) + 1) (by omega)
      have hb : (0 : Int) ≤ (k : Int) + 1 := by omega
      have hc : ((k : Int) + 1).toNat = k + 1 := by omega
      have hcut : ∀ w : World, (Instr.slice 9 (.string s) (some (.int .i64 (k : Int))) (some (.int .i64 ((k : Int) + 1))) none).run Try.prog w = .ok (.string ⟨#[b8 d]⟩) w := by
        intro w
        rw [run_slice_string w 9 s .i64 .i64 (k : Int) ((k : Int) + 1) Try.underlying9 (by omega) (by omega) (by rw [hsz]; omega), hc, Int.toNat_natCast, H1.out]
      have hadd : ∀ w : World, (Op.stringOp .add (numStr R) ⟨#[b8 d]⟩).run Try.prog w = .ok (.string (numStr R ++ ⟨#[b8 d]⟩)) w := by
        intro w
        have := numStr_size (show R < big by omega)
        exact run_string_add_sum w _ _ (by show _ + 1 ≤ _; omega)
      go_quiet ((go_at_call 45; exact Calls.quiet_of_same (HT.out _)))
      rename_i nq
      have hdv2 : Hid (DivAt w (wr.drewN nq) (numStr Q) (numStr R)) := Lib.hid (hdv.out.drewN _)
      generalize wr.drewN nq = wx at hdv2 ⊢
      clear ha hb hc hcut hadd HT H1 hdv hcR
      go_wp2_with fail
      have H16 := Lib.hid hB
      go_loopw [7, 8] (fun vr vn wy => ∃ (n : Nat) (r : Int), n ≤ 9 ∧ vn = .int .i64 n ∧ vr = .string (numStr r) ∧ 0 ≤ r ∧ r < 10 * B ∧ Hid (d + 10 * R = r + n * B) ∧ Hid (DivAt w wy (numStr Q) (numStr R))) (fun _ vn _ => 10 - (intOf vn).toNat)
      case atStart => exact ⟨0, _, by omega, rfl, rfl, by omega, by omega, Lib.hid (by simp), hdv2⟩
      case round =>
        obtain ⟨n, r, hn, rfl, rfl, r0, r1, hrn, hdy⟩ := hrel
        rename_i wy
        have HC := Lib.hid (fun w => cmp_fun r B w r0 (by omega) (by have := H16.out; omega) (by have := H16.out; omega))
        rw [Hbs.out] at HC
        by_cases hbr : B ≤ r
        · obtain ⟨g, hg, hg0⟩ : ∃ g, sgn r B = g ∧ 0 ≤ g := ⟨_, rfl, by unfold sgn; split <;> (try split) <;> omega⟩
          rw [hg] at HC
          have hn9 : n < 9 := by
            have := off_few (r := r) (n := n) hB0 (by have := hrn.out; omega) hbr
            omega
          have hrn2 := Lib.hid (show d + 10 * R = (r - B) + ((n + 1 : Nat) : Int) * B by
            have := hrn.out
            rw [this, Int.natCast_add, Int.add_mul]
            omega)
          have HS := Lib.hid (fun w => refsub_fun r B w (by omega) (by have := H16.out; omega) hbr)
          rw [Hbs.out] at HS
          clear hg
          go_wp2_with fail
          refine (HC.out _).mono ?_
          rintro e w' ⟨rfl, rfl⟩
          go_wp2_with fail
          refine (HS.out _).mono ?_
          rintro e w2 ⟨rfl, hb2⟩
          have hd2 := Lib.hid (hdy.out.later hb2)
          clear hb2 HS HC
          go_wp2_with fail
          go_roundw
          case rel => exact ⟨n + 1, r - B, by omega, by go_num, rfl, by omega, by omega, hrn2, hd2⟩
          case measure => simp [intOf]; omega
        · obtain ⟨g, hg, hg0⟩ : ∃ g, sgn r B = g ∧ g < 0 := ⟨_, rfl, by unfold sgn; split <;> (try split) <;> omega⟩
          rw [hg] at HC
          clear hg
          have hrn3 := off_done hB0 hrn.out r0 (by omega)
          have hadd : ∀ w : World, (Op.stringOp .add (numStr Q) ⟨#[b8 n]⟩).run Try.prog w = .ok (.string (numStr Q ++ ⟨#[b8 n]⟩)) w := by
            intro w
            have := numStr_size hQr.2
            exact run_string_add_sum w _ _ (by show _ + 1 ≤ _; omega)
          have hconv : ∀ w : World, (convert 77 9 (.slice (some ⟨w.heap.size, 0, none⟩) 1 1)).run Try.prog (w.alloc (.cells #[.int .u8 (48 + n)] 5)) = .ok (.string ⟨#[b8 n]⟩) (w.alloc (.cells #[.int .u8 (48 + n)] 5)) := by
            intro w
            refine run_convert_bytes_arg _ 77 5 Try.underlying77 Try.underlying5 w.heap.size 0 1 1 [48 + (n : Int)] rfl (fun i hi => ?_) 9 Try.underlying9
            obtain rfl : i = 0 := by simpa using hi
            exact cell_one_new _ _ _ 0 _ rfl
          have hz := lt_of_block hdy.out.own
          have hcQ := hdy.out.cellQ
          have hcR2 := hdy.out.cellR
          have hfr := hdy.out.free
          have hf0 := hfr 0
          have hf1 := hfr 1
          have HF := Lib.hid hfr
          clear hfr
          go_wp2_with fail
          refine (HC.out _).mono ?_
          rintro e w' ⟨rfl, rfl⟩
          clear hrn
          go_wp2_with fail
          refine (trim_fun Q n _ hQr.1 hQr.2 (by omega) (by omega)).mono ?_
          rintro e w' ⟨rfl, rfl⟩
          have hd2 := Lib.hid (((hdy.out.setQ (numStr (n + 10 * Q))).setR (numStr r)).later ((Below.refl _ _).alloc (Nat.le_refl _) (.cells #[.int .u8 (48 + n)] 5)))
          have hq2 := Lib.hid (show (n + 10 * Q = (d + 10 * P) / B) ∧ r = (d + 10 * P) % B by
            have := hd1.out
            omega)
          clear hrn3
          go_wp2_with fail
          clear hz hcQ hcR2 hf0 hf1 hadd hconv
          go_roundw
          case rel => exact ⟨k + 1, d + 10 * P, by omega, by go_num, hP2, by rw [← hq2.out.1, ← hq2.out.2]; exact hd2⟩
          case measure => simp [intOf]; omega
    · obtain rfl : k = l := by omega
      have hcQ := hdv.out.cellQ
      have hcR := hdv.out.cellR
      have ho0 := hdv.out.cellO0
      have ho1 := hdv.out.cellO1
      have hf0 := hdv.out.freeO 0
      have hf1 := hdv.out.freeO 1
      have hP2 : Hid (P = dv ds) := Lib.hid (by rw [hP.out, Nat.sub_self, List.drop_zero])
      clear hP
      go_wp2_with fail
      refine bodyPost_ret (v := .agg #[.string (numStr (P / B)), .string (numStr (P % B))]) (by simp [results, Try.results37, go_sem, ho0, ho1]) rfl ⟨by rw [hP2.out], ?_⟩
      exact ((hdv.out.below.setCell (by simp) _).setCell (by simp) _)

theorem refdiv2_fun (A B : Int) (w : World) (hA0 : 0 ≤ A) (hA : A < big) (hB0 : 0 < B) (hB : 10 * B < big) :
    Calls Try.prog 37 #[.string (numStr A), .string (numStr B)] w fun e w' => e = .returned (.agg #[.string (numStr (A / B)), .string (numStr (A % B))]) ∧ Below w.heap.size w w' := by
  have h1 := digsN_dec A.toNat
  rw [show ((A.toNat : Nat) : Int) = A by omega] at h1
  have h2 := refdiv2_dec (digsN A.toNat) B w h1.1 (dec_small h1 hA).2 hB0 hB
  rw [h1.2.1] at h2
  exact h2
end Go.Proofs.Ytlkadnaoacoicaa

namespace Go.Proofs.Ytlkadnaoacoicaa
open Go.RowKit NM

theorem fieldQ (x y : Value) (w : World) : (Instr.field 72 (.agg #[x, y]) 0).run Try.prog w = .ok x w := by kernel_rfl
theorem fieldR (x y : Value) (w : World) : (Instr.field 72 (.agg #[x, y]) 1).run Try.prog w = .ok y w := by kernel_rfl

theorem list_ne48 {q : ByteArray} (h : q ≠ ⟨#[48]⟩) : (q.toList == [48]) = false := by
  rw [beq_eq_false_iff_ne]
  intro h2
  apply h
  rw [ByteArray.toList_eq] at h2
  apply ByteArray.ext
  apply Array.toList_inj.1
  rw [h2]
/-- Far from too great. -/
def Far (A : Nat) : Prop := 10 * (A : Int) < big
theorem Far.lt {A : Nat} (h : Far A) : (A : Int) < big := by
  unfold Far at h
  omega
theorem Far.mod {A k : Nat} (h : Far k) (h0 : k ≠ 0) : Far (A % k) := by
  unfold Far at *
  have := Nat.mod_lt A (Nat.pos_of_ne_zero h0)
  omega
set_option maxHeartbeats 800000 in
set_option maxRecDepth 100000 in
theorem common_fun (A0 B0 : Nat) (w : World) (hA : Far A0) (hB : Far B0) :
    Calls Try.prog 21 #[.string (numStr A0), .string (numStr B0)] w fun e w' => e = .returned (.string (numStr (Nat.gcd A0 B0 : Nat))) ∧ Below w.heap.size w w' := by
  have fR := fieldR
  have HA := Lib.hid hA
  have HB := Lib.hid hB
  clear hA hB
  go_enter Try.func21, Try.ntmps21
  go_wp2_with fail
  go_loopg [0, 1] B0 (fun k va vb wr => ∃ A : Nat, va = .string (numStr A) ∧ vb = .string (numStr k) ∧ Hid (Nat.gcd A k = Nat.gcd A0 B0) ∧ Hid (Far A) ∧ Hid (Far k) ∧ Hid (Below w.heap.size w wr))
  case atStart => exact ⟨A0, rfl, rfl, Lib.hid rfl, HA, HB, Lib.hid (Below.refl _ _)⟩
  case round =>
    obtain ⟨A, rfl, rfl, hg, ha, hb, hbl⟩ := hrel
    by_cases hk0 : gk = 0
    · subst hk0
      have hA : A = Nat.gcd A0 B0 := by rw [← hg.out, Nat.gcd_zero_right]
      rw [hA]
      have Hz := Lib.hid (show numStr ((0 : Nat) : Int) = ⟨#[48]⟩ from numStr_zero)
      clear hA ha hb HA HB
      rw [Hz.out]
      go_wp2_with fail
      go_ret
      exact ⟨rfl, hbl.out⟩
    · have hne : numStr gk ≠ ⟨#[48]⟩ := fun h => by
        have := numStr_inj (A := gk) (B := 0) (by omega) (by omega) (by rw [h, numStr_zero])
        omega
      have HD := Lib.hid (fun w => refdiv2_fun (A : Int) (gk : Int) w (by omega) (Far.lt ha.out) (by omega) hb.out)
      have hgg := Lib.hid (show Nat.gcd gk (A % gk) = Nat.gcd A0 B0 by rw [← hg.out, Nat.gcd_comm A gk, Nat.gcd_rec gk A, Nat.gcd_comm])
      have Hmod := Lib.hid (show Far (A % gk) from Far.mod hb.out hk0)
      have hlt := Lib.hid (Nat.mod_lt A (Nat.pos_of_ne_zero hk0))
      obtain ⟨q, hq⟩ : ∃ q, numStr gk = q := ⟨_, rfl⟩
      rw [hq] at hne HD
      have Hq := Lib.hid hq
      rw [hq]
      have hb1 : (q.toList == [48]) = false := list_ne48 hne
      have hb2 : (q.toList != [48]) = true := by rw [bne, hb1]; rfl
      clear hk0 hne hq ha
      go_wp2_with fail
      refine (HD.out _).mono ?_
      rintro e w2 ⟨rfl, hb2'⟩
      have Hl := Lib.hid (hbl.out.trans (hb2'.mono hbl.out.size))
      have Hr := Hmod
      clear HD hb2' hb1 hb2
      go_wp2_with fail
      go_roundg (A % gk)
      case measure => exact hlt.out
      case rel => exact ⟨gk, by rw [Hq.out], rfl, hgg, hb, Hr, Hl⟩
end Go.Proofs.Ytlkadnaoacoicaa

namespace Go.Proofs.Ytlkadnaoacoicaa
open Go.RowKit NM

theorem far_num {w : World} {v : Value} {N : Nat} (h : Num w v N) : Far N := by
  have h1 := h.range
  have h2 : 10 * pw 16 < big := by unfold big; decide +kernel
  unfold Far
  omega
theorem str_one (g : Nat) : (g = 1 → numStr g = ⟨#[49]⟩) ∧ (g ≠ 1 → numStr g ≠ ⟨#[49]⟩) := by
  constructor
  · intro h; rw [h]; exact numStr_one
  · intro h h2
    have := numStr_inj (A := g) (B := 1) (by omega) (by omega) (by rw [h2, numStr_one])
    omega
theorem list_is49 {q : ByteArray} {b : Bool} (h : b = true → q = ⟨#[49]⟩) (h2 : b = false → q ≠ ⟨#[49]⟩) : (q.toList == [49]) = b := by
  cases b
  · rw [beq_eq_false_iff_ne]
    intro h3
    apply h2 rfl
    rw [ByteArray.toList_eq] at h3
    apply ByteArray.ext
    apply Array.toList_inj.1
    rw [h3]
  · rw [h rfl]
    decide +kernel

set_option maxHeartbeats 3200000 in
set_option maxRecDepth 100000 in
theorem refR_raw (neg : Bool) (v u : Value) (N D : Nat) (w : World) (h1 : Num w v N) (h2 : Num w u D) :
    Calls Try.prog 7 #[.agg #[.bool neg, v, u]] w fun e w' => e = .returned (.bool (rawB neg N D)) ∧ Below w.heap.size w w' := by
  have b0 : Below w.heap.size w (w.alloc (.cells #[.bool neg, v, u] 25)) := (Below.refl _ _).alloc (Nat.le_refl _) _
  have ha := BlockAt.new w #[.bool neg, v, u] 25
  have k1 := h1.below b0
  have k2 := h2.below b0
  have f1 := far_num h1
  have f2 := far_num h2
  obtain ⟨ao, an, ac, rfl, -, an0, -, -⟩ := h1.len
  obtain ⟨bo, bn, bc, rfl, -, bn0, -, -⟩ := h2.len
  clear h1 h2
  have R1 := Lib.hid (refright_num k1)
  have R2 := Lib.hid (refright_num k2)
  by_cases hD : D = 0
  · obtain rfl : bn = 0 := bn0.2 (by omega)
    have hz := Lib.hid (show rawB neg N D = false by simp [rawB, hD])
    clear an0 bn0 hD k1 k2 ha f1 f2
    go_enter Try.func7, Try.ntmps7
    go_wp2_with fail
    refine R1.out.mono ?_
    rintro e w' ⟨rfl, rfl⟩
    go_wp2_with fail
    refine R2.out.mono ?_
    rintro e w' ⟨rfl, rfl⟩
    go_wp2_with fail
    go_ret
    exact ⟨ret_bool hz.out.symm, b0⟩
  have hbn : ((bn : Int) == 0) = false := by rw [beq_eq_false_iff_ne]; intro h; exact hD (by have := bn0.1 (by omega); omega)
  by_cases hNn : N = 0 ∧ neg = true
  · obtain ⟨hN, rfl⟩ := hNn
    obtain rfl : an = 0 := an0.2 (by omega)
    have hz := Lib.hid (show rawB true N D = false by simp [rawB, hN])
    clear an0 bn0 hD k1 k2 hN ha f1 f2
    go_enter Try.func7, Try.ntmps7
    go_wp2_with fail
    refine R1.out.mono ?_
    rintro e w' ⟨rfl, rfl⟩
    go_wp2_with fail
    refine R2.out.mono ?_
    rintro e w' ⟨rfl, rfl⟩
    go_wp2_with fail
    go_ret
    exact ⟨ret_bool hz.out.symm, b0⟩
  have hz := Lib.hid (show rawB neg N D = decide (Nat.gcd N D = 1) by
    have : (neg && decide (N = 0)) = false := by
      cases neg
      · rfl
      · simp at hNn ⊢; exact hNn
    simp [rawB, Nat.pos_of_ne_zero hD, this])
  have hcase : (neg = true ∧ ((an : Int) == 0) = false) ∨ (neg = false ∧ an = 0) ∨ (neg = false ∧ ((an : Int) == 0) = false) := by
    by_cases ha0 : an = 0
    · refine .inr (.inl ⟨?_, ha0⟩)
      cases neg
      · rfl
      · exact absurd ⟨by have := an0.1 ha0; omega, rfl⟩ hNn
    · have hb : ((an : Int) == 0) = false := by rw [beq_eq_false_iff_ne]; omega
      cases neg
      · exact .inr (.inr ⟨rfl, hb⟩)
      · exact .inl ⟨rfl, hb⟩
  have hl := list_is49 (q := numStr (Nat.gcd N D : Nat)) (b := decide (Nat.gcd N D = 1)) (fun h => (str_one _).1 (by simpa using h)) (fun h => (str_one _).2 (by simpa using h))
  have HC := Lib.hid (fun w => common_fun N D w f1 f2)
  obtain ⟨g, hg⟩ : ∃ g, numStr (Nat.gcd N D : Nat) = g := ⟨_, rfl⟩
  rw [hg] at hl HC
  obtain ⟨z, hzz⟩ : ∃ z, decide (Nat.gcd N D = 1) = z := ⟨_, rfl⟩
  rw [hzz] at hl hz
  obtain ⟨tn, htn⟩ : ∃ s, numStr N = s := ⟨_, rfl⟩
  obtain ⟨td, htd⟩ : ∃ s, numStr D = s := ⟨_, rfl⟩
  have T1 := Lib.hid (fun (W : World) (h : Num W (.slice ao an ac) N) => reftext_fun h)
  have T2 := Lib.hid (fun (W : World) (h : Num W (.slice bo bn bc) D) => reftext_fun h)
  rw [htn] at T1 HC
  rw [htd] at T2 HC
  have K1 := Lib.hid k1
  have K2 := Lib.hid k2
  clear an0 bn0 hD hNn f1 f2 hg hzz htn htd k1 k2
  have tok1 : True := trivial
  rcases hcase with ⟨rfl, han⟩ | ⟨rfl, rfl⟩ | ⟨rfl, han⟩
  all_goals
    go_enter Try.func7, Try.ntmps7
    go_wp2_with fail
    refine R1.out.mono ?_
    rintro e w' ⟨rfl, rfl⟩
    go_wp2_with fail
    refine R2.out.mono ?_
    rintro e w' ⟨rfl, rfl⟩
    go_wp2_with fail
    clear R1 R2
    have ha := ha.below ((Below.refl _ _).drew)
    have K1 := K1.out.below ((Below.refl _ _).drew)
    have K2 := K2.out.below ((Below.refl _ _).drew)
    have B := b0.drew
    clear b0
    obtain ⟨c0, c1, c2⟩ := block3 ha
    go_region_with (first
      | (go_at_call 10; have _t := tok1; clear _t tok1; have tok2 : True := trivial; refine (T1.out _ K1).mono ?_; rintro e W2 ⟨rfl, bq⟩; have ha := ha.below bq; have K2 := K2.below bq; have B := B.trans (bq.mono B.size); clear bq; obtain ⟨c0, c1, c2⟩ := block3 ha)
      | (go_at_call 10; have _t := tok2; refine (T2.out _ K2).mono ?_; rintro e W3 ⟨rfl, bq⟩; have ha := ha.below bq; have B := B.trans (bq.mono B.size); clear bq; obtain ⟨c0, c1, c2⟩ := block3 ha)
      | (go_at_call 21; refine (HC.out _).mono ?_; rintro e W4 ⟨rfl, bq⟩; have ha := ha.below bq; have B := B.trans (bq.mono B.size); clear bq; obtain ⟨c0, c1, c2⟩ := block3 ha))
    all_goals
      go_wp2_with fail
      go_ret
      exact ⟨ret_bool hz.out.symm, B⟩

theorem refR_rat {w : World} {r : Value} {x : Rat} (h : RatN w r x) :
    Calls Try.prog 7 #[r] w fun e w' => e = .returned (.bool true) ∧ Below w.heap.size w w' := by
  obtain ⟨n, d, rfl, h1, h2⟩ := h
  have := refR_raw (decide (x.num < 0)) n d _ _ w h1 h2
  rw [rat_raw x] at this
  exact this
set_option maxHeartbeats 1600000 in
set_option maxRecDepth 100000 in
theorem refR_not {w : World} {r : Value} (h : BadR w r) :
    Calls Try.prog 7 #[r] w fun e w' => e = .returned (.bool false) ∧ Below w.heap.size w w' := by
  obtain ⟨neg, v, u, xs, ys, rfl, h1, h2, h3⟩ := h
  have b0 : Below w.heap.size w (w.alloc (.cells #[.bool neg, v, u] 25)) := (Below.refl _ _).alloc (Nat.le_refl _) _
  cases hx : rightB xs
  · have R1 := Lib.hid (refright_bad ⟨xs, h1.below b0, hx⟩)
    clear h1 h2 h3 hx
    go_enter Try.func7, Try.ntmps7
    go_wp2_with fail
    refine R1.out.mono ?_
    rintro e w' ⟨rfl, rfl⟩
    go_wp2_with fail
    go_ret
    exact ⟨rfl, b0⟩
  · cases hy : rightB ys
    · have R1 := Lib.hid (refright_num (⟨xs, h1.below b0, hx, rfl⟩ : Num _ v (val xs)))
      have R2 := Lib.hid (refright_bad ⟨ys, h2.below b0, hy⟩)
      clear h1 h2 h3 hx hy
      go_enter Try.func7, Try.ntmps7
      go_wp2_with fail
      refine R1.out.mono ?_
      rintro e w' ⟨rfl, rfl⟩
      go_wp2_with fail
      refine R2.out.mono ?_
      rintro e w' ⟨rfl, rfl⟩
      go_wp2_with fail
      go_ret
      exact ⟨rfl, b0⟩
    · have n1 : Num w v (val xs) := ⟨xs, h1, hx, rfl⟩
      have n2 : Num w u (val ys) := ⟨ys, h2, hy, rfl⟩
      have r1 := n1.range.1
      have r2 := n2.range.1
      rw [show val xs = (((val xs).toNat : Nat) : Int) by omega] at n1
      rw [show val ys = (((val ys).toNat : Nat) : Int) by omega] at n2
      have := refR_raw neg v u _ _ w n1 n2
      rw [hx, hy, Bool.true_and, Bool.true_and] at h3
      rw [h3] at this
      exact this
end Go.Proofs.Ytlkadnaoacoicaa

