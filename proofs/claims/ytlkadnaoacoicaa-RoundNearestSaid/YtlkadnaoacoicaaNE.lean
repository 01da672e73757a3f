/- The numbers of nat and of its reference, for this seat: XNatRefSub, XNatRefMul, XNatRefRight, XNatRefParse, XNatRefDiv, XNatRefDivW, XNatRefFun, XNatRefDivX, XNatRefMore. -/
import Derived.Test.YtlkadnaoacoicaaND
import Derived.Deep.RegionWith
import Derived.Laws.Concat
import Derived.IntWalk
namespace Go.Proofs.Ytlkadnaoacoicaa
open Go.RowKit NM

/-- The state of Sub's loop. -/
structure InSub (ds fs : List Int) (N : Int) (i : Nat) (c : Int) (es : List Int) : Prop where
  digs : Digs es
  len : es.length = i
  all : dv es + 10 ^ es.length * (dv (ds.drop i) - dv (fs.drop i) - c) = N
theorem InSub.step {ds fs : List Int} {N : Int} {i : Nat} {c d f t c' : Int} {es : List Int} (h : InSub ds fs N i c es) (hd : ds.getD i 0 = d) (hf : fs.getD i 0 = f) (t0 : 0 ≤ t) (t1 : t < 10) (ht : d - f - c = t - 10 * c') : InSub ds fs N (i + 1) c' (es ++ [t]) := by
  have h1 := h.all
  rw [dv_drop ds, dv_drop fs, hd, hf] at h1
  exact ⟨Digs_snoc h.digs t0 t1, by rw [List.length_append, h.len]; rfl, dec_step h1 (by omega)⟩
theorem InSub.done {ds fs : List Int} {N c : Int} {i : Nat} {es : List Int} (h : InSub ds fs N i c es) (hi : ds.length ≤ i) (hj : fs.length ≤ i) (hN : 0 ≤ N) (c0 : 0 ≤ c) (c1 : c ≤ 1) : dv es = N := by
  have h1 := h.all
  rw [List.drop_of_length_le hi, List.drop_of_length_le hj] at h1
  have hr := dv_range h.digs
  simp only [dv] at h1
  rcases (show c = 0 ∨ c = 1 by omega) with rfl | rfl
  · omega
  · exfalso
    have e : (10 : Int) ^ es.length * (0 - 0 - 1) = - 10 ^ es.length := by omega
    omega

set_option maxHeartbeats 1000000 in
set_option maxRecDepth 100000 in
theorem refsub_dec (ds fs : List Int) (N : Int) (w : World) (hd : Digs ds) (hf : Digs fs) (hn : 0 < ds.length) (hm : ds.length ≤ 100000) (hm2 : fs.length ≤ ds.length) (hN : dv ds - dv fs = N) (hN0 : 0 ≤ N) :
    Calls Try.prog 43 #[.string (dstr ds), .string (dstr fs)] w fun e w' => (∃ s, e = .returned (.string s) ∧ DecStr s N) ∧ Below w.heap.size w w' := by
  obtain ⟨i0, hi, hz0, hz1, hz2⟩ := info_parts info_u8
  have hsz := dstr_size ds
  have HN := Lib.hid hN
  have HN0 := Lib.hid hN0
  have Hd := Lib.hid hd
  have Hf := Lib.hid hf
  clear hN hd hf hN0
  obtain ⟨l, hl⟩ : ∃ l, ds.length = l := ⟨_, rfl⟩
  have Hl := Lib.hid hl
  have Hm := Lib.hid hm2
  rw [hl] at hn hm hsz
  clear hl hm2
  obtain ⟨s, hs⟩ : ∃ s, dstr ds = s := ⟨_, rfl⟩
  obtain ⟨s2, hs2⟩ : ∃ s2, dstr fs = s2 := ⟨_, rfl⟩
  have Hat := Lib.hid (fun (i : Nat) (w : World) (h : i ≤ 1000000) => at_dstr ds i w Hd.out (by rw [Hl.out]; omega) h)
  have Hat2 := Lib.hid (fun (i : Nat) (w : World) (h : i ≤ 1000000) => at_dstr fs i w Hf.out (by have := Hm.out; have := Hl.out; omega) h)
  rw [hs] at hsz Hat ⊢
  rw [hs2] at Hat2 ⊢
  clear hs hs2
  go_enter Try.func43, Try.ntmps43
  go_wp2_with fail
  go_loopw [5, 6, 7, 8] (fun vo vc vi _ wr => ∃ (i : Nat) (c : Int) (es : List Int), i ≤ l ∧ vi = .int .i64 i ∧ vc = .int .i64 c ∧ 0 ≤ c ∧ c ≤ 1 ∧ Hid (InSub ds fs N i c es) ∧ Hid (wr.ownsRow w.heap.size 5 1 vo i (D8 es)) ∧ Hid (Below w.heap.size w wr)) (fun _ _ vi _ _ => l - (intOf vi).toNat)
  case atStart =>
    refine ⟨0, 0, [], by omega, rfl, rfl, by omega, by omega, Lib.hid ⟨(fun _ h => by cases h), rfl, ?_⟩, Lib.hid ?_, Lib.hid ?_⟩
    · have := HN.out; simpa [dv] using this
    · exact World.ownsRow_made w #[] 0 (Nat.le_refl _) (by unfold maxLen; omega) rfl
    · exact (Below.refl _ _).alloc (Nat.le_refl _) _
  case round =>
    obtain ⟨i, c, es, hil0, rfl, rfl, hc0, hc1, hin, hown, hbl⟩ := hrel
    by_cases hil : i < l
    · obtain ⟨d, hdd⟩ : ∃ d, ds.getD i 0 = d := ⟨_, rfl⟩
      obtain ⟨f, hff⟩ : ∃ f, fs.getD i 0 = f := ⟨_, rfl⟩
      have hdr := digs_getD Hd.out i
      have hfr := digs_getD Hf.out i
      have hA := Hat.out i
      have hB := Hat2.out i
      rw [hdd] at hdr hA
      rw [hff] at hfr hB
      have HA := Lib.hid hA
      have HB := Lib.hid hB
      obtain ⟨n, hn0⟩ : ∃ n, d - f - c = n := ⟨_, rfl⟩
      by_cases hneg : n < 0
      · obtain ⟨t, ht⟩ : ∃ t, n + 10 = t := ⟨_, rfl⟩
        have hst := Lib.hid (hin.out.step (c' := 1) (t := t) hdd hff (by omega) (by omega) (by omega))
        have hw1 : IntKind.u8.wrap (48 + t) = 48 + t := by simp only [IntKind.wrap, IntKind.signed, IntKind.bits]; simp; omega
        have hown2 := Lib.hid (hown.out.alloc (.cells #[.int .u8 (48 + t)] 5))
        clear hdd hff hA hB Hat Hat2
        go_wp2_with fail
        refine (HA.out wr (by omega)).mono ?_
        rintro e w' ⟨rfl, rfl⟩
        go_wp2_with fail
        refine (HB.out wr (by omega)).mono ?_
        rintro e w' ⟨rfl, rfl⟩
        go_wp2_with (at_builtin; refine wpList_append_own_at _ rfl _ _ 77 rfl w.heap.size 5 i0 (.int .u8 0) 1 1 Try.underlying77 hi hz0 hz1 hz2 rfl (by decide) u5 i (D8 es) rfl hown2.out ⟨wr.heap.size, 0, none⟩ 1 1 [.int .u8 (48 + t)] rfl ?c1 ?c2 ?c3 ?c4 ?c5 ?c6 ?_)
        case c1 => rfl
        case c2 => exact cell_one_new _ _ _
        case c3 =>
          intro u hu
          simp at hu
          subst hu
          rfl
        case c4 => unfold maxLen; omega
        case c5 => omega
        case c6 => have := hbl.out.size; simp; omega
        intro v' w2 hown3 hgrow _ hblk
        have hb2 := Lib.hid (own_push hown.out hbl.out hgrow)
        have ho2 := Lib.hid (show w2.ownsRow w.heap.size 5 1 v' (i + 1) (D8 (es ++ [t])) by rw [D8_snoc]; exact hown3)
        clear hown3 hgrow hblk
        go_wp2_with fail
        go_roundw
        case rel => exact ⟨i + 1, 1, es ++ [t], by omega, by go_num, rfl, by omega, by omega, hst, ho2, hb2⟩
        case measure => simp [intOf]; omega
      · obtain ⟨t, ht⟩ : ∃ t, n = t := ⟨_, rfl⟩
        subst ht
        have hst := Lib.hid (hin.out.step (c' := 0) (t := n) hdd hff (by omega) (by omega) (by omega))
        have hw1 : IntKind.u8.wrap (48 + n) = 48 + n := by simp only [IntKind.wrap, IntKind.signed, IntKind.bits]; simp; omega
        have hown2 := Lib.hid (hown.out.alloc (.cells #[.int .u8 (48 + n)] 5))
        clear hdd hff hA hB Hat Hat2
        go_wp2_with fail
        refine (HA.out wr (by omega)).mono ?_
        rintro e w' ⟨rfl, rfl⟩
        go_wp2_with fail
        refine (HB.out wr (by omega)).mono ?_
        rintro e w' ⟨rfl, rfl⟩
        go_wp2_with (at_builtin; refine wpList_append_own_at _ rfl _ _ 77 rfl w.heap.size 5 i0 (.int .u8 0) 1 1 Try.underlying77 hi hz0 hz1 hz2 rfl (by decide) u5 i (D8 es) rfl hown2.out ⟨wr.heap.size, 0, none⟩ 1 1 [.int .u8 (48 + n)] rfl ?c1 ?c2 ?c3 ?c4 ?c5 ?c6 ?_)
        case c1 => rfl
        case c2 => exact cell_one_new _ _ _
        case c3 =>
          intro u hu
          simp at hu
          subst hu
          rfl
        case c4 => unfold maxLen; omega
        case c5 => omega
        case c6 => have := hbl.out.size; simp; omega
        intro v' w2 hown3 hgrow _ hblk
        have hb2 := Lib.hid (own_push hown.out hbl.out hgrow)
        have ho2 := Lib.hid (show w2.ownsRow w.heap.size 5 1 v' (i + 1) (D8 (es ++ [n])) by rw [D8_snoc]; exact hown3)
        clear hown3 hgrow hblk
        go_wp2_with fail
        go_roundw
        case rel => exact ⟨i + 1, 0, es ++ [n], by omega, by go_num, rfl, by omega, by omega, hst, ho2, hb2⟩
        case measure => simp [intOf]; omega
    · obtain rfl : i = l := by omega
      have hfin := hin.out.done (by rw [Hl.out]; omega) (by have := Hm.out; have := Hl.out; omega) HN0.out hc0 hc1
      have hes := hin.out.digs
      have hel := hin.out.len
      obtain ⟨g, cap, rfl, hgs, hcell⟩ := out_cells hown.out (by omega)
      have hR := reversed_any g cap (es.map fun d => 48 + d) wr hgs (by simp; omega) (by simp; omega) hcell
      rw [List.length_map, hel] at hR
      have HR := Lib.hid hR
      have hel2 : 0 < es.length ∧ es.length ≤ 1000000 := by omega
      have HT := Lib.hid (fun w => trim_dec es w hes hel2.1 hel2.2)
      have Hfin := Lib.hid hfin
      clear hR hcell hown hin hfin Hat Hat2
      go_wp2_with fail
      refine HR.out.mono ?_
      rintro e w2 ⟨rfl, hb2⟩
      go_wp2_with fail
      refine (HT.out w2).mono ?_
      rintro e w3 ⟨⟨s', rfl, hs'⟩, rfl⟩
      rw [Hfin.out] at hs'
      go_wp2_with fail
      go_ret
      exact ⟨⟨s', rfl, hs'⟩, hbl.out.trans (hb2.mono hbl.out.size)⟩

theorem refsub_str (a b : ByteArray) (A B : Int) (w : World) (ha : DecStr a A) (hb : DecStr b B) (hA : A < big) (hAB : B ≤ A) :
    Calls Try.prog 43 #[.string a, .string b] w fun e w' => (∃ s, e = .returned (.string s) ∧ DecStr s (A - B)) ∧ Below w.heap.size w w' := by
  obtain ⟨ds, hd, rfl⟩ := ha
  obtain ⟨es, he, rfl⟩ := hb
  have l1 := dec_small hd hA
  have l2 : es.length ≤ ds.length := by
    rcases Nat.lt_or_ge ds.length es.length with h | h
    · have := dec_lt hd he h; omega
    · exact h
  exact refsub_dec ds es (A - B) w hd.1 he.1 l1.1 (by omega) l2 (by rw [hd.2.1, he.2.1]) (by omega)
end Go.Proofs.Ytlkadnaoacoicaa

namespace Go.Proofs.Ytlkadnaoacoicaa
open Go.RowKit NM

theorem dstr_cons (ds : List Int) : dstr (0 :: ds) = dstr ds ++ ⟨#[48]⟩ := by
  apply ByteArray.ext
  simp [dstr, strOfNums]
/-- What the first k digits of a text are worth. -/
theorem pre_step {fs : List Int} {i : Nat} (h : i < fs.length) : dv (fs.drop (fs.length - (i + 1))) = 10 * dv (fs.drop (fs.length - i)) + fs[fs.length - 1 - i] := by
  rw [show fs.length - i = (fs.length - (i + 1)) + 1 by omega, List.drop_eq_getElem_cons (show fs.length - (i + 1) < fs.length by omega), dv]
  have e : fs.length - 1 - i = fs.length - (i + 1) := by omega
  simp only [e]
  omega

theorem trim_zero (s : ByteArray) (A : Int) (w : World) (h : DecStr s A) (hA : A < big) :
    Calls Try.prog 45 #[.string (s ++ ⟨#[48]⟩)] w fun e w' => (∃ s, e = .returned (.string s) ∧ DecStr s (10 * A)) ∧ w = w' := by
  obtain ⟨ds, hd, rfl⟩ := h
  have hl := dec_small hd hA
  have h1 := trim_dec (0 :: ds) w (by intro x hx; rcases List.mem_cons.1 hx with rfl | hx; exact ⟨by omega, by omega⟩; exact hd.1 x hx) (by simp) (by simp; omega)
  rw [dstr_cons] at h1
  have e : dv (0 :: ds) = 10 * A := by rw [dv, hd.2.1]; omega
  rw [e] at h1
  exact h1

set_option maxHeartbeats 2000000 in
set_option maxRecDepth 100000 in
theorem refmul_dec (a : ByteArray) (A : Int) (fs : List Int) (w : World) (ha : DecStr a A) (hf : Digs fs) (hA0 : 0 ≤ A) (hA : A < big) (hm : fs.length ≤ 100000) (hbig : ∀ i, 10 * (A * dv (fs.drop (fs.length - i))) + 10 * A < big) :
    Calls Try.prog 39 #[.string a, .string (dstr fs)] w fun e w' => (∃ s, e = .returned (.string s) ∧ DecStr s (A * dv fs)) ∧ Below w.heap.size w w' := by
  have hsf := dstr_size fs
  obtain ⟨m, hlm⟩ : ∃ m, fs.length = m := ⟨_, rfl⟩
  have Hm := Lib.hid hlm
  have Hf := Lib.hid hf
  have Hbig := Lib.hid hbig
  rw [hlm] at hm hsf
  clear hlm hf hbig
  obtain ⟨s2, hs2⟩ : ∃ s2, dstr fs = s2 := ⟨_, rfl⟩
  have Hs2 := Lib.hid hs2
  rw [hs2] at hsf ⊢
  clear hs2
  go_enter Try.func39, Try.ntmps39
  go_wp2_with fail
  go_loopw [5, 6] (fun so i wr => ∃ (k : Nat) (s : ByteArray), k ≤ m ∧ i = .int .i64 k ∧ so = .string s ∧ Hid (DecStr s (A * dv (fs.drop (m - k)))) ∧ Hid (Below w.heap.size w wr)) (fun _ i _ => m - (intOf i).toNat)
  case atStart => exact ⟨0, _, Nat.zero_le _, rfl, rfl, Lib.hid (by rw [Nat.sub_zero, List.drop_of_length_le (by rw [Hm.out]; omega)]; simpa [dv] using decStr_zero), Lib.hid (Below.refl _ _)⟩
  case round =>
    obtain ⟨k, s, hk, rfl, rfl, hs, hbl⟩ := hrel
    by_cases hkm : k < m
    · have hps := pre_step (fs := fs) (i := k) (by rw [Hm.out]; omega)
      have hgl : m - 1 - k < fs.length := by rw [Hm.out]; omega
      have hby := dstr_byte Hf.out hgl (k := k) (by rw [Hs2.out]; omega)
      have hdr := Hf.out _ (List.getElem_mem hgl)
      simp only [Hm.out] at hps
      obtain ⟨d, hd⟩ : ∃ d, fs[m - 1 - k] = d := ⟨_, rfl⟩
      rw [hd] at hps hby hdr
      obtain ⟨O, hO⟩ : ∃ O, A * dv (fs.drop (m - k)) = O := ⟨_, rfl⟩
      have hbg := Hbig.out k
      rw [Hm.out, hO] at hbg
      rw [hO] at hs
      have hP := Lib.hid (show 10 * O + (0 + d * A) = A * dv (fs.drop (m - (k + 1))) by
        rw [hps, Int.mul_add, ← hO, Int.mul_comm d A, ← Int.mul_assoc, Int.mul_comm 10 A, Int.mul_assoc]; omega)
      have hO0 : 0 ≤ O := by rw [← hO]; exact Int.mul_nonneg hA0 (dv_range (fun x hx => Hf.out x (List.mem_of_mem_drop hx))).1
      have hbyte : ((s2[k]'(by omega)).toNat : Int) = 48 + d := by simp only [← Hs2.out]; exact hby
      have hdA : d * A ≤ 9 * A := Int.mul_le_mul_of_nonneg_right (by omega) hA0
      have hdA0 : 0 ≤ d * A := Int.mul_nonneg hdr.1 hA0
      have hsz : s.size ≤ 1000 := by
        obtain ⟨es, he, e⟩ := hs.out
        have hl := dec_small he (show O < big by omega)
        have e1 : s = dstr es := e
        rw [e1, dstr_size]
        omega
      have hwd := Lib.hid (show IntKind.i64.wrap (IntKind.u8.wrap (48 + d - 48)) = d by rw [IntKind.wrap_i64]; simp only [IntKind.wrap, IntKind.signed, IntKind.bits]; simp; omega)
      have hds := Lib.hid (show 48 + d - 48 = d by omega)
      have HT := Lib.hid (fun w => trim_zero s O w hs.out (by omega))
      have HS := Lib.hid (fun w => small_str a A d 0 (0 + d * A) w ha hA (by omega) (by omega) (by omega) (by omega) rfl)
      have HAd := Lib.hid (fun (t u : ByteArray) (w : World) (ht : DecStr t (10 * O)) (hu : DecStr u (0 + d * A)) => refadd_str t u (10 * O) (0 + d * A) w ht hu (by omega) (by omega))
      clear hps hby hd hO hbg hO0 hdA hdA0
      go_upto_region 5 with fail
      go_region_with (first
        | (go_at_call 45; refine (HT.out _).mono ?_; rintro e w' ⟨⟨t, rfl, ht⟩, rfl⟩)
        | (go_at_call 26; (first | rw [hwd.out] | rw [hds.out]); refine (HS.out _).mono ?_; rintro e w3 ⟨⟨u, rfl, hu⟩, hb3⟩)
        | (go_at_call 56; refine (HAd.out _ _ _ ht hu).mono ?_; rintro e w4 ⟨⟨z, rfl, hz⟩, hb4⟩))
      all_goals
        rw [hP.out] at hz
        have Hz := Lib.hid hz
        have hbz := Lib.hid ((hbl.out.drew.trans (hb3.mono hbl.out.size)).trans (hb4.mono (Nat.le_trans hbl.out.size hb3.size)))
        clear hz hb3 hb4 ht hu HT HS HAd
        go_wp2_with fail
        go_roundw
        case rel => exact ⟨k + 1, z, by omega, by go_num, rfl, Hz, hbz⟩
        case measure => simp [intOf]; omega
    · obtain rfl : k = m := by omega
      have h1 := hs.out
      rw [Nat.sub_self, List.drop_zero] at h1
      have H1 := Lib.hid h1
      clear h1
      go_wp2_with fail
      go_ret
      exact ⟨⟨_, rfl, H1.out⟩, hbl.out⟩

theorem refmul_str (a b : ByteArray) (A B : Int) (w : World) (ha : DecStr a A) (hb : DecStr b B) (hA0 : 0 ≤ A) (hA : A < pw 16) (hB : B < pw 16) :
    Calls Try.prog 39 #[.string a, .string b] w fun e w' => (∃ s, e = .returned (.string s) ∧ DecStr s (A * B)) ∧ Below w.heap.size w w' := by
  obtain ⟨fs, hf, rfl⟩ := hb
  have h16 : pw 16 ≤ big := pw_big (by omega)
  have h32 : 10 * (pw 16 * 10 ^ 155) + 10 * pw 16 < big := by unfold big; decide +kernel
  have l2 := dec_small hf (show B < big by omega)
  have hl : fs.length ≤ 155 := by
    rcases hf.2.2 with ⟨_, rfl⟩ | ⟨_, h⟩
    · simp
    · have := ten_small h hB; omega
  have h := refmul_dec a A fs w ha hf.1 hA0 (by omega) (by omega) (fun i => by
    have hd : Digs (fs.drop (fs.length - i)) := fun x hx => hf.1 x (List.mem_of_mem_drop hx)
    have hr := dv_range hd
    have h1 := ten_le (show (fs.drop (fs.length - i)).length ≤ 155 by simp; omega)
    have h2 : A * dv (fs.drop (fs.length - i)) ≤ pw 16 * 10 ^ 155 := Int.mul_le_mul (by omega) (by omega) hr.1 (by omega)
    omega)
  rw [hf.2.1] at h
  exact h
end Go.Proofs.Ytlkadnaoacoicaa

namespace Go.Proofs.Ytlkadnaoacoicaa
open Go.RowKit NM

set_option maxHeartbeats 400000 in
theorem refright_any (ao : Option Addr) (cap : Nat) (xs : List Int) (w : World) (hr : Row w ao xs) (ux : U32s xs) (hm : xs.length ≤ 9223372036854775807) :
    Calls Try.prog 20 #[.slice ao xs.length cap] w fun e w' => e = .returned (.bool (rightB xs)) ∧ w = w' := by
  by_cases h0 : xs.length = 0
  · have hz := Lib.hid (show rightB xs = true by simp [rightB, h0])
    rw [h0]
    clear hr h0 hm
    go_enter Try.func20, Try.ntmps20
    go_wp2_with fail
    go_ret
    exact ⟨ret_bool hz.out.symm, rfl⟩
  obtain ⟨b, off, rfl, _, hc⟩ := hr.cells (by omega)
  have hc0 := hc (xs.length - 1) (by omega)
  have hx := lb_range ux (xs.length - 1)
  clear hc
  obtain ⟨n, hn⟩ : ∃ n, xs.length = n + 1 := ⟨xs.length - 1, by omega⟩
  have hz := Lib.hid (show rightB xs = decide (n + 1 ≤ 16 ∧ lb xs n ≠ 0) by simp [rightB, hn])
  rw [hn] at hc0 hx ⊢
  rw [hn] at hm
  simp only [Nat.add_sub_cancel] at hc0 hx
  clear hn h0 hr
  obtain ⟨t, ht⟩ : ∃ t, lb xs n = t := ⟨_, rfl⟩
  rw [ht] at hc0 hx hz
  by_cases h16 : n + 1 ≤ 16
  · by_cases ht0 : 0 < t
    · have hd := Lib.hid (show decide (n + 1 ≤ 16 ∧ t ≠ 0) = true by rw [decide_eq_true_iff]; omega)
      have e0 : (((n : Nat) : Int) + 1 == 0) = false := by rw [beq_eq_false_iff_ne]; omega
      go_enter Try.func20, Try.ntmps20
      go_wp2_with fail
      go_ret
      exact ⟨ret_bool (by rw [hz.out, hd.out]), rfl⟩
    · have hd := Lib.hid (show decide (n + 1 ≤ 16 ∧ t ≠ 0) = false by rw [decide_eq_false_iff_not]; omega)
      have e0 : (((n : Nat) : Int) + 1 == 0) = false := by rw [beq_eq_false_iff_ne]; omega
      go_enter Try.func20, Try.ntmps20
      go_wp2_with fail
      go_ret
      exact ⟨ret_bool (by rw [hz.out, hd.out]), rfl⟩
  · have hd := Lib.hid (show decide (n + 1 ≤ 16 ∧ t ≠ 0) = false by rw [decide_eq_false_iff_not]; omega)
    go_enter Try.func20, Try.ntmps20
    go_wp2_with fail
    go_ret
    exact ⟨ret_bool (by rw [hz.out, hd.out]), rfl⟩

theorem refright_sl {w : World} {v : Value} {xs : List Int} (h : Sl w v xs) :
    Calls Try.prog 20 #[v] w fun e w' => e = .returned (.bool (rightB xs)) ∧ w = w' := by
  obtain ⟨ao, cap, rfl, h2, h3, h4, h5, _⟩ := h
  exact refright_any ao cap xs w h3 h4 (by omega)
theorem refright_num {w : World} {v : Value} {N : Int} (h : Num w v N) :
    Calls Try.prog 20 #[v] w fun e w' => e = .returned (.bool true) ∧ w = w' := by
  obtain ⟨xs, h1, h2, h3⟩ := h
  have := refright_sl h1
  rw [h2] at this
  exact this
theorem refright_bad {w : World} {v : Value} (h : Bad1 w v) :
    Calls Try.prog 20 #[v] w fun e w' => e = .returned (.bool false) ∧ w = w' := by
  obtain ⟨xs, h1, h2⟩ := h
  have := refright_sl h1
  rw [h2] at this
  exact this
theorem reftext_num {w : World} {v : Value} {N : Int} (h : Num w v N) :
    Calls Try.prog 10 #[v] w fun e w' => (∃ s, e = .returned (.string s) ∧ DecStr s N) ∧ Below w.heap.size w w' := by
  obtain ⟨xs, h1, h2, rfl⟩ := h
  have hl := (rightB_canon h1.choose_spec.choose_spec.2.2.2.1 h2).2
  exact reftext_sl v xs w h1 (by omega)
end Go.Proofs.Ytlkadnaoacoicaa

namespace Go.Proofs.Ytlkadnaoacoicaa
open Go.RowKit NM

/-- The reference's number of a byte; 99: none. -/
def rdg (c : Int) : Int := if 48 ≤ c ∧ c ≤ 57 then c - 48 else if 97 ≤ c ∧ c ≤ 102 then c - 87 else if 65 ≤ c ∧ c ≤ 70 then c - 55 else 99
theorem rdg_dg (c : Int) : dg c = rdg c ∨ (dg c = 512 ∧ rdg c = 99) := by
  unfold dg rdg
  (repeat' split) <;> omega
theorem rdg_range (c : Int) : 0 ≤ rdg c ∧ rdg c ≤ 99 := by
  unfold rdg
  (repeat' split) <;> omega

theorem rdAt {s : ByteArray} {k : Nat} {b : Int} (hb : b ≤ 16) : (rdg (byteAt s k) < b ↔ dAt s k < b) ∧ (dAt s k < b → rdg (byteAt s k) = dAt s k) := by
  unfold dAt
  rcases rdg_dg (byteAt s k) with h | ⟨h1, h2⟩
  · rw [h]; exact ⟨Iff.rfl, fun _ => rfl⟩
  · rw [h1, h2]; omega

theorem sixteen_succ (k : Nat) : (16 : Int) ^ (k + 1) = 16 ^ k * 16 := Int.pow_succ _ _
theorem pv_lt (s : ByteArray) {b : Int} (b2 : 2 ≤ b) (b16 : b ≤ 16) (hd : ∀ j, j < s.size → dAt s j < b) : ∀ k, k ≤ s.size → pv s b k < 16 ^ k
  | 0, _ => by simp [pv]
  | k + 1, hk => by
    have h1 := pv_lt s b2 b16 hd k (by omega)
    have h0 := pv_nonneg s b2 k
    have h2 := hd k (by omega)
    have h3 : pv s b k * b ≤ pv s b k * 16 := Int.mul_le_mul_of_nonneg_left b16 h0
    rw [pv, sixteen_succ]
    omega
theorem sixteen_big {k : Nat} (h : k ≤ 400) : (16 : Int) ^ k < big := by
  have e : (16 : Int) ^ k = 2 ^ (4 * k) := by rw [Int.pow_mul]; rfl
  rw [e]
  exact pow_big (by omega)

end Go.Proofs.Ytlkadnaoacoicaa

namespace Go.Proofs.Ytlkadnaoacoicaa
open Go.RowKit NM

theorem dstr_digit (d : Int) (ds : List Int) : dstr (d :: ds) = dstr ds ++ ⟨#[b8 d]⟩ := by
  apply ByteArray.ext
  simp [dstr, strOfNums, b8]
/-- A digit more behind a text, without zeros ahead. -/
theorem trim_digit (s : ByteArray) (A d : Int) (w : World) (h : DecStr s A) (hA : A < big) (d0 : 0 ≤ d) (d1 : d < 10) :
    Calls Try.prog 45 #[.string (s ++ ⟨#[b8 d]⟩)] w fun e w' => (∃ s, e = .returned (.string s) ∧ DecStr s (d + 10 * A)) ∧ w = w' := by
  obtain ⟨ds, hd, rfl⟩ := h
  have hl := dec_small hd hA
  have h1 := trim_dec (d :: ds) w (by intro x hx; rcases List.mem_cons.1 hx with rfl | hx; exact ⟨d0, d1⟩; exact hd.1 x hx) (by simp) (by simp; omega)
  rw [dstr_digit] at h1
  have e : dv (d :: ds) = d + 10 * A := by rw [dv, hd.2.1]
  rw [e] at h1
  exact h1

/-- Long division by digits: one digit more. -/
theorem div_digit {P B d : Int} (hB : 0 < B) : (d + 10 * P) / B = (d + 10 * (P % B)) / B + 10 * (P / B) ∧ (d + 10 * P) % B = (d + 10 * (P % B)) % B := by
  have h := Int.mul_ediv_add_emod P B
  have e : d + 10 * P = (d + 10 * (P % B)) + B * (10 * (P / B)) := by
    rw [Int.mul_left_comm]
    omega
  rw [e]
  refine ⟨?_, ?_⟩
  · rw [Int.add_mul_ediv_left _ _ (by omega)]
  · rw [Int.add_mul_emod_self_left]
/-- Taken off as often as it goes. -/
theorem off_done {r0 r B n : Int} (hB : 0 < B) (h : r0 = r + n * B) (h0 : 0 ≤ r) (h1 : r < B) : r0 / B = n ∧ r0 % B = r := by
  subst h
  refine ⟨?_, ?_⟩
  · rw [Int.add_mul_ediv_right _ _ (by omega), Int.ediv_eq_zero_of_lt h0 h1, Int.zero_add]
  · rw [Int.add_mul_emod_self_right, Int.emod_eq_of_lt h0 h1]
theorem off_few {r B n : Int} (hB : 0 < B) (h : r + n * B < 10 * B) (h0 : B ≤ r) : n < 9 := by
  have h1 : (n + 1) * B < 10 * B := by rw [Int.add_mul]; omega
  have := Int.lt_of_mul_lt_mul_right h1 (by omega)
  omega
end Go.Proofs.Ytlkadnaoacoicaa

namespace Go.Proofs.Ytlkadnaoacoicaa
open Go.RowKit NM

/-- The two blocks that Div makes for itself. -/
structure DivAt (w wr : World) (q r : ByteArray) : Prop where
  out : wr.heap[w.heap.size]? = some (.cells #[.string ⟨#[]⟩, .string ⟨#[]⟩] 72 (0, 0))
  own : wr.heap[w.heap.size + 1]? = some (.cells #[.string q, .string r] 72 (0, 0))
  below : Below w.heap.size w wr

/-- The text's one byte at a place. -/
theorem dstr_one {ds : List Int} {k i : Nat} (hi : i < ds.length) (hk : k + 1 + i = ds.length) : (dstr ds).extract k (k + 1) = ⟨#[b8 ds[i]]⟩ := by
  have hs := dstr_size ds
  apply ByteArray.ext
  rw [ByteArray.data_extract]
  apply Array.ext
  · have : (dstr ds).data.size = ds.length := hs
    simp [this]
    omega
  · intro j h1 h2
    have hj : j = 0 := by simpa using h2
    subst hj
    simp [dstr, strOfNums, b8]
    have e : ds.length - 1 - k = i := by omega
    simp only [e]

theorem DivAt.cellR {w wr : World} {q r : ByteArray} (h : DivAt w wr q r) : wr.cell? ⟨w.heap.size + 1, 1, none⟩ = some (.string r) := by simp [World.cell?, h.own]
theorem DivAt.cellQ {w wr : World} {q r : ByteArray} (h : DivAt w wr q r) : wr.cell? ⟨w.heap.size + 1, 0, none⟩ = some (.string q) := by simp [World.cell?, h.own]
theorem DivAt.free {w wr : World} {q r : ByteArray} (h : DivAt w wr q r) (k : Nat) : wr.frozen? ⟨w.heap.size + 1, k, none⟩ = false := by simp [World.frozen?, h.own]
theorem DivAt.later {w wr w2 : World} {q r : ByteArray} (h : DivAt w wr q r) (hb : Below wr.heap.size wr w2) : DivAt w w2 q r :=
  ⟨by rw [hb.block _ (lt_of_block h.out)]; exact h.out, by rw [hb.block _ (lt_of_block h.own)]; exact h.own, h.below.trans (hb.mono h.below.size)⟩

end Go.Proofs.Ytlkadnaoacoicaa

namespace Go.Proofs.Ytlkadnaoacoicaa
open Go.RowKit NM

/-- A number's digits, the least first. -/
def digsN (n : Nat) : List Int := if n < 10 then [(n : Int)] else ((n % 10 : Nat) : Int) :: digsN (n / 10)
termination_by n
theorem digsN_dec (n : Nat) : Dec (digsN n) n := by
  induction n using Nat.strongRecOn with
  | ind n ih =>
    rw [digsN]
    by_cases h : n < 10
    · rw [if_pos h]
      refine ⟨fun d hd => ?_, ?_, ?_⟩
      · simp at hd; omega
      · simp [dv]
      · rcases Nat.eq_zero_or_pos n with h0 | h0
        · subst h0; exact .inl ⟨rfl, rfl⟩
        · exact .inr ⟨by simp, by simp; omega⟩
    · rw [if_neg h]
      obtain ⟨h1, h2, h3⟩ := ih (n / 10) (by omega)
      refine ⟨fun d hd => ?_, ?_, .inr ⟨by simp, ?_⟩⟩
      · rcases List.mem_cons.1 hd with rfl | hd
        · omega
        · exact h1 d hd
      · rw [dv, h2]; omega
      · rw [List.length_cons, Nat.add_sub_cancel]
        rcases h3 with ⟨h4, _⟩ | ⟨h4, h5⟩
        · omega
        · obtain ⟨k, hk⟩ : ∃ k, (digsN (n / 10)).length = k + 1 := ⟨_, (Nat.sub_add_cancel h4).symm⟩
          rw [hk, Nat.add_sub_cancel] at h5
          rw [hk, ten_succ]
          omega
/-- A number's text. -/
def numStr (N : Int) : ByteArray := dstr (digsN N.toNat)
theorem numStr_dec {N : Int} (h : 0 ≤ N) : DecStr (numStr N) N := by
  have h1 := digsN_dec N.toNat
  rw [show ((N.toNat : Nat) : Int) = N by omega] at h1
  exact ⟨_, h1, rfl⟩
theorem DecStr.nonneg {s : ByteArray} {N : Int} (h : DecStr s N) : 0 ≤ N := by
  obtain ⟨ds, ⟨h1, h2, _⟩, _⟩ := h
  rw [← h2]
  exact (dv_range h1).1
theorem DecStr.eq {s : ByteArray} {N : Int} (h : DecStr s N) : s = numStr N := h.same (numStr_dec h.nonneg)
theorem numStr_inj {A B : Int} (hA : 0 ≤ A) (hB : 0 ≤ B) (h : numStr A = numStr B) : A = B := by
  have h4 : digsN A.toNat = digsN B.toNat := by
    have h5 : dstr (digsN A.toNat) = dstr (digsN B.toNat) := h
    have k1 := digsN_dec A.toNat
    have k2 := digsN_dec B.toNat
    have hl : (digsN A.toNat).length = (digsN B.toNat).length := by rw [← dstr_size, h5, dstr_size]
    have hb := dstr_beq hl k1.1 k2.1
    rw [h5] at hb
    have hv : dv (digsN A.toNat) = dv (digsN B.toNat) := by simpa using hb.symm
    exact dv_same k1.1 k2.1 hl hv
  have k1 := (digsN_dec A.toNat).2.1
  have k2 := (digsN_dec B.toNat).2.1
  rw [h4] at k1
  omega
theorem numStr_zero : numStr 0 = ⟨#[48]⟩ := (decStr_zero.eq).symm
theorem numStr_one : numStr 1 = ⟨#[49]⟩ := (dec_one.eq).symm
theorem numStr_size {N : Int} (hN : N < big) : (numStr N).size ≤ 1000 := by
  have h1 := digsN_dec N.toNat
  have h2 := dec_small h1 (show ((N.toNat : Nat) : Int) < big by
    have : 0 < big := by unfold big; decide +kernel
    omega)
  unfold numStr
  rw [dstr_size]
  omega

/-- A text's answer, and what became of the world. -/
theorem trim_fun (A d : Int) (w : World) (h : 0 ≤ A) (hA : A < big) (d0 : 0 ≤ d) (d1 : d < 10) :
    Calls Try.prog 45 #[.string (numStr A ++ ⟨#[b8 d]⟩)] w fun e w' => e = .returned (.string (numStr (d + 10 * A))) ∧ w' = w :=
  (trim_digit _ A d w (numStr_dec h) hA d0 d1).mono fun _ _ ⟨⟨_, h1, h2⟩, h3⟩ => ⟨by rw [h1, h2.eq], h3.symm⟩
theorem cmp_fun (A B : Int) (w : World) (hA0 : 0 ≤ A) (hB0 : 0 ≤ B) (hA : A < big) (hB : B < big) :
    Calls Try.prog 38 #[.string (numStr A), .string (numStr B)] w fun e w' => e = .returned (.int .i64 (sgn A B)) ∧ w = w' :=
  cmp_dec _ _ A B w (numStr_dec hA0) (numStr_dec hB0) hA hB
theorem refsub_fun (A B : Int) (w : World) (hB0 : 0 ≤ B) (hA : A < big) (hAB : B ≤ A) :
    Calls Try.prog 43 #[.string (numStr A), .string (numStr B)] w fun e w' => e = .returned (.string (numStr (A - B))) ∧ Below w.heap.size w w' :=
  (refsub_str _ _ A B w (numStr_dec (by omega)) (numStr_dec hB0) hA hAB).mono fun _ _ ⟨⟨_, h1, h2⟩, h3⟩ => ⟨by rw [h1, h2.eq], h3⟩
theorem refadd_fun (A B : Int) (w : World) (hA0 : 0 ≤ A) (hB0 : 0 ≤ B) (hA : A < big) (hB : B < big) :
    Calls Try.prog 56 #[.string (numStr A), .string (numStr B)] w fun e w' => e = .returned (.string (numStr (A + B))) ∧ Below w.heap.size w w' :=
  (refadd_str _ _ A B w (numStr_dec hA0) (numStr_dec hB0) hA hB).mono fun _ _ ⟨⟨_, h1, h2⟩, h3⟩ => ⟨by rw [h1, h2.eq], h3⟩
theorem refmul_fun (A B : Int) (w : World) (hA0 : 0 ≤ A) (hB0 : 0 ≤ B) (hA : A < pw 16) (hB : B < pw 16) :
    Calls Try.prog 39 #[.string (numStr A), .string (numStr B)] w fun e w' => e = .returned (.string (numStr (A * B))) ∧ Below w.heap.size w w' :=
  (refmul_str _ _ A B w (numStr_dec hA0) (numStr_dec hB0) hA0 hA hB).mono fun _ _ ⟨⟨_, h1, h2⟩, h3⟩ => ⟨by rw [h1, h2.eq], h3⟩
theorem power_fun (n : Nat) (w : World) (hn : n ≤ 2000) :
    Calls Try.prog 42 #[.int .i64 (n : Int)] w fun e w' => e = .returned (.string (numStr (2 ^ n))) ∧ Below w.heap.size w w' :=
  (power_any n w hn).mono fun _ _ ⟨⟨_, h1, h2⟩, h3⟩ => ⟨by rw [h1, h2.eq], h3⟩
theorem small_fun (A by_ c0 N : Int) (w : World) (h : 0 ≤ A) (hA : A < big) (b0 : 0 ≤ by_) (b1 : by_ ≤ 1099511627776) (m0 : 0 ≤ c0) (m1 : c0 ≤ 1099511627776) (hN : c0 + by_ * A = N) :
    Calls Try.prog 26 #[.string (numStr A), .int .i64 by_, .int .i64 c0] w fun e w' => e = .returned (.string (numStr N)) ∧ Below w.heap.size w w' :=
  (small_str _ A by_ c0 N w (numStr_dec h) hA b0 b1 m0 m1 hN).mono fun _ _ ⟨⟨_, h1, h2⟩, h3⟩ => ⟨by rw [h1, h2.eq], h3⟩
end Go.Proofs.Ytlkadnaoacoicaa

namespace Go.Proofs.Ytlkadnaoacoicaa
open Go.RowKit NM

theorem block_second (hp : Array Obj) (a b : Obj) : ((hp.push a).push b)[hp.size + 1]? = some b := by
  rw [Array.getElem?_push]
  simp
theorem two_set0 {w : World} {b : Nat} {v u x : Value} {t : TypeId} (h : w.heap[b]? = some (.cells #[v, u] t (0, 0))) : (w.setCell ⟨b, 0, none⟩ x).heap[b]? = some (.cells #[x, u] t (0, 0)) := by
  have hlt := lt_of_block h
  have h' : w.heap[b] = .cells #[v, u] t (0, 0) := by simpa [Array.getElem?_eq_getElem hlt] using h
  show (w.heap.modify b _)[b]? = _
  rw [Array.getElem?_eq_getElem (by simpa using hlt), Array.getElem_modify_self, h']
  rfl
theorem two_set1 {w : World} {b : Nat} {v u x : Value} {t : TypeId} (h : w.heap[b]? = some (.cells #[v, u] t (0, 0))) : (w.setCell ⟨b, 1, none⟩ x).heap[b]? = some (.cells #[v, x] t (0, 0)) := by
  have hlt := lt_of_block h
  have h' : w.heap[b] = .cells #[v, u] t (0, 0) := by simpa [Array.getElem?_eq_getElem hlt] using h
  show (w.heap.modify b _)[b]? = _
  rw [Array.getElem?_eq_getElem (by simpa using hlt), Array.getElem_modify_self, h']
  rfl
theorem DivAt.cellO0 {w wr : World} {q r : ByteArray} (h : DivAt w wr q r) : wr.cell? ⟨w.heap.size, 0, none⟩ = some (.string ⟨#[]⟩) := by simp [World.cell?, h.out]
theorem DivAt.cellO1 {w wr : World} {q r : ByteArray} (h : DivAt w wr q r) : wr.cell? ⟨w.heap.size, 1, none⟩ = some (.string ⟨#[]⟩) := by simp [World.cell?, h.out]
theorem DivAt.freeO {w wr : World} {q r : ByteArray} (h : DivAt w wr q r) (k : Nat) : wr.frozen? ⟨w.heap.size, k, none⟩ = false := by simp [World.frozen?, h.out]
theorem DivAt.setQ {w wr : World} {q r : ByteArray} (h : DivAt w wr q r) (x : ByteArray) : DivAt w (wr.setCell ⟨w.heap.size + 1, 0, none⟩ (.string x)) x r :=
  ⟨by rw [Below.heap_setCell _ _ _ _ (by simp)]; exact h.out, two_set0 h.own, h.below.setCell (by simp) _⟩
theorem DivAt.setR {w wr : World} {q r : ByteArray} (h : DivAt w wr q r) (x : ByteArray) : DivAt w (wr.setCell ⟨w.heap.size + 1, 1, none⟩ (.string x)) q x :=
  ⟨by rw [Below.heap_setCell _ _ _ _ (by simp)]; exact h.out, two_set1 h.own, h.below.setCell (by simp) _⟩
theorem DivAt.drewN {w wr : World} {q r : ByteArray} (h : DivAt w wr q r) (n : Nat) : DivAt w (wr.drewN n) q r :=
  ⟨h.out, h.own, below_drewN h.below _⟩
set_option maxHeartbeats 800000 in
set_option maxRecDepth 100000 in
theorem refdiv_dec (ds : List Int) (B : Int) (w : World) (hd : Digs ds) (hm : ds.length ≤ 1000) (hB0 : 0 < B) (hB : B < pw 20) :
    Calls Try.prog 37 #[.string (dstr ds), .string (numStr B)] w fun e w' => e = .returned (.agg #[.string (numStr (dv ds / B)), .string (numStr (dv ds % B))]) ∧ Below w.heap.size w w' := by
  have hsz := dstr_size ds
  obtain ⟨l, hl⟩ : ∃ l, ds.length = l := ⟨_, rfl⟩
  have Hl := Lib.hid hl
  have Hd := Lib.hid hd
  rw [hl] at hsz hm
  clear hl hd
  obtain ⟨s, hs⟩ : ∃ s, dstr ds = s := ⟨_, rfl⟩
  have Hs := Lib.hid hs
  rw [hs] at hsz ⊢
  clear hs
  have Hz := Lib.hid numStr_zero
  obtain ⟨bs, hbs⟩ : ∃ bs, numStr B = bs := ⟨_, rfl⟩
  have Hbs := Lib.hid hbs
  rw [hbs]
  clear hbs
  go_enter Try.func37, Try.ntmps37
  go_wp2_with fail
  go_loopw [6, 7, 8] (fun vi _ _ wr => ∃ (k : Nat) (P : Int), k ≤ l ∧ vi = .int .i64 k ∧ Hid (P = dv (ds.drop (l - k))) ∧ Hid (DivAt w wr (numStr (P / B)) (numStr (P % B)))) (fun vi _ _ _ => l - (intOf vi).toNat)
  case atStart =>
    refine ⟨0, 0, by omega, rfl, Lib.hid ?_, Lib.hid ?_⟩
    · rw [Nat.sub_zero, List.drop_of_length_le (by rw [Hl.out]; omega)]; rfl
    · rw [Int.zero_ediv, Int.zero_emod, Hz.out]
      refine ⟨?_, ?_, ?_⟩
      · simp only [World.alloc]
        rw [Array.getElem?_push_lt (by simp)]
        simp
      · simp only [World.alloc]
        exact block_second _ _ _
      · exact ((Below.refl _ _).alloc (Nat.le_refl _) _).alloc (by simp) _
  case round =>
    obtain ⟨k, P, hk, rfl, hP, hdv⟩ := hrel
    by_cases hkl : k < l
    · have hcR := hdv.out.cellR
      have hi : l - 1 - k < ds.length := by rw [Hl.out]; omega
      have hone := dstr_one hi (show k + 1 + (l - 1 - k) = ds.length by rw [Hl.out]; omega)
      have hdr := Hd.out _ (List.getElem_mem hi)
      obtain ⟨d, hdd⟩ : ∃ d, ds[l - 1 - k] = d := ⟨_, rfl⟩
      rw [hdd] at hone hdr
      rw [Hs.out] at hone
      have hP2 := Lib.hid (show d + 10 * P = dv (ds.drop (l - (k + 1))) by
        have := pre_step (fs := ds) (i := k) (by rw [Hl.out]; omega)
        simp only [Hl.out] at this
        rw [hdd] at this
        rw [this, hP.out]; omega)
      have hRr : 0 ≤ P % B ∧ P % B < B := ⟨Int.emod_nonneg _ (by omega), Int.emod_lt_of_pos _ hB0⟩
      have hPr := dv_range (ds := ds.drop (l - k)) (fun x hx => Hd.out x (List.mem_of_mem_drop hx))
      rw [← hP.out] at hPr
      have hPb : P < big := by
        have := ten_le (show (ds.drop (l - k)).length ≤ 1000 by rw [List.length_drop, Hl.out]; omega)
        unfold big; omega
      have hQr : 0 ≤ P / B ∧ P / B < big := ⟨Int.ediv_nonneg hPr.1 (by omega), by
        have := Int.ediv_le_self B hPr.1
        omega⟩
      clear hPr hPb
      obtain ⟨R, hR⟩ : ∃ R, P % B = R := ⟨_, rfl⟩
      obtain ⟨Q, hQ⟩ : ∃ Q, P / B = Q := ⟨_, rfl⟩
      rw [hR] at hRr hcR hdv
      rw [hQ] at hQr hdv
      have hd1 := Lib.hid (div_digit (P := P) (d := d) hB0)
      rw [hR, hQ] at hd1
      clear hi hdd hR hQ hP
      have HT := Lib.hid (fun w => trim_fun R d w hRr.1 (by have : pw 20 ≤ big := pw_big (by omega)
                                                            omega) hdr.1 hdr.2)
      have H1 := Lib.hid hone
      clear hone
      go_upto_region 5 with fail
      have ha := IntWalk.i64_in ((k : Int) + 1) (by omega)
      have hb : (0 : Int) ≤ (k : Int) + 1 := by omega
      have hc : ((k : Int) + 1).toNat = k + 1 := by omega
      have hcut : ∀ w : World, (Instr.slice 9 (.string s) (some (.int .i64 (k : Int))) (some (.int .i64 ((k : Int) + 1))) none).run Try.prog w = .ok (.string ⟨#[b8 d]⟩) w := by
        intro w
        rw [run_slice_string w 9 s .i64 .i64 (k : Int) ((k : Int) + 1) Try.underlying9 (by omega) (by omega) (by rw [hsz]; omega), hc, Int.toNat_natCast, H1.out]
      have hadd : ∀ w : World, (Op.stringOp .add (numStr R) ⟨#[b8 d]⟩).run Try.prog w = .ok (.string (numStr R ++ ⟨#[b8 d]⟩)) w := by
        intro w
        have h16 : pw 20 ≤ big := pw_big (by omega)
        have := numStr_size (show R < big by omega)
        exact run_string_add_sum w _ _ (by show _ + 1 ≤ _; omega)
      go_quiet ((go_at_call 45; exact Calls.quiet_of_same (HT.out _)))
      rename_i nq
      have hdv2 : Hid (DivAt w (wr.drewN nq) (numStr Q) (numStr R)) := Lib.hid (hdv.out.drewN _)
      generalize wr.drewN nq = wx at hdv2 ⊢
      clear ha hb hc hcut hadd HT H1 hdv hcR
      go_wp2_with fail
      have H16 := Lib.hid (show 10 * pw 20 ≤ big by unfold big; decide +kernel)
      go_loopw [7, 8] (fun vr vn wy => ∃ (n : Nat) (r : Int), n ≤ 9 ∧ vn = .int .i64 n ∧ vr = .string (numStr r) ∧ 0 ≤ r ∧ r < 10 * B ∧ Hid (d + 10 * R = r + n * B) ∧ Hid (DivAt w wy (numStr Q) (numStr R))) (fun _ vn _ => 10 - (intOf vn).toNat)
      case atStart => exact ⟨0, _, by omega, rfl, rfl, by omega, by omega, Lib.hid (by simp), hdv2⟩
      case round =>
        obtain ⟨n, r, hn, rfl, rfl, r0, r1, hrn, hdy⟩ := hrel
        rename_i wy
        have HC := Lib.hid (fun w => cmp_fun r B w r0 (by omega) (by have := H16.out; omega) (by have := H16.out; omega))
        rw [Hbs.out] at HC
        by_cases hbr : B ≤ r
        · obtain ⟨g, hg, hg0⟩ : ∃ g, sgn r B = g ∧ 0 ≤ g := ⟨_, rfl, by unfold sgn; split <;> (try split) <;> omega⟩
          rw [hg] at HC
          have hn9 : n < 9 := by
            have := off_few (r := r) (n := n) hB0 (by have := hrn.out; omega) hbr
            omega
          have hrn2 := Lib.hid (show d + 10 * R = (r - B) + ((n + 1 : Nat) : Int) * B by
            have := hrn.out
            rw [this, Int.natCast_add, Int.add_mul]
            omega)
          have HS := Lib.hid (fun w => refsub_fun r B w (by omega) (by have := H16.out; omega) hbr)
          rw [Hbs.out] at HS
          clear hg
          go_wp2_with fail
          refine (HC.out _).mono ?_
          rintro e w' ⟨rfl, rfl⟩
          go_wp2_with fail
          refine (HS.out _).mono ?_
          rintro e w2 ⟨rfl, hb2⟩
          have hd2 := Lib.hid (hdy.out.later hb2)
          clear hb2 HS HC
          go_wp2_with fail
          go_roundw
          case rel => exact ⟨n + 1, r - B, by omega, by go_num, rfl, by omega, by omega, hrn2, hd2⟩
          case measure => simp [intOf]; omega
        · obtain ⟨g, hg, hg0⟩ : ∃ g, sgn r B = g ∧ g < 0 := ⟨_, rfl, by unfold sgn; split <;> (try split) <;> omega⟩
          rw [hg] at HC
          clear hg
          have hrn3 := off_done hB0 hrn.out r0 (by omega)
          have hadd : ∀ w : World, (Op.stringOp .add (numStr Q) ⟨#[b8 n]⟩).run Try.prog w = .ok (.string (numStr Q ++ ⟨#[b8 n]⟩)) w := by
            intro w
            have := numStr_size hQr.2
            exact run_string_add_sum w _ _ (by show _ + 1 ≤ _; omega)
          have hconv : ∀ w : World, (convert 77 9 (.slice (some ⟨w.heap.size, 0, none⟩) 1 1)).run Try.prog (w.alloc (.cells #[.int .u8 (48 + n)] 5)) = .ok (.string ⟨#[b8 n]⟩) (w.alloc (.cells #[.int .u8 (48 + n)] 5)) := by
            intro w
            refine run_convert_bytes_arg _ 77 5 Try.underlying77 Try.underlying5 w.heap.size 0 1 1 [48 + (n : Int)] rfl (fun i hi => ?_) 9 Try.underlying9
            obtain rfl : i = 0 := by simpa using hi
            exact cell_one_new _ _ _ 0 _ rfl
          have hz := lt_of_block hdy.out.own
          have hcQ := hdy.out.cellQ
          have hcR2 := hdy.out.cellR
          have hfr := hdy.out.free
          have hf0 := hfr 0
          have hf1 := hfr 1
          have HF := Lib.hid hfr
          clear hfr
          go_wp2_with fail
          refine (HC.out _).mono ?_
          rintro e w' ⟨rfl, rfl⟩
          clear hrn
          go_wp2_with fail
          refine (trim_fun Q n _ hQr.1 hQr.2 (by omega) (by omega)).mono ?_
          rintro e w' ⟨rfl, rfl⟩
          have hd2 := Lib.hid (((hdy.out.setQ (numStr (n + 10 * Q))).setR (numStr r)).later ((Below.refl _ _).alloc (Nat.le_refl _) (.cells #[.int .u8 (48 + n)] 5)))
          have hq2 := Lib.hid (show (n + 10 * Q = (d + 10 * P) / B) ∧ r = (d + 10 * P) % B by
            have := hd1.out
            omega)
          clear hrn3
          go_wp2_with fail
          clear hz hcQ hcR2 hf0 hf1 hadd hconv
          go_roundw
          case rel => exact ⟨k + 1, d + 10 * P, by omega, by go_num, hP2, by rw [← hq2.out.1, ← hq2.out.2]; exact hd2⟩
          case measure => simp [intOf]; omega
    · obtain rfl : k = l := by omega
      have hcQ := hdv.out.cellQ
      have hcR := hdv.out.cellR
      have ho0 := hdv.out.cellO0
      have ho1 := hdv.out.cellO1
      have hf0 := hdv.out.freeO 0
      have hf1 := hdv.out.freeO 1
      have hP2 : Hid (P = dv ds) := Lib.hid (by rw [hP.out, Nat.sub_self, List.drop_zero])
      clear hP
      go_wp2_with fail
      refine bodyPost_ret (v := .agg #[.string (numStr (P / B)), .string (numStr (P % B))]) (by simp [results, Try.results37, go_sem, ho0, ho1]) rfl ⟨by rw [hP2.out], ?_⟩
      exact ((hdv.out.below.setCell (by simp) _).setCell (by simp) _)

theorem refdiv_fun (A B : Int) (w : World) (hA0 : 0 ≤ A) (hA : A < big) (hB0 : 0 < B) (hB : B < pw 20) :
    Calls Try.prog 37 #[.string (numStr A), .string (numStr B)] w fun e w' => e = .returned (.agg #[.string (numStr (A / B)), .string (numStr (A % B))]) ∧ Below w.heap.size w w' := by
  have h1 := digsN_dec A.toNat
  rw [show ((A.toNat : Nat) : Int) = A by omega] at h1
  have h2 := refdiv_dec (digsN A.toNat) B w h1.1 (dec_small h1 hA).2 hB0 hB
  rw [h1.2.1] at h2
  exact h2
end Go.Proofs.Ytlkadnaoacoicaa

namespace Go.Proofs.Ytlkadnaoacoicaa
open Go.RowKit NM

theorem reftext_fun {w : World} {v : Value} {N : Int} (h : Num w v N) :
    Calls Try.prog 10 #[v] w fun e w' => e = .returned (.string (numStr N)) ∧ Below w.heap.size w w' :=
  (reftext_num h).mono fun _ _ ⟨⟨_, h1, h2⟩, h3⟩ => ⟨by rw [h1, h2.eq], h3⟩
theorem pw_big' : 10 * pw 20 * pw 20 < big := by unfold big; decide +kernel
theorem pw_pos' (n : Nat) : 0 < pw n := pw_pos n
theorem ten_less {n : Nat} {N : Int} (h : 10 ^ n ≤ N) (hN : N < pw 20) : n ≤ 193 := by
  rcases Nat.lt_or_ge 193 n with hn | hn
  · exfalso
    have h1 := ten_le (show 194 ≤ n by omega)
    have h2 : (pw 20 : Int) ≤ 10 ^ 194 := by decide +kernel
    omega
  · exact hn
theorem refmul_wide (A B : Int) (w : World) (hA0 : 0 ≤ A) (hB0 : 0 ≤ B) (hA : A < pw 20) (hB : B < pw 20) :
    Calls Try.prog 39 #[.string (numStr A), .string (numStr B)] w fun e w' => e = .returned (.string (numStr (A * B))) ∧ Below w.heap.size w w' := by
  have hf := digsN_dec B.toNat
  rw [show ((B.toNat : Nat) : Int) = B by omega] at hf
  have h20 : pw 20 < big := by unfold big; decide +kernel
  have h32 : 10 * (pw 20 * 10 ^ 194) + 10 * pw 20 < big := by unfold big; decide +kernel
  have l2 := dec_small hf (show B < big by omega)
  have hl : (digsN B.toNat).length ≤ 194 := by
    rcases hf.2.2 with ⟨_, h⟩ | ⟨_, h⟩
    · rw [h]; simp
    · have := ten_less h hB; omega
  have h := refmul_dec (numStr A) A (digsN B.toNat) w (numStr_dec hA0) hf.1 hA0 (by omega) (by omega) (fun i => by
    have hd : Digs ((digsN B.toNat).drop ((digsN B.toNat).length - i)) := fun x hx => hf.1 x (List.mem_of_mem_drop hx)
    have hr := dv_range hd
    have h1 := ten_le (show ((digsN B.toNat).drop ((digsN B.toNat).length - i)).length ≤ 194 by simp; omega)
    have h2 : A * dv ((digsN B.toNat).drop ((digsN B.toNat).length - i)) ≤ pw 20 * 10 ^ 194 := Int.mul_le_mul (by omega) (by omega) hr.1 (by omega)
    omega)
  rw [hf.2.1] at h
  exact h.mono fun _ _ ⟨⟨_, h1, h2⟩, h3⟩ => ⟨by rw [h1, h2.eq], h3⟩
theorem pow_pw {n : Nat} (h : n ≤ 600) : (2 : Int) ^ n < pw 20 := by
  have h1 := pow_le h
  have h2 : (2 : Int) ^ 600 < pw 20 := by decide +kernel
  omega
theorem sgn_ge {A B : Int} (h : B ≤ A) : 0 ≤ sgn A B := by unfold sgn; split <;> (try split) <;> omega
theorem sgn_less {A B : Int} (h : A < B) : sgn A B = -1 := by rw [sgn, if_pos h]
theorem shift_far {N : Int} {t : Nat} (h0 : 0 ≤ N) (hN : N < pw 16) (ht : 512 ≤ t) : N / 2 ^ t = 0 := by
  have h1 := pow_le ht
  have h2 : pw 16 = 2 ^ 512 := pow16
  exact Int.ediv_eq_zero_of_lt h0 (by omega)
theorem shift_more {N : Int} {t : Nat} (h0 : 0 < N) (ht : 512 ≤ t) : pw 16 ≤ N * 2 ^ t := by
  have h1 := pow_le ht
  have h2 : pw 16 = 2 ^ 512 := pow16
  have h3 : 1 * 2 ^ t ≤ N * 2 ^ t := Int.mul_le_mul_of_nonneg_right (by omega) (by omega)
  omega
end Go.Proofs.Ytlkadnaoacoicaa

