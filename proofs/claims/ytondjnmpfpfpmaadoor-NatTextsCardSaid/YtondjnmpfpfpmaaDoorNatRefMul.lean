/- The reference's Mul. -/
import Derived.Test.YtondjnmpfpfpmaaDoorNatRefSub
import Derived.Deep.RegionWith
import Derived.Laws.Concat
namespace Go.Proofs.YtondjnmpfpfpmaaDoor
open Go.RowKit NM

theorem dstr_cons (ds : List Int) : dstr (0 :: ds) = dstr ds ++ ⟨#[48]⟩ := by
  apply ByteArray.ext
  simp [dstr, strOfNums]
/-- What the first k digits of a text are worth. -/
theorem pre_step {fs : List Int} {i : Nat} (h : i < fs.length) : dv (fs.drop (fs.length - (i + 1))) = 10 * dv (fs.drop (fs.length - i)) + fs[fs.length - 1 - i] := by
  rw [show fs.length - i = (fs.length - (i + 1)) + 1 by omega, List.drop_eq_getElem_cons (show fs.length - (i + 1) < fs.length by omega), dv]
  have e : fs.length - 1 - i = fs.length - (i + 1) := by omega
  simp only [e]
  omega

theorem trim_zero (s : ByteArray) (A : Int) (w : World) (h : DecStr s A) (hA : A < big) :
    Calls Tryd.prog 40 #[.string (s ++ ⟨#[48]⟩)] w fun e w' => (∃ s, e = .returned (.string s) ∧ DecStr s (10 * A)) ∧ w = w' := by
  obtain ⟨ds, hd, rfl⟩ := h
  have hl := dec_small hd hA
  have h1 := trim_dec (0 :: ds) w (by intro x hx; rcases List.mem_cons.1 hx with rfl | hx; exact ⟨by omega, by omega⟩; exact hd.1 x hx) (by simp) (by simp; omega)
  rw [dstr_cons] at h1
  have e : dv (0 :: ds) = 10 * A := by rw [dv, hd.2.1]; omega
  rw [e] at h1
  exact h1

set_option maxHeartbeats 2000000 in
set_option maxRecDepth 100000 in
theorem refmul_dec (a : ByteArray) (A : Int) (fs : List Int) (w : World) (ha : DecStr a A) (hf : Digs fs) (hA0 : 0 ≤ A) (hA : A < big) (hm : fs.length ≤ 100000) (hbig : ∀ i, 10 * (A * dv (fs.drop (fs.length - i))) + 10 * A < big) :
    Calls Tryd.prog 20 #[.string a, .string (dstr fs)] w fun e w' => (∃ s, e = .returned (.string s) ∧ DecStr s (A * dv fs)) ∧ Below w.heap.size w w' := by
  have hsf := dstr_size fs
  obtain ⟨m, hlm⟩ : ∃ m, fs.length = m := ⟨_, rfl⟩
  have Hm := Lib.hid hlm
  have Hf := Lib.hid hf
  have Hbig := Lib.hid hbig
  rw [hlm] at hm hsf
  clear hlm hf hbig
  obtain ⟨s2, hs2⟩ : ∃ s2, dstr fs = s2 := ⟨_, rfl⟩
  have Hs2 := Lib.hid hs2
  rw [hs2] at hsf ⊢
  clear hs2
  go_enter Tryd.func20, Tryd.ntmps20
  go_wp2_with fail
  go_loopw [5, 6] (fun so i wr => ∃ (k : Nat) (s : ByteArray), k ≤ m ∧ i = .int .i64 k ∧ so = .string s ∧ Hid (DecStr s (A * dv (fs.drop (m - k)))) ∧ Hid (Below w.heap.size w wr)) (fun _ i _ => m - (intOf i).toNat)
  case atStart => exact ⟨0, _, Nat.zero_le _, rfl, rfl, Lib.hid (by rw [Nat.sub_zero, List.drop_of_length_le (by rw [Hm.out]; omega)]; simpa [dv] using decStr_zero), Lib.hid (Below.refl _ _)⟩
  case round =>
    obtain ⟨k, s, hk, rfl, rfl, hs, hbl⟩ := hrel
    by_cases hkm : k < m
    · have hps := pre_step (fs := fs) (i := k) (by rw [Hm.out]; omega)
      have hgl : m - 1 - k < fs.length := by rw [Hm.out]; omega
      have hby := dstr_byte Hf.out hgl (k := k) (by rw [Hs2.out]; omega)
      have hdr := Hf.out _ (List.getElem_mem hgl)
      simp only [Hm.out] at hps
      obtain ⟨d, hd⟩ : ∃ d, fs[m - 1 - k] = d := ⟨_, rfl⟩
      rw [hd] at hps hby hdr
      obtain ⟨O, hO⟩ : ∃ O, A * dv (fs.drop (m - k)) = O := ⟨_, rfl⟩
      have hbg := Hbig.out k
      rw [Hm.out, hO] at hbg
      rw [hO] at hs
      have hP := Lib.hid (show 10 * O + (0 + d * A) = A * dv (fs.drop (m - (k + 1))) by
        rw [hps, Int.mul_add, ← hO, Int.mul_comm d A, ← Int.mul_assoc, Int.mul_comm 10 A, Int.mul_assoc]; omega)
      have hO0 : 0 ≤ O := by rw [← hO]; exact Int.mul_nonneg hA0 (dv_range (fun x hx => Hf.out x (List.mem_of_mem_drop hx))).1
      have hbyte : ((s2[k]'(by omega)).toNat : Int) = 48 + d := by simp only [← Hs2.out]; exact hby
      have hdA : d * A ≤ 9 * A := Int.mul_le_mul_of_nonneg_right (by omega) hA0
      have hdA0 : 0 ≤ d * A := Int.mul_nonneg hdr.1 hA0
      have hsz : s.size ≤ 1000 := by
        obtain ⟨es, he, e⟩ := hs.out
        have hl := dec_small he (show O < big by omega)
        have e1 : s = dstr es := e
        rw [e1, dstr_size]
        omega
      have hwd := Lib.hid (show IntKind.i64.wrap (IntKind.u8.wrap (48 + d - 48)) = d by rw [IntKind.wrap_i64]; simp only [IntKind.wrap, IntKind.signed, IntKind.bits]; simp; omega)
      have hds := Lib.hid (show 48 + d - 48 = d by omega)
      have HT := Lib.hid (fun w => trim_zero s O w hs.out (by omega))
      have HS := Lib.hid (fun w => small_str a A d 0 (0 + d * A) w ha hA (by omega) (by omega) (by omega) (by omega) rfl)
      have HAd := Lib.hid (fun (t u : ByteArray) (w : World) (ht : DecStr t (10 * O)) (hu : DecStr u (0 + d * A)) => refadd_str t u (10 * O) (0 + d * A) w ht hu (by omega) (by omega))
      clear hps hby hd hO hbg hO0 hdA hdA0
      go_upto_region 5 with fail
      go_region_with (first
        | (go_at_call 40; refine (HT.out _).mono ?_; rintro e w' ⟨⟨t, rfl, ht⟩, rfl⟩)
        | (go_at_call 30; (first | rw [hwd.out] | rw [hds.out]); refine (HS.out _).mono ?_; rintro e w3 ⟨⟨u, rfl, hu⟩, hb3⟩)
        | (go_at_call 19; refine (HAd.out _ _ _ ht hu).mono ?_; rintro e w4 ⟨⟨z, rfl, hz⟩, hb4⟩))
      all_goals
        rw [hP.out] at hz
        have Hz := Lib.hid hz
        have hbz := Lib.hid ((hbl.out.drew.trans (hb3.mono hbl.out.size)).trans (hb4.mono (Nat.le_trans hbl.out.size hb3.size)))
        clear hz hb3 hb4 ht hu HT HS HAd
        go_wp2_with fail
        go_roundw
        case rel => exact ⟨k + 1, z, by omega, by go_num, rfl, Hz, hbz⟩
        case measure => simp [intOf]; omega
    · obtain rfl : k = m := by omega
      have h1 := hs.out
      rw [Nat.sub_self, List.drop_zero] at h1
      have H1 := Lib.hid h1
      clear h1
      go_wp2_with fail
      go_ret
      exact ⟨⟨_, rfl, H1.out⟩, hbl.out⟩

theorem refmul_str (a b : ByteArray) (A B : Int) (w : World) (ha : DecStr a A) (hb : DecStr b B) (hA0 : 0 ≤ A) (hA : A < pw 16) (hB : B < pw 16) :
    Calls Tryd.prog 20 #[.string a, .string b] w fun e w' => (∃ s, e = .returned (.string s) ∧ DecStr s (A * B)) ∧ Below w.heap.size w w' := by
  obtain ⟨fs, hf, rfl⟩ := hb
  have h16 : pw 16 ≤ big := pw_big (by omega)
  have h32 : 10 * (pw 16 * 10 ^ 155) + 10 * pw 16 < big := by unfold big; decide +kernel
  have l2 := dec_small hf (show B < big by omega)
  have hl : fs.length ≤ 155 := by
    rcases hf.2.2 with ⟨_, rfl⟩ | ⟨_, h⟩
    · simp
    · have := ten_small h hB; omega
  have h := refmul_dec a A fs w ha hf.1 hA0 (by omega) (by omega) (fun i => by
    have hd : Digs (fs.drop (fs.length - i)) := fun x hx => hf.1 x (List.mem_of_mem_drop hx)
    have hr := dv_range hd
    have h1 := ten_le (show (fs.drop (fs.length - i)).length ≤ 155 by simp; omega)
    have h2 : A * dv (fs.drop (fs.length - i)) ≤ pw 16 * 10 ^ 155 := Int.mul_le_mul (by omega) (by omega) hr.1 (by omega)
    omega)
  rw [hf.2.1] at h
  exact h
end Go.Proofs.YtondjnmpfpfpmaaDoor
