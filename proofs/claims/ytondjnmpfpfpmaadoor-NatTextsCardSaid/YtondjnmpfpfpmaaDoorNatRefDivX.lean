/- The reference's Div: the walk. -/
import Derived.Test.YtondjnmpfpfpmaaDoorNatRefFun
import Derived.Test.YtondjnmpfpfpmaaDoorNatRefDivW
import Derived.IntWalk
import Derived.Laws.Concat
namespace Go.Proofs.YtondjnmpfpfpmaaDoor
open Go.RowKit NM

theorem block_second (hp : Array Obj) (a b : Obj) : ((hp.push a).push b)[hp.size + 1]? = some b := by
  rw [Array.getElem?_push]
  simp
theorem two_set0 {w : World} {b : Nat} {v u x : Value} {t : TypeId} (h : w.heap[b]? = some (.cells #[v, u] t (0, 0))) : (w.setCell ⟨b, 0, none⟩ x).heap[b]? = some (.cells #[x, u] t (0, 0)) := by
  have hlt := lt_of_block h
  have h' : w.heap[b] = .cells #[v, u] t (0, 0) := by simpa [Array.getElem?_eq_getElem hlt] using h
  show (w.heap.modify b _)[b]? = _
  rw [Array.getElem?_eq_getElem (by simpa using hlt), Array.getElem_modify_self, h']
  rfl
theorem two_set1 {w : World} {b : Nat} {v u x : Value} {t : TypeId} (h : w.heap[b]? = some (.cells #[v, u] t (0, 0))) : (w.setCell ⟨b, 1, none⟩ x).heap[b]? = some (.cells #[v, x] t (0, 0)) := by
  have hlt := lt_of_block h
  have h' : w.heap[b] = .cells #[v, u] t (0, 0) := by simpa [Array.getElem?_eq_getElem hlt] using h
  show (w.heap.modify b _)[b]? = _
  rw [Array.getElem?_eq_getElem (by simpa using hlt), Array.getElem_modify_self, h']
  rfl
theorem DivAt.cellO0 {w wr : World} {q r : ByteArray} (h : DivAt w wr q r) : wr.cell? ⟨w.heap.size, 0, none⟩ = some (.string ⟨#[]⟩) := by simp [World.cell?, h.out]
theorem DivAt.cellO1 {w wr : World} {q r : ByteArray} (h : DivAt w wr q r) : wr.cell? ⟨w.heap.size, 1, none⟩ = some (.string ⟨#[]⟩) := by simp [World.cell?, h.out]
theorem DivAt.freeO {w wr : World} {q r : ByteArray} (h : DivAt w wr q r) (k : Nat) : wr.frozen? ⟨w.heap.size, k, none⟩ = false := by simp [World.frozen?, h.out]
theorem DivAt.setQ {w wr : World} {q r : ByteArray} (h : DivAt w wr q r) (x : ByteArray) : DivAt w (wr.setCell ⟨w.heap.size + 1, 0, none⟩ (.string x)) x r :=
  ⟨by rw [Below.heap_setCell _ _ _ _ (by simp)]; exact h.out, two_set0 h.own, h.below.setCell (by simp) _⟩
theorem DivAt.setR {w wr : World} {q r : ByteArray} (h : DivAt w wr q r) (x : ByteArray) : DivAt w (wr.setCell ⟨w.heap.size + 1, 1, none⟩ (.string x)) q x :=
  ⟨by rw [Below.heap_setCell _ _ _ _ (by simp)]; exact h.out, two_set1 h.own, h.below.setCell (by simp) _⟩
theorem DivAt.drewN {w wr : World} {q r : ByteArray} (h : DivAt w wr q r) (n : Nat) : DivAt w (wr.drewN n) q r :=
  ⟨h.out, h.own, below_drewN h.below _⟩
set_option maxHeartbeats 800000 in
set_option maxRecDepth 100000 in
theorem refdiv_dec (ds : List Int) (B : Int) (w : World) (hd : Digs ds) (hm : ds.length ≤ 1000) (hB0 : 0 < B) (hB : B < pw 20) :
    Calls Tryd.prog 26 #[.string (dstr ds), .string (numStr B)] w fun e w' => e = .returned (.agg #[.string (numStr (dv ds / B)), .string (numStr (dv ds % B))]) ∧ Below w.heap.size w w' := by
  have hsz := dstr_size ds
  obtain ⟨l, hl⟩ : ∃ l, ds.length = l := ⟨_, rfl⟩
  have Hl := Lib.hid hl
  have Hd := Lib.hid hd
  rw [hl] at hsz hm
  clear hl hd
  obtain ⟨s, hs⟩ : ∃ s, dstr ds = s := ⟨_, rfl⟩
  have Hs := Lib.hid hs
  rw [hs] at hsz ⊢
  clear hs
  have Hz := Lib.hid numStr_zero
  obtain ⟨bs, hbs⟩ : ∃ bs, numStr B = bs := ⟨_, rfl⟩
  have Hbs := Lib.hid hbs
  rw [hbs]
  clear hbs
  go_enter Tryd.func26, Tryd.ntmps26
  go_wp2_with fail
  go_loopw [6, 7, 8] (fun vi _ _ wr => ∃ (k : Nat) (P : Int), k ≤ l ∧ vi = .int .i64 k ∧ Hid (P = dv (ds.drop (l - k))) ∧ Hid (DivAt w wr (numStr (P / B)) (numStr (P % B)))) (fun vi _ _ _ => l - (intOf vi).toNat)
  case atStart =>
    refine ⟨0, 0, by omega, rfl, Lib.hid ?_, Lib.hid ?_⟩
    · rw [Nat.sub_zero, List.drop_of_length_le (by rw [Hl.out]; omega)]; rfl
    · rw [Int.zero_ediv, Int.zero_emod, Hz.out]
      refine ⟨?_, ?_, ?_⟩
      · simp only [World.alloc]
        rw [Array.getElem?_push_lt (by simp)]
        simp
      · simp only [World.alloc]
        exact block_second _ _ _
      · exact ((Below.refl _ _).alloc (Nat.le_refl _) _).alloc (by simp) _
  case round =>
    obtain ⟨k, P, hk, rfl, hP, hdv⟩ := hrel
    by_cases hkl : k < l
    · have hcR := hdv.out.cellR
      have hi : l - 1 - k < ds.length := by rw [Hl.out]; omega
      have hone := dstr_one hi (show k + 1 + (l - 1 - k) = ds.length by rw [Hl.out]; omega)
      have hdr := Hd.out _ (List.getElem_mem hi)
      obtain ⟨d, hdd⟩ : ∃ d, ds[l - 1 - k] = d := ⟨_, rfl⟩
      rw [hdd] at hone hdr
      rw [Hs.out] at hone
      have hP2 := Lib.hid (show d + 10 * P = dv (ds.drop (l - (k + 1))) by
        have := pre_step (fs := ds) (i := k) (by rw [Hl.out]; omega)
        simp only [Hl.out] at this
        rw [hdd] at this
        rw [this, hP.out]; omega)
      have hRr : 0 ≤ P % B ∧ P % B < B := ⟨Int.emod_nonneg _ (by omega), Int.emod_lt_of_pos _ hB0⟩
      have hPr := dv_range (ds := ds.drop (l - k)) (fun x hx => Hd.out x (List.mem_of_mem_drop hx))
      rw [← hP.out] at hPr
      have hPb : P < big := by
        have := ten_le (show (ds.drop (l - k)).length ≤ 1000 by rw [List.length_drop, Hl.out]; omega)
        unfold big; omega
      have hQr : 0 ≤ P / B ∧ P / B < big := ⟨Int.ediv_nonneg hPr.1 (by omega), by
        have := Int.ediv_le_self B hPr.1
        omega⟩
      clear hPr hPb
      obtain ⟨R, hR⟩ : ∃ R, P % B = R := ⟨_, rfl⟩
      obtain ⟨Q, hQ⟩ : ∃ Q, P / B = Q := ⟨_, rfl⟩
      rw [hR] at hRr hcR hdv
      rw [hQ] at hQr hdv
      have hd1 := Lib.hid (div_digit (P := P) (d := d) hB0)
      rw [hR, hQ] at hd1
      clear hi hdd hR hQ hP
      have HT := Lib.hid (fun w => trim_fun R d w hRr.1 (by have : pw 20 ≤ big := pw_big (by omega)
                                                            omega) hdr.1 hdr.2)
      have H1 := Lib.hid hone
      clear hone
      go_upto_region 5 with fail
      have ha := IntWalk.i64_in ((k : Int) + 1) (by omega)
      have hb : (0 : Int) ≤ (k : Int) + 1 := by omega
      have hc : ((k : Int) + 1).toNat = k + 1 := by omega
      have hcut : ∀ w : World, (Instr.slice 9 (.string s) (some (.int .i64 (k : Int))) (some (.int .i64 ((k : Int) + 1))) none).run Tryd.prog w = .ok (.string ⟨#[b8 d]⟩) w := by
        intro w
        rw [run_slice_string w 9 s .i64 .i64 (k : Int) ((k : Int) + 1) Tryd.underlying9 (by omega) (by omega) (by rw [hsz]; omega), hc, Int.toNat_natCast, H1.out]
      have hadd : ∀ w : World, (Op.stringOp .add (numStr R) ⟨#[b8 d]⟩).run Tryd.prog w = .ok (.string (numStr R ++ ⟨#[b8 d]⟩)) w := by
        intro w
        have h16 : pw 20 ≤ big := pw_big (by omega)
        have := numStr_size (show R < big by omega)
        exact run_string_add_sum w _ _ (by show _ + 1 ≤ _; omega)
      go_quiet ((go_at_call 40; exact Calls.quiet_of_same (HT.out _)))
      rename_i nq
      have hdv2 : Hid (DivAt w (wr.drewN nq) (numStr Q) (numStr R)) := Lib.hid (hdv.out.drewN _)
      generalize wr.drewN nq = wx at hdv2 ⊢
      clear ha hb hc hcut hadd HT H1 hdv hcR
      go_wp2_with fail
      have H16 := Lib.hid (show 10 * pw 20 ≤ big by unfold big; decide +kernel)
      go_loopw [7, 8] (fun vr vn wy => ∃ (n : Nat) (r : Int), n ≤ 9 ∧ vn = .int .i64 n ∧ vr = .string (numStr r) ∧ 0 ≤ r ∧ r < 10 * B ∧ Hid (d + 10 * R = r + n * B) ∧ Hid (DivAt w wy (numStr Q) (numStr R))) (fun _ vn _ => 10 - (intOf vn).toNat)
      case atStart => exact ⟨0, _, by omega, rfl, rfl, by omega, by omega, Lib.hid (by simp), hdv2⟩
      case round =>
        obtain ⟨n, r, hn, rfl, rfl, r0, r1, hrn, hdy⟩ := hrel
        rename_i wy
        have HC := Lib.hid (fun w => cmp_fun r B w r0 (by omega) (by have := H16.out; omega) (by have := H16.out; omega))
        rw [Hbs.out] at HC
        by_cases hbr : B ≤ r
        · obtain ⟨g, hg, hg0⟩ : ∃ g, sgn r B = g ∧ 0 ≤ g := ⟨_, rfl, by unfold sgn; split <;> (try split) <;> omega⟩
          rw [hg] at HC
          have hn9 : n < 9 := by
            have := off_few (r := r) (n := n) hB0 (by have := hrn.out; omega) hbr
            omega
          have hrn2 := Lib.hid (show d + 10 * R = (r - B) + ((n + 1 : Nat) : Int) * B by
            have := hrn.out
            rw [this, Int.natCast_add, Int.add_mul]
            omega)
          have HS := Lib.hid (fun w => refsub_fun r B w (by omega) (by have := H16.out; omega) hbr)
          rw [Hbs.out] at HS
          clear hg
          go_wp2_with fail
          refine (HC.out _).mono ?_
          rintro e w' ⟨rfl, rfl⟩
          go_wp2_with fail
          refine (HS.out _).mono ?_
          rintro e w2 ⟨rfl, hb2⟩
          have hd2 := Lib.hid (hdy.out.later hb2)
          clear hb2 HS HC
          go_wp2_with fail
          go_roundw
          case rel => exact ⟨n + 1, r - B, by omega, by go_num, rfl, by omega, by omega, hrn2, hd2⟩
          case measure => simp [intOf]; omega
        · obtain ⟨g, hg, hg0⟩ : ∃ g, sgn r B = g ∧ g < 0 := ⟨_, rfl, by unfold sgn; split <;> (try split) <;> omega⟩
          rw [hg] at HC
          clear hg
          have hrn3 := off_done hB0 hrn.out r0 (by omega)
          have hadd : ∀ w : World, (Op.stringOp .add (numStr Q) ⟨#[b8 n]⟩).run Tryd.prog w = .ok (.string (numStr Q ++ ⟨#[b8 n]⟩)) w := by
            intro w
            have := numStr_size hQr.2
            exact run_string_add_sum w _ _ (by show _ + 1 ≤ _; omega)
          have hconv : ∀ w : World, (convert 62 9 (.slice (some ⟨w.heap.size, 0, none⟩) 1 1)).run Tryd.prog (w.alloc (.cells #[.int .u8 (48 + n)] 5)) = .ok (.string ⟨#[b8 n]⟩) (w.alloc (.cells #[.int .u8 (48 + n)] 5)) := by
            intro w
            refine run_convert_bytes_arg _ 62 5 Tryd.underlying62 Tryd.underlying5 w.heap.size 0 1 1 [48 + (n : Int)] rfl (fun i hi => ?_) 9 Tryd.underlying9
            obtain rfl : i = 0 := by simpa using hi
            exact cell_one_new _ _ _ 0 _ rfl
          have hz := lt_of_block hdy.out.own
          have hcQ := hdy.out.cellQ
          have hcR2 := hdy.out.cellR
          have hfr := hdy.out.free
          have hf0 := hfr 0
          have hf1 := hfr 1
          have HF := Lib.hid hfr
          clear hfr
          go_wp2_with fail
          refine (HC.out _).mono ?_
          rintro e w' ⟨rfl, rfl⟩
          clear hrn
          go_wp2_with fail
          refine (trim_fun Q n _ hQr.1 hQr.2 (by omega) (by omega)).mono ?_
          rintro e w' ⟨rfl, rfl⟩
          have hd2 := Lib.hid (((hdy.out.setQ (numStr (n + 10 * Q))).setR (numStr r)).later ((Below.refl _ _).alloc (Nat.le_refl _) (.cells #[.int .u8 (48 + n)] 5)))
          have hq2 := Lib.hid (show (n + 10 * Q = (d + 10 * P) / B) ∧ r = (d + 10 * P) % B by
            have := hd1.out
            omega)
          clear hrn3
          go_wp2_with fail
          clear hz hcQ hcR2 hf0 hf1 hadd hconv
          go_roundw
          case rel => exact ⟨k + 1, d + 10 * P, by omega, by go_num, hP2, by rw [← hq2.out.1, ← hq2.out.2]; exact hd2⟩
          case measure => simp [intOf]; omega
    · obtain rfl : k = l := by omega
      have hcQ := hdv.out.cellQ
      have hcR := hdv.out.cellR
      have ho0 := hdv.out.cellO0
      have ho1 := hdv.out.cellO1
      have hf0 := hdv.out.freeO 0
      have hf1 := hdv.out.freeO 1
      have hP2 : Hid (P = dv ds) := Lib.hid (by rw [hP.out, Nat.sub_self, List.drop_zero])
      clear hP
      go_wp2_with fail
      refine bodyPost_ret (v := .agg #[.string (numStr (P / B)), .string (numStr (P % B))]) (by simp [results, Tryd.results26, go_sem, ho0, ho1]) rfl ⟨by rw [hP2.out], ?_⟩
      exact ((hdv.out.below.setCell (by simp) _).setCell (by simp) _)

theorem refdiv_fun (A B : Int) (w : World) (hA0 : 0 ≤ A) (hA : A < big) (hB0 : 0 < B) (hB : B < pw 20) :
    Calls Tryd.prog 26 #[.string (numStr A), .string (numStr B)] w fun e w' => e = .returned (.agg #[.string (numStr (A / B)), .string (numStr (A % B))]) ∧ Below w.heap.size w w' := by
  have h1 := digsN_dec A.toNat
  rw [show ((A.toNat : Nat) : Int) = A by omega] at h1
  have h2 := refdiv_dec (digsN A.toNat) B w h1.1 (dec_small h1 hA).2 hB0 hB
  rw [h1.2.1] at h2
  exact h2
end Go.Proofs.YtondjnmpfpfpmaaDoor
