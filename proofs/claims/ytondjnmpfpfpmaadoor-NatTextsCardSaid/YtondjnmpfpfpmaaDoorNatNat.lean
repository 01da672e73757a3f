/- The reference's Nat, of digits below 2^32. -/
import Derived.Test.YtondjnmpfpfpmaaDoorNatRefMore
import Derived.Test.YtondjnmpfpfpmaaDoorNatRefParse
namespace Go.Proofs.YtondjnmpfpfpmaaDoor
open Go.RowKit NM

theorem dv_drop_le : ∀ {ds : List Int}, Digs ds → ∀ m, dv (ds.drop m) ≤ dv ds
  | [], _, m => by simp
  | x :: ds, h, 0 => by simp
  | x :: ds, h, m + 1 => by
    have h2 : Digs ds := fun d hd => h d (List.mem_cons_of_mem _ hd)
    have h3 := dv_drop_le h2 m
    have h4 := h x (List.mem_cons_self ..)
    have h5 := dv_range h2
    rw [List.drop_succ_cons, dv]
    omega
/-- A number's text, digit by digit. -/
theorem text_digits (N : Int) (h0 : 0 ≤ N) : ∃ f : Nat → Int, f 0 = 0 ∧ f (numStr N).size = N ∧ (∀ k, 0 ≤ f k ∧ f k ≤ N) ∧
    ∀ k (hk : k < (numStr N).size), 48 ≤ (((numStr N)[k]'hk).toNat : Int) ∧ (((numStr N)[k]'hk).toNat : Int) ≤ 57 ∧ f (k + 1) = 10 * f k + ((((numStr N)[k]'hk).toNat : Int) - 48) := by
  obtain ⟨hd, hv, _⟩ := digsN_dec N.toNat
  rw [show ((N.toNat : Nat) : Int) = N by omega] at hv
  have hs : (numStr N).size = (digsN N.toNat).length := dstr_size _
  generalize hds : digsN N.toNat = ds at *
  refine ⟨fun k => dv (ds.drop (ds.length - k)), ?_, ?_, ?_, ?_⟩
  · simp [dv]
  · show dv (ds.drop (ds.length - (numStr N).size)) = N
    rw [hs, Nat.sub_self, List.drop_zero, hv]
  · intro k
    have h1 := dv_drop_le hd (ds.length - k)
    have h2 := dv_range (fun x hx => hd x (List.mem_of_mem_drop hx) : Digs (ds.drop (ds.length - k)))
    exact ⟨h2.1, by rw [hv] at h1; exact h1⟩
  · intro k hk
    have hi : ds.length - 1 - k < ds.length := by omega
    have hn : numStr N = dstr ds := by unfold numStr; rw [hds]
    have hb := dstr_byte hd hi (show k + 1 + (ds.length - 1 - k) = (dstr ds).size by rw [dstr_size]; omega)
    have hb2 : (((numStr N)[k]'hk).toNat : Int) = 48 + ds[ds.length - 1 - k] := by
      simp only [hn]
      exact hb
    have hm := hd _ (List.getElem_mem hi)
    refine ⟨by omega, by omega, ?_⟩
    show dv (ds.drop (ds.length - (k + 1))) = 10 * dv (ds.drop (ds.length - k)) + _
    rw [hb2, show ds.length - (k + 1) = ds.length - 1 - k by omega, List.drop_eq_getElem_cons hi, dv, show ds.length - 1 - k + 1 = ds.length - k by omega]
    omega
theorem lit32 : numStr 4294967296 = ⟨#[52, 50, 57, 52, 57, 54, 55, 50, 57, 54]⟩ :=
  (DecStr.eq (s := ⟨#[52, 50, 57, 52, 57, 54, 55, 50, 57, 54]⟩) ⟨[6, 9, 2, 7, 6, 9, 4, 9, 2, 4], ⟨by unfold Digs; decide, by decide, .inr ⟨by decide, by decide⟩⟩, by decide +kernel⟩).symm
/-- A row of the call's own that holds one limb is a number. -/
theorem own_limb {w : World} {base : Nat} {v : Value} {N : Int} (h : w.ownsRow base 59 1 v 1 [.int .u32 N]) (h0 : 0 < N) (h1 : N < 4294967296) : Num w v N := by
  obtain ⟨_, h2⟩ := h
  rcases h2 with ⟨_, h3⟩ | ⟨g, cap, cur, rfl, hg, hcur, hcap1, hcap2, hcs, htk⟩
  · omega
  · have hlt := lt_of_block hcur
    have hc : w.cell? ⟨g, 0, none⟩ = some (.int .u32 N) := by
      simp only [World.cell?, hcur, Option.isSome_none, Bool.false_eq_true, if_false]
      have e : cur[0]? = (cur.toList.take (1 * 1))[0]? := by
        rw [List.getElem?_take_of_lt (by omega)]
        simp
      rw [e, htk]
      rfl
    refine ⟨[N], ⟨some ⟨g, 0, none⟩, cap, rfl, hcap1, .inr ⟨g, 0, rfl, hlt, fun i hi => ?_⟩, ?_, by simp, fun h => by cases h⟩, ?_, ?_⟩
    · obtain rfl : i = 0 := by simpa using hi
      simpa [lb] using hc
    · intro x hx
      simp at hx
      omega
    · simp [rightB, lb]; omega
    · simp [val]
theorem num_none {w : World} {b cap : Nat} : Num w (.slice (some ⟨b, 0, none⟩) 0 cap) 0 :=
  ⟨[], ⟨some ⟨b, 0, none⟩, cap, rfl, Nat.zero_le _, .inl rfl, U32s_nil, by simp, fun h => by cases h⟩, rfl, rfl⟩
/-- At the head of the outer loop. -/
def NatSt (w : World) (N : Int) (t : ByteArray) (k : Nat) (s vo : Value) (wr : World) : Prop :=
  (k = 0 ∧ s = .string ⟨#[48]⟩ ∧ Num wr vo N) ∨ (k = 1 ∧ 0 < N ∧ s = .string t ∧ vo = .slice (some ⟨w.heap.size, 0, none⟩) 0 0 ∧ wr.ownsRow w.heap.size 59 1 (.slice (some ⟨w.heap.size, 0, none⟩) 0 0) 0 [])
theorem two_new_cell (w : World) (x y : Value) (t : TypeId) : (w.alloc (.cells #[x, y] t)).cell? ⟨w.heap.size, 0, none⟩ = some x ∧ (w.alloc (.cells #[x, y] t)).cell? ⟨w.heap.size, 1, none⟩ = some y := by
  have h : (w.alloc (.cells #[x, y] t)).heap[w.heap.size]? = some (.cells #[x, y] t (0, 0)) := by
    simp only [World.alloc]
    exact Array.getElem?_push_size
  exact ⟨by simp only [World.cell?, h]; rfl, by simp only [World.cell?, h]; rfl⟩
theorem list_n48 {q : ByteArray} (h : q ≠ ⟨#[48]⟩) : (q.toList == [48]) = false := by
  rw [beq_eq_false_iff_ne]
  intro h2
  apply h
  rw [ByteArray.toList_eq] at h2
  apply ByteArray.ext
  apply Array.toList_inj.1
  rw [h2]

set_option maxHeartbeats 3200000 in
set_option maxRecDepth 100000 in
theorem refnat_small (N : Int) (w : World) (h0 : 0 ≤ N) (h1 : N < 4294967296) :
    Calls Tryd.prog 31 #[.string (numStr N)] w fun e w' => (∃ v, e = .returned v ∧ Num w' v N) ∧ Below w.heap.size w w' := by
  obtain ⟨i0, hi, hz0, hz1, hz2⟩ := info_parts info_u32
  have hbig : (4294967296 : Int) < big := by unfold big; decide +kernel
  have hd := fun w => refdiv_fun N 4294967296 w h0 (show N < big by omega) (by omega) (by decide +kernel)
  rw [Int.ediv_eq_zero_of_lt h0 h1, Int.emod_eq_of_lt h0 h1, lit32, numStr_zero] at hd
  obtain ⟨f, f0, f1, f2, f3⟩ := text_digits N h0
  have hne : N ≠ 0 → numStr N ≠ ⟨#[48]⟩ := fun h h2 => by
    have := numStr_inj (A := N) (B := 0) h0 (by omega) (by rw [h2, numStr_zero])
    omega
  have hze : N = 0 → numStr N = ⟨#[48]⟩ := fun h => by rw [h, numStr_zero]
  have hsz := numStr_size (N := N) (by omega)
  generalize numStr N = t at *
  have hD := Lib.hid hd
  clear hd hbig
  have F0 := Lib.hid f0
  have F1 := Lib.hid f1
  have F2 := Lib.hid f2
  have F3 := Lib.hid f3
  clear f0 f1 f2 f3
  obtain ⟨m, hm⟩ : ∃ m, NatSt w N t m (.string t) (.slice (some ⟨w.heap.size, 0, none⟩) 0 0) (w.alloc (.cells #[] 59)) := by
    by_cases hN : N = 0
    · refine ⟨0, .inl ⟨rfl, by rw [hze hN], ?_⟩⟩
      rw [hN]
      exact num_none
    · exact ⟨1, .inr ⟨rfl, by omega, rfl, rfl, World.ownsRow_made w #[] 0 (Nat.le_refl _) (by unfold maxLen; omega) rfl⟩⟩
  have Hm := Lib.hid hm
  have Hn := Lib.hid hne
  clear hm hne hze
  go_enter Tryd.func31, Tryd.ntmps31
  go_wp2_with fail
  go_loopg [0, 3] m (fun k s vo wr => Hid (NatSt w N t k s vo wr) ∧ Hid (Below w.heap.size w wr))
  case atStart => exact ⟨Hm, Lib.hid ((Below.refl _ _).alloc (Nat.le_refl _) _)⟩
  case round =>
    obtain ⟨hst, hbl⟩ := hrel
    rename_i wr
    rcases hst.out with ⟨rfl, rfl, hnum⟩ | ⟨rfl, hN, rfl, rfl, hown⟩
    · have HN := Lib.hid hnum
      clear hnum hst
      go_wp2_with fail
      go_ret
      exact ⟨⟨_, rfl, HN.out⟩, hbl.out⟩
    · have HO := Lib.hid hown
      have hq := list_n48 (Hn.out (by omega))
      have hq2 : (t.toList != [48]) = true := by rw [bne, hq]; rfl
      clear hown hst
      go_wp2_with fail
      refine (hD.out _).mono ?_
      rintro e w2 ⟨rfl, bq⟩
      have HO := Lib.hid (own_below HO.out bq)
      have hbl := Lib.hid (hbl.out.trans (bq.mono hbl.out.size))
      clear bq hq hq2 hD Hn Hm
      go_wp2_with fail
      have hwp : w.heap.size < w2.heap.size := (HO.out.lt _ rfl).2
      obtain ⟨c0, c1⟩ := two_new_cell w2 (.string ⟨#[48]⟩) (.string t) 43
      have b4 : Below w2.heap.size w2 (w2.alloc (.cells #[.string ⟨#[48]⟩, .string t] 43)) := (Below.refl _ _).alloc (Nat.le_refl _) _
      have HO := Lib.hid (own_below HO.out b4)
      have hbl := Lib.hid (hbl.out.trans (b4.mono hbl.out.size))
      have hlt2 : w2.heap.size < (w2.alloc (.cells #[.string ⟨#[48]⟩, .string t] 43)).heap.size := by simp
      obtain ⟨p, hp⟩ : ∃ p, w2.heap.size = p := ⟨_, rfl⟩
      rw [hp] at c0 c1 hlt2 hwp ⊢
      clear b4 hp
      generalize w2.alloc (.cells #[.string ⟨#[48]⟩, .string t] 43) = w3 at *
      go_loop [5, 6] (fun n i => ∃ k : Nat, k ≤ t.size ∧ i = .int .i64 k ∧ n = .int .i64 (f k)) (fun _ i => t.size - (intOf i).toNat)
      case atStart => exact ⟨0, Nat.zero_le _, rfl, by rw [F0.out]⟩
      case round =>
        obtain ⟨k, hk, rfl, rfl⟩ := hrel
        by_cases hlt : k < t.size
        · obtain ⟨e1, e2, e3⟩ := F3.out k hlt
          obtain ⟨g1, g2⟩ := F2.out k
          have E3 := Lib.hid e3
          clear e3
          go_wp2_with fail
          go_round
          case rel => exact ⟨k + 1, by omega, by go_num, by rw [E3.out]⟩
          case measure => simp [intOf]; omega
        · obtain rfl : k = t.size := by omega
          rw [F1.out]
          have HO2 := Lib.hid (HO.out.alloc (.cells #[.int .u32 N] 59))
          go_wp2_with (at_builtin; refine wpList_append_own_at _ rfl _ _ 23 rfl w.heap.size 59 i0 (.int .u32 0) 1 4 Tryd.underlying23 hi hz0 hz1 hz2 rfl (by decide) _ 0 [] rfl HO2.out ⟨w3.heap.size, 0, none⟩ 1 1 [.int .u32 N] rfl ?c1 ?c2 ?c3 ?c4 ?c5 ?c6 ?_)
          case c3 => rfl
          case c4 => unfold maxLen; omega
          case c6 => have := hbl.out.size; simp; omega
          intro v' w4 hown3 hgrow _ hblk
          have hn3 := Lib.hid (own_limb hown3 hN h1)
          have hne3 : some p ≠ (Value.slice (some ⟨w.heap.size, 0, none⟩) 0 0).ownBlock := by
            intro h
            simp [Value.ownBlock] at h
            omega
          have b5 : Below w3.heap.size w3 (w3.alloc (.cells #[.int .u32 N] 59)) := (Below.refl _ _).alloc (Nat.le_refl _) _
          have hc4 : w4.cell? ⟨p, 0, none⟩ = some (.string ⟨#[48]⟩) := by
            refine hgrow.cell ?_ hne3
            rw [b5.cell (p := ⟨p, 0, none⟩) hlt2]
            exact c0
          have hb4 := Lib.hid ((hbl.out.alloc hbl.out.size _).grown hgrow (by have := hbl.out.size; simp; omega) (fun k hk => (HO.out.lt k hk).1))
          clear hown3 hgrow hblk b5
          go_wp2_with fail
          go_roundg 0
          case measure => omega
          case rel => exact ⟨Lib.hid (.inl ⟨rfl, rfl, hn3.out⟩), hb4⟩
end Go.Proofs.YtondjnmpfpfpmaaDoor
