/- Text. -/
import Derived.Test.YtondjnmpfpfpmaaDoorNatParse
import Derived.Test.YtondjnmpfpfpmaaDoorNatDec
import Derived.Test.YtondjnmpfpfpmaaDoorNatRev
import Derived.Maps.AppendAt
import Derived.Deep.LoopGhost
import Derived.Laws.BytesArg
namespace Go.Proofs.YtondjnmpfpfpmaaDoor
open Go.RowKit NM

/-- A text that tells a number, with no zero ahead. -/
def DecStr (s : ByteArray) (N : Int) : Prop := ∃ ds, Dec ds N ∧ s = strOfNums (ds.map fun d => 48 + d).reverse

theorem Num.grown {w w' : World} {v : Value} {N : Int} {row : Option Nat} (h : Num w v N) (hg : w.grownBy w' row) (hne : ∀ b, v.ownBlock = some b → row ≠ some b) : Num w' v N := by
  obtain ⟨xs, ⟨ao, cap, rfl, h2, h3, h4, h5⟩, hr, hv⟩ := h
  refine ⟨xs, ⟨ao, cap, rfl, h2, ?_, h4, h5⟩, hr, hv⟩
  rcases h3 with h | ⟨b, off, rfl, hb, hc⟩
  · exact .inl h
  · refine .inr ⟨b, off, rfl, Nat.lt_of_lt_of_le hb hg.size, fun i hi => ?_⟩
    exact hg.cell (a := ⟨b, off + i, none⟩) (hc i hi) (fun e => hne b rfl e.symm)

/-- The slice v is not where the row vd lies. -/
def Apart (w : World) (v vd : Value) : Prop := ∀ b, v.ownBlock = some b → b < w.heap.size ∧ vd.ownBlock ≠ some b

set_option maxHeartbeats 400000 in
theorem text_bad (v : Value) (w : World) (h : Bad1 w v) :
    Calls Tryd.prog 27 #[v] w fun e w' => e = .returned (.tuple #[.string ⟨#[]⟩, .int .i64 1]) ∧ w = w' := by
  have R1 := Lib.hid (right_bad h)
  clear h
  go_enter Tryd.func27, Tryd.ntmps27
  go_wp2_with fail
  refine R1.out.mono ?_
  rintro e w' ⟨rfl, rfl⟩
  go_wp2_with fail
  go_ret2
  exact ⟨rfl, rfl⟩

set_option maxHeartbeats 400000 in
theorem text_zero (v : Value) (w : World) (h : Num w v 0) :
    Calls Tryd.prog 27 #[v] w fun e w' => e = .returned (.tuple #[.string ⟨#[48]⟩, .int .i64 0]) ∧ w = w' := by
  have R1 := Lib.hid (right_num h)
  obtain ⟨ao, cap, rfl⟩ := h.of_zero
  clear h
  go_enter Tryd.func27, Tryd.ntmps27
  go_wp2_with fail
  refine R1.out.mono ?_
  rintro e w' ⟨rfl, rfl⟩
  go_wp2_with fail
  go_ret2
  exact ⟨rfl, rfl⟩

theorem info_u8 : (Tryd.prog.info? 5).map (fun i => (i.zero, i.size, i.bytes)) = some (some (.int .u8 0), 1, 1) := by kernel_rfl
def D8 (ds : List Int) : List Value := ds.map fun d => .int .u8 (48 + d)
theorem D8_snoc (ds : List Int) (x : Int) : D8 (ds ++ [x]) = D8 ds ++ [.int .u8 (48 + x)] := by simp [D8]

theorem own_below {w w' : World} {base : Nat} {e : TypeId} {size : Nat} {v : Value} {n : Nat} {xs : List Value} (h : w.ownsRow base e size v n xs) (hb : Below w.heap.size w w') : w'.ownsRow base e size v n xs :=
  h.kept (row := none) ⟨hb.os, hb.tape, hb.output, hb.size, fun k hk _ => hb.block k hk⟩ (by cases hv : v.ownBlock <;> simp)

/-- One byte more behind the row: what is kept. -/
theorem text_kept {w0 wr w2 : World} {v' u4 va : Value} {es : List Int} {t M1 : Int} (hown : wr.ownsRow w0.heap.size 5 1 u4 es.length (D8 es)) (hnum : Num wr va M1) (hap : Apart wr va u4) (hbl : Below w0.heap.size w0 wr)
    (h3 : w2.ownsRow w0.heap.size 5 1 v' (es.length + 1) (D8 es ++ [.int .u8 (48 + t)])) (hg : (wr.alloc (.cells #[.int .u8 (48 + t)] 5)).grownBy w2 u4.ownBlock)
    (hb : v'.ownBlock = u4.ownBlock ∨ v'.ownBlock = some (wr.heap.size + 1)) :
    w2.ownsRow w0.heap.size 5 1 v' (es ++ [t]).length (D8 (es ++ [t])) ∧ Num w2 va M1 ∧ Apart w2 va v' ∧ Below w0.heap.size w0 w2 := by
  have hs : (wr.alloc (.cells #[.int .u8 (48 + t)] 5)).heap.size = wr.heap.size + 1 := by simp
  have hba := (Below.refl wr.heap.size wr).alloc (Nat.le_refl _) (.cells #[.int .u8 (48 + t)] 5)
  refine ⟨by rw [D8_snoc]; simpa using h3, (hnum.below hba).grown hg (fun b h => (hap b h).2), fun b h => ?_, ?_⟩
  · have h1 := hap b h
    have h2 := hg.size
    refine ⟨by omega, ?_⟩
    rcases hb with hb | hb
    · rw [hb]; exact h1.2
    · rw [hb]; intro e; simp at e; omega
  · exact (hbl.alloc hbl.size _).grown hg (by have := hbl.size; omega) (fun k hk => (hown.lt k hk).1)

/-- What nine digits leave room for, behind k of them. -/
def tn (k : Nat) : Int := 10 ^ (9 - k)
theorem tn_pos (k : Nat) : 0 < tn k := ten_pos _
theorem tn_zero : tn 0 = 1000000000 := by decide +kernel
theorem tn_nine : tn 9 = 1 := by decide +kernel
theorem tn_succ {k : Nat} (h : k < 9) : tn k = 10 * tn (k + 1) := by
  unfold tn
  rw [show 9 - k = (9 - (k + 1)) + 1 by omega, ten_succ, Int.mul_comm]
theorem tn_le (k : Nat) : tn k ≤ 1000000000 := by
  rw [← tn_zero]
  exact ten_le (by omega)
/-- The state of the inner loop: k of nine digits are written; low and M1 are left. -/
structure InText (N M1 : Int) (k : Nat) (low : Int) (ds : List Int) : Prop where
  digs : Digs ds
  low0 : 0 ≤ low
  low1 : low < tn k
  all : dv ds + 10 ^ ds.length * (low + tn k * M1) = N
  lead : 0 < low + tn k * M1 ∨ (0 < ds.length ∧ 10 ^ (ds.length - 1) ≤ N)
theorem InText.rest {N M1 : Int} {k : Nat} {low : Int} {ds : List Int} (h : InText N M1 k low ds) (hM : 0 ≤ M1) (hr : 0 < low ∨ 0 < M1) : 0 < low + tn k * M1 := by
  have h1 := tn_pos k
  have h2 : 0 ≤ tn k * M1 := Int.mul_nonneg (by omega) hM
  have h3 := h.low0
  rcases hr with hr | hr
  · omega
  · have := Int.mul_pos h1 hr
    omega
theorem InText.step {N M1 : Int} {k : Nat} {low : Int} {ds : List Int} (h : InText N M1 k low ds) (hk : k < 9) (hM : 0 ≤ M1) (hr : 0 < low ∨ 0 < M1) : InText N M1 (k + 1) (low / 10) (ds ++ [low % 10]) := by
  have h0 := h.rest hM hr
  have h1 := tn_succ hk
  have h2 := h.low0
  have h3 := h.low1
  have e : low + tn k * M1 = low % 10 + 10 * (low / 10 + tn (k + 1) * M1) := by
    rw [h1, Int.mul_assoc]
    omega
  refine ⟨Digs_snoc h.digs (by omega) (by omega), by omega, by omega, dec_step h.all e, .inr ⟨by simp, ?_⟩⟩
  rw [List.length_append, List.length_singleton, Nat.add_sub_cancel]
  exact rest_le h.digs h.all h0
theorem InText.start {N M : Int} {ds : List Int} (hd : Digs ds) (h : dv ds + 10 ^ ds.length * M = N) (hM : 0 < M) : InText N (M / 1000000000) 0 (M % 1000000000) ds := by
  have e : M % 1000000000 + tn 0 * (M / 1000000000) = M := by rw [tn_zero]; omega
  exact ⟨hd, by omega, by rw [tn_zero]; omega, by rw [e]; exact h, .inl (by rw [e]; exact hM)⟩
theorem InText.small {N M1 : Int} {k : Nat} {low : Int} {ds : List Int} (h : InText N M1 k low ds) (hM : 0 ≤ M1) (hr : 0 < low ∨ 0 < M1) (hN : N < pw 16) : ds.length ≤ 154 :=
  ten_small (rest_le h.digs h.all (h.rest hM hr)) hN
/-- At the inner loop's end: nine digits, or nothing left. -/
theorem InText.done {N M1 : Int} {k : Nat} {low : Int} {ds : List Int} (h : InText N M1 k low ds) (hk : k ≤ 9) (hM : 0 ≤ M1) (he : k = 9 ∨ (low = 0 ∧ M1 = 0)) :
    dv ds + 10 ^ ds.length * M1 = N ∧ (0 < M1 ∨ (0 < ds.length ∧ 10 ^ (ds.length - 1) ≤ N)) := by
  have h1 := h.all
  have h2 := h.low0
  have h3 := h.low1
  have h4 := h.lead
  rcases he with rfl | ⟨rfl, rfl⟩
  · rw [tn_nine] at h1 h3 h4
    have hl : low = 0 := by omega
    subst hl
    simp only [Int.zero_add, Int.one_mul] at h1 h4
    exact ⟨h1, h4⟩
  · simp at h1 h4
    exact ⟨by simpa using h1, .inr h4⟩

set_option maxHeartbeats 4000000 in
set_option maxRecDepth 100000 in
theorem text_pos (v : Value) (N : Int) (w : World) (h1 : Num w v N) (hN : 0 < N) :
    Calls Tryd.prog 27 #[v] w fun e w' => (∃ s, e = .returned (.tuple #[.string s, .int .i64 0]) ∧ DecStr s N) ∧ Below w.heap.size w w' := by
  have R1 := Lib.hid (right_num h1)
  have hN16 := Lib.hid h1.range.2
  obtain ⟨i0, hi, hz0, hz1, hz2⟩ := info_parts info_u8
  have hmk0 : ∀ wx : World, (Instr.makeSlice 62 (.int .i64 0) (.int .i64 160)).run Tryd.prog wx = .ok (.slice (some ⟨wx.heap.size, 0, none⟩) 0 160) (wx.alloc (.cells (madeCells #[.int .u8 0] 160) 5)) := by
    intro wx
    have h := run_make (P := Tryd.prog) wx 62 5 i0 (.int .u8 0) Tryd.underlying62 hi hz0 .i64 .i64 0 160 (by omega) (by omega) (by rw [hz2]; omega) (by omega)
    rw [hz1] at h
    exact h
  obtain ⟨C, hC⟩ : ∃ C, madeCells #[.int .u8 0] 160 = C := ⟨_, rfl⟩
  have hCs : C.size = 160 * 1 := by rw [← hC]; kernel_rfl
  rw [hC] at hmk0
  clear hC
  have H1 := Lib.hid h1
  obtain ⟨ao, n, ca, rfl, hn16, hn0, -, -⟩ := h1.len
  have hnn : ((n : Int) == 0) = false := by
    rw [beq_eq_false_iff_ne]; intro h; have := hn0.1 (by omega); omega
  have hown0 : (w.alloc (.cells C 5)).ownsRow w.heap.size 5 1 (.slice (some ⟨w.heap.size, 0, none⟩) 0 160) 0 [] := World.ownsRow_made w C 160 (Nat.le_refl _) (by unfold maxLen; omega) hCs
  have hap0 : Apart (w.alloc (.cells C 5)) (.slice ao n ca) (.slice (some ⟨w.heap.size, 0, none⟩) 0 160) := by
    obtain ⟨xs, ⟨ao', ca', e, _, ra, _⟩, _, _⟩ := h1
    obtain ⟨rfl, rfl, rfl⟩ : ao = ao' ∧ n = xs.length ∧ ca = ca' := by simpa using e
    obtain ⟨b, off, rfl, hb, _⟩ := ra.cells (by simp at hnn; omega)
    intro b' hb'
    obtain rfl : b = b' := by simpa [Value.ownBlock] using hb'
    exact ⟨by simp; omega, by simp [Value.ownBlock]; omega⟩
  have hbl0 : Below w.heap.size w (w.alloc (.cells C 5)) := (Below.refl _ _).alloc (Nat.le_refl _) _
  have Hown0 := Lib.hid hown0
  have Hap0 := Lib.hid hap0
  have Hbl0 := Lib.hid hbl0
  clear hown0 hap0 hbl0 h1 hn0 hCs
  go_enter Tryd.func27, Tryd.ntmps27
  go_wp2_with fail
  refine R1.out.mono ?_
  rintro e w' ⟨rfl, rfl⟩
  go_wp2_with fail
  clear R1 hmk0 hnn
  go_loopg [0, 4, 5, 6] N.toNat (fun k va vd _ _ wr => ∃ (M : Int) (ds : List Int), Num wr va M ∧ M.toNat = k ∧ Digs ds ∧ Hid (dv ds + 10 ^ ds.length * M = N) ∧ Hid (0 < M ∨ (0 < ds.length ∧ 10 ^ (ds.length - 1) ≤ N)) ∧ Hid (wr.ownsRow w.heap.size 5 1 vd ds.length (D8 ds)) ∧ Hid (Apart wr va vd) ∧ Hid (Below w.heap.size w wr))
  case atStart => exact ⟨N, [], H1.out.below Hbl0.out, rfl, (fun _ h => by cases h), Lib.hid (by simp [dv]), Lib.hid (.inl hN), Hown0, Hap0, Hbl0⟩
  case round =>
    obtain ⟨M, ds, hnum, hM, hds, hval, hlead, hown, hap, hbl⟩ := hrel
    obtain ⟨ao, n, ca, rfl, hn16, hn0, -, -⟩ := hnum.len
    have hM0 := hnum.range.1
    by_cases hMz : 0 < M
    · have hnn : 0 < n := by
        rcases Nat.eq_zero_or_pos n with h | h
        · have := hn0.1 h; omega
        · exact h
      clear hn0
      go_wp2_with (go_at_call 42; refine (short_new _ M 1000000000 wr hnum (by omega) (by omega)).mono ?_; rintro e w1 ⟨⟨r, rfl, hn1, hob, hsz⟩, hb1⟩)
      obtain ⟨ao1, n1, ca1, rfl, hn161, hn01, -, -⟩ := hn1.len
      have hM1 := hn1.range.1
      have hap1 : Apart w1 (.slice ao1 n1 ca1) u4 := by
        intro b hb
        obtain rfl : wr.heap.size = b := by rw [hob] at hb; simpa using hb
        exact ⟨hsz, fun e => by have := (hown.out.lt _ e).2; omega⟩
      have Hown1 := Lib.hid (own_below hown.out hb1)
      have Hap1 := Lib.hid hap1
      have Hbl1 := Lib.hid (hbl.out.trans (hb1.mono hbl.out.size))
      have HinS := Lib.hid (InText.start hds hval.out hMz)
      have Hlt : (M / 1000000000).toNat < gk := by omega
      clear hap1 hob hsz hb1 hown hap hbl hnum hval hlead
      obtain ⟨M1, hM1e⟩ : ∃ M1, M / 1000000000 = M1 := ⟨_, rfl⟩
      obtain ⟨l0, hl0⟩ : ∃ l0, M % 1000000000 = l0 := ⟨_, rfl⟩
      rw [hM1e] at HinS hn1 Hlt hM1 hn01
      rw [hl0] at HinS ⊢
      clear hM1e hl0
      go_loopw [4, 5, 6] (fun vd vl vk wr => ∃ (k : Nat) (low : Int) (ds : List Int), k ≤ 9 ∧ vk = .int .i64 k ∧ vl = .int .u32 low ∧ 0 ≤ low ∧ low < 1000000000 ∧ Hid (InText N M1 k low ds) ∧ Hid (wr.ownsRow w.heap.size 5 1 vd ds.length (D8 ds)) ∧ Hid (Num wr (.slice ao1 n1 ca1) M1) ∧ Hid (Apart wr (.slice ao1 n1 ca1) vd) ∧ Hid (Below w.heap.size w wr)) (fun _ _ vk _ => 9 - (intOf vk).toNat)
      case atStart => exact ⟨0, l0, ds, by omega, rfl, rfl, HinS.out.low0, by have := HinS.out.low1; rw [tn_zero] at this; exact this, HinS, Hown1, Lib.hid hn1, Hap1, Hbl1⟩
      case round =>
        obtain ⟨k, low, es, hk, rfl, rfl, hl0, hl1, Hin, Hown, Hnum, Hap, Hbl⟩ := hrel
        clear HinS Hown1 Hap1 Hbl1 hn1
        by_cases hk9 : k < 9
        · by_cases hr : 0 < low ∨ 0 < M1
          · have hin2 := Lib.hid (Hin.out.step hk9 hM1 hr)
            have hlen := Hin.out.small hM1 hr hN16.out
            obtain ⟨t, ht⟩ : ∃ t, low % 10 = t := ⟨_, rfl⟩
            have ht0 : 0 ≤ t := by omega
            have ht1 : t < 10 := by omega
            have hw1 : IntKind.u8.wrap t = t := by simp only [IntKind.wrap, IntKind.signed, IntKind.bits]; simp; omega
            have hw2 : IntKind.u8.wrap (48 + t) = 48 + t := by simp only [IntKind.wrap, IntKind.signed, IntKind.bits]; simp; omega
            have hrm : low.tmod 10 = t := by rw [Int.tmod_eq_emod_of_nonneg hl0]; exact ht
            have hqu : low.tdiv 10 = low / 10 := Int.tdiv_eq_ediv_of_nonneg hl0
            have hown2 := Lib.hid (Hown.out.alloc (.cells #[.int .u8 (48 + t)] 5))
            rw [ht] at hin2
            have Ht := Lib.hid ht
            clear ht
            by_cases hlow : 0 < low
            · go_wp2_with (at_builtin; refine wpList_append_own_at _ rfl _ _ 62 rfl w.heap.size 5 i0 (.int .u8 0) 1 1 Tryd.underlying62 hi hz0 hz1 hz2 rfl (by decide) u4 es.length (D8 es) rfl hown2.out ⟨wr.heap.size, 0, none⟩ 1 1 [.int .u8 (48 + t)] rfl ?c1 ?c2 ?c3 ?c4 ?c5 ?c6 ?_)
              case c1 => rfl
              case c2 => exact cell_one_new _ _ _
              case c3 =>
                intro u hu
                simp at hu
                subst hu
                rfl
              case c4 => unfold maxLen; omega
              case c5 => omega
              case c6 => have := Hbl.out.size; simp; omega
              intro v' w2 hown3 hgrow _ hblk
              have HN := Lib.hid (text_kept Hown.out Hnum.out Hap.out Hbl.out hown3 hgrow hblk)
              clear hown3 hgrow hblk
              go_wp2_with fail
              go_roundw
              case rel => exact ⟨k + 1, low / 10, es ++ [t], by omega, by go_num, rfl, by omega, by omega, hin2, Lib.hid HN.out.1, Lib.hid HN.out.2.1, Lib.hid HN.out.2.2.1, Lib.hid HN.out.2.2.2⟩
              case measure => simp [intOf]; omega
            · have hn1p : 0 < n1 := by
                rcases Nat.eq_zero_or_pos n1 with h | h
                · have := hn01.1 h; omega
                · exact h
              clear hn01
              go_wp2_with (at_builtin; refine wpList_append_own_at _ rfl _ _ 62 rfl w.heap.size 5 i0 (.int .u8 0) 1 1 Tryd.underlying62 hi hz0 hz1 hz2 rfl (by decide) u4 es.length (D8 es) rfl hown2.out ⟨wr.heap.size, 0, none⟩ 1 1 [.int .u8 (48 + t)] rfl ?c1 ?c2 ?c3 ?c4 ?c5 ?c6 ?_)
              case c3 => rfl
              case c4 => unfold maxLen; omega
              case c5 => omega
              case c6 => have := Hbl.out.size; simp; omega
              intro v' w2 hown3 hgrow _ hblk
              have HN := Lib.hid (text_kept Hown.out Hnum.out Hap.out Hbl.out hown3 hgrow hblk)
              clear hown3 hgrow hblk
              go_wp2_with fail
              go_roundw
              case rel => exact ⟨k + 1, low / 10, es ++ [t], by omega, by go_num, rfl, by omega, by omega, hin2, Lib.hid HN.out.1, Lib.hid HN.out.2.1, Lib.hid HN.out.2.2.1, Lib.hid HN.out.2.2.2⟩
              case measure => simp [intOf]; omega
          · have hl00 : ¬ 0 < low := by omega
            have hn1z : n1 = 0 := hn01.2 (by omega)
            have hd := Hin.out.done hk hM1 (by omega)
            have Hd1 := Lib.hid hd.1
            have Hd2 := Lib.hid hd.2
            have hes := Hin.out.digs
            clear hd Hin hn01
            subst hn1z
            go_wp2_with fail
            go_roundg M1.toNat
            case measure => exact Hlt
            case rel => exact ⟨M1, es, Hnum.out, rfl, hes, Hd1, Hd2, Hown, Hap, Hbl⟩
        · have hk9' : k = 9 := by omega
          have hd := Hin.out.done hk hM1 (by omega)
          have Hd1 := Lib.hid hd.1
          have Hd2 := Lib.hid hd.2
          have hes := Hin.out.digs
          clear hd Hin hn01
          subst hk9'
          go_wp2_with fail
          go_roundg M1.toNat
          case measure => exact Hlt
          case rel => exact ⟨M1, es, Hnum.out, rfl, hes, Hd1, Hd2, Hown, Hap, Hbl⟩
    · have hMz0 : M = 0 := by omega
      have hn : n = 0 := hn0.2 hMz0
      subst hn
      obtain ⟨ho1, ho2⟩ := hown.out
      have hl := hlead.out
      rcases ho2 with ⟨rfl, h0⟩ | ⟨g, cap, cur, rfl, hg, hcur, hcap1, hcap2, hcs, htk⟩
      · exfalso; omega
      · have hcell : ∀ j, j < (ds.map fun d => 48 + d).length → wr.cell? ⟨g, j, none⟩ = some (.int .u8 ((ds.map fun d => 48 + d).getD j 0)) ∧ wr.frozen? ⟨g, j, none⟩ = false := by
          intro j hj
          have hj' : j < ds.length := by simpa using hj
          constructor
          · simp only [World.cell?, hcur, Option.isSome_none, Bool.false_eq_true, if_false]
            have e : cur[j]? = (cur.toList.take (ds.length * 1))[j]? := by
              rw [List.getElem?_take_of_lt (by omega)]
              simp
            rw [e, htk]
            simp [D8, hj']
          · simp [World.frozen?, hcur]
        have hlen : ds.length ≤ 155 := by
          rcases hl with hl | ⟨h1, h2⟩
          · omega
          · have := ten_small h2 hN16.out; omega
        have hR := rev_any (ds.map fun d => 48 + d) g cap wr (by simp; omega) hcell
        rw [List.length_map] at hR
        have HR := Lib.hid hR
        have hdec : Dec ds N := by
          refine ⟨hds, ?_, .inr ?_⟩
          · have := hval.out; rw [hMz0] at this; simpa using this
          · rcases hl with hl | hl
            · omega
            · exact hl
        have Hdec := Lib.hid hdec
        have Hbl := hbl
        clear hR hcell hdec hl hcur hcs htk ho1 hown hap hlead hval hbl hnum hn0 H1 Hown0 Hap0 Hbl0
        go_wp2_with fail
        refine HR.out.mono ?_
        rintro e w2 ⟨rfl, hc2, hob⟩
        have hconv : (convert 62 9 (.slice (some ⟨g, 0, none⟩) ds.length cap)).run Tryd.prog w2 = .ok (.string (strOfNums (ds.map fun d => 48 + d).reverse)) w2 :=
          run_convert_bytes_arg w2 62 5 Tryd.underlying62 Tryd.underlying5 g 0 ds.length cap (ds.map fun d => 48 + d).reverse (by simp) (fun i hi => by rw [Nat.zero_add]; exact hc2 i (by simpa using hi)) 9 Tryd.underlying9
        have Hob := Lib.hid hob
        clear hc2 hob
        go_wp2_with fail
        go_ret2
        exact ⟨⟨_, rfl, ds, Hdec.out, rfl⟩, Hbl.out.trans (Hob.out.below hg Hbl.out.size)⟩

theorem decStr_zero : DecStr ⟨#[48]⟩ 0 := ⟨[0], ⟨by intro d hd; simp at hd; omega, rfl, .inl ⟨rfl, rfl⟩⟩, rfl⟩

theorem text_num (v : Value) (N : Int) (w : World) (h1 : Num w v N) :
    Calls Tryd.prog 27 #[v] w fun e w' => (∃ s, e = .returned (.tuple #[.string s, .int .i64 0]) ∧ DecStr s N) ∧ Below w.heap.size w w' := by
  have h0 := h1.range.1
  by_cases h : 0 < N
  · exact text_pos v N w h1 h
  · have : N = 0 := by omega
    subst this
    refine (text_zero v w h1).mono ?_
    rintro e w' ⟨rfl, rfl⟩
    exact ⟨⟨_, rfl, decStr_zero⟩, Below.refl _ _⟩
end Go.Proofs.YtondjnmpfpfpmaaDoor
