/- The law's own few, its rows told apart from a block. -/
import Derived.Test.YthgdceikmipppaaDoorTypFew
namespace Go.Proofs.YthgdceikmipppaaDoor
open Go.RowKit
set_option linter.unusedSimpArgs false
set_option linter.unusedVariables false

/-- Rows that lie in no cell of block c. -/
def SRowA (c : Nat) (w : World) (ao : Option Addr) (ss : List ByteArray) : Prop :=
  ss = [] ∨ ∃ b off, ao = some ⟨b, off, none⟩ ∧ b < w.heap.size ∧ b ≠ c ∧ ∀ i, i < ss.length → w.cell? ⟨b, off + i, none⟩ = some (.string (ss.getD i ⟨#[]⟩))
def IRowA (c : Nat) (w : World) (ao : Option Addr) (zs : List Int) : Prop :=
  zs = [] ∨ ∃ b off, ao = some ⟨b, off, none⟩ ∧ b < w.heap.size ∧ b ≠ c ∧ ∀ i, i < zs.length → w.cell? ⟨b, off + i, none⟩ = some (.int .i64 (zs.getD i 0))
structure TyCA (c : Nat) (w : World) (wo ko : Option Addr) (t : Ty) : Prop where
  words : SRowA c w wo t.words
  kids : IRowA c w ko t.kids
  ok : TyOk t
def ARowA (c : Nat) (w : World) (ao : Option Addr) (l : List Ty) : Prop :=
  l = [] ∨ ∃ b off, ao = some ⟨b, off, none⟩ ∧ b < w.heap.size ∧ b ≠ c ∧ ∀ i (h : i < l.length), ∃ wo wc ko kc, w.cell? ⟨b, off + i * 5, none⟩ = some (.int .i64 l[i].kind) ∧ w.cell? ⟨b, off + i * 5 + 1, none⟩ = some (.string l[i].name) ∧ w.cell? ⟨b, off + i * 5 + 2, none⟩ = some (.int .i64 l[i].n) ∧
    w.cell? ⟨b, off + i * 5 + 3, none⟩ = some (.slice wo l[i].words.length wc) ∧ w.cell? ⟨b, off + i * 5 + 4, none⟩ = some (.slice ko l[i].kids.length kc) ∧ l[i].words.length ≤ wc ∧ l[i].kids.length ≤ kc ∧ TyCA c w wo ko l[i]
theorem TyCA.out {c : Nat} {w : World} {wo ko : Option Addr} {t : Ty} (h : TyCA c w wo ko t) : TyC w wo ko t := by
  obtain ⟨h1, h2, h3⟩ := h
  refine ⟨?_, ?_, h3⟩
  · rcases h1 with h | ⟨b, off, e, l, _, cc⟩
    · exact .inl h
    · exact .inr ⟨b, off, e, l, cc⟩
  · rcases h2 with h | ⟨b, off, e, l, _, cc⟩
    · exact .inl h
    · exact .inr ⟨b, off, e, l, cc⟩
theorem ARowA.out {c : Nat} {w : World} {ao : Option Addr} {l : List Ty} (h : ARowA c w ao l) : ARow w ao l := by
  rcases h with h | ⟨b, off, e, hl, _, cc⟩
  · exact .inl h
  · refine .inr ⟨b, off, e, hl, fun i hi => ?_⟩
    obtain ⟨wo, wc, ko, kc, h1, h2, h3, h4, h5, h6, h7, h8⟩ := cc i hi
    exact ⟨wo, wc, ko, kc, h1, h2, h3, h4, h5, h6, h7, h8.out⟩
/-- What holds from a world on to one whose cells apart from c are the same. -/
def SameA (c : Nat) (w w' : World) : Prop := w.heap.size ≤ w'.heap.size ∧ ∀ b o, b < w.heap.size → b ≠ c → w'.cell? ⟨b, o, none⟩ = w.cell? ⟨b, o, none⟩
theorem SameA.refl (c : Nat) (w : World) : SameA c w w := ⟨Nat.le_refl _, fun _ _ _ _ => rfl⟩
theorem SameA.trans {c : Nat} {w w1 w2 : World} (h : SameA c w w1) (h2 : SameA c w1 w2) : SameA c w w2 := ⟨Nat.le_trans h.1 h2.1, fun b o hb hc => (h2.2 b o (Nat.lt_of_lt_of_le hb h.1) hc).trans (h.2 b o hb hc)⟩
theorem SameA.below {c : Nat} {w w' : World} (h : Below w.heap.size w w') : SameA c w w' := ⟨h.size, fun b o hb _ => h.cell hb⟩
theorem SameA.set (c k : Nat) (w : World) (v : Value) : SameA c w (w.setCell ⟨c, k, none⟩ v) :=
  ⟨by simp, fun b o hb hc => World.cell?_of_block (a := ⟨b, o, none⟩) (Below.heap_setCell _ _ _ _ hc)⟩
theorem TyCA.same {c : Nat} {w w' : World} {wo ko : Option Addr} {t : Ty} (h : TyCA c w wo ko t) (hs : SameA c w w') : TyCA c w' wo ko t := by
  obtain ⟨h1, h2, h3⟩ := h
  refine ⟨?_, ?_, h3⟩
  · rcases h1 with h | ⟨b, off, e, l, n, cc⟩
    · exact .inl h
    · exact .inr ⟨b, off, e, Nat.lt_of_lt_of_le l hs.1, n, fun i hi => (hs.2 _ _ l n).trans (cc i hi)⟩
  · rcases h2 with h | ⟨b, off, e, l, n, cc⟩
    · exact .inl h
    · exact .inr ⟨b, off, e, Nat.lt_of_lt_of_le l hs.1, n, fun i hi => (hs.2 _ _ l n).trans (cc i hi)⟩
theorem ARowA.same {c : Nat} {w w' : World} {ao : Option Addr} {l : List Ty} (h : ARowA c w ao l) (hs : SameA c w w') : ARowA c w' ao l := by
  rcases h with h | ⟨b, off, e, hl, n, cc⟩
  · exact .inl h
  · refine .inr ⟨b, off, e, Nat.lt_of_lt_of_le hl hs.1, n, fun i hi => ?_⟩
    obtain ⟨wo, wc, ko, kc, h1, h2, h3, h4, h5, h6, h7, h8⟩ := cc i hi
    exact ⟨wo, wc, ko, kc, (hs.2 _ _ hl n).trans h1, (hs.2 _ _ hl n).trans h2, (hs.2 _ _ hl n).trans h3, (hs.2 _ _ hl n).trans h4, (hs.2 _ _ hl n).trans h5, h6, h7, h8.same hs⟩
theorem own_arowA {c : Nat} {w : World} {base : Nat} {v : Value} {l : List Tz} (h : OwnZ w base v l) (hc : c < base) (hz : ∀ z ∈ l, z.t.words.length ≤ z.wc ∧ z.t.kids.length ≤ z.kc ∧ TyCA c w z.wo z.ko z.t) : ∃ ao cap, v = .slice ao (l.map (·.t)).length cap ∧ ARowA c w ao (l.map (·.t)) ∧ (l.map (·.t)).length ≤ cap := by
  obtain ⟨h1, h2⟩ := h
  rcases h2 with ⟨rfl, h0⟩ | ⟨g, cap, cur, rfl, hg, hcur, hcap1, hcap2, hcs, htk⟩
  · exact ⟨none, 0, by rw [List.length_map, h0], .inl (by rw [List.map_eq_nil_iff]; exact List.eq_nil_of_length_eq_zero h0), by rw [List.length_map, h0]; exact Nat.le_refl _⟩
  · refine ⟨_, _, by rw [List.length_map], .inr ⟨g, 0, rfl, (Array.getElem?_eq_some_iff.1 hcur).1, by omega, fun k hk => ?_⟩, by rw [List.length_map]; exact hcap1⟩
    rw [List.length_map] at hk
    obtain ⟨c0, c1, c2, c3, c4⟩ := tzC_at l k hk
    have e : ∀ j, j < l.length * 5 → w.cell? ⟨g, j, none⟩ = (tzC l)[j]? := fun j hj => by
      simp only [World.cell?, hcur, Option.isSome_none, Bool.false_eq_true, if_false]
      rw [← htk, List.getElem?_take_of_lt hj]
      simp
    obtain ⟨i1, i2, i3⟩ := hz _ (List.getElem_mem hk)
    rw [List.getElem_map, Nat.zero_add]
    exact ⟨l[k].wo, l[k].wc, l[k].ko, l[k].kc, (e _ (by omega)).trans c0, (e _ (by omega)).trans c1, (e _ (by omega)).trans c2, (e _ (by omega)).trans c3, (e _ (by omega)).trans c4, i1, i2, i3⟩
/-- A type of the row that few makes: its words lie in a block of their own, its kids where they were. -/
def ZInA (c : Nat) (W w : World) (v : Value) (z : Tz) : Prop := z.t.words.length ≤ z.wc ∧ z.t.kids.length ≤ z.kc ∧ TyOk z.t ∧ IRow W z.ko z.t.kids ∧
  (z.t.words = [] ∨ ∃ b off, z.wo = some ⟨b, off, none⟩ ∧ b < w.heap.size ∧ b ≠ c ∧ v.ownBlock ≠ some b ∧ ∀ i, i < z.t.words.length → w.cell? ⟨b, off + i, none⟩ = some (.string (z.t.words.getD i ⟨#[]⟩)))
theorem ZInA.ina {c : Nat} {W w : World} {v : Value} {z : Tz} (h : ZInA c W w v z) (hc : W.heap.size ≤ c) (hb : Below W.heap.size W w) : z.t.words.length ≤ z.wc ∧ z.t.kids.length ≤ z.kc ∧ TyCA c w z.wo z.ko z.t := by
  obtain ⟨h1, h2, h3, h4, h5⟩ := h
  refine ⟨h1, h2, ?_, ?_, h3⟩
  · rcases h5 with h5 | ⟨b, off, e, l, nc, _, cc⟩
    · exact .inl h5
    · exact .inr ⟨b, off, e, l, nc, cc⟩
  · rcases h4 with h4 | ⟨b, off, e, l, cc⟩
    · exact .inl h4
    · exact .inr ⟨b, off, e, Nat.lt_of_lt_of_le l hb.size, by omega, fun i hi => (hb.cell (p := ⟨b, off + i, none⟩) l).trans (cc i hi)⟩
theorem ZInA.below {c : Nat} {W w w' : World} {v : Value} {z : Tz} (h : ZInA c W w v z) (hb : Below w.heap.size w w') : ZInA c W w' v z := by
  obtain ⟨h1, h2, h3, h4, h5⟩ := h
  refine ⟨h1, h2, h3, h4, ?_⟩
  rcases h5 with h5 | ⟨b, off, e, l, nc, n, c⟩
  · exact .inl h5
  · exact .inr ⟨b, off, e, Nat.lt_of_lt_of_le l hb.size, nc, n, fun i hi => (hb.cell l).trans (c i hi)⟩
theorem ZInA.push {c : Nat} {W w w' : World} {v v' : Value} {z : Tz} (h : ZInA c W w v z) (hs : w.heap.size ≤ w'.heap.size) (hk : ∀ b, b < w.heap.size → v.ownBlock ≠ some b → w'.heap[b]? = w.heap[b]?) (hv : v'.ownBlock = v.ownBlock ∨ ∃ n, w.heap.size ≤ n ∧ v'.ownBlock = some n) : ZInA c W w' v' z := by
  obtain ⟨h1, h2, h3, h4, h5⟩ := h
  refine ⟨h1, h2, h3, h4, ?_⟩
  rcases h5 with h5 | ⟨b, off, e, l, nc, n, c⟩
  · exact .inl h5
  · refine .inr ⟨b, off, e, Nat.lt_of_lt_of_le l hs, nc, ?_, fun i hi => ?_⟩
    · rcases hv with hv | ⟨m, hm, hv⟩
      · rw [hv]; exact n
      · rw [hv]; intro g; rw [Option.some_inj] at g; omega
    · rw [← c i hi]
      unfold World.cell?
      rw [hk b l n]
set_option maxHeartbeats 16000000 in
set_option maxRecDepth 100000 in
theorem few_apart (c : Nat) (w0 : World) (l : List Ty) (ao : Option Addr) (cap most : Nat) (w : World) (hl : InRow w0 ao l) (h0 : Below w0.heap.size w0 w) (hcc1 : w0.heap.size ≤ c) (hcc2 : c < w.heap.size) (hc : l.length ≤ cap) (hc2 : cap ≤ 9223372036854775807) (hm : most ≤ 1000) :
    Calls Tryd.prog 6 #[.slice ao l.length cap, .int .i64 (most : Int)] w fun e w' => ∃ ao' cap' us, e = .returned (.slice ao' us.length cap') ∧ ARowA c w' ao' us ∧ us.length ≤ cap' ∧ us.length ≤ most ∧ Below w.heap.size w w' := by
  obtain ⟨i0, hi, hz0, hz1, hz2⟩ := info_parts info_ty
  have HA0 := Lib.hid hl
  have HA := Lib.hid (hl.below h0)
  have HC := Lib.hid (And.intro hcc1 hcc2)
  have H0 := Lib.hid h0
  obtain ⟨L, hL⟩ : ∃ L, l.length = L := ⟨_, rfl⟩
  have HL := Lib.hid hL
  rw [hL] at hc ⊢
  obtain ⟨m, hmm⟩ : ∃ m : Nat, min L most = m := ⟨_, rfl⟩
  have m1 : m ≤ L := by omega
  have m2 : m ≤ most := by omega
  have m3 : m ≤ cap := by omega
  have Hm : ∀ (ts : Array TypeId) (t : TypeId) (W : World), (Builtin.min_ ts t #[.int .i64 (L : Int), .int .i64 (most : Int)]).run Tryd.prog W = .ok (.int .i64 (m : Int)) W := fun ts t W => by rw [run_min_int2, show (if (most : Int) < (L : Int) then (most : Int) else (L : Int)) = (m : Int) by split <;> omega]
  clear hmm hl hL h0 hcc1 hcc2
  go_enter Tryd.func6, Tryd.ntmps6
  go_wp2_with fail
  go_loopw [5, 15] (fun vo i wr => ∃ (k : Nat) (xs : List Tz), k ≤ m ∧ i = .int .i64 k ∧ Hid (xs.length = k) ∧ Hid (OwnZ wr w.heap.size vo xs) ∧ Hid (∀ z ∈ xs, ZInA c w0 wr vo z) ∧ Hid (Below w.heap.size w wr)) (fun _ i _ => m - (intOf i).toNat)
  case atStart => exact ⟨0, [], Nat.zero_le _, rfl, Lib.hid rfl, Lib.hid (own_nil _ _), Lib.hid (by simp), Lib.hid (Below.refl _ _)⟩
  case round =>
    obtain ⟨k, xs, hk, rfl, Hlen, Hown, Hz, HB⟩ := hrel
    by_cases hkm : k < m
    · have hks : k < l.length := by rw [HL.out]; omega
      obtain ⟨ab, aof, rfl, hab, hcl⟩ := HA0.out.cells (by omega)
      obtain ⟨xw, xwc, xk, xkc, a0', a1', a2', a3', a4', hxc0⟩ := hcl k hks
      obtain ⟨x, hx⟩ : ∃ x, l[k] = x := ⟨_, rfl⟩
      rw [hx] at a0' a1' a2' a3' a4' hxc0
      have HB0 := H0.out.trans (HB.out.mono H0.out.size)
      have a0 := (HB0.cell hab).trans a0'
      have a1 := (HB0.cell hab).trans a1'
      have a2 := (HB0.cell hab).trans a2'
      have a3 := (HB0.cell hab).trans a3'
      have a4 := (HB0.cell hab).trans a4'
      have hxc := hxc0.below HB0
      have HK0 := Lib.hid hxc0.kids
      clear HB0 hx hcl hab hks a0' a1' a2' a3' a4' hxc0
      obtain ⟨wn, hwn⟩ : ∃ wn, wr.alloc (.cells #[.int .i64 x.kind, .string x.name, .int .i64 x.n, .slice xw x.words.length xwc, .slice xk x.kids.length xkc] 31) = wn := ⟨_, rfl⟩
      obtain ⟨k2, q2, z2⟩ := box_new hwn
      obtain ⟨c0, c1, c2, c3, c4⟩ := cell5 k2
      have BN := Lib.hid (HB.out.trans (q2.mono HB.out.size))
      have Q2 := Lib.hid q2
      have HO := Lib.hid (one_any x xw xk xwc xkc wn (hxc.below q2))
      unfold tyV at HO
      clear k2 q2 z2 hxc
      go_wp2_with fail
      refine HO.out.mono ?_
      rintro e w2 ⟨uw, uwc, ukc, U, rfl, hs, ⟨j, hj⟩, hw1, hk1, hok, hb⟩
      have BQ := Lib.hid (Q2.out.trans (hb.mono Q2.out.size))
      have B2 := Lib.hid (BN.out.trans (hb.mono BN.out.size))
      have Hown2 := Lib.hid (Hown.out.kept BQ.out)
      have Hz2 := Lib.hid (fun z hz => (Hz.out z hz).below BQ.out)
      have hU : ∀ v : Value, (∀ b, wr.heap.size ≤ b → v.ownBlock ≠ some b) → ZInA c w0 w2 v ⟨U, uw, uwc, xk, ukc⟩ := fun v hv => ⟨hw1, hk1, hok, by show IRow w0 xk U.kids; rw [hj]; exact HK0.out.take j, by
        rcases hs with h | ⟨b, off, e, hge, hlt, hcc⟩
        · exact .inl h
        · exact .inr ⟨b, off, e, hlt, by (have h1 := Q2.out.size; have h2 := HB.out.size; have h3 := HC.out.2; omega), hv b (Nat.le_trans Q2.out.size hge), hcc⟩⟩
      have HU := Lib.hid (hU _ (fun b hbb => own_not Hown.out (.inr hbb)))
      have hO2 := Hown2.out
      unfold OwnZ at hO2
      rw [Hlen.out] at hO2
      have HO2 := Lib.hid hO2
      have BZ := Lib.hid B2.out.size
      unfold tyV
      clear hwn a0 a1 a2 a3 a4 c0 c1 c2 c3 c4 HO hs hj hw1 hk1 hok hb hU hO2
      go_wp2_with (at_builtin; refine wpList_append_own_at _ rfl _ _ 22 rfl w.heap.size 31 i0 (.agg #[.int .i64 0, .string ⟨#[]⟩, .int .i64 0, .slice none 0 0, .slice none 0 0]) 5 80 Tryd.underlying22 hi hz0 hz1 hz2 rfl (by decide) _ k (tzC xs) rfl (HO2.out.alloc _) ⟨w2.heap.size, 0, none⟩ 1 1 (tzC1 ⟨U, uw, uwc, xk, ukc⟩) rfl ?c1 ?c2 ?c3 ?c4 ?c5 ?c6 ?_)
      case c1 => rfl
      case c2 => exact cell_news _ _ _
      case c3 => exact tzC1_one _
      case c4 => unfold maxLen; omega
      case c5 => omega
      case c6 => have := BZ.out; simp; omega
      intro v' w3 hown3 hgrow _ hblk
      have hp := push_all (r := [⟨U, uw, uwc, xk, ukc⟩]) (by first | (rw [Hlen.out]; done) | (rw [Hlen.out]; rfl)) (Nat.le_refl _) Hown2.out B2.out (by simpa [tzC] using hown3) hgrow
      have hsz : w2.heap.size ≤ w3.heap.size := by
        have h1 : Below w2.heap.size w2 (w2.alloc (.cells (tzC1 ⟨U, uw, uwc, xk, ukc⟩).toArray 31)) := (Below.refl _ _).alloc (Nat.le_refl _) _
        have h2 := hgrow.size
        simp at h2
        omega
      have hbk := hblk.imp_right (fun h3 => show ∃ n, w2.heap.size ≤ n ∧ v'.ownBlock = some n from ⟨_, by simp, h3⟩)
      have ho2 := Lib.hid hp.1
      have hb2 := Lib.hid hp.2.1
      have hz2 := Lib.hid (show ∀ z ∈ xs ++ [⟨U, uw, uwc, xk, ukc⟩], ZInA c w0 w3 v' z from fun z hz => by
        rcases List.mem_append.1 hz with h1 | h1
        · exact (Hz2.out z h1).push hsz hp.2.2 hbk
        · rw [List.mem_singleton.1 h1]
          exact HU.out.push hsz hp.2.2 hbk)
      have hl2 := Lib.hid (show (xs ++ [(⟨U, uw, uwc, xk, ukc⟩ : Tz)]).length = k + 1 by rw [List.length_append, Hlen.out]; rfl)
      clear hown3 hgrow hblk hp hsz hbk
      go_wp2_with fail
      go_roundw
      case rel => exact ⟨k + 1, _, by omega, by go_num, hl2, ho2, hz2, hb2⟩
      case measure => first | (simp [intOf]; done) | (simp [intOf]; omega)
    · obtain rfl : k = m := by omega
      obtain ⟨ao2, cap2, rfl, r1, r2⟩ := own_arowA Hown.out HC.out.2 (fun z hz => (Hz.out z hz).ina HC.out.1 (H0.out.trans (HB.out.mono H0.out.size)))
      have hlen : (xs.map (·.t)).length = k := by rw [List.length_map]; exact Hlen.out
      have R := Lib.hid (And.intro r1 r2)
      have HLEN := Lib.hid hlen
      clear r1 r2 hlen
      go_wp2_with fail
      go_ret
      exact ⟨ao2, cap2, xs.map (·.t), by rw [List.length_map]; rfl, R.out.1, R.out.2, by rw [HLEN.out]; exact m2, HB.out⟩
end Go.Proofs.YthgdceikmipppaaDoor
