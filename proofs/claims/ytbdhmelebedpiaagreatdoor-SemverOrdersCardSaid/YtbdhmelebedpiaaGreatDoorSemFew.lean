/- The law's own few. -/
import Derived.Test.YtbdhmelebedpiaaGreatDoorSemRight
import Derived.Laws.AppendOwn
import Derived.Maps.AppendAt
import Derived.Deep.DeepCutAuto
import Derived.Laws.Small
namespace Go.Proofs.YtbdhmelebedpiaaGreatDoor
open Go.RowKit

theorem info_str : (Tryz.prog.info? 9).map (fun i => (i.zero, i.size, i.bytes)) = some (some (.string ⟨#[]⟩), 1, 16) := by kernel_rfl
def S9 (ss : List ByteArray) : List Value := ss.map Value.string
theorem own_pushS {w0 wr w2 : World} {vo : Value} {n : Nat} {xs : List Value} {x : Value} (hown : wr.ownsRow w0.heap.size 9 1 vo n xs) (hbl : Below w0.heap.size w0 wr)
    (hg : (wr.alloc (.cells #[x] 9)).grownBy w2 vo.ownBlock) : Below w0.heap.size w0 w2 :=
  (hbl.alloc hbl.size _).grown hg (by have := hbl.size; simp; omega) (fun k hk => (hown.lt k hk).1)
/-- A row of texts in a block from base on. -/
def SRowN (base : Nat) (w : World) (ao : Option Addr) (ss : List ByteArray) : Prop :=
  ss = [] ∨ ∃ b off, ao = some ⟨b, off, none⟩ ∧ base ≤ b ∧ b < w.heap.size ∧ ∀ i (h : i < ss.length), w.cell? ⟨b, off + i, none⟩ = some (.string ss[i])
theorem SRowN.row {base : Nat} {w : World} {ao : Option Addr} {ss : List ByteArray} (h : SRowN base w ao ss) : SRow w ao ss := by
  rcases h with h | ⟨b, off, h1, _, h2, h3⟩
  · exact .inl h
  · exact .inr ⟨b, off, h1, h2, h3⟩
theorem SRowN.below {base : Nat} {w w' : World} {ao : Option Addr} {ss : List ByteArray} (h : SRowN base w ao ss) (hb : Below w.heap.size w w') : SRowN base w' ao ss := by
  rcases h with h | ⟨b, off, h1, h0, h2, h3⟩
  · exact .inl h
  · exact .inr ⟨b, off, h1, h0, Nat.lt_of_lt_of_le h2 hb.size, fun i hi => by rw [hb.cell (p := ⟨b, off + i, none⟩) h2]; exact h3 i hi⟩
theorem SRowN.set {base : Nat} {w : World} {ao : Option Addr} {ss : List ByteArray} (h : SRowN base w ao ss) {c k : Nat} (hc : c < base) (v : Value) : SRowN base (w.setCell ⟨c, k, none⟩ v) ao ss := by
  rcases h with h | ⟨b, off, h1, h0, h2, h3⟩
  · exact .inl h
  · refine .inr ⟨b, off, h1, h0, by simpa using h2, fun i hi => ?_⟩
    rw [← h3 i hi]
    unfold World.cell?
    rw [Below.heap_setCell _ _ _ _ (show b ≠ c by omega)]
/-- A row of texts of the call's own is one. -/
theorem srow_own {w : World} {base n : Nat} {v : Value} {ss : List ByteArray} (h : w.ownsRow base 9 1 v n (S9 ss)) :
    ∃ ao cap, v = .slice ao ss.length cap ∧ SRowN base w ao ss ∧ ss.length ≤ cap := by
  obtain ⟨h1, h2⟩ := h
  have hl : ss.length = n := by simpa [S9] using h1
  subst hl
  rcases h2 with ⟨rfl, h0⟩ | ⟨g, cap, cur, rfl, hg, hcur, hcap1, hcap2, hcs, htk⟩
  · rw [h0]
    exact ⟨none, 0, rfl, .inl (List.eq_nil_of_length_eq_zero h0), Nat.le_refl _⟩
  · refine ⟨_, _, rfl, .inr ⟨g, 0, rfl, hg, (Array.getElem?_eq_some_iff.1 hcur).1, fun i hi => ?_⟩, hcap1⟩
    rw [Nat.zero_add]
    simp only [World.cell?, hcur, Option.isSome_none, Bool.false_eq_true, if_false]
    have e : cur[i]? = (cur.toList.take (ss.length * 1))[i]? := by
      rw [List.getElem?_take_of_lt (by omega)]
      simp
    rw [e, htk]
    simp [S9, hi]
theorem cell_newS (w : World) (x : Value) (t : TypeId) : ∀ (j : Nat) (u : Value), [x][j]? = some u → (w.alloc (.cells #[x] t)).cell? ((⟨w.heap.size, 0, none⟩ : Addr).add j) = some u := by
  intro j u hu
  have hadd : (⟨w.heap.size, 0, none⟩ : Addr).add j = ⟨w.heap.size, j, none⟩ := by unfold Addr.add; split <;> simp_all
  rw [hadd, World.cell?_alloc_at _ _ _ _ rfl]
  simpa using hu
/-- What few's closure gives. -/
def FewR (w0 : World) (e : Ending) (w' : World) : Prop := ∃ ao cap ss, e = .returned (.slice ao ss.length cap) ∧ SRowN w0.heap.size w' ao ss ∧ ss.length ≤ 9 ∧ (∀ s ∈ ss, s.size ≤ 42) ∧ Below w0.heap.size w0 w' ∧ ss.length ≤ cap
set_option maxHeartbeats 8000000 in
set_option maxRecDepth 100000 in
theorem few1_any (ao : Option Addr) (cap : Nat) (ss : List ByteArray) (w : World) (hr : SRow w ao ss) (hl : ss.length ≤ cap) (hc : cap ≤ 9223372036854775807) (ht : ∀ s ∈ ss, s.size ≤ 9223372036854775807) :
    Calls Tryz.prog 14 #[.slice ao ss.length cap] w (FewR w) := by
  obtain ⟨i0, hi, hz0, hz1, hz2⟩ := info_parts info_str
  have Hr := Lib.hid hr
  have Ht := Lib.hid ht
  obtain ⟨L, hL⟩ : ∃ L, ss.length = L := ⟨_, rfl⟩
  have HL := Lib.hid hL
  rw [hL] at hl ⊢
  obtain ⟨m, hm⟩ : ∃ m : Nat, min L 9 = m := ⟨_, rfl⟩
  have m1 : m ≤ L := by omega
  have m2 : m ≤ 9 := by omega
  have m3 : m ≤ cap := by omega
  have Hm : ∀ (ts : Array TypeId) (t : TypeId) (W : World), (Builtin.min_ ts t #[.int .i64 (L : Int), .int .i64 9]).run Tryz.prog W = .ok (.int .i64 (m : Int)) W := fun ts t W => by rw [run_min_int2, show (if (9 : Int) < (L : Int) then (9 : Int) else (L : Int)) = (m : Int) by split <;> omega]
  clear hm hr ht hL
  go_enter Tryz.func14, Tryz.ntmps14
  go_wp2_with fail
  go_loopw [3, 12] (fun vo i wr => ∃ (k : Nat) (xs : List ByteArray), k ≤ m ∧ i = .int .i64 k ∧ Hid (wr.ownsRow w.heap.size 9 1 vo k (S9 xs)) ∧ Hid (∀ s ∈ xs, s.size ≤ 42) ∧ Hid (Below w.heap.size w wr)) (fun _ i _ => m - (intOf i).toNat)
  case atStart => exact ⟨0, [], Nat.zero_le _, rfl, Lib.hid ⟨rfl, .inl ⟨rfl, rfl⟩⟩, Lib.hid (by simp), Lib.hid (Below.refl _ _)⟩
  case round =>
    obtain ⟨k, xs, hk, rfl, Hown, Hf, HB⟩ := hrel
    by_cases hkm : k < m
    · have hks : k < ss.length := by rw [HL.out]; omega
      have htt := Ht.out _ (List.getElem_mem hks)
      obtain ⟨b, o, rfl, q1, c1⟩ := (Hr.out.below HB.out).cells (by omega)
      have hck := c1 k hks
      clear c1
      obtain ⟨s, hs⟩ : ∃ s, ss[k] = s := ⟨_, rfl⟩
      rw [hs] at hck htt
      clear hs
      obtain ⟨q, hq⟩ : ∃ q : Nat, min s.size 42 = q := ⟨_, rfl⟩
      have p1 : q ≤ s.size := by omega
      have p2 : q ≤ 42 := by omega
      have Hq : ∀ (ts : Array TypeId) (t : TypeId) (W : World), (Builtin.min_ ts t #[.int .i64 (s.size : Int), .int .i64 42]).run Tryz.prog W = .ok (.int .i64 (q : Int)) W := fun ts t W => by rw [run_min_int2, show (if (42 : Int) < (s.size : Int) then (42 : Int) else (s.size : Int)) = (q : Int) by split <;> omega]
      clear hq
      have BZ := Lib.hid HB.out.size
      go_wp2_with (at_builtin; refine wpList_append_own_at _ rfl _ _ 22 rfl w.heap.size 9 i0 (.string ⟨#[]⟩) 1 16 Tryz.underlying22 hi hz0 hz1 hz2 rfl (by decide) _ k (S9 xs) rfl (Hown.out.alloc _) ⟨wr.heap.size, 0, none⟩ 1 1 [.string (s.extract 0 q)] rfl ?c1 ?c2 ?c3 ?c4 ?c5 ?c6 ?_)
      case c1 => rfl
      case c2 => exact cell_newS _ _ _
      case c3 =>
        intro u hu
        simp at hu
        subst hu
        rfl
      case c4 => unfold maxLen; omega
      case c5 => omega
      case c6 => have := BZ.out; simp; omega
      intro v' w2 hown3 hgrow _ hblk
      have hb2 := Lib.hid (own_pushS Hown.out HB.out hgrow)
      have ho2 := Lib.hid (show w2.ownsRow w.heap.size 9 1 v' (k + 1) (S9 (xs ++ [s.extract 0 q])) by
        rw [S9, List.map_append]
        exact hown3)
      have hf2 := Lib.hid (show ∀ t ∈ xs ++ [s.extract 0 q], t.size ≤ 42 from fun t ht => by
        rcases List.mem_append.1 ht with h1 | h1
        · exact Hf.out t h1
        · rw [List.mem_singleton.1 h1, ByteArray.size_extract]; omega)
      clear hown3 hgrow hblk
      go_wp2_with fail
      go_roundw
      case rel => exact ⟨k + 1, _, by omega, by go_num, ho2, hf2, hb2⟩
      case measure => simp [intOf]; omega
    · obtain rfl : k = m := by omega
      obtain ⟨ao2, cap2, rfl, q1, q2⟩ := srow_own Hown.out
      have Q1 := Lib.hid q1
      have Q2 := Lib.hid q2
      have hx : xs.length = k := by have := Hown.out.1; simpa [S9] using this
      have HX := Lib.hid hx
      clear q1 q2 hx
      go_wp2_with fail
      go_ret
      exact ⟨_, _, xs, rfl, Q1.out, by rw [HX.out]; exact m2, Hf.out, HB.out, Q2.out⟩
end Go.Proofs.YtbdhmelebedpiaaGreatDoor
