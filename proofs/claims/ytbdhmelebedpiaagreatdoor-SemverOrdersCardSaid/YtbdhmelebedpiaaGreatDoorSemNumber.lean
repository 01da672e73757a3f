/- number: what ParseInt says of a word; the reference's comparison of digits. -/
import Derived.Test.YtbdhmelebedpiaaGreatDoorSemNum
import Derived.Test.YtbdhmelebedpiaaGreatDoorSemShelf
import Derived.WalkLawsBesides
namespace Go.Proofs.YtbdhmelebedpiaaGreatDoor
open Go.RowKit

/-- A variable holds an error, or nil. -/
def EvAt (w : World) (g : Nat) : Prop := ∃ ev, w.cell? ⟨g, 0, none⟩ = some ev ∧ (ev = .nilIface ∨ ∃ te pe, ev = .iface te pe)
theorem cell_lt0 {w : World} {b o : Nat} {v : Value} (h : w.cell? ⟨b, o, none⟩ = some v) : b < w.heap.size := by
  rcases Nat.lt_or_ge b w.heap.size with h1 | h1
  · exact h1
  · exfalso
    unfold World.cell? at h
    rw [Array.getElem?_eq_none (by simpa using h1)] at h
    cases h
theorem EvAt.below {w w' : World} {g : Nat} (h : EvAt w g) (hb : Below w.heap.size w w') : EvAt w' g := by
  obtain ⟨ev, h1, h2⟩ := h
  exact ⟨ev, by rw [hb.cell (p := ⟨g, 0, none⟩) (cell_lt0 h1)]; exact h1, h2⟩
def Errs (w : World) : Prop := EvAt w 2 ∧ EvAt w 3
theorem Errs.below {w w' : World} (h : Errs w) (hb : Below w.heap.size w w') : Errs w' := ⟨h.1.below hb, h.2.below hb⟩
def numRes (s : ByteArray) : Int × Bool := match Lib.parseIntB 64 s.data.toList with
  | .ok v => (v, true)
  | .range => (Lib.intSat 64 s.data.toList, false)
  | _ => (0, false)
theorem parse_any (s : ByteArray) (w : World) (hs : s.size ≤ 281474976710656) (hE : Errs w) :
    Calls Tryz.prog 47 #[.string s, .int .i64 10, .int .i64 64] w fun e w' => (∃ ev, e = .returned (.tuple #[.int .i64 (numRes s).1, ev]) ∧ ((ev = .nilIface ∧ (numRes s).2 = true) ∨ (∃ t p, ev = .iface t p) ∧ (numRes s).2 = false)) ∧ Below w.heap.size w w' := by
  obtain ⟨⟨ev1, a1, a2⟩, ⟨ev2, b1, b2⟩⟩ := hE
  unfold numRes
  cases h : Lib.parseIntB 64 s.data.toList with
  | ok v =>
    refine (Tryz.strconv_ParseInt_10_at64_ok s (by omega) v h w).mono ?_
    rintro e w' ⟨rfl, hw⟩
    refine ⟨⟨_, rfl, .inl ⟨rfl, rfl⟩⟩, ?_⟩
    rcases hw with rfl | ⟨t, rfl⟩
    · exact Below.refl _ _
    · exact Lib.bytesWorld_below _ _ _
  | range =>
    refine (Tryz.strconv_ParseInt_10_at64_range s hs h ev2 w b1 b2).mono ?_
    rintro e w' ⟨N, rfl, _, _, hb⟩
    exact ⟨⟨_, rfl, .inr ⟨⟨_, _, rfl⟩, rfl⟩⟩, hb⟩
  | _ =>
    refine (Tryz.strconv_ParseInt_10_at64_bad s hs (fun v e => by rw [h] at e; cases e) (fun e => by rw [h] at e; cases e) ev1 w a1 a2).mono ?_
    rintro e w' ⟨N, rfl, _, _, hb⟩
    exact ⟨⟨_, rfl, .inr ⟨⟨_, _, rfl⟩, rfl⟩⟩, hb⟩
set_option maxHeartbeats 1000000 in
theorem number_any (s : ByteArray) (w : World) (hs : s.size ≤ 281474976710656) (hE : Errs w) :
    Calls Tryz.prog 24 #[.string s] w fun e w' => e = .returned (.tuple #[.int .i64 (numRes s).1, .bool (numRes s).2]) ∧ Below w.heap.size w w' := by
  have HP := Lib.hid (parse_any s w hs hE)
  generalize numRes s = r at *
  obtain ⟨n, b⟩ := r
  clear hE hs
  go_enter Tryz.func24, Tryz.ntmps24
  go_wp2_with fail
  refine HP.out.mono ?_
  rintro e w1 ⟨⟨ev, rfl, hev⟩, b1⟩
  have B1 := Lib.hid b1
  rcases hev with ⟨rfl, hb⟩ | ⟨⟨t, p, rfl⟩, hb⟩
  · obtain rfl : b = _ := hb
    clear b1 HP
    go_wp2_with fail
    go_quiet (fail)
    have Bn := fun n => Lib.hid (show Below w.heap.size w (w1.drewN n) from ⟨B1.out.os, B1.out.tape, B1.out.output, B1.out.size, B1.out.block⟩)
    go_wp2_with fail
    go_ret2
    exact ⟨rfl, (Bn _).out⟩
  · obtain rfl : b = _ := hb
    clear b1 HP
    go_wp2_with fail
    go_quiet (fail)
    have Bn := fun n => Lib.hid (show Below w.heap.size w (w1.drewN n) from ⟨B1.out.os, B1.out.tape, B1.out.output, B1.out.size, B1.out.block⟩)
    go_wp2_with fail
    go_ret2
    exact ⟨rfl, (Bn _).out⟩
end Go.Proofs.YtbdhmelebedpiaaGreatDoor
