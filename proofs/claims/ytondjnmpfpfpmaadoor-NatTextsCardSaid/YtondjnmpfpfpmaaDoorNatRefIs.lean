/- The law's own test: is. -/
import Derived.Test.YtondjnmpfpfpmaaDoorNatRefCmp
namespace Go.Proofs.YtondjnmpfpfpmaaDoor
open Go.RowKit NM

set_option maxHeartbeats 800000 in
set_option maxRecDepth 100000 in
theorem is_over (s : ByteArray) (A : Int) (w : World) (hs : DecStr s A) (hA : A < big) (h : pw 16 ≤ A) :
    Calls Tryd.prog 18 #[.slice none 0 0, .int .i64 2, .string s] w fun e w' => e = .returned (.bool true) ∧ Below w.heap.size w w' := by
  have HO := Lib.hid (over_dec s A w hs hA)
  have hd := Lib.hid (decide_eq_true h)
  clear h
  go_enter Tryd.func18, Tryd.ntmps18
  go_wp2_with fail
  refine HO.out.mono ?_
  rintro e w2 ⟨rfl, hb⟩
  rw [hd.out]
  go_wp2_with fail
  go_ret
  exact ⟨rfl, hb⟩

set_option maxHeartbeats 800000 in
set_option maxRecDepth 100000 in
theorem is_ok (v : Value) (s : ByteArray) (A : Int) (w : World) (hs : DecStr s A) (hn : Num w v A) :
    Calls Tryd.prog 18 #[v, .int .i64 0, .string s] w fun e w' => e = .returned (.bool true) ∧ Below w.heap.size w w' := by
  have hr := hn.range
  have h16 : pw 16 ≤ big := pw_big (by omega)
  have HO := Lib.hid (over_dec s A w hs (by omega))
  have hd := Lib.hid (decide_eq_false (show ¬ pw 16 ≤ A by omega))
  clear hr h16
  go_enter Tryd.func18, Tryd.ntmps18
  go_wp2_with fail
  refine HO.out.mono ?_
  rintro e w2 ⟨rfl, hb⟩
  rw [hd.out]
  have hn2 := hn.below hb
  go_wp2_with fail
  refine (right_num hn2).mono ?_
  rintro e w3 ⟨rfl, rfl⟩
  obtain ⟨xs, hsl, hrx, hv⟩ := hn2
  have hl := (rightB_canon hsl.choose_spec.choose_spec.2.2.2.1 hrx).2
  go_wp2_with fail
  refine (reftext_sl v xs w2 hsl (by omega)).mono ?_
  rintro e w4 ⟨⟨t, rfl, ht⟩, hb4⟩
  rw [hv] at ht
  obtain rfl := ht.same hs
  have B := Lib.hid (hb.trans (hb4.mono hb.size))
  clear hsl hv hrx hl hb hb4 hn HO
  go_wp2_with fail
  go_ret
  exact ⟨rfl, B.out⟩
end Go.Proofs.YtondjnmpfpfpmaaDoor
