/- The reference's Cmp and Less of two fractions. -/
import Derived.Test.YtlkadnaoacoicaaRefBig
import Derived.Test.YtlkadnaoacoicaaRA
import Derived.Deep.RegionHeld3
import Derived.Deep.DeepCutAuto
namespace Go.Proofs.Ytlkadnaoacoicaa
open Go.RowKit NM

theorem block2 {w : World} {b : Nat} {x y : Value} {t : TypeId} (h : BlockAt w b #[x, y] t) : w.cell? ⟨b, 0, none⟩ = some x ∧ w.cell? ⟨b, 1, none⟩ = some y := ⟨h.cell 0, h.cell 1⟩
theorem three_start' (w : World) (A B C : Array Value) (t t2 t3 : TypeId) :
    Below w.heap.size w (((w.alloc (.cells A t)).alloc (.cells B t2)).alloc (.cells C t3)) ∧ BlockAt (((w.alloc (.cells A t)).alloc (.cells B t2)).alloc (.cells C t3)) w.heap.size A t ∧ BlockAt (((w.alloc (.cells A t)).alloc (.cells B t2)).alloc (.cells C t3)) (w.heap.size + 1) B t2 ∧ BlockAt (((w.alloc (.cells A t)).alloc (.cells B t2)).alloc (.cells C t3)) (w.heap.size + 2) C t3 := by
  have s1 := BlockAt.new w A t
  have e1 : (w.alloc (.cells A t)).heap.size = w.heap.size + 1 := by simp
  have s2 := BlockAt.new (w.alloc (.cells A t)) B t2
  rw [e1] at s2
  have e2 : ((w.alloc (.cells A t)).alloc (.cells B t2)).heap.size = w.heap.size + 2 := by simp
  have s3 := BlockAt.new ((w.alloc (.cells A t)).alloc (.cells B t2)) C t3
  rw [e2] at s3
  have b1 : Below w.heap.size w (w.alloc (.cells A t)) := (Below.refl _ _).alloc (Nat.le_refl _) _
  have b2 : Below (w.alloc (.cells A t)).heap.size (w.alloc (.cells A t)) ((w.alloc (.cells A t)).alloc (.cells B t2)) := (Below.refl _ _).alloc (Nat.le_refl _) _
  have b3 : Below ((w.alloc (.cells A t)).alloc (.cells B t2)).heap.size ((w.alloc (.cells A t)).alloc (.cells B t2)) (((w.alloc (.cells A t)).alloc (.cells B t2)).alloc (.cells C t3)) := (Below.refl _ _).alloc (Nat.le_refl _) _
  exact ⟨(b1.trans (b2.mono b1.size)).trans (b3.mono (b1.trans (b2.mono b1.size)).size), (s1.below b2).below b3, s2.below b3, s3⟩
theorem two_start2 (w : World) (A B : Array Value) (t t2 : TypeId) :
    Below w.heap.size w ((w.alloc (.cells A t)).alloc (.cells B t2)) ∧ BlockAt ((w.alloc (.cells A t)).alloc (.cells B t2)) w.heap.size A t ∧ BlockAt ((w.alloc (.cells A t)).alloc (.cells B t2)) (w.heap.size + 1) B t2 := by
  have s1 := BlockAt.new w A t
  have e1 : (w.alloc (.cells A t)).heap.size = w.heap.size + 1 := by simp
  have s2 := BlockAt.new (w.alloc (.cells A t)) B t2
  rw [e1] at s2
  have b1 : Below w.heap.size w (w.alloc (.cells A t)) := (Below.refl _ _).alloc (Nat.le_refl _) _
  have b2 : Below (w.alloc (.cells A t)).heap.size (w.alloc (.cells A t)) ((w.alloc (.cells A t)).alloc (.cells B t2)) := (Below.refl _ _).alloc (Nat.le_refl _) _
  exact ⟨b1.trans (b2.mono b1.size), s1.below b2, s2⟩
set_option maxHeartbeats 3200000 in
set_option maxRecDepth 100000 in
theorem fcmp (n1 d1 n2 d2 p1 p2 : ByteArray) (s : Int) (w : World)
    (M1 : ∀ w, Calls Try.prog 39 #[.string n1, .string d2] w fun e w' => e = .returned (.string p1) ∧ Below w.heap.size w w')
    (M2 : ∀ w, Calls Try.prog 39 #[.string n2, .string d1] w fun e w' => e = .returned (.string p2) ∧ Below w.heap.size w w')
    (C : ∀ w, Calls Try.prog 38 #[.string p1, .string p2] w fun e w' => e = .returned (.int .i64 s) ∧ w = w') :
    Calls Try.prog 23 #[.agg #[.string n1, .string d1], .agg #[.string n2, .string d2]] w fun e w' => e = .returned (.int .i64 s) ∧ Below w.heap.size w w' := by
  obtain ⟨B, ha, hb⟩ := two_start2 w #[.string n1, .string d1] #[.string n2, .string d2] 38 38
  have K1 := Lib.hid M1
  have K2 := Lib.hid M2
  have C0 := Lib.hid C
  clear M1 M2 C
  have tok1 : True := trivial
  go_enter Try.func23, Try.ntmps23
  go_wp2_with fail
  generalize (w.alloc (.cells #[.string n1, .string d1] 38)).alloc (.cells #[.string n2, .string d2] 38) = W at *
  have ha := ha.below ((Below.refl W.heap.size W).drew)
  have hb := hb.below ((Below.refl W.heap.size W).drew)
  have B := B.drew
  obtain ⟨q0, e0⟩ : ∃ p, w.heap.size = p := ⟨_, rfl⟩
  obtain ⟨q1, e1⟩ : ∃ p, q0 + 1 = p := ⟨_, rfl⟩
  simp only [e0, e1] at ha hb ⊢
  clear e0 e1
  obtain ⟨c0, c1⟩ := block2 ha
  obtain ⟨c2, c3⟩ := block2 hb
  go_region_held3 (fun w' => w'.cell? ⟨q0, 0, none⟩ = some (.string n1) ∧ w'.cell? ⟨q0, 1, none⟩ = some (.string d1) ∧ w'.cell? ⟨q1, 0, none⟩ = some (.string n2) ∧ w'.cell? ⟨q1, 1, none⟩ = some (.string d2))
    (first | go_keep | (exact ⟨c0, c1, c2, c3⟩) | (exact ⟨ha.cell 0, ha.cell 1, hb.cell 0, hb.cell 1⟩))
    (first | (go_at_call 39; have _t := tok1; clear _t tok1; have tok2 : True := trivial; refine (K1.out _).mono ?_; rintro e W11 ⟨rfl, bq⟩; have ha := ha.below bq; have hb := hb.below bq; have B := B.trans (bq.mono B.size); clear bq) | (go_at_call 39; have _t := tok2; clear _t tok2; have tok3 : True := trivial; refine (K2.out _).mono ?_; rintro e W12 ⟨rfl, bq⟩; have ha := ha.below bq; have hb := hb.below bq; have B := B.trans (bq.mono B.size); clear bq) | (go_at_call 38; have _t := tok3; clear _t tok3; have tok4 : True := trivial; refine (C0.out _).mono ?_; rintro e W13 ⟨rfl, rfl⟩; have B := B))
  all_goals
    go_wp2_with fail
    go_ret
    exact ⟨rfl, B⟩
set_option maxHeartbeats 3200000 in
set_option maxRecDepth 100000 in
theorem fless (n1 d1 n2 d2 p1 p2 p3 p4 : ByteArray) (w : World)
    (M1 : ∀ w, Calls Try.prog 39 #[.string n1, .string d2] w fun e w' => e = .returned (.string p1) ∧ Below w.heap.size w w')
    (M2 : ∀ w, Calls Try.prog 39 #[.string n2, .string d1] w fun e w' => e = .returned (.string p2) ∧ Below w.heap.size w w')
    (D : ∀ w, Calls Try.prog 43 #[.string p1, .string p2] w fun e w' => e = .returned (.string p3) ∧ Below w.heap.size w w')
    (M3 : ∀ w, Calls Try.prog 39 #[.string d1, .string d2] w fun e w' => e = .returned (.string p4) ∧ Below w.heap.size w w') :
    Calls Try.prog 25 #[.agg #[.string n1, .string d1], .agg #[.string n2, .string d2]] w fun e w' => e = .returned (.agg #[.string p3, .string p4]) ∧ Below w.heap.size w w' := by
  obtain ⟨B, ha, hb, hr⟩ := three_start' w #[.string n1, .string d1] #[.string n2, .string d2] #[.string ⟨#[]⟩, .string ⟨#[]⟩] 38 38 38
  have K1 := Lib.hid M1
  have K2 := Lib.hid M2
  have K3 := Lib.hid M3
  have K4 := Lib.hid D
  clear M1 M2 M3 D
  have tok1 : True := trivial
  go_enter Try.func25, Try.ntmps25
  go_wp2_with fail
  generalize ((w.alloc (.cells #[.string n1, .string d1] 38)).alloc (.cells #[.string n2, .string d2] 38)).alloc (.cells #[.string ⟨#[]⟩, .string ⟨#[]⟩] 38) = W at *
  have ha := ha.below ((Below.refl W.heap.size W).drew)
  have hb := hb.below ((Below.refl W.heap.size W).drew)
  have hr := hr.below ((Below.refl W.heap.size W).drew)
  have B := B.drew
  obtain ⟨q0, e0⟩ : ∃ p, w.heap.size = p := ⟨_, rfl⟩
  obtain ⟨q1, e1⟩ : ∃ p, q0 + 1 = p := ⟨_, rfl⟩
  have hr : BlockAt W.drew (w.heap.size + 1 + 1) #[.string ⟨#[]⟩, .string ⟨#[]⟩] 38 := hr
  obtain ⟨q2, e2⟩ : ∃ p, q1 + 1 = p := ⟨_, rfl⟩
  have lr : w.heap.size ≤ q2 := by omega
  have n02 : q0 ≠ q2 := by omega
  have n12 : q1 ≠ q2 := by omega
  have B := Lib.hid B
  simp only [e0, e1, e2] at ha hb hr ⊢
  have B := B.out
  clear e0 e1 e2
  obtain ⟨c0, c1⟩ := block2 ha
  obtain ⟨c2, c3⟩ := block2 hb
  have f0 := hr.free 0
  have f1 := hr.free 1
  obtain ⟨g0, g1⟩ := block2 hr
  go_region_held3 (fun w' => w'.cell? ⟨q0, 0, none⟩ = some (.string n1) ∧ w'.cell? ⟨q0, 1, none⟩ = some (.string d1) ∧ w'.cell? ⟨q1, 0, none⟩ = some (.string n2) ∧ w'.cell? ⟨q1, 1, none⟩ = some (.string d2))
    (first | go_keep | (exact ⟨c0, c1, c2, c3⟩) | (exact ⟨ha.cell 0, ha.cell 1, hb.cell 0, hb.cell 1⟩) | (exact ⟨((ha.other n02 0 _).other n02 1 _).cell 0, ((ha.other n02 0 _).other n02 1 _).cell 1, ((hb.other n12 0 _).other n12 1 _).cell 0, ((hb.other n12 0 _).other n12 1 _).cell 1⟩))
    (first | (go_at_call 39; have _t := tok1; clear _t tok1; have tok2 : True := trivial; refine (K1.out _).mono ?_; rintro e W11 ⟨rfl, bq⟩; have ha := ha.below bq; have hb := hb.below bq; have hr := hr.below bq; have B := B.trans (bq.mono B.size); clear bq) | (go_at_call 39; have _t := tok2; clear _t tok2; have tok3 : True := trivial; refine (K2.out _).mono ?_; rintro e W12 ⟨rfl, bq⟩; have ha := ha.below bq; have hb := hb.below bq; have hr := hr.below bq; have B := B.trans (bq.mono B.size); clear bq) | (go_at_call 43; have _t := tok3; clear _t tok3; have tok4 : True := trivial; refine (K4.out _).mono ?_; rintro e W13 ⟨rfl, bq⟩; have ha := ha.below bq; have hb := hb.below bq; have hr := hr.below bq; have B := B.trans (bq.mono B.size); clear bq) | (go_at_call 39; have _t := tok4; clear _t tok4; have tok5 : True := trivial; refine (K3.out _).mono ?_; rintro e W14 ⟨rfl, bq⟩; have ha := ha.below bq; have hb := hb.below bq; have hr := hr.below bq; have B := B.trans (bq.mono B.size); clear bq; have f0 := hr.free 0; have f1 := hr.free 1; obtain ⟨g0, g1⟩ := block2 hr))
  all_goals
    go_wp2_with fail
    refine bodyPost_ret (v := .agg #[.string p3, .string p4]) (by simp [results, Try.results25, go_sem, g0, g1]) rfl ⟨rfl, ?_⟩
    exact (B.setCell (by simpa using lr) _).setCell (by simpa using lr) _
end Go.Proofs.Ytlkadnaoacoicaa
