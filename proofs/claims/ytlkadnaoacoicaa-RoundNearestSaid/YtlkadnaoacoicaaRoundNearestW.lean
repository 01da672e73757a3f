/- The law RoundNearest. -/
import Derived.Test.YtlkadnaoacoicaaRoundNearB
import Derived.Deep.RegionHeld3
import Derived.Deep.RegionWith
import Derived.Deep.DeepCutAuto
namespace Go.Proofs.Ytlkadnaoacoicaa
open Go.RowKit NM

def MeetC (x : Rat) (T S wb : Nat) (we : Bool) (b : Int) (ex : Bool) (k : Int) : Prop :=
  (wb = T ∧ b = 0 ∧ ex = false ∧ k = 2) ∨ (wb < T ∧ k = 0 ∧ b = ((wb + (if x.num < 0 ∧ wb ≠ 0 then S else 0) : Nat) : Int) ∧ ex = we)
def BitsAll (x : Rat) (mant least T S : Nat) (e : Ending) : Prop := (0 < x.num.natAbs ∧ BitsPost x mant least T S e) ∨ (x = 0 ∧ e = .returned (.tuple #[.int .u64 0, .bool true, .int .i64 0]))
theorem bits_all {size : Int} {S H E mant least : Nat} (F : Form3 size S H E mant least) (v : Value) (x : Rat) (w : World) (hs : (Lit.int .i64 size).wf = true) (h : RatN w v x) :
    Calls Try.prog 6 #[v, .int .i64 size] w fun e w' => (∃ (b : Int) (ex : Bool) (k : Int), e = .returned (.tuple #[.int .u64 b, .bool ex, .int .i64 k]) ∧ BitsAll x mant least (E * H) S (.returned (.tuple #[.int .u64 b, .bool ex, .int .i64 k]))) ∧ Below w.heap.size w w' := by
  by_cases hx : x.num.natAbs = 0
  · obtain rfl : x = 0 := Rat.num_eq_zero.1 (by omega)
    exact (bits_zero v size w hs F.size h).mono fun _ _ ⟨h1, h2⟩ => ⟨⟨_, _, _, h1, .inr ⟨rfl, rfl⟩⟩, h2⟩
  · refine (bits_any3 F v x w h (by omega)).mono ?_
    rintro e w' ⟨hp, h2⟩
    refine ⟨?_, h2⟩
    have hp2 := hp
    obtain ⟨L, _, ⟨_, rfl⟩ | ⟨_, rfl⟩⟩ := hp2
    · exact ⟨_, _, _, rfl, .inl ⟨by omega, hp⟩⟩
    · exact ⟨_, _, _, rfl, .inl ⟨by omega, hp⟩⟩
theorem near_case {size : Int} {S H E mant least : Nat} (F : Form3 size S H E mant least) {x : Rat} {e1 : Ending} {b k : Int} {ex : Bool} (h1 : NearPost x.num.natAbs x.den E H mant least e1) (h2 : BitsAll x mant least (E * H) S (.returned (.tuple #[.int .u64 b, .bool ex, .int .i64 k]))) :
    ∃ (wb : Nat) (we : Bool), e1 = .returned (.agg #[.int .u64 wb, .bool we]) ∧ MeetC x (E * H) S wb we b ex k := by
  obtain ⟨wb, b', we, ex', k', rfl, he, hc⟩ := near_meets F h1 h2
  obtain ⟨rfl, rfl, rfl⟩ : b = (b' : Int) ∧ ex = ex' ∧ k = k' := by simpa using he
  refine ⟨wb, we, rfl, ?_⟩
  rcases hc with ⟨a1, a2, a3, a4⟩ | ⟨a1, a2, a3, a4⟩
  · exact .inl ⟨a1, by omega, a3, a4⟩
  · exact .inr ⟨a1, a2, by rw [a3], a4⟩
theorem kn16 : pw 16 = ((2 ^ KN : Nat) : Int) := by rw [pow16, pow_nat]; rfl
theorem num_kn {w : World} {v : Value} {N : Nat} (h : Num w v N) : N < 2 ^ KN := by
  have h1 := h.range.2
  rw [kn16] at h1
  exact Int.ofNat_lt.1 h1
theorem Below.al {V W : World} {o : Obj} (C : Below V.heap.size V W) : Below V.heap.size V (W.alloc o) := C.trans (((Below.refl _ _).alloc (Nat.le_refl _) _).mono C.size)
theorem Below.undrew {V W : World} {n : Nat} (C : Below n V W.drew) : Below n V W := ⟨C.os, C.tape, C.output, C.size, C.block⟩
theorem Below.ald {V W : World} {o : Obj} (C : Below V.heap.size V W.drew) : Below V.heap.size V (W.alloc o).drew := (Below.al (Below.undrew C)).drew
theorem one_end {W0 W : World} {q0 : Nat} {cs r : Array Value} {t t1 : TypeId} (hr : BlockAt W q0 r t1) (B : Below W0.heap.size W0 W) :
    BlockAt (W.alloc (.cells cs t)) W.heap.size cs t ∧ BlockAt (W.alloc (.cells cs t)) q0 r t1 ∧ Below W0.heap.size W0 (W.alloc (.cells cs t)) := by
  have b : Below W.heap.size W (W.alloc (.cells cs t)) := (Below.refl _ _).alloc (Nat.le_refl _) _
  exact ⟨BlockAt.new W cs t, hr.below b, B.trans (b.mono B.size)⟩
theorem two_end {W0 W : World} {p q0 : Nat} {u0 u1 v0 v1 : Value} {r : Array Value} {t t1 : TypeId} (g : BlockAt W p #[u0, u1] t) (hr : BlockAt W q0 r t1) (B : Below W0.heap.size W0 W) (hp : W0.heap.size ≤ p) (n0 : q0 ≠ p) :
    BlockAt ((W.setCell ⟨p, 0, none⟩ v0).setCell ⟨p, 1, none⟩ v1) p #[v0, v1] t ∧ BlockAt ((W.setCell ⟨p, 0, none⟩ v0).setCell ⟨p, 1, none⟩ v1) q0 r t1 ∧ Below W0.heap.size W0 ((W.setCell ⟨p, 0, none⟩ v0).setCell ⟨p, 1, none⟩ v1) :=
  ⟨(g.set 0 v0).set 1 v1, (hr.other n0 0 v0).other n0 1 v1, (B.setCell (p := ⟨p, 0, none⟩) hp v0).setCell (p := ⟨p, 1, none⟩) hp v1⟩
set_option maxHeartbeats 100000000 in
set_option maxRecDepth 100000 in
theorem nearest3_walk (s0 : Bool) (a0 : Option Addr) (len0 cap0 : Nat) (z0 : List Int) (a1 : Option Addr) (len1 cap1 : Nat) (z1 : List Int) (sz : Int) (w : World)
    (w0 : IsRow .u32 w a0 len0 cap0 z0) (w1 : IsRow .u32 w a1 len1 cap1 z1) (hsz : (Lit.int .i64 sz).wf = true) :
    Calls Try.prog 3 #[.agg #[.bool s0, .slice a0 len0 cap0, .slice a1 len1 cap1], .int .i64 sz] w fun e w' => e = .returned (.bool true) ∧ Below w.heap.size w w' := by
  have B : Below w.heap.size w (w.alloc (.cells #[.bool s0, .slice a0 len0 cap0, .slice a1 len1 cap1] 25)) := (Below.refl _ _).alloc (Nat.le_refl _) _
  have hr := BlockAt.new w #[.bool s0, .slice a0 len0 cap0, .slice a1 len1 cap1] 25
  have FW := Lib.hid (fun (W : World) (B : Below w.heap.size w W) => fewO s0 a0 len0 cap0 z0 a1 len1 cap1 z1 W (w0.later B) (w1.later B))
  have Hsz := Lib.hid hsz
  clear w0 w1 hsz
  obtain ⟨c0, c1, c2⟩ := block3 hr
  have cl := hr.lt
  go_enter Try.func3, Try.ntmps3
  go_wp2_with fail
  refine (FW.out _ B).mono ?_
  rintro e W1 ⟨⟨n1, d1, xs, ys, rfl, x1, x2⟩, bq⟩
  obtain ⟨o1, m1, k1, rfl⟩ := x1.form
  obtain ⟨o2, m2, k2, rfl⟩ := x2.form
  have hr := hr.below bq
  have B := B.trans (bq.mono B.size)
  clear bq FW c0 c1 c2 cl
  have y1 := Sl.set3any (a := s0) (o1 := o1) (n1 := m1) (c1 := k1) (o2 := o2) (n2 := m2) (c2 := k2) x1 hr
  have y2 := Sl.set3any (a := s0) (o1 := o1) (n1 := m1) (c1 := k1) (o2 := o2) (n2 := m2) (c2 := k2) x2 hr
  have HX := Lib.hid (rat_ways _ s0 _ _ _ _ y1 y2)
  have hr2 := ((hr.set 0 (.bool s0)).set 1 (.slice o1 m1 k1)).set 2 (.slice o2 m2 k2)
  have B2 := ((B.setCell (p := ⟨w.heap.size, 0, none⟩) (Nat.le_refl _) (.bool s0)).setCell (p := ⟨w.heap.size, 1, none⟩) (Nat.le_refl _) (.slice o1 m1 k1)).setCell (p := ⟨w.heap.size, 2, none⟩) (Nat.le_refl _) (.slice o2 m2 k2)
  obtain ⟨c0, c1, c2⟩ := block3 hr
  have f0 := hr.free 0
  have f1 := hr.free 1
  have f2 := hr.free 2
  have cl := hr.lt
  clear x1 x2 y1 y2
  go_wp2_with fail
  clear c0 c1 c2 f0 f1 f2 cl hr B
  generalize ((W1.setCell ⟨w.heap.size, 0, none⟩ (.bool s0)).setCell ⟨w.heap.size, 1, none⟩ (.slice o1 m1 k1)).setCell ⟨w.heap.size, 2, none⟩ (.slice o2 m2 k2) = V0 at *
  simp at hr2
  have hr := hr2
  have B := B2
  clear hr2 B2
  obtain ⟨c0, c1, c2⟩ := block3 hr
  have cl := hr.lt
  by_cases hF : sz = 32 ∨ sz = 64
  · rcases hF with rfl | rfl
    · rcases HX.out with ⟨x, hx⟩ | hbx
      · have F : Form3 32 2147483648 8388608 255 24 149 := .inl ⟨rfl, rfl, rfl, rfl, rfl, rfl⟩
        obtain ⟨hsn, hn1, hn2⟩ := hx.sign
        have K1 := Lib.hid (fun (W : World) (B : Below V0.heap.size V0 W) => reftext_fun (hn1.below B))
        have K2 := Lib.hid (fun (W : World) (B : Below V0.heap.size V0 W) => reftext_fun (hn2.below B))
        have HR := Lib.hid (fun (W : World) (B : Below V0.heap.size V0 W) => refR_rat (hx.below B))
        have k3 := fun (W : World) => nearest_any F x.num.natAbs x.den W (num_kn hn1) (num_kn hn2) (den_pos x)
        have BA := Lib.hid (bits_all F _ x _ Hsz.out hx)
        have Hsn := Lib.hid hsn
        generalize numStr (x.num.natAbs : Int) = rn at *
        generalize numStr (x.den : Int) = rd at *
        clear HX hx hn1 hn2 hsn
        refine BA.out.mono ?_
        rintro e W4 ⟨⟨b, ex, k, rfl, hba⟩, bq⟩
        have C := bq
        clear BA
        have hr := hr.below bq
        have B := B.trans (bq.mono B.size)
        clear bq c0 c1 c2 cl
        obtain ⟨c0, c1, c2⟩ := block3 hr
        have cl := hr.lt
        have K3 := Lib.hid (fun (W : World) => (k3 W).mono fun e w' h => (⟨near_case F h.1 hba, h.2⟩ : (∃ (wb : Nat) (we : Bool), e = .returned (.agg #[.int .u64 wb, .bool we]) ∧ MeetC x 2139095040 2147483648 wb we b ex k) ∧ Below W.heap.size W w'))
        clear k3 hba F
        go_wp2_with fail
        refine (HR.out _ C).mono ?_
        rintro e W5 ⟨rfl, bq⟩
        have C := C.trans (bq.mono C.size)
        clear HR
        have hr := hr.below bq
        have B := B.trans (bq.mono B.size)
        clear bq c0 c1 c2 cl
        obtain ⟨c0, c1, c2⟩ := block3 hr
        have cl := hr.lt
        have l0 : w.heap.size ≤ w.heap.size := Nat.le_refl _
        obtain ⟨q0, e0⟩ : ∃ p, w.heap.size = p := ⟨_, rfl⟩
        go_wp2_with fail
        rw [e0] at hr c0 c1 c2 cl
        go_cut [8] (fun va wx => ∃ (p wb : Nat) (we : Bool), va = .pointer (some ⟨p, 0, none⟩) ∧ w.heap.size ≤ p ∧ Hid (MeetC x 2139095040 2147483648 wb we b ex k) ∧ Hid (BlockAt wx p #[.int .u64 wb, .bool we] 34) ∧ Hid (BlockAt wx q0 #[.bool s0, .slice o1 m1 k1, .slice o2 m2 k2] 25) ∧ Hid (Below w.heap.size w wx))
        case first =>
          have D := (Below.refl W5.heap.size W5).drew
          have hr := hr.below D
          have C := C.drew
          have B := B.drew
          clear D c0 c1 c2 cl
          obtain ⟨c0, c1, c2⟩ := block3 hr
          have cl := hr.lt
          have tok1 : True := trivial
          go_region_held3 (fun w' => w'.cell? ⟨q0, 1, none⟩ = some (.slice o1 m1 k1) ∧ w'.cell? ⟨q0, 2, none⟩ = some (.slice o2 m2 k2))
            (first | (exact ⟨c1, c2⟩) | (exact ⟨hr.cell 1, hr.cell 2⟩) | (exact ⟨dkeep hr 1, dkeep hr 2⟩) | (exact ⟨(hr.below ((Below.refl _ _).alloc (Nat.le_refl _) _)).cell 1, (hr.below ((Below.refl _ _).alloc (Nat.le_refl _) _)).cell 2⟩) | (exact ⟨((hr.other gn0 0 _).other gn0 1 _).cell 1, ((hr.other gn0 0 _).other gn0 1 _).cell 2⟩) | go_keep)
            (first | (go_at_call 10; have _t := tok1; clear _t tok1; have tok2 : True := trivial; (first | (with_reducible refine (K1.out _ C).mono ?_) | (with_reducible refine (K1.out _ (Below.ald C)).mono ?_) | (with_reducible refine (K1.out _ (Below.al C)).mono ?_)); rintro e W11 ⟨rfl, bq⟩; (first | (have hr := hr.below bq; have C := C.trans (bq.mono C.size); have B := B.trans (bq.mono B.size); clear bq) | (obtain ⟨ga, bq⟩ := one_new_d bq; have gn0 := Nat.ne_of_lt hr.lt; have gap := B.size; have hr := hr.below bq; have C := C.trans (bq.mono C.size); have B := B.trans (bq.mono B.size); clear bq; have ga0 := ga.free 0; have ga1 := ga.free 1; obtain ⟨ga2, ga3⟩ := block2 ga; have gal := ga.lt))) | (go_at_call 10; have _t := tok2; clear _t tok2; have tok3 : True := trivial; (first | (with_reducible refine (K2.out _ C).mono ?_) | (with_reducible refine (K2.out _ (Below.ald C)).mono ?_) | (with_reducible refine (K2.out _ (Below.al C)).mono ?_)); rintro e W12 ⟨rfl, bq⟩; (first | (have ga := ga.below bq; clear ga0 ga1 ga2 ga3 gal; have hr := hr.below bq; have C := C.trans (bq.mono C.size); have B := B.trans (bq.mono B.size); clear bq; have ga0 := ga.free 0; have ga1 := ga.free 1; obtain ⟨ga2, ga3⟩ := block2 ga; have gal := ga.lt) | (have hr := hr.below bq; have C := C.trans (bq.mono C.size); have B := B.trans (bq.mono B.size); clear bq) | (obtain ⟨ga, bq⟩ := one_new bq; have gn0 := Nat.ne_of_lt hr.lt; have gap := B.size; have hr := hr.below bq; have C := C.trans (bq.mono C.size); have B := B.trans (bq.mono B.size); clear bq; have ga0 := ga.free 0; have ga1 := ga.free 1; obtain ⟨ga2, ga3⟩ := block2 ga; have gal := ga.lt))) | (go_at_call 9; have _t := tok3; refine (K3.out _).mono ?_; rintro e W13 ⟨⟨wb, we, rfl, hmc⟩, bq⟩; have Hmc := Lib.hid hmc; clear hmc; (first | (have ga := ga.below bq; clear ga0 ga1 ga2 ga3 gal; have hr := hr.below bq; have C := C.trans (bq.mono C.size); have B := B.trans (bq.mono B.size); clear bq; have ga0 := ga.free 0; have ga1 := ga.free 1; obtain ⟨ga2, ga3⟩ := block2 ga; have gal := ga.lt) | (have hr := hr.below bq; have C := C.trans (bq.mono C.size); have B := B.trans (bq.mono B.size); clear bq) | (obtain ⟨ga, bq⟩ := one_new bq; have gn0 := Nat.ne_of_lt hr.lt; have gap := B.size; have hr := hr.below bq; have C := C.trans (bq.mono C.size); have B := B.trans (bq.mono B.size); clear bq; have ga0 := ga.free 0; have ga1 := ga.free 1; obtain ⟨ga2, ga3⟩ := block2 ga; have gal := ga.lt))))
          all_goals
            go_wp2_with fail
            go_meet
            first
              | (obtain ⟨y1, y2, y3⟩ := one_end (cs := #[.int .u64 (wb : Int), .bool we]) (t := 34) hr B; with_reducible exact ⟨_, _, _, rfl, B.size, Hmc, Lib.hid y1, Lib.hid y2, Lib.hid y3⟩)
              | (obtain ⟨y1, y2, y3⟩ := two_end (v0 := .int .u64 (wb : Int)) (v1 := .bool we) ga hr B gap gn0; (with_reducible refine ⟨_, _, _, rfl, ?_, Hmc, Lib.hid y1, Lib.hid y2, Lib.hid y3⟩); exact gap)
        case rest =>
          rename_i wc
          obtain ⟨p, wb, we, rfl, hpw, Hmc, Hp1, Hr1, HB1⟩ := hcut
          clear hr B C c0 c1 c2 cl K1 K2 K3
          have hp := Hp1.out
          have hr := Hr1.out
          have B := HB1.out
          clear Hp1 Hr1 HB1
          obtain ⟨d0, d1⟩ := block2 hp
          obtain ⟨c0, c1, c2⟩ := block3 hr
          have cl := hr.lt
          have dl := hp.lt
          obtain ⟨z, hz⟩ : ∃ z, ((wb : Int) == 2139095040) = z := ⟨_, rfl⟩
          have hz2 : z = decide (wb = 2139095040) := by rw [← hz, Bool.eq_iff_iff, beq_iff_eq, decide_eq_true_iff]; omega
          rcases Hmc.out with ⟨q1, q2, q3, q4⟩ | ⟨q1, q2, q3, q4⟩
          · obtain rfl : z = true := by rw [hz2, decide_eq_true q1]
            have Hb := Lib.hid q1
            subst q2 q3 q4
            clear hz2 Hmc
            clear q1
            go_wp2_with fail
            go_quiet (first | (go_at_call 12; exact Calls.quiet_of_same ((mantissa32 _).mono fun _ _ h => ⟨h.1, h.2.symm⟩)) | (go_at_call 11; exact Calls.quiet_of_same ((rhigh32 _).mono fun _ _ h => ⟨h.1, h.2.symm⟩)))
            rename_i nq
            have hp := hp.drewN nq
            have hr := hr.drewN nq
            have B := below_drewN B nq
            clear c0 c1 c2 cl d0 d1 dl
            generalize wc.drewN nq = wd at *
            obtain ⟨d0, d1⟩ := block2 hp
            obtain ⟨c0, c1, c2⟩ := block3 hr
            have cl := hr.lt
            have dl := hp.lt
            go_wp2_with fail
            refine (alive3 _).mono ?_
            rintro e W9 ⟨rfl, bq⟩
            have B := B.trans (bq.mono B.size)
            clear bq
            go_wp2_with fail
            go_ret
            exact ⟨rfl, B⟩
          · obtain rfl : z = false := by rw [hz2, decide_eq_false (by omega)]
            subst q2
            subst q4
            clear hz2 Hmc
            have Hq1 := Lib.hid q1
            have Hq3 := Lib.hid q3
            clear q1 q3
            go_wp2_with fail
            go_quiet (first | (go_at_call 12; exact Calls.quiet_of_same ((mantissa32 _).mono fun _ _ h => ⟨h.1, h.2.symm⟩)) | (go_at_call 11; exact Calls.quiet_of_same ((rhigh32 _).mono fun _ _ h => ⟨h.1, h.2.symm⟩)))
            rename_i nq
            have hp := hp.drewN nq
            have hr := hr.drewN nq
            have B := below_drewN B nq
            clear c0 c1 c2 cl d0 d1 dl
            generalize wc.drewN nq = wd at *
            obtain ⟨d0, d1⟩ := block2 hp
            obtain ⟨c0, c1, c2⟩ := block3 hr
            have cl := hr.lt
            have dl := hp.lt
            by_cases hs0 : s0 = false
            · obtain rfl : b = (wb : Int) := by
                rw [Hq3.out, if_neg (fun h => by have h2 := Hsn.out; rw [hs0] at h2; exact of_decide_eq_false h2 h.1), Nat.add_zero]
              go_wp2_with fail
              refine (alive3 _).mono ?_
              rintro e W9 ⟨rfl, bq⟩
              have hp := hp.below bq
              have B := B.trans (bq.mono B.size)
              clear bq c0 c1 c2 cl d0 d1 dl
              obtain ⟨d0, d1⟩ := block2 hp
              have dl := hp.lt
              have hee : (ex == ex) = true := by simp
              have hbb : ((wb : Int) == (wb : Int)) = true := by simp
              go_wp2_with fail
              go_ret
              exact ⟨rfl, B⟩
            · have hs0 : s0 = true := by simpa using hs0
              by_cases hwb : wb = 0
              · subst hwb
                obtain rfl : b = 0 := by
                  rw [Hq3.out, if_neg (fun h => h.2 rfl)]
                  rfl
                go_wp2_with fail
                refine (alive3 _).mono ?_
                rintro e W9 ⟨rfl, bq⟩
                have hp := hp.below bq
                have B := B.trans (bq.mono B.size)
                clear bq c0 c1 c2 cl d0 d1 dl
                obtain ⟨d0, d1⟩ := block2 hp
                have dl := hp.lt
                have hee : (ex == ex) = true := by simp
                go_wp2_with fail
                go_ret
                exact ⟨rfl, B⟩
              · have hneg : x.num < 0 := of_decide_eq_true (Hsn.out.trans hs0)
                have hbv : b = (wb : Int) + 2147483648 := by
                  rw [Hq3.out, if_pos ⟨hneg, hwb⟩]
                  omega
                have hor := or_31 (x := (wb : Int)) (by omega) (by have := Hq1.out; omega)
                have hz0 : ((wb : Int) == 0) = false := by rw [beq_eq_false_iff_ne]; omega
                have hz1 : ((wb : Int) != 0) = true := by rw [bne, hz0]; rfl
                clear Hq3 hneg
                go_wp2_with fail
                clear c0 c1 c2 cl d0 d1 dl
                have D := (Below.refl wd.heap.size wd).drew
                have hp := hp.below D
                have hr := hr.below D
                have B := B.drew
                clear D
                obtain ⟨d0, d1⟩ := block2 hp
                obtain ⟨c0, c1, c2⟩ := block3 hr
                have cl := hr.lt
                have dl := hp.lt
                have df := hp.free 0
                go_region_with ((go_at_call 13; refine (high32 _).mono ?_; rintro e W10 ⟨rfl, rfl⟩))
                all_goals
                  have hp := hp.set 0 (.int .u64 ((wb : Int) + 2147483648))
                  have B := B.setCell (p := ⟨p, 0, none⟩) hpw (.int .u64 ((wb : Int) + 2147483648))
                  simp at hp
                  clear c0 c1 c2 cl d0 d1 dl df hr
                  go_wp2_with fail
                  refine (alive3 _).mono ?_
                  rintro e W9 ⟨rfl, bq⟩
                  have hp := hp.below bq
                  have B := B.trans (bq.mono B.size)
                  clear bq
                  obtain ⟨d0, d1⟩ := block2 hp
                  have dl := hp.lt
                  have hee : (ex == ex) = true := by simp
                  obtain rfl := hbv
                  have hbb : ((wb : Int) + 2147483648 == (wb : Int) + 2147483648) = true := by simp
                  go_wp2_with fail
                  go_ret
                  exact ⟨rfl, B⟩
      · have HN := Lib.hid (fun (W : World) (B : Below V0.heap.size V0 W) => refR_not (hbx.below B))
        refine (bits_badr _ 32 _ Hsz.out (.inl rfl) hbx).mono ?_
        rintro e W4 ⟨rfl, bq⟩
        have C := bq
        clear HX hbx
        have hr := hr.below bq
        have B := B.trans (bq.mono B.size)
        clear bq c0 c1 c2 cl
        obtain ⟨c0, c1, c2⟩ := block3 hr
        have cl := hr.lt
        go_wp2_with fail
        refine (HN.out _ C).mono ?_
        rintro e W5 ⟨rfl, bq⟩
        clear HN C
        have hr := hr.below bq
        have B := B.trans (bq.mono B.size)
        clear bq c0 c1 c2 cl
        obtain ⟨c0, c1, c2⟩ := block3 hr
        have cl := hr.lt
        go_wp2_with fail
        refine (alive3 _).mono ?_
        rintro e W9 ⟨rfl, bq⟩
        have B := B.trans (bq.mono B.size)
        clear bq
        go_wp2_with fail
        go_ret
        exact ⟨rfl, B⟩
    · rcases HX.out with ⟨x, hx⟩ | hbx
      · have F : Form3 64 9223372036854775808 4503599627370496 2047 53 1074 := .inr ⟨rfl, rfl, rfl, rfl, rfl, rfl⟩
        obtain ⟨hsn, hn1, hn2⟩ := hx.sign
        have K1 := Lib.hid (fun (W : World) (B : Below V0.heap.size V0 W) => reftext_fun (hn1.below B))
        have K2 := Lib.hid (fun (W : World) (B : Below V0.heap.size V0 W) => reftext_fun (hn2.below B))
        have HR := Lib.hid (fun (W : World) (B : Below V0.heap.size V0 W) => refR_rat (hx.below B))
        have k3 := fun (W : World) => nearest_any F x.num.natAbs x.den W (num_kn hn1) (num_kn hn2) (den_pos x)
        have BA := Lib.hid (bits_all F _ x _ Hsz.out hx)
        have Hsn := Lib.hid hsn
        generalize numStr (x.num.natAbs : Int) = rn at *
        generalize numStr (x.den : Int) = rd at *
        clear HX hx hn1 hn2 hsn
        refine BA.out.mono ?_
        rintro e W4 ⟨⟨b, ex, k, rfl, hba⟩, bq⟩
        have C := bq
        clear BA
        have hr := hr.below bq
        have B := B.trans (bq.mono B.size)
        clear bq c0 c1 c2 cl
        obtain ⟨c0, c1, c2⟩ := block3 hr
        have cl := hr.lt
        have K3 := Lib.hid (fun (W : World) => (k3 W).mono fun e w' h => (⟨near_case F h.1 hba, h.2⟩ : (∃ (wb : Nat) (we : Bool), e = .returned (.agg #[.int .u64 wb, .bool we]) ∧ MeetC x 9218868437227405312 9223372036854775808 wb we b ex k) ∧ Below W.heap.size W w'))
        clear k3 hba F
        go_wp2_with fail
        refine (HR.out _ C).mono ?_
        rintro e W5 ⟨rfl, bq⟩
        have C := C.trans (bq.mono C.size)
        clear HR
        have hr := hr.below bq
        have B := B.trans (bq.mono B.size)
        clear bq c0 c1 c2 cl
        obtain ⟨c0, c1, c2⟩ := block3 hr
        have cl := hr.lt
        have l0 : w.heap.size ≤ w.heap.size := Nat.le_refl _
        obtain ⟨q0, e0⟩ : ∃ p, w.heap.size = p := ⟨_, rfl⟩
        go_wp2_with fail
        rw [e0] at hr c0 c1 c2 cl
        go_cut [8] (fun va wx => ∃ (p wb : Nat) (we : Bool), va = .pointer (some ⟨p, 0, none⟩) ∧ w.heap.size ≤ p ∧ Hid (MeetC x 9218868437227405312 9223372036854775808 wb we b ex k) ∧ Hid (BlockAt wx p #[.int .u64 wb, .bool we] 34) ∧ Hid (BlockAt wx q0 #[.bool s0, .slice o1 m1 k1, .slice o2 m2 k2] 25) ∧ Hid (Below w.heap.size w wx))
        case first =>
          have D := (Below.refl W5.heap.size W5).drew
          have hr := hr.below D
          have C := C.drew
          have B := B.drew
          clear D c0 c1 c2 cl
          obtain ⟨c0, c1, c2⟩ := block3 hr
          have cl := hr.lt
          have tok1 : True := trivial
          go_region_held3 (fun w' => w'.cell? ⟨q0, 1, none⟩ = some (.slice o1 m1 k1) ∧ w'.cell? ⟨q0, 2, none⟩ = some (.slice o2 m2 k2))
            (first | (exact ⟨c1, c2⟩) | (exact ⟨hr.cell 1, hr.cell 2⟩) | (exact ⟨dkeep hr 1, dkeep hr 2⟩) | (exact ⟨(hr.below ((Below.refl _ _).alloc (Nat.le_refl _) _)).cell 1, (hr.below ((Below.refl _ _).alloc (Nat.le_refl _) _)).cell 2⟩) | (exact ⟨((hr.other gn0 0 _).other gn0 1 _).cell 1, ((hr.other gn0 0 _).other gn0 1 _).cell 2⟩) | go_keep)
            (first | (go_at_call 10; have _t := tok1; clear _t tok1; have tok2 : True := trivial; (first | (with_reducible refine (K1.out _ C).mono ?_) | (with_reducible refine (K1.out _ (Below.ald C)).mono ?_) | (with_reducible refine (K1.out _ (Below.al C)).mono ?_)); rintro e W11 ⟨rfl, bq⟩; (first | (have hr := hr.below bq; have C := C.trans (bq.mono C.size); have B := B.trans (bq.mono B.size); clear bq) | (obtain ⟨ga, bq⟩ := one_new_d bq; have gn0 := Nat.ne_of_lt hr.lt; have gap := B.size; have hr := hr.below bq; have C := C.trans (bq.mono C.size); have B := B.trans (bq.mono B.size); clear bq; have ga0 := ga.free 0; have ga1 := ga.free 1; obtain ⟨ga2, ga3⟩ := block2 ga; have gal := ga.lt))) | (go_at_call 10; have _t := tok2; clear _t tok2; have tok3 : True := trivial; (first | (with_reducible refine (K2.out _ C).mono ?_) | (with_reducible refine (K2.out _ (Below.ald C)).mono ?_) | (with_reducible refine (K2.out _ (Below.al C)).mono ?_)); rintro e W12 ⟨rfl, bq⟩; (first | (have ga := ga.below bq; clear ga0 ga1 ga2 ga3 gal; have hr := hr.below bq; have C := C.trans (bq.mono C.size); have B := B.trans (bq.mono B.size); clear bq; have ga0 := ga.free 0; have ga1 := ga.free 1; obtain ⟨ga2, ga3⟩ := block2 ga; have gal := ga.lt) | (have hr := hr.below bq; have C := C.trans (bq.mono C.size); have B := B.trans (bq.mono B.size); clear bq) | (obtain ⟨ga, bq⟩ := one_new bq; have gn0 := Nat.ne_of_lt hr.lt; have gap := B.size; have hr := hr.below bq; have C := C.trans (bq.mono C.size); have B := B.trans (bq.mono B.size); clear bq; have ga0 := ga.free 0; have ga1 := ga.free 1; obtain ⟨ga2, ga3⟩ := block2 ga; have gal := ga.lt))) | (go_at_call 9; have _t := tok3; refine (K3.out _).mono ?_; rintro e W13 ⟨⟨wb, we, rfl, hmc⟩, bq⟩; have Hmc := Lib.hid hmc; clear hmc; (first | (have ga := ga.below bq; clear ga0 ga1 ga2 ga3 gal; have hr := hr.below bq; have C := C.trans (bq.mono C.size); have B := B.trans (bq.mono B.size); clear bq; have ga0 := ga.free 0; have ga1 := ga.free 1; obtain ⟨ga2, ga3⟩ := block2 ga; have gal := ga.lt) | (have hr := hr.below bq; have C := C.trans (bq.mono C.size); have B := B.trans (bq.mono B.size); clear bq) | (obtain ⟨ga, bq⟩ := one_new bq; have gn0 := Nat.ne_of_lt hr.lt; have gap := B.size; have hr := hr.below bq; have C := C.trans (bq.mono C.size); have B := B.trans (bq.mono B.size); clear bq; have ga0 := ga.free 0; have ga1 := ga.free 1; obtain ⟨ga2, ga3⟩ := block2 ga; have gal := ga.lt))))
          all_goals
            go_wp2_with fail
            go_meet
            first
              | (obtain ⟨y1, y2, y3⟩ := one_end (cs := #[.int .u64 (wb : Int), .bool we]) (t := 34) hr B; with_reducible exact ⟨_, _, _, rfl, B.size, Hmc, Lib.hid y1, Lib.hid y2, Lib.hid y3⟩)
              | (obtain ⟨y1, y2, y3⟩ := two_end (v0 := .int .u64 (wb : Int)) (v1 := .bool we) ga hr B gap gn0; (with_reducible refine ⟨_, _, _, rfl, ?_, Hmc, Lib.hid y1, Lib.hid y2, Lib.hid y3⟩); exact gap)
        case rest =>
          rename_i wc
          obtain ⟨p, wb, we, rfl, hpw, Hmc, Hp1, Hr1, HB1⟩ := hcut
          clear hr B C c0 c1 c2 cl K1 K2 K3
          have hp := Hp1.out
          have hr := Hr1.out
          have B := HB1.out
          clear Hp1 Hr1 HB1
          obtain ⟨d0, d1⟩ := block2 hp
          obtain ⟨c0, c1, c2⟩ := block3 hr
          have cl := hr.lt
          have dl := hp.lt
          obtain ⟨z, hz⟩ : ∃ z, ((wb : Int) == 9218868437227405312) = z := ⟨_, rfl⟩
          have hz2 : z = decide (wb = 9218868437227405312) := by rw [← hz, Bool.eq_iff_iff, beq_iff_eq, decide_eq_true_iff]; omega
          rcases Hmc.out with ⟨q1, q2, q3, q4⟩ | ⟨q1, q2, q3, q4⟩
          · obtain rfl : z = true := by rw [hz2, decide_eq_true q1]
            have Hb := Lib.hid q1
            subst q2 q3 q4
            clear hz2 Hmc
            clear q1
            go_wp2_with fail
            go_quiet (first | (go_at_call 12; exact Calls.quiet_of_same ((mantissa64 _).mono fun _ _ h => ⟨h.1, h.2.symm⟩)) | (go_at_call 11; exact Calls.quiet_of_same ((rhigh64 _).mono fun _ _ h => ⟨h.1, h.2.symm⟩)))
            rename_i nq
            have hp := hp.drewN nq
            have hr := hr.drewN nq
            have B := below_drewN B nq
            clear c0 c1 c2 cl d0 d1 dl
            generalize wc.drewN nq = wd at *
            obtain ⟨d0, d1⟩ := block2 hp
            obtain ⟨c0, c1, c2⟩ := block3 hr
            have cl := hr.lt
            have dl := hp.lt
            go_wp2_with fail
            refine (alive3 _).mono ?_
            rintro e W9 ⟨rfl, bq⟩
            have B := B.trans (bq.mono B.size)
            clear bq
            go_wp2_with fail
            go_ret
            exact ⟨rfl, B⟩
          · obtain rfl : z = false := by rw [hz2, decide_eq_false (by omega)]
            subst q2
            subst q4
            clear hz2 Hmc
            have Hq1 := Lib.hid q1
            have Hq3 := Lib.hid q3
            clear q1 q3
            go_wp2_with fail
            go_quiet (first | (go_at_call 12; exact Calls.quiet_of_same ((mantissa64 _).mono fun _ _ h => ⟨h.1, h.2.symm⟩)) | (go_at_call 11; exact Calls.quiet_of_same ((rhigh64 _).mono fun _ _ h => ⟨h.1, h.2.symm⟩)))
            rename_i nq
            have hp := hp.drewN nq
            have hr := hr.drewN nq
            have B := below_drewN B nq
            clear c0 c1 c2 cl d0 d1 dl
            generalize wc.drewN nq = wd at *
            obtain ⟨d0, d1⟩ := block2 hp
            obtain ⟨c0, c1, c2⟩ := block3 hr
            have cl := hr.lt
            have dl := hp.lt
            by_cases hs0 : s0 = false
            · obtain rfl : b = (wb : Int) := by
                rw [Hq3.out, if_neg (fun h => by have h2 := Hsn.out; rw [hs0] at h2; exact of_decide_eq_false h2 h.1), Nat.add_zero]
              go_wp2_with fail
              refine (alive3 _).mono ?_
              rintro e W9 ⟨rfl, bq⟩
              have hp := hp.below bq
              have B := B.trans (bq.mono B.size)
              clear bq c0 c1 c2 cl d0 d1 dl
              obtain ⟨d0, d1⟩ := block2 hp
              have dl := hp.lt
              have hee : (ex == ex) = true := by simp
              have hbb : ((wb : Int) == (wb : Int)) = true := by simp
              go_wp2_with fail
              go_ret
              exact ⟨rfl, B⟩
            · have hs0 : s0 = true := by simpa using hs0
              by_cases hwb : wb = 0
              · subst hwb
                obtain rfl : b = 0 := by
                  rw [Hq3.out, if_neg (fun h => h.2 rfl)]
                  rfl
                go_wp2_with fail
                refine (alive3 _).mono ?_
                rintro e W9 ⟨rfl, bq⟩
                have hp := hp.below bq
                have B := B.trans (bq.mono B.size)
                clear bq c0 c1 c2 cl d0 d1 dl
                obtain ⟨d0, d1⟩ := block2 hp
                have dl := hp.lt
                have hee : (ex == ex) = true := by simp
                go_wp2_with fail
                go_ret
                exact ⟨rfl, B⟩
              · have hneg : x.num < 0 := of_decide_eq_true (Hsn.out.trans hs0)
                have hbv : b = (wb : Int) + 9223372036854775808 := by
                  rw [Hq3.out, if_pos ⟨hneg, hwb⟩]
                  omega
                have hor := or_63 (x := (wb : Int)) (by omega) (by have := Hq1.out; omega)
                have hz0 : ((wb : Int) == 0) = false := by rw [beq_eq_false_iff_ne]; omega
                have hz1 : ((wb : Int) != 0) = true := by rw [bne, hz0]; rfl
                clear Hq3 hneg
                go_wp2_with fail
                clear c0 c1 c2 cl d0 d1 dl
                have D := (Below.refl wd.heap.size wd).drew
                have hp := hp.below D
                have hr := hr.below D
                have B := B.drew
                clear D
                obtain ⟨d0, d1⟩ := block2 hp
                obtain ⟨c0, c1, c2⟩ := block3 hr
                have cl := hr.lt
                have dl := hp.lt
                have df := hp.free 0
                go_region_with ((go_at_call 13; refine (high64 _).mono ?_; rintro e W10 ⟨rfl, rfl⟩))
                all_goals
                  have hp := hp.set 0 (.int .u64 ((wb : Int) + 9223372036854775808))
                  have B := B.setCell (p := ⟨p, 0, none⟩) hpw (.int .u64 ((wb : Int) + 9223372036854775808))
                  simp at hp
                  clear c0 c1 c2 cl d0 d1 dl df hr
                  go_wp2_with fail
                  refine (alive3 _).mono ?_
                  rintro e W9 ⟨rfl, bq⟩
                  have hp := hp.below bq
                  have B := B.trans (bq.mono B.size)
                  clear bq
                  obtain ⟨d0, d1⟩ := block2 hp
                  have dl := hp.lt
                  have hee : (ex == ex) = true := by simp
                  obtain rfl := hbv
                  have hbb : ((wb : Int) + 9223372036854775808 == (wb : Int) + 9223372036854775808) = true := by simp
                  go_wp2_with fail
                  go_ret
                  exact ⟨rfl, B⟩
      · have HN := Lib.hid (fun (W : World) (B : Below V0.heap.size V0 W) => refR_not (hbx.below B))
        refine (bits_badr _ 64 _ Hsz.out (.inr rfl) hbx).mono ?_
        rintro e W4 ⟨rfl, bq⟩
        have C := bq
        clear HX hbx
        have hr := hr.below bq
        have B := B.trans (bq.mono B.size)
        clear bq c0 c1 c2 cl
        obtain ⟨c0, c1, c2⟩ := block3 hr
        have cl := hr.lt
        go_wp2_with fail
        refine (HN.out _ C).mono ?_
        rintro e W5 ⟨rfl, bq⟩
        clear HN C
        have hr := hr.below bq
        have B := B.trans (bq.mono B.size)
        clear bq c0 c1 c2 cl
        obtain ⟨c0, c1, c2⟩ := block3 hr
        have cl := hr.lt
        go_wp2_with fail
        refine (alive3 _).mono ?_
        rintro e W9 ⟨rfl, bq⟩
        have B := B.trans (bq.mono B.size)
        clear bq
        go_wp2_with fail
        go_ret
        exact ⟨rfl, B⟩
  · have h32 : sz ≠ 32 := fun h => hF (.inl h)
    have h64 : sz ≠ 64 := fun h => hF (.inr h)
    have k32 : (sz == 32) = false := by rw [beq_eq_false_iff_ne]; exact h32
    have k64 : (sz == 64) = false := by rw [beq_eq_false_iff_ne]; exact h64
    clear hF
    refine (bits_none _ sz _ Hsz.out h32 h64 (AnyR.form HX.out)).mono ?_
    rintro e W4 ⟨rfl, bq⟩
    have hr := hr.below bq
    have B := B.trans (bq.mono B.size)
    clear bq c0 c1 c2 cl
    obtain ⟨c0, c1, c2⟩ := block3 hr
    have cl := hr.lt
    go_wp2_with fail
    refine (alive3 _).mono ?_
    rintro e W9 ⟨rfl, bq⟩
    have B := B.trans (bq.mono B.size)
    clear bq
    go_wp2_with fail
    go_ret
    exact ⟨rfl, B⟩
end Go.Proofs.Ytlkadnaoacoicaa
