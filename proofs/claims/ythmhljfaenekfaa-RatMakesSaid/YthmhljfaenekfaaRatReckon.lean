/- reckon: what is panicked is told. -/
import Derived.Test.YthmhljfaenekfaaRatDo
import Derived.Defers
import Derived.Recover
import Derived.Laws.Pointers
namespace Go.Proofs.Ythmhljfaenekfaa
open Go.RowKit NM

theorem catch_idle (p q : Addr) (w : World) :
    CallsD Try.prog 66 #[.pointer (some p), .pointer (some q)] .returning w fun e u' w' => e = .returned (.tuple #[]) ∧ u' = .returning ∧ w' = w := by
  refine callsD_of_wpS Try.func66 rfl fun c₀ cs hu => ?_
  apply wpS_seq
  apply wpS_region
  simp [wpOpsS, go_sem, recoverD, hu, Try.ntmps66, Exit.thenS]
  have ht : (#[.pointer (some p), .pointer (some q)] ++ (Array.replicate 12 undef).setIfInBounds 3 Value.nilIface : Array Value) = #[.pointer (some p), .pointer (some q), undef, undef, undef, .nilIface, undef, undef, undef, undef, undef, undef, undef, undef] := rfl
  rw [ht]
  refine wpS_of_wp ?_
  go_wp2_with fail
  clear ht
  cases c₀
  simp_all [bodyPostS, results, Try.results66]

/-- What the deferred closure lays where something was too great. -/
def Caught (B : Nat) (w : World) (bp bq : Nat) (w' : World) : Prop :=
  BlockAt w' bp #[.bool false, .slice none 0 0, .slice none 0 0] 25 ∧ BlockAt w' bq #[.int .i64 2] 27 ∧ Below B w w'

theorem caught_world (B bp bq : Nat) (w : World) (hp : BlockAt w bp #[.bool false, .slice none 0 0, .slice none 0 0] 25) (hq : BlockAt w bq #[.int .i64 0] 27) (hne : bp ≠ bq) (hB1 : B ≤ bp) (hB2 : B ≤ bq) :
    Caught B w bp bq (((((w.setCell ⟨bp, 0, none⟩ (.bool false)).setCell ⟨bp, 1, none⟩ (.slice none 0 0)).setCell ⟨bp, 2, none⟩ (.slice none 0 0)).setCell ⟨bq, 0, none⟩ (.int .i64 2)).alloc (.cells #[.int .i64 2] 82)).drew := by
  have p1 := (((hp.set 0 (.bool false)).set 1 (.slice none 0 0)).set 2 (.slice none 0 0)).other hne 0 (.int .i64 2)
  have q1 := ((((hq.other hne.symm 0 (.bool false)).other hne.symm 1 (.slice none 0 0)).other hne.symm 2 (.slice none 0 0))).set 0 (.int .i64 2)
  have bl := ((((Below.refl B w).setCell (p := ⟨bp, 0, none⟩) hB1 (.bool false)).setCell (p := ⟨bp, 1, none⟩) hB1 (.slice none 0 0)).setCell (p := ⟨bp, 2, none⟩) hB1 (.slice none 0 0)).setCell (p := ⟨bq, 0, none⟩) hB2 (.int .i64 2)
  have hs := bl.size
  generalize (((w.setCell ⟨bp, 0, none⟩ (.bool false)).setCell ⟨bp, 1, none⟩ (.slice none 0 0)).setCell ⟨bp, 2, none⟩ (.slice none 0 0)).setCell ⟨bq, 0, none⟩ (.int .i64 2) = X at *
  have b5 := ((Below.refl X.heap.size X).alloc (Nat.le_refl _) (.cells #[.int .i64 2] 82)).drew
  refine ⟨p1.below b5, q1.below b5, bl.trans (b5.mono ?_)⟩
  have := p1.lt
  omega

set_option maxHeartbeats 1600000 in
set_option maxRecDepth 100000 in
theorem catch_over (B bp bq : Nat) (older : List PanicEntry) (w : World) (hp : BlockAt w bp #[.bool false, .slice none 0 0, .slice none 0 0] 25) (hq : BlockAt w bq #[.int .i64 0] 27) (hne : bp ≠ bq) (hB1 : B ≤ bp) (hB2 : B ≤ bq) :
    CallsD Try.prog 66 #[.pointer (some ⟨bp, 0, none⟩), .pointer (some ⟨bq, 0, none⟩)] (.panicking ({ v := faultOver, recovered := false } :: older)) w fun e u' w' =>
      e = .returned (.tuple #[]) ∧ u' = .panicking ({ v := faultOver, recovered := true } :: older) ∧ Caught B w bp bq w' := by
  unfold faultOver
  obtain ⟨a0, a1, a2⟩ := block3 hp
  have e0 : w.cell? ⟨bq, 0, none⟩ = some (.int .i64 0) := hq.cell 0
  have f0 := hp.free 0
  have f1 := hp.free 1
  have f2 := hp.free 2
  have k0 := hq.free 0
  have lp := hp.lt
  have lq := hq.lt
  have hne2 := hne.symm
  have hta : ∀ w : World, (Instr.typeAssert (.iface 82 (.agg #[.int .i64 2])) 20 82 true).run Try.prog w = .ok (.tuple #[.agg #[.int .i64 2], .bool true]) w := fun _ => by kernel_rfl
  have HC := Lib.hid (caught_world B bp bq w hp hq hne hB1 hB2)
  refine callsD_of_wpS Try.func66 rfl fun c₀ cs hu => ?_
  apply wpS_seq
  apply wpS_region
  simp [wpOpsS, go_sem, recoverD, hu, Try.ntmps66, Exit.thenS]
  have ht : (#[.pointer (some ⟨bp, 0, none⟩), .pointer (some ⟨bq, 0, none⟩)] ++ (Array.replicate 12 undef).setIfInBounds 3 (Value.iface 82 (.agg #[.int .i64 2])) : Array Value) = #[.pointer (some ⟨bp, 0, none⟩), .pointer (some ⟨bq, 0, none⟩), undef, undef, undef, .iface 82 (.agg #[.int .i64 2]), undef, undef, undef, undef, undef, undef, undef, undef] := rfl
  rw [ht]
  clear ht
  refine wpS_of_wp ?_
  go_wp2_with fail
  go_region
  go_wp2_with fail
  cases c₀
  simp [bodyPostS, results, Try.results66]
  exact HC.out

/-- What reckon tells. -/
def RkPost (over : Prop) (x : Rat) (e : Ending) (w' : World) : Prop :=
  (¬ over ∧ ∃ r, e = .returned (.tuple #[r, .int .i64 0]) ∧ RatN w' r x) ∨ (over ∧ e = .returned (.tuple #[.agg #[.bool false, .slice none 0 0, .slice none 0 0], .int .i64 2]))

theorem reckon_num {w : World} {v : Value} {neg a : Bool} {N D bp : Nat} {o1 o2 : Option Addr} {n1 n2 c1 c2 : Nat} {x : Int} (h : RawN w v neg N D) (hp : BlockAt w bp #[.bool false, .slice none 0 0, .slice none 0 0] 25) (hq : BlockAt w (bp + 1) #[.int .i64 0] 27) :
    RawN ((((w.setCell ⟨bp, 0, none⟩ (.bool a)).setCell ⟨bp, 1, none⟩ (.slice o1 n1 c1)).setCell ⟨bp, 2, none⟩ (.slice o2 n2 c2)).setCell ⟨bp + 1, 0, none⟩ (.int .i64 x)) v neg N D := by
  have h1 := RawN.set3 (a := a) (o1 := o1) (n1 := n1) (c1 := c1) (o2 := o2) (n2 := n2) (c2 := c2) h hp
  have q1 := ((hq.other (show bp + 1 ≠ bp by omega) 0 (.bool a)).other (show bp + 1 ≠ bp by omega) 1 (.slice o1 n1 c1)).other (show bp + 1 ≠ bp by omega) 2 (.slice o2 n2 c2)
  refine h1.set_other q1 (fun k y hk => ?_) 0 _
  match k with
  | 0 => simp at hk
  | k + 1 => simp at hk

set_option maxHeartbeats 1600000 in
set_option maxRecDepth 100000 in
theorem reckon_add (pa pb : Nat) (over : Prop) (x : Rat) (w : World)
    (hdo : ∀ W, Below w.heap.size w W → Calls Try.prog 46 #[.pointer (some ⟨pa, 0, none⟩), .pointer (some ⟨pb, 0, none⟩)] W fun e w' => DoPost over x e w' ∧ Below W.heap.size W w') :
    Calls Try.prog 45 #[.func (.func 46) #[] #[.pointer (some ⟨pa, 0, none⟩), .pointer (some ⟨pb, 0, none⟩)]] w fun e w' => RkPost over x e w' ∧ Below w.heap.size w w' := by
  have hmf : ∀ (fn : Fn) (first cap : Array Value) (w : World), (Instr.makeFunc fn first cap).run Try.prog w = .ok (.func fn first cap) w := fun _ _ _ _ => rfl
  have b1 : Below w.heap.size w (w.alloc (.cells #[.bool false, .slice none 0 0, .slice none 0 0] 25)) := (Below.refl _ _).alloc (Nat.le_refl _) _
  have b2 : Below (w.alloc (.cells #[.bool false, .slice none 0 0, .slice none 0 0] 25)).heap.size (w.alloc (.cells #[.bool false, .slice none 0 0, .slice none 0 0] 25)) ((w.alloc (.cells #[.bool false, .slice none 0 0, .slice none 0 0] 25)).alloc (.cells #[.int .i64 0] 27)) := (Below.refl _ _).alloc (Nat.le_refl _) _
  have b0 := b1.trans (b2.mono b1.size)
  have hp := (BlockAt.new w #[.bool false, .slice none 0 0, .slice none 0 0] 25).below b2
  have hq := BlockAt.new (w.alloc (.cells #[.bool false, .slice none 0 0, .slice none 0 0] 25)) #[.int .i64 0] 27
  rw [show (w.alloc (.cells #[.bool false, .slice none 0 0, .slice none 0 0] 25)).heap.size = w.heap.size + 1 by simp] at hq
  have HD := Lib.hid (hdo _ b0)
  clear b1 b2 hdo
  go_enter_defers Try.func45, Try.ntmps45
  go_wp2_with fail
  generalize (w.alloc (.cells #[.bool false, .slice none 0 0, .slice none 0 0] 25)).alloc (.cells #[.int .i64 0] 27) = W at *
  refine HD.out.mono ?_
  rintro e W2 ⟨hd, bq⟩
  have hp := hp.below bq
  have hq := hq.below bq
  have B := b0.trans (bq.mono b0.size)
  clear bq HD b0
  rcases hd with ⟨hno, r, rfl, hrat⟩ | ⟨hov, rfl⟩
  · obtain ⟨s_, o1, m1, k1, o2, m2, k2, rfl⟩ := RawN.form hrat
    have f0 := hp.free 0
    have f1 := hp.free 1
    have f2 := hp.free 2
    have g0 := hp.cell 0
    have g1 := hp.cell 1
    have g2 := hp.cell 2
    have e0 := hq.cell 0
    have k0 := hq.free 0
    simp at g0 g1 g2 e0
    have Hr := Lib.hid hrat
    have Hno := Lib.hid hno
    clear hrat hno
    go_wp2_with fail
    refine leaves_cons (f := 66) (args := #[.pointer (some ⟨w.heap.size, 0, none⟩), .pointer (some ⟨w.heap.size + 1, 0, none⟩)]) (by simp) (by simp [go_sem]) ?_
    refine (catch_idle _ _ _).mono ?_
    rintro e u' w'' ⟨rfl, rfl, rfl⟩
    simp [Leaves, settle, results, Try.results45, go_sem, g0, g1, g2, e0]
    exact ⟨.inl ⟨Hno.out, _, rfl, reckon_num Hr.out hp hq⟩, (((B.setCell (by simp) _).setCell (by simp) _).setCell (by simp) _).setCell (by simp) _⟩
  · have Hov := Lib.hid hov
    clear hov
    go_wp2_with fail
    refine leaves_cons (f := 66) (args := #[.pointer (some ⟨w.heap.size, 0, none⟩), .pointer (some ⟨w.heap.size + 1, 0, none⟩)]) (by simp) (by simp [go_sem]) ?_
    refine (catch_over w.heap.size w.heap.size (w.heap.size + 1) [] W2 hp hq (by omega) (Nat.le_refl _) (by omega)).mono ?_
    rintro e u' w'' ⟨rfl, rfl, hcp, hcq, hbl⟩
    have g0 := hcp.cell 0
    have g1 := hcp.cell 1
    have g2 := hcp.cell 2
    have e0 := hcq.cell 0
    simp at g0 g1 g2 e0
    simp [Leaves, settle, results, Try.results45, go_sem, g0, g1, g2, e0]
    exact ⟨.inr ⟨Hov.out, rfl⟩, B.trans hbl⟩
set_option maxHeartbeats 1600000 in
set_option maxRecDepth 100000 in
theorem reckon_sub (pa pb : Nat) (over : Prop) (x : Rat) (w : World)
    (hdo : ∀ W, Below w.heap.size w W → Calls Try.prog 48 #[.pointer (some ⟨pa, 0, none⟩), .pointer (some ⟨pb, 0, none⟩)] W fun e w' => DoPost over x e w' ∧ Below W.heap.size W w') :
    Calls Try.prog 45 #[.func (.func 48) #[] #[.pointer (some ⟨pa, 0, none⟩), .pointer (some ⟨pb, 0, none⟩)]] w fun e w' => RkPost over x e w' ∧ Below w.heap.size w w' := by
  have hmf : ∀ (fn : Fn) (first cap : Array Value) (w : World), (Instr.makeFunc fn first cap).run Try.prog w = .ok (.func fn first cap) w := fun _ _ _ _ => rfl
  have b1 : Below w.heap.size w (w.alloc (.cells #[.bool false, .slice none 0 0, .slice none 0 0] 25)) := (Below.refl _ _).alloc (Nat.le_refl _) _
  have b2 : Below (w.alloc (.cells #[.bool false, .slice none 0 0, .slice none 0 0] 25)).heap.size (w.alloc (.cells #[.bool false, .slice none 0 0, .slice none 0 0] 25)) ((w.alloc (.cells #[.bool false, .slice none 0 0, .slice none 0 0] 25)).alloc (.cells #[.int .i64 0] 27)) := (Below.refl _ _).alloc (Nat.le_refl _) _
  have b0 := b1.trans (b2.mono b1.size)
  have hp := (BlockAt.new w #[.bool false, .slice none 0 0, .slice none 0 0] 25).below b2
  have hq := BlockAt.new (w.alloc (.cells #[.bool false, .slice none 0 0, .slice none 0 0] 25)) #[.int .i64 0] 27
  rw [show (w.alloc (.cells #[.bool false, .slice none 0 0, .slice none 0 0] 25)).heap.size = w.heap.size + 1 by simp] at hq
  have HD := Lib.hid (hdo _ b0)
  clear b1 b2 hdo
  go_enter_defers Try.func45, Try.ntmps45
  go_wp2_with fail
  generalize (w.alloc (.cells #[.bool false, .slice none 0 0, .slice none 0 0] 25)).alloc (.cells #[.int .i64 0] 27) = W at *
  refine HD.out.mono ?_
  rintro e W2 ⟨hd, bq⟩
  have hp := hp.below bq
  have hq := hq.below bq
  have B := b0.trans (bq.mono b0.size)
  clear bq HD b0
  rcases hd with ⟨hno, r, rfl, hrat⟩ | ⟨hov, rfl⟩
  · obtain ⟨s_, o1, m1, k1, o2, m2, k2, rfl⟩ := RawN.form hrat
    have f0 := hp.free 0
    have f1 := hp.free 1
    have f2 := hp.free 2
    have g0 := hp.cell 0
    have g1 := hp.cell 1
    have g2 := hp.cell 2
    have e0 := hq.cell 0
    have k0 := hq.free 0
    simp at g0 g1 g2 e0
    have Hr := Lib.hid hrat
    have Hno := Lib.hid hno
    clear hrat hno
    go_wp2_with fail
    refine leaves_cons (f := 66) (args := #[.pointer (some ⟨w.heap.size, 0, none⟩), .pointer (some ⟨w.heap.size + 1, 0, none⟩)]) (by simp) (by simp [go_sem]) ?_
    refine (catch_idle _ _ _).mono ?_
    rintro e u' w'' ⟨rfl, rfl, rfl⟩
    simp [Leaves, settle, results, Try.results45, go_sem, g0, g1, g2, e0]
    exact ⟨.inl ⟨Hno.out, _, rfl, reckon_num Hr.out hp hq⟩, (((B.setCell (by simp) _).setCell (by simp) _).setCell (by simp) _).setCell (by simp) _⟩
  · have Hov := Lib.hid hov
    clear hov
    go_wp2_with fail
    refine leaves_cons (f := 66) (args := #[.pointer (some ⟨w.heap.size, 0, none⟩), .pointer (some ⟨w.heap.size + 1, 0, none⟩)]) (by simp) (by simp [go_sem]) ?_
    refine (catch_over w.heap.size w.heap.size (w.heap.size + 1) [] W2 hp hq (by omega) (Nat.le_refl _) (by omega)).mono ?_
    rintro e u' w'' ⟨rfl, rfl, hcp, hcq, hbl⟩
    have g0 := hcp.cell 0
    have g1 := hcp.cell 1
    have g2 := hcp.cell 2
    have e0 := hcq.cell 0
    simp at g0 g1 g2 e0
    simp [Leaves, settle, results, Try.results45, go_sem, g0, g1, g2, e0]
    exact ⟨.inr ⟨Hov.out, rfl⟩, B.trans hbl⟩
set_option maxHeartbeats 1600000 in
set_option maxRecDepth 100000 in
theorem reckon_mul (pa pb : Nat) (over : Prop) (x : Rat) (w : World)
    (hdo : ∀ W, Below w.heap.size w W → Calls Try.prog 49 #[.pointer (some ⟨pa, 0, none⟩), .pointer (some ⟨pb, 0, none⟩)] W fun e w' => DoPost over x e w' ∧ Below W.heap.size W w') :
    Calls Try.prog 45 #[.func (.func 49) #[] #[.pointer (some ⟨pa, 0, none⟩), .pointer (some ⟨pb, 0, none⟩)]] w fun e w' => RkPost over x e w' ∧ Below w.heap.size w w' := by
  have hmf : ∀ (fn : Fn) (first cap : Array Value) (w : World), (Instr.makeFunc fn first cap).run Try.prog w = .ok (.func fn first cap) w := fun _ _ _ _ => rfl
  have b1 : Below w.heap.size w (w.alloc (.cells #[.bool false, .slice none 0 0, .slice none 0 0] 25)) := (Below.refl _ _).alloc (Nat.le_refl _) _
  have b2 : Below (w.alloc (.cells #[.bool false, .slice none 0 0, .slice none 0 0] 25)).heap.size (w.alloc (.cells #[.bool false, .slice none 0 0, .slice none 0 0] 25)) ((w.alloc (.cells #[.bool false, .slice none 0 0, .slice none 0 0] 25)).alloc (.cells #[.int .i64 0] 27)) := (Below.refl _ _).alloc (Nat.le_refl _) _
  have b0 := b1.trans (b2.mono b1.size)
  have hp := (BlockAt.new w #[.bool false, .slice none 0 0, .slice none 0 0] 25).below b2
  have hq := BlockAt.new (w.alloc (.cells #[.bool false, .slice none 0 0, .slice none 0 0] 25)) #[.int .i64 0] 27
  rw [show (w.alloc (.cells #[.bool false, .slice none 0 0, .slice none 0 0] 25)).heap.size = w.heap.size + 1 by simp] at hq
  have HD := Lib.hid (hdo _ b0)
  clear b1 b2 hdo
  go_enter_defers Try.func45, Try.ntmps45
  go_wp2_with fail
  generalize (w.alloc (.cells #[.bool false, .slice none 0 0, .slice none 0 0] 25)).alloc (.cells #[.int .i64 0] 27) = W at *
  refine HD.out.mono ?_
  rintro e W2 ⟨hd, bq⟩
  have hp := hp.below bq
  have hq := hq.below bq
  have B := b0.trans (bq.mono b0.size)
  clear bq HD b0
  rcases hd with ⟨hno, r, rfl, hrat⟩ | ⟨hov, rfl⟩
  · obtain ⟨s_, o1, m1, k1, o2, m2, k2, rfl⟩ := RawN.form hrat
    have f0 := hp.free 0
    have f1 := hp.free 1
    have f2 := hp.free 2
    have g0 := hp.cell 0
    have g1 := hp.cell 1
    have g2 := hp.cell 2
    have e0 := hq.cell 0
    have k0 := hq.free 0
    simp at g0 g1 g2 e0
    have Hr := Lib.hid hrat
    have Hno := Lib.hid hno
    clear hrat hno
    go_wp2_with fail
    refine leaves_cons (f := 66) (args := #[.pointer (some ⟨w.heap.size, 0, none⟩), .pointer (some ⟨w.heap.size + 1, 0, none⟩)]) (by simp) (by simp [go_sem]) ?_
    refine (catch_idle _ _ _).mono ?_
    rintro e u' w'' ⟨rfl, rfl, rfl⟩
    simp [Leaves, settle, results, Try.results45, go_sem, g0, g1, g2, e0]
    exact ⟨.inl ⟨Hno.out, _, rfl, reckon_num Hr.out hp hq⟩, (((B.setCell (by simp) _).setCell (by simp) _).setCell (by simp) _).setCell (by simp) _⟩
  · have Hov := Lib.hid hov
    clear hov
    go_wp2_with fail
    refine leaves_cons (f := 66) (args := #[.pointer (some ⟨w.heap.size, 0, none⟩), .pointer (some ⟨w.heap.size + 1, 0, none⟩)]) (by simp) (by simp [go_sem]) ?_
    refine (catch_over w.heap.size w.heap.size (w.heap.size + 1) [] W2 hp hq (by omega) (Nat.le_refl _) (by omega)).mono ?_
    rintro e u' w'' ⟨rfl, rfl, hcp, hcq, hbl⟩
    have g0 := hcp.cell 0
    have g1 := hcp.cell 1
    have g2 := hcp.cell 2
    have e0 := hcq.cell 0
    simp at g0 g1 g2 e0
    simp [Leaves, settle, results, Try.results45, go_sem, g0, g1, g2, e0]
    exact ⟨.inr ⟨Hov.out, rfl⟩, B.trans hbl⟩
set_option maxHeartbeats 1600000 in
set_option maxRecDepth 100000 in
theorem reckon_quo (pa pb : Nat) (over : Prop) (x : Rat) (w : World)
    (hdo : ∀ W, Below w.heap.size w W → Calls Try.prog 51 #[.pointer (some ⟨pa, 0, none⟩), .pointer (some ⟨pb, 0, none⟩)] W fun e w' => DoPost over x e w' ∧ Below W.heap.size W w') :
    Calls Try.prog 45 #[.func (.func 51) #[] #[.pointer (some ⟨pa, 0, none⟩), .pointer (some ⟨pb, 0, none⟩)]] w fun e w' => RkPost over x e w' ∧ Below w.heap.size w w' := by
  have hmf : ∀ (fn : Fn) (first cap : Array Value) (w : World), (Instr.makeFunc fn first cap).run Try.prog w = .ok (.func fn first cap) w := fun _ _ _ _ => rfl
  have b1 : Below w.heap.size w (w.alloc (.cells #[.bool false, .slice none 0 0, .slice none 0 0] 25)) := (Below.refl _ _).alloc (Nat.le_refl _) _
  have b2 : Below (w.alloc (.cells #[.bool false, .slice none 0 0, .slice none 0 0] 25)).heap.size (w.alloc (.cells #[.bool false, .slice none 0 0, .slice none 0 0] 25)) ((w.alloc (.cells #[.bool false, .slice none 0 0, .slice none 0 0] 25)).alloc (.cells #[.int .i64 0] 27)) := (Below.refl _ _).alloc (Nat.le_refl _) _
  have b0 := b1.trans (b2.mono b1.size)
  have hp := (BlockAt.new w #[.bool false, .slice none 0 0, .slice none 0 0] 25).below b2
  have hq := BlockAt.new (w.alloc (.cells #[.bool false, .slice none 0 0, .slice none 0 0] 25)) #[.int .i64 0] 27
  rw [show (w.alloc (.cells #[.bool false, .slice none 0 0, .slice none 0 0] 25)).heap.size = w.heap.size + 1 by simp] at hq
  have HD := Lib.hid (hdo _ b0)
  clear b1 b2 hdo
  go_enter_defers Try.func45, Try.ntmps45
  go_wp2_with fail
  generalize (w.alloc (.cells #[.bool false, .slice none 0 0, .slice none 0 0] 25)).alloc (.cells #[.int .i64 0] 27) = W at *
  refine HD.out.mono ?_
  rintro e W2 ⟨hd, bq⟩
  have hp := hp.below bq
  have hq := hq.below bq
  have B := b0.trans (bq.mono b0.size)
  clear bq HD b0
  rcases hd with ⟨hno, r, rfl, hrat⟩ | ⟨hov, rfl⟩
  · obtain ⟨s_, o1, m1, k1, o2, m2, k2, rfl⟩ := RawN.form hrat
    have f0 := hp.free 0
    have f1 := hp.free 1
    have f2 := hp.free 2
    have g0 := hp.cell 0
    have g1 := hp.cell 1
    have g2 := hp.cell 2
    have e0 := hq.cell 0
    have k0 := hq.free 0
    simp at g0 g1 g2 e0
    have Hr := Lib.hid hrat
    have Hno := Lib.hid hno
    clear hrat hno
    go_wp2_with fail
    refine leaves_cons (f := 66) (args := #[.pointer (some ⟨w.heap.size, 0, none⟩), .pointer (some ⟨w.heap.size + 1, 0, none⟩)]) (by simp) (by simp [go_sem]) ?_
    refine (catch_idle _ _ _).mono ?_
    rintro e u' w'' ⟨rfl, rfl, rfl⟩
    simp [Leaves, settle, results, Try.results45, go_sem, g0, g1, g2, e0]
    exact ⟨.inl ⟨Hno.out, _, rfl, reckon_num Hr.out hp hq⟩, (((B.setCell (by simp) _).setCell (by simp) _).setCell (by simp) _).setCell (by simp) _⟩
  · have Hov := Lib.hid hov
    clear hov
    go_wp2_with fail
    refine leaves_cons (f := 66) (args := #[.pointer (some ⟨w.heap.size, 0, none⟩), .pointer (some ⟨w.heap.size + 1, 0, none⟩)]) (by simp) (by simp [go_sem]) ?_
    refine (catch_over w.heap.size w.heap.size (w.heap.size + 1) [] W2 hp hq (by omega) (Nat.le_refl _) (by omega)).mono ?_
    rintro e u' w'' ⟨rfl, rfl, hcp, hcq, hbl⟩
    have g0 := hcp.cell 0
    have g1 := hcp.cell 1
    have g2 := hcp.cell 2
    have e0 := hcq.cell 0
    simp at g0 g1 g2 e0
    simp [Leaves, settle, results, Try.results45, go_sem, g0, g1, g2, e0]
    exact ⟨.inr ⟨Hov.out, rfl⟩, B.trans hbl⟩
end Go.Proofs.Ythmhljfaenekfaa
