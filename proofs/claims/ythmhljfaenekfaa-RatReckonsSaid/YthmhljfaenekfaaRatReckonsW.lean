/- The law RatReckons: every way. -/
import Derived.Test.YthmhljfaenekfaaRatRkBadx
import Derived.Test.YthmhljfaenekfaaRatRkBady
import Derived.Test.YthmhljfaenekfaaRatRkZero
import Derived.Test.YthmhljfaenekfaaRatRkGood
namespace Go.Proofs.Ythmhljfaenekfaa
open Go.RowKit NM

theorem reckons_walk (s0 : Bool) (a0 : Option Addr) (len0 cap0 : Nat) (z0 : List Int) (a1 : Option Addr) (len1 cap1 : Nat) (z1 : List Int) (t0 : Bool) (a2 : Option Addr) (len2 cap2 : Nat) (z2 : List Int) (a3 : Option Addr) (len3 cap3 : Nat) (z3 : List Int) (w : World)
    (w0 : IsRow .u32 w a0 len0 cap0 z0) (w1 : IsRow .u32 w a1 len1 cap1 z1) (w2 : IsRow .u32 w a2 len2 cap2 z2) (w3 : IsRow .u32 w a3 len3 cap3 z3) :
    Calls Try.prog 4 #[.agg #[.bool s0, .slice a0 len0 cap0, .slice a1 len1 cap1], .agg #[.bool t0, .slice a2 len2 cap2, .slice a3 len3 cap3]] w fun e w' => e = .returned (.bool true) ∧ Below w.heap.size w w' := by
  have F := fun (W : World) (B : Below w.heap.size w W) => fewT s0 a0 len0 cap0 z0 a1 len1 cap1 z1 W (w0.later B) (w1.later B)
  have G := fun (W : World) (B : Below w.heap.size w W) => fewT t0 a2 len2 cap2 z2 a3 len3 cap3 z3 W (w2.later B) (w3.later B)
  rcases rat_pure s0 (z0.take (min (len0 : Int) 18).toNat) (z1.take (min (len1 : Int) 18).toNat) with ⟨x, hx⟩ | hbx
  · rcases rat_pure t0 (z2.take (min (len2 : Int) 18).toNat) (z3.take (min (len3 : Int) 18).toNat) with ⟨y, hy⟩ | hby
    · by_cases h0 : y = 0
      · exact reckons_zero s0 a0 len0 cap0 a1 len1 cap1 t0 a2 len2 cap2 a3 len3 cap3 _ _ _ _ x y w F G hx hy h0
      · exact reckons_good s0 a0 len0 cap0 a1 len1 cap1 t0 a2 len2 cap2 a3 len3 cap3 _ _ _ _ x y w F G hx hy h0
    · exact reckons_bady s0 a0 len0 cap0 a1 len1 cap1 t0 a2 len2 cap2 a3 len3 cap3 _ _ _ _ x w F G hx hby
  · exact reckons_badx s0 a0 len0 cap0 a1 len1 cap1 t0 a2 len2 cap2 a3 len3 cap3 _ _ _ _ w F G hbx
end Go.Proofs.Ythmhljfaenekfaa
