/- NatParts' walk, by what a row says of its integer. -/
import Derived.Test.YtondjnmpfpfpmaaDoorNatParts
namespace Go.Proofs.YtondjnmpfpfpmaaDoor
open Go.RowKit NM

theorem i64_of_wf {n : Int} (h : (Lit.int .i64 n).wf = true) : -9223372036854775808 ≤ n ∧ n ≤ 9223372036854775807 := by
  simp [Lit.wf, IntKind.min, IntKind.max, IntKind.signed, IntKind.bits] at h
  omega
theorem parts_walk2 (a0 : Option Addr) (len0 cap0 : Nat) (z0 : List Int) (a1 : Option Addr) (len1 cap1 : Nat) (z1 : List Int) (y : Int) (w : World) (w0 : IsRow .u32 w a0 len0 cap0 z0) (w1 : IsRow .u32 w a1 len1 cap1 z1) (w2 : (Lit.int .i64 y).wf = true) (hB : Bases w) :
    Calls Tryd.prog 4 #[.slice a0 len0 cap0, .slice a1 len1 cap1, .int .i64 y] w fun e w' => e = .returned (.bool true) ∧ Below w.heap.size w w' :=
  parts_walk a0 len0 cap0 z0 a1 len1 cap1 z1 y w w0 w1 (i64_of_wf w2).1 (i64_of_wf w2).2 hB
end Go.Proofs.YtondjnmpfpfpmaaDoor
