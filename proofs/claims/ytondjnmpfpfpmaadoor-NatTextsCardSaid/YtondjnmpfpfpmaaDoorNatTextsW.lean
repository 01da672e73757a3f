/- NatTexts' walk, by what a row says of its integers and its text. -/
import Derived.Test.YtondjnmpfpfpmaaDoorNatTexts
namespace Go.Proofs.YtondjnmpfpfpmaaDoor
open Go.RowKit NM

theorem i64_wf {n : Int} (h : (Lit.int .i64 n).wf = true) : -9223372036854775808 ≤ n ∧ n ≤ 9223372036854775807 := by
  simp [Lit.wf, IntKind.min, IntKind.max, IntKind.signed, IntKind.bits] at h
  omega
theorem u64_wf {n : Int} (h : (Lit.int .u64 n).wf = true) : 0 ≤ n ∧ n < 18446744073709551616 := by
  simp [Lit.wf, IntKind.min, IntKind.max, IntKind.signed, IntKind.bits] at h
  omega
theorem texts_walk2 (a0 : Option Addr) (len0 cap0 : Nat) (z0 : List Int) (n : Int) (s : ByteArray) (y : Int) (w : World) (w0 : IsRow .u32 w a0 len0 cap0 z0) (w1 : (Lit.int .u64 n).wf = true) (w2 : s.size ≤ maxLen) (w3 : (Lit.int .i64 y).wf = true) (hB : Bases w) :
    Calls Tryd.prog 5 #[.slice a0 len0 cap0, .int .u64 n, .string s, .int .i64 y] w fun e w' => e = .returned (.bool true) ∧ Below w.heap.size w w' :=
  texts_walk a0 len0 cap0 z0 n s y w w0 (u64_wf w1).1 (u64_wf w1).2 (by unfold maxLen at w2; omega) (i64_wf w3).1 (i64_wf w3).2 hB
end Go.Proofs.YtondjnmpfpfpmaaDoor
