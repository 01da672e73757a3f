/- The reference's Div: the walk. -/
import Derived.Test.YtondjnmpfpfpmaaDoorNatRefDiv
namespace Go.Proofs.YtondjnmpfpfpmaaDoor
open Go.RowKit NM

/-- The two blocks that Div makes for itself. -/
structure DivAt (w wr : World) (q r : ByteArray) : Prop where
  out : wr.heap[w.heap.size]? = some (.cells #[.string ⟨#[]⟩, .string ⟨#[]⟩] 43 (0, 0))
  own : wr.heap[w.heap.size + 1]? = some (.cells #[.string q, .string r] 43 (0, 0))
  below : Below w.heap.size w wr

/-- The text's one byte at a place. -/
theorem dstr_one {ds : List Int} {k i : Nat} (hi : i < ds.length) (hk : k + 1 + i = ds.length) : (dstr ds).extract k (k + 1) = ⟨#[b8 ds[i]]⟩ := by
  have hs := dstr_size ds
  apply ByteArray.ext
  rw [ByteArray.data_extract]
  apply Array.ext
  · have : (dstr ds).data.size = ds.length := hs
    simp [this]
    omega
  · intro j h1 h2
    have hj : j = 0 := by simpa using h2
    subst hj
    simp [dstr, strOfNums, b8]
    have e : ds.length - 1 - k = i := by omega
    simp only [e]

theorem DivAt.cellR {w wr : World} {q r : ByteArray} (h : DivAt w wr q r) : wr.cell? ⟨w.heap.size + 1, 1, none⟩ = some (.string r) := by simp [World.cell?, h.own]
theorem DivAt.cellQ {w wr : World} {q r : ByteArray} (h : DivAt w wr q r) : wr.cell? ⟨w.heap.size + 1, 0, none⟩ = some (.string q) := by simp [World.cell?, h.own]
theorem DivAt.free {w wr : World} {q r : ByteArray} (h : DivAt w wr q r) (k : Nat) : wr.frozen? ⟨w.heap.size + 1, k, none⟩ = false := by simp [World.frozen?, h.own]
theorem DivAt.later {w wr w2 : World} {q r : ByteArray} (h : DivAt w wr q r) (hb : Below wr.heap.size wr w2) : DivAt w w2 q r :=
  ⟨by rw [hb.block _ (lt_of_block h.out)]; exact h.out, by rw [hb.block _ (lt_of_block h.own)]; exact h.own, h.below.trans (hb.mono h.below.size)⟩

end Go.Proofs.YtondjnmpfpfpmaaDoor
