import Derived.Test.YtkmnfkhchcoamaaGreatDoorTypPAdd
import Derived.Laws.MakeOwn
import Derived.Laws.OwnMore
import Derived.Deep.OwnRows
/- A type's text, as a function. -/
namespace Go.Proofs.YtkmnfkhchcoamaaGreatDoor
open Go.RowKit
set_option linter.unusedSimpArgs false
set_option linter.unusedVariables false

def itoaS (n : Int) : ByteArray := ⟨(Lib.itoa n).toArray⟩
/-- What stands in an interface's text. -/
def partF (w k : ByteArray) : ByteArray := w ++ ⟨(Lib.trimPrefix k.data.toList [102, 117, 110, 99]).toArray⟩
def methodsF (t : Ty) (ks : List ByteArray) : List ByteArray := (if t.n % 2 = 1 then [⟨#[99, 111, 109, 112, 97, 114, 97, 98, 108, 101]⟩] else []) ++ ((t.words.zip ks).filter (fun p => !markB p.1)).map (fun p => partF p.1 p.2)
def termsF (t : Ty) (ks : List ByteArray) : List ByteArray := ((t.words.zip ks).filter (fun p => markB p.1)).map (fun p => if p.1.toList = [61] then p.2 else p.1 ++ p.2)
def partsF (t : Ty) (ks : List ByteArray) : List ByteArray :=
  if t.n < 2 then methodsF t ks else if termsF t ks = [] then methodsF t ks ++ [⟨#[110, 111, 110, 101]⟩] else methodsF t ks ++ [joinT (termsF t ks) ⟨#[32, 124, 32]⟩]
/-- A type's text, told its kids'. -/
def textF (t : Ty) (ks : List ByteArray) : ByteArray :=
  if t.kind = 1 then ⟨#[42]⟩ ++ ks.getD 0 ⟨#[]⟩
  else if t.kind = 2 then ⟨#[91, 93]⟩ ++ ks.getD 0 ⟨#[]⟩
  else if t.kind = 3 then ((⟨#[91]⟩ ++ itoaS t.n) ++ ⟨#[93]⟩) ++ ks.getD 0 ⟨#[]⟩
  else if t.kind = 4 then ((⟨#[109, 97, 112, 91]⟩ ++ ks.getD 0 ⟨#[]⟩) ++ ⟨#[93]⟩) ++ ks.getD 1 ⟨#[]⟩
  else if t.kind = 5 then joinT (((⟨#[102, 117, 110, 99, 40]⟩ ++ joinT (ks.take (ks.length - t.n.toNat)) ⟨#[44, 32]⟩) ++ ⟨#[41]⟩) :: ks.drop (ks.length - t.n.toNat)) ⟨#[32]⟩
  else if t.kind = 6 then (⟨#[115, 116, 114, 117, 99, 116, 123]⟩ ++ joinT (List.zipWith (fun w k => (w ++ ⟨#[32]⟩) ++ k) t.words ks) ⟨#[59, 32]⟩) ++ ⟨#[125]⟩
  else if t.kind = 7 then (⟨#[105, 110, 116, 101, 114, 102, 97, 99, 101, 123]⟩ ++ joinT (partsF t ks) ⟨#[59, 32]⟩) ++ ⟨#[125]⟩
  else if t.kind = 9 then ⟨#[35]⟩ ++ itoaS t.n
  else if 0 < ks.length then ((t.name ++ ⟨#[91]⟩) ++ joinT ks ⟨#[44, 32]⟩) ++ ⟨#[93]⟩
  else t.name
def kidsT (T : Nat → ByteArray) (t : Ty) : List ByteArray := t.kids.map fun k => T k.toNat
theorem kidsT_len (T : Nat → ByteArray) (t : Ty) : (kidsT T t).length = t.kids.length := by unfold kidsT; simp
theorem kidsT_get {T : Nat → ByteArray} {t : Ty} {j : Nat} (h : j < t.kids.length) : (kidsT T t).getD j ⟨#[]⟩ = T (t.kids.getD j 0).toNat := by
  rw [getD_of (by rw [kidsT_len]; exact h), getD_of h]
  simp [kidsT]
/-- Which types' texts are needed: behind c rounds from i down. -/
def kmark (nd : Nat → Bool) (j : Nat) (ks : List Int) : Nat → Bool := fun m => nd m || (nd j && decide ((m : Int) ∈ ks))
def needD (f : Nat → Ty) (i : Nat) : Nat → Nat → Bool
  | 0 => fun m => decide (m = i)
  | c + 1 => kmark (needD f i c) (i - c) (f (i - c)).kids
theorem kmark_nil (nd : Nat → Bool) (j : Nat) : kmark nd j [] = nd := by
  funext m
  unfold kmark
  simp
theorem kmark_self (nd : Nat → Bool) (j : Nat) (ks : List Int) : kmark nd j ks j = nd j := by
  unfold kmark
  cases nd j <;> simp
theorem kmark_step {nd : Nat → Bool} {j : Nat} {ks : List Int} {q z : Nat} (hq : q < ks.length) (hz : ks.getD q 0 = (z : Int)) (hzj : z ≠ j) :
    (fun m => if m = z then (kmark nd j (ks.take q) z || kmark nd j (ks.take q) j) else kmark nd j (ks.take q) m) = kmark nd j (ks.take (q + 1)) := by
  funext m
  rw [kmark_self]
  have e : ks.take (q + 1) = ks.take q ++ [(z : Int)] := by
    rw [List.take_succ_eq_append_getElem hq, ← hz, getD_of hq]
  rw [e]
  by_cases hm : m = z
  · subst hm
    rw [if_pos rfl]
    unfold kmark
    cases nd m <;> cases nd j <;> simp
  · rw [if_neg hm]
    unfold kmark
    have : ((m : Int) ∈ ks.take q ++ [(z : Int)]) ↔ (m : Int) ∈ ks.take q := by
      rw [List.mem_append, List.mem_singleton]
      constructor
      · rintro (h | h)
        · exact h
        · exact absurd (by omega) hm
      · exact .inl
    simp only [this]
theorem needD_self (f : Nat → Ty) (i : Nat) : ∀ c, needD f i c i = true
  | 0 => by simp [needD]
  | c + 1 => by
    show kmark (needD f i c) (i - c) (f (i - c)).kids i = true
    unfold kmark
    rw [needD_self f i c]
    rfl
/-- The texts behind j rounds; none, if one is too long. -/
def runF (f : Nat → Ty) (nd : Nat → Bool) : Nat → Option (Nat → ByteArray)
  | 0 => some fun _ => ⟨#[]⟩
  | j + 1 => match runF f nd j with
    | none => none
    | some T => if nd j = true then (if 4000 < (textF (f j) (kidsT T (f j))).size then none else some fun m => if m = j then textF (f j) (kidsT T (f j)) else T m) else some T
def outF (f : Nat → Ty) (i : Nat) : ByteArray × Int := match runF f (needD f i (i + 1)) (i + 1) with
  | none => (⟨#[]⟩, 7)
  | some T => (T i, 0)
theorem runF_none {f : Nat → Ty} {nd : Nat → Bool} {j : Nat} (h : runF f nd j = none) : ∀ k, j ≤ k → runF f nd k = none
  | 0, hk => by
    have : j = 0 := by omega
    subst this
    exact h
  | k + 1, hk => by
    rcases Nat.lt_or_eq_of_le hk with hk | hk
    · show (match runF f nd k with | none => none | some T => _) = none
      rw [runF_none h k (by omega)]
    · rw [← hk]; exact h
theorem runF_skip {f : Nat → Ty} {nd : Nat → Bool} {j : Nat} {T : Nat → ByteArray} (h : runF f nd j = some T) (hn : nd j = false) : runF f nd (j + 1) = some T := by
  show (match runF f nd j with | none => none | some T => _) = some T
  rw [h]
  simp [hn]
theorem runF_long {f : Nat → Ty} {nd : Nat → Bool} {j : Nat} {T : Nat → ByteArray} (h : runF f nd j = some T) (hn : nd j = true) (hl : 4000 < (textF (f j) (kidsT T (f j))).size) : runF f nd (j + 1) = none := by
  show (match runF f nd j with | none => none | some T => _) = none
  rw [h]
  simp [hn, hl]
theorem runF_next {f : Nat → Ty} {nd : Nat → Bool} {j : Nat} {T : Nat → ByteArray} (h : runF f nd j = some T) (hn : nd j = true) (hl : ¬ 4000 < (textF (f j) (kidsT T (f j))).size) : runF f nd (j + 1) = some fun m => if m = j then textF (f j) (kidsT T (f j)) else T m := by
  show (match runF f nd j with | none => none | some T => _) = _
  rw [h]
  simp [hn, hl]
theorem runF_size {f : Nat → Ty} {nd : Nat → Bool} : ∀ {j : Nat} {T : Nat → ByteArray}, runF f nd j = some T → ∀ m, (T m).size ≤ 4000
  | 0, T, h, m => by
    have h : (some fun _ => (⟨#[]⟩ : ByteArray)) = some T := h
    injection h with h
    rw [← h]
    exact Nat.zero_le _
  | j + 1, T, h, m => by
    have h : (match runF f nd j with | none => none | some T => if nd j = true then (if 4000 < (textF (f j) (kidsT T (f j))).size then none else some fun m => if m = j then textF (f j) (kidsT T (f j)) else T m) else some T) = some T := h
    cases hr : runF f nd j with
    | none => rw [hr] at h; cases h
    | some T0 =>
      rw [hr] at h
      simp only at h
      split at h
      · split at h
        · cases h
        · injection h with h
          rw [← h]
          simp only
          split
          · omega
          · exact runF_size hr m
      · injection h with h
        rw [← h]
        exact runF_size hr m
/-! ### Rows told by functions -/
def rowS (L : Nat) (f : Nat → ByteArray) : Array Value := ((List.range L).map fun j => Value.string (f j)).toArray
def rowB (L : Nat) (f : Nat → Bool) : Array Value := ((List.range L).map fun j => Value.bool (f j)).toArray
theorem rowS_get {L : Nat} {f : Nat → ByteArray} {j : Nat} (h : j < L) : (rowS L f)[j]? = some (.string (f j)) := by unfold rowS; simp [h]
theorem rowB_get {L : Nat} {f : Nat → Bool} {j : Nat} (h : j < L) : (rowB L f)[j]? = some (.bool (f j)) := by unfold rowB; simp [h]
theorem rowS_size {L : Nat} {f : Nat → ByteArray} : (rowS L f).size = L := by simp [rowS]
theorem rowB_size {L : Nat} {f : Nat → Bool} : (rowB L f).size = L := by simp [rowB]
theorem rowS_set {L : Nat} {f : Nat → ByteArray} {k : Nat} {d : ByteArray} : (rowS L f).setIfInBounds k (.string d) = rowS L fun j => if j = k then d else f j := by
  apply Array.ext_getElem?
  intro j
  by_cases hj : j < L
  · rw [rowS_get hj]
    by_cases hk : k = j
    · subst hk
      rw [Array.getElem?_setIfInBounds_self_of_lt (by rw [rowS_size]; exact hj)]
      simp
    · rw [Array.getElem?_setIfInBounds_ne hk, rowS_get hj, if_neg (fun e => hk e.symm)]
  · rw [Array.getElem?_eq_none (by rw [Array.size_setIfInBounds, rowS_size]; omega), Array.getElem?_eq_none (by rw [rowS_size]; omega)]
theorem rowB_set {L : Nat} {f : Nat → Bool} {k : Nat} {d : Bool} : (rowB L f).setIfInBounds k (.bool d) = rowB L fun j => if j = k then d else f j := by
  apply Array.ext_getElem?
  intro j
  by_cases hj : j < L
  · rw [rowB_get hj]
    by_cases hk : k = j
    · subst hk
      rw [Array.getElem?_setIfInBounds_self_of_lt (by rw [rowB_size]; exact hj)]
      simp
    · rw [Array.getElem?_setIfInBounds_ne hk, rowB_get hj, if_neg (fun e => hk e.symm)]
  · rw [Array.getElem?_eq_none (by rw [Array.size_setIfInBounds, rowB_size]; omega), Array.getElem?_eq_none (by rw [rowB_size]; omega)]
theorem rowS_made (n : Nat) : madeCells #[.string ⟨#[]⟩] n = rowS n fun _ => ⟨#[]⟩ := by
  apply Array.toList_inj.1
  rw [toList_madeCells_one]
  unfold rowS
  simp [List.map_const']
theorem rowB_made (n : Nat) : madeCells #[.bool false] n = rowB n fun _ => false := by
  apply Array.toList_inj.1
  rw [toList_madeCells_one]
  unfold rowB
  simp [List.map_const']
theorem info_boolT : (Tryz.prog.info? 4).map (fun i => (i.zero, i.size, i.bytes)) = some (some (.bool false), 1, 1) := by kernel_rfl
theorem info_strT : (Tryz.prog.info? 9).map (fun i => (i.zero, i.size, i.bytes)) = some (some (.string ⟨#[]⟩), 1, 16) := by kernel_rfl
theorem make_strs (n : Nat) (hn : n ≤ 1000000) (w : World) :
    (Instr.makeSlice 35 (.int .i64 (n : Int)) (.int .i64 (n : Int))).run Tryz.prog w = .ok (.slice (some ⟨w.heap.size, 0, none⟩) n n) (w.alloc (.cells (rowS n fun _ => ⟨#[]⟩) 9)) := by
  rw [← rowS_made]
  exact run_make_row' 35 9 (.string ⟨#[]⟩) 16 Tryz.underlying35 info_strT rfl .i64 .i64 n (by omega) (by omega) w
theorem make_boolsT (n : Nat) (hn : n ≤ 1000000) (w : World) :
    (Instr.makeSlice 85 (.int .i64 (n : Int)) (.int .i64 (n : Int))).run Tryz.prog w = .ok (.slice (some ⟨w.heap.size, 0, none⟩) n n) (w.alloc (.cells (rowB n fun _ => false) 4)) := by
  rw [← rowB_made]
  exact run_make_row' 85 4 (.bool false) 1 Tryz.underlying85 info_boolT rfl .i64 .i64 n (by omega) (by omega) w
/-- The contract of a type's text. -/
def TextC (t : Ty) : Prop := ∀ (W : World) (wo ko : Option Addr) (wc kc tb n : Nat) (T : Nat → ByteArray), TyC W wo ko t → t.words.length ≤ wc → t.kids.length ≤ kc → BlockAt W tb (rowS n T) 9 → n ≤ 400 → (∀ m, (T m).size ≤ 4000) →
  (∀ k ∈ t.kids, 0 ≤ k ∧ k < (n : Int)) → PowAt W → Calls Tryz.prog 54 #[tyV t wo wc ko kc, .slice (some ⟨tb, 0, none⟩) n n] W fun e w' => e = .returned (.string (textF t (kidsT T t))) ∧ Below W.heap.size W w'
end Go.Proofs.YtkmnfkhchcoamaaGreatDoor
/- The program's Text, told its types' texts. -/
namespace Go.Proofs.YtkmnfkhchcoamaaGreatDoor
open Go.RowKit
set_option linter.unusedSimpArgs false
set_option linter.unusedVariables false

theorem right_kids {l : List Ty} (h : rightT l = true) {j : Nat} (hj : j < l.length) : ∀ k ∈ (l[j]).kids, 0 ≤ k ∧ k < (j : Int) := by
  intro k hk
  by_cases h22 : j < 22
  · rw [right_low h hj h22] at hk
    unfold bas at hk
    split at hk <;> cases hk
  · have hm := (right_high h hj h22).1
    unfold madeB at hm
    rw [Bool.and_eq_true] at hm
    have := kidsB_in hm.1 k hk
    rw [List.length_take] at this
    omega
theorem set_below {W w : World} {b k : Nat} {v : Value} (h : Below W.heap.size W w) (hb : W.heap.size ≤ b) : Below W.heap.size W (w.setCell ⟨b, k, none⟩ v) := h.setCell hb v
theorem need_start (f : Nat → Ty) (i L : Nat) : (rowB L fun _ => false).setIfInBounds i (.bool true) = rowB L (needD f i 0) := by
  rw [rowB_set]
  congr 1
/-- What Text gives. -/
def TextR (f : Nat → Ty) (i : Nat) (w : World) (e : Ending) (w' : World) : Prop := e = .returned (.tuple #[.string (outF f i).1, .int .i64 (outF f i).2]) ∧ Below w.heap.size w w'
theorem text_long {f : Nat → Ty} {i : Nat} {w w' : World} (h : runF f (needD f i (i + 1)) (i + 1) = none) (hb : Below w.heap.size w w') : TextR f i w (.returned (.tuple #[.string ⟨#[]⟩, .int .i64 7])) w' := by
  unfold TextR outF
  rw [h]
  exact ⟨rfl, hb⟩
theorem text_done {f : Nat → Ty} {i : Nat} {w w' : World} {T : Nat → ByteArray} (h : runF f (needD f i (i + 1)) (i + 1) = some T) (hb : Below w.heap.size w w') : TextR f i w (.returned (.tuple #[.string (T i), .int .i64 0])) w' := by
  unfold TextR outF
  rw [h]
  exact ⟨rfl, hb⟩
set_option maxHeartbeats 16000000 in
set_option maxRecDepth 100000 in
theorem text_in (l : List Ty) (ao : Option Addr) (ac i : Nat) (w : World) (hl : ARow w ao l) (hr : rightT l = true) (hac : l.length ≤ ac) (hE : Env w) (hi : i < l.length) (hTC : ∀ j (hj : j < l.length), j ≤ i → needD (fun j => l.getD j noT) i (i + 1) j = true → TextC l[j]) :
    Calls Tryz.prog 33 #[.slice ao l.length ac, .int .i64 i] w (TextR (fun j => l.getD j noT) i w) := by
  have hlen := (right_step hr).1
  have HRT0 := pright_any l ao ac w hl (by omega) hac hE
  rw [hr] at HRT0
  obtain ⟨f, hf⟩ : ∃ f : Nat → Ty, (fun j => l.getD j noT) = f := ⟨_, rfl⟩
  rw [hf]
  have HF := Lib.hid (show ∀ j (hj : j < l.length), f j = l[j] from fun j hj => by rw [← hf]; exact getD_of hj)
  have HK := Lib.hid (show ∀ j (hj : j < l.length), ∀ k ∈ (f j).kids, 0 ≤ k ∧ k < (j : Int) from fun j hj => by rw [HF.out j hj]; exact right_kids hr hj)
  rw [hf] at hTC
  have HTC := Lib.hid (show ∀ j (hj : j < l.length), j ≤ i → needD f i (i + 1) j = true → TextC (f j) from fun j hj h h2 => by rw [HF.out j hj]; exact hTC j hj h h2)
  obtain ⟨n, hn⟩ : ∃ n, l.length = n := ⟨_, rfl⟩
  have HN := Lib.hid hn
  have HA := Lib.hid hl
  have HE := Lib.hid hE
  rw [hn] at hlen hac hi HRT0 ⊢
  have HRT := Lib.hid HRT0
  have hdi : decide (n ≤ i) = false := decide_eq_false (by omega)
  have hdii : decide ((n : Int) ≤ (i : Int)) = false := decide_eq_false (by omega)
  have hd0 : decide ((i : Int) < 0) = false := decide_eq_false (by omega)
  clear hl hr hE hTC hf hn HRT0
  go_enter Tryz.func33, Tryz.ntmps33
  go_wp2_with fail
  refine HRT.out.mono ?_
  rintro e w1 ⟨rfl, b1⟩
  have B1 := Lib.hid b1
  obtain ⟨nb, hnb⟩ : ∃ nb, w1.heap.size = nb := ⟨_, rfl⟩
  have HNB := Lib.hid (show w.heap.size ≤ nb by rw [← hnb]; exact b1.size)
  have hmk := make_boolsT (i + 1) (by omega) w1
  obtain ⟨w2, h2⟩ : ∃ w2, w1.alloc (.cells (rowB (i + 1) fun _ => false) 4) = w2 := ⟨_, rfl⟩
  obtain ⟨k2, q2, z2⟩ := box_new h2
  rw [h2, hnb, show ((i + 1 : Nat) : Int) = (i : Int) + 1 by omega] at hmk
  rw [hnb] at k2
  have B2 := Lib.hid (b1.trans (q2.mono b1.size))
  obtain ⟨w3, h3⟩ : ∃ w3, w2.setCell ⟨nb, i, none⟩ (.bool true) = w3 := ⟨_, rfl⟩
  have K3 := Lib.hid (show BlockAt w3 nb (rowB (i + 1) (needD f i 0)) 4 from by rw [← h3, ← need_start f]; exact k2.set i _)
  have B3 := Lib.hid (show Below w.heap.size w w3 from by rw [← h3]; exact set_below B2.out HNB.out)
  have ci := k2.cell i
  rw [rowB_get (by omega)] at ci
  have fi := k2.free i
  clear b1 h2 k2 q2 z2 hnb
  go_wp2_with fail
  clear hmk ci fi h3
  go_loopw [7] (fun v wr => ∃ c j : Nat, c + j = i + 1 ∧ v = .int .i64 ((j : Int) - 1) ∧ Hid (BlockAt wr nb (rowB (i + 1) (needD f i c)) 4) ∧ Hid (Below w.heap.size w wr)) (fun v _ => (intOf v + 1).toNat)
  case atStart => exact ⟨0, i + 1, by omega, by (rw [show ((i + 1 : Nat) : Int) - 1 = (i : Int) by omega]), K3, B3⟩
  case round =>
    obtain ⟨c, j, hcj, rfl, KB, HB⟩ := hrel
    by_cases hj0 : j = 0
    · have hneg : (j : Int) - 1 < 0 := by omega
      have HC := Lib.hid (show c = i + 1 by omega)
      clear hj0
      obtain ⟨nd, hnd⟩ : ∃ nd, needD f i (i + 1) = nd := ⟨_, rfl⟩
      have HND := Lib.hid hnd
      rw [HC.out, hnd] at KB
      clear hnd
      obtain ⟨w4, hw4⟩ : ∃ w4, w4 = wr := ⟨_, rfl⟩
      subst hw4
      obtain ⟨tb, htb⟩ : ∃ tb, w4.heap.size = tb := ⟨_, rfl⟩
      have HTB := Lib.hid (show w.heap.size ≤ tb ∧ nb < tb by rw [← htb]; exact ⟨HB.out.size, KB.out.lt⟩)
      have hmk := make_strs (i + 1) (by omega) w4
      obtain ⟨w5, h5⟩ : ∃ w5, w4.alloc (.cells (rowS (i + 1) fun _ => ⟨#[]⟩) 9) = w5 := ⟨_, rfl⟩
      obtain ⟨k5, q5, z5⟩ := box_new h5
      rw [h5, htb, show ((i + 1 : Nat) : Int) = (i : Int) + 1 by omega] at hmk
      rw [htb] at k5
      have K5 := Lib.hid k5
      have KB5 := Lib.hid (KB.out.below q5)
      have B5 := Lib.hid (HB.out.trans (q5.mono HB.out.size))
      clear h5 k5 q5 z5 htb
      go_wp2_with fail
      clear hmk
      go_loopw [67] (fun v wr => ∃ (k : Nat) (T : Nat → ByteArray), k ≤ i + 1 ∧ v = .int .i64 k ∧ Hid (runF f nd k = some T) ∧ Hid (BlockAt wr tb (rowS (i + 1) T) 9) ∧ Hid (BlockAt wr nb (rowB (i + 1) nd) 4) ∧ Hid (Below w.heap.size w wr)) (fun v _ => i + 1 - (intOf v).toNat)
      case atStart => exact ⟨0, _, Nat.zero_le _, rfl, Lib.hid rfl, K5, KB5, B5⟩
      case round =>
        obtain ⟨k, T, hk, rfl, HRF, KT, KN, HB⟩ := hrel
        by_cases hkl : k < i + 1
        · have hkx : k < l.length := by rw [HN.out]; omega
          obtain ⟨ab, aof, rfl, hab, hcl⟩ := (HA.out.below HB.out).cells (by omega)
          have hat := hcl k hkx
          rw [← HF.out k hkx] at hat
          obtain ⟨x, hx⟩ : ∃ x, f k = x := ⟨_, rfl⟩
          rw [hx] at hat
          have HX := Lib.hid hx
          obtain ⟨xw, xwc, xk, xkc, a0, a1, a2, a3, a4, hwc, hkc, hxc⟩ := hat
          clear hx hcl hab
          obtain ⟨wn, hwn⟩ : ∃ wn, wr.alloc (.cells #[.int .i64 x.kind, .string x.name, .int .i64 x.n, .slice xw x.words.length xwc, .slice xk x.kids.length xkc] 38) = wn := ⟨_, rfl⟩
          obtain ⟨kx, qx, zx⟩ := box_new hwn
          obtain ⟨c0, c1, c2, c3, c4⟩ := cell5 kx
          have BN := Lib.hid (HB.out.trans (qx.mono HB.out.size))
          have KTN := Lib.hid (KT.out.below qx)
          have KNN := Lib.hid (KN.out.below qx)
          have cn := KNN.out.cell k
          rw [rowB_get hkl] at cn
          have HRS := Lib.hid (runF_size HRF.out)
          have HZ := Lib.hid (show tb < wr.heap.size from KT.out.lt)
          have HXI := Lib.hid (And.intro hwc (And.intro hkc (hxc.below qx)))
          clear kx qx zx hwc hkc hxc
          cases hnk : nd k
          · have HS := Lib.hid (runF_skip HRF.out hnk)
            rw [hnk] at cn
            clear hnk
            go_wp2_with fail
            go_roundw
            case rel => exact ⟨k + 1, T, by omega, by go_num, HS, KTN, KNN, BN⟩
            case measure => first | (simp [intOf]; done) | (simp [intOf]; omega)
          · have HNK := Lib.hid hnk
            rw [hnk] at cn
            clear hnk
            have HTX0 := HTC.out k hkx (by omega) (by rw [HND.out]; exact HNK.out) wn xw xk xwc xkc tb (i + 1) T (by rw [HX.out]; exact HXI.out.2.2) (by rw [HX.out]; exact HXI.out.1) (by rw [HX.out]; exact HXI.out.2.1) KTN.out (by omega) HRS.out (fun z hz => by have := HK.out k hkx z hz; omega) (HE.out.below BN.out).pow
            rw [HX.out] at HTX0
            unfold tyV at HTX0
            have HTX := Lib.hid HTX0
            clear HTX0
            obtain ⟨s, hs⟩ : ∃ s, textF x (kidsT T x) = s := ⟨_, rfl⟩
            rw [hs] at HTX
            have HSE := Lib.hid hs
            clear hs
            go_wp2_with fail
            refine HTX.out.mono ?_
            rintro e w6 ⟨rfl, b6⟩
            have KT6 := Lib.hid (KTN.out.below b6)
            have KN6 := Lib.hid (KNN.out.below b6)
            have B6 := Lib.hid (BN.out.trans (b6.mono BN.out.size))
            obtain ⟨w7, h7⟩ : ∃ w7, w6.setCell ⟨tb, k, none⟩ (.string s) = w7 := ⟨_, rfl⟩
            have ck := KT6.out.cell k
            rw [rowS_get hkl] at ck
            have fk := KT6.out.free k
            have KT7 := Lib.hid (show BlockAt w7 tb (rowS (i + 1) fun m => if m = k then s else T m) 9 from by rw [← h7, ← rowS_set]; exact KT6.out.set k _)
            have KN7 := Lib.hid (show BlockAt w7 nb (rowB (i + 1) nd) 4 from by rw [← h7]; exact KN6.out.other (by have := HTB.out.2; omega) k _)
            have B7 := Lib.hid (show Below w.heap.size w w7 from by rw [← h7]; exact set_below B6.out HTB.out.1)
            have c7 := KT7.out.cell k
            rw [rowS_get hkl, if_pos rfl] at c7
            clear b6 c0 c1 c2 c3 c4 cn hwn a0 a1 a2 a3 a4
            by_cases hlg : 4000 < s.size
            · have Hn := Lib.hid (runF_none (runF_long HRF.out HNK.out (by rw [HX.out, HSE.out]; exact hlg)) (i + 1) (by omega))
              go_wp2_with fail
              go_ret2
              exact text_long (by rw [HND.out]; exact Hn.out) B7.out
            · have Hn := Lib.hid (runF_next HRF.out HNK.out (by rw [HX.out, HSE.out]; exact hlg))
              rw [HX.out, HSE.out] at Hn
              go_wp2_with fail
              go_roundw
              case rel => exact ⟨k + 1, _, by omega, by go_num, Hn, KT7, KN7, B7⟩
              case measure => first | (simp [intOf]; done) | (simp [intOf]; omega)
        · have HKI := Lib.hid (show k = i + 1 by omega)
          have ci := KT.out.cell i
          rw [rowS_get (by omega)] at ci
          go_wp2_with fail
          go_ret2
          exact text_done (by rw [HND.out, ← HKI.out]; exact HRF.out) HB.out
    · obtain ⟨p, rfl⟩ : ∃ p, j = p + 1 := ⟨j - 1, by omega⟩
      have hpi : p ≤ i := by omega
      have HP := Lib.hid (show i - c = p by omega)
      have hpx : p < l.length := by rw [HN.out]; omega
      obtain ⟨ab, aof, rfl, hab, hcl⟩ := HA.out.cells (by omega)
      have hat := hcl p hpx
      rw [← HF.out p hpx] at hat
      have HKP := Lib.hid (HK.out p hpx)
      obtain ⟨x, hx⟩ : ∃ x, f p = x := ⟨_, rfl⟩
      rw [hx] at hat HKP
      have HX := Lib.hid hx
      obtain ⟨xw, xwc, xk, xkc, a0, a1, a2, a3, a4, hwc, hkc, hxc⟩ := hat
      have HXC := Lib.hid hxc
      have a4 : wr.cell? ⟨ab, aof + p * 5 + 4, none⟩ = some (.slice xk x.kids.length xkc) := by rw [HB.out.cell (p := ⟨ab, aof + p * 5 + 4, none⟩) hab]; exact a4
      obtain ⟨m, hm⟩ : ∃ m, x.kids.length = m := ⟨_, rfl⟩
      have HM := Lib.hid hm
      have hml := hxc.ok.kl
      rw [hm] at a4 hml
      have hsub : ((p + 1 : Nat) : Int) - 1 = (p : Int) := by omega
      rw [hsub]
      have hsub1 : (p : Int) - 1 = (p : Int) + 1 - 1 - 1 := by omega
      obtain ⟨wo2, hwo2⟩ : ∃ wo2, wo2 = wr := ⟨_, rfl⟩
      subst hwo2
      clear hx hcl hab hwc hkc hxc hm hsub1 hsub a0 a1 a2 a3
      go_wp2_with fail
      clear a4
      go_loopw [41] (fun v wr => ∃ q : Nat, q ≤ m ∧ v = .int .i64 q ∧ Hid (BlockAt wr nb (rowB (i + 1) (kmark (needD f i c) p (x.kids.take q))) 4) ∧ Hid (Below w.heap.size w wr)) (fun v _ => m - (intOf v).toNat)
      case atStart => exact ⟨0, Nat.zero_le _, rfl, by (rw [List.take_zero, kmark_nil]; exact KB), HB⟩
      case round =>
        obtain ⟨q, hq, rfl, KQ, HQ⟩ := hrel
        by_cases hql : q < m
        · have hqx : q < x.kids.length := by rw [HM.out]; exact hql
          obtain ⟨kb, kof, rfl, hkb, hkcell⟩ := HXC.out.kids.cells (by omega)
          have ck := hkcell q hqx
          obtain ⟨g1, g2⟩ := HKP.out _ (getD_mem hqx)
          obtain ⟨z, hz⟩ : ∃ z : Nat, x.kids.getD q 0 = (z : Int) := ⟨(x.kids.getD q 0).toNat, by omega⟩
          rw [hz] at ck g2
          have hzp : z < p := by omega
          have HST := Lib.hid (kmark_step (nd := needD f i c) (j := p) hqx hz (by omega))
          have HKM := Lib.hid (show kmark (needD f i c) p (x.kids.take q) p = needD f i c p from kmark_self _ _ _)
          obtain ⟨nd, hnd⟩ : ∃ nd, kmark (needD f i c) p (x.kids.take q) = nd := ⟨_, rfl⟩
          rw [hnd] at KQ HST
          have HND := Lib.hid hnd
          have cz := KQ.out.cell z
          have cp := KQ.out.cell p
          rw [rowB_get (by omega)] at cz cp
          have fz := KQ.out.free z
          have ck2 : wr.cell? ⟨kb, kof + q, none⟩ = some (.int .i64 (z : Int)) := by rw [HQ.out.cell (p := ⟨kb, kof + q, none⟩) hkb]; exact ck
          clear hnd hz ck hkcell hkb g1
          cases hnz : nd z
          · rw [hnz] at cz
            have HZ := Lib.hid hnz
            clear hnz
            obtain ⟨bp, hbp⟩ : ∃ bp, nd p = bp := ⟨_, rfl⟩
            rw [hbp] at cp
            obtain ⟨w7, h7⟩ : ∃ w7, wr.setCell ⟨nb, z, none⟩ (.bool bp) = w7 := ⟨_, rfl⟩
            have KQ7 := Lib.hid (show BlockAt w7 nb (rowB (i + 1) (kmark (needD f i c) p (x.kids.take (q + 1)))) 4 from by
              rw [← HST.out, HZ.out, hbp, Bool.false_or, ← rowB_set, ← h7]
              exact KQ.out.set z _)
            have B7 := Lib.hid (show Below w.heap.size w w7 from by rw [← h7]; exact set_below HQ.out HNB.out)
            clear hbp
            go_wp2_with fail
            go_roundw
            case rel => exact ⟨q + 1, by omega, by go_num, KQ7, B7⟩
            case measure => first | (simp [intOf]; done) | (simp [intOf]; omega)
          · rw [hnz] at cz
            have HZ := Lib.hid hnz
            clear hnz
            obtain ⟨w7, h7⟩ : ∃ w7, wr.setCell ⟨nb, z, none⟩ (.bool true) = w7 := ⟨_, rfl⟩
            have KQ7 := Lib.hid (show BlockAt w7 nb (rowB (i + 1) (kmark (needD f i c) p (x.kids.take (q + 1)))) 4 from by
              rw [← HST.out, HZ.out, Bool.true_or, ← rowB_set, ← h7]
              exact KQ.out.set z _)
            have B7 := Lib.hid (show Below w.heap.size w w7 from by rw [← h7]; exact set_below HQ.out HNB.out)
            go_wp2_with fail
            go_roundw
            case rel => exact ⟨q + 1, by omega, by go_num, KQ7, B7⟩
            case measure => first | (simp [intOf]; done) | (simp [intOf]; omega)
        · have HQM := Lib.hid (show x.kids.take q = x.kids from List.take_of_length_le (by rw [HM.out]; omega))
          rw [HQM.out] at KQ
          have KN := Lib.hid (show BlockAt wr nb (rowB (i + 1) (needD f i (c + 1))) 4 from by
            show BlockAt wr nb (rowB (i + 1) (kmark (needD f i c) (i - c) (f (i - c)).kids)) 4
            rw [HP.out, HX.out]
            exact KQ.out)
          go_wp2_with fail
          go_roundw
          case rel => exact ⟨c + 1, p, by omega, by first | rfl | go_num, KN, HQ⟩
          case measure => first | (simp [intOf]; done) | (simp [intOf]; omega)
end Go.Proofs.YtkmnfkhchcoamaaGreatDoor
/- The program's text of a type, kind by kind. -/
namespace Go.Proofs.YtkmnfkhchcoamaaGreatDoor
open Go.RowKit
set_option linter.unusedSimpArgs false
set_option linter.unusedVariables false

/-- The first q kids' texts are laid. -/
def KF (K : List ByteArray) (q : Nat) : Nat → ByteArray := fun j => if j < q then K.getD j ⟨#[]⟩ else ⟨#[]⟩
theorem KF_zero (K : List ByteArray) : KF K 0 = fun _ => ⟨#[]⟩ := by
  funext j
  unfold KF
  rw [if_neg (Nat.not_lt_zero _)]
theorem KF_step (K : List ByteArray) (q : Nat) : (fun j => if j = q then K.getD q ⟨#[]⟩ else KF K q j) = KF K (q + 1) := by
  funext j
  unfold KF
  by_cases h : j = q
  · rw [if_pos h, if_pos (by omega), h]
  · rw [if_neg h]
    by_cases h2 : j < q
    · rw [if_pos h2, if_pos (by omega)]
    · rw [if_neg h2, if_neg (by omega)]
theorem KF_row {w : World} {b m : Nat} {K : List ByteArray} (h : BlockAt w b (rowS m (KF K m)) 9) (hm : K.length = m) : SRow w (some ⟨b, 0, none⟩) K ∧ ∀ j, j < m → w.cell? ⟨b, j, none⟩ = some (.string (K.getD j ⟨#[]⟩)) := by
  have hc : ∀ j, j < m → w.cell? ⟨b, j, none⟩ = some (.string (K.getD j ⟨#[]⟩)) := fun j hj => by
    rw [h.cell j, rowS_get hj]
    unfold KF
    rw [if_pos hj]
  exact ⟨.inr ⟨b, 0, rfl, h.lt, fun i hi => by rw [Nat.zero_add]; exact hc i (by omega)⟩, hc⟩
theorem kid_size {T : Nat → ByteArray} {t : Ty} (h : ∀ m, (T m).size ≤ 4000) (j : Nat) : ((kidsT T t).getD j ⟨#[]⟩).size ≤ 4000 := by
  by_cases hj : j < t.kids.length
  · rw [kidsT_get hj]; exact h _
  · rw [List.getD_eq_getElem?_getD, List.getElem?_eq_none (by rw [kidsT_len]; omega)]
    exact Nat.zero_le _
set_option maxHeartbeats 16000000 in
set_option maxRecDepth 100000 in
theorem text_zero (s : ByteArray) (n : Int) (ws : List ByteArray) (ks : List Int) (hk : ks = []) : TextC ⟨0, s, n, ws, ks⟩ := by
  intro w wo ko wc kc tb N T ht hwc hkc hT hN hsz hin hp
  unfold tyV
  show Calls _ _ #[.agg #[.int .i64 0, .string s, .int .i64 n, .slice wo ws.length wc, .slice ko ks.length kc], .slice (some ⟨tb, 0, none⟩) N N] _ _
  have hml : ks.length ≤ 18 := ht.ok.kl
  have hwl : ws.length ≤ 18 := ht.ok.wl
  have hsl : s.size ≤ 50 := ht.ok.nl
  obtain ⟨m, hm⟩ : ∃ m, ks.length = m := ⟨_, rfl⟩
  have HM := Lib.hid hm
  obtain ⟨w1, h1⟩ : ∃ w1, w.alloc (.cells #[.int .i64 0, .string s, .int .i64 n, .slice wo ws.length wc, .slice ko ks.length kc] 38) = w1 := ⟨_, rfl⟩
  obtain ⟨k1, q1, z1⟩ := box_new h1
  obtain ⟨kb, hkb⟩ : ∃ kb, w1.heap.size = kb := ⟨_, rfl⟩
  have hmk := make_strs ks.length (by omega) w1
  rw [hkb, hm] at hmk
  rw [hm] at hml h1 k1 ⊢
  obtain ⟨w2, h2⟩ : ∃ w2, w1.alloc (.cells (rowS m fun _ => ⟨#[]⟩) 9) = w2 := ⟨_, rfl⟩
  rw [h2] at hmk
  obtain ⟨k2, q2, z2⟩ := box_new h2
  rw [hkb] at k2
  have BW := Lib.hid (q1.trans (q2.mono q1.size))
  have K1 := Lib.hid (k1.below q2)
  have HKB := Lib.hid (show w.heap.size ≤ kb ∧ w.heap.size ≠ kb ∧ tb < w.heap.size from ⟨by rw [← hkb]; exact q1.size, by omega, hT.lt⟩)
  obtain ⟨K, hK⟩ : ∃ K, kidsT T ⟨0, s, n, ws, ks⟩ = K := ⟨_, rfl⟩
  have HKG := Lib.hid (show ∀ j, j < m → K.getD j ⟨#[]⟩ = T (ks.getD j 0).toNat from fun j hj => by rw [← hK]; exact kidsT_get (t := ⟨0, s, n, ws, ks⟩) (by show j < ks.length; omega))
  have HKL := Lib.hid (show K.length = m from by rw [← hK, kidsT_len]; exact hm)
  have HKS := Lib.hid (show ∀ j, (K.getD j ⟨#[]⟩).size ≤ 4000 from fun j => by rw [← hK]; exact kid_size hsz j)
  rw [hK]
  have K2 := Lib.hid (show BlockAt w2 kb (rowS m (KF K 0)) 9 from by rw [KF_zero]; exact k2)
  have HTY := Lib.hid ht
  have HIN := Lib.hid (show ∀ k ∈ ks, 0 ≤ k ∧ k < (N : Int) from hin)
  have HTT := Lib.hid hT
  have HPW := Lib.hid hp
  have HWC := Lib.hid (show ws.length ≤ wc from hwc)
  obtain ⟨c0, c1, c2, c3, c4⟩ := cell5 k1
  obtain ⟨d0, d1, d2, d3, d4⟩ := cell5 (k1.below q2)
  clear ht hwc hkc hT hsz hin hp hm hkb k1 q1 z1 h2 k2 q2 z2 hK
  go_enter Tryz.func54, Tryz.ntmps54
  go_wp2_with fail
  clear h1 hmk c0 c1 c2 c3 c4 d0 d1 d2 d3 d4
  go_loopw [18] (fun v wr => ∃ q : Nat, q ≤ m ∧ v = .int .i64 q ∧ Hid (BlockAt wr kb (rowS m (KF K q)) 9) ∧ Hid (BlockAt wr w.heap.size #[.int .i64 0, .string s, .int .i64 n, .slice wo ws.length wc, .slice ko m kc] 38) ∧ Hid (Below w.heap.size w wr)) (fun v _ => m - (intOf v).toNat)
  case atStart => exact ⟨0, Nat.zero_le _, rfl, K2, K1, BW⟩
  case round =>
    obtain ⟨q, hq, rfl, KQ, K1, HB⟩ := hrel
    by_cases hql : q < m
    · have hqx : q < ks.length := by rw [HM.out]; exact hql
      obtain ⟨xb, xof, rfl, hxb, hxc⟩ := HTY.out.kids.cells (by show 0 < ks.length; omega)
      have ck : w.cell? ⟨xb, xof + q, none⟩ = some (.int .i64 (ks.getD q 0)) := hxc q hqx
      obtain ⟨g1, g2⟩ := HIN.out _ (getD_mem hqx)
      have hkg := HKG.out q hql
      obtain ⟨z, hz⟩ : ∃ z : Nat, ks.getD q 0 = (z : Int) := ⟨(ks.getD q 0).toNat, by omega⟩
      rw [hz] at ck g2 hkg
      rw [Int.toNat_natCast] at hkg
      have ck2 : wr.cell? ⟨xb, xof + q, none⟩ = some (.int .i64 (z : Int)) := by rw [HB.out.cell (p := ⟨xb, xof + q, none⟩) hxb]; exact ck
      have ct := (HTT.out.below HB.out).cell z
      rw [rowS_get (by omega), ← hkg] at ct
      obtain ⟨kt, hkt⟩ : ∃ kt, K.getD q ⟨#[]⟩ = kt := ⟨_, rfl⟩
      rw [hkt] at ct
      have cq := KQ.out.cell q
      rw [rowS_get hql] at cq
      have fq := KQ.out.free q
      obtain ⟨w7, h7⟩ : ∃ w7, wr.setCell ⟨kb, q, none⟩ (.string kt) = w7 := ⟨_, rfl⟩
      have KQ7 := Lib.hid (show BlockAt w7 kb (rowS m (KF K (q + 1))) 9 from by
        rw [← KF_step, hkt, ← rowS_set, ← h7]
        exact KQ.out.set q _)
      have K17 := Lib.hid (K1.out.other HKB.out.2.1 q (.string kt))
      rw [h7] at K17
      have B7 := Lib.hid (show Below w.heap.size w w7 from by rw [← h7]; exact HB.out.setCell (p := ⟨kb, q, none⟩) HKB.out.1 _)
      obtain ⟨f0, hf0⟩ : ∃ f0, KF K q q = f0 := ⟨_, rfl⟩
      rw [hf0] at cq
      clear hf0 hkt hkg hz ck hxb hxc g1
      go_wp2_with fail
      go_roundw
      case rel => exact ⟨q + 1, by omega, by go_num, KQ7, K17, B7⟩
      case measure => first | (simp [intOf]; done) | (simp [intOf]; omega)
    · have hqm : q = m := by omega
      rw [hqm] at KQ
      have KR := Lib.hid (KF_row KQ.out HKL.out)
      obtain ⟨c0, c1, c2, c3, c4⟩ := cell5 K1.out
      clear hqm
      have hm0 : m = 0 := by rw [← HM.out, hk]; rfl
      have hmn : ¬ 0 < m := by omega
      have hd : decide (0 < m) = false := decide_eq_false hmn
      clear hm0 hk
      go_wp2_with fail
      go_ret
      have hKn : ¬ 0 < K.length := by rw [HKL.out]; exact hmn
      exact ⟨by simp [textF, hKn], HB.out⟩
set_option maxHeartbeats 16000000 in
set_option maxRecDepth 100000 in
theorem text_slice (s : ByteArray) (n : Int) (ws : List ByteArray) (ks : List Int) (hk : ks.length = 1) : TextC ⟨2, s, n, ws, ks⟩ := by
  intro w wo ko wc kc tb N T ht hwc hkc hT hN hsz hin hp
  unfold tyV
  show Calls _ _ #[.agg #[.int .i64 2, .string s, .int .i64 n, .slice wo ws.length wc, .slice ko ks.length kc], .slice (some ⟨tb, 0, none⟩) N N] _ _
  have hml : ks.length ≤ 18 := ht.ok.kl
  have hwl : ws.length ≤ 18 := ht.ok.wl
  have hsl : s.size ≤ 50 := ht.ok.nl
  obtain ⟨m, hm⟩ : ∃ m, ks.length = m := ⟨_, rfl⟩
  have HM := Lib.hid hm
  obtain ⟨w1, h1⟩ : ∃ w1, w.alloc (.cells #[.int .i64 2, .string s, .int .i64 n, .slice wo ws.length wc, .slice ko ks.length kc] 38) = w1 := ⟨_, rfl⟩
  obtain ⟨k1, q1, z1⟩ := box_new h1
  obtain ⟨kb, hkb⟩ : ∃ kb, w1.heap.size = kb := ⟨_, rfl⟩
  have hmk := make_strs ks.length (by omega) w1
  rw [hkb, hm] at hmk
  rw [hm] at hml h1 k1 ⊢
  obtain ⟨w2, h2⟩ : ∃ w2, w1.alloc (.cells (rowS m fun _ => ⟨#[]⟩) 9) = w2 := ⟨_, rfl⟩
  rw [h2] at hmk
  obtain ⟨k2, q2, z2⟩ := box_new h2
  rw [hkb] at k2
  have BW := Lib.hid (q1.trans (q2.mono q1.size))
  have K1 := Lib.hid (k1.below q2)
  have HKB := Lib.hid (show w.heap.size ≤ kb ∧ w.heap.size ≠ kb ∧ tb < w.heap.size from ⟨by rw [← hkb]; exact q1.size, by omega, hT.lt⟩)
  obtain ⟨K, hK⟩ : ∃ K, kidsT T ⟨2, s, n, ws, ks⟩ = K := ⟨_, rfl⟩
  have HKG := Lib.hid (show ∀ j, j < m → K.getD j ⟨#[]⟩ = T (ks.getD j 0).toNat from fun j hj => by rw [← hK]; exact kidsT_get (t := ⟨2, s, n, ws, ks⟩) (by show j < ks.length; omega))
  have HKL := Lib.hid (show K.length = m from by rw [← hK, kidsT_len]; exact hm)
  have HKS := Lib.hid (show ∀ j, (K.getD j ⟨#[]⟩).size ≤ 4000 from fun j => by rw [← hK]; exact kid_size hsz j)
  rw [hK]
  have K2 := Lib.hid (show BlockAt w2 kb (rowS m (KF K 0)) 9 from by rw [KF_zero]; exact k2)
  have HTY := Lib.hid ht
  have HIN := Lib.hid (show ∀ k ∈ ks, 0 ≤ k ∧ k < (N : Int) from hin)
  have HTT := Lib.hid hT
  have HPW := Lib.hid hp
  have HWC := Lib.hid (show ws.length ≤ wc from hwc)
  obtain ⟨c0, c1, c2, c3, c4⟩ := cell5 k1
  obtain ⟨d0, d1, d2, d3, d4⟩ := cell5 (k1.below q2)
  clear ht hwc hkc hT hsz hin hp hm hkb k1 q1 z1 h2 k2 q2 z2 hK
  go_enter Tryz.func54, Tryz.ntmps54
  go_wp2_with fail
  clear h1 hmk c0 c1 c2 c3 c4 d0 d1 d2 d3 d4
  go_loopw [18] (fun v wr => ∃ q : Nat, q ≤ m ∧ v = .int .i64 q ∧ Hid (BlockAt wr kb (rowS m (KF K q)) 9) ∧ Hid (BlockAt wr w.heap.size #[.int .i64 2, .string s, .int .i64 n, .slice wo ws.length wc, .slice ko m kc] 38) ∧ Hid (Below w.heap.size w wr)) (fun v _ => m - (intOf v).toNat)
  case atStart => exact ⟨0, Nat.zero_le _, rfl, K2, K1, BW⟩
  case round =>
    obtain ⟨q, hq, rfl, KQ, K1, HB⟩ := hrel
    by_cases hql : q < m
    · have hqx : q < ks.length := by rw [HM.out]; exact hql
      obtain ⟨xb, xof, rfl, hxb, hxc⟩ := HTY.out.kids.cells (by show 0 < ks.length; omega)
      have ck : w.cell? ⟨xb, xof + q, none⟩ = some (.int .i64 (ks.getD q 0)) := hxc q hqx
      obtain ⟨g1, g2⟩ := HIN.out _ (getD_mem hqx)
      have hkg := HKG.out q hql
      obtain ⟨z, hz⟩ : ∃ z : Nat, ks.getD q 0 = (z : Int) := ⟨(ks.getD q 0).toNat, by omega⟩
      rw [hz] at ck g2 hkg
      rw [Int.toNat_natCast] at hkg
      have ck2 : wr.cell? ⟨xb, xof + q, none⟩ = some (.int .i64 (z : Int)) := by rw [HB.out.cell (p := ⟨xb, xof + q, none⟩) hxb]; exact ck
      have ct := (HTT.out.below HB.out).cell z
      rw [rowS_get (by omega), ← hkg] at ct
      obtain ⟨kt, hkt⟩ : ∃ kt, K.getD q ⟨#[]⟩ = kt := ⟨_, rfl⟩
      rw [hkt] at ct
      have cq := KQ.out.cell q
      rw [rowS_get hql] at cq
      have fq := KQ.out.free q
      obtain ⟨w7, h7⟩ : ∃ w7, wr.setCell ⟨kb, q, none⟩ (.string kt) = w7 := ⟨_, rfl⟩
      have KQ7 := Lib.hid (show BlockAt w7 kb (rowS m (KF K (q + 1))) 9 from by
        rw [← KF_step, hkt, ← rowS_set, ← h7]
        exact KQ.out.set q _)
      have K17 := Lib.hid (K1.out.other HKB.out.2.1 q (.string kt))
      rw [h7] at K17
      have B7 := Lib.hid (show Below w.heap.size w w7 from by rw [← h7]; exact HB.out.setCell (p := ⟨kb, q, none⟩) HKB.out.1 _)
      obtain ⟨f0, hf0⟩ : ∃ f0, KF K q q = f0 := ⟨_, rfl⟩
      rw [hf0] at cq
      clear hf0 hkt hkg hz ck hxb hxc g1
      go_wp2_with fail
      go_roundw
      case rel => exact ⟨q + 1, by omega, by go_num, KQ7, K17, B7⟩
      case measure => first | (simp [intOf]; done) | (simp [intOf]; omega)
    · have hqm : q = m := by omega
      rw [hqm] at KQ
      have KR := Lib.hid (KF_row KQ.out HKL.out)
      obtain ⟨c0, c1, c2, c3, c4⟩ := cell5 K1.out
      clear hqm
      have hmp : 0 < m := by rw [← HM.out, hk]; omega
      have e0 := KR.out.2 0 hmp
      have hs0 := HKS.out 0
      obtain ⟨k0, hk0⟩ : ∃ k0, K.getD 0 ⟨#[]⟩ = k0 := ⟨_, rfl⟩
      rw [hk0] at e0 hs0
      have HK0 := Lib.hid hk0
      clear hk hk0
      go_wp2_with fail
      go_ret
      exact ⟨by simp only [textF]; rw [HK0.out]; rfl, HB.out⟩
end Go.Proofs.YtkmnfkhchcoamaaGreatDoor

