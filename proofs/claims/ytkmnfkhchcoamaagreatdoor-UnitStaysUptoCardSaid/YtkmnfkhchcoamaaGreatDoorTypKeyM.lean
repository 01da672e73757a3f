import Derived.Test.YtkmnfkhchcoamaaGreatDoorTypMadeM
import Derived.Lib.ItoaNum
import Derived.Lib.Join
/- A type's key, as a function: types that are made right and have the same key are the same. -/
namespace Go.Proofs.YtkmnfkhchcoamaaGreatDoor
open Go.RowKit
set_option linter.unusedSimpArgs false
set_option linter.unusedVariables false

def kidsL (ks : List Int) : List UInt8 := (ks.map fun k => 32 :: Lib.itoa k).flatten
def baseL (t : Ty) : List UInt8 := if t.words = [] then t.name.data.toList else Lib.join (t.words.map (·.data.toList)) [32]
def restL (t : Ty) : List UInt8 := baseL t ++ kidsL (t.kids.drop 2)
def restT (t : Ty) : ByteArray := ⟨(restL t).toArray⟩
structure Ky where
  kind : Int
  n : Int
  many : Int
  k0 : Int
  k1 : Int
  rest : ByteArray
deriving DecidableEq
def keyT (t : Ty) : Ky := ⟨t.kind, t.n, t.kids.length, t.kids.getD 0 0, t.kids.getD 1 0, restT t⟩

theorem cut_eq : ∀ (x y u v : List UInt8), (32 : UInt8) ∉ x → (32 : UInt8) ∉ y → (u = [] ∨ u.head? = some 32) → (v = [] ∨ v.head? = some 32) → x ++ u = y ++ v → x = y ∧ u = v
  | [], [], u, v, _, _, _, _, h => ⟨rfl, h⟩
  | [], c :: y, u, v, _, hy, hu, _, h => by
    exfalso
    rw [List.nil_append, List.cons_append] at h
    rcases hu with hu | hu
    · rw [hu] at h; cases h
    · rw [h, List.head?_cons] at hu
      injection hu with hu
      exact hy (by rw [hu]; exact List.mem_cons_self)
  | c :: x, [], u, v, hx, _, _, hv, h => by
    exfalso
    rw [List.nil_append, List.cons_append] at h
    rcases hv with hv | hv
    · rw [hv] at h; cases h
    · rw [← h, List.head?_cons] at hv
      injection hv with hv
      exact hx (by rw [hv]; exact List.mem_cons_self)
  | c :: x, d :: y, u, v, hx, hy, hu, hv, h => by
    rw [List.cons_append, List.cons_append] at h
    injection h with h1 h2
    obtain ⟨e1, e2⟩ := cut_eq x y u v (fun g => hx (List.mem_cons_of_mem _ g)) (fun g => hy (List.mem_cons_of_mem _ g)) hu hv h2
    exact ⟨by rw [h1, e1], e2⟩
def toksL (R : List (List UInt8)) : List UInt8 := (R.map (32 :: ·)).flatten
theorem toks_head (R : List (List UInt8)) : toksL R = [] ∨ (toksL R).head? = some 32 := by
  cases R with
  | nil => exact .inl rfl
  | cons x r => exact .inr rfl
theorem toks_inj : ∀ (R S : List (List UInt8)) (x y : List UInt8), (∀ z ∈ x :: R, (32 : UInt8) ∉ z) → (∀ z ∈ y :: S, (32 : UInt8) ∉ z) → x ++ toksL R = y ++ toksL S → x = y ∧ R = S
  | R, S, x, y, hx, hy, h => by
    obtain ⟨e1, e2⟩ := cut_eq x y (toksL R) (toksL S) (hx x List.mem_cons_self) (hy y List.mem_cons_self) (toks_head R) (toks_head S) h
    refine ⟨e1, ?_⟩
    match R, S, e2 with
    | [], [], _ => rfl
    | [], b :: s, e2 => cases e2
    | a :: r, [], e2 => cases e2
    | a :: r, b :: s, e2 =>
      have e3 : a ++ toksL r = b ++ toksL s := by
        have : (32 : UInt8) :: (a ++ toksL r) = 32 :: (b ++ toksL s) := e2
        injection this
      obtain ⟨f1, f2⟩ := toks_inj r s a b (fun z hz => hx z (List.mem_cons_of_mem _ hz)) (fun z hz => hy z (List.mem_cons_of_mem _ hz)) e3
      rw [f1, f2]

theorem u8_dig {d : Nat} (h : d ≤ 9) : (UInt8.ofNat (48 + d)).toNat = 48 + d := by rw [UInt8.toNat_ofNat']; omega
theorem dec_dig (u : Nat) : ∀ c ∈ Lib.decDigits u, 48 ≤ c.toNat ∧ c.toNat ≤ 57 := by
  induction u using Nat.strongRecOn with
  | _ u ih =>
    rw [Lib.decDigits]
    split
    · rename_i h
      intro c hc
      rw [List.mem_singleton.1 hc, u8_dig (by omega)]
      omega
    · rename_i h
      intro c hc
      rcases List.mem_append.1 hc with h1 | h1
      · exact ih (u / 10) (by omega) c h1
      · rw [List.mem_singleton.1 h1, u8_dig (by omega)]
        omega
def valL (acc : Nat) (l : List UInt8) : Nat := l.foldl (fun a c => a * 10 + (c.toNat - 48)) acc
theorem dec_val (u : Nat) : valL 0 (Lib.decDigits u) = u := by
  induction u using Nat.strongRecOn with
  | _ u ih =>
    rw [Lib.decDigits]
    split
    · rename_i h
      unfold valL
      rw [List.foldl_cons, List.foldl_nil, u8_dig (by omega)]
      omega
    · rename_i h
      unfold valL
      rw [List.foldl_append]
      have := ih (u / 10) (by omega)
      unfold valL at this
      rw [this, List.foldl_cons, List.foldl_nil, u8_dig (by omega)]
      omega
theorem itoa_pos {k : Int} (h : 0 ≤ k) : Lib.itoa k = Lib.decDigits k.toNat := by unfold Lib.itoa; rw [if_neg (by omega)]
theorem itoa_inj {a b : Int} (ha : 0 ≤ a) (hb : 0 ≤ b) (h : Lib.itoa a = Lib.itoa b) : a = b := by
  rw [itoa_pos ha, itoa_pos hb] at h
  have := congrArg (valL 0) h
  rw [dec_val, dec_val] at this
  omega
theorem itoa_no {a : Int} (ha : 0 ≤ a) : (32 : UInt8) ∉ Lib.itoa a := by
  rw [itoa_pos ha]
  intro h
  have := dec_dig _ _ h
  simp at this
theorem map_itoa_inj : ∀ {xs ys : List Int}, (∀ k ∈ xs, 0 ≤ k) → (∀ k ∈ ys, 0 ≤ k) → xs.map Lib.itoa = ys.map Lib.itoa → xs = ys
  | [], [], _, _, _ => rfl
  | [], _ :: _, _, _, h => by cases h
  | _ :: _, [], _, _, h => by cases h
  | a :: xs, b :: ys, hx, hy, h => by
    rw [List.map_cons, List.map_cons] at h
    injection h with h1 h2
    rw [itoa_inj (hx a List.mem_cons_self) (hy b List.mem_cons_self) h1, map_itoa_inj (fun k hk => hx k (List.mem_cons_of_mem _ hk)) (fun k hk => hy k (List.mem_cons_of_mem _ hk)) h2]

def No32 (s : ByteArray) : Prop := (32 : UInt8) ∉ s.data.toList
theorem no32_of {s : ByteArray} (h : ∀ k, k < s.size → byteAt s k ≠ 32) : No32 s := by
  intro hm
  obtain ⟨k, hk, e⟩ := List.getElem_of_mem hm
  have hk' : k < s.size := by simpa using hk
  refine h k hk' ?_
  rw [byteAt_eq hk']
  have : s[k] = 32 := by rw [← e]; rfl
  rw [this]; rfl
theorem in_no {c : Int} (h : inB c = true) : c ≠ 32 := by
  rintro rfl
  exact absurd h (by decide)
theorem name_no {s : ByteArray} (h : nameB s = true) : No32 s := no32_of fun k hk => in_no ((of_decide_eq_true h).2.2.2 k hk)
theorem byteAt_ext {s : ByteArray} {a b k : Nat} (hb : b ≤ s.size) (hk : a + k < b) : byteAt (s.extract a b) k = byteAt s (a + k) := by
  have hsz : k < (s.extract a b).size := by rw [ByteArray.size_extract]; omega
  rw [byteAt_eq hsz, byteAt_eq (by omega), ByteArray.getElem_extract]
theorem field_no {w : ByteArray} (h : nameB (fieldT w) = true) : No32 w := by
  unfold fieldT at h
  split at h
  · rename_i hc
    have := (of_decide_eq_true h).2.2.2
    refine no32_of fun k hk => ?_
    by_cases h0 : k = 0
    · rw [h0, hc.2]; decide
    · have g := this (k - 1) (by rw [ByteArray.size_extract]; omega)
      rw [byteAt_ext (Nat.le_refl _) (by omega), show 1 + (k - 1) = k by omega] at g
      exact in_no g
  · exact name_no h
theorem mark_no {w : ByteArray} (h : markB w = true) : No32 w := by
  unfold markB at h
  rw [Bool.or_eq_true, beq_iff_eq, beq_iff_eq, ByteArray.toList_eq] at h
  unfold No32
  rcases h with h | h <;> rw [h] <;> decide
theorem named_no {s : ByteArray} (h : namedB s = true) : No32 s := by
  unfold namedB at h
  cases hd : dotAt s with
  | none => rw [hd] at h; cases h
  | some i =>
    rw [hd] at h
    have h : (nameB (s.extract 0 i) && nameB (s.extract (i + 1) s.size)) = true := h
    rw [Bool.and_eq_true] at h
    unfold dotAt at hd
    have hi := List.mem_of_find?_eq_some hd
    have hp := List.find?_some hd
    rw [List.mem_range] at hi
    have hp : byteAt s i = 46 := of_decide_eq_true hp
    have h1 := (of_decide_eq_true h.1).2.2.2
    have h2 := (of_decide_eq_true h.2).2.2.2
    refine no32_of fun k hk => ?_
    rcases Nat.lt_trichotomy k i with g | g | g
    · have := h1 k (by rw [ByteArray.size_extract]; omega)
      rw [byteAt_ext (by omega) (by omega), Nat.zero_add] at this
      exact in_no this
    · rw [g, hp]; decide
    · have := h2 (k - (i + 1)) (by rw [ByteArray.size_extract]; omega)
      rw [byteAt_ext (Nat.le_refl _) (by omega), show i + 1 + (k - (i + 1)) = k by omega] at this
      exact in_no this
theorem size0_no {s : ByteArray} (h : s.size = 0) : No32 s := no32_of fun k hk => by omega
theorem eq_empty {s : ByteArray} (h : s.size = 0) : s = ⟨#[]⟩ := by
  apply ByteArray.ext
  exact Array.eq_empty_of_size_eq_zero h

/-- What the key leans on. -/
structure Made (t : Ty) : Prop where
  name : No32 t.name
  words : ∀ w ∈ t.words, No32 w
  kids : ∀ k ∈ t.kids, 0 ≤ k
  many : t.words = [] ∨ t.name.size = 0
  lens : t.kind = 6 ∨ t.kind = 7 → t.words.length = t.kids.length ∧ t.name.size = 0
  bare : ¬ (t.kind = 6 ∨ t.kind = 7) → t.words = []
theorem made_shape {l : List Ty} {t : Ty} (h : madeB l t = true) : Made t := by
  unfold madeB at h
  rw [Bool.and_eq_true] at h
  obtain ⟨hk, h⟩ := h
  have hk0 : ∀ k ∈ t.kids, 0 ≤ k := fun k hm => (kidsB_in hk k hm).1
  have bareC : bareB t = true → ¬ (t.kind = 6 ∨ t.kind = 7) → Made t := fun g hn => by
    have := of_decide_eq_true g
    exact ⟨size0_no this.1, fun w hw => by (rw [this.2] at hw; cases hw), hk0, .inl this.2, fun g => absurd g hn, fun _ => this.2⟩
  split at h
  · rw [Bool.and_eq_true] at h; exact bareC h.1 (by omega)
  split at h
  · rw [Bool.and_eq_true] at h; exact bareC h.1 (by omega)
  split at h
  · rw [Bool.and_eq_true] at h; exact bareC h.1 (by omega)
  split at h
  · rw [Bool.and_eq_true] at h; exact bareC h.1 (by omega)
  split at h
  · rename_i h6
    rw [Bool.and_eq_true] at h
    have g := of_decide_eq_true h.1
    refine ⟨size0_no g.1, fun w hw => ?_, hk0, .inr g.1, fun _ => ⟨g.2.2.2, g.1⟩, fun hn => absurd (.inl h6) hn⟩
    obtain ⟨i, hi, rfl⟩ := List.getElem_of_mem hw
    have hf := h.2
    unfold fieldsB at hf
    rw [List.all_eq_true] at hf
    have := hf i (List.mem_range.2 hi)
    unfold fieldB at this
    rw [Bool.and_eq_true, getD_of hi] at this
    exact field_no this.1
  split at h
  · rename_i h7
    rw [Bool.and_eq_true] at h
    have g := of_decide_eq_true h.1
    refine ⟨size0_no g.1, fun w hw => ?_, hk0, .inr g.1, fun _ => ⟨g.2.2.2.2, g.1⟩, fun hn => absurd (.inr h7) hn⟩
    obtain ⟨i, hi, rfl⟩ := List.getElem_of_mem hw
    have hf := h.2
    unfold elemsB at hf
    rw [List.all_eq_true] at hf
    have := hf i (List.mem_range.2 hi)
    rw [getD_of hi] at this
    unfold elemB at this
    by_cases hm : markB t.words[i] = true
    · exact mark_no hm
    · rw [if_neg hm, Bool.and_eq_true, Bool.and_eq_true] at this
      exact name_no this.1.1
  split at h
  · rw [Bool.and_eq_true] at h
    have g := of_decide_eq_true h.2
    exact ⟨named_no h.1, fun w hw => by (rw [g.2.2] at hw; cases hw), hk0, .inl g.2.2, fun g => by omega, fun _ => g.2.2⟩
  split at h
  · rw [Bool.and_eq_true] at h; exact bareC h.1 (by omega)
  · cases h
theorem made_small {l : List Ty} {t : Ty} (h : madeB l t = true) : TySm t := by
  unfold madeB at h
  rw [Bool.and_eq_true] at h
  obtain ⟨hk, h⟩ := h
  have none : t.words = [] → TySm t := fun g s hs => by rw [g] at hs; cases hs
  have nm : ∀ {w : ByteArray}, nameB w = true → w.size ≤ 20 := fun h => (of_decide_eq_true h).2.1
  split at h
  · rw [Bool.and_eq_true] at h; exact none (of_decide_eq_true h.1).2
  split at h
  · rw [Bool.and_eq_true] at h; exact none (of_decide_eq_true h.1).2
  split at h
  · rw [Bool.and_eq_true] at h; exact none (of_decide_eq_true h.1).2
  split at h
  · rw [Bool.and_eq_true] at h; exact none (of_decide_eq_true h.1).2
  split at h
  · rw [Bool.and_eq_true] at h
    intro w hw
    obtain ⟨i, hi, rfl⟩ := List.getElem_of_mem hw
    have hf := h.2
    unfold fieldsB at hf
    rw [List.all_eq_true] at hf
    have := hf i (List.mem_range.2 hi)
    unfold fieldB at this
    rw [Bool.and_eq_true, getD_of hi] at this
    have g := nm this.1
    unfold fieldT at g
    split at g
    · rw [ByteArray.size_extract] at g; omega
    · omega
  split at h
  · rw [Bool.and_eq_true] at h
    intro w hw
    obtain ⟨i, hi, rfl⟩ := List.getElem_of_mem hw
    have hf := h.2
    unfold elemsB at hf
    rw [List.all_eq_true] at hf
    have := hf i (List.mem_range.2 hi)
    rw [getD_of hi] at this
    unfold elemB at this
    by_cases hm : markB t.words[i] = true
    · unfold markB at hm
      rw [Bool.or_eq_true, beq_iff_eq, beq_iff_eq, ByteArray.toList_eq] at hm
      have e : t.words[i].size = t.words[i].data.toList.length := by simp
      rw [e]
      rcases hm with hm | hm <;> rw [hm] <;> decide
    · rw [if_neg hm, Bool.and_eq_true, Bool.and_eq_true] at this
      have := nm this.1.1
      omega
  split at h
  · rw [Bool.and_eq_true] at h
    exact none (of_decide_eq_true h.2).2.2
  split at h
  · rw [Bool.and_eq_true] at h; exact none (of_decide_eq_true h.1).2
  · cases h
theorem kidsL_toks (ks : List Int) : kidsL ks = toksL (ks.map Lib.itoa) := by unfold kidsL toksL; rw [List.map_map]; rfl
theorem toks_app (R S : List (List UInt8)) : toksL (R ++ S) = toksL R ++ toksL S := by unfold toksL; rw [List.map_append, List.flatten_append]
theorem restL_words {t : Ty} {w : ByteArray} {r : List ByteArray} (h : t.words = w :: r) : restL t = w.data.toList ++ toksL (r.map (·.data.toList) ++ (t.kids.drop 2).map Lib.itoa) := by
  unfold restL baseL
  rw [if_neg (by rw [h]; simp), h, List.map_cons, Lib.join_cons, kidsL_toks, toks_app, List.append_assoc]
  rfl
theorem restL_none {t : Ty} (h : t.words = []) : restL t = t.name.data.toList ++ toksL ((t.kids.drop 2).map Lib.itoa) := by
  unfold restL baseL
  rw [if_pos h, kidsL_toks]
theorem bytes_ext {a b : ByteArray} (h : a.data.toList = b.data.toList) : a = b := ByteArray.ext (Array.toList_inj.1 h)
theorem map_bytes_inj : ∀ {xs ys : List ByteArray}, xs.map (·.data.toList) = ys.map (·.data.toList) → xs = ys
  | [], [], _ => rfl
  | [], _ :: _, h => by cases h
  | _ :: _, [], h => by cases h
  | a :: xs, b :: ys, h => by
    rw [List.map_cons, List.map_cons] at h
    injection h with h1 h2
    rw [bytes_ext h1, map_bytes_inj h2]
theorem kids_eq {xs ys : List Int} (hl : xs.length = ys.length) (h0 : xs.getD 0 0 = ys.getD 0 0) (h1 : xs.getD 1 0 = ys.getD 1 0) (hd : xs.drop 2 = ys.drop 2) : xs = ys := by
  match xs, ys, hl with
  | [], [], _ => rfl
  | [a], [b], _ => simp at h0; rw [h0]
  | a :: c :: r, b :: d :: s, _ => simp at h0 h1 hd; rw [h0, h1, hd]
theorem itoas_no {ks : List Int} (h : ∀ k ∈ ks, 0 ≤ k) : ∀ z ∈ (ks.drop 2).map Lib.itoa, (32 : UInt8) ∉ z := by
  intro z hz
  obtain ⟨k, hk, rfl⟩ := List.mem_map.1 hz
  exact itoa_no (h k (List.mem_of_mem_drop hk))
theorem keyT_inj {a b : Ty} (ha : Made a) (hb : Made b) (h : keyT a = keyT b) : a = b := by
  unfold keyT at h
  simp only [Ky.mk.injEq] at h
  obtain ⟨h1, h2, h3, h4, h5, h6⟩ := h
  have h3 : a.kids.length = b.kids.length := by omega
  have h6 : restL a = restL b := by
    have := congrArg (fun s => s.data.toList) h6
    simpa [restT] using this
  have hwl : a.words.length = b.words.length := by
    by_cases g : a.kind = 6 ∨ a.kind = 7
    · rw [(ha.lens g).1, (hb.lens (by rw [← h1]; exact g)).1, h3]
    · rw [ha.bare g, hb.bare (by rw [← h1]; exact g)]
  have key : a.name = b.name ∧ a.words = b.words ∧ a.kids.drop 2 = b.kids.drop 2 := by
    cases hwa : a.words with
    | nil =>
      have hwb : b.words = [] := by rw [hwa] at hwl; exact List.eq_nil_of_length_eq_zero hwl.symm
      rw [restL_none hwa, restL_none hwb] at h6
      obtain ⟨e1, e2⟩ := toks_inj _ _ _ _ (fun z hz => by
        rcases List.mem_cons.1 hz with rfl | hz
        · exact ha.name
        · exact itoas_no ha.kids z hz) (fun z hz => by
        rcases List.mem_cons.1 hz with rfl | hz
        · exact hb.name
        · exact itoas_no hb.kids z hz) h6
      exact ⟨bytes_ext e1, hwb.symm, map_itoa_inj (fun k hk => ha.kids k (List.mem_of_mem_drop hk)) (fun k hk => hb.kids k (List.mem_of_mem_drop hk)) e2⟩
    | cons w r =>
      cases hwb : b.words with
      | nil => rw [hwa, hwb] at hwl; cases hwl
      | cons v s =>
        rw [restL_words hwa, restL_words hwb] at h6
        have ga : ∀ z ∈ w.data.toList :: (r.map (·.data.toList) ++ (a.kids.drop 2).map Lib.itoa), (32 : UInt8) ∉ z := fun z hz => by
          rcases List.mem_cons.1 hz with rfl | hz
          · exact ha.words w (by rw [hwa]; exact List.mem_cons_self)
          rcases List.mem_append.1 hz with hz | hz
          · obtain ⟨x, hx, rfl⟩ := List.mem_map.1 hz
            exact ha.words x (by rw [hwa]; exact List.mem_cons_of_mem _ hx)
          · exact itoas_no ha.kids z hz
        have gb : ∀ z ∈ v.data.toList :: (s.map (·.data.toList) ++ (b.kids.drop 2).map Lib.itoa), (32 : UInt8) ∉ z := fun z hz => by
          rcases List.mem_cons.1 hz with rfl | hz
          · exact hb.words v (by rw [hwb]; exact List.mem_cons_self)
          rcases List.mem_append.1 hz with hz | hz
          · obtain ⟨x, hx, rfl⟩ := List.mem_map.1 hz
            exact hb.words x (by rw [hwb]; exact List.mem_cons_of_mem _ hx)
          · exact itoas_no hb.kids z hz
        obtain ⟨e1, e2⟩ := toks_inj _ _ _ _ ga gb h6
        have hl2 : (r.map (·.data.toList)).length = (s.map (·.data.toList)).length := by
          rw [hwa, hwb] at hwl
          simp at hwl
          simp [hwl]
        obtain ⟨e3, e4⟩ := List.append_inj e2 hl2
        have na : a.name.size = 0 := by
          rcases ha.many with g | g
          · rw [hwa] at g; cases g
          · exact g
        have nb : b.name.size = 0 := by
          rcases hb.many with g | g
          · rw [hwb] at g; cases g
          · exact g
        exact ⟨by rw [eq_empty na, eq_empty nb], by rw [bytes_ext e1, map_bytes_inj e3], map_itoa_inj (fun k hk => ha.kids k (List.mem_of_mem_drop hk)) (fun k hk => hb.kids k (List.mem_of_mem_drop hk)) e4⟩
  obtain ⟨k1, k2, k3⟩ := key
  have k4 := kids_eq h3 h4 h5 k3
  cases a; cases b
  simp only [Ty.mk.injEq]
  exact ⟨h1, k1, h2, k2, k4⟩
end Go.Proofs.YtkmnfkhchcoamaaGreatDoor

