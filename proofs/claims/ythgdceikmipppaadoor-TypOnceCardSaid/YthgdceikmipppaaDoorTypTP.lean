/- The program's parts: what stands in an interface's text. -/
import Derived.Test.YthgdceikmipppaaDoorTypTK
namespace Go.Proofs.YthgdceikmipppaaDoor
open Go.RowKit
set_option linter.unusedSimpArgs false
set_option linter.unusedVariables false

def mF (ws K : List ByteArray) (q : Nat) : List ByteArray := (((ws.zip K).take q).filter (fun p => !markB p.1)).map (fun p => partF p.1 p.2)
def tF1 (w k : ByteArray) : ByteArray := if w.toList = [61] then k else w ++ k
def tF (ws K : List ByteArray) (q : Nat) : List ByteArray := (((ws.zip K).take q).filter (fun p => markB p.1)).map (fun p => tF1 p.1 p.2)
theorem zip_take {ws K : List ByteArray} {m q : Nat} (h1 : ws.length = m) (h2 : K.length = m) (hq : q < m) : (ws.zip K).take (q + 1) = (ws.zip K).take q ++ [(ws.getD q ⟨#[]⟩, K.getD q ⟨#[]⟩)] := by
  rw [List.take_succ_eq_append_getElem (by rw [List.length_zip]; omega), List.getElem_zip, getD_of (by omega), getD_of (by omega)]
theorem mF_plain {ws K : List ByteArray} {m q : Nat} (h1 : ws.length = m) (h2 : K.length = m) (hq : q < m) (hm : markB (ws.getD q ⟨#[]⟩) = false) : mF ws K (q + 1) = mF ws K q ++ [partF (ws.getD q ⟨#[]⟩) (K.getD q ⟨#[]⟩)] ∧ tF ws K (q + 1) = tF ws K q := by
  unfold mF tF
  rw [zip_take h1 h2 hq, List.filter_append, List.filter_append, List.map_append, List.map_append]
  simp only [List.filter_cons, List.filter_nil, hm]
  simp
theorem mF_mark {ws K : List ByteArray} {m q : Nat} (h1 : ws.length = m) (h2 : K.length = m) (hq : q < m) (hm : markB (ws.getD q ⟨#[]⟩) = true) : mF ws K (q + 1) = mF ws K q ∧ tF ws K (q + 1) = tF ws K q ++ [tF1 (ws.getD q ⟨#[]⟩) (K.getD q ⟨#[]⟩)] := by
  unfold mF tF
  rw [zip_take h1 h2 hq, List.filter_append, List.filter_append, List.map_append, List.map_append]
  simp only [List.filter_cons, List.filter_nil, hm]
  simp
theorem mF_zero (ws K : List ByteArray) : mF ws K 0 = [] ∧ tF ws K 0 = [] := by simp [mF, tF]
theorem mF_len (ws K : List ByteArray) (q : Nat) : (mF ws K q).length ≤ q ∧ (tF ws K q).length ≤ q := by
  unfold mF tF
  rw [List.length_map, List.length_map]
  have h1 := List.length_filter_le (fun p : ByteArray × ByteArray => !markB p.1) ((ws.zip K).take q)
  have h2 := List.length_filter_le (fun p : ByteArray × ByteArray => markB p.1) ((ws.zip K).take q)
  rw [List.length_take] at h1 h2
  omega
theorem trim_le (l p : List UInt8) : (Lib.trimPrefix l p).length ≤ l.length := by
  unfold Lib.trimPrefix
  split
  · rw [List.length_drop]; omega
  · exact Nat.le_refl _
theorem partF_size (w k : ByteArray) : (partF w k).size ≤ w.size + k.size := by
  unfold partF
  rw [ByteArray.size_append]
  have h := trim_le k.data.toList [102, 117, 110, 99]
  have e : k.data.toList.length = k.size := by simp
  have e2 : (⟨(Lib.trimPrefix k.data.toList [102, 117, 110, 99]).toArray⟩ : ByteArray).size = (Lib.trimPrefix k.data.toList [102, 117, 110, 99]).length := by
    show ((Lib.trimPrefix k.data.toList [102, 117, 110, 99]).toArray).size = _
    simp
  omega
theorem tF1_size (w k : ByteArray) : (tF1 w k).size ≤ w.size + k.size := by
  unfold tF1
  split
  · omega
  · rw [ByteArray.size_append]; exact Nat.le_refl _
theorem zip_sizes {ws K : List ByteArray} {q : Nat} (h1 : ∀ s ∈ ws, s.size ≤ 30) (h2 : ∀ s ∈ K, s.size ≤ 4000) : ∀ p ∈ (ws.zip K).take q, p.1.size ≤ 30 ∧ p.2.size ≤ 4000 := fun p hp =>
  ⟨h1 _ (List.of_mem_zip (List.mem_of_mem_take hp)).1, h2 _ (List.of_mem_zip (List.mem_of_mem_take hp)).2⟩
theorem mF_sizes {ws K : List ByteArray} (q : Nat) (h1 : ∀ s ∈ ws, s.size ≤ 30) (h2 : ∀ s ∈ K, s.size ≤ 4000) : (∀ s ∈ mF ws K q, s.size ≤ 5000) ∧ ∀ s ∈ tF ws K q, s.size ≤ 5000 := by
  constructor
  · intro s hs
    obtain ⟨p, hp, rfl⟩ := List.mem_map.1 hs
    have := zip_sizes h1 h2 p (List.mem_filter.1 hp).1
    have := partF_size p.1 p.2
    omega
  · intro s hs
    obtain ⟨p, hp, rfl⟩ := List.mem_map.1 hs
    have := zip_sizes h1 h2 p (List.mem_filter.1 hp).1
    have := tF1_size p.1 p.2
    omega
def compS (n : Int) : List ByteArray := if n % 2 = 1 then [⟨#[99, 111, 109, 112, 97, 114, 97, 98, 108, 101]⟩] else []
theorem compS_facts (n : Int) : (compS n).length ≤ 1 ∧ ∀ s ∈ compS n, s.size ≤ 10 := by
  unfold compS
  split <;> simp <;> decide
theorem partsF_eq {s : ByteArray} {n : Int} {ws K : List ByteArray} {ks : List Int} {m : Nat} (h1 : ws.length = m) (h2 : K.length = m) :
    partsF ⟨7, s, n, ws, ks⟩ K = if n < 2 then compS n ++ mF ws K m else if tF ws K m = [] then (compS n ++ mF ws K m) ++ [⟨#[110, 111, 110, 101]⟩] else (compS n ++ mF ws K m) ++ [joinT (tF ws K m) ⟨#[32, 124, 32]⟩] := by
  have e : (ws.zip K).take m = ws.zip K := List.take_of_length_le (by rw [List.length_zip]; omega)
  unfold partsF methodsF termsF mF tF compS tF1
  rw [e]
theorem join_size {ss : List ByteArray} (hl : ss.length ≤ 18) (hz : ∀ s ∈ ss, s.size ≤ 5000) : (joinT ss ⟨#[32, 124, 32]⟩).size ≤ 100000 := joinT_size hl hz (by decide)
theorem partsF_facts {nm : ByteArray} {n : Int} {ws K : List ByteArray} {ks : List Int} {m : Nat} (h1 : ws.length = m) (h2 : K.length = m) (hm : m ≤ 18) (h3 : ∀ s ∈ ws, s.size ≤ 30) (h4 : ∀ s ∈ K, s.size ≤ 4000) :
    (partsF ⟨7, nm, n, ws, ks⟩ K).length ≤ 20 ∧ ∀ s ∈ partsF ⟨7, nm, n, ws, ks⟩ K, s.size ≤ 100000 := by
  rw [partsF_eq h1 h2]
  have l1 := (compS_facts n).1
  have l2 := mF_len ws K m
  have s1 := (compS_facts n).2
  have s2 := mF_sizes m h3 h4
  have s3 := join_size (ss := tF ws K m) (by omega) s2.2
  have hb : ∀ x ∈ compS n ++ mF ws K m, x.size ≤ 100000 := fun x hx => by
    rcases List.mem_append.1 hx with hx | hx
    · have := s1 x hx; omega
    · have := s2.1 x hx; omega
  split
  · exact ⟨by rw [List.length_append]; omega, hb⟩
  · split
    · refine ⟨by simp only [List.length_append, List.length_cons, List.length_nil]; omega, fun x hx => ?_⟩
      rcases List.mem_append.1 hx with hx | hx
      · exact hb x hx
      · rw [List.mem_singleton.1 hx]; decide
    · refine ⟨by simp only [List.length_append, List.length_cons, List.length_nil]; omega, fun x hx => ?_⟩
      rcases List.mem_append.1 hx with hx | hx
      · exact hb x hx
      · rw [List.mem_singleton.1 hx]; exact s3
/-- A row of the call's own that holds texts. -/
def OwnS (w : World) (base : Nat) (v : Value) (xs : List ByteArray) : Prop := w.ownsRow base 9 1 v xs.length (S9 xs)
theorem ownS_nil (w : World) (base : Nat) : OwnS w base (.slice none 0 0) [] := World.ownsRow_nil _ _ _ _
/-- Their blocks are not one. -/
def ApartV (v v2 : Value) : Prop := v.ownBlock = none ∨ v2.ownBlock = none ∨ v.ownBlock ≠ v2.ownBlock
theorem ApartV.symm {v v2 : Value} (h : ApartV v v2) : ApartV v2 v := by
  rcases h with h | h | h
  · exact .inr (.inl h)
  · exact .inl h
  · exact .inr (.inr fun e => h e.symm)
theorem push_str {W wr w1 : World} {v v' v2 : Value} {xs ys : List ByteArray} {x : ByteArray} (ho : OwnS wr W.heap.size v xs) (ho2 : OwnS wr W.heap.size v2 ys) (hB : Below W.heap.size W wr) (ha : ApartV v v2)
    (h1 : w1.ownsRow W.heap.size 9 1 v' (xs.length + 1) (S9 xs ++ [.string x])) (hg : (wr.alloc (.cells #[.string x] 9)).grownBy w1 v.ownBlock) (hb : v'.ownBlock = v.ownBlock ∨ v'.ownBlock = some (wr.heap.size + 1)) :
    OwnS w1 W.heap.size v' (xs ++ [x]) ∧ OwnS w1 W.heap.size v2 ys ∧ ApartV v' v2 ∧ Below W.heap.size W w1 := by
  have ba : Below wr.heap.size wr (wr.alloc (.cells #[.string x] 9)) := (Below.refl _ _).alloc (Nat.le_refl _) _
  have hb2 := hB.trans (ba.mono hB.size)
  refine ⟨?_, ?_, ?_, hb2.grown hg (by have := hb2.size; omega) (fun k hk => ?_)⟩
  · unfold OwnS
    rw [List.length_append]
    have e : S9 (xs ++ [x]) = S9 xs ++ [.string x] := by simp [S9]
    rw [e]
    exact h1
  · refine (World.ownsRow.alloc ho2 _).kept hg ?_
    rcases ha with h | h | h
    · rw [h]
      cases h2 : v2.ownBlock
      · exact .inl rfl
      · exact .inr (by simp)
    · exact .inl h
    · exact .inr (fun e => h e.symm)
  · rcases hb with hb | hb
    · unfold ApartV
      rw [hb]
      exact ha
    · cases h2 : v2.ownBlock with
      | none => exact .inr (.inl h2)
      | some k =>
        refine .inr (.inr fun e => ?_)
        have := World.ownsRow.lt ho2 k h2
        rw [hb, h2] at e
        injection e with e
        omega
  · exact (World.ownsRow.lt ho k hk).1
theorem ownS_row {w : World} {base : Nat} {v : Value} {xs : List ByteArray} (h : OwnS w base v xs) : ∃ ao cap, v = .slice ao xs.length cap ∧ SRow w ao xs ∧ xs.length ≤ cap := by
  obtain ⟨ao, cap, e, r, l⟩ := srow_own h
  exact ⟨ao, cap, e, r.row, l⟩
theorem OwnS.below {w w' : World} {base : Nat} {v : Value} {xs : List ByteArray} (h : OwnS w base v xs) (hb : Below w.heap.size w w') : OwnS w' base v xs := by
  obtain ⟨h1, h2⟩ := h
  refine ⟨h1, ?_⟩
  rcases h2 with h2 | ⟨g, cap, cur, rfl, hg, hcur, rest⟩
  · exact .inl h2
  · exact .inr ⟨g, cap, cur, rfl, hg, by rw [hb.block g (Array.getElem?_eq_some_iff.1 hcur).1]; exact hcur, rest⟩
theorem and_bits {n : Int} (h : 0 ≤ n ∧ n ≤ 3) : bits BinOp.and IntKind.i64 n 1 = (if n % 2 = 1 then 1 else 0) ∧ bits BinOp.and IntKind.i64 n 2 = (if n < 2 then 0 else 2) := by
  obtain rfl | rfl | rfl | rfl : n = 0 ∨ n = 1 ∨ n = 2 ∨ n = 3 := by omega
  all_goals decide
set_option maxHeartbeats 64000000 in
set_option maxRecDepth 100000 in
theorem parts_any (s : ByteArray) (n : Int) (ws : List ByteArray) (ks : List Int) (K : List ByteArray) (wo ko : Option Addr) (wc kc kl kb m : Nat) (w : World) (ht : TyC w wo ko ⟨7, s, n, ws, ks⟩) (hw : ws.length = m) (hwc : ws.length ≤ wc) (hK : K.length = m) (hn : 0 ≤ n ∧ n ≤ 3)
    (hrow : ∀ j, j < m → w.cell? ⟨kb, j, none⟩ = some (.string (K.getD j ⟨#[]⟩))) (hkb : kb < w.heap.size) (hks : ∀ j, (K.getD j ⟨#[]⟩).size ≤ 4000) :
    Calls Tryd.prog 42 #[.agg #[.int .i64 7, .string s, .int .i64 n, .slice wo m wc, .slice ko kl kc], .slice (some ⟨kb, 0, none⟩) m m] w fun e w' => ∃ ao cap, e = .returned (.slice ao (partsF ⟨7, s, n, ws, ks⟩ K).length cap) ∧ SRow w' ao (partsF ⟨7, s, n, ws, ks⟩ K) ∧ (partsF ⟨7, s, n, ws, ks⟩ K).length ≤ cap ∧ Below w.heap.size w w' := by
  have hwl : m ≤ 18 := by rw [← hw]; exact ht.ok.wl
  obtain ⟨hand1, hand2⟩ := and_bits hn
  obtain ⟨i0, hi, hz0, hz1, hz2⟩ := info_parts info_strT
  obtain ⟨w1, h1⟩ : ∃ w1, w.alloc (.cells #[.int .i64 7, .string s, .int .i64 n, .slice wo m wc, .slice ko kl kc] 31) = w1 := ⟨_, rfl⟩
  obtain ⟨k1, q1, z1⟩ := box_new h1
  have BW := Lib.hid q1
  have K1 := Lib.hid k1
  have HTY := Lib.hid ht
  have HW := Lib.hid hw
  have HWC := Lib.hid (show m ≤ wc from by rw [← hw]; exact hwc)
  have HKL := Lib.hid hK
  have HKS := Lib.hid hks
  have HR := Lib.hid (And.intro hrow hkb)
  have H2 := Lib.hid hand2
  have HN := Lib.hid hn
  have HPF := Lib.hid (partsF_eq (s := s) (n := n) (ks := ks) hw hK)
  obtain ⟨P, hP⟩ : ∃ P, partsF ⟨7, s, n, ws, ks⟩ K = P := ⟨_, rfl⟩
  have HPE := Lib.hid hP
  rw [hP]
  obtain ⟨c0, c1, c2, c3, c4⟩ := cell5 k1
  clear ht hw hwc hK hks hrow hkb hn k1 q1 z1 hP hand2
  by_cases hodd : n % 2 = 1
  · rw [if_pos hodd] at hand1
    have HC := Lib.hid (show compS n = [⟨#[99, 111, 109, 112, 97, 114, 97, 98, 108, 101]⟩] from by unfold compS; rw [if_pos hodd])
    have ON := Lib.hid (ownS_nil w1 w1.heap.size)
    have OM := Lib.hid (ownS_nil w1 w1.heap.size)
    have B0 := Lib.hid (Below.refl w1.heap.size w1)
    have A0 := Lib.hid (show ApartV (.slice none 0 0) (.slice none 0 0) from .inl rfl)
    have BZ := Lib.hid (Nat.le_refl w1.heap.size)
    have HLN := Lib.hid (show (([] : List ByteArray)).length ≤ 20 ∧ True from by decide)
    clear hodd
    go_enter Tryd.func42, Tryd.ntmps42
    obtain ⟨nl, hnl⟩ : ∃ nl, (([] : List ByteArray)).length = nl := ⟨_, rfl⟩
    have HO1 := Lib.hid ON.out
    unfold OwnS at HO1
    rw [hnl] at HO1
    have HNL := Lib.hid hnl
    have hnl20 : nl ≤ 20 := by rw [← hnl]; first | exact HLN.out.1 | exact HLN.out.2
    clear hnl
    go_wp2_with (at_builtin; refine wpList_append_own_at _ rfl _ _ 28 rfl w1.heap.size 9 i0 (.string ⟨#[]⟩) 1 16 Tryd.underlying28 hi hz0 hz1 hz2 rfl (by decide) _ nl (S9 (([] : List ByteArray))) rfl (HO1.out.alloc _) ⟨_, 0, none⟩ 1 1 [.string (⟨#[99, 111, 109, 112, 97, 114, 97, 98, 108, 101]⟩)] rfl ?c1 ?c2 ?c3 ?c4 ?c5 ?c6 ?_)
    case c1 => rfl
    case c2 => exact cell_newS _ _ _
    case c3 => exact fun u hu => by rw [List.mem_singleton.1 hu]; rfl
    case c4 => unfold maxLen; omega
    case c5 => omega
    case c6 => have := BZ.out; first | omega | (simp; omega) | simp
    intro v' w3 hown3 hgrow _ hblk
    have hp := push_str ON.out OM.out B0.out A0.out (by rw [HNL.out]; exact hown3) hgrow hblk
    have NL := Lib.hid (show OwnS w3 w1.heap.size v' (compS n ++ mF ws K 0) from by rw [HC.out, (mF_zero ws K).1]; exact hp.1)
    have NT := Lib.hid (show OwnS w3 w1.heap.size (.slice none 0 0) (tF ws K 0) from by rw [(mF_zero ws K).2]; exact hp.2.1)
    have NA := Lib.hid hp.2.2.1
    have NB := Lib.hid hp.2.2.2
    clear hp hown3 hgrow hblk HO1 ON OM B0 A0 BZ HLN h1 c0 c1 c2 c3 c4
    obtain ⟨c0, c1, c2, c3, c4⟩ := cell5 (K1.out.below NB.out)
    go_wp2_with fail
    clear c0 c1 c2 c3 c4 hand1
    go_loopw [5, 6, 19] (fun vl vt v wr => ∃ q : Nat, q ≤ m ∧ v = .int .i64 q ∧ Hid (OwnS wr w1.heap.size vl (compS n ++ mF ws K q)) ∧ Hid (OwnS wr w1.heap.size vt (tF ws K q)) ∧ Hid (ApartV vl vt) ∧ Hid (Below w1.heap.size w1 wr)) (fun _ _ v _ => m - (intOf v).toNat)
    case atStart => exact ⟨0, Nat.zero_le _, rfl, NL, NT, NA, NB⟩
    case round =>
      obtain ⟨q, hq, rfl, OL, OT, AP, HB⟩ := hrel
      have HLN := Lib.hid (show (compS n ++ mF ws K q).length ≤ 20 ∧ (tF ws K q).length ≤ 20 from by
        have h1 := (compS_facts n).1
        have h2 := mF_len ws K q
        rw [List.length_append]
        omega)
      have BZ := Lib.hid HB.out.size
      have SY := Lib.hid AP.out.symm
      by_cases hql : q < m
      · have hqx : q < ws.length := by rw [HW.out]; exact hql
        obtain ⟨xb, xof, rfl, hxb, hxc⟩ := HTY.out.words.cells (by show 0 < ws.length; omega)
        have ck : w.cell? ⟨xb, xof + q, none⟩ = some (.string (ws.getD q ⟨#[]⟩)) := hxc q hqx
        have ck2 : wr.cell? ⟨xb, xof + q, none⟩ = some (.string (ws.getD q ⟨#[]⟩)) := by rw [(BW.out.trans (HB.out.mono BW.out.size)).cell (p := ⟨xb, xof + q, none⟩) hxb]; exact ck
        have cr : wr.cell? ⟨kb, q, none⟩ = some (.string (K.getD q ⟨#[]⟩)) := by rw [(BW.out.trans (HB.out.mono BW.out.size)).cell (p := ⟨kb, q, none⟩) HR.out.2]; exact HR.out.1 q hql
        have hws : (ws.getD q ⟨#[]⟩).size ≤ 30 := HTY.out.ok.ws _ (getD_memS hqx)
        have hks := HKS.out q
        have MP := Lib.hid (fun h => mF_plain (ws := ws) (K := K) HW.out HKL.out hql h)
        have MM := Lib.hid (fun h => mF_mark (ws := ws) (K := K) HW.out HKL.out hql h)
        obtain ⟨x, hx⟩ : ∃ x, ws.getD q ⟨#[]⟩ = x := ⟨_, rfl⟩
        obtain ⟨y, hy⟩ : ∃ y, K.getD q ⟨#[]⟩ = y := ⟨_, rfl⟩
        rw [hx] at ck2 hws MP MM
        rw [hy] at cr hks MP MM
        clear hx hy ck hxb hxc
        cases hm1 : (x.toList == [61])
        · cases hm2 : (x.toList == [126])
          · have hmk : markB x = false := by unfold markB; rw [hm1, hm2]; rfl
            have M := Lib.hid (MP.out hmk)
            have HTR0 := Tryd.strings_TrimPrefix y ⟨#[102, 117, 110, 99]⟩ wr
            obtain ⟨tr, htr⟩ : ∃ tr : ByteArray, (⟨(Lib.trimPrefix y.data.toList [102, 117, 110, 99]).toArray⟩ : ByteArray) = tr := ⟨_, rfl⟩
            have hts : tr.size ≤ 4000 := by
              have h := trim_le y.data.toList [102, 117, 110, 99]
              have e : y.data.toList.length = y.size := by simp
              have e2 : tr.size = (Lib.trimPrefix y.data.toList [102, 117, 110, 99]).length := by
                rw [← htr]
                show ((Lib.trimPrefix y.data.toList [102, 117, 110, 99]).toArray).size = _
                simp
              omega
            have hpf : partF x y = x ++ tr := by unfold partF; rw [htr]
            rw [show ((⟨#[102, 117, 110, 99]⟩ : ByteArray).data.toList) = [102, 117, 110, 99] from rfl, htr] at HTR0
            rw [hpf] at M
            have HTR := Lib.hid HTR0
            clear HTR0 htr hpf hmk MP MM
            go_wp2_with fail
            refine HTR.out.mono ?_
            rintro e w' ⟨rfl, rfl⟩
            obtain ⟨nl, hnl⟩ : ∃ nl, (compS n ++ mF ws K q).length = nl := ⟨_, rfl⟩
            have HO1 := Lib.hid OL.out
            unfold OwnS at HO1
            rw [hnl] at HO1
            have HNL := Lib.hid hnl
            have hnl20 : nl ≤ 20 := by rw [← hnl]; first | exact HLN.out.1 | exact HLN.out.2
            clear hnl
            go_wp2_with (at_builtin; refine wpList_append_own_at _ rfl _ _ 28 rfl w1.heap.size 9 i0 (.string ⟨#[]⟩) 1 16 Tryd.underlying28 hi hz0 hz1 hz2 rfl (by decide) _ nl (S9 (compS n ++ mF ws K q)) rfl (HO1.out.alloc _) ⟨_, 0, none⟩ 1 1 [.string (x ++ tr)] rfl ?c1 ?c2 ?c3 ?c4 ?c5 ?c6 ?_)
            case c1 => rfl
            case c2 => exact cell_newS _ _ _
            case c3 => exact fun u hu => by rw [List.mem_singleton.1 hu]; rfl
            case c4 => unfold maxLen; omega
            case c5 => omega
            case c6 => have := BZ.out; first | omega | (simp; omega) | simp
            intro v' w3 hown3 hgrow _ hblk
            have hp := push_str OL.out OT.out HB.out AP.out (by rw [HNL.out]; exact hown3) hgrow hblk
            have NL := Lib.hid (show OwnS w3 w1.heap.size v' (compS n ++ mF ws K (q + 1)) from by rw [M.out.1]; rw [← List.append_assoc]; exact hp.1)
            have NT := Lib.hid (show OwnS w3 w1.heap.size _ (tF ws K (q + 1)) from by rw [M.out.2]; exact hp.2.1)
            have NA := Lib.hid hp.2.2.1
            have NB := Lib.hid hp.2.2.2
            clear hp hown3 hgrow hblk HO1 M
            go_wp2_with fail
            go_roundw
            case rel => exact ⟨q + 1, by omega, by go_num, NL, NT, NA, NB⟩
            case measure => first | (simp [intOf]; done) | (simp [intOf]; omega)
          · have hmk : markB x = true := by unfold markB; rw [hm1, hm2]; rfl
            have M := Lib.hid (MM.out hmk)
            have hpf : tF1 x y = x ++ y := by unfold tF1; rw [if_neg (fun h => by rw [h] at hm1; exact absurd hm1 (by decide))]
            rw [hpf] at M
            clear hpf hmk MP MM
            obtain ⟨nl, hnl⟩ : ∃ nl, (tF ws K q).length = nl := ⟨_, rfl⟩
            have HO1 := Lib.hid OT.out
            unfold OwnS at HO1
            rw [hnl] at HO1
            have HNL := Lib.hid hnl
            have hnl20 : nl ≤ 20 := by rw [← hnl]; first | exact HLN.out.1 | exact HLN.out.2
            clear hnl
            go_wp2_with (at_builtin; refine wpList_append_own_at _ rfl _ _ 28 rfl w1.heap.size 9 i0 (.string ⟨#[]⟩) 1 16 Tryd.underlying28 hi hz0 hz1 hz2 rfl (by decide) _ nl (S9 (tF ws K q)) rfl (HO1.out.alloc _) ⟨_, 0, none⟩ 1 1 [.string (x ++ y)] rfl ?c1 ?c2 ?c3 ?c4 ?c5 ?c6 ?_)
            case c1 => rfl
            case c2 => exact cell_newS _ _ _
            case c3 => exact fun u hu => by rw [List.mem_singleton.1 hu]; rfl
            case c4 => unfold maxLen; omega
            case c5 => omega
            case c6 => have := BZ.out; first | omega | (simp; omega) | simp
            intro v' w3 hown3 hgrow _ hblk
            have hp := push_str OT.out OL.out HB.out SY.out (by rw [HNL.out]; exact hown3) hgrow hblk
            have NL := Lib.hid (show OwnS w3 w1.heap.size _ (compS n ++ mF ws K (q + 1)) from by rw [M.out.1]; exact hp.2.1)
            have NT := Lib.hid (show OwnS w3 w1.heap.size v' (tF ws K (q + 1)) from by rw [M.out.2]; exact hp.1)
            have NA := Lib.hid hp.2.2.1.symm
            have NB := Lib.hid hp.2.2.2
            clear hp hown3 hgrow hblk HO1 M
            go_wp2_with fail
            go_roundw
            case rel => exact ⟨q + 1, by omega, by go_num, NL, NT, NA, NB⟩
            case measure => first | (simp [intOf]; done) | (simp [intOf]; omega)
        · have hmk : markB x = true := by unfold markB; rw [hm1]; rfl
          have M := Lib.hid (MM.out hmk)
          have hpf : tF1 x y = y := by unfold tF1; rw [if_pos (by simpa using hm1)]
          rw [hpf] at M
          clear hpf hmk MP MM
          obtain ⟨nl, hnl⟩ : ∃ nl, (tF ws K q).length = nl := ⟨_, rfl⟩
          have HO1 := Lib.hid OT.out
          unfold OwnS at HO1
          rw [hnl] at HO1
          have HNL := Lib.hid hnl
          have hnl20 : nl ≤ 20 := by rw [← hnl]; first | exact HLN.out.1 | exact HLN.out.2
          clear hnl
          go_wp2_with (at_builtin; refine wpList_append_own_at _ rfl _ _ 28 rfl w1.heap.size 9 i0 (.string ⟨#[]⟩) 1 16 Tryd.underlying28 hi hz0 hz1 hz2 rfl (by decide) _ nl (S9 (tF ws K q)) rfl (HO1.out.alloc _) ⟨_, 0, none⟩ 1 1 [.string (y)] rfl ?c1 ?c2 ?c3 ?c4 ?c5 ?c6 ?_)
          case c1 => rfl
          case c2 => exact cell_newS _ _ _
          case c3 => exact fun u hu => by rw [List.mem_singleton.1 hu]; rfl
          case c4 => unfold maxLen; omega
          case c5 => omega
          case c6 => have := BZ.out; first | omega | (simp; omega) | simp
          intro v' w3 hown3 hgrow _ hblk
          have hp := push_str OT.out OL.out HB.out SY.out (by rw [HNL.out]; exact hown3) hgrow hblk
          have NL := Lib.hid (show OwnS w3 w1.heap.size _ (compS n ++ mF ws K (q + 1)) from by rw [M.out.1]; exact hp.2.1)
          have NT := Lib.hid (show OwnS w3 w1.heap.size v' (tF ws K (q + 1)) from by rw [M.out.2]; exact hp.1)
          have NA := Lib.hid hp.2.2.1.symm
          have NB := Lib.hid hp.2.2.2
          clear hp hown3 hgrow hblk HO1 M
          go_wp2_with fail
          go_roundw
          case rel => exact ⟨q + 1, by omega, by go_num, NL, NT, NA, NB⟩
          case measure => first | (simp [intOf]; done) | (simp [intOf]; omega)
      · obtain rfl : q = m := by omega
        obtain ⟨c0, c1, c2, c3, c4⟩ := cell5 (K1.out.below HB.out)
        by_cases hn2 : n < 2
        · have hand2 := H2.out
          rw [if_pos hn2] at hand2
          have HPP := Lib.hid (show compS n ++ mF ws K q = P from by rw [← HPE.out, HPF.out, if_pos hn2])
          obtain ⟨ao, cap, rfl, r1, r2⟩ := ownS_row OL.out
          rw [HPP.out] at r1 r2 ⊢
          have R := Lib.hid (And.intro r1 r2)
          clear r1 r2 hn2
          go_wp2_with fail
          go_ret
          exact ⟨ao, cap, rfl, R.out.1, R.out.2, BW.out.trans (HB.out.mono BW.out.size)⟩
        · have hand2 := H2.out
          rw [if_neg hn2] at hand2
          obtain ⟨tto, ttc, rfl, t1, t2⟩ := ownS_row OT.out
          have RT := Lib.hid (And.intro t1 t2)
          clear t1 t2
          by_cases ht0 : tF ws K q = []
          · have HPP := Lib.hid (show (compS n ++ mF ws K q) ++ [⟨#[110, 111, 110, 101]⟩] = P from by rw [← HPE.out, HPF.out, if_neg hn2, if_pos ht0])
            have hl0 : (tF ws K q).length = 0 := by rw [ht0]; rfl
            clear ht0 hn2
            obtain ⟨nl, hnl⟩ : ∃ nl, (compS n ++ mF ws K q).length = nl := ⟨_, rfl⟩
            have HO1 := Lib.hid OL.out
            unfold OwnS at HO1
            rw [hnl] at HO1
            have HNL := Lib.hid hnl
            have hnl20 : nl ≤ 20 := by rw [← hnl]; first | exact HLN.out.1 | exact HLN.out.2
            clear hnl
            go_wp2_with (at_builtin; refine wpList_append_own_at _ rfl _ _ 28 rfl w1.heap.size 9 i0 (.string ⟨#[]⟩) 1 16 Tryd.underlying28 hi hz0 hz1 hz2 rfl (by decide) _ nl (S9 (compS n ++ mF ws K q)) rfl (HO1.out.alloc _) ⟨_, 0, none⟩ 1 1 [.string (⟨#[110, 111, 110, 101]⟩)] rfl ?c1 ?c2 ?c3 ?c4 ?c5 ?c6 ?_)
            case c1 => rfl
            case c2 => exact cell_newS _ _ _
            case c3 => exact fun u hu => by rw [List.mem_singleton.1 hu]; rfl
            case c4 => unfold maxLen; omega
            case c5 => omega
            case c6 => have := BZ.out; first | omega | (simp; omega) | simp
            intro v' w3 hown3 hgrow _ hblk
            have hp := push_str OL.out OT.out HB.out AP.out (by rw [HNL.out]; exact hown3) hgrow hblk
            have hp1 := hp.1
            rw [HPP.out] at hp1
            obtain ⟨ao, cap, rfl, r1, r2⟩ := ownS_row hp1
            have R := Lib.hid (And.intro r1 r2)
            have NB := Lib.hid hp.2.2.2
            clear hp hp1 r1 r2 hown3 hgrow hblk HO1
            go_wp2_with fail
            go_ret
            exact ⟨ao, cap, rfl, R.out.1, R.out.2, BW.out.trans (NB.out.mono BW.out.size)⟩
          · have HPP := Lib.hid (show (compS n ++ mF ws K q) ++ [joinT (tF ws K q) ⟨#[32, 124, 32]⟩] = P from by rw [← HPE.out, HPF.out, if_neg hn2, if_neg ht0])
            have hl0 : ¬ (tF ws K q).length = 0 := fun h => ht0 (List.eq_nil_of_length_eq_zero h)
            have hbq : (((tF ws K q).length : Int) == 0) = false := by rw [beq_eq_false_iff_ne]; omega
            have hsz := mF_sizes (ws := ws) (K := K) q (fun s h => HTY.out.ok.ws s h) (mem_size HKS.out)
            have HJ0 := join_all tto ttc (tF ws K q) ⟨#[32, 124, 32]⟩ 20 5000 wr RT.out.1 HLN.out.2 hsz.2 RT.out.2 (by decide) (by decide)
            obtain ⟨jt, hjt⟩ : ∃ jt, joinT (tF ws K q) ⟨#[32, 124, 32]⟩ = jt := ⟨_, rfl⟩
            rw [hjt] at HJ0 HPP
            have HJ := Lib.hid HJ0
            clear HJ0 hjt hsz ht0 hn2
            go_wp2_with fail
            refine HJ.out.mono ?_
            rintro e w4 ⟨rfl, b4⟩
            have OL4 := Lib.hid (OL.out.below b4)
            have OT4 := Lib.hid (OT.out.below b4)
            have HB4 := Lib.hid (HB.out.trans (b4.mono HB.out.size))
            have BZ4 := Lib.hid HB4.out.size
            clear b4 c0 c1 c2 c3 c4 BZ HJ
            have BZ := BZ4
            obtain ⟨nl, hnl⟩ : ∃ nl, (compS n ++ mF ws K q).length = nl := ⟨_, rfl⟩
            have HO1 := Lib.hid OL4.out
            unfold OwnS at HO1
            rw [hnl] at HO1
            have HNL := Lib.hid hnl
            have hnl20 : nl ≤ 20 := by rw [← hnl]; first | exact HLN.out.1 | exact HLN.out.2
            clear hnl
            go_wp2_with (at_builtin; refine wpList_append_own_at _ rfl _ _ 28 rfl w1.heap.size 9 i0 (.string ⟨#[]⟩) 1 16 Tryd.underlying28 hi hz0 hz1 hz2 rfl (by decide) _ nl (S9 (compS n ++ mF ws K q)) rfl (HO1.out.alloc _) ⟨_, 0, none⟩ 1 1 [.string (jt)] rfl ?c1 ?c2 ?c3 ?c4 ?c5 ?c6 ?_)
            case c1 => rfl
            case c2 => exact cell_newS _ _ _
            case c3 => exact fun u hu => by rw [List.mem_singleton.1 hu]; rfl
            case c4 => unfold maxLen; omega
            case c5 => omega
            case c6 => have := BZ.out; first | omega | (simp; omega) | simp
            intro v' w3 hown3 hgrow _ hblk
            have hp := push_str OL4.out OT4.out HB4.out AP.out (by rw [HNL.out]; exact hown3) hgrow hblk
            have hp1 := hp.1
            rw [HPP.out] at hp1
            obtain ⟨ao, cap, rfl, r1, r2⟩ := ownS_row hp1
            have R := Lib.hid (And.intro r1 r2)
            have NB := Lib.hid hp.2.2.2
            clear hp hp1 r1 r2 hown3 hgrow hblk HO1
            go_wp2_with fail
            go_ret
            exact ⟨ao, cap, rfl, R.out.1, R.out.2, BW.out.trans (NB.out.mono BW.out.size)⟩
  · rw [if_neg hodd] at hand1
    have HC := Lib.hid (show compS n = [] from by unfold compS; rw [if_neg hodd])
    clear hodd
    go_enter Tryd.func42, Tryd.ntmps42
    go_wp2_with fail
    clear c0 c1 c2 c3 c4 hand1 h1
    go_loopw [5, 6, 19] (fun vl vt v wr => ∃ q : Nat, q ≤ m ∧ v = .int .i64 q ∧ Hid (OwnS wr w1.heap.size vl (compS n ++ mF ws K q)) ∧ Hid (OwnS wr w1.heap.size vt (tF ws K q)) ∧ Hid (ApartV vl vt) ∧ Hid (Below w1.heap.size w1 wr)) (fun _ _ v _ => m - (intOf v).toNat)
    case atStart => exact ⟨0, Nat.zero_le _, rfl, Lib.hid (by rw [HC.out, (mF_zero ws K).1]; exact ownS_nil _ _), Lib.hid (by rw [(mF_zero ws K).2]; exact ownS_nil _ _), Lib.hid (.inl rfl), Lib.hid (Below.refl _ _)⟩
    case round =>
      obtain ⟨q, hq, rfl, OL, OT, AP, HB⟩ := hrel
      have HLN := Lib.hid (show (compS n ++ mF ws K q).length ≤ 20 ∧ (tF ws K q).length ≤ 20 from by
        have h1 := (compS_facts n).1
        have h2 := mF_len ws K q
        rw [List.length_append]
        omega)
      have BZ := Lib.hid HB.out.size
      have SY := Lib.hid AP.out.symm
      by_cases hql : q < m
      · have hqx : q < ws.length := by rw [HW.out]; exact hql
        obtain ⟨xb, xof, rfl, hxb, hxc⟩ := HTY.out.words.cells (by show 0 < ws.length; omega)
        have ck : w.cell? ⟨xb, xof + q, none⟩ = some (.string (ws.getD q ⟨#[]⟩)) := hxc q hqx
        have ck2 : wr.cell? ⟨xb, xof + q, none⟩ = some (.string (ws.getD q ⟨#[]⟩)) := by rw [(BW.out.trans (HB.out.mono BW.out.size)).cell (p := ⟨xb, xof + q, none⟩) hxb]; exact ck
        have cr : wr.cell? ⟨kb, q, none⟩ = some (.string (K.getD q ⟨#[]⟩)) := by rw [(BW.out.trans (HB.out.mono BW.out.size)).cell (p := ⟨kb, q, none⟩) HR.out.2]; exact HR.out.1 q hql
        have hws : (ws.getD q ⟨#[]⟩).size ≤ 30 := HTY.out.ok.ws _ (getD_memS hqx)
        have hks := HKS.out q
        have MP := Lib.hid (fun h => mF_plain (ws := ws) (K := K) HW.out HKL.out hql h)
        have MM := Lib.hid (fun h => mF_mark (ws := ws) (K := K) HW.out HKL.out hql h)
        obtain ⟨x, hx⟩ : ∃ x, ws.getD q ⟨#[]⟩ = x := ⟨_, rfl⟩
        obtain ⟨y, hy⟩ : ∃ y, K.getD q ⟨#[]⟩ = y := ⟨_, rfl⟩
        rw [hx] at ck2 hws MP MM
        rw [hy] at cr hks MP MM
        clear hx hy ck hxb hxc
        cases hm1 : (x.toList == [61])
        · cases hm2 : (x.toList == [126])
          · have hmk : markB x = false := by unfold markB; rw [hm1, hm2]; rfl
            have M := Lib.hid (MP.out hmk)
            have HTR0 := Tryd.strings_TrimPrefix y ⟨#[102, 117, 110, 99]⟩ wr
            obtain ⟨tr, htr⟩ : ∃ tr : ByteArray, (⟨(Lib.trimPrefix y.data.toList [102, 117, 110, 99]).toArray⟩ : ByteArray) = tr := ⟨_, rfl⟩
            have hts : tr.size ≤ 4000 := by
              have h := trim_le y.data.toList [102, 117, 110, 99]
              have e : y.data.toList.length = y.size := by simp
              have e2 : tr.size = (Lib.trimPrefix y.data.toList [102, 117, 110, 99]).length := by
                rw [← htr]
                show ((Lib.trimPrefix y.data.toList [102, 117, 110, 99]).toArray).size = _
                simp
              omega
            have hpf : partF x y = x ++ tr := by unfold partF; rw [htr]
            rw [show ((⟨#[102, 117, 110, 99]⟩ : ByteArray).data.toList) = [102, 117, 110, 99] from rfl, htr] at HTR0
            rw [hpf] at M
            have HTR := Lib.hid HTR0
            clear HTR0 htr hpf hmk MP MM
            go_wp2_with fail
            refine HTR.out.mono ?_
            rintro e w' ⟨rfl, rfl⟩
            obtain ⟨nl, hnl⟩ : ∃ nl, (compS n ++ mF ws K q).length = nl := ⟨_, rfl⟩
            have HO1 := Lib.hid OL.out
            unfold OwnS at HO1
            rw [hnl] at HO1
            have HNL := Lib.hid hnl
            have hnl20 : nl ≤ 20 := by rw [← hnl]; first | exact HLN.out.1 | exact HLN.out.2
            clear hnl
            go_wp2_with (at_builtin; refine wpList_append_own_at _ rfl _ _ 28 rfl w1.heap.size 9 i0 (.string ⟨#[]⟩) 1 16 Tryd.underlying28 hi hz0 hz1 hz2 rfl (by decide) _ nl (S9 (compS n ++ mF ws K q)) rfl (HO1.out.alloc _) ⟨_, 0, none⟩ 1 1 [.string (x ++ tr)] rfl ?c1 ?c2 ?c3 ?c4 ?c5 ?c6 ?_)
            case c1 => rfl
            case c2 => exact cell_newS _ _ _
            case c3 => exact fun u hu => by rw [List.mem_singleton.1 hu]; rfl
            case c4 => unfold maxLen; omega
            case c5 => omega
            case c6 => have := BZ.out; first | omega | (simp; omega) | simp
            intro v' w3 hown3 hgrow _ hblk
            have hp := push_str OL.out OT.out HB.out AP.out (by rw [HNL.out]; exact hown3) hgrow hblk
            have NL := Lib.hid (show OwnS w3 w1.heap.size v' (compS n ++ mF ws K (q + 1)) from by rw [M.out.1]; rw [← List.append_assoc]; exact hp.1)
            have NT := Lib.hid (show OwnS w3 w1.heap.size _ (tF ws K (q + 1)) from by rw [M.out.2]; exact hp.2.1)
            have NA := Lib.hid hp.2.2.1
            have NB := Lib.hid hp.2.2.2
            clear hp hown3 hgrow hblk HO1 M
            go_wp2_with fail
            go_roundw
            case rel => exact ⟨q + 1, by omega, by go_num, NL, NT, NA, NB⟩
            case measure => first | (simp [intOf]; done) | (simp [intOf]; omega)
          · have hmk : markB x = true := by unfold markB; rw [hm1, hm2]; rfl
            have M := Lib.hid (MM.out hmk)
            have hpf : tF1 x y = x ++ y := by unfold tF1; rw [if_neg (fun h => by rw [h] at hm1; exact absurd hm1 (by decide))]
            rw [hpf] at M
            clear hpf hmk MP MM
            obtain ⟨nl, hnl⟩ : ∃ nl, (tF ws K q).length = nl := ⟨_, rfl⟩
            have HO1 := Lib.hid OT.out
            unfold OwnS at HO1
            rw [hnl] at HO1
            have HNL := Lib.hid hnl
            have hnl20 : nl ≤ 20 := by rw [← hnl]; first | exact HLN.out.1 | exact HLN.out.2
            clear hnl
            go_wp2_with (at_builtin; refine wpList_append_own_at _ rfl _ _ 28 rfl w1.heap.size 9 i0 (.string ⟨#[]⟩) 1 16 Tryd.underlying28 hi hz0 hz1 hz2 rfl (by decide) _ nl (S9 (tF ws K q)) rfl (HO1.out.alloc _) ⟨_, 0, none⟩ 1 1 [.string (x ++ y)] rfl ?c1 ?c2 ?c3 ?c4 ?c5 ?c6 ?_)
            case c1 => rfl
            case c2 => exact cell_newS _ _ _
            case c3 => exact fun u hu => by rw [List.mem_singleton.1 hu]; rfl
            case c4 => unfold maxLen; omega
            case c5 => omega
            case c6 => have := BZ.out; first | omega | (simp; omega) | simp
            intro v' w3 hown3 hgrow _ hblk
            have hp := push_str OT.out OL.out HB.out SY.out (by rw [HNL.out]; exact hown3) hgrow hblk
            have NL := Lib.hid (show OwnS w3 w1.heap.size _ (compS n ++ mF ws K (q + 1)) from by rw [M.out.1]; exact hp.2.1)
            have NT := Lib.hid (show OwnS w3 w1.heap.size v' (tF ws K (q + 1)) from by rw [M.out.2]; exact hp.1)
            have NA := Lib.hid hp.2.2.1.symm
            have NB := Lib.hid hp.2.2.2
            clear hp hown3 hgrow hblk HO1 M
            go_wp2_with fail
            go_roundw
            case rel => exact ⟨q + 1, by omega, by go_num, NL, NT, NA, NB⟩
            case measure => first | (simp [intOf]; done) | (simp [intOf]; omega)
        · have hmk : markB x = true := by unfold markB; rw [hm1]; rfl
          have M := Lib.hid (MM.out hmk)
          have hpf : tF1 x y = y := by unfold tF1; rw [if_pos (by simpa using hm1)]
          rw [hpf] at M
          clear hpf hmk MP MM
          obtain ⟨nl, hnl⟩ : ∃ nl, (tF ws K q).length = nl := ⟨_, rfl⟩
          have HO1 := Lib.hid OT.out
          unfold OwnS at HO1
          rw [hnl] at HO1
          have HNL := Lib.hid hnl
          have hnl20 : nl ≤ 20 := by rw [← hnl]; first | exact HLN.out.1 | exact HLN.out.2
          clear hnl
          go_wp2_with (at_builtin; refine wpList_append_own_at _ rfl _ _ 28 rfl w1.heap.size 9 i0 (.string ⟨#[]⟩) 1 16 Tryd.underlying28 hi hz0 hz1 hz2 rfl (by decide) _ nl (S9 (tF ws K q)) rfl (HO1.out.alloc _) ⟨_, 0, none⟩ 1 1 [.string (y)] rfl ?c1 ?c2 ?c3 ?c4 ?c5 ?c6 ?_)
          case c1 => rfl
          case c2 => exact cell_newS _ _ _
          case c3 => exact fun u hu => by rw [List.mem_singleton.1 hu]; rfl
          case c4 => unfold maxLen; omega
          case c5 => omega
          case c6 => have := BZ.out; first | omega | (simp; omega) | simp
          intro v' w3 hown3 hgrow _ hblk
          have hp := push_str OT.out OL.out HB.out SY.out (by rw [HNL.out]; exact hown3) hgrow hblk
          have NL := Lib.hid (show OwnS w3 w1.heap.size _ (compS n ++ mF ws K (q + 1)) from by rw [M.out.1]; exact hp.2.1)
          have NT := Lib.hid (show OwnS w3 w1.heap.size v' (tF ws K (q + 1)) from by rw [M.out.2]; exact hp.1)
          have NA := Lib.hid hp.2.2.1.symm
          have NB := Lib.hid hp.2.2.2
          clear hp hown3 hgrow hblk HO1 M
          go_wp2_with fail
          go_roundw
          case rel => exact ⟨q + 1, by omega, by go_num, NL, NT, NA, NB⟩
          case measure => first | (simp [intOf]; done) | (simp [intOf]; omega)
      · obtain rfl : q = m := by omega
        obtain ⟨c0, c1, c2, c3, c4⟩ := cell5 (K1.out.below HB.out)
        by_cases hn2 : n < 2
        · have hand2 := H2.out
          rw [if_pos hn2] at hand2
          have HPP := Lib.hid (show compS n ++ mF ws K q = P from by rw [← HPE.out, HPF.out, if_pos hn2])
          obtain ⟨ao, cap, rfl, r1, r2⟩ := ownS_row OL.out
          rw [HPP.out] at r1 r2 ⊢
          have R := Lib.hid (And.intro r1 r2)
          clear r1 r2 hn2
          go_wp2_with fail
          go_ret
          exact ⟨ao, cap, rfl, R.out.1, R.out.2, BW.out.trans (HB.out.mono BW.out.size)⟩
        · have hand2 := H2.out
          rw [if_neg hn2] at hand2
          obtain ⟨tto, ttc, rfl, t1, t2⟩ := ownS_row OT.out
          have RT := Lib.hid (And.intro t1 t2)
          clear t1 t2
          by_cases ht0 : tF ws K q = []
          · have HPP := Lib.hid (show (compS n ++ mF ws K q) ++ [⟨#[110, 111, 110, 101]⟩] = P from by rw [← HPE.out, HPF.out, if_neg hn2, if_pos ht0])
            have hl0 : (tF ws K q).length = 0 := by rw [ht0]; rfl
            clear ht0 hn2
            obtain ⟨nl, hnl⟩ : ∃ nl, (compS n ++ mF ws K q).length = nl := ⟨_, rfl⟩
            have HO1 := Lib.hid OL.out
            unfold OwnS at HO1
            rw [hnl] at HO1
            have HNL := Lib.hid hnl
            have hnl20 : nl ≤ 20 := by rw [← hnl]; first | exact HLN.out.1 | exact HLN.out.2
            clear hnl
            go_wp2_with (at_builtin; refine wpList_append_own_at _ rfl _ _ 28 rfl w1.heap.size 9 i0 (.string ⟨#[]⟩) 1 16 Tryd.underlying28 hi hz0 hz1 hz2 rfl (by decide) _ nl (S9 (compS n ++ mF ws K q)) rfl (HO1.out.alloc _) ⟨_, 0, none⟩ 1 1 [.string (⟨#[110, 111, 110, 101]⟩)] rfl ?c1 ?c2 ?c3 ?c4 ?c5 ?c6 ?_)
            case c1 => rfl
            case c2 => exact cell_newS _ _ _
            case c3 => exact fun u hu => by rw [List.mem_singleton.1 hu]; rfl
            case c4 => unfold maxLen; omega
            case c5 => omega
            case c6 => have := BZ.out; first | omega | (simp; omega) | simp
            intro v' w3 hown3 hgrow _ hblk
            have hp := push_str OL.out OT.out HB.out AP.out (by rw [HNL.out]; exact hown3) hgrow hblk
            have hp1 := hp.1
            rw [HPP.out] at hp1
            obtain ⟨ao, cap, rfl, r1, r2⟩ := ownS_row hp1
            have R := Lib.hid (And.intro r1 r2)
            have NB := Lib.hid hp.2.2.2
            clear hp hp1 r1 r2 hown3 hgrow hblk HO1
            go_wp2_with fail
            go_ret
            exact ⟨ao, cap, rfl, R.out.1, R.out.2, BW.out.trans (NB.out.mono BW.out.size)⟩
          · have HPP := Lib.hid (show (compS n ++ mF ws K q) ++ [joinT (tF ws K q) ⟨#[32, 124, 32]⟩] = P from by rw [← HPE.out, HPF.out, if_neg hn2, if_neg ht0])
            have hl0 : ¬ (tF ws K q).length = 0 := fun h => ht0 (List.eq_nil_of_length_eq_zero h)
            have hbq : (((tF ws K q).length : Int) == 0) = false := by rw [beq_eq_false_iff_ne]; omega
            have hsz := mF_sizes (ws := ws) (K := K) q (fun s h => HTY.out.ok.ws s h) (mem_size HKS.out)
            have HJ0 := join_all tto ttc (tF ws K q) ⟨#[32, 124, 32]⟩ 20 5000 wr RT.out.1 HLN.out.2 hsz.2 RT.out.2 (by decide) (by decide)
            obtain ⟨jt, hjt⟩ : ∃ jt, joinT (tF ws K q) ⟨#[32, 124, 32]⟩ = jt := ⟨_, rfl⟩
            rw [hjt] at HJ0 HPP
            have HJ := Lib.hid HJ0
            clear HJ0 hjt hsz ht0 hn2
            go_wp2_with fail
            refine HJ.out.mono ?_
            rintro e w4 ⟨rfl, b4⟩
            have OL4 := Lib.hid (OL.out.below b4)
            have OT4 := Lib.hid (OT.out.below b4)
            have HB4 := Lib.hid (HB.out.trans (b4.mono HB.out.size))
            have BZ4 := Lib.hid HB4.out.size
            clear b4 c0 c1 c2 c3 c4 BZ HJ
            have BZ := BZ4
            obtain ⟨nl, hnl⟩ : ∃ nl, (compS n ++ mF ws K q).length = nl := ⟨_, rfl⟩
            have HO1 := Lib.hid OL4.out
            unfold OwnS at HO1
            rw [hnl] at HO1
            have HNL := Lib.hid hnl
            have hnl20 : nl ≤ 20 := by rw [← hnl]; first | exact HLN.out.1 | exact HLN.out.2
            clear hnl
            go_wp2_with (at_builtin; refine wpList_append_own_at _ rfl _ _ 28 rfl w1.heap.size 9 i0 (.string ⟨#[]⟩) 1 16 Tryd.underlying28 hi hz0 hz1 hz2 rfl (by decide) _ nl (S9 (compS n ++ mF ws K q)) rfl (HO1.out.alloc _) ⟨_, 0, none⟩ 1 1 [.string (jt)] rfl ?c1 ?c2 ?c3 ?c4 ?c5 ?c6 ?_)
            case c1 => rfl
            case c2 => exact cell_newS _ _ _
            case c3 => exact fun u hu => by rw [List.mem_singleton.1 hu]; rfl
            case c4 => unfold maxLen; omega
            case c5 => omega
            case c6 => have := BZ.out; first | omega | (simp; omega) | simp
            intro v' w3 hown3 hgrow _ hblk
            have hp := push_str OL4.out OT4.out HB4.out AP.out (by rw [HNL.out]; exact hown3) hgrow hblk
            have hp1 := hp.1
            rw [HPP.out] at hp1
            obtain ⟨ao, cap, rfl, r1, r2⟩ := ownS_row hp1
            have R := Lib.hid (And.intro r1 r2)
            have NB := Lib.hid hp.2.2.2
            clear hp hp1 r1 r2 hown3 hgrow hblk HO1
            go_wp2_with fail
            go_ret
            exact ⟨ao, cap, rfl, R.out.1, R.out.2, BW.out.trans (NB.out.mono BW.out.size)⟩
end Go.Proofs.YthgdceikmipppaaDoor
