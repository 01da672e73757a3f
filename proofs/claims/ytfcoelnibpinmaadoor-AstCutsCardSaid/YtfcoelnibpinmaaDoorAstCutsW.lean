/- The law AstCuts: its walk. -/
import Derived.Test.YtfcoelnibpinmaaDoorAstRefSame
import Derived.Test.YtfcoelnibpinmaaDoorAstRefCut
import Derived.Test.YtfcoelnibpinmaaDoorAstPartsW
namespace Go.Proofs.YtfcoelnibpinmaaDoor
open Go.RowKit

set_option maxHeartbeats 16000000 in
set_option maxRecDepth 100000 in
theorem cuts_walk (a0 : Option Addr) (ns0 : List Nd) (cap0 : Nat) (i : Int) (w : World) (h0 : Came w a0 ns0 cap0) (_hi : (Lit.int .i64 i).wf = true) (hC : Counts w) :
    Calls Tryd.prog 4 #[.slice a0 ns0.length cap0, .int .i64 i] w fun e w' => e = .returned (.bool true) ∧ Below w.heap.size w w' := by
  have F0 := Lib.hid (few_came a0 cap0 ns0 w h0)
  have HC := Lib.hid hC
  clear h0 hC
  go_enter Tryd.func4, Tryd.ntmps4
  go_wp2_with fail
  refine F0.out.mono ?_
  rintro e w1 ⟨⟨v, ms, rfl, ⟨ao, ca, rfl, -, r0⟩, l0, k0⟩, b1⟩
  have k2 : ∀ n ∈ ms, n.kids.length ≤ 2000 := fun n hn => by have := k0 n hn; omega
  have R1 := Lib.hid r0
  have K2 := Lib.hid k2
  have C1 := Lib.hid (HC.out.below b1)
  have B1 := Lib.hid b1
  clear r0 k0 k2 b1 F0 HC
  cases ht : treeB ms
  · have Ht := Lib.hid ht
    have HD := Lib.hid (deep_bad ao ca ms w1 R1.out C1.out K2.out (by omega) ht)
    clear ht
    go_wp2_with fail
    refine HD.out.mono ?_
    rintro e w2 ⟨rfl, b2⟩
    have HK := Lib.hid (cut_bad ao ca ms i w2 (R1.out.below b2) (C1.out.below b2) K2.out (by omega) Ht.out)
    have R2 := Lib.hid (R1.out.below b2)
    have C2 := Lib.hid (C1.out.below b2)
    have B2 := Lib.hid (B1.out.trans (b2.mono B1.out.size))
    clear b2 R1 C1 B1 HD
    go_wp2_with fail
    refine HK.out.mono ?_
    rintro e w3 ⟨rfl, b3⟩
    have HR := Lib.hid (refright_any ao ca ms w3 (R2.out.below b3) K2.out (by omega))
    have C3 := Lib.hid (C2.out.below b3)
    have B3 := Lib.hid (B2.out.trans (b3.mono B2.out.size))
    clear b3 R2 C2 B2 HK
    go_wp2_with fail
    refine HR.out.mono ?_
    rintro e w4 ⟨rfl, b4⟩
    rw [Ht.out]
    have HA := Lib.hid (alive_any w4 (C3.out.below b4))
    have B4 := Lib.hid (B3.out.trans (b4.mono B3.out.size))
    clear b4 C3 B3 HR
    go_wp2_with fail
    refine HA.out.mono ?_
    rintro e w5 ⟨rfl, b5⟩
    have B5 := Lib.hid (B4.out.trans (b5.mono B4.out.size))
    clear b5
    go_wp2_with fail
    go_ret
    exact ⟨rfl, B5.out⟩
  · have tp := tree_of ht
    have Ht := Lib.hid ht
    have Htp := Lib.hid tp
    have hpos := tp.1
    have HD := Lib.hid (deep_ok ao ca ms w1 R1.out C1.out K2.out (by omega) ht)
    obtain ⟨L, hL⟩ : ∃ L, ms.length = L := ⟨_, rfl⟩
    have HL := Lib.hid hL
    obtain ⟨j, hj⟩ : ∃ j, ms.length - 1 = j := ⟨_, rfl⟩
    have Hj := Lib.hid hj
    have hjL : j < L := by omega
    have hjL2 : (L : Int) - 1 = (j : Int) := by omega
    rw [hj] at HD
    obtain ⟨D, hD⟩ : ∃ D, dep ms j = D := ⟨_, rfl⟩
    rw [hD] at HD
    have HDj := Lib.hid hD
    rw [hL] at l0 hpos HD ⊢
    clear ht tp hL hj hD
    go_wp2_with fail
    refine HD.out.mono ?_
    rintro e w2 ⟨rfl, b2⟩
    have R2 := Lib.hid (R1.out.below b2)
    have C2 := Lib.hid (C1.out.below b2)
    have B2 := Lib.hid (B1.out.trans (b2.mono B1.out.size))
    clear b2 R1 C1 B1 HD
    have hw : IntKind.i64.wrap ((L : Int) - 1) = (j : Int) := by rw [IntWalk.i64_in _ (by omega)]; exact hjL2
    have hw2 : IntKind.i64.wrap (j : Int) = (j : Int) := by rw [IntWalk.i64_in _ (by omega)]
    by_cases hin : i < 0 ∨ (L : Int) ≤ i
    · have HK := Lib.hid (cut_none ao ca ms i w2 R2.out C2.out K2.out (by rw [HL.out]; omega) Ht.out (by rw [HL.out]; exact hin))
      rw [HL.out] at HK
      have Hin := Lib.hid hin
      clear hin
      go_wp2_with fail
      refine HK.out.mono ?_
      rintro e w3 ⟨rfl, b3⟩
      have HR := Lib.hid (refright_any ao ca ms w3 (R2.out.below b3) K2.out (by rw [HL.out]; omega))
      rw [HL.out] at HR
      have R3 := Lib.hid (R2.out.below b3)
      have C3 := Lib.hid (C2.out.below b3)
      have B3 := Lib.hid (B2.out.trans (b3.mono B2.out.size))
      clear b3 R2 C2 B2 HK
      go_wp2_with fail
      refine HR.out.mono ?_
      rintro e w4 ⟨rfl, b4⟩
      rw [Ht.out]
      obtain ⟨b, off, rfl, hb, hc⟩ := (R3.out.below b4).nodes (by rw [HL.out]; omega)
      have HRD := Lib.hid (refdeep_any ms Htp.out b off ca w4 hc K2.out j (by rw [HL.out]; omega))
      rw [HL.out, HDj.out] at HRD
      have HA := Lib.hid (alive_any w4 (C3.out.below b4))
      have B4 := Lib.hid (B3.out.trans (b4.mono B3.out.size))
      clear b4 R3 C3 B3 HR hc
      go_wp2_with fail
      refine HRD.out.mono ?_
      rintro e w' ⟨rfl, rfl⟩
      go_wp2_with fail
      refine HA.out.mono ?_
      rintro e w5 ⟨rfl, b5⟩
      have B5 := Lib.hid (B4.out.trans (b5.mono B4.out.size))
      clear b5
      by_cases hneg : i < 0
      · go_wp2_with fail
        go_ret
        exact ⟨rfl, B5.out⟩
      · have hge : (L : Int) ≤ i := by have := Hin.out; omega
        have hd : decide (i < 0) = false := by simpa using hneg
        go_wp2_with fail
        go_ret
        exact ⟨rfl, B5.out⟩
    · have h1 : 0 ≤ i := by omega
      obtain ⟨c, rfl⟩ : ∃ c : Nat, i = (c : Int) := ⟨i.toNat, by omega⟩
      have hcL : c < L := by omega
      have hcN : c < ms.length := by rw [HL.out]; exact hcL
      have HK := Lib.hid (cut_ok ao ca ms c w2 R2.out C2.out K2.out Ht.out hcN)
      rw [HL.out] at HK
      have hge : ¬ L ≤ c := by omega
      have hge2 : decide ((L : Int) ≤ (c : Int)) = false := by rw [decide_eq_false_iff_not]; omega
      have hcp := cut_pos Htp.out hcN
      have Hck := Lib.hid (cut_kids_le Htp.out K2.out c)
      obtain ⟨n, hn⟩ : ∃ n, (cutNs ms c).length = n := ⟨_, rfl⟩
      have Hn := Lib.hid hn
      rw [hn] at hcp
      clear hin hn
      go_wp2_with fail
      refine HK.out.mono ?_
      rintro e w3 ⟨⟨v, rfl, hv⟩, b3⟩
      have HV := Lib.hid hv
      have HR := Lib.hid (refright_any ao ca ms w3 (R2.out.below b3) K2.out (by rw [HL.out]; omega))
      rw [HL.out] at HR
      have R3 := Lib.hid (R2.out.below b3)
      have C3 := Lib.hid (C2.out.below b3)
      have B3 := Lib.hid (B2.out.trans (b3.mono B2.out.size))
      clear b3 R2 C2 B2 HK hv
      go_wp2_with fail
      refine HR.out.mono ?_
      rintro e w4 ⟨rfl, b4⟩
      rw [Ht.out]
      obtain ⟨b, off, rfl, hb, hc⟩ := (R3.out.below b4).nodes (by rw [HL.out]; omega)
      have HRD := Lib.hid (refdeep_any ms Htp.out b off ca w4 hc K2.out j (by rw [HL.out]; omega))
      rw [HL.out, HDj.out] at HRD
      have HA := Lib.hid (alive_any w4 (C3.out.below b4))
      have B4 := Lib.hid (B3.out.trans (b4.mono B3.out.size))
      have HV4 := Lib.hid (HV.out.below b4)
      have Hc := Lib.hid hc
      clear b4 R3 C3 B3 HR hc HV
      go_wp2_with fail
      refine HRD.out.mono ?_
      rintro e w' ⟨rfl, rfl⟩
      go_wp2_with fail
      refine HA.out.mono ?_
      rintro e w5 ⟨rfl, b5⟩
      have HRC := Lib.hid (refcut_any ms Htp.out c hcN w5 b off ca (Nat.lt_of_lt_of_le hb b5.size) (fun i h => (Hc.out i h).below hb b5) K2.out)
      rw [HL.out] at HRC
      have B5 := Lib.hid (B4.out.trans (b5.mono B4.out.size))
      have HV5 := Lib.hid (HV4.out.below b5)
      clear b5 HA HRD HV4 B4 Hc hw hw2 hjL2
      go_wp2_with fail
      refine HRC.out.mono ?_
      rintro e w6 ⟨⟨u, rfl, ⟨wo, wc, rfl, -, rw6⟩⟩, b6⟩
      obtain ⟨po, pc, rfl, -, rp6⟩ := HV5.out.below b6
      have HS := Lib.hid (refsame_any po wo pc wc (cutNs ms c) w6 rp6 rw6 Hck.out (by rw [Hn.out]; omega) (by rw [Hn.out]; omega))
      rw [Hn.out] at HS ⊢
      have B6 := Lib.hid (B5.out.trans (b6.mono B5.out.size))
      clear b6 rp6 rw6 HV5 B5 HRC
      go_wp2_with fail
      refine HS.out.mono ?_
      rintro e w7 ⟨rfl, b7⟩
      have B7 := Lib.hid (B6.out.trans (b7.mono B6.out.size))
      clear b7
      go_wp2_with fail
      go_ret
      exact ⟨rfl, B7.out⟩
end Go.Proofs.YtfcoelnibpinmaaDoor
