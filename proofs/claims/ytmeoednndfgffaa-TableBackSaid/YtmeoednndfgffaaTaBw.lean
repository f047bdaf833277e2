/- Layer 17: the law TableBack, walked. -/
import Derived.Test.YtmeoednndfgffaaTaB
namespace Go.Proofs.Ytmeoednndfgffaa
attribute [local go_sem] Oper.semAt_some
open Go Go.ChangeShapes Go.WideShapes Go.ChangeAt Go.RowKit
set_option linter.unusedVariables false
set_option linter.unusedSimpArgs false
section
variable {TabS : Blks → Blks → World → Value → List Kp → Prop}
set_option maxHeartbeats 4000000 in
set_option maxRecDepth 100000 in
theorem back_walk (HT : TabC TabS) (hal : ∀ W : World, Calls Try.prog 8 #[] W fun e w' => e = .returned (.bool true) ∧ Below W.heap.size W w') (a b : List Oq) (na ca nb cb : Nat) (Aa Ab : Option Addr) (w : World) (hla : na = a.length) (hlb : nb = b.length) (hna : na ≤ maxLen) (hnb : nb ≤ maxLen) (hA : OqRow w w.heap.size Aa a) (hB : OqRow w w.heap.size Ab b) :
    Calls Try.prog 5 #[.slice Aa na ca, .slice Ab nb cb] w fun e w' => e = .returned (.bool true) ∧ Below w.heap.size w w' := by
  have HAL := Lib.hid hal
  have HLG1 := Lib.hid (fun (U : World) (hU : Below w.heap.size w U) => long_any a na ca Aa U hla hna ((hA.below hU).more hU.size))
  have HLG2 := Lib.hid (fun (U : World) (hU : Below w.heap.size w U) => long_any b nb cb Ab U hlb hnb ((hB.below hU).more hU.size))
  have HMD1 := Lib.hid (fun (U : World) (hU : Below w.heap.size w U) (hn : na ≤ limO) => made_any HT a na ca Aa U hla hn ((hA.below hU).more hU.size))
  have HMD2 := Lib.hid (fun (U : World) (hU : Below w.heap.size w U) (hn : nb ≤ limO) => made_any HT b nb cb Ab U hlb hn ((hB.below hU).more hU.size))
  clear hal hla hlb hna hnb hA hB
  go_enter Try.func5, Try.ntmps5
  go_wp2_with (first
    | (go_at_call 8; go_loud (refine (HAL.out _).mono ?_; rintro en w1 ⟨rfl, hb1⟩; have HB1 := Lib.hid hb1; clear hb1))
    | (have HSEC := HB2; go_at_call 9; clear HSEC; go_loud (refine (HLG2.out _ HB2.out).mono ?_; rintro en w3 ⟨b2, rfl, hq2, hb3⟩; have HB3 := Lib.hid (hop0 HB2.out hb3); have HQ2 := Lib.hid hq2; clear hb3 hq2; cases b2))
    | (go_at_call 9; go_loud (refine (HLG1.out _ HB1.out).mono ?_; rintro en w2 ⟨b1, rfl, hq1, hb2⟩; have HB2 := Lib.hid (hop0 HB1.out hb2); have HQ1 := Lib.hid hq1; clear hb2 hq1; cases b1))
    | (have HSEC := H1; go_at_call 20; clear HSEC; go_loud (refine (HMD2.out _ (hop0 HB3.out H1.out.bel) (HQ2.out (by trivial))).mono ?_; rintro en w5 ⟨v2, A2, c2, m2, -, hl2, rfl, h2⟩; have HTW := Lib.hid (two_of HT HB3.out H1.out h2); have HL2 := Lib.hid (show m2.length ≤ limO from Nat.le_trans hl2 (HQ2.out (by trivial))); clear hl2 h2))
    | (go_at_call 20; go_loud (refine (HMD1.out _ HB3.out (HQ1.out (by trivial))).mono ?_; rintro en w4 ⟨v1, A1, c1, m1, -, hl1, rfl, h1⟩; have H1 := Lib.hid h1; have HL1 := Lib.hid (show m1.length ≤ limO from Nat.le_trans hl1 (HQ1.out (by trivial))); clear hl1 h1))
    | (go_at_call 21; go_loud (refine (HTW.out.diff HT (by have h1 := HL1.out; have h2 := HL2.out; unfold limO at h1 h2; omega)).mono ?_; rintro en w6 ⟨A3, c3, rfl, hr6, hb6⟩; have HR6 := Lib.hid hr6; have HT6 := Lib.hid (HTW.out.on HT hb6); clear hr6 hb6)))
  · obtain ⟨N, hN⟩ : ∃ N, (diffK zB m1 m2).length = N := ⟨_, rfl⟩
    have HNN := Lib.hid hN
    have HN := Lib.hid (show N ≤ 600 by have := diffK_len (z := zB) m1 m2; have h1 := HL1.out; have h2 := HL2.out; unfold limO at h1 h2; omega)
    have HLT : Hid (∀ (j : Nat) (h : j + 1 < (diffK zB m1 m2).length), ltK ((diffK zB m1 m2)[j]'(Nat.lt_of_succ_lt h)).k (diffK zB m1 m2)[j + 1].k) := Lib.hid (fun j h => by
      have hp := diff_rise (z := zB) m1 m2 (HTW.out.rise1 HT) (HTW.out.rise2 HT)
      exact List.pairwise_iff_getElem.1 hp j (j + 1) _ h (Nat.lt_succ_self j))
    rw [hN]
    clear hN
    go_loopw [10] (fun iv wr => ∃ j : Nat, iv = .int .i64 ((j : Int) + 1) ∧ j ≤ N ∧ Hid (Below w6.heap.size w6 wr)) (fun iv _ => N + 1 - (intOf iv).toNat)
    case atStart => exact ⟨0, rfl, Nat.zero_le _, Lib.hid (Below.refl _ _)⟩
    case round =>
      obtain ⟨j, rfl, hj, HB⟩ := hrel
      by_cases hlt : j + 1 < N
      · have hjl : j + 1 < (diffK zB m1 m2).length := by rw [HNN.out]; exact hlt
        obtain ⟨b0, o0, rfl, hb0, k0, -, -⟩ := (HR6.out.below HB.out) j (Nat.lt_of_succ_lt hjl)
        obtain ⟨b1, o1, e1, hb1, k1, -, -⟩ := (HR6.out.below HB.out) (j + 1) hjl
        injection e1 with e1
        injection e1 with e2 e3
        subst e2 e3
        have hl := lk_yes (HLT.out j hjl)
        obtain ⟨x0, hx0⟩ : ∃ x, ((diffK zB m1 m2)[j]'(Nat.lt_of_succ_lt hjl)).k = x := ⟨_, rfl⟩
        obtain ⟨x1, hx1⟩ : ∃ x, (diffK zB m1 m2)[j + 1].k = x := ⟨_, rfl⟩
        rw [hx0] at k0 hl
        rw [hx1] at k1 hl
        have i0 : (0 : Int) ≤ (j : Int) := by omega
        have i1 : (j : Int) < (N : Int) := by omega
        have i2 : (j : Int) + 1 < (N : Int) := by omega
        have i4 : (0 : Int) ≤ (j : Int) + 1 := by omega
        have i3 : j + 2 ≤ 9223372036854775807 := by have := HN.out; omega
        clear hx0 hx1 hjl hb0 hb1
        go_wp2
        go_region
        all_goals go_wp2
        go_roundw
        case rel => exact ⟨j + 1, by go_num, by omega, Lib.hid HB.out.drew⟩
        case measure => simp [intOf]; omega
      · have i2 : ¬ (j : Int) + 1 < (N : Int) := by omega
        have HT7 := Lib.hid (HT6.out.on HT HB.out)
        have hap := HT7.out.apply HT (by have h1 := HL1.out; have h2 := HL2.out; unfold limO at h1 h2; omega) (HR6.out.on HB.out) (c := c3)
        rw [HNN.out] at hap
        have HAP := Lib.hid hap
        clear hap hj hlt
        go_wp2_with (first
          | (go_at_call 23; go_loud (refine HAP.out.mono ?_; rintro en w8 ⟨v', rfl, h8, hb8⟩; have H8 := Lib.hid h8; have HT8 := Lib.hid (HT7.out.on HT hb8); clear h8 hb8))
          | (go_at_call 19; go_loud (refine (H8.out.has HT HL2.out).mono ?_; rintro en w9 ⟨rfl, hb9⟩; have H9 := Lib.hid (H8.out.on HT hb9); have HT9 := Lib.hid (HT8.out.on HT hb9); clear hb9))
          | (have HSEC := HCP; go_at_call 21; clear HSEC; go_loud (refine HCP.out.mono ?_; rintro en w12 ⟨A5, c5, rfl, hr12, hb12⟩; have HT12 := Lib.hid (HT11.out.on HT hb12); rw [diff_self]; clear hr12 hb12))
          | (go_at_call 21; go_loud (refine (H9.out.diff HT (by have h2 := HL2.out; unfold limO at h2; omega)).mono ?_; rintro en w10 ⟨A4, c4, rfl, hr10, hb10⟩; have HT10 := Lib.hid (HT9.out.on HT hb10); rw [diff_self]; clear hr10 hb10))
          | (go_at_call 18; go_loud (refine (HT10.out.copy HT (by have h2 := HL1.out; unfold limO at h2; omega)).mono ?_; rintro en w11 ⟨v7, rfl, ⟨Da, Ra, Db, Rb, ta, tb⟩, hb11⟩; have HT11 := Lib.hid (HT10.out.on HT hb11); have HCP := Lib.hid (HT.diff ta tb (by have h2 := HL1.out; unfold limO at h2; omega)); clear ta tb hb11)))
        go_ret
        exact ⟨by simp, HT12.out.bel⟩
  · go_ret
    exact ⟨by simp, HB3.out⟩
  · go_ret
    exact ⟨by simp, HB2.out⟩
end
end Go.Proofs.Ytmeoednndfgffaa
