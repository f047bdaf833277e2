/- Layer 17: the law TableDiffs, walked over what a table is asked. -/
import Derived.Test.YtmeoednndfgffaaTaBw
namespace Go.Proofs.Ytmeoednndfgffaa
attribute [local go_sem] Oper.semAt_some
open Go Go.ChangeShapes Go.WideShapes Go.ChangeAt Go.RowKit
set_option linter.unusedVariables false
set_option linter.unusedSimpArgs false
section
variable {TabS : Blks → Blks → World → Value → List Kp → Prop}
/-- The law's two tables and the document's two rows. -/
structure Four (TabS : Blks → Blks → World → Value → List Kp → Prop) (w : World) (v1 v2 : Value) (m1 m2 : List Kp) (A1 A2 : Option Addr) (U : World) : Prop where
  ex : ∃ D1 R1 D2 R2, TabS D1 R1 U v1 m1 ∧ TabS D2 R2 U v2 m2
  r1 : PRow U U.heap.size A1 m1
  r2 : PRow U U.heap.size A2 m2
  bel : Below w.heap.size w U
variable {w U V : World} {v1 v2 : Value} {m1 m2 : List Kp} {A1 A2 : Option Addr} {c1 c2 : Nat}
theorem Four.on (HT : TabC TabS) (h : Four TabS w v1 v2 m1 m2 A1 A2 U) (hb : Below U.heap.size U V) : Four TabS w v1 v2 m1 m2 A1 A2 V := by
  obtain ⟨D1, R1, D2, R2, h1, h2⟩ := h.ex
  exact ⟨⟨D1, R1, D2, R2, HT.ch h1 (ch_of (S := fun _ => False) hb) (fun _ h => h.elim), HT.ch h2 (ch_of (S := fun _ => False) hb) (fun _ h => h.elim)⟩, h.r1.on hb, h.r2.on hb, hop0 h.bel hb⟩
theorem four_of (HT : TabC TabS) {w1 w2 : World} (hb : Below w.heap.size w w1) (h1 : Made TabS w1 v1 m1 A1 m1.length c1 m1 w2) (h2 : Made TabS w2 v2 m2 A2 m2.length c2 m2 U) : Four TabS w v1 v2 m1 m2 A1 A2 U := by
  obtain ⟨D1, R1, t1, f1, _⟩ := h1.ex
  obtain ⟨D2, R2, t2, f2, _⟩ := h2.ex
  exact ⟨⟨D1, R1, D2, R2, HT.ch t1 (ch_of (S := fun _ => False) h2.bel) (fun _ h => h.elim), t2⟩, h1.row.on h2.bel, h2.row, hop0 (hop0 hb h1.bel) h2.bel⟩
theorem Four.diff (HT : TabC TabS) (h : Four TabS w v1 v2 m1 m2 A1 A2 U) (hl : m1.length + m2.length ≤ 2000) :
    Calls Try.prog 21 #[v1, v2] U fun e V => ∃ A c, e = .returned (.slice A (diffK zB m1 m2).length c) ∧ CRow V V.heap.size A (diffK zB m1 m2) ∧ Below U.heap.size U V := by
  obtain ⟨D1, R1, D2, R2, h1, h2⟩ := h.ex
  exact HT.diff h1 h2 hl
theorem Four.has1 (HT : TabC TabS) (h : Four TabS w v1 v2 m1 m2 A1 A2 U) (hn : m1.length ≤ 1000) :
    Calls Try.prog 19 #[v1, .slice A1 m1.length c1] U fun e V => e = .returned (.bool true) ∧ Below U.heap.size U V := by
  obtain ⟨D1, R1, D2, R2, h1, h2⟩ := h.ex
  exact has_row HT h1 rfl h.r1 hn
theorem Four.has2 (HT : TabC TabS) (h : Four TabS w v1 v2 m1 m2 A1 A2 U) (hn : m2.length ≤ 1000) :
    Calls Try.prog 19 #[v2, .slice A2 m2.length c2] U fun e V => e = .returned (.bool true) ∧ Below U.heap.size U V := by
  obtain ⟨D1, R1, D2, R2, h1, h2⟩ := h.ex
  exact has_row HT h2 rfl h.r2 hn
theorem Four.apply (HT : TabC TabS) (h : Four TabS w v1 v2 m1 m2 A1 A2 U) {A : Option Addr} {c : Nat} {cs : List Kc} (hl : m1.length + cs.length ≤ 2000) (hc : CRow U U.heap.size A cs) :
    Calls Try.prog 23 #[v1, .slice A cs.length c] U fun e V => ∃ v', e = .returned v' ∧ (∃ D R, TabS D R V v' (applyK m1 cs)) ∧ Below U.heap.size U V := by
  obtain ⟨D1, R1, D2, R2, h1, h2⟩ := h.ex
  refine (HT.apply cs h1 hl hc).mono ?_
  rintro e V ⟨D', R', v', rfl, h3, d3, r3, hb⟩
  exact ⟨v', rfl, ⟨D', R', h3⟩, hb⟩
theorem Four.rise1 (HT : TabC TabS) (h : Four TabS w v1 v2 m1 m2 A1 A2 U) : RiseK m1 := by
  obtain ⟨D1, R1, D2, R2, h1, h2⟩ := h.ex
  exact HT.rise h1
theorem applyK_len : ∀ (cs : List Kc) (l : List Kp), (applyK l cs).length ≤ l.length + cs.length
  | [], l => by simp [applyK]
  | c :: r, l => by
    have h := applyK_len r (doK l c)
    have h2 : (doK l c).length ≤ l.length + 1 := by
      unfold doK
      split
      · exact Nat.le_succ_of_le (dropK_len _ _)
      · exact setK_len _ _ _
    have h3 : applyK l (c :: r) = applyK (doK l c) r := rfl
    rw [h3, List.length_cons]
    omega
theorem infoCh : (Try.prog.info? 51).map (fun i => (i.zero, i.size, i.bytes)) = some (some (Value.agg #[.string ⟨#[]⟩, .string ⟨#[]⟩, .bool false]), 3, 40) := by kernel_rfl
/-- The changes that are handed on, as they grow. -/
structure OutT (w : World) (A : Option Addr) (n c : Nat) (m : List Kc) (U : World) : Prop where
  own : U.ownsRow w.heap.size 51 3 (.slice A n c) n (m.flatMap kcC)
  bel : Below w.heap.size w U
theorem OutT.drew {w : World} {A : Option Addr} {n c : Nat} {m : List Kc} {U : World} (h : OutT w A n c m U) : OutT w A n c m U.drew := ⟨h.own, h.bel.drew⟩
theorem OutT.rows {w : World} {A : Option Addr} {n c : Nat} {m : List Kc} {U : World} (h : OutT w A n c m U) : n = m.length ∧ CRow U U.heap.size A m := by
  obtain ⟨h1, h2⟩ := RowC.own kc_len (by decide) h.own
  exact ⟨h1, CRow.of h2⟩
theorem OutT.more {w : World} {A A' : Option Addr} {n c n' c' : Nat} {m m' : List Kc} {U V : World} (h : OutT w A n c m U) (hb : Below w.heap.size U V) (ho : V.ownsRow w.heap.size 51 3 (.slice A' n' c') n' (m'.flatMap kcC)) : OutT w A' n' c' m' V := ⟨ho, h.bel.trans hb⟩
set_option maxHeartbeats 8000000 in
set_option maxRecDepth 100000 in
theorem diffs_walk (HT : TabC TabS) (hal : ∀ W : World, Calls Try.prog 8 #[] W fun e w' => e = .returned (.bool true) ∧ Below W.heap.size W w') (a b : List Oq) (cs : List Kc) (na ca nb cb nc cc : Nat) (Aa Ab Ac : Option Addr) (w : World) (hla : na = a.length) (hlb : nb = b.length) (hlc : nc = cs.length) (hna : na ≤ maxLen) (hnb : nb ≤ maxLen) (hnc : nc ≤ maxLen) (hA : OqRow w w.heap.size Aa a) (hB : OqRow w w.heap.size Ab b) (hC : CRow w w.heap.size Ac cs) :
    Calls Try.prog 4 #[.slice Aa na ca, .slice Ab nb cb, .slice Ac nc cc] w fun e w' => e = .returned (.bool true) ∧ Below w.heap.size w w' := by
  have HAL := Lib.hid hal
  have HLG1 := Lib.hid (fun (U : World) (hU : Below w.heap.size w U) => long_any a na ca Aa U hla hna ((hA.below hU).more hU.size))
  have HLG2 := Lib.hid (fun (U : World) (hU : Below w.heap.size w U) => long_any b nb cb Ab U hlb hnb ((hB.below hU).more hU.size))
  have HMD1 := Lib.hid (fun (U : World) (hU : Below w.heap.size w U) (hn : na ≤ limO) => made_any HT a na ca Aa U hla hn ((hA.below hU).more hU.size))
  have HMD2 := Lib.hid (fun (U : World) (hU : Below w.heap.size w U) (hn : nb ≤ limO) => made_any HT b nb cb Ab U hlb hn ((hB.below hU).more hU.size))
  have HLC := Lib.hid hlc
  have HC := Lib.hid hC
  have HRA := Lib.hid (fun (l : List Kp) (hr : RiseK l) (c0 : Nat) (A0 : Option Addr) (U : World) (hU : Below w.heap.size w U) (hn : l.length + nc ≤ 998) (hR : PRow U U.heap.size A0 l) => rapply_any l hr cs l.length c0 nc cc A0 Ac U rfl hlc hn hR (hC.on hU))
  clear hal hla hlb hna hnb hA hB hlc hC
  have hcc : ∀ P : Prop, (decide ((300 : Int) < (nc : Int)) = true → P) → (decide ((300 : Int) < (nc : Int)) = false → nc ≤ limO → P) → P := fun P h1 h2 => by
    by_cases h : 300 < nc
    · exact h1 (decide_eq_true (by omega))
    · exact h2 (decide_eq_false (by omega)) (by unfold limO; omega)
  refine hcc _ (fun q300 => ?_) (fun q300 hnc2 => ?_)
  · clear hcc
    go_enter Try.func4, Try.ntmps4
    go_wp2_with (first
      | (go_at_call 8; go_loud (refine (HAL.out _).mono ?_; rintro en w1 ⟨rfl, hb1⟩; have HB1 := Lib.hid hb1; clear hb1))
      | (have HSEC := HB2; go_at_call 9; clear HSEC; go_loud (refine (HLG2.out _ HB2.out).mono ?_; rintro en w3 ⟨b2, rfl, hq2, hb3⟩; have HB3 := Lib.hid (hop0 HB2.out hb3); clear hb3 hq2; cases b2))
      | (go_at_call 9; go_loud (refine (HLG1.out _ HB1.out).mono ?_; rintro en w2 ⟨b1, rfl, hq1, hb2⟩; have HB2 := Lib.hid (hop0 HB1.out hb2); clear hb2 hq1; cases b1)))
    · go_ret
      exact ⟨by simp, HB3.out⟩
    · go_ret
      exact ⟨by simp, HB3.out⟩
    · go_ret
      exact ⟨by simp, HB2.out⟩
  clear hcc
  have HNC := Lib.hid hnc2
  clear hnc hnc2
  go_enter Try.func4, Try.ntmps4
  go_wp2_with (first
    | (go_at_call 8; go_loud (refine (HAL.out _).mono ?_; rintro en w1 ⟨rfl, hb1⟩; have HB1 := Lib.hid hb1; clear hb1))
    | (have HSEC := HB2; go_at_call 9; clear HSEC; go_loud (refine (HLG2.out _ HB2.out).mono ?_; rintro en w3 ⟨b2, rfl, hq2, hb3⟩; have HB3 := Lib.hid (hop0 HB2.out hb3); have HQ2 := Lib.hid hq2; clear hb3 hq2; cases b2))
    | (go_at_call 9; go_loud (refine (HLG1.out _ HB1.out).mono ?_; rintro en w2 ⟨b1, rfl, hq1, hb2⟩; have HB2 := Lib.hid (hop0 HB1.out hb2); have HQ1 := Lib.hid hq1; clear hb2 hq1; cases b1))
    | (have HSEC := H1; go_at_call 20; clear HSEC; go_loud (refine (HMD2.out _ (hop0 HB3.out H1.out.bel) (HQ2.out (by trivial))).mono ?_; rintro en w5 ⟨v2, A2, c2, m2, -, hl2, rfl, h2⟩; have HTW := Lib.hid (four_of HT HB3.out H1.out h2); have HL2 := Lib.hid (show m2.length ≤ limO from Nat.le_trans hl2 (HQ2.out (by trivial))); clear hl2 h2))
    | (go_at_call 20; go_loud (refine (HMD1.out _ HB3.out (HQ1.out (by trivial))).mono ?_; rintro en w4 ⟨v1, A1, c1, m1, -, hl1, rfl, h1⟩; have H1 := Lib.hid h1; have HL1 := Lib.hid (show m1.length ≤ limO from Nat.le_trans hl1 (HQ1.out (by trivial))); clear hl1 h1))
    | (go_at_call 21; go_loud (refine (HTW.out.diff HT (by have h1 := HL1.out; have h2 := HL2.out; unfold limO at h1 h2; omega)).mono ?_; rintro en w6 ⟨A3, c3, rfl, hr6, hb6⟩; have HR6 := Lib.hid hr6; have HT6 := Lib.hid (HTW.out.on HT hb6); clear hr6 hb6))
    | (go_at_call 22; go_loud (refine (rdiff_any m1 m2 _ _ _ _ _ _ _ rfl rfl (by have h1 := HL1.out; have h2 := HL2.out; unfold limO at h1 h2; omega) HT6.out.r1 HT6.out.r2).mono ?_; rintro en w7 ⟨A4, c4, rfl, hr7, hb7⟩; have HR7 := Lib.hid hr7; have HR67 := Lib.hid (HR6.out.on hb7); have HT7 := Lib.hid (HT6.out.on HT hb7); clear hr7 hb7)))
  · obtain ⟨N, hN⟩ : ∃ N, (diffK zB m1 m2).length = N := ⟨_, rfl⟩
    have HNN := Lib.hid hN
    have HN := Lib.hid (show N ≤ 600 by have := diffK_len (z := zB) m1 m2; have h1 := HL1.out; have h2 := HL2.out; unfold limO at h1 h2; omega)
    rw [hN]
    clear hN
    go_loopw [13] (fun iv wr => ∃ j : Nat, iv = .int .i64 (j : Int) ∧ j ≤ N ∧ Hid (Below w7.heap.size w7 wr)) (fun iv _ => N - (intOf iv).toNat)
    case atStart => exact ⟨0, rfl, Nat.zero_le _, Lib.hid (Below.refl _ _)⟩
    case round =>
      obtain ⟨j, rfl, hj, HB⟩ := hrel
      by_cases hlt : j < N
      · have hjl : j < (diffK zB m1 m2).length := by rw [HNN.out]; exact hlt
        obtain ⟨b0, o0, rfl, hb0, k0, k1, k2⟩ := HR67.out j hjl
        obtain ⟨b1, o1, rfl, hb1, l0, l1, l2⟩ := HR7.out j hjl
        obtain ⟨⟨xk, xv, xg⟩, hx⟩ : ∃ x, (diffK zB m1 m2)[j]'hjl = x := ⟨_, rfl⟩
        rw [hx] at k0 k1 k2 l0 l1 l2
        dsimp only at k0 k1 k2 l0 l1 l2
        have i0 : (0 : Int) ≤ (j : Int) := by omega
        have i1 : (j : Int) < (N : Int) := by omega
        have i3 : j + 1 ≤ 9223372036854775807 := by have := HN.out; omega
        have C : ∀ (bb off : Nat), bb < w7.heap.size → wr.drew.cell? ⟨bb, off, none⟩ = w7.cell? ⟨bb, off, none⟩ := fun bb off h => HB.out.drew.cell (p := ⟨bb, off, none⟩) h
        have hS : wr.drew.cell? ⟨b0, o0 + j * 3, none⟩ = some (.string xk) ∧ wr.drew.cell? ⟨b0, o0 + j * 3 + 1, none⟩ = some (.string xv) ∧ wr.drew.cell? ⟨b0, o0 + j * 3 + 2, none⟩ = some (.bool xg) ∧ wr.drew.cell? ⟨b1, o1 + j * 3, none⟩ = some (.string xk) ∧ wr.drew.cell? ⟨b1, o1 + j * 3 + 1, none⟩ = some (.string xv) ∧ wr.drew.cell? ⟨b1, o1 + j * 3 + 2, none⟩ = some (.bool xg) :=
          ⟨(C _ _ hb0).trans k0, (C _ _ hb0).trans k1, (C _ _ hb0).trans k2, (C _ _ hb1).trans l0, (C _ _ hb1).trans l1, (C _ _ hb1).trans l2⟩
        clear hx hjl C k0 k1 k2 l0 l1 l2
        go_wp2
        refine held_begin 37 (fun W => W.cell? ⟨b0, o0 + j * 3, none⟩ = some (.string xk) ∧ W.cell? ⟨b0, o0 + j * 3 + 1, none⟩ = some (.string xv) ∧ W.cell? ⟨b0, o0 + j * 3 + 2, none⟩ = some (.bool xg) ∧ W.cell? ⟨b1, o1 + j * 3, none⟩ = some (.string xk) ∧ W.cell? ⟨b1, o1 + j * 3 + 1, none⟩ = some (.string xv) ∧ W.cell? ⟨b1, o1 + j * 3 + 2, none⟩ = some (.bool xg)) rfl (by kernel_rfl) ?_
        refine held_take (i := 0) (t := 56) (v := (.slice (some ⟨b0, o0, none⟩) N c3)) (fuel := 36) rfl rfl (by kernel_rfl) (by kernel_rfl) (by kernel_rfl) (fun _ _ _ h => h) (.inl ⟨rfl, fun W hW => by obtain ⟨s0, s1, s2, t0, t1, t2⟩ := hW; simp [execOp, Act.eval, go_sem, s0, s1, s2, t0, t1, t2]⟩) hS ?_
        simp only [List.setIfInBounds_toArray, List.set_cons_succ, List.set_cons_zero]
        refine held_take (i := 1) (t := 57) (v := (.int .i64 (j : Int))) (fuel := 35) rfl rfl (by kernel_rfl) (by kernel_rfl) (by kernel_rfl) (fun _ _ _ h => h) (.inl ⟨rfl, fun W hW => by obtain ⟨s0, s1, s2, t0, t1, t2⟩ := hW; simp [execOp, Act.eval, go_sem, s0, s1, s2, t0, t1, t2]⟩) hS ?_
        simp only [List.setIfInBounds_toArray, List.set_cons_succ, List.set_cons_zero]
        refine held_take (i := 2) (t := 58) (v := (.pointer (some ⟨b0, o0 + j * 3, none⟩))) (fuel := 34) rfl rfl (by kernel_rfl) (by kernel_rfl) (by kernel_rfl) (fun _ _ _ h => h) (.inl ⟨rfl, fun W hW => by obtain ⟨s0, s1, s2, t0, t1, t2⟩ := hW; simp [execOp, Act.eval, go_sem, s0, s1, s2, t0, t1, t2, i0, i1, hlt]⟩) hS ?_
        simp only [List.setIfInBounds_toArray, List.set_cons_succ, List.set_cons_zero]
        refine held_take (i := 3) (t := 59) (v := (.pointer (some ⟨b0, o0 + j * 3, none⟩))) (fuel := 33) rfl rfl (by kernel_rfl) (by kernel_rfl) (by kernel_rfl) (fun _ _ _ h => h) (.inl ⟨rfl, fun W hW => by obtain ⟨s0, s1, s2, t0, t1, t2⟩ := hW; simp [execOp, Act.eval, go_sem, s0, s1, s2, t0, t1, t2]⟩) hS ?_
        simp only [List.setIfInBounds_toArray, List.set_cons_succ, List.set_cons_zero]
        refine held_take (i := 4) (t := 60) (v := (.string xk)) (fuel := 32) rfl rfl (by kernel_rfl) (by kernel_rfl) (by kernel_rfl) (fun _ _ _ h => h) (.inl ⟨rfl, fun W hW => by obtain ⟨s0, s1, s2, t0, t1, t2⟩ := hW; simp [execOp, Act.eval, go_sem, s0, s1, s2, t0, t1, t2]⟩) hS ?_
        simp only [List.setIfInBounds_toArray, List.set_cons_succ, List.set_cons_zero]
        refine held_take (i := 5) (t := 61) (v := (.slice (some ⟨b1, o1, none⟩) N c4)) (fuel := 31) rfl rfl (by kernel_rfl) (by kernel_rfl) (by kernel_rfl) (fun _ _ _ h => h) (.inl ⟨rfl, fun W hW => by obtain ⟨s0, s1, s2, t0, t1, t2⟩ := hW; simp [execOp, Act.eval, go_sem, s0, s1, s2, t0, t1, t2]⟩) hS ?_
        simp only [List.setIfInBounds_toArray, List.set_cons_succ, List.set_cons_zero]
        refine held_take (i := 6) (t := 62) (v := (.int .i64 (j : Int))) (fuel := 30) rfl rfl (by kernel_rfl) (by kernel_rfl) (by kernel_rfl) (fun _ _ _ h => h) (.inl ⟨rfl, fun W hW => by obtain ⟨s0, s1, s2, t0, t1, t2⟩ := hW; simp [execOp, Act.eval, go_sem, s0, s1, s2, t0, t1, t2]⟩) hS ?_
        simp only [List.setIfInBounds_toArray, List.set_cons_succ, List.set_cons_zero]
        refine held_take (i := 7) (t := 63) (v := (.pointer (some ⟨b1, o1 + j * 3, none⟩))) (fuel := 29) rfl rfl (by kernel_rfl) (by kernel_rfl) (by kernel_rfl) (fun _ _ _ h => h) (.inl ⟨rfl, fun W hW => by obtain ⟨s0, s1, s2, t0, t1, t2⟩ := hW; simp [execOp, Act.eval, go_sem, s0, s1, s2, t0, t1, t2, i0, i1, hlt]⟩) hS ?_
        simp only [List.setIfInBounds_toArray, List.set_cons_succ, List.set_cons_zero]
        refine held_take (i := 8) (t := 64) (v := (.pointer (some ⟨b1, o1 + j * 3, none⟩))) (fuel := 28) rfl rfl (by kernel_rfl) (by kernel_rfl) (by kernel_rfl) (fun _ _ _ h => h) (.inl ⟨rfl, fun W hW => by obtain ⟨s0, s1, s2, t0, t1, t2⟩ := hW; simp [execOp, Act.eval, go_sem, s0, s1, s2, t0, t1, t2]⟩) hS ?_
        simp only [List.setIfInBounds_toArray, List.set_cons_succ, List.set_cons_zero]
        refine held_take (i := 9) (t := 65) (v := (.string xk)) (fuel := 27) rfl rfl (by kernel_rfl) (by kernel_rfl) (by kernel_rfl) (fun _ _ _ h => h) (.inl ⟨rfl, fun W hW => by obtain ⟨s0, s1, s2, t0, t1, t2⟩ := hW; simp [execOp, Act.eval, go_sem, s0, s1, s2, t0, t1, t2]⟩) hS ?_
        simp only [List.setIfInBounds_toArray, List.set_cons_succ, List.set_cons_zero]
        refine held_take (i := 10) (t := 66) (v := (.bool false)) (fuel := 26) rfl rfl (by kernel_rfl) (by kernel_rfl) (by kernel_rfl) (fun _ _ _ h => h) (.inl ⟨rfl, fun W hW => by obtain ⟨s0, s1, s2, t0, t1, t2⟩ := hW; simp [execOp, Act.eval, go_sem, s0, s1, s2, t0, t1, t2]⟩) hS ?_
        simp only [List.setIfInBounds_toArray, List.set_cons_succ, List.set_cons_zero]
        refine held_take (i := 11) (t := 67) (v := (.bool false)) (fuel := 25) rfl rfl (by kernel_rfl) (by kernel_rfl) (by kernel_rfl) (fun _ _ _ h => h) (.inl ⟨rfl, fun W hW => by obtain ⟨s0, s1, s2, t0, t1, t2⟩ := hW; simp [execOp, Act.eval, go_sem, s0, s1, s2, t0, t1, t2]⟩) hS ?_
        simp only [List.setIfInBounds_toArray, List.set_cons_succ, List.set_cons_zero]
        refine held_take (i := 12) (t := 68) (v := (.slice (some ⟨b0, o0, none⟩) N c3)) (fuel := 24) rfl rfl (by kernel_rfl) (by kernel_rfl) (by kernel_rfl) (fun _ _ _ h => h) (.inl ⟨rfl, fun W hW => by obtain ⟨s0, s1, s2, t0, t1, t2⟩ := hW; simp [execOp, Act.eval, go_sem, s0, s1, s2, t0, t1, t2]⟩) hS ?_
        simp only [List.setIfInBounds_toArray, List.set_cons_succ, List.set_cons_zero]
        refine held_take (i := 13) (t := 69) (v := (.int .i64 (j : Int))) (fuel := 23) rfl rfl (by kernel_rfl) (by kernel_rfl) (by kernel_rfl) (fun _ _ _ h => h) (.inl ⟨rfl, fun W hW => by obtain ⟨s0, s1, s2, t0, t1, t2⟩ := hW; simp [execOp, Act.eval, go_sem, s0, s1, s2, t0, t1, t2]⟩) hS ?_
        simp only [List.setIfInBounds_toArray, List.set_cons_succ, List.set_cons_zero]
        refine held_take (i := 14) (t := 70) (v := (.pointer (some ⟨b0, o0 + j * 3, none⟩))) (fuel := 22) rfl rfl (by kernel_rfl) (by kernel_rfl) (by kernel_rfl) (fun _ _ _ h => h) (.inl ⟨rfl, fun W hW => by obtain ⟨s0, s1, s2, t0, t1, t2⟩ := hW; simp [execOp, Act.eval, go_sem, s0, s1, s2, t0, t1, t2, i0, i1, hlt]⟩) hS ?_
        simp only [List.setIfInBounds_toArray, List.set_cons_succ, List.set_cons_zero]
        refine held_take (i := 15) (t := 71) (v := (.pointer (some ⟨b0, o0 + j * 3 + 1, none⟩))) (fuel := 21) rfl rfl (by kernel_rfl) (by kernel_rfl) (by kernel_rfl) (fun _ _ _ h => h) (.inl ⟨rfl, fun W hW => by obtain ⟨s0, s1, s2, t0, t1, t2⟩ := hW; simp [execOp, Act.eval, go_sem, s0, s1, s2, t0, t1, t2]⟩) hS ?_
        simp only [List.setIfInBounds_toArray, List.set_cons_succ, List.set_cons_zero]
        refine held_take (i := 16) (t := 72) (v := (.string xv)) (fuel := 20) rfl rfl (by kernel_rfl) (by kernel_rfl) (by kernel_rfl) (fun _ _ _ h => h) (.inl ⟨rfl, fun W hW => by obtain ⟨s0, s1, s2, t0, t1, t2⟩ := hW; simp [execOp, Act.eval, go_sem, s0, s1, s2, t0, t1, t2]⟩) hS ?_
        simp only [List.setIfInBounds_toArray, List.set_cons_succ, List.set_cons_zero]
        refine held_take (i := 17) (t := 73) (v := (.slice (some ⟨b1, o1, none⟩) N c4)) (fuel := 19) rfl rfl (by kernel_rfl) (by kernel_rfl) (by kernel_rfl) (fun _ _ _ h => h) (.inl ⟨rfl, fun W hW => by obtain ⟨s0, s1, s2, t0, t1, t2⟩ := hW; simp [execOp, Act.eval, go_sem, s0, s1, s2, t0, t1, t2]⟩) hS ?_
        simp only [List.setIfInBounds_toArray, List.set_cons_succ, List.set_cons_zero]
        refine held_take (i := 18) (t := 74) (v := (.int .i64 (j : Int))) (fuel := 18) rfl rfl (by kernel_rfl) (by kernel_rfl) (by kernel_rfl) (fun _ _ _ h => h) (.inl ⟨rfl, fun W hW => by obtain ⟨s0, s1, s2, t0, t1, t2⟩ := hW; simp [execOp, Act.eval, go_sem, s0, s1, s2, t0, t1, t2]⟩) hS ?_
        simp only [List.setIfInBounds_toArray, List.set_cons_succ, List.set_cons_zero]
        refine held_take (i := 19) (t := 75) (v := (.pointer (some ⟨b1, o1 + j * 3, none⟩))) (fuel := 17) rfl rfl (by kernel_rfl) (by kernel_rfl) (by kernel_rfl) (fun _ _ _ h => h) (.inl ⟨rfl, fun W hW => by obtain ⟨s0, s1, s2, t0, t1, t2⟩ := hW; simp [execOp, Act.eval, go_sem, s0, s1, s2, t0, t1, t2, i0, i1, hlt]⟩) hS ?_
        simp only [List.setIfInBounds_toArray, List.set_cons_succ, List.set_cons_zero]
        refine held_take (i := 20) (t := 76) (v := (.pointer (some ⟨b1, o1 + j * 3 + 1, none⟩))) (fuel := 16) rfl rfl (by kernel_rfl) (by kernel_rfl) (by kernel_rfl) (fun _ _ _ h => h) (.inl ⟨rfl, fun W hW => by obtain ⟨s0, s1, s2, t0, t1, t2⟩ := hW; simp [execOp, Act.eval, go_sem, s0, s1, s2, t0, t1, t2]⟩) hS ?_
        simp only [List.setIfInBounds_toArray, List.set_cons_succ, List.set_cons_zero]
        refine held_take (i := 21) (t := 77) (v := (.string xv)) (fuel := 15) rfl rfl (by kernel_rfl) (by kernel_rfl) (by kernel_rfl) (fun _ _ _ h => h) (.inl ⟨rfl, fun W hW => by obtain ⟨s0, s1, s2, t0, t1, t2⟩ := hW; simp [execOp, Act.eval, go_sem, s0, s1, s2, t0, t1, t2]⟩) hS ?_
        simp only [List.setIfInBounds_toArray, List.set_cons_succ, List.set_cons_zero]
        refine held_take (i := 22) (t := 78) (v := (.bool false)) (fuel := 14) rfl rfl (by kernel_rfl) (by kernel_rfl) (by kernel_rfl) (fun _ _ _ h => h) (.inl ⟨rfl, fun W hW => by obtain ⟨s0, s1, s2, t0, t1, t2⟩ := hW; simp [execOp, Act.eval, go_sem, s0, s1, s2, t0, t1, t2]⟩) hS ?_
        simp only [List.setIfInBounds_toArray, List.set_cons_succ, List.set_cons_zero]
        refine held_take (i := 23) (t := 79) (v := (.bool false)) (fuel := 13) rfl rfl (by kernel_rfl) (by kernel_rfl) (by kernel_rfl) (fun _ _ _ h => h) (.inl ⟨rfl, fun W hW => by obtain ⟨s0, s1, s2, t0, t1, t2⟩ := hW; simp [execOp, Act.eval, go_sem, s0, s1, s2, t0, t1, t2]⟩) hS ?_
        simp only [List.setIfInBounds_toArray, List.set_cons_succ, List.set_cons_zero]
        refine held_take (i := 24) (t := 80) (v := (.bool false)) (fuel := 12) rfl rfl (by kernel_rfl) (by kernel_rfl) (by kernel_rfl) (fun _ _ _ h => h) (.inl ⟨rfl, fun W hW => by obtain ⟨s0, s1, s2, t0, t1, t2⟩ := hW; simp [execOp, Act.eval, go_sem, s0, s1, s2, t0, t1, t2]⟩) hS ?_
        simp only [List.setIfInBounds_toArray, List.set_cons_succ, List.set_cons_zero]
        refine held_take (i := 25) (t := 81) (v := (.slice (some ⟨b0, o0, none⟩) N c3)) (fuel := 11) rfl rfl (by kernel_rfl) (by kernel_rfl) (by kernel_rfl) (fun _ _ _ h => h) (.inl ⟨rfl, fun W hW => by obtain ⟨s0, s1, s2, t0, t1, t2⟩ := hW; simp [execOp, Act.eval, go_sem, s0, s1, s2, t0, t1, t2]⟩) hS ?_
        simp only [List.setIfInBounds_toArray, List.set_cons_succ, List.set_cons_zero]
        refine held_take (i := 26) (t := 82) (v := (.int .i64 (j : Int))) (fuel := 10) rfl rfl (by kernel_rfl) (by kernel_rfl) (by kernel_rfl) (fun _ _ _ h => h) (.inl ⟨rfl, fun W hW => by obtain ⟨s0, s1, s2, t0, t1, t2⟩ := hW; simp [execOp, Act.eval, go_sem, s0, s1, s2, t0, t1, t2]⟩) hS ?_
        simp only [List.setIfInBounds_toArray, List.set_cons_succ, List.set_cons_zero]
        refine held_take (i := 27) (t := 83) (v := (.pointer (some ⟨b0, o0 + j * 3, none⟩))) (fuel := 9) rfl rfl (by kernel_rfl) (by kernel_rfl) (by kernel_rfl) (fun _ _ _ h => h) (.inl ⟨rfl, fun W hW => by obtain ⟨s0, s1, s2, t0, t1, t2⟩ := hW; simp [execOp, Act.eval, go_sem, s0, s1, s2, t0, t1, t2, i0, i1, hlt]⟩) hS ?_
        simp only [List.setIfInBounds_toArray, List.set_cons_succ, List.set_cons_zero]
        refine held_take (i := 28) (t := 84) (v := (.pointer (some ⟨b0, o0 + j * 3 + 2, none⟩))) (fuel := 8) rfl rfl (by kernel_rfl) (by kernel_rfl) (by kernel_rfl) (fun _ _ _ h => h) (.inl ⟨rfl, fun W hW => by obtain ⟨s0, s1, s2, t0, t1, t2⟩ := hW; simp [execOp, Act.eval, go_sem, s0, s1, s2, t0, t1, t2]⟩) hS ?_
        simp only [List.setIfInBounds_toArray, List.set_cons_succ, List.set_cons_zero]
        refine held_take (i := 29) (t := 85) (v := (.bool xg)) (fuel := 7) rfl rfl (by kernel_rfl) (by kernel_rfl) (by kernel_rfl) (fun _ _ _ h => h) (.inl ⟨rfl, fun W hW => by obtain ⟨s0, s1, s2, t0, t1, t2⟩ := hW; simp [execOp, Act.eval, go_sem, s0, s1, s2, t0, t1, t2]⟩) hS ?_
        simp only [List.setIfInBounds_toArray, List.set_cons_succ, List.set_cons_zero]
        refine held_take (i := 30) (t := 86) (v := (.slice (some ⟨b1, o1, none⟩) N c4)) (fuel := 6) rfl rfl (by kernel_rfl) (by kernel_rfl) (by kernel_rfl) (fun _ _ _ h => h) (.inl ⟨rfl, fun W hW => by obtain ⟨s0, s1, s2, t0, t1, t2⟩ := hW; simp [execOp, Act.eval, go_sem, s0, s1, s2, t0, t1, t2]⟩) hS ?_
        simp only [List.setIfInBounds_toArray, List.set_cons_succ, List.set_cons_zero]
        refine held_take (i := 31) (t := 87) (v := (.int .i64 (j : Int))) (fuel := 5) rfl rfl (by kernel_rfl) (by kernel_rfl) (by kernel_rfl) (fun _ _ _ h => h) (.inl ⟨rfl, fun W hW => by obtain ⟨s0, s1, s2, t0, t1, t2⟩ := hW; simp [execOp, Act.eval, go_sem, s0, s1, s2, t0, t1, t2]⟩) hS ?_
        simp only [List.setIfInBounds_toArray, List.set_cons_succ, List.set_cons_zero]
        refine held_take (i := 32) (t := 88) (v := (.pointer (some ⟨b1, o1 + j * 3, none⟩))) (fuel := 4) rfl rfl (by kernel_rfl) (by kernel_rfl) (by kernel_rfl) (fun _ _ _ h => h) (.inl ⟨rfl, fun W hW => by obtain ⟨s0, s1, s2, t0, t1, t2⟩ := hW; simp [execOp, Act.eval, go_sem, s0, s1, s2, t0, t1, t2, i0, i1, hlt]⟩) hS ?_
        simp only [List.setIfInBounds_toArray, List.set_cons_succ, List.set_cons_zero]
        refine held_take (i := 33) (t := 89) (v := (.pointer (some ⟨b1, o1 + j * 3 + 2, none⟩))) (fuel := 3) rfl rfl (by kernel_rfl) (by kernel_rfl) (by kernel_rfl) (fun _ _ _ h => h) (.inl ⟨rfl, fun W hW => by obtain ⟨s0, s1, s2, t0, t1, t2⟩ := hW; simp [execOp, Act.eval, go_sem, s0, s1, s2, t0, t1, t2]⟩) hS ?_
        simp only [List.setIfInBounds_toArray, List.set_cons_succ, List.set_cons_zero]
        refine held_take (i := 34) (t := 90) (v := (.bool xg)) (fuel := 2) rfl rfl (by kernel_rfl) (by kernel_rfl) (by kernel_rfl) (fun _ _ _ h => h) (.inl ⟨rfl, fun W hW => by obtain ⟨s0, s1, s2, t0, t1, t2⟩ := hW; simp [execOp, Act.eval, go_sem, s0, s1, s2, t0, t1, t2]⟩) hS ?_
        simp only [List.setIfInBounds_toArray, List.set_cons_succ, List.set_cons_zero]
        refine held_take (i := 35) (t := 91) (v := (.bool false)) (fuel := 1) rfl rfl (by kernel_rfl) (by kernel_rfl) (by kernel_rfl) (fun _ _ _ h => h) (.inl ⟨rfl, fun W hW => by obtain ⟨s0, s1, s2, t0, t1, t2⟩ := hW; simp [execOp, Act.eval, go_sem, s0, s1, s2, t0, t1, t2]⟩) hS ?_
        simp only [List.setIfInBounds_toArray, List.set_cons_succ, List.set_cons_zero]
        refine held_take (i := 36) (t := 92) (v := (.bool false)) (fuel := 0) rfl rfl (by kernel_rfl) (by kernel_rfl) (by kernel_rfl) (fun _ _ _ h => h) (.inl ⟨rfl, fun W hW => by obtain ⟨s0, s1, s2, t0, t1, t2⟩ := hW; simp [execOp, Act.eval, go_sem, s0, s1, s2, t0, t1, t2]⟩) hS ?_
        simp only [List.setIfInBounds_toArray, List.set_cons_succ, List.set_cons_zero]
        refine wpAnyH_done (by kernel_rfl) ?_ 0
        clear hS
        go_wp2
        go_roundw
        case rel => exact ⟨j + 1, by go_num, by omega, Lib.hid HB.out.drew⟩
        case measure => simp [intOf]; omega
      · go_wp2
        obtain ⟨w0, rfl⟩ : ∃ x, x = wr := ⟨_, rfl⟩
        have HT8 := Lib.hid (HT7.out.on HT HB.out)
        have HS0 := Lib.hid (show OutT w0 none 0 0 [] w0 from ⟨World.ownsRow_nil _ _ _ 3, Below.refl _ _⟩)
        clear hj hlt
        go_loopw [14, 15] (fun dv iv wr => ∃ A9 n c9 i, dv = .slice A9 n c9 ∧ iv = .int .i64 ((i : Nat) : Int) ∧ i ≤ nc ∧ Hid (n = i) ∧ Hid (OutT w0 A9 n c9 (cs.take i) wr)) (fun _ iv _ => nc - (intOf iv).toNat)
        case atStart => exact ⟨none, 0, 0, 0, rfl, rfl, Nat.zero_le _, Lib.hid rfl, HS0⟩
        case round =>
          obtain ⟨A9, n, c9, i, rfl, rfl, hi, HNI, HS⟩ := hrel
          by_cases hlt : i < nc
          · have hil : i < cs.length := by rw [← HLC.out]; exact hlt
            obtain ⟨b, off, rfl, hb, k0, k1, k2⟩ := HC.out i hil
            have HTK := Lib.hid (show cs.take (i + 1) = cs.take i ++ [cs[i]] from (List.take_append_getElem hil).symm)
            obtain ⟨⟨xk, xv, xg⟩, hx⟩ : ∃ x, cs[i]'hil = x := ⟨_, rfl⟩
            rw [hx] at k0 k1 k2 HTK
            dsimp only at k0 k1 k2
            have hbw := hop0 HT8.out.bel HS.out.bel
            have HBW := Lib.hid hbw
            have HSK := Lib.hid (show ∀ U : World, Below w.heap.size w U → U.cell? ⟨b, off + i * 3, none⟩ = some (.string xk) ∧ U.cell? ⟨b, off + i * 3 + 1, none⟩ = some (.string xv) ∧ U.cell? ⟨b, off + i * 3 + 2, none⟩ = some (.bool xg) from fun U hU => ⟨(hU.cell (p := ⟨b, _, none⟩) hb).trans k0, (hU.cell (p := ⟨b, _, none⟩) hb).trans k1, (hU.cell (p := ⟨b, _, none⟩) hb).trans k2⟩)
            obtain ⟨d0, d1, d2⟩ := HSK.out wr hbw
            have i0 : (0 : Int) ≤ (i : Int) := by omega
            have i1 : (i : Int) < (nc : Int) := by omega
            have i3 : i + 1 ≤ 9223372036854775807 := by have := HNC.out; unfold limO at this; omega
            have HLT := Lib.hid hlt
            clear hx hil hb k0 k1 k2 hbw hi
            go_wp2
            go_region
            all_goals go_wp2
            · go_ret
              exact ⟨by simp, HBW.out.drew⟩
            · have HS1 := Lib.hid HS.out.drew.drew
              have hS := HSK.out wr.drew.drew HBW.out.drew.drew
              clear d0 d1 d2
              refine held_begin 20 (fun W => W.cell? ⟨b, off + i * 3, none⟩ = some (.string xk) ∧ W.cell? ⟨b, off + i * 3 + 1, none⟩ = some (.string xv) ∧ W.cell? ⟨b, off + i * 3 + 2, none⟩ = some (.bool xg)) rfl (by kernel_rfl) ?_
              refine held_take (i := 0) (t := 113) (v := (.slice A9 n c9)) (fuel := 19) rfl rfl (by kernel_rfl) (by kernel_rfl) (by kernel_rfl) (fun _ _ _ h => h) (.inl ⟨rfl, fun W hW => by obtain ⟨s0, s1, s2⟩ := hW; simp [execOp, Act.eval, go_sem, s0, s1, s2]⟩) hS ?_
              simp only [List.setIfInBounds_toArray, List.set_cons_succ, List.set_cons_zero]
              refine held_take (i := 1) (t := 114) (v := (.slice (some ⟨b, off, none⟩) nc cc)) (fuel := 18) rfl rfl (by kernel_rfl) (by kernel_rfl) (by kernel_rfl) (fun _ _ _ h => h) (.inl ⟨rfl, fun W hW => by obtain ⟨s0, s1, s2⟩ := hW; simp [execOp, Act.eval, go_sem, s0, s1, s2]⟩) hS ?_
              simp only [List.setIfInBounds_toArray, List.set_cons_succ, List.set_cons_zero]
              refine held_take (i := 2) (t := 115) (v := (.int .i64 (i : Int))) (fuel := 17) rfl rfl (by kernel_rfl) (by kernel_rfl) (by kernel_rfl) (fun _ _ _ h => h) (.inl ⟨rfl, fun W hW => by obtain ⟨s0, s1, s2⟩ := hW; simp [execOp, Act.eval, go_sem, s0, s1, s2]⟩) hS ?_
              simp only [List.setIfInBounds_toArray, List.set_cons_succ, List.set_cons_zero]
              refine held_take (i := 3) (t := 116) (v := (.pointer (some ⟨b, off + i * 3, none⟩))) (fuel := 16) rfl rfl (by kernel_rfl) (by kernel_rfl) (by kernel_rfl) (fun _ _ _ h => h) (.inl ⟨rfl, fun W hW => by obtain ⟨s0, s1, s2⟩ := hW; simp [execOp, Act.eval, go_sem, s0, s1, s2, i0, i1, hlt]⟩) hS ?_
              simp only [List.setIfInBounds_toArray, List.set_cons_succ, List.set_cons_zero]
              refine held_take (i := 4) (t := 117) (v := (.pointer (some ⟨b, off + i * 3, none⟩))) (fuel := 15) rfl rfl (by kernel_rfl) (by kernel_rfl) (by kernel_rfl) (fun _ _ _ h => h) (.inl ⟨rfl, fun W hW => by obtain ⟨s0, s1, s2⟩ := hW; simp [execOp, Act.eval, go_sem, s0, s1, s2]⟩) hS ?_
              simp only [List.setIfInBounds_toArray, List.set_cons_succ, List.set_cons_zero]
              refine held_take (i := 5) (t := 118) (v := (.string xk)) (fuel := 14) rfl rfl (by kernel_rfl) (by kernel_rfl) (by kernel_rfl) (fun _ _ _ h => h) (.inl ⟨rfl, fun W hW => by obtain ⟨s0, s1, s2⟩ := hW; simp [execOp, Act.eval, go_sem, s0, s1, s2]⟩) hS ?_
              simp only [List.setIfInBounds_toArray, List.set_cons_succ, List.set_cons_zero]
              refine held_take (i := 6) (t := 119) (v := (.slice (some ⟨b, off, none⟩) nc cc)) (fuel := 13) rfl rfl (by kernel_rfl) (by kernel_rfl) (by kernel_rfl) (fun _ _ _ h => h) (.inl ⟨rfl, fun W hW => by obtain ⟨s0, s1, s2⟩ := hW; simp [execOp, Act.eval, go_sem, s0, s1, s2]⟩) hS ?_
              simp only [List.setIfInBounds_toArray, List.set_cons_succ, List.set_cons_zero]
              refine held_take (i := 7) (t := 120) (v := (.int .i64 (i : Int))) (fuel := 12) rfl rfl (by kernel_rfl) (by kernel_rfl) (by kernel_rfl) (fun _ _ _ h => h) (.inl ⟨rfl, fun W hW => by obtain ⟨s0, s1, s2⟩ := hW; simp [execOp, Act.eval, go_sem, s0, s1, s2]⟩) hS ?_
              simp only [List.setIfInBounds_toArray, List.set_cons_succ, List.set_cons_zero]
              refine held_take (i := 8) (t := 121) (v := (.pointer (some ⟨b, off + i * 3, none⟩))) (fuel := 11) rfl rfl (by kernel_rfl) (by kernel_rfl) (by kernel_rfl) (fun _ _ _ h => h) (.inl ⟨rfl, fun W hW => by obtain ⟨s0, s1, s2⟩ := hW; simp [execOp, Act.eval, go_sem, s0, s1, s2, i0, i1, hlt]⟩) hS ?_
              simp only [List.setIfInBounds_toArray, List.set_cons_succ, List.set_cons_zero]
              refine held_take (i := 9) (t := 122) (v := (.pointer (some ⟨b, off + i * 3 + 1, none⟩))) (fuel := 10) rfl rfl (by kernel_rfl) (by kernel_rfl) (by kernel_rfl) (fun _ _ _ h => h) (.inl ⟨rfl, fun W hW => by obtain ⟨s0, s1, s2⟩ := hW; simp [execOp, Act.eval, go_sem, s0, s1, s2]⟩) hS ?_
              simp only [List.setIfInBounds_toArray, List.set_cons_succ, List.set_cons_zero]
              refine held_take (i := 10) (t := 123) (v := (.string xv)) (fuel := 9) rfl rfl (by kernel_rfl) (by kernel_rfl) (by kernel_rfl) (fun _ _ _ h => h) (.inl ⟨rfl, fun W hW => by obtain ⟨s0, s1, s2⟩ := hW; simp [execOp, Act.eval, go_sem, s0, s1, s2]⟩) hS ?_
              simp only [List.setIfInBounds_toArray, List.set_cons_succ, List.set_cons_zero]
              refine held_take (i := 11) (t := 124) (v := (.slice (some ⟨b, off, none⟩) nc cc)) (fuel := 8) rfl rfl (by kernel_rfl) (by kernel_rfl) (by kernel_rfl) (fun _ _ _ h => h) (.inl ⟨rfl, fun W hW => by obtain ⟨s0, s1, s2⟩ := hW; simp [execOp, Act.eval, go_sem, s0, s1, s2]⟩) hS ?_
              simp only [List.setIfInBounds_toArray, List.set_cons_succ, List.set_cons_zero]
              refine held_take (i := 12) (t := 125) (v := (.int .i64 (i : Int))) (fuel := 7) rfl rfl (by kernel_rfl) (by kernel_rfl) (by kernel_rfl) (fun _ _ _ h => h) (.inl ⟨rfl, fun W hW => by obtain ⟨s0, s1, s2⟩ := hW; simp [execOp, Act.eval, go_sem, s0, s1, s2]⟩) hS ?_
              simp only [List.setIfInBounds_toArray, List.set_cons_succ, List.set_cons_zero]
              refine held_take (i := 13) (t := 126) (v := (.pointer (some ⟨b, off + i * 3, none⟩))) (fuel := 6) rfl rfl (by kernel_rfl) (by kernel_rfl) (by kernel_rfl) (fun _ _ _ h => h) (.inl ⟨rfl, fun W hW => by obtain ⟨s0, s1, s2⟩ := hW; simp [execOp, Act.eval, go_sem, s0, s1, s2, i0, i1, hlt]⟩) hS ?_
              simp only [List.setIfInBounds_toArray, List.set_cons_succ, List.set_cons_zero]
              refine held_take (i := 14) (t := 127) (v := (.pointer (some ⟨b, off + i * 3 + 2, none⟩))) (fuel := 5) rfl rfl (by kernel_rfl) (by kernel_rfl) (by kernel_rfl) (fun _ _ _ h => h) (.inl ⟨rfl, fun W hW => by obtain ⟨s0, s1, s2⟩ := hW; simp [execOp, Act.eval, go_sem, s0, s1, s2]⟩) hS ?_
              simp only [List.setIfInBounds_toArray, List.set_cons_succ, List.set_cons_zero]
              refine held_take (i := 15) (t := 128) (v := (.bool xg)) (fuel := 4) rfl rfl (by kernel_rfl) (by kernel_rfl) (by kernel_rfl) (fun _ _ _ h => h) (.inl ⟨rfl, fun W hW => by obtain ⟨s0, s1, s2⟩ := hW; simp [execOp, Act.eval, go_sem, s0, s1, s2]⟩) hS ?_
              simp only [List.setIfInBounds_toArray, List.set_cons_succ, List.set_cons_zero]
              refine held_take (i := 16) (t := 129) (v := (.agg #[.string xk, .string xv, .bool xg])) (fuel := 3) rfl rfl (by kernel_rfl) (by kernel_rfl) (by kernel_rfl) (fun _ _ _ h => h) (.inl ⟨rfl, fun W hW => by obtain ⟨s0, s1, s2⟩ := hW; simp [execOp, Act.eval, go_sem, s0, s1, s2]⟩) hS ?_
              simp only [List.setIfInBounds_toArray, List.set_cons_succ, List.set_cons_zero]
              refine held_call (i := 17) rfl (by kernel_rfl) (by kernel_rfl) ?_
              simp [Oper.wp, execOp, Act.eval, Act.put, go_sem]
              have HAL2 := Lib.hid ((Below.refl w0.heap.size wr.drew.drew).alloc HS1.out.bel.size (.cells #[.string xk, .string xv, .bool xg] 51))
              have hS2 := HSK.out _ (HBW.out.drew.drew.trans (HAL2.out.mono HT8.out.bel.size))
              refine ⟨hS2, ?_⟩
              clear hS hS2
              try simp only [List.setIfInBounds_toArray, List.set_cons_succ, List.set_cons_zero]
              refine held_call (i := 18) rfl (by kernel_rfl) (by kernel_rfl) ?_
              refine op_append_items Try.underlying47 infoCh rfl (by decide) kc_len kc_one _ _ _ rfl w0.heap.size A9 n c9 (cs.take i) rfl [⟨xk, xv, xg⟩] 1 rfl (own_below HS1.out.own ((Below.refl _ _).alloc (Nat.le_refl _) _)) (by have := HS1.out.bel.size; simp at this ⊢; omega) ⟨wr.drew.drew.heap.size, 0, none⟩ 1 rfl (new_cells wr.drew.drew [.string xk, .string xv, .bool xg] _) (by have := HNC.out; have := HNI.out; have := HLT.out; unfold limO at *; omega) (by have := HNC.out; have := HNI.out; have := HLT.out; unfold limO at *; unfold maxLen; omega) ?_
              intro A3' c3' w3 ho3 hb3
              have hb4 := HAL2.out.trans hb3
              have HS3 := Lib.hid (HS1.out.more hb4 ho3)
              have hS := HSK.out _ (HBW.out.drew.drew.trans (hb4.mono HT8.out.bel.size))
              refine ⟨hS, ?_⟩
              clear ho3 hb3 hb4
              try simp only [List.setIfInBounds_toArray, List.set_cons_succ, List.set_cons_zero]
              refine held_call (i := 19) rfl (by kernel_rfl) (by kernel_rfl) ?_
              simp [Oper.wp, execOp, Act.eval, Act.put, go_sem]
              refine ⟨hS, ?_⟩
              clear hS
              try simp only [List.setIfInBounds_toArray, List.set_cons_succ, List.set_cons_zero]
              refine wpAnyH_done (by kernel_rfl) ?_ 0
              go_wp2
              go_roundw
              case rel => exact ⟨_, _, _, i + 1, rfl, by go_num, by have := HLT.out; omega, Lib.hid (by rw [HNI.out]), by rw [HTK.out]; exact HS3⟩
              case measure => have := HLT.out; simp [intOf]; omega
          · have hin : i = nc := by omega
            obtain ⟨hnl, hrw⟩ := HS.out.rows
            rw [List.take_of_length_le (by rw [← HLC.out]; omega)] at hrw
            have HT9 := Lib.hid (HT8.out.on HT HS.out.bel)
            have hap := HT9.out.apply HT (c := c9) (by have h1 := HL1.out; have h2 := HNC.out; have h3 := HLC.out; unfold limO at h1 h2; omega) hrw
            rw [← HLC.out] at hap
            have HAP := Lib.hid hap
            have hnn := HNI.out
            rw [hin] at hnn
            subst hnn
            clear hap hrw hnl hin hi
            go_wp2_with (first
              | (go_at_call 23; go_loud (refine HAP.out.mono ?_; rintro en w9 ⟨v9, rfl, ⟨D9, R9, h9⟩, hb9⟩; have HX9 := Lib.hid h9; have HT10 := Lib.hid (HT9.out.on HT hb9); clear h9 hb9))
              | (go_at_call 24; go_loud (refine (HRA.out m1 (HT10.out.rise1 HT) _ _ _ HT10.out.bel (by have h1 := HL1.out; have h2 := HNC.out; unfold limO at h1 h2; omega) HT10.out.r1).mono ?_; rintro en wa ⟨Ax, cx, rfl, hra, hba⟩; have HRW := Lib.hid hra; have HXa := Lib.hid (HT.ch HX9.out (ch_of (S := fun _ => False) hba) (fun _ h => h.elim)); have HTa := Lib.hid (HT10.out.on HT hba); clear hra hba))
              | (have HSEC := HTc; go_at_call 19; clear HSEC; go_loud (refine (HTc.out.has2 HT (by have h1 := HL2.out; unfold limO at h1; omega)).mono ?_; rintro en wd ⟨rfl, hbd⟩; have HTd := Lib.hid (HTc.out.on HT hbd); clear hbd))
              | (have HSEC := HTb; go_at_call 19; clear HSEC; go_loud (refine (HTb.out.has1 HT (by have h1 := HL1.out; unfold limO at h1; omega)).mono ?_; rintro en wc ⟨rfl, hbc⟩; have HTc := Lib.hid (HTb.out.on HT hbc); clear hbc))
              | (go_at_call 19; go_loud (refine (has_row HT HXa.out rfl HRW.out (by have h0 := applyK_len cs m1; have h1 := HL1.out; have h2 := HNC.out; have h3 := HLC.out; unfold limO at h1 h2; omega)).mono ?_; rintro en wb ⟨rfl, hbb⟩; have HTb := Lib.hid (HTa.out.on HT hbb); clear hbb)))
            go_ret
            exact ⟨by simp, HTd.out.bel⟩
  · go_ret
    exact ⟨by simp, HB3.out⟩
  · go_ret
    exact ⟨by simp, HB2.out⟩
end
end Go.Proofs.Ytmeoednndfgffaa
