/- Layer 13, walked: truth, reckon, Fits (the reference). -/
import Derived.Test.YtclcabdekeegdaaGreatExQ10F
import Derived.Test.YtclcabdekeegdaaGreatExNumCF
namespace Go.Proofs.YtclcabdekeegdaaGreat
open Go.ChangeShapes Go.WideShapes Go.ChangeAt Go.RowKit
set_option linter.unusedVariables false
set_option linter.unusedSimpArgs false
set_option maxHeartbeats 8000000 in
set_option maxRecDepth 40000 in
theorem rfits_any (cs : List C) (row : List V) (hw : ∀ v ∈ row, v.wf) (cA : Option Addr) (cc : Nat) (rA : Option Addr) (rc : Nat) (w : World) (hcl : cs.length ≤ maxLen) (hrl : row.length ≤ maxLen) (hc : Row2 w w.heap.size cA cs) (hr : Row3 w w.heap.size rA row) :
  Calls Tryz.prog 27 #[.slice cA cs.length cc, .slice rA row.length rc] w fun en w' => en = .returned (.bool (fitsR cs row)) ∧ Below w.heap.size w w' := by
 obtain ⟨E, hE⟩ : ∃ E, Ending.returned (.bool (fitsR cs row)) = E := ⟨_, rfl⟩
 rw [hE]
 have HE := Lib.hid hE
 by_cases hlen : row.length = cs.length
 ·have HGOOD := Lib.hid (fun (h : ∀ i (hi : i < cs.length) (hir : i < row.length), fits cs[i] row[i] = true) => show E = .returned (.bool true) by
   rw [← HE.out]
   unfold fitsR
   rw [decide_eq_true hlen, (fitsL_iff hlen).2 fun i hi => h i hi (by omega)]
   rfl)
  have HBAD := Lib.hid (fun (k : Nat) (hk : k < cs.length) (hkr : k < row.length) (h : fits cs[k] row[k] = false) => show E = .returned (.bool false) by
   rw [← HE.out]
   unfold fitsR
   have : fitsL cs row = false := by
    cases hh : fitsL cs row with
    | false => rfl
    | true => rw [(fitsL_iff hlen).1 hh k hk] at h; cases h
   rw [this, Bool.and_false])
  have HC := Lib.hid hc
  have HR := Lib.hid hr
  have HW := Lib.hid hw
  have HLC := Lib.hid hcl
  have HLR := Lib.hid hrl
  have q0 : ((row.length : Int) != (cs.length : Int)) = false := by simp [hlen]
  have HLEN := Lib.hid hlen
  unfold maxLen at hcl hrl
  clear hE hc hr hw hlen
  go_enter Tryz.func27, Tryz.ntmps27
  go_wp2
  go_loopw [5] (fun i wr => ∃ (k : Nat), k ≤ row.length ∧ i = .int .i64 k ∧ Hid (∀ i (hi : i < k) (hic : i < cs.length) (hir : i < row.length), fits cs[i] row[i] = true) ∧ Below w.heap.size w wr) (fun i _ => row.length - (intOf i).toNat)
  case atStart => exact ⟨0, Nat.zero_le _, rfl, Lib.hid (fun i hi => by omega), Below.refl _ _⟩
  case round =>
   obtain ⟨k, hkk, rfl, HK, hbel⟩ := hrel
   have HB := Lib.hid hbel
   by_cases hlt : k < row.length
   ·have hkc : k < cs.length := by have := HLEN.out; omega
    obtain ⟨br, orr, rfl, hbr, r0, r1, r2⟩ := (HR.out.below hbel) k hlt
    obtain ⟨bc, oc, rfl, hbc, s0, s1⟩ := (HC.out.below hbel) k hkc
    have HBADk := Lib.hid (HBAD.out k hkc hlt)
    have HCH := Lib.hid (rcheck_any row[k] (HW.out _ (List.getElem_mem hlt)))
    have HSTEP := Lib.hid (fun (h : fits cs[k] row[k] = true) => show ∀ i (hi : i < k + 1) (hic : i < cs.length) (hir : i < row.length), fits cs[i] row[i] = true from fun i hi hic hir => by
     by_cases hik : i < k
     ·exact HK.out i hik hic hir
     ·obtain rfl : i = k := by omega
      exact h)
    obtain ⟨v, hv⟩ : ∃ v, row[k] = v := ⟨_, rfl⟩
    obtain ⟨cl, hcl2⟩ : ∃ cl, cs[k] = cl := ⟨_, rfl⟩
    rw [hv] at r0 r1 r2 HBADk HSTEP HCH
    rw [hcl2] at s0 s1 HBADk HSTEP
    have hbrw : br < wr.heap.size := Nat.lt_of_lt_of_le hbr hbel.size
    have hbcw : bc < wr.heap.size := Nat.lt_of_lt_of_le hbc hbel.size
    obtain ⟨x, hx⟩ : ∃ x, chk v = x := ⟨_, rfl⟩
    rw [hx] at HCH
    have i1 : (0 : Int) ≤ (k : Int) := by omega
    have i2 : (k : Int) < (row.length : Int) := by omega
    have i3 : (k : Int) < (cs.length : Int) := by omega
    unfold V.val at HCH
    clear hv hcl2 HK s0 hbr hbc
    by_cases h0 : x = 0
    ·subst h0
     by_cases hz : v.k = 0
     ·have HF := Lib.hid (HSTEP.out (by unfold fits; rw [decide_eq_true hx, decide_eq_true (.inl hz)]; rfl))
      have q1 : (v.k != 0) = false := by simpa using hz
      clear hz
      go_wp2_with fail
      have hS : (wr.drew.cell? ⟨br, orr + k * 3, none⟩ = some (.int .i64 v.k) ∧ wr.drew.cell? ⟨br, orr + k * 3 + 1, none⟩ = some (.int .i64 v.n) ∧ wr.drew.cell? ⟨br, orr + k * 3 + 2, none⟩ = some (.string v.s) ∧ wr.drew.cell? ⟨bc, oc + k * 2 + 1, none⟩ = some (.int .i64 cl.k)) ∧ Below w.heap.size w wr.drew := ⟨⟨r0, r1, r2, s1⟩, HB.out.drew⟩
      refine held_begin 27 (fun W => (W.cell? ⟨br, orr + k * 3, none⟩ = some (.int .i64 v.k) ∧ W.cell? ⟨br, orr + k * 3 + 1, none⟩ = some (.int .i64 v.n) ∧ W.cell? ⟨br, orr + k * 3 + 2, none⟩ = some (.string v.s) ∧ W.cell? ⟨bc, oc + k * 2 + 1, none⟩ = some (.int .i64 cl.k)) ∧ Below w.heap.size w W) rfl (by kernel_rfl) ?_
      refine tkQ 0 17 ((.slice (some ⟨br, orr, none⟩) row.length rc)) 26 rfl rfl (by kernel_rfl) (fun _ _ _ h => h) (.inl ⟨rfl, fun W hW => by simp [execOp, Act.eval, go_sem]⟩) hS ?_
      simp only [nA, nB, nC]
      refine tkQ 1 18 ((.int .i64 (k : Int))) 25 rfl rfl (by kernel_rfl) (fun _ _ _ h => h) (.inl ⟨rfl, fun W hW => by simp [execOp, Act.eval, go_sem]⟩) hS ?_
      simp only [nA, nB, nC]
      refine tkQ 2 19 ((.pointer (some ⟨br, orr + k * 3, none⟩))) 24 rfl rfl (by kernel_rfl) (fun _ _ _ h => h) (.inl ⟨rfl, fun W hW => by simp [execOp, Act.eval, go_sem, i1, i2]⟩) hS ?_
      simp only [nA, nB, nC]
      refine tkQ 3 20 ((.agg #[.int .i64 v.k, .int .i64 v.n, .string v.s])) 23 rfl rfl (by kernel_rfl) (fun _ _ _ h => h) (.inl ⟨rfl, fun W hW => by simp [execOp, Act.eval, go_sem, hW.1.1, hW.1.2.1, hW.1.2.2.1]⟩) hS ?_
      simp only [nA, nB, nC]
      refine held_call (i := 4) rfl (by kernel_rfl) (by kernel_rfl) ?_
      simp [Oper.wp, execOp, Act.eval, Act.put, go_sem]
      refine (HCH.out _).mono ?_
      rintro en w3 ⟨rfl, hb3⟩
      have hS := And.intro (And.intro (later_cell hb3 hS.1.1) (And.intro (later_cell hb3 hS.1.2.1) (And.intro (later_cell hb3 hS.1.2.2.1) (later_cell hb3 hS.1.2.2.2)))) (hop0 hS.2 hb3)
      refine ⟨hS, ?_⟩
      try simp only [nA, nB, nC]
      refine tkQ 5 22 ((.bool false)) 21 rfl rfl (by kernel_rfl) (fun _ _ _ h => h) (.inl ⟨rfl, fun W hW => by simp [execOp, Act.eval, go_sem]⟩) hS ?_
      simp only [nA, nB, nC]
      refine tkQ 6 23 ((.bool false)) 20 rfl rfl (by kernel_rfl) (fun _ _ _ h => h) (.inl ⟨rfl, fun W hW => by simp [execOp, Act.eval, go_sem]⟩) hS ?_
      simp only [nA, nB, nC]
      refine tkQ 7 24 ((.slice (some ⟨br, orr, none⟩) row.length rc)) 19 rfl rfl (by kernel_rfl) (fun _ _ _ h => h) (.inl ⟨rfl, fun W hW => by simp [execOp, Act.eval, go_sem]⟩) hS ?_
      simp only [nA, nB, nC]
      refine tkQ 8 25 ((.int .i64 (k : Int))) 18 rfl rfl (by kernel_rfl) (fun _ _ _ h => h) (.inl ⟨rfl, fun W hW => by simp [execOp, Act.eval, go_sem]⟩) hS ?_
      simp only [nA, nB, nC]
      refine tkQ 9 26 ((.pointer (some ⟨br, orr + k * 3, none⟩))) 17 rfl rfl (by kernel_rfl) (fun _ _ _ h => h) (.inl ⟨rfl, fun W hW => by simp [execOp, Act.eval, go_sem, i1, i2]⟩) hS ?_
      simp only [nA, nB, nC]
      refine tkQ 10 27 ((.pointer (some ⟨br, orr + k * 3, none⟩))) 16 rfl rfl (by kernel_rfl) (fun _ _ _ h => h) (.inl ⟨rfl, fun W hW => by simp [execOp, Act.eval, go_sem]⟩) hS ?_
      simp only [nA, nB, nC]
      refine tkQ 11 28 ((.int .i64 v.k)) 15 rfl rfl (by kernel_rfl) (fun _ _ _ h => h) (.inl ⟨rfl, fun W hW => by simp [execOp, Act.eval, go_sem, hW.1.1]⟩) hS ?_
      simp only [nA, nB, nC]
      refine tkQ 12 29 ((.bool false)) 14 rfl rfl (by kernel_rfl) (fun _ _ _ h => h) (.inl ⟨rfl, fun W hW => by simp [execOp, Act.eval, go_sem, q1]⟩) hS ?_
      simp only [nA, nB, nC]
      refine tkQ 13 30 ((.bool false)) 13 rfl rfl (by kernel_rfl) (fun _ _ _ h => h) (.inl ⟨rfl, fun W hW => by simp [execOp, Act.eval, go_sem]⟩) hS ?_
      simp only [nA, nB, nC]
      refine tkQ 14 31 (undef) 12 rfl rfl (by kernel_rfl) (fun _ _ _ h => h) (.inr ⟨rfl, rfl⟩) hS ?_
      simp only [nA, nB, nC]
      refine tkQ 15 32 (undef) 11 rfl rfl (by kernel_rfl) (fun _ _ _ h => h) (.inr ⟨rfl, rfl⟩) hS ?_
      simp only [nA, nB, nC]
      refine tkQ 16 33 (undef) 10 rfl rfl (by kernel_rfl) (fun _ _ _ h => h) (.inr ⟨rfl, rfl⟩) hS ?_
      simp only [nA, nB, nC]
      refine tkQ 17 34 (undef) 9 rfl rfl (by kernel_rfl) (fun _ _ _ h => h) (.inr ⟨rfl, rfl⟩) hS ?_
      simp only [nA, nB, nC]
      refine tkQ 18 35 (undef) 8 rfl rfl (by kernel_rfl) (fun _ _ _ h => h) (.inr ⟨rfl, rfl⟩) hS ?_
      simp only [nA, nB, nC]
      refine tkQ 19 36 (undef) 7 rfl rfl (by kernel_rfl) (fun _ _ _ h => h) (.inr ⟨rfl, rfl⟩) hS ?_
      simp only [nA, nB, nC]
      refine tkQ 20 37 (undef) 6 rfl rfl (by kernel_rfl) (fun _ _ _ h => h) (.inr ⟨rfl, rfl⟩) hS ?_
      simp only [nA, nB, nC]
      refine tkQ 21 38 (undef) 5 rfl rfl (by kernel_rfl) (fun _ _ _ h => h) (.inr ⟨rfl, rfl⟩) hS ?_
      simp only [nA, nB, nC]
      refine tkQ 22 39 (undef) 4 rfl rfl (by kernel_rfl) (fun _ _ _ h => h) (.inr ⟨rfl, rfl⟩) hS ?_
      simp only [nA, nB, nC]
      refine tkQ 23 40 (undef) 3 rfl rfl (by kernel_rfl) (fun _ _ _ h => h) (.inr ⟨rfl, rfl⟩) hS ?_
      simp only [nA, nB, nC]
      refine tkQ 24 41 (undef) 2 rfl rfl (by kernel_rfl) (fun _ _ _ h => h) (.inr ⟨rfl, rfl⟩) hS ?_
      simp only [nA, nB, nC]
      refine tkQ 25 42 ((.bool false)) 1 rfl rfl (by kernel_rfl) (fun _ _ _ h => h) (.inl ⟨rfl, fun W hW => by simp [execOp, Act.eval, go_sem]⟩) hS ?_
      simp only [nA, nB, nC]
      refine tkQ 26 43 ((.bool false)) 0 rfl rfl (by kernel_rfl) (fun _ _ _ h => h) (.inl ⟨rfl, fun W hW => by simp [execOp, Act.eval, go_sem]⟩) hS ?_
      simp only [nA, nB, nC]
      refine wpAnyH_done (by kernel_rfl) ?_ 0
      go_wp2
      go_roundw
      case rel => exact ⟨k + 1, by omega, by go_num, HF, hS.2⟩
      case measure => simp [intOf]; omega
     ·have q1 : (v.k != 0) = true := by simpa using hz
      by_cases he : v.k = cl.k
      ·have HF := Lib.hid (HSTEP.out (by unfold fits; rw [decide_eq_true hx, decide_eq_true (.inr he)]; rfl))
       have q2 : (v.k != cl.k) = false := by simpa using he
       clear he
       go_wp2_with fail
       have hS : (wr.drew.cell? ⟨br, orr + k * 3, none⟩ = some (.int .i64 v.k) ∧ wr.drew.cell? ⟨br, orr + k * 3 + 1, none⟩ = some (.int .i64 v.n) ∧ wr.drew.cell? ⟨br, orr + k * 3 + 2, none⟩ = some (.string v.s) ∧ wr.drew.cell? ⟨bc, oc + k * 2 + 1, none⟩ = some (.int .i64 cl.k)) ∧ Below w.heap.size w wr.drew := ⟨⟨r0, r1, r2, s1⟩, HB.out.drew⟩
       refine held_begin 27 (fun W => (W.cell? ⟨br, orr + k * 3, none⟩ = some (.int .i64 v.k) ∧ W.cell? ⟨br, orr + k * 3 + 1, none⟩ = some (.int .i64 v.n) ∧ W.cell? ⟨br, orr + k * 3 + 2, none⟩ = some (.string v.s) ∧ W.cell? ⟨bc, oc + k * 2 + 1, none⟩ = some (.int .i64 cl.k)) ∧ Below w.heap.size w W) rfl (by kernel_rfl) ?_
       refine tkQ 0 17 ((.slice (some ⟨br, orr, none⟩) row.length rc)) 26 rfl rfl (by kernel_rfl) (fun _ _ _ h => h) (.inl ⟨rfl, fun W hW => by simp [execOp, Act.eval, go_sem]⟩) hS ?_
       simp only [nA, nB, nC]
       refine tkQ 1 18 ((.int .i64 (k : Int))) 25 rfl rfl (by kernel_rfl) (fun _ _ _ h => h) (.inl ⟨rfl, fun W hW => by simp [execOp, Act.eval, go_sem]⟩) hS ?_
       simp only [nA, nB, nC]
       refine tkQ 2 19 ((.pointer (some ⟨br, orr + k * 3, none⟩))) 24 rfl rfl (by kernel_rfl) (fun _ _ _ h => h) (.inl ⟨rfl, fun W hW => by simp [execOp, Act.eval, go_sem, i1, i2]⟩) hS ?_
       simp only [nA, nB, nC]
       refine tkQ 3 20 ((.agg #[.int .i64 v.k, .int .i64 v.n, .string v.s])) 23 rfl rfl (by kernel_rfl) (fun _ _ _ h => h) (.inl ⟨rfl, fun W hW => by simp [execOp, Act.eval, go_sem, hW.1.1, hW.1.2.1, hW.1.2.2.1]⟩) hS ?_
       simp only [nA, nB, nC]
       refine held_call (i := 4) rfl (by kernel_rfl) (by kernel_rfl) ?_
       simp [Oper.wp, execOp, Act.eval, Act.put, go_sem]
       refine (HCH.out _).mono ?_
       rintro en w3 ⟨rfl, hb3⟩
       have hS := And.intro (And.intro (later_cell hb3 hS.1.1) (And.intro (later_cell hb3 hS.1.2.1) (And.intro (later_cell hb3 hS.1.2.2.1) (later_cell hb3 hS.1.2.2.2)))) (hop0 hS.2 hb3)
       refine ⟨hS, ?_⟩
       try simp only [nA, nB, nC]
       refine tkQ 5 22 ((.bool false)) 21 rfl rfl (by kernel_rfl) (fun _ _ _ h => h) (.inl ⟨rfl, fun W hW => by simp [execOp, Act.eval, go_sem]⟩) hS ?_
       simp only [nA, nB, nC]
       refine tkQ 6 23 ((.bool false)) 20 rfl rfl (by kernel_rfl) (fun _ _ _ h => h) (.inl ⟨rfl, fun W hW => by simp [execOp, Act.eval, go_sem]⟩) hS ?_
       simp only [nA, nB, nC]
       refine tkQ 7 24 ((.slice (some ⟨br, orr, none⟩) row.length rc)) 19 rfl rfl (by kernel_rfl) (fun _ _ _ h => h) (.inl ⟨rfl, fun W hW => by simp [execOp, Act.eval, go_sem]⟩) hS ?_
       simp only [nA, nB, nC]
       refine tkQ 8 25 ((.int .i64 (k : Int))) 18 rfl rfl (by kernel_rfl) (fun _ _ _ h => h) (.inl ⟨rfl, fun W hW => by simp [execOp, Act.eval, go_sem]⟩) hS ?_
       simp only [nA, nB, nC]
       refine tkQ 9 26 ((.pointer (some ⟨br, orr + k * 3, none⟩))) 17 rfl rfl (by kernel_rfl) (fun _ _ _ h => h) (.inl ⟨rfl, fun W hW => by simp [execOp, Act.eval, go_sem, i1, i2]⟩) hS ?_
       simp only [nA, nB, nC]
       refine tkQ 10 27 ((.pointer (some ⟨br, orr + k * 3, none⟩))) 16 rfl rfl (by kernel_rfl) (fun _ _ _ h => h) (.inl ⟨rfl, fun W hW => by simp [execOp, Act.eval, go_sem]⟩) hS ?_
       simp only [nA, nB, nC]
       refine tkQ 11 28 ((.int .i64 v.k)) 15 rfl rfl (by kernel_rfl) (fun _ _ _ h => h) (.inl ⟨rfl, fun W hW => by simp [execOp, Act.eval, go_sem, hW.1.1]⟩) hS ?_
       simp only [nA, nB, nC]
       refine tkQ 12 29 ((.bool true)) 14 rfl rfl (by kernel_rfl) (fun _ _ _ h => h) (.inl ⟨rfl, fun W hW => by simp [execOp, Act.eval, go_sem, q1]⟩) hS ?_
       simp only [nA, nB, nC]
       refine tkQ 13 30 ((.bool true)) 13 rfl rfl (by kernel_rfl) (fun _ _ _ h => h) (.inl ⟨rfl, fun W hW => by simp [execOp, Act.eval, go_sem]⟩) hS ?_
       simp only [nA, nB, nC]
       refine tkQ 14 31 ((.slice (some ⟨br, orr, none⟩) row.length rc)) 12 rfl rfl (by kernel_rfl) (fun _ _ _ h => h) (.inl ⟨rfl, fun W hW => by simp [execOp, Act.eval, go_sem]⟩) hS ?_
       simp only [nA, nB, nC]
       refine tkQ 15 32 ((.int .i64 (k : Int))) 11 rfl rfl (by kernel_rfl) (fun _ _ _ h => h) (.inl ⟨rfl, fun W hW => by simp [execOp, Act.eval, go_sem]⟩) hS ?_
       simp only [nA, nB, nC]
       refine tkQ 16 33 ((.pointer (some ⟨br, orr + k * 3, none⟩))) 10 rfl rfl (by kernel_rfl) (fun _ _ _ h => h) (.inl ⟨rfl, fun W hW => by simp [execOp, Act.eval, go_sem, i1, i2]⟩) hS ?_
       simp only [nA, nB, nC]
       refine tkQ 17 34 ((.pointer (some ⟨br, orr + k * 3, none⟩))) 9 rfl rfl (by kernel_rfl) (fun _ _ _ h => h) (.inl ⟨rfl, fun W hW => by simp [execOp, Act.eval, go_sem]⟩) hS ?_
       simp only [nA, nB, nC]
       refine tkQ 18 35 ((.int .i64 v.k)) 8 rfl rfl (by kernel_rfl) (fun _ _ _ h => h) (.inl ⟨rfl, fun W hW => by simp [execOp, Act.eval, go_sem, hW.1.1]⟩) hS ?_
       simp only [nA, nB, nC]
       refine tkQ 19 36 ((.slice (some ⟨bc, oc, none⟩) cs.length cc)) 7 rfl rfl (by kernel_rfl) (fun _ _ _ h => h) (.inl ⟨rfl, fun W hW => by simp [execOp, Act.eval, go_sem]⟩) hS ?_
       simp only [nA, nB, nC]
       refine tkQ 20 37 ((.int .i64 (k : Int))) 6 rfl rfl (by kernel_rfl) (fun _ _ _ h => h) (.inl ⟨rfl, fun W hW => by simp [execOp, Act.eval, go_sem]⟩) hS ?_
       simp only [nA, nB, nC]
       refine tkQ 21 38 ((.pointer (some ⟨bc, oc + k * 2, none⟩))) 5 rfl rfl (by kernel_rfl) (fun _ _ _ h => h) (.inl ⟨rfl, fun W hW => by simp [execOp, Act.eval, go_sem, i1, i3]⟩) hS ?_
       simp only [nA, nB, nC]
       refine tkQ 22 39 ((.pointer (some ⟨bc, oc + k * 2 + 1, none⟩))) 4 rfl rfl (by kernel_rfl) (fun _ _ _ h => h) (.inl ⟨rfl, fun W hW => by simp [execOp, Act.eval, go_sem]⟩) hS ?_
       simp only [nA, nB, nC]
       refine tkQ 23 40 ((.int .i64 cl.k)) 3 rfl rfl (by kernel_rfl) (fun _ _ _ h => h) (.inl ⟨rfl, fun W hW => by simp [execOp, Act.eval, go_sem, hW.1.2.2.2]⟩) hS ?_
       simp only [nA, nB, nC]
       refine tkQ 24 41 ((.bool false)) 2 rfl rfl (by kernel_rfl) (fun _ _ _ h => h) (.inl ⟨rfl, fun W hW => by simp [execOp, Act.eval, go_sem, q2]⟩) hS ?_
       simp only [nA, nB, nC]
       refine tkQ 25 42 ((.bool false)) 1 rfl rfl (by kernel_rfl) (fun _ _ _ h => h) (.inl ⟨rfl, fun W hW => by simp [execOp, Act.eval, go_sem]⟩) hS ?_
       simp only [nA, nB, nC]
       refine tkQ 26 43 ((.bool false)) 0 rfl rfl (by kernel_rfl) (fun _ _ _ h => h) (.inl ⟨rfl, fun W hW => by simp [execOp, Act.eval, go_sem]⟩) hS ?_
       simp only [nA, nB, nC]
       refine wpAnyH_done (by kernel_rfl) ?_ 0
       go_wp2
       go_roundw
       case rel => exact ⟨k + 1, by omega, by go_num, HF, hS.2⟩
       case measure => simp [intOf]; omega
      ·have HX := Lib.hid (HBADk.out (by unfold fits; rw [decide_eq_false (show ¬ (v.k = 0 ∨ v.k = cl.k) by simp [hz, he]), Bool.and_false]))
       have q2 : (v.k != cl.k) = true := by simpa using he
       go_wp2_with fail
       have hS : (wr.drew.cell? ⟨br, orr + k * 3, none⟩ = some (.int .i64 v.k) ∧ wr.drew.cell? ⟨br, orr + k * 3 + 1, none⟩ = some (.int .i64 v.n) ∧ wr.drew.cell? ⟨br, orr + k * 3 + 2, none⟩ = some (.string v.s) ∧ wr.drew.cell? ⟨bc, oc + k * 2 + 1, none⟩ = some (.int .i64 cl.k)) ∧ Below w.heap.size w wr.drew := ⟨⟨r0, r1, r2, s1⟩, HB.out.drew⟩
       refine held_begin 27 (fun W => (W.cell? ⟨br, orr + k * 3, none⟩ = some (.int .i64 v.k) ∧ W.cell? ⟨br, orr + k * 3 + 1, none⟩ = some (.int .i64 v.n) ∧ W.cell? ⟨br, orr + k * 3 + 2, none⟩ = some (.string v.s) ∧ W.cell? ⟨bc, oc + k * 2 + 1, none⟩ = some (.int .i64 cl.k)) ∧ Below w.heap.size w W) rfl (by kernel_rfl) ?_
       refine tkQ 0 17 ((.slice (some ⟨br, orr, none⟩) row.length rc)) 26 rfl rfl (by kernel_rfl) (fun _ _ _ h => h) (.inl ⟨rfl, fun W hW => by simp [execOp, Act.eval, go_sem]⟩) hS ?_
       simp only [nA, nB, nC]
       refine tkQ 1 18 ((.int .i64 (k : Int))) 25 rfl rfl (by kernel_rfl) (fun _ _ _ h => h) (.inl ⟨rfl, fun W hW => by simp [execOp, Act.eval, go_sem]⟩) hS ?_
       simp only [nA, nB, nC]
       refine tkQ 2 19 ((.pointer (some ⟨br, orr + k * 3, none⟩))) 24 rfl rfl (by kernel_rfl) (fun _ _ _ h => h) (.inl ⟨rfl, fun W hW => by simp [execOp, Act.eval, go_sem, i1, i2]⟩) hS ?_
       simp only [nA, nB, nC]
       refine tkQ 3 20 ((.agg #[.int .i64 v.k, .int .i64 v.n, .string v.s])) 23 rfl rfl (by kernel_rfl) (fun _ _ _ h => h) (.inl ⟨rfl, fun W hW => by simp [execOp, Act.eval, go_sem, hW.1.1, hW.1.2.1, hW.1.2.2.1]⟩) hS ?_
       simp only [nA, nB, nC]
       refine held_call (i := 4) rfl (by kernel_rfl) (by kernel_rfl) ?_
       simp [Oper.wp, execOp, Act.eval, Act.put, go_sem]
       refine (HCH.out _).mono ?_
       rintro en w3 ⟨rfl, hb3⟩
       have hS := And.intro (And.intro (later_cell hb3 hS.1.1) (And.intro (later_cell hb3 hS.1.2.1) (And.intro (later_cell hb3 hS.1.2.2.1) (later_cell hb3 hS.1.2.2.2)))) (hop0 hS.2 hb3)
       refine ⟨hS, ?_⟩
       try simp only [nA, nB, nC]
       refine tkQ 5 22 ((.bool false)) 21 rfl rfl (by kernel_rfl) (fun _ _ _ h => h) (.inl ⟨rfl, fun W hW => by simp [execOp, Act.eval, go_sem]⟩) hS ?_
       simp only [nA, nB, nC]
       refine tkQ 6 23 ((.bool false)) 20 rfl rfl (by kernel_rfl) (fun _ _ _ h => h) (.inl ⟨rfl, fun W hW => by simp [execOp, Act.eval, go_sem]⟩) hS ?_
       simp only [nA, nB, nC]
       refine tkQ 7 24 ((.slice (some ⟨br, orr, none⟩) row.length rc)) 19 rfl rfl (by kernel_rfl) (fun _ _ _ h => h) (.inl ⟨rfl, fun W hW => by simp [execOp, Act.eval, go_sem]⟩) hS ?_
       simp only [nA, nB, nC]
       refine tkQ 8 25 ((.int .i64 (k : Int))) 18 rfl rfl (by kernel_rfl) (fun _ _ _ h => h) (.inl ⟨rfl, fun W hW => by simp [execOp, Act.eval, go_sem]⟩) hS ?_
       simp only [nA, nB, nC]
       refine tkQ 9 26 ((.pointer (some ⟨br, orr + k * 3, none⟩))) 17 rfl rfl (by kernel_rfl) (fun _ _ _ h => h) (.inl ⟨rfl, fun W hW => by simp [execOp, Act.eval, go_sem, i1, i2]⟩) hS ?_
       simp only [nA, nB, nC]
       refine tkQ 10 27 ((.pointer (some ⟨br, orr + k * 3, none⟩))) 16 rfl rfl (by kernel_rfl) (fun _ _ _ h => h) (.inl ⟨rfl, fun W hW => by simp [execOp, Act.eval, go_sem]⟩) hS ?_
       simp only [nA, nB, nC]
       refine tkQ 11 28 ((.int .i64 v.k)) 15 rfl rfl (by kernel_rfl) (fun _ _ _ h => h) (.inl ⟨rfl, fun W hW => by simp [execOp, Act.eval, go_sem, hW.1.1]⟩) hS ?_
       simp only [nA, nB, nC]
       refine tkQ 12 29 ((.bool true)) 14 rfl rfl (by kernel_rfl) (fun _ _ _ h => h) (.inl ⟨rfl, fun W hW => by simp [execOp, Act.eval, go_sem, q1]⟩) hS ?_
       simp only [nA, nB, nC]
       refine tkQ 13 30 ((.bool true)) 13 rfl rfl (by kernel_rfl) (fun _ _ _ h => h) (.inl ⟨rfl, fun W hW => by simp [execOp, Act.eval, go_sem]⟩) hS ?_
       simp only [nA, nB, nC]
       refine tkQ 14 31 ((.slice (some ⟨br, orr, none⟩) row.length rc)) 12 rfl rfl (by kernel_rfl) (fun _ _ _ h => h) (.inl ⟨rfl, fun W hW => by simp [execOp, Act.eval, go_sem]⟩) hS ?_
       simp only [nA, nB, nC]
       refine tkQ 15 32 ((.int .i64 (k : Int))) 11 rfl rfl (by kernel_rfl) (fun _ _ _ h => h) (.inl ⟨rfl, fun W hW => by simp [execOp, Act.eval, go_sem]⟩) hS ?_
       simp only [nA, nB, nC]
       refine tkQ 16 33 ((.pointer (some ⟨br, orr + k * 3, none⟩))) 10 rfl rfl (by kernel_rfl) (fun _ _ _ h => h) (.inl ⟨rfl, fun W hW => by simp [execOp, Act.eval, go_sem, i1, i2]⟩) hS ?_
       simp only [nA, nB, nC]
       refine tkQ 17 34 ((.pointer (some ⟨br, orr + k * 3, none⟩))) 9 rfl rfl (by kernel_rfl) (fun _ _ _ h => h) (.inl ⟨rfl, fun W hW => by simp [execOp, Act.eval, go_sem]⟩) hS ?_
       simp only [nA, nB, nC]
       refine tkQ 18 35 ((.int .i64 v.k)) 8 rfl rfl (by kernel_rfl) (fun _ _ _ h => h) (.inl ⟨rfl, fun W hW => by simp [execOp, Act.eval, go_sem, hW.1.1]⟩) hS ?_
       simp only [nA, nB, nC]
       refine tkQ 19 36 ((.slice (some ⟨bc, oc, none⟩) cs.length cc)) 7 rfl rfl (by kernel_rfl) (fun _ _ _ h => h) (.inl ⟨rfl, fun W hW => by simp [execOp, Act.eval, go_sem]⟩) hS ?_
       simp only [nA, nB, nC]
       refine tkQ 20 37 ((.int .i64 (k : Int))) 6 rfl rfl (by kernel_rfl) (fun _ _ _ h => h) (.inl ⟨rfl, fun W hW => by simp [execOp, Act.eval, go_sem]⟩) hS ?_
       simp only [nA, nB, nC]
       refine tkQ 21 38 ((.pointer (some ⟨bc, oc + k * 2, none⟩))) 5 rfl rfl (by kernel_rfl) (fun _ _ _ h => h) (.inl ⟨rfl, fun W hW => by simp [execOp, Act.eval, go_sem, i1, i3]⟩) hS ?_
       simp only [nA, nB, nC]
       refine tkQ 22 39 ((.pointer (some ⟨bc, oc + k * 2 + 1, none⟩))) 4 rfl rfl (by kernel_rfl) (fun _ _ _ h => h) (.inl ⟨rfl, fun W hW => by simp [execOp, Act.eval, go_sem]⟩) hS ?_
       simp only [nA, nB, nC]
       refine tkQ 23 40 ((.int .i64 cl.k)) 3 rfl rfl (by kernel_rfl) (fun _ _ _ h => h) (.inl ⟨rfl, fun W hW => by simp [execOp, Act.eval, go_sem, hW.1.2.2.2]⟩) hS ?_
       simp only [nA, nB, nC]
       refine tkQ 24 41 ((.bool true)) 2 rfl rfl (by kernel_rfl) (fun _ _ _ h => h) (.inl ⟨rfl, fun W hW => by simp [execOp, Act.eval, go_sem, q2]⟩) hS ?_
       simp only [nA, nB, nC]
       refine tkQ 25 42 ((.bool true)) 1 rfl rfl (by kernel_rfl) (fun _ _ _ h => h) (.inl ⟨rfl, fun W hW => by simp [execOp, Act.eval, go_sem]⟩) hS ?_
       simp only [nA, nB, nC]
       refine tkQ 26 43 ((.bool true)) 0 rfl rfl (by kernel_rfl) (fun _ _ _ h => h) (.inl ⟨rfl, fun W hW => by simp [execOp, Act.eval, go_sem]⟩) hS ?_
       simp only [nA, nB, nC]
       refine wpAnyH_done (by kernel_rfl) ?_ 0
       go_wp2
       go_ret
       rw [HX.out]
       exact ⟨rfl, hS.2⟩
    ·have HX := Lib.hid (HBADk.out (by unfold fits; rw [hx, decide_eq_false h0, Bool.false_and]))
     have q1 : (x != 0) = true := by simpa using h0
     go_wp2_with fail
     have hS : (wr.drew.cell? ⟨br, orr + k * 3, none⟩ = some (.int .i64 v.k) ∧ wr.drew.cell? ⟨br, orr + k * 3 + 1, none⟩ = some (.int .i64 v.n) ∧ wr.drew.cell? ⟨br, orr + k * 3 + 2, none⟩ = some (.string v.s) ∧ wr.drew.cell? ⟨bc, oc + k * 2 + 1, none⟩ = some (.int .i64 cl.k)) ∧ Below w.heap.size w wr.drew := ⟨⟨r0, r1, r2, s1⟩, HB.out.drew⟩
     refine held_begin 27 (fun W => (W.cell? ⟨br, orr + k * 3, none⟩ = some (.int .i64 v.k) ∧ W.cell? ⟨br, orr + k * 3 + 1, none⟩ = some (.int .i64 v.n) ∧ W.cell? ⟨br, orr + k * 3 + 2, none⟩ = some (.string v.s) ∧ W.cell? ⟨bc, oc + k * 2 + 1, none⟩ = some (.int .i64 cl.k)) ∧ Below w.heap.size w W) rfl (by kernel_rfl) ?_
     refine tkQ 0 17 ((.slice (some ⟨br, orr, none⟩) row.length rc)) 26 rfl rfl (by kernel_rfl) (fun _ _ _ h => h) (.inl ⟨rfl, fun W hW => by simp [execOp, Act.eval, go_sem]⟩) hS ?_
     simp only [nA, nB, nC]
     refine tkQ 1 18 ((.int .i64 (k : Int))) 25 rfl rfl (by kernel_rfl) (fun _ _ _ h => h) (.inl ⟨rfl, fun W hW => by simp [execOp, Act.eval, go_sem]⟩) hS ?_
     simp only [nA, nB, nC]
     refine tkQ 2 19 ((.pointer (some ⟨br, orr + k * 3, none⟩))) 24 rfl rfl (by kernel_rfl) (fun _ _ _ h => h) (.inl ⟨rfl, fun W hW => by simp [execOp, Act.eval, go_sem, i1, i2]⟩) hS ?_
     simp only [nA, nB, nC]
     refine tkQ 3 20 ((.agg #[.int .i64 v.k, .int .i64 v.n, .string v.s])) 23 rfl rfl (by kernel_rfl) (fun _ _ _ h => h) (.inl ⟨rfl, fun W hW => by simp [execOp, Act.eval, go_sem, hW.1.1, hW.1.2.1, hW.1.2.2.1]⟩) hS ?_
     simp only [nA, nB, nC]
     refine held_call (i := 4) rfl (by kernel_rfl) (by kernel_rfl) ?_
     simp [Oper.wp, execOp, Act.eval, Act.put, go_sem]
     refine (HCH.out _).mono ?_
     rintro en w3 ⟨rfl, hb3⟩
     have hS := And.intro (And.intro (later_cell hb3 hS.1.1) (And.intro (later_cell hb3 hS.1.2.1) (And.intro (later_cell hb3 hS.1.2.2.1) (later_cell hb3 hS.1.2.2.2)))) (hop0 hS.2 hb3)
     refine ⟨hS, ?_⟩
     try simp only [nA, nB, nC]
     refine tkQ 5 22 ((.bool true)) 21 rfl rfl (by kernel_rfl) (fun _ _ _ h => h) (.inl ⟨rfl, fun W hW => by simp [execOp, Act.eval, go_sem, q1]⟩) hS ?_
     simp only [nA, nB, nC]
     refine tkQ 6 23 ((.bool true)) 20 rfl rfl (by kernel_rfl) (fun _ _ _ h => h) (.inl ⟨rfl, fun W hW => by simp [execOp, Act.eval, go_sem]⟩) hS ?_
     simp only [nA, nB, nC]
     refine tkQ 7 24 (undef) 19 rfl rfl (by kernel_rfl) (fun _ _ _ h => h) (.inr ⟨rfl, rfl⟩) hS ?_
     simp only [nA, nB, nC]
     refine tkQ 8 25 (undef) 18 rfl rfl (by kernel_rfl) (fun _ _ _ h => h) (.inr ⟨rfl, rfl⟩) hS ?_
     simp only [nA, nB, nC]
     refine tkQ 9 26 (undef) 17 rfl rfl (by kernel_rfl) (fun _ _ _ h => h) (.inr ⟨rfl, rfl⟩) hS ?_
     simp only [nA, nB, nC]
     refine tkQ 10 27 (undef) 16 rfl rfl (by kernel_rfl) (fun _ _ _ h => h) (.inr ⟨rfl, rfl⟩) hS ?_
     simp only [nA, nB, nC]
     refine tkQ 11 28 (undef) 15 rfl rfl (by kernel_rfl) (fun _ _ _ h => h) (.inr ⟨rfl, rfl⟩) hS ?_
     simp only [nA, nB, nC]
     refine tkQ 12 29 (undef) 14 rfl rfl (by kernel_rfl) (fun _ _ _ h => h) (.inr ⟨rfl, rfl⟩) hS ?_
     simp only [nA, nB, nC]
     refine tkQ 13 30 (undef) 13 rfl rfl (by kernel_rfl) (fun _ _ _ h => h) (.inr ⟨rfl, rfl⟩) hS ?_
     simp only [nA, nB, nC]
     refine tkQ 14 31 (undef) 12 rfl rfl (by kernel_rfl) (fun _ _ _ h => h) (.inr ⟨rfl, rfl⟩) hS ?_
     simp only [nA, nB, nC]
     refine tkQ 15 32 (undef) 11 rfl rfl (by kernel_rfl) (fun _ _ _ h => h) (.inr ⟨rfl, rfl⟩) hS ?_
     simp only [nA, nB, nC]
     refine tkQ 16 33 (undef) 10 rfl rfl (by kernel_rfl) (fun _ _ _ h => h) (.inr ⟨rfl, rfl⟩) hS ?_
     simp only [nA, nB, nC]
     refine tkQ 17 34 (undef) 9 rfl rfl (by kernel_rfl) (fun _ _ _ h => h) (.inr ⟨rfl, rfl⟩) hS ?_
     simp only [nA, nB, nC]
     refine tkQ 18 35 (undef) 8 rfl rfl (by kernel_rfl) (fun _ _ _ h => h) (.inr ⟨rfl, rfl⟩) hS ?_
     simp only [nA, nB, nC]
     refine tkQ 19 36 (undef) 7 rfl rfl (by kernel_rfl) (fun _ _ _ h => h) (.inr ⟨rfl, rfl⟩) hS ?_
     simp only [nA, nB, nC]
     refine tkQ 20 37 (undef) 6 rfl rfl (by kernel_rfl) (fun _ _ _ h => h) (.inr ⟨rfl, rfl⟩) hS ?_
     simp only [nA, nB, nC]
     refine tkQ 21 38 (undef) 5 rfl rfl (by kernel_rfl) (fun _ _ _ h => h) (.inr ⟨rfl, rfl⟩) hS ?_
     simp only [nA, nB, nC]
     refine tkQ 22 39 (undef) 4 rfl rfl (by kernel_rfl) (fun _ _ _ h => h) (.inr ⟨rfl, rfl⟩) hS ?_
     simp only [nA, nB, nC]
     refine tkQ 23 40 (undef) 3 rfl rfl (by kernel_rfl) (fun _ _ _ h => h) (.inr ⟨rfl, rfl⟩) hS ?_
     simp only [nA, nB, nC]
     refine tkQ 24 41 (undef) 2 rfl rfl (by kernel_rfl) (fun _ _ _ h => h) (.inr ⟨rfl, rfl⟩) hS ?_
     simp only [nA, nB, nC]
     refine tkQ 25 42 (undef) 1 rfl rfl (by kernel_rfl) (fun _ _ _ h => h) (.inr ⟨rfl, rfl⟩) hS ?_
     simp only [nA, nB, nC]
     refine tkQ 26 43 ((.bool true)) 0 rfl rfl (by kernel_rfl) (fun _ _ _ h => h) (.inl ⟨rfl, fun W hW => by simp [execOp, Act.eval, go_sem]⟩) hS ?_
     simp only [nA, nB, nC]
     refine wpAnyH_done (by kernel_rfl) ?_ 0
     go_wp2
     go_ret
     rw [HX.out]
     exact ⟨rfl, hS.2⟩
   ·have HX := Lib.hid (HGOOD.out fun i hi hir => HK.out i (by have := HLEN.out; omega) hi hir)
    go_wp2
    go_ret
    rw [HX.out]
    exact ⟨rfl, HB.out⟩
 ·have q0 : ((row.length : Int) != (cs.length : Int)) = true := by simp; omega
  have HX : E = .returned (.bool false) := by
   rw [← HE.out]
   unfold fitsR
   rw [decide_eq_false hlen]
   rfl
  unfold maxLen at hcl hrl
  rw [HX]
  clear HX HE hE hlen
  go_enter Tryz.func27, Tryz.ntmps27
  go_wp2
  go_ret
  exact ⟨rfl, Below.refl _ _⟩
end Go.Proofs.YtclcabdekeegdaaGreat
