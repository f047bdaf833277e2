/- The walk of OffsRight. -/
import Derived.Test.YtceoneigflejeaaOffV
namespace Go.Proofs.Ytceoneigflejeaa
open Go.ChangeShapes Go.WideShapes Go.ChangeAt Go.RowKit
set_option linter.unusedVariables false
set_option maxRecDepth 4000 in
set_option maxHeartbeats 4000000 in
theorem offsright_walk (l : List Rg) (A : Option Addr) (n c : Nat) (p : Int) (w : World) (hn : n = l.length) (hm : n ≤ maxLen) (hat : RowC rgCells 2 w w.heap.size A l) :
    Calls Try.prog 3 #[.slice A n c, .int .i64 p] w fun e w' => e = .returned (.bool true) ∧ Below w.heap.size w w' := by
  have HN := Lib.hid hn
  have HA := Lib.hid hat
  have HRT := Lib.hid (fun W (h : Below w.heap.size w W) => right_walk l A n c W hn hm ((hat.below h).more h.size))
  have HC := Lib.hid (fun W (h : Below w.heap.size w W) => check_walk l A n c W hn hm ((hat.below h).more h.size))
  have HRW := Lib.hid (fun W (h : Below w.heap.size w W) => rows_walk l A n c W hn hm ((hat.below h).more h.size))
  have hn9 : n ≤ 9223372036854775807 := by unfold maxLen at hm; omega
  clear hat hn hm
  cases hr : rightB l with
  | false =>
    have HR := Lib.hid (rowsV_no hr)
    have HE := Lib.hid (chkO_no hr)
    rw [hr] at HRT
    rw [HE.out] at HC
    rw [HR.out] at HRW
    clear hr
    by_cases hn0 : n = 0
    · subst hn0
      by_cases hp : p < 1 ∨ 4 < p
      · have HSN := Lib.hid (fun W => start_no p W hp)
        by_cases hp1 : p < 1
        · have e1 : decide (p < 1) = true := decide_eq_true hp1
          clear hp hp1
          go_enter Try.func3, Try.ntmps3
          go_wp2_with (first | (go_at_call 8; refine (HRT.out _ HB.out).mono ?_; rintro e w2 ⟨rfl, hb2⟩; have HB2 := Lib.hid (hop HB.out hb2); clear hb2) | (go_at_call 7; refine (alive_any _).mono ?_; rintro e w1 ⟨rfl, hb1⟩; have HB := Lib.hid hb1; clear hb1) | (have HSEC := HB4; go_at_call 9; refine (HC.out _ HB4.out).mono ?_; rintro e w5 ⟨rfl, hb5⟩; have HB5 := Lib.hid (hop HB4.out hb5); clear hb5) | (go_at_call 9; refine (HC.out _ HB2.out).mono ?_; rintro e w4 ⟨rfl, hb4⟩; have HB4 := Lib.hid (hop HB2.out hb4); clear hb4) | (go_at_call 10; refine (HRW.out _ HB5.out).mono ?_; rintro e w6 ⟨rfl, hb6⟩; have HB6 := Lib.hid (hop HB5.out hb6); clear hb6) | (go_at_call 11; refine (HSN.out _).mono ?_; rintro e w7 ⟨rfl, rfl⟩))
          refine wp_loop_rounds 1 ?_
          rw [rounds_succ]
          go_wp2_with (first | (go_at_call 8; refine (HRT.out _ HB.out).mono ?_; rintro e w2 ⟨rfl, hb2⟩; have HB2 := Lib.hid (hop HB.out hb2); clear hb2) | (go_at_call 7; refine (alive_any _).mono ?_; rintro e w1 ⟨rfl, hb1⟩; have HB := Lib.hid hb1; clear hb1) | (have HSEC := HB4; go_at_call 9; refine (HC.out _ HB4.out).mono ?_; rintro e w5 ⟨rfl, hb5⟩; have HB5 := Lib.hid (hop HB4.out hb5); clear hb5) | (go_at_call 9; refine (HC.out _ HB2.out).mono ?_; rintro e w4 ⟨rfl, hb4⟩; have HB4 := Lib.hid (hop HB2.out hb4); clear hb4) | (go_at_call 10; refine (HRW.out _ HB5.out).mono ?_; rintro e w6 ⟨rfl, hb6⟩; have HB6 := Lib.hid (hop HB5.out hb6); clear hb6) | (go_at_call 11; refine (HSN.out _).mono ?_; rintro e w7 ⟨rfl, rfl⟩))
          go_ret
          exact ⟨rfl, HB6.out⟩
        · have e1 : decide (p < 1) = false := decide_eq_false hp1
          have e2 : decide (4 < p) = true := decide_eq_true (by omega)
          clear hp hp1
          go_enter Try.func3, Try.ntmps3
          go_wp2_with (first | (go_at_call 8; refine (HRT.out _ HB.out).mono ?_; rintro e w2 ⟨rfl, hb2⟩; have HB2 := Lib.hid (hop HB.out hb2); clear hb2) | (go_at_call 7; refine (alive_any _).mono ?_; rintro e w1 ⟨rfl, hb1⟩; have HB := Lib.hid hb1; clear hb1) | (have HSEC := HB4; go_at_call 9; refine (HC.out _ HB4.out).mono ?_; rintro e w5 ⟨rfl, hb5⟩; have HB5 := Lib.hid (hop HB4.out hb5); clear hb5) | (go_at_call 9; refine (HC.out _ HB2.out).mono ?_; rintro e w4 ⟨rfl, hb4⟩; have HB4 := Lib.hid (hop HB2.out hb4); clear hb4) | (go_at_call 10; refine (HRW.out _ HB5.out).mono ?_; rintro e w6 ⟨rfl, hb6⟩; have HB6 := Lib.hid (hop HB5.out hb6); clear hb6) | (go_at_call 11; refine (HSN.out _).mono ?_; rintro e w7 ⟨rfl, rfl⟩))
          refine wp_loop_rounds 1 ?_
          rw [rounds_succ]
          go_wp2_with (first | (go_at_call 8; refine (HRT.out _ HB.out).mono ?_; rintro e w2 ⟨rfl, hb2⟩; have HB2 := Lib.hid (hop HB.out hb2); clear hb2) | (go_at_call 7; refine (alive_any _).mono ?_; rintro e w1 ⟨rfl, hb1⟩; have HB := Lib.hid hb1; clear hb1) | (have HSEC := HB4; go_at_call 9; refine (HC.out _ HB4.out).mono ?_; rintro e w5 ⟨rfl, hb5⟩; have HB5 := Lib.hid (hop HB4.out hb5); clear hb5) | (go_at_call 9; refine (HC.out _ HB2.out).mono ?_; rintro e w4 ⟨rfl, hb4⟩; have HB4 := Lib.hid (hop HB2.out hb4); clear hb4) | (go_at_call 10; refine (HRW.out _ HB5.out).mono ?_; rintro e w6 ⟨rfl, hb6⟩; have HB6 := Lib.hid (hop HB5.out hb6); clear hb6) | (go_at_call 11; refine (HSN.out _).mono ?_; rintro e w7 ⟨rfl, rfl⟩))
          go_ret
          exact ⟨rfl, HB6.out⟩
      · obtain ⟨q, rfl⟩ : ∃ q : Nat, p = (q : Int) := ⟨p.toNat, by omega⟩
        have h1 : 1 ≤ q := by omega
        have h4 : q ≤ 4 := by omega
        have HSY := Lib.hid (fun W => start_yes q W h1 h4)
        have hqm : q ≤ maxLen := by unfold maxLen; omega
        have HQ5 := Lib.hid (show min q 5 = q by omega)
        have HQL := Lib.hid (show q = (List.replicate q noRg).length by simp)
        have e1 : decide ((q : Int) < 1) = false := decide_eq_false (by omega)
        have e2 : decide (4 < (q : Int)) = false := decide_eq_false (by omega)
        have e3 : ¬ q < 1 := by omega
        have e4 : ¬ 4 < q := by omega
        clear hp
        go_enter Try.func3, Try.ntmps3
        go_wp2_with (first | (go_at_call 8; refine (HRT.out _ HB.out).mono ?_; rintro e w2 ⟨rfl, hb2⟩; have HB2 := Lib.hid (hop HB.out hb2); clear hb2) | (go_at_call 7; refine (alive_any _).mono ?_; rintro e w1 ⟨rfl, hb1⟩; have HB := Lib.hid hb1; clear hb1) | (have HSEC := HB4; go_at_call 9; refine (HC.out _ HB4.out).mono ?_; rintro e w5 ⟨rfl, hb5⟩; have HB5 := Lib.hid (hop HB4.out hb5); clear hb5) | (go_at_call 9; refine (HC.out _ HB2.out).mono ?_; rintro e w4 ⟨rfl, hb4⟩; have HB4 := Lib.hid (hop HB2.out hb4); clear hb4) | (go_at_call 10; refine (HRW.out _ HB5.out).mono ?_; rintro e w6 ⟨rfl, hb6⟩; have HB6 := Lib.hid (hop HB5.out hb6); clear hb6) | (go_at_call 12; refine (same_walk (List.replicate q noRg) A7 A8 q c7 q c8 _ HQL.out hqm HR7.out rfl HR8.out).mono ?_; rintro e w9 ⟨rfl, hb9⟩; have HB9 := Lib.hid (hop HB8.out hb9); clear hb9) | (go_at_call 13; refine (rstart_walk q hqm _).mono ?_; rw [HQ5.out]; rintro e w8 ⟨A8, c8, rfl, hr8, hb8⟩; have HR7 := Lib.hid ((HR7.out.below hb8).more hb8.size); have HR8 := Lib.hid hr8; have HB8 := Lib.hid (hop HB7.out hb8); clear hr8 hb8) | (go_at_call 11; refine (HSY.out _).mono ?_; rintro e w7 ⟨A7, c7, rfl, hr7, hb7⟩; have HR7 := Lib.hid hr7; have HB7 := Lib.hid (hop HB6.out hb7); clear hr7 hb7))
        refine wp_loop_rounds 1 ?_
        rw [rounds_succ]
        go_wp2_with (first | (go_at_call 8; refine (HRT.out _ HB.out).mono ?_; rintro e w2 ⟨rfl, hb2⟩; have HB2 := Lib.hid (hop HB.out hb2); clear hb2) | (go_at_call 7; refine (alive_any _).mono ?_; rintro e w1 ⟨rfl, hb1⟩; have HB := Lib.hid hb1; clear hb1) | (have HSEC := HB4; go_at_call 9; refine (HC.out _ HB4.out).mono ?_; rintro e w5 ⟨rfl, hb5⟩; have HB5 := Lib.hid (hop HB4.out hb5); clear hb5) | (go_at_call 9; refine (HC.out _ HB2.out).mono ?_; rintro e w4 ⟨rfl, hb4⟩; have HB4 := Lib.hid (hop HB2.out hb4); clear hb4) | (go_at_call 10; refine (HRW.out _ HB5.out).mono ?_; rintro e w6 ⟨rfl, hb6⟩; have HB6 := Lib.hid (hop HB5.out hb6); clear hb6) | (go_at_call 12; refine (same_walk (List.replicate q noRg) A7 A8 q c7 q c8 _ HQL.out hqm HR7.out rfl HR8.out).mono ?_; rintro e w9 ⟨rfl, hb9⟩; have HB9 := Lib.hid (hop HB8.out hb9); clear hb9) | (go_at_call 13; refine (rstart_walk q hqm _).mono ?_; rw [HQ5.out]; rintro e w8 ⟨A8, c8, rfl, hr8, hb8⟩; have HR7 := Lib.hid ((HR7.out.below hb8).more hb8.size); have HR8 := Lib.hid hr8; have HB8 := Lib.hid (hop HB7.out hb8); clear hr8 hb8) | (go_at_call 11; refine (HSY.out _).mono ?_; rintro e w7 ⟨A7, c7, rfl, hr7, hb7⟩; have HR7 := Lib.hid hr7; have HB7 := Lib.hid (hop HB6.out hb7); clear hr7 hb7))
        go_ret
        exact ⟨rfl, HB9.out⟩
    · have hn1 : 0 < n := by omega
      by_cases hp : p < 1 ∨ 4 < p
      · have HSN := Lib.hid (fun W => start_no p W hp)
        by_cases hp1 : p < 1
        · have e1 : decide (p < 1) = true := decide_eq_true hp1
          clear hp hp1
          go_enter Try.func3, Try.ntmps3
          go_wp2_with (first | (go_at_call 8; refine (HRT.out _ HB.out).mono ?_; rintro e w2 ⟨rfl, hb2⟩; have HB2 := Lib.hid (hop HB.out hb2); clear hb2) | (go_at_call 7; refine (alive_any _).mono ?_; rintro e w1 ⟨rfl, hb1⟩; have HB := Lib.hid hb1; clear hb1) | (have HSEC := HB4; go_at_call 9; refine (HC.out _ HB4.out).mono ?_; rintro e w5 ⟨rfl, hb5⟩; have HB5 := Lib.hid (hop HB4.out hb5); clear hb5) | (go_at_call 9; refine (HC.out _ HB2.out).mono ?_; rintro e w4 ⟨rfl, hb4⟩; have HB4 := Lib.hid (hop HB2.out hb4); clear hb4) | (go_at_call 10; refine (HRW.out _ HB5.out).mono ?_; rintro e w6 ⟨rfl, hb6⟩; have HB6 := Lib.hid (hop HB5.out hb6); clear hb6) | (go_at_call 11; refine (HSN.out _).mono ?_; rintro e w7 ⟨rfl, rfl⟩))
          refine wp_loop_rounds 1 ?_
          rw [rounds_succ]
          go_wp2_with (first | (go_at_call 8; refine (HRT.out _ HB.out).mono ?_; rintro e w2 ⟨rfl, hb2⟩; have HB2 := Lib.hid (hop HB.out hb2); clear hb2) | (go_at_call 7; refine (alive_any _).mono ?_; rintro e w1 ⟨rfl, hb1⟩; have HB := Lib.hid hb1; clear hb1) | (have HSEC := HB4; go_at_call 9; refine (HC.out _ HB4.out).mono ?_; rintro e w5 ⟨rfl, hb5⟩; have HB5 := Lib.hid (hop HB4.out hb5); clear hb5) | (go_at_call 9; refine (HC.out _ HB2.out).mono ?_; rintro e w4 ⟨rfl, hb4⟩; have HB4 := Lib.hid (hop HB2.out hb4); clear hb4) | (go_at_call 10; refine (HRW.out _ HB5.out).mono ?_; rintro e w6 ⟨rfl, hb6⟩; have HB6 := Lib.hid (hop HB5.out hb6); clear hb6) | (go_at_call 11; refine (HSN.out _).mono ?_; rintro e w7 ⟨rfl, rfl⟩))
          go_ret
          exact ⟨rfl, HB6.out⟩
        · have e1 : decide (p < 1) = false := decide_eq_false hp1
          have e2 : decide (4 < p) = true := decide_eq_true (by omega)
          clear hp hp1
          go_enter Try.func3, Try.ntmps3
          go_wp2_with (first | (go_at_call 8; refine (HRT.out _ HB.out).mono ?_; rintro e w2 ⟨rfl, hb2⟩; have HB2 := Lib.hid (hop HB.out hb2); clear hb2) | (go_at_call 7; refine (alive_any _).mono ?_; rintro e w1 ⟨rfl, hb1⟩; have HB := Lib.hid hb1; clear hb1) | (have HSEC := HB4; go_at_call 9; refine (HC.out _ HB4.out).mono ?_; rintro e w5 ⟨rfl, hb5⟩; have HB5 := Lib.hid (hop HB4.out hb5); clear hb5) | (go_at_call 9; refine (HC.out _ HB2.out).mono ?_; rintro e w4 ⟨rfl, hb4⟩; have HB4 := Lib.hid (hop HB2.out hb4); clear hb4) | (go_at_call 10; refine (HRW.out _ HB5.out).mono ?_; rintro e w6 ⟨rfl, hb6⟩; have HB6 := Lib.hid (hop HB5.out hb6); clear hb6) | (go_at_call 11; refine (HSN.out _).mono ?_; rintro e w7 ⟨rfl, rfl⟩))
          refine wp_loop_rounds 1 ?_
          rw [rounds_succ]
          go_wp2_with (first | (go_at_call 8; refine (HRT.out _ HB.out).mono ?_; rintro e w2 ⟨rfl, hb2⟩; have HB2 := Lib.hid (hop HB.out hb2); clear hb2) | (go_at_call 7; refine (alive_any _).mono ?_; rintro e w1 ⟨rfl, hb1⟩; have HB := Lib.hid hb1; clear hb1) | (have HSEC := HB4; go_at_call 9; refine (HC.out _ HB4.out).mono ?_; rintro e w5 ⟨rfl, hb5⟩; have HB5 := Lib.hid (hop HB4.out hb5); clear hb5) | (go_at_call 9; refine (HC.out _ HB2.out).mono ?_; rintro e w4 ⟨rfl, hb4⟩; have HB4 := Lib.hid (hop HB2.out hb4); clear hb4) | (go_at_call 10; refine (HRW.out _ HB5.out).mono ?_; rintro e w6 ⟨rfl, hb6⟩; have HB6 := Lib.hid (hop HB5.out hb6); clear hb6) | (go_at_call 11; refine (HSN.out _).mono ?_; rintro e w7 ⟨rfl, rfl⟩))
          go_ret
          exact ⟨rfl, HB6.out⟩
      · obtain ⟨q, rfl⟩ : ∃ q : Nat, p = (q : Int) := ⟨p.toNat, by omega⟩
        have h1 : 1 ≤ q := by omega
        have h4 : q ≤ 4 := by omega
        have HSY := Lib.hid (fun W => start_yes q W h1 h4)
        have hqm : q ≤ maxLen := by unfold maxLen; omega
        have HQ5 := Lib.hid (show min q 5 = q by omega)
        have HQL := Lib.hid (show q = (List.replicate q noRg).length by simp)
        have e1 : decide ((q : Int) < 1) = false := decide_eq_false (by omega)
        have e2 : decide (4 < (q : Int)) = false := decide_eq_false (by omega)
        have e3 : ¬ q < 1 := by omega
        have e4 : ¬ 4 < q := by omega
        clear hp
        go_enter Try.func3, Try.ntmps3
        go_wp2_with (first | (go_at_call 8; refine (HRT.out _ HB.out).mono ?_; rintro e w2 ⟨rfl, hb2⟩; have HB2 := Lib.hid (hop HB.out hb2); clear hb2) | (go_at_call 7; refine (alive_any _).mono ?_; rintro e w1 ⟨rfl, hb1⟩; have HB := Lib.hid hb1; clear hb1) | (have HSEC := HB4; go_at_call 9; refine (HC.out _ HB4.out).mono ?_; rintro e w5 ⟨rfl, hb5⟩; have HB5 := Lib.hid (hop HB4.out hb5); clear hb5) | (go_at_call 9; refine (HC.out _ HB2.out).mono ?_; rintro e w4 ⟨rfl, hb4⟩; have HB4 := Lib.hid (hop HB2.out hb4); clear hb4) | (go_at_call 10; refine (HRW.out _ HB5.out).mono ?_; rintro e w6 ⟨rfl, hb6⟩; have HB6 := Lib.hid (hop HB5.out hb6); clear hb6) | (go_at_call 12; refine (same_walk (List.replicate q noRg) A7 A8 q c7 q c8 _ HQL.out hqm HR7.out rfl HR8.out).mono ?_; rintro e w9 ⟨rfl, hb9⟩; have HB9 := Lib.hid (hop HB8.out hb9); clear hb9) | (go_at_call 13; refine (rstart_walk q hqm _).mono ?_; rw [HQ5.out]; rintro e w8 ⟨A8, c8, rfl, hr8, hb8⟩; have HR7 := Lib.hid ((HR7.out.below hb8).more hb8.size); have HR8 := Lib.hid hr8; have HB8 := Lib.hid (hop HB7.out hb8); clear hr8 hb8) | (go_at_call 11; refine (HSY.out _).mono ?_; rintro e w7 ⟨A7, c7, rfl, hr7, hb7⟩; have HR7 := Lib.hid hr7; have HB7 := Lib.hid (hop HB6.out hb7); clear hr7 hb7))
        refine wp_loop_rounds 1 ?_
        rw [rounds_succ]
        go_wp2_with (first | (go_at_call 8; refine (HRT.out _ HB.out).mono ?_; rintro e w2 ⟨rfl, hb2⟩; have HB2 := Lib.hid (hop HB.out hb2); clear hb2) | (go_at_call 7; refine (alive_any _).mono ?_; rintro e w1 ⟨rfl, hb1⟩; have HB := Lib.hid hb1; clear hb1) | (have HSEC := HB4; go_at_call 9; refine (HC.out _ HB4.out).mono ?_; rintro e w5 ⟨rfl, hb5⟩; have HB5 := Lib.hid (hop HB4.out hb5); clear hb5) | (go_at_call 9; refine (HC.out _ HB2.out).mono ?_; rintro e w4 ⟨rfl, hb4⟩; have HB4 := Lib.hid (hop HB2.out hb4); clear hb4) | (go_at_call 10; refine (HRW.out _ HB5.out).mono ?_; rintro e w6 ⟨rfl, hb6⟩; have HB6 := Lib.hid (hop HB5.out hb6); clear hb6) | (go_at_call 12; refine (same_walk (List.replicate q noRg) A7 A8 q c7 q c8 _ HQL.out hqm HR7.out rfl HR8.out).mono ?_; rintro e w9 ⟨rfl, hb9⟩; have HB9 := Lib.hid (hop HB8.out hb9); clear hb9) | (go_at_call 13; refine (rstart_walk q hqm _).mono ?_; rw [HQ5.out]; rintro e w8 ⟨A8, c8, rfl, hr8, hb8⟩; have HR7 := Lib.hid ((HR7.out.below hb8).more hb8.size); have HR8 := Lib.hid hr8; have HB8 := Lib.hid (hop HB7.out hb8); clear hr8 hb8) | (go_at_call 11; refine (HSY.out _).mono ?_; rintro e w7 ⟨A7, c7, rfl, hr7, hb7⟩; have HR7 := Lib.hid hr7; have HB7 := Lib.hid (hop HB6.out hb7); clear hr7 hb7))
        go_ret
        exact ⟨rfl, HB9.out⟩
  | true =>
    have HR := Lib.hid (rowsV_yes hr)
    have HE := Lib.hid (chkO_yes hr)
    have HP := Lib.hid (right_parts hr)
    rw [hr] at HRT
    rw [HE.out] at HC
    clear hr
    by_cases hp : p < 1 ∨ 4 < p
    · have HSN := Lib.hid (fun W => start_no p W hp)
      by_cases hp1 : p < 1
      · have e1 : decide (p < 1) = true := decide_eq_true hp1
        clear hp hp1
        go_enter Try.func3, Try.ntmps3
        go_wp2_with (first | (go_at_call 8; refine (HRT.out _ HB.out).mono ?_; rintro e w2 ⟨rfl, hb2⟩; have HB2 := Lib.hid (hop HB.out hb2); clear hb2) | (go_at_call 7; refine (alive_any _).mono ?_; rintro e w1 ⟨rfl, hb1⟩; have HB := Lib.hid hb1; clear hb1))
        go_loopw [6, 7] (fun sv iv wr => ∃ k : Nat, k ≤ n ∧ sv = .int .i64 (sumK l k) ∧ iv = .int .i64 (k : Int) ∧ Hid (Below w.heap.size w wr)) (fun _ iv _ => n - (intOf iv).toNat)
        case atStart => exact ⟨0, Nat.zero_le _, by rw [sumK_zero], rfl, HB2⟩
        case round =>
          obtain ⟨k, hk, rfl, rfl, HBel⟩ := hrel
          by_cases hlt : k < n
          · have hkl : k < l.length := by rw [← HN.out]; exact hlt
            obtain ⟨b, off, rfl, hB, hc⟩ := (HA.out.below HBel.out) k hkl
            have c0 := hc 0 _ rfl
            have c1 := hc 1 _ rfl
            rw [Nat.add_zero] at c0
            have hx := (okB_iff l[k]).1 (HP.out.2.2 _ (List.getElem_mem hkl))
            have hs := sumK_le HP.out.2.2 k (by omega)
            have hk4 : k ≤ 4 := by have := HP.out.2.1; omega
            have HS := Lib.hid (sumK_next hkl)
            obtain ⟨x, hxx⟩ : ∃ x, l[k] = x := ⟨_, rfl⟩
            rw [hxx] at HS hx
            simp only [hxx] at c0 c1
            obtain ⟨s, hsk⟩ : ∃ s, sumK l k = s := ⟨_, rfl⟩
            rw [hsk] at HS hs ⊢
            have w1 : IntKind.i64.wrap (s + x.t) = s + x.t := wr64 (by unfold in64; omega)
            have w2 : IntKind.i64.wrap (s + x.t - x.f) = s + (x.t - x.f) := by rw [wr64 (by unfold in64; omega)]; omega
            have i1 : (0 : Int) ≤ (k : Int) := by omega
            have i2 : (k : Int) < (n : Int) := by omega
            clear hxx hc hx hs hk4 hsk
            go_wp2_with fail
            go_quiet (fail)
            go_wp2
            go_roundw
            case rel => exact ⟨k + 1, by omega, by rw [HS.out], by go_num, Lib.hid (bd HBel.out _)⟩
            case measure => simp [intOf]; omega
          · have HF := Lib.hid (show sumK l k = rowsV l by rw [HR.out]; exact sumK_all (by rw [← HN.out]; omega))
            rw [HF.out]
            go_wp2_with (first | (go_at_call 8; refine (HRT.out _ HB.out).mono ?_; rintro e w2 ⟨rfl, hb2⟩; have HB2 := Lib.hid (hop HB.out hb2); clear hb2) | (go_at_call 7; refine (alive_any _).mono ?_; rintro e w1 ⟨rfl, hb1⟩; have HB := Lib.hid hb1; clear hb1) | (have HSEC := HB4; go_at_call 9; refine (HC.out _ HB4.out).mono ?_; rintro e w5 ⟨rfl, hb5⟩; have HB5 := Lib.hid (hop HB4.out hb5); clear hb5) | (go_at_call 9; refine (HC.out _ HBel.out).mono ?_; rintro e w4 ⟨rfl, hb4⟩; have HB4 := Lib.hid (hop HBel.out hb4); clear hb4) | (go_at_call 10; refine (HRW.out _ HB4.out).mono ?_; rintro e w6 ⟨rfl, hb6⟩; have HB6 := Lib.hid (hop HB4.out hb6); clear hb6) | (go_at_call 11; refine (HSN.out _).mono ?_; rintro e w7 ⟨rfl, rfl⟩))
            go_ret
            exact ⟨rfl, HB6.out⟩
      · have e1 : decide (p < 1) = false := decide_eq_false hp1
        have e2 : decide (4 < p) = true := decide_eq_true (by omega)
        clear hp hp1
        go_enter Try.func3, Try.ntmps3
        go_wp2_with (first | (go_at_call 8; refine (HRT.out _ HB.out).mono ?_; rintro e w2 ⟨rfl, hb2⟩; have HB2 := Lib.hid (hop HB.out hb2); clear hb2) | (go_at_call 7; refine (alive_any _).mono ?_; rintro e w1 ⟨rfl, hb1⟩; have HB := Lib.hid hb1; clear hb1))
        go_loopw [6, 7] (fun sv iv wr => ∃ k : Nat, k ≤ n ∧ sv = .int .i64 (sumK l k) ∧ iv = .int .i64 (k : Int) ∧ Hid (Below w.heap.size w wr)) (fun _ iv _ => n - (intOf iv).toNat)
        case atStart => exact ⟨0, Nat.zero_le _, by rw [sumK_zero], rfl, HB2⟩
        case round =>
          obtain ⟨k, hk, rfl, rfl, HBel⟩ := hrel
          by_cases hlt : k < n
          · have hkl : k < l.length := by rw [← HN.out]; exact hlt
            obtain ⟨b, off, rfl, hB, hc⟩ := (HA.out.below HBel.out) k hkl
            have c0 := hc 0 _ rfl
            have c1 := hc 1 _ rfl
            rw [Nat.add_zero] at c0
            have hx := (okB_iff l[k]).1 (HP.out.2.2 _ (List.getElem_mem hkl))
            have hs := sumK_le HP.out.2.2 k (by omega)
            have hk4 : k ≤ 4 := by have := HP.out.2.1; omega
            have HS := Lib.hid (sumK_next hkl)
            obtain ⟨x, hxx⟩ : ∃ x, l[k] = x := ⟨_, rfl⟩
            rw [hxx] at HS hx
            simp only [hxx] at c0 c1
            obtain ⟨s, hsk⟩ : ∃ s, sumK l k = s := ⟨_, rfl⟩
            rw [hsk] at HS hs ⊢
            have w1 : IntKind.i64.wrap (s + x.t) = s + x.t := wr64 (by unfold in64; omega)
            have w2 : IntKind.i64.wrap (s + x.t - x.f) = s + (x.t - x.f) := by rw [wr64 (by unfold in64; omega)]; omega
            have i1 : (0 : Int) ≤ (k : Int) := by omega
            have i2 : (k : Int) < (n : Int) := by omega
            clear hxx hc hx hs hk4 hsk
            go_wp2_with fail
            go_quiet (fail)
            go_wp2
            go_roundw
            case rel => exact ⟨k + 1, by omega, by rw [HS.out], by go_num, Lib.hid (bd HBel.out _)⟩
            case measure => simp [intOf]; omega
          · have HF := Lib.hid (show sumK l k = rowsV l by rw [HR.out]; exact sumK_all (by rw [← HN.out]; omega))
            rw [HF.out]
            go_wp2_with (first | (go_at_call 8; refine (HRT.out _ HB.out).mono ?_; rintro e w2 ⟨rfl, hb2⟩; have HB2 := Lib.hid (hop HB.out hb2); clear hb2) | (go_at_call 7; refine (alive_any _).mono ?_; rintro e w1 ⟨rfl, hb1⟩; have HB := Lib.hid hb1; clear hb1) | (have HSEC := HB4; go_at_call 9; refine (HC.out _ HB4.out).mono ?_; rintro e w5 ⟨rfl, hb5⟩; have HB5 := Lib.hid (hop HB4.out hb5); clear hb5) | (go_at_call 9; refine (HC.out _ HBel.out).mono ?_; rintro e w4 ⟨rfl, hb4⟩; have HB4 := Lib.hid (hop HBel.out hb4); clear hb4) | (go_at_call 10; refine (HRW.out _ HB4.out).mono ?_; rintro e w6 ⟨rfl, hb6⟩; have HB6 := Lib.hid (hop HB4.out hb6); clear hb6) | (go_at_call 11; refine (HSN.out _).mono ?_; rintro e w7 ⟨rfl, rfl⟩))
            go_ret
            exact ⟨rfl, HB6.out⟩
    · obtain ⟨q, rfl⟩ : ∃ q : Nat, p = (q : Int) := ⟨p.toNat, by omega⟩
      have h1 : 1 ≤ q := by omega
      have h4 : q ≤ 4 := by omega
      have HSY := Lib.hid (fun W => start_yes q W h1 h4)
      have hqm : q ≤ maxLen := by unfold maxLen; omega
      have HQ5 := Lib.hid (show min q 5 = q by omega)
      have HQL := Lib.hid (show q = (List.replicate q noRg).length by simp)
      have e1 : decide ((q : Int) < 1) = false := decide_eq_false (by omega)
      have e2 : decide (4 < (q : Int)) = false := decide_eq_false (by omega)
      have e3 : ¬ q < 1 := by omega
      have e4 : ¬ 4 < q := by omega
      clear hp
      go_enter Try.func3, Try.ntmps3
      go_wp2_with (first | (go_at_call 8; refine (HRT.out _ HB.out).mono ?_; rintro e w2 ⟨rfl, hb2⟩; have HB2 := Lib.hid (hop HB.out hb2); clear hb2) | (go_at_call 7; refine (alive_any _).mono ?_; rintro e w1 ⟨rfl, hb1⟩; have HB := Lib.hid hb1; clear hb1))
      go_loopw [6, 7] (fun sv iv wr => ∃ k : Nat, k ≤ n ∧ sv = .int .i64 (sumK l k) ∧ iv = .int .i64 (k : Int) ∧ Hid (Below w.heap.size w wr)) (fun _ iv _ => n - (intOf iv).toNat)
      case atStart => exact ⟨0, Nat.zero_le _, by rw [sumK_zero], rfl, HB2⟩
      case round =>
        obtain ⟨k, hk, rfl, rfl, HBel⟩ := hrel
        by_cases hlt : k < n
        · have hkl : k < l.length := by rw [← HN.out]; exact hlt
          obtain ⟨b, off, rfl, hB, hc⟩ := (HA.out.below HBel.out) k hkl
          have c0 := hc 0 _ rfl
          have c1 := hc 1 _ rfl
          rw [Nat.add_zero] at c0
          have hx := (okB_iff l[k]).1 (HP.out.2.2 _ (List.getElem_mem hkl))
          have hs := sumK_le HP.out.2.2 k (by omega)
          have hk4 : k ≤ 4 := by have := HP.out.2.1; omega
          have HS := Lib.hid (sumK_next hkl)
          obtain ⟨x, hxx⟩ : ∃ x, l[k] = x := ⟨_, rfl⟩
          rw [hxx] at HS hx
          simp only [hxx] at c0 c1
          obtain ⟨s, hsk⟩ : ∃ s, sumK l k = s := ⟨_, rfl⟩
          rw [hsk] at HS hs ⊢
          have w1 : IntKind.i64.wrap (s + x.t) = s + x.t := wr64 (by unfold in64; omega)
          have w2 : IntKind.i64.wrap (s + x.t - x.f) = s + (x.t - x.f) := by rw [wr64 (by unfold in64; omega)]; omega
          have i1 : (0 : Int) ≤ (k : Int) := by omega
          have i2 : (k : Int) < (n : Int) := by omega
          clear hxx hc hx hs hk4 hsk
          go_wp2_with fail
          go_quiet (fail)
          go_wp2
          go_roundw
          case rel => exact ⟨k + 1, by omega, by rw [HS.out], by go_num, Lib.hid (bd HBel.out _)⟩
          case measure => simp [intOf]; omega
        · have HF := Lib.hid (show sumK l k = rowsV l by rw [HR.out]; exact sumK_all (by rw [← HN.out]; omega))
          rw [HF.out]
          go_wp2_with (first | (go_at_call 8; refine (HRT.out _ HB.out).mono ?_; rintro e w2 ⟨rfl, hb2⟩; have HB2 := Lib.hid (hop HB.out hb2); clear hb2) | (go_at_call 7; refine (alive_any _).mono ?_; rintro e w1 ⟨rfl, hb1⟩; have HB := Lib.hid hb1; clear hb1) | (have HSEC := HB4; go_at_call 9; refine (HC.out _ HB4.out).mono ?_; rintro e w5 ⟨rfl, hb5⟩; have HB5 := Lib.hid (hop HB4.out hb5); clear hb5) | (go_at_call 9; refine (HC.out _ HBel.out).mono ?_; rintro e w4 ⟨rfl, hb4⟩; have HB4 := Lib.hid (hop HBel.out hb4); clear hb4) | (go_at_call 10; refine (HRW.out _ HB4.out).mono ?_; rintro e w6 ⟨rfl, hb6⟩; have HB6 := Lib.hid (hop HB4.out hb6); clear hb6) | (go_at_call 12; refine (same_walk (List.replicate q noRg) A7 A8 q c7 q c8 _ HQL.out hqm HR7.out rfl HR8.out).mono ?_; rintro e w9 ⟨rfl, hb9⟩; have HB9 := Lib.hid (hop HB8.out hb9); clear hb9) | (go_at_call 13; refine (rstart_walk q hqm _).mono ?_; rw [HQ5.out]; rintro e w8 ⟨A8, c8, rfl, hr8, hb8⟩; have HR7 := Lib.hid ((HR7.out.below hb8).more hb8.size); have HR8 := Lib.hid hr8; have HB8 := Lib.hid (hop HB7.out hb8); clear hr8 hb8) | (go_at_call 11; refine (HSY.out _).mono ?_; rintro e w7 ⟨A7, c7, rfl, hr7, hb7⟩; have HR7 := Lib.hid hr7; have HB7 := Lib.hid (hop HB6.out hb7); clear hr7 hb7))
          go_ret
          exact ⟨rfl, HB9.out⟩
end Go.Proofs.Ytceoneigflejeaa
