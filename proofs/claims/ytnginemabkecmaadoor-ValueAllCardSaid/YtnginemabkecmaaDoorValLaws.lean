/- The walks of the laws on what is right, on the order, and on sorting. -/
import Derived.Test.YtnginemabkecmaaDoorValAlive
namespace Go.Proofs.YtnginemabkecmaaDoor
open Go.ChangeShapes Go.WideShapes Go.ChangeAt Go.RowKit
set_option linter.unusedVariables false

set_option maxHeartbeats 1000000 in
theorem right_walk (v : V) (hv : v.wf) (l : List V) (hw : ∀ u ∈ l, u.wf) (len c : Nat) (A : Option Addr) (w : World) (hl : len = l.length) (hm : len ≤ maxLen) (hr : Row3 w w.heap.size A l) (hM : MaxAt w) :
    Calls Tryd.prog 3 #[v.val, .slice A len c] w fun e w' => e = .returned (.bool true) ∧ Below w.heap.size w w' := by
  obtain ⟨k, n, s⟩ := v
  have HVW := Lib.hid hv
  have HL := Lib.hid hl
  have HR := Lib.hid hr
  have HW := Lib.hid hw
  have HM := Lib.hid (hM.later ((Below.refl w.heap.size w).alloc (Nat.le_refl _) (.cells #[.int .i64 k, .int .i64 n, .string s] 23)))
  have HMX := Lib.hid hm
  clear hv hl hr hw hM hm
  unfold V.val
  dsimp only
  go_enter Tryd.func3, Tryd.ntmps3
  go_wp2_with (go_at_call 10; refine (alive_any _ HM.out).mono ?_; rintro e w1 ⟨rfl, hb1⟩; have HB1 := Lib.hid (((Below.refl w.heap.size w).alloc (Nat.le_refl _) _).trans (hb1.mono (by simp))); have hX := (Box.new w ⟨k, n, s⟩).below hb1; clear hb1)
  have x0 := hX.k
  have x1 := hX.n
  have x2 := hX.s
  have hlt := hX.lt
  clear hX
  go_region_held3 (fun w' => Below w.heap.size w w' ∧ w'.cell? ⟨w.heap.size, 0, none⟩ = some (.int .i64 k) ∧ w'.cell? ⟨w.heap.size, 1, none⟩ = some (.int .i64 n) ∧ w'.cell? ⟨w.heap.size, 2, none⟩ = some (.string s))
    (first | exact ⟨HB1.out, x0, x1, x2⟩ | exact ⟨HB1.out.drew, x0, x1, x2⟩ | (go_split_ands; refine ⟨Below.trans ‹Below w.heap.size w _› (hb.mono (Below.size ‹Below w.heap.size w _›)), later_cell hb ?_, later_cell hb ?_, later_cell hb ?_⟩ <;> assumption))
    (first | (go_at_call 11; refine (check_any ⟨k, n, s⟩ HVW.out _).mono ?_; rintro e w4 ⟨rfl, hb⟩) | (go_at_call 12; refine (rcheck_any ⟨k, n, s⟩ HVW.out _).mono ?_; rintro e w4 ⟨rfl, hb⟩) | (go_split_ands; go_at_call 13; refine (row_any l HW.out len c A _ HL.out HMX.out ((HR.out.below ‹Below w.heap.size w _›).more (Below.size ‹Below w.heap.size w _›))).mono ?_; rintro e w4 ⟨rfl, hb⟩) | (go_split_ands; go_at_call 14; refine (rrow_any l HW.out len c A _ HL.out HMX.out ((HR.out.below ‹Below w.heap.size w _›).more (Below.size ‹Below w.heap.size w _›))).mono ?_; rintro e w4 ⟨rfl, hb⟩))
  all_goals
    go_wp2
    go_ret
    go_split_ands
    exact ⟨rfl, ‹Below w.heap.size w _›⟩

set_option maxHeartbeats 1000000 in
theorem order_walk (a b : V) (ha : a.wf) (hb : b.wf) (l m : List V) (hwl : ∀ u ∈ l, u.wf) (hwm : ∀ u ∈ m, u.wf) (n1 c1 n2 c2 : Nat) (A B : Option Addr) (w : World) (hl : n1 = l.length) (hm : n2 = m.length) (h1 : n1 ≤ maxLen) (h2 : n2 ≤ maxLen)
    (hA : Row3 w w.heap.size A l) (hB : Row3 w w.heap.size B m) (hM : MaxAt w) :
    Calls Tryd.prog 5 #[a.val, b.val, .slice A n1 c1, .slice B n2 c2] w fun e w' => e = .returned (.bool true) ∧ Below w.heap.size w w' := by
  obtain ⟨k, n, s⟩ := a
  obtain ⟨k', n', s'⟩ := b
  have HA1 := Lib.hid ha
  have HB1 := Lib.hid hb
  have HWL := Lib.hid hwl
  have HWM := Lib.hid hwm
  have HL := Lib.hid hl
  have HMM := Lib.hid hm
  have H1 := Lib.hid h1
  have H2 := Lib.hid h2
  have HRA := Lib.hid hA
  have HRB := Lib.hid hB
  have HM := Lib.hid (hM.later (((Below.refl w.heap.size w).alloc (Nat.le_refl _) (.cells #[.int .i64 k, .int .i64 n, .string s] 23)).alloc (by simp) (.cells #[.int .i64 k', .int .i64 n', .string s'] 23)))
  clear ha hb hwl hwm hl hm h1 h2 hA hB hM
  unfold V.val
  dsimp only
  go_enter Tryd.func5, Tryd.ntmps5
  go_wp2_with (go_at_call 10; refine (alive_any _ HM.out).mono ?_; rintro e w1 ⟨rfl, hb1⟩; have HB3 := Lib.hid ((((Below.refl w.heap.size w).alloc (Nat.le_refl _) _).alloc (by simp) _).trans (hb1.mono (by simp; omega))); have hX := ((Box.new w ⟨k, n, s⟩).alloc _).below hb1; have hY : Box w1 (w.heap.size + 1) ⟨k', n', s'⟩ := by { have h5 := Box.below (Box.new (w.alloc (.cells #[.int .i64 k, .int .i64 n, .string s] 23)) ⟨k', n', s'⟩) hb1; rwa [World.size_alloc] at h5 }; clear hb1)
  have x0 := hX.k
  have x1 := hX.n
  have x2 := hX.s
  have y0 := hY.k
  have y1 := hY.n
  have y2 := hY.s
  clear hX hY
  go_region_held3 (fun w' => Below w.heap.size w w' ∧ w'.cell? ⟨w.heap.size, 0, none⟩ = some (.int .i64 k) ∧ w'.cell? ⟨w.heap.size, 1, none⟩ = some (.int .i64 n) ∧ w'.cell? ⟨w.heap.size, 2, none⟩ = some (.string s) ∧
      w'.cell? ⟨w.heap.size + 1, 0, none⟩ = some (.int .i64 k') ∧ w'.cell? ⟨w.heap.size + 1, 1, none⟩ = some (.int .i64 n') ∧ w'.cell? ⟨w.heap.size + 1, 2, none⟩ = some (.string s'))
    (first | exact ⟨HB3.out, x0, x1, x2, y0, y1, y2⟩ | exact ⟨HB3.out.drew, x0, x1, x2, y0, y1, y2⟩ | (go_split_ands; refine ⟨Below.trans ‹Below w.heap.size w _› (hb.mono (Below.size ‹Below w.heap.size w _›)), later_cell hb ?_, later_cell hb ?_, later_cell hb ?_, later_cell hb ?_, later_cell hb ?_, later_cell hb ?_⟩ <;> assumption))
    (first | (go_at_call 18; refine (cmp_any ⟨k, n, s⟩ ⟨k', n', s'⟩ HA1.out HB1.out _).mono ?_; rintro e w4 ⟨rfl, hb⟩) | (go_at_call 19; refine (rcmp_any ⟨k, n, s⟩ ⟨k', n', s'⟩ HA1.out HB1.out _).mono ?_; rintro e w4 ⟨rfl, hb⟩) | (go_split_ands; go_at_call 20; refine (cmprow_any l m HWL.out HWM.out n1 c1 n2 c2 A B _ HL.out HMM.out H1.out H2.out ((HRA.out.below ‹Below w.heap.size w _›).more (Below.size ‹Below w.heap.size w _›)) ((HRB.out.below ‹Below w.heap.size w _›).more (Below.size ‹Below w.heap.size w _›))).mono ?_; rintro e w4 ⟨rfl, hb⟩) | (go_split_ands; go_at_call 21; refine (rcmprow_any l m HWL.out HWM.out n1 c1 n2 c2 A B _ HL.out HMM.out H1.out H2.out ((HRA.out.below ‹Below w.heap.size w _›).more (Below.size ‹Below w.heap.size w _›)) ((HRB.out.below ‹Below w.heap.size w _›).more (Below.size ‹Below w.heap.size w _›))).mono ?_; rintro e w4 ⟨rfl, hb⟩))
  all_goals
    go_wp2
    go_ret
    go_split_ands
    exact ⟨rfl, ‹Below w.heap.size w _›⟩

theorem key_lt_iff (a b : List V) (ha : allB a = true) (hb : allB b = true) (wa : ∀ v ∈ a, v.wf) (wb : ∀ v ∈ b, v.wf) :
    Op.bytesLess (keyL a) (keyL b) = decide (cmpR a b < 0) := by
  rw [less_iff, cmp_key a b ha hb wa wb]
  rcases three_bytes (keyL a) (keyL b) with h | h | h <;> rw [cmp_key a b ha hb wa wb] at h <;> rw [h] <;> decide
theorem key_eq_iff (a b : List V) (ha : allB a = true) (hb : allB b = true) (wa : ∀ v ∈ a, v.wf) (wb : ∀ v ∈ b, v.wf) :
    (keyL a == keyL b) = (cmpR a b == 0) := by
  rw [Bool.eq_iff_iff, beq_iff_eq, beq_iff_eq, ← cmp_key a b ha hb wa wb]
  exact ⟨fun h => by rw [h, compareBytes_self], compareBytes_zero⟩
theorem rowB_parts {l : List V} (h : rowB l = true) : l.length ≤ 12 ∧ allB l = true := by
  unfold rowB at h
  simp only [Bool.and_eq_true, decide_eq_true_eq] at h
  exact h

set_option maxHeartbeats 1000000 in
theorem sorts_walk (l m : List V) (hwl : ∀ u ∈ l, u.wf) (hwm : ∀ u ∈ m, u.wf) (n1 c1 n2 c2 : Nat) (A B : Option Addr) (w : World) (hl : n1 = l.length) (hm : n2 = m.length) (h1 : n1 ≤ maxLen) (h2 : n2 ≤ maxLen)
    (hA : Row3 w w.heap.size A l) (hB : Row3 w w.heap.size B m) (hM : MaxAt w) :
    Calls Tryd.prog 7 #[.slice A n1 c1, .slice B n2 c2] w fun e w' => e = .returned (.bool true) ∧ Below w.heap.size w w' := by
  have HWL := Lib.hid hwl
  have HWM := Lib.hid hwm
  have HL := Lib.hid hl
  have HMM := Lib.hid hm
  have H1 := Lib.hid h1
  have H2 := Lib.hid h2
  have HRA := Lib.hid hA
  have HRB := Lib.hid hB
  have HM := Lib.hid hM
  clear hwl hwm hl hm h1 h2 hA hB hM
  by_cases hb1 : rowB l = true
  · by_cases hb2 : rowB m = true
    · have HX := Lib.hid (key_lt_iff l m (rowB_parts hb1).2 (rowB_parts hb2).2 HWL.out HWM.out)
      have HY := Lib.hid (key_eq_iff l m (rowB_parts hb1).2 (rowB_parts hb2).2 HWL.out HWM.out)
      have HP1 := Lib.hid hb1
      have HP2 := Lib.hid hb2
      clear hb1 hb2
      obtain ⟨x, hx⟩ : ∃ x, txt (keyL l) = x := ⟨_, rfl⟩
      obtain ⟨y, hy⟩ : ∃ y, txt (keyL m) = y := ⟨_, rfl⟩
      obtain ⟨q, hq⟩ : ∃ q, cmpR l m = q := ⟨_, rfl⟩
      have hlt : Op.bytesLess x.toList y.toList = decide (q < 0) := by rw [← hx, ← hy, ← hq, Lib.toList_data, Lib.toList_data, txt_list, txt_list]; exact HX.out
      have heq : (x.toList == y.toList) = (q == 0) := by rw [← hx, ← hy, ← hq, Lib.toList_data, Lib.toList_data, txt_list, txt_list]; exact HY.out
      have HHX := Lib.hid hx
      have HHY := Lib.hid hy
      have HHQ := Lib.hid hq
      clear hx hy hq HX HY
      go_enter Tryd.func7, Tryd.ntmps7
      go_wp2_with (first | (go_at_call 10; refine (alive_any _ HM.out).mono ?_; rintro e w1 ⟨rfl, hb1⟩; have HB1 := Lib.hid hb1; clear hb1) | (go_at_call 23; refine (key_right l HWL.out n1 c1 A _ HL.out H1.out ((HRA.out.below HB1.out).more HB1.out.size) (HM.out.later HB1.out) HP1.out).mono ?_; clear HP1; rw [HHX.out]; rintro e w2 ⟨rfl, hb2⟩; have HB2 := Lib.hid (HB1.out.trans (hb2.mono HB1.out.size)); clear hb2) | (go_at_call 23; refine (key_right m HWM.out n2 c2 B _ HMM.out H2.out ((HRB.out.below HB2.out).more HB2.out.size) (HM.out.later HB2.out) HP2.out).mono ?_; rw [HHY.out]; rintro e w3 ⟨rfl, hb3⟩; have HB3 := Lib.hid (HB2.out.trans (hb3.mono HB2.out.size)); clear hb3) | (go_at_call 20; refine (cmprow_any l m HWL.out HWM.out n1 c1 n2 c2 A B _ HL.out HMM.out H1.out H2.out ((HRA.out.below HB3.out).more HB3.out.size) ((HRB.out.below HB3.out).more HB3.out.size)).mono ?_; rw [HHQ.out]; rintro e w4 ⟨rfl, hb4⟩; have HB4 := Lib.hid (HB3.out.trans (hb4.mono HB3.out.size)); clear hb4))
      go_ret
      exact ⟨rfl, HB4.out⟩
    · have HP1 := Lib.hid hb1
      have HP2 := Lib.hid (show rowB m = false by simpa using hb2)
      clear hb1 hb2
      go_enter Tryd.func7, Tryd.ntmps7
      go_wp2_with (first | (go_at_call 10; refine (alive_any _ HM.out).mono ?_; rintro e w1 ⟨rfl, hb1⟩; have HB1 := Lib.hid hb1; clear hb1) | (go_at_call 23; refine (key_right l HWL.out n1 c1 A _ HL.out H1.out ((HRA.out.below HB1.out).more HB1.out.size) (HM.out.later HB1.out) HP1.out).mono ?_; clear HP1; rintro e w2 ⟨rfl, hb2⟩; have HB2 := Lib.hid (HB1.out.trans (hb2.mono HB1.out.size)); clear hb2) | (go_at_call 23; refine (key_wrong m HWM.out n2 c2 B _ HMM.out H2.out ((HRB.out.below HB2.out).more HB2.out.size) HP2.out).mono ?_; rintro e w3 ⟨rfl, hb3⟩; have HB3 := Lib.hid (HB2.out.trans (hb3.mono HB2.out.size)); clear hb3))
      go_ret
      exact ⟨rfl, HB3.out⟩
  · by_cases hb2 : rowB m = true
    · have HP1 := Lib.hid (show rowB l = false by simpa using hb1)
      have HP2 := Lib.hid hb2
      clear hb1 hb2
      go_enter Tryd.func7, Tryd.ntmps7
      go_wp2_with (first | (go_at_call 10; refine (alive_any _ HM.out).mono ?_; rintro e w1 ⟨rfl, hb1⟩; have HB1 := Lib.hid hb1; clear hb1) | (go_at_call 23; refine (key_wrong l HWL.out n1 c1 A _ HL.out H1.out ((HRA.out.below HB1.out).more HB1.out.size) HP1.out).mono ?_; clear HP1; rintro e w2 ⟨rfl, hb2⟩; have HB2 := Lib.hid (HB1.out.trans (hb2.mono HB1.out.size)); clear hb2) | (go_at_call 23; refine (key_right m HWM.out n2 c2 B _ HMM.out H2.out ((HRB.out.below HB2.out).more HB2.out.size) (HM.out.later HB2.out) HP2.out).mono ?_; rintro e w3 ⟨rfl, hb3⟩; have HB3 := Lib.hid (HB2.out.trans (hb3.mono HB2.out.size)); clear hb3))
      go_ret
      exact ⟨rfl, HB3.out⟩
    · have HP1 := Lib.hid (show rowB l = false by simpa using hb1)
      have HP2 := Lib.hid (show rowB m = false by simpa using hb2)
      clear hb1 hb2
      go_enter Tryd.func7, Tryd.ntmps7
      go_wp2_with (first | (go_at_call 10; refine (alive_any _ HM.out).mono ?_; rintro e w1 ⟨rfl, hb1⟩; have HB1 := Lib.hid hb1; clear hb1) | (go_at_call 23; refine (key_wrong l HWL.out n1 c1 A _ HL.out H1.out ((HRA.out.below HB1.out).more HB1.out.size) HP1.out).mono ?_; clear HP1; rintro e w2 ⟨rfl, hb2⟩; have HB2 := Lib.hid (HB1.out.trans (hb2.mono HB1.out.size)); clear hb2) | (go_at_call 23; refine (key_wrong m HWM.out n2 c2 B _ HMM.out H2.out ((HRB.out.below HB2.out).more HB2.out.size) HP2.out).mono ?_; rintro e w3 ⟨rfl, hb3⟩; have HB3 := Lib.hid (HB2.out.trans (hb3.mono HB2.out.size)); clear hb3))
      go_ret
      exact ⟨rfl, HB3.out⟩
end Go.Proofs.YtnginemabkecmaaDoor
