/- The walks of the document's own sums: both of two sums, and numbers out of sums. -/
import Derived.Test.YtnfffkppgfokcaaLimbWalks
import Derived.Deep.QuietTactic
import Derived.BigQuiet
import Derived.RegionTactic
import Derived.BigRegion
namespace Go.Proofs.Ytnfffkppgfokcaa
open Go.ChangeShapes Go.WideShapes Go.ChangeAt Go.RowKit

set_option maxRecDepth 100000 in
set_option maxHeartbeats 4000000 in
theorem refboth_any (x y : Int) (w : World) :
    Calls Try.prog 18 #[SumV x, SumV y] w fun e w' => e = .returned (SumV (x + y)) ∧ Below w.heap.size w w' := by
  go_enter Try.func18, Try.ntmps18
  go_wp2_with fail
  refine (limbs_any x _).mono ?_
  rintro e w1 ⟨rfl, hb1⟩
  have c0 : w1.cell? ⟨w.heap.size + 1, 0, none⟩ = some (.int .i64 (hiZ y)) := cell_later hb1 (by simp [go_sem])
  have c1 : w1.cell? ⟨w.heap.size + 1, 1, none⟩ = some (.int .u64 (loZ y)) := cell_later hb1 (by simp [go_sem])
  have d0 : w1.cell? ⟨w.heap.size + 1 + 1, 0, none⟩ = some (.int .i64 0) := cell_later hb1 (by simp [go_sem])
  have d1 : w1.cell? ⟨w.heap.size + 1 + 1, 1, none⟩ = some (.int .u64 0) := cell_later hb1 (by simp [go_sem])
  have f0 : w1.frozen? ⟨w.heap.size + 1 + 1, 0, none⟩ = false := frozen_later (v := .int .i64 0) hb1 (by simp [go_sem]) (by simp [go_sem])
  have f1 : w1.frozen? ⟨w.heap.size + 1 + 1, 1, none⟩ = false := frozen_later (v := .int .u64 0) hb1 (by simp [go_sem]) (by simp [go_sem])
  have s1 : w.heap.size + 1 + 1 < w1.heap.size := by have := hb1.size; simp at this; omega
  have s0 : w.heap.size + 1 < w1.heap.size := by omega
  have B1 : Below w.heap.size w w1 := (((Below.refl _ _).alloc (Nat.le_refl _) _).alloc (by simp) _ |>.alloc (by simp; omega) _).trans (hb1.mono (by simp; omega))
  have hne : w1.heap.size ≠ w.heap.size + 1 := by omega
  have hne2 : w1.heap.size ≠ w.heap.size + 1 + 1 := by omega
  clear hb1
  go_wp2_with fail
  refine (limbs_any y _).mono ?_
  rintro e w2 ⟨rfl, hb2⟩
  have d2 : w2.cell? ⟨w.heap.size + 1 + 1, 0, none⟩ = some (.int .i64 0) := cell_later hb2 (by rw [World.cell?_alloc_past _ _ _ (by omega)]; exact d0)
  have d3 : w2.cell? ⟨w.heap.size + 1 + 1, 1, none⟩ = some (.int .u64 0) := cell_later hb2 (by rw [World.cell?_alloc_past _ _ _ (by omega)]; exact d1)
  have f2 : w2.frozen? ⟨w.heap.size + 1 + 1, 0, none⟩ = false := frozen_later (v := .int .i64 0) hb2 (by rw [World.cell?_alloc_past _ _ _ (by omega)]; exact d0) (by rw [frozen?_alloc_cells]; exact f0)
  have f3 : w2.frozen? ⟨w.heap.size + 1 + 1, 1, none⟩ = false := frozen_later (v := .int .u64 0) hb2 (by rw [World.cell?_alloc_past _ _ _ (by omega)]; exact d1) (by rw [frozen?_alloc_cells]; exact f1)
  have a0 : w2.cell? ⟨w1.heap.size, 0, none⟩ = some (.int .u32 (lim x 0)) := cell_later hb2 (by simp [go_sem])
  have g0 : w2.frozen? ⟨w1.heap.size, 0, none⟩ = false := frozen_later (v := .int .u32 (lim x 0)) hb2 (by simp [go_sem]) (by simp [go_sem])
  have a1 : w2.cell? ⟨w1.heap.size, 1, none⟩ = some (.int .u32 (lim x 1)) := cell_later hb2 (by simp [go_sem])
  have g1 : w2.frozen? ⟨w1.heap.size, 1, none⟩ = false := frozen_later (v := .int .u32 (lim x 1)) hb2 (by simp [go_sem]) (by simp [go_sem])
  have a2 : w2.cell? ⟨w1.heap.size, 2, none⟩ = some (.int .u32 (lim x 2)) := cell_later hb2 (by simp [go_sem])
  have g2 : w2.frozen? ⟨w1.heap.size, 2, none⟩ = false := frozen_later (v := .int .u32 (lim x 2)) hb2 (by simp [go_sem]) (by simp [go_sem])
  have a3 : w2.cell? ⟨w1.heap.size, 3, none⟩ = some (.int .u32 (lim x 3)) := cell_later hb2 (by simp [go_sem])
  have g3 : w2.frozen? ⟨w1.heap.size, 3, none⟩ = false := frozen_later (v := .int .u32 (lim x 3)) hb2 (by simp [go_sem]) (by simp [go_sem])
  have a4 : w2.cell? ⟨w1.heap.size, 4, none⟩ = some (.int .u32 (lim x 4)) := cell_later hb2 (by simp [go_sem])
  have g4 : w2.frozen? ⟨w1.heap.size, 4, none⟩ = false := frozen_later (v := .int .u32 (lim x 4)) hb2 (by simp [go_sem]) (by simp [go_sem])
  have a5 : w2.cell? ⟨w1.heap.size, 5, none⟩ = some (.int .u32 (lim x 5)) := cell_later hb2 (by simp [go_sem])
  have g5 : w2.frozen? ⟨w1.heap.size, 5, none⟩ = false := frozen_later (v := .int .u32 (lim x 5)) hb2 (by simp [go_sem]) (by simp [go_sem])
  have a6 : w2.cell? ⟨w1.heap.size, 6, none⟩ = some (.int .u32 (lim x 6)) := cell_later hb2 (by simp [go_sem])
  have g6 : w2.frozen? ⟨w1.heap.size, 6, none⟩ = false := frozen_later (v := .int .u32 (lim x 6)) hb2 (by simp [go_sem]) (by simp [go_sem])
  have a7 : w2.cell? ⟨w1.heap.size, 7, none⟩ = some (.int .u32 (lim x 7)) := cell_later hb2 (by simp [go_sem])
  have g7 : w2.frozen? ⟨w1.heap.size, 7, none⟩ = false := frozen_later (v := .int .u32 (lim x 7)) hb2 (by simp [go_sem]) (by simp [go_sem])
  have s2 : w1.heap.size < w2.heap.size := by have := hb2.size; simp at this; omega
  have B2 : Below w.heap.size w w2 := (B1.alloc (by omega) _).trans (hb2.mono (by simp; omega))
  have s3 : w.heap.size + 1 + 1 < w2.heap.size := by omega
  clear c0 c1 hb2
  go_wp2_with fail
  have m0 := both_mask0 x y; have n0 := both_next0 x y; have i0 := both_in0 x y
  have m1 := both_mask1 x y; have n1 := both_next1 x y; have i1 := both_in1 x y; have j1 := both_inc1 x y
  have m2 := both_mask2 x y; have n2 := both_next2 x y; have i2 := both_in2 x y; have j2 := both_inc2 x y
  have m3 := both_mask3 x y; have n3 := both_next3 x y; have i3 := both_in3 x y; have j3 := both_inc3 x y
  have m4 := both_mask4 x y; have n4 := both_next4 x y; have i4 := both_in4 x y; have j4 := both_inc4 x y
  have m5 := both_mask5 x y; have n5 := both_next5 x y; have i5 := both_in5 x y; have j5 := both_inc5 x y
  have m6 := both_mask6 x y; have n6 := both_next6 x y; have i6 := both_in6 x y; have j6 := both_inc6 x y
  have m7 := both_mask7 x y; have n7 := both_next7 x y; have i7 := both_in7 x y; have j7 := both_inc7 x y
  refine wp_loop_rounds 9 ?_
  iterate 8 (rw [rounds_succ]; go_wp2_with fail; go_region; go_wp2_with fail)
  rw [rounds_succ]
  go_wp2_with fail
  refine (of_limbs (x + y) _).mono ?_
  rintro e w3 ⟨rfl, hb3⟩
  have E0 := cell_later (a := ⟨w.heap.size + 1 + 1, 0, none⟩) (v := .int .i64 0) hb3 (by simp [go_sem, World.cell?_setCell_far, hne2, d2, s3])
  have E1 := cell_later (a := ⟨w.heap.size + 1 + 1, 1, none⟩) (v := .int .u64 0) hb3 (by simp [go_sem, World.cell?_setCell_far, hne2, d3, s3])
  have F0 := frozen_later (a := ⟨w.heap.size + 1 + 1, 0, none⟩) (v := .int .i64 0) hb3 (by simp [go_sem, World.cell?_setCell_far, hne2, d2, s3]) (by simp [go_sem, frozen?_alloc_cells, f2])
  have F1 := frozen_later (a := ⟨w.heap.size + 1 + 1, 1, none⟩) (v := .int .u64 0) hb3 (by simp [go_sem, World.cell?_setCell_far, hne2, d3, s3]) (by simp [go_sem, frozen?_alloc_cells, f3])
  have B3 : Below w.heap.size w w3 := by
    refine Below.trans ?_ (hb3.mono (by simp; omega))
    iterate 8 (refine Below.drew ?_)
    refine Below.alloc ?_ (by simp; omega) _
    iterate 8 (refine Below.setCell ?_ (by simp; omega) _)
    exact B2
  clear hb3
  go_wp2
  exact bodyPost_ret (v := SumV (x + y)) (by simp [results, Try.results18, go_sem, E0, E1]) rfl ⟨rfl, (B3.setCell (by simp; omega) _).setCell (by simp; omega) _⟩

set_option maxRecDepth 100000 in
set_option maxHeartbeats 4000000 in
theorem refint_neg (x : Int) (hs : 32768 ≤ lim x 3) (r : Int) (t : Bool)
    (hyes : lim x 4 = 65535 ∧ lim x 5 = 65535 ∧ lim x 6 = 65535 ∧ lim x 7 = 65535 → r = wrap64 (loZ x) ∧ t = true)
    (hno : ¬ (lim x 4 = 65535 ∧ lim x 5 = 65535 ∧ lim x 6 = 65535 ∧ lim x 7 = 65535) → r = 0 ∧ t = false) (w : World) :
    Calls Try.prog 16 #[SumV x] w fun e w' => e = .returned (.tuple #[.int .i64 r, .bool t]) ∧ Below w.heap.size w w' := by
  have HY := Lib.hid hyes
  have HN := Lib.hid hno
  clear hyes hno
  go_enter Try.func16, Try.ntmps16
  go_wp2_with fail
  refine (limbs_any x _).mono ?_
  rintro e w1 ⟨rfl, hb1⟩
  have c1 : w1.cell? ⟨w.heap.size, 1, none⟩ = some (.int .u64 (loZ x)) := cell_later hb1 (by simp [go_sem])
  have s0 : w.heap.size < w1.heap.size := by have := hb1.size; simp at this; omega
  go_wp2
  refine wp_loop_rounds 5 ?_
  by_cases e4 : lim x 4 = 65535
  · have g4 : (lim x 4 == 65535) = true := by simp [e4]
    have k4 : (lim x 4 != 65535) = false := by simp [e4]
    rw [rounds_succ]
    have H4 := Lib.hid e4
    clear e4
    go_wp2
    have e4 := H4.out
    clear g4 k4
    by_cases e5 : lim x 5 = 65535
    · have g5 : (lim x 5 == 65535) = true := by simp [e5]
      have k5 : (lim x 5 != 65535) = false := by simp [e5]
      rw [rounds_succ]
      have H5 := Lib.hid e5
      clear e5
      go_wp2
      have e5 := H5.out
      clear g5 k5
      by_cases e6 : lim x 6 = 65535
      · have g6 : (lim x 6 == 65535) = true := by simp [e6]
        have k6 : (lim x 6 != 65535) = false := by simp [e6]
        rw [rounds_succ]
        have H6 := Lib.hid e6
        clear e6
        go_wp2
        have e6 := H6.out
        clear g6 k6
        by_cases e7 : lim x 7 = 65535
        · have g7 : (lim x 7 == 65535) = true := by simp [e7]
          have k7 : (lim x 7 != 65535) = false := by simp [e7]
          rw [rounds_succ]
          have H7 := Lib.hid e7
          clear e7
          go_wp2
          have e7 := H7.out
          clear g7 k7
          obtain ⟨hr, ht⟩ := HY.out ⟨e4, e5, e6, e7⟩
          subst hr ht
          rw [rounds_succ]
          go_wp2
          go_ret2
          exact ⟨rfl, ((((Below.refl _ _).alloc (Nat.le_refl _) _).trans (hb1.mono (by simp))).alloc (by have := hb1.size; simp at this; omega) _)⟩
        · have g7 : (lim x 7 == 65535) = false := by simp [e7]
          have k7 : (lim x 7 != 65535) = true := by simp [e7]
          obtain ⟨hr, ht⟩ := HN.out (fun h => e7 h.2.2.2)
          subst hr ht
          clear e7
          rw [rounds_succ]
          go_wp2
          go_ret2
          exact ⟨rfl, ((((Below.refl _ _).alloc (Nat.le_refl _) _).trans (hb1.mono (by simp))).alloc (by have := hb1.size; simp at this; omega) _)⟩
      · have g6 : (lim x 6 == 65535) = false := by simp [e6]
        have k6 : (lim x 6 != 65535) = true := by simp [e6]
        obtain ⟨hr, ht⟩ := HN.out (fun h => e6 h.2.2.1)
        subst hr ht
        clear e6
        rw [rounds_succ]
        go_wp2
        go_ret2
        exact ⟨rfl, ((((Below.refl _ _).alloc (Nat.le_refl _) _).trans (hb1.mono (by simp))).alloc (by have := hb1.size; simp at this; omega) _)⟩
    · have g5 : (lim x 5 == 65535) = false := by simp [e5]
      have k5 : (lim x 5 != 65535) = true := by simp [e5]
      obtain ⟨hr, ht⟩ := HN.out (fun h => e5 h.2.1)
      subst hr ht
      clear e5
      rw [rounds_succ]
      go_wp2
      go_ret2
      exact ⟨rfl, ((((Below.refl _ _).alloc (Nat.le_refl _) _).trans (hb1.mono (by simp))).alloc (by have := hb1.size; simp at this; omega) _)⟩
  · have g4 : (lim x 4 == 65535) = false := by simp [e4]
    have k4 : (lim x 4 != 65535) = true := by simp [e4]
    obtain ⟨hr, ht⟩ := HN.out (fun h => e4 h.1)
    subst hr ht
    clear e4
    rw [rounds_succ]
    go_wp2
    go_ret2
    exact ⟨rfl, ((((Below.refl _ _).alloc (Nat.le_refl _) _).trans (hb1.mono (by simp))).alloc (by have := hb1.size; simp at this; omega) _)⟩
set_option maxRecDepth 100000 in
set_option maxHeartbeats 4000000 in
theorem refint_pos (x : Int) (hs : lim x 3 < 32768) (r : Int) (t : Bool)
    (hyes : lim x 4 = 0 ∧ lim x 5 = 0 ∧ lim x 6 = 0 ∧ lim x 7 = 0 → r = wrap64 (loZ x) ∧ t = true)
    (hno : ¬ (lim x 4 = 0 ∧ lim x 5 = 0 ∧ lim x 6 = 0 ∧ lim x 7 = 0) → r = 0 ∧ t = false) (w : World) :
    Calls Try.prog 16 #[SumV x] w fun e w' => e = .returned (.tuple #[.int .i64 r, .bool t]) ∧ Below w.heap.size w w' := by
  have HY := Lib.hid hyes
  have HN := Lib.hid hno
  clear hyes hno
  go_enter Try.func16, Try.ntmps16
  go_wp2_with fail
  refine (limbs_any x _).mono ?_
  rintro e w1 ⟨rfl, hb1⟩
  have c1 : w1.cell? ⟨w.heap.size, 1, none⟩ = some (.int .u64 (loZ x)) := cell_later hb1 (by simp [go_sem])
  have s0 : w.heap.size < w1.heap.size := by have := hb1.size; simp at this; omega
  go_wp2
  refine wp_loop_rounds 5 ?_
  by_cases e4 : lim x 4 = 0
  · have g4 : (lim x 4 == 0) = true := by simp [e4]
    have k4 : (lim x 4 != 0) = false := by simp [e4]
    rw [rounds_succ]
    have H4 := Lib.hid e4
    clear e4
    go_wp2
    have e4 := H4.out
    clear g4 k4
    by_cases e5 : lim x 5 = 0
    · have g5 : (lim x 5 == 0) = true := by simp [e5]
      have k5 : (lim x 5 != 0) = false := by simp [e5]
      rw [rounds_succ]
      have H5 := Lib.hid e5
      clear e5
      go_wp2
      have e5 := H5.out
      clear g5 k5
      by_cases e6 : lim x 6 = 0
      · have g6 : (lim x 6 == 0) = true := by simp [e6]
        have k6 : (lim x 6 != 0) = false := by simp [e6]
        rw [rounds_succ]
        have H6 := Lib.hid e6
        clear e6
        go_wp2
        have e6 := H6.out
        clear g6 k6
        by_cases e7 : lim x 7 = 0
        · have g7 : (lim x 7 == 0) = true := by simp [e7]
          have k7 : (lim x 7 != 0) = false := by simp [e7]
          rw [rounds_succ]
          have H7 := Lib.hid e7
          clear e7
          go_wp2
          have e7 := H7.out
          clear g7 k7
          obtain ⟨hr, ht⟩ := HY.out ⟨e4, e5, e6, e7⟩
          subst hr ht
          rw [rounds_succ]
          go_wp2
          go_ret2
          exact ⟨rfl, ((((Below.refl _ _).alloc (Nat.le_refl _) _).trans (hb1.mono (by simp))).alloc (by have := hb1.size; simp at this; omega) _)⟩
        · have g7 : (lim x 7 == 0) = false := by simp [e7]
          have k7 : (lim x 7 != 0) = true := by simp [e7]
          obtain ⟨hr, ht⟩ := HN.out (fun h => e7 h.2.2.2)
          subst hr ht
          clear e7
          rw [rounds_succ]
          go_wp2
          go_ret2
          exact ⟨rfl, ((((Below.refl _ _).alloc (Nat.le_refl _) _).trans (hb1.mono (by simp))).alloc (by have := hb1.size; simp at this; omega) _)⟩
      · have g6 : (lim x 6 == 0) = false := by simp [e6]
        have k6 : (lim x 6 != 0) = true := by simp [e6]
        obtain ⟨hr, ht⟩ := HN.out (fun h => e6 h.2.2.1)
        subst hr ht
        clear e6
        rw [rounds_succ]
        go_wp2
        go_ret2
        exact ⟨rfl, ((((Below.refl _ _).alloc (Nat.le_refl _) _).trans (hb1.mono (by simp))).alloc (by have := hb1.size; simp at this; omega) _)⟩
    · have g5 : (lim x 5 == 0) = false := by simp [e5]
      have k5 : (lim x 5 != 0) = true := by simp [e5]
      obtain ⟨hr, ht⟩ := HN.out (fun h => e5 h.2.1)
      subst hr ht
      clear e5
      rw [rounds_succ]
      go_wp2
      go_ret2
      exact ⟨rfl, ((((Below.refl _ _).alloc (Nat.le_refl _) _).trans (hb1.mono (by simp))).alloc (by have := hb1.size; simp at this; omega) _)⟩
  · have g4 : (lim x 4 == 0) = false := by simp [e4]
    have k4 : (lim x 4 != 0) = true := by simp [e4]
    obtain ⟨hr, ht⟩ := HN.out (fun h => e4 h.1)
    subst hr ht
    clear e4
    rw [rounds_succ]
    go_wp2
    go_ret2
    exact ⟨rfl, ((((Below.refl _ _).alloc (Nat.le_refl _) _).trans (hb1.mono (by simp))).alloc (by have := hb1.size; simp at this; omega) _)⟩

/-- Is it a number of 64 bits? -/
def inB (x : Int) : Bool := decide (-9223372036854775808 ≤ x ∧ x ≤ 9223372036854775807)
theorem inB_yes {x : Int} (h : In64 x) : inB x = true := by unfold inB; exact decide_eq_true h
theorem inB_no {x : Int} (h : ¬ In64 x) : inB x = false := by unfold inB; exact decide_eq_false h
theorem limbs_in_neg {x : Int} (h : In128 x) (hs : 32768 ≤ lim x 3) : (lim x 4 = 65535 ∧ lim x 5 = 65535 ∧ lim x 6 = 65535 ∧ lim x 7 = 65535) ↔ In64 x := by
  unfold lim In64 at *; simp only [p16] at *; unfold In128 at h; omega
theorem limbs_in_pos {x : Int} (h : In128 x) (hs : lim x 3 < 32768) : (lim x 4 = 0 ∧ lim x 5 = 0 ∧ lim x 6 = 0 ∧ lim x 7 = 0) ↔ In64 x := by
  unfold lim In64 at *; simp only [p16] at *; unfold In128 at h; omega

theorem refint_any (x : Int) (h8 : In128 x) (w : World) :
    Calls Try.prog 16 #[SumV x] w fun e w' => e = .returned (.tuple #[.int .i64 (wholeN x), .bool (inB x)]) ∧ Below w.heap.size w w' := by
  by_cases hs : 32768 ≤ lim x 3
  · refine refint_neg x hs _ _ (fun h => ?_) (fun h => ?_) w
    · have h' := (limbs_in_neg h8 hs).1 h; exact ⟨by rw [wholeN_yes h', lo_is h'], inB_yes h'⟩
    · have h' := fun g => h ((limbs_in_neg h8 hs).2 g); exact ⟨wholeN_no h', inB_no h'⟩
  · refine refint_pos x (by omega) _ _ (fun h => ?_) (fun h => ?_) w
    · have h' := (limbs_in_pos h8 (by omega)).1 h; exact ⟨by rw [wholeN_yes h', lo_is h'], inB_yes h'⟩
    · have h' := fun g => h ((limbs_in_pos h8 (by omega)).2 g); exact ⟨wholeN_no h', inB_no h'⟩
theorem int_any (x : Int) (h8 : In128 x) (w : World) :
    Calls Try.prog 15 #[SumV x] w fun e w' => e = .returned (.tuple #[.int .i64 (wholeN x), .bool (inB x)]) ∧ Below w.heap.size w w' := by
  by_cases hx : In64 x
  · rw [wholeN_yes hx, inB_yes hx]; exact int_yes x hx w
  · rw [wholeN_no hx, inB_no hx]; exact int_no x h8 hx w
end Go.Proofs.Ytnfffkppgfokcaa
