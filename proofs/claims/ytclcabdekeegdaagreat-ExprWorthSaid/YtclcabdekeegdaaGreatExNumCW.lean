/- What a seat needs of several texts. -/
import Derived.Test.YtclcabdekeegdaaGreatExNumBW
import Derived.RegionTactic
import Derived.BigRegion
/- From LimbWalks2. -/
namespace Go.Proofs.YtclcabdekeegdaaGreat
open Go.ChangeShapes Go.WideShapes Go.ChangeAt Go.RowKit
set_option maxRecDepth 100000 in
set_option maxHeartbeats 4000000 in
theorem refboth_any (x y : Int) (w : World) :
  Calls Tryz.prog 138 #[SumV x, SumV y] w fun e w' => e = .returned (SumV (x + y)) ∧ Below w.heap.size w w' := by
 go_enter Tryz.func138, Tryz.ntmps138
 go_wp2_with fail
 refine (limbs_any x _).mono ?_
 rintro e w1 ⟨rfl, hb1⟩
 have c0 : w1.cell? ⟨w.heap.size + 1, 0, none⟩ = some (.int .i64 (hiZ y)) := cell_later hb1 (by simp [go_sem])
 have c1 : w1.cell? ⟨w.heap.size + 1, 1, none⟩ = some (.int .u64 (loZ y)) := cell_later hb1 (by simp [go_sem])
 have d0 : w1.cell? ⟨w.heap.size + 1 + 1, 0, none⟩ = some (.int .i64 0) := cell_later hb1 (by simp [go_sem])
 have d1 : w1.cell? ⟨w.heap.size + 1 + 1, 1, none⟩ = some (.int .u64 0) := cell_later hb1 (by simp [go_sem])
 have f0 : w1.frozen? ⟨w.heap.size + 1 + 1, 0, none⟩ = false := frozen_later (v := .int .i64 0) hb1 (by simp [go_sem]) (by simp [go_sem])
 have f1 : w1.frozen? ⟨w.heap.size + 1 + 1, 1, none⟩ = false := frozen_later (v := .int .u64 0) hb1 (by simp [go_sem]) (by simp [go_sem])
 have s1 : w.heap.size + 1 + 1 < w1.heap.size := by have := hb1.size; simp at this; omega
 have s0 : w.heap.size + 1 < w1.heap.size := by omega
 have B1 : Below w.heap.size w w1 := (((Below.refl _ _).alloc (Nat.le_refl _) _).alloc (by simp) _ |>.alloc (by simp; omega) _).trans (hb1.mono (by simp; omega))
 have hne : w1.heap.size ≠ w.heap.size + 1 := by omega
 have hne2 : w1.heap.size ≠ w.heap.size + 1 + 1 := by omega
 clear hb1
 go_wp2_with fail
 refine (limbs_any y _).mono ?_
 rintro e w2 ⟨rfl, hb2⟩
 have d2 : w2.cell? ⟨w.heap.size + 1 + 1, 0, none⟩ = some (.int .i64 0) := cell_later hb2 (by rw [World.cell?_alloc_past _ _ _ (by omega)]; exact d0)
 have d3 : w2.cell? ⟨w.heap.size + 1 + 1, 1, none⟩ = some (.int .u64 0) := cell_later hb2 (by rw [World.cell?_alloc_past _ _ _ (by omega)]; exact d1)
 have f2 : w2.frozen? ⟨w.heap.size + 1 + 1, 0, none⟩ = false := frozen_later (v := .int .i64 0) hb2 (by rw [World.cell?_alloc_past _ _ _ (by omega)]; exact d0) (by rw [frozen?_alloc_cells]; exact f0)
 have f3 : w2.frozen? ⟨w.heap.size + 1 + 1, 1, none⟩ = false := frozen_later (v := .int .u64 0) hb2 (by rw [World.cell?_alloc_past _ _ _ (by omega)]; exact d1) (by rw [frozen?_alloc_cells]; exact f1)
 have a0 : w2.cell? ⟨w1.heap.size, 0, none⟩ = some (.int .u32 (lim x 0)) := cell_later hb2 (by simp [go_sem])
 have g0 : w2.frozen? ⟨w1.heap.size, 0, none⟩ = false := frozen_later (v := .int .u32 (lim x 0)) hb2 (by simp [go_sem]) (by simp [go_sem])
 have a1 : w2.cell? ⟨w1.heap.size, 1, none⟩ = some (.int .u32 (lim x 1)) := cell_later hb2 (by simp [go_sem])
 have g1 : w2.frozen? ⟨w1.heap.size, 1, none⟩ = false := frozen_later (v := .int .u32 (lim x 1)) hb2 (by simp [go_sem]) (by simp [go_sem])
 have a2 : w2.cell? ⟨w1.heap.size, 2, none⟩ = some (.int .u32 (lim x 2)) := cell_later hb2 (by simp [go_sem])
 have g2 : w2.frozen? ⟨w1.heap.size, 2, none⟩ = false := frozen_later (v := .int .u32 (lim x 2)) hb2 (by simp [go_sem]) (by simp [go_sem])
 have a3 : w2.cell? ⟨w1.heap.size, 3, none⟩ = some (.int .u32 (lim x 3)) := cell_later hb2 (by simp [go_sem])
 have g3 : w2.frozen? ⟨w1.heap.size, 3, none⟩ = false := frozen_later (v := .int .u32 (lim x 3)) hb2 (by simp [go_sem]) (by simp [go_sem])
 have a4 : w2.cell? ⟨w1.heap.size, 4, none⟩ = some (.int .u32 (lim x 4)) := cell_later hb2 (by simp [go_sem])
 have g4 : w2.frozen? ⟨w1.heap.size, 4, none⟩ = false := frozen_later (v := .int .u32 (lim x 4)) hb2 (by simp [go_sem]) (by simp [go_sem])
 have a5 : w2.cell? ⟨w1.heap.size, 5, none⟩ = some (.int .u32 (lim x 5)) := cell_later hb2 (by simp [go_sem])
 have g5 : w2.frozen? ⟨w1.heap.size, 5, none⟩ = false := frozen_later (v := .int .u32 (lim x 5)) hb2 (by simp [go_sem]) (by simp [go_sem])
 have a6 : w2.cell? ⟨w1.heap.size, 6, none⟩ = some (.int .u32 (lim x 6)) := cell_later hb2 (by simp [go_sem])
 have g6 : w2.frozen? ⟨w1.heap.size, 6, none⟩ = false := frozen_later (v := .int .u32 (lim x 6)) hb2 (by simp [go_sem]) (by simp [go_sem])
 have a7 : w2.cell? ⟨w1.heap.size, 7, none⟩ = some (.int .u32 (lim x 7)) := cell_later hb2 (by simp [go_sem])
 have g7 : w2.frozen? ⟨w1.heap.size, 7, none⟩ = false := frozen_later (v := .int .u32 (lim x 7)) hb2 (by simp [go_sem]) (by simp [go_sem])
 have s2 : w1.heap.size < w2.heap.size := by have := hb2.size; simp at this; omega
 have B2 : Below w.heap.size w w2 := (B1.alloc (by omega) _).trans (hb2.mono (by simp; omega))
 have s3 : w.heap.size + 1 + 1 < w2.heap.size := by omega
 clear c0 c1 hb2
 go_wp2_with fail
 have m0 := both_mask0 x y; have n0 := both_next0 x y; have i0 := both_in0 x y
 have m1 := both_mask1 x y; have n1 := both_next1 x y; have i1 := both_in1 x y; have j1 := both_inc1 x y
 have m2 := both_mask2 x y; have n2 := both_next2 x y; have i2 := both_in2 x y; have j2 := both_inc2 x y
 have m3 := both_mask3 x y; have n3 := both_next3 x y; have i3 := both_in3 x y; have j3 := both_inc3 x y
 have m4 := both_mask4 x y; have n4 := both_next4 x y; have i4 := both_in4 x y; have j4 := both_inc4 x y
 have m5 := both_mask5 x y; have n5 := both_next5 x y; have i5 := both_in5 x y; have j5 := both_inc5 x y
 have m6 := both_mask6 x y; have n6 := both_next6 x y; have i6 := both_in6 x y; have j6 := both_inc6 x y
 have m7 := both_mask7 x y; have n7 := both_next7 x y; have i7 := both_in7 x y; have j7 := both_inc7 x y
 refine wp_loop_rounds 9 ?_
 iterate 8 (rw [rounds_succ]; go_wp2_with fail; go_region; go_wp2_with fail)
 rw [rounds_succ]
 go_wp2_with fail
 refine (of_limbs (x + y) _).mono ?_
 rintro e w3 ⟨rfl, hb3⟩
 have E0 := cell_later (a := ⟨w.heap.size + 1 + 1, 0, none⟩) (v := .int .i64 0) hb3 (by simp [go_sem, World.cell?_setCell_far, hne2, d2, s3])
 have E1 := cell_later (a := ⟨w.heap.size + 1 + 1, 1, none⟩) (v := .int .u64 0) hb3 (by simp [go_sem, World.cell?_setCell_far, hne2, d3, s3])
 have F0 := frozen_later (a := ⟨w.heap.size + 1 + 1, 0, none⟩) (v := .int .i64 0) hb3 (by simp [go_sem, World.cell?_setCell_far, hne2, d2, s3]) (by simp [go_sem, frozen?_alloc_cells, f2])
 have F1 := frozen_later (a := ⟨w.heap.size + 1 + 1, 1, none⟩) (v := .int .u64 0) hb3 (by simp [go_sem, World.cell?_setCell_far, hne2, d3, s3]) (by simp [go_sem, frozen?_alloc_cells, f3])
 have B3 : Below w.heap.size w w3 := by
  refine Below.trans ?_ (hb3.mono (by simp; omega))
  iterate 8 (refine Below.drew ?_)
  refine Below.alloc ?_ (by simp; omega) _
  iterate 8 (refine Below.setCell ?_ (by simp; omega) _)
  exact B2
 clear hb3
 go_wp2
 exact bodyPost_ret (v := SumV (x + y)) (by simp [results, Tryz.results138, go_sem, E0, E1]) rfl ⟨rfl, (B3.setCell (by simp; omega) _).setCell (by simp; omega) _⟩
set_option maxRecDepth 100000 in
set_option maxHeartbeats 4000000 in
theorem refint_neg (x : Int) (hs : 32768 ≤ lim x 3) (r : Int) (t : Bool)
  (hyes : lim x 4 = 65535 ∧ lim x 5 = 65535 ∧ lim x 6 = 65535 ∧ lim x 7 = 65535 → r = wrap64 (loZ x) ∧ t = true)
  (hno : ¬ (lim x 4 = 65535 ∧ lim x 5 = 65535 ∧ lim x 6 = 65535 ∧ lim x 7 = 65535) → r = 0 ∧ t = false) (w : World) :
  Calls Tryz.prog 137 #[SumV x] w fun e w' => e = .returned (.tuple #[.int .i64 r, .bool t]) ∧ Below w.heap.size w w' := by
 have HY := Lib.hid hyes
 have HN := Lib.hid hno
 clear hyes hno
 go_enter Tryz.func137, Tryz.ntmps137
 go_wp2_with fail
 refine (limbs_any x _).mono ?_
 rintro e w1 ⟨rfl, hb1⟩
 have c1 : w1.cell? ⟨w.heap.size, 1, none⟩ = some (.int .u64 (loZ x)) := cell_later hb1 (by simp [go_sem])
 have s0 : w.heap.size < w1.heap.size := by have := hb1.size; simp at this; omega
 go_wp2
 refine wp_loop_rounds 5 ?_
 by_cases e4 : lim x 4 = 65535
 ·have g4 : (lim x 4 == 65535) = true := by simp [e4]
  have k4 : (lim x 4 != 65535) = false := by simp [e4]
  rw [rounds_succ]
  have H4 := Lib.hid e4
  clear e4
  go_wp2
  have e4 := H4.out
  clear g4 k4
  by_cases e5 : lim x 5 = 65535
  ·have g5 : (lim x 5 == 65535) = true := by simp [e5]
   have k5 : (lim x 5 != 65535) = false := by simp [e5]
   rw [rounds_succ]
   have H5 := Lib.hid e5
   clear e5
   go_wp2
   have e5 := H5.out
   clear g5 k5
   by_cases e6 : lim x 6 = 65535
   ·have g6 : (lim x 6 == 65535) = true := by simp [e6]
    have k6 : (lim x 6 != 65535) = false := by simp [e6]
    rw [rounds_succ]
    have H6 := Lib.hid e6
    clear e6
    go_wp2
    have e6 := H6.out
    clear g6 k6
    by_cases e7 : lim x 7 = 65535
    ·have g7 : (lim x 7 == 65535) = true := by simp [e7]
     have k7 : (lim x 7 != 65535) = false := by simp [e7]
     rw [rounds_succ]
     have H7 := Lib.hid e7
     clear e7
     go_wp2
     have e7 := H7.out
     clear g7 k7
     obtain ⟨hr, ht⟩ := HY.out ⟨e4, e5, e6, e7⟩
     subst hr ht
     rw [rounds_succ]
     go_wp2
     go_ret2
     exact ⟨rfl, ((((Below.refl _ _).alloc (Nat.le_refl _) _).trans (hb1.mono (by simp))).alloc (by have := hb1.size; simp at this; omega) _)⟩
    ·have g7 : (lim x 7 == 65535) = false := by simp [e7]
     have k7 : (lim x 7 != 65535) = true := by simp [e7]
     obtain ⟨hr, ht⟩ := HN.out (fun h => e7 h.2.2.2)
     subst hr ht
     clear e7
     rw [rounds_succ]
     go_wp2
     go_ret2
     exact ⟨rfl, ((((Below.refl _ _).alloc (Nat.le_refl _) _).trans (hb1.mono (by simp))).alloc (by have := hb1.size; simp at this; omega) _)⟩
   ·have g6 : (lim x 6 == 65535) = false := by simp [e6]
    have k6 : (lim x 6 != 65535) = true := by simp [e6]
    obtain ⟨hr, ht⟩ := HN.out (fun h => e6 h.2.2.1)
    subst hr ht
    clear e6
    rw [rounds_succ]
    go_wp2
    go_ret2
    exact ⟨rfl, ((((Below.refl _ _).alloc (Nat.le_refl _) _).trans (hb1.mono (by simp))).alloc (by have := hb1.size; simp at this; omega) _)⟩
  ·have g5 : (lim x 5 == 65535) = false := by simp [e5]
   have k5 : (lim x 5 != 65535) = true := by simp [e5]
   obtain ⟨hr, ht⟩ := HN.out (fun h => e5 h.2.1)
   subst hr ht
   clear e5
   rw [rounds_succ]
   go_wp2
   go_ret2
   exact ⟨rfl, ((((Below.refl _ _).alloc (Nat.le_refl _) _).trans (hb1.mono (by simp))).alloc (by have := hb1.size; simp at this; omega) _)⟩
 ·have g4 : (lim x 4 == 65535) = false := by simp [e4]
  have k4 : (lim x 4 != 65535) = true := by simp [e4]
  obtain ⟨hr, ht⟩ := HN.out (fun h => e4 h.1)
  subst hr ht
  clear e4
  rw [rounds_succ]
  go_wp2
  go_ret2
  exact ⟨rfl, ((((Below.refl _ _).alloc (Nat.le_refl _) _).trans (hb1.mono (by simp))).alloc (by have := hb1.size; simp at this; omega) _)⟩
set_option maxRecDepth 100000 in
set_option maxHeartbeats 4000000 in
theorem refint_pos (x : Int) (hs : lim x 3 < 32768) (r : Int) (t : Bool)
  (hyes : lim x 4 = 0 ∧ lim x 5 = 0 ∧ lim x 6 = 0 ∧ lim x 7 = 0 → r = wrap64 (loZ x) ∧ t = true)
  (hno : ¬ (lim x 4 = 0 ∧ lim x 5 = 0 ∧ lim x 6 = 0 ∧ lim x 7 = 0) → r = 0 ∧ t = false) (w : World) :
  Calls Tryz.prog 137 #[SumV x] w fun e w' => e = .returned (.tuple #[.int .i64 r, .bool t]) ∧ Below w.heap.size w w' := by
 have HY := Lib.hid hyes
 have HN := Lib.hid hno
 clear hyes hno
 go_enter Tryz.func137, Tryz.ntmps137
 go_wp2_with fail
 refine (limbs_any x _).mono ?_
 rintro e w1 ⟨rfl, hb1⟩
 have c1 : w1.cell? ⟨w.heap.size, 1, none⟩ = some (.int .u64 (loZ x)) := cell_later hb1 (by simp [go_sem])
 have s0 : w.heap.size < w1.heap.size := by have := hb1.size; simp at this; omega
 go_wp2
 refine wp_loop_rounds 5 ?_
 by_cases e4 : lim x 4 = 0
 ·have g4 : (lim x 4 == 0) = true := by simp [e4]
  have k4 : (lim x 4 != 0) = false := by simp [e4]
  rw [rounds_succ]
  have H4 := Lib.hid e4
  clear e4
  go_wp2
  have e4 := H4.out
  clear g4 k4
  by_cases e5 : lim x 5 = 0
  ·have g5 : (lim x 5 == 0) = true := by simp [e5]
   have k5 : (lim x 5 != 0) = false := by simp [e5]
   rw [rounds_succ]
   have H5 := Lib.hid e5
   clear e5
   go_wp2
   have e5 := H5.out
   clear g5 k5
   by_cases e6 : lim x 6 = 0
   ·have g6 : (lim x 6 == 0) = true := by simp [e6]
    have k6 : (lim x 6 != 0) = false := by simp [e6]
    rw [rounds_succ]
    have H6 := Lib.hid e6
    clear e6
    go_wp2
    have e6 := H6.out
    clear g6 k6
    by_cases e7 : lim x 7 = 0
    ·have g7 : (lim x 7 == 0) = true := by simp [e7]
     have k7 : (lim x 7 != 0) = false := by simp [e7]
     rw [rounds_succ]
     have H7 := Lib.hid e7
     clear e7
     go_wp2
     have e7 := H7.out
     clear g7 k7
     obtain ⟨hr, ht⟩ := HY.out ⟨e4, e5, e6, e7⟩
     subst hr ht
     rw [rounds_succ]
     go_wp2
     go_ret2
     exact ⟨rfl, ((((Below.refl _ _).alloc (Nat.le_refl _) _).trans (hb1.mono (by simp))).alloc (by have := hb1.size; simp at this; omega) _)⟩
    ·have g7 : (lim x 7 == 0) = false := by simp [e7]
     have k7 : (lim x 7 != 0) = true := by simp [e7]
     obtain ⟨hr, ht⟩ := HN.out (fun h => e7 h.2.2.2)
     subst hr ht
     clear e7
     rw [rounds_succ]
     go_wp2
     go_ret2
     exact ⟨rfl, ((((Below.refl _ _).alloc (Nat.le_refl _) _).trans (hb1.mono (by simp))).alloc (by have := hb1.size; simp at this; omega) _)⟩
   ·have g6 : (lim x 6 == 0) = false := by simp [e6]
    have k6 : (lim x 6 != 0) = true := by simp [e6]
    obtain ⟨hr, ht⟩ := HN.out (fun h => e6 h.2.2.1)
    subst hr ht
    clear e6
    rw [rounds_succ]
    go_wp2
    go_ret2
    exact ⟨rfl, ((((Below.refl _ _).alloc (Nat.le_refl _) _).trans (hb1.mono (by simp))).alloc (by have := hb1.size; simp at this; omega) _)⟩
  ·have g5 : (lim x 5 == 0) = false := by simp [e5]
   have k5 : (lim x 5 != 0) = true := by simp [e5]
   obtain ⟨hr, ht⟩ := HN.out (fun h => e5 h.2.1)
   subst hr ht
   clear e5
   rw [rounds_succ]
   go_wp2
   go_ret2
   exact ⟨rfl, ((((Below.refl _ _).alloc (Nat.le_refl _) _).trans (hb1.mono (by simp))).alloc (by have := hb1.size; simp at this; omega) _)⟩
 ·have g4 : (lim x 4 == 0) = false := by simp [e4]
  have k4 : (lim x 4 != 0) = true := by simp [e4]
  obtain ⟨hr, ht⟩ := HN.out (fun h => e4 h.1)
  subst hr ht
  clear e4
  rw [rounds_succ]
  go_wp2
  go_ret2
  exact ⟨rfl, ((((Below.refl _ _).alloc (Nat.le_refl _) _).trans (hb1.mono (by simp))).alloc (by have := hb1.size; simp at this; omega) _)⟩
/-- Is it a number of 64 bits? -/
def inB (x : Int) : Bool := decide (-9223372036854775808 ≤ x ∧ x ≤ 9223372036854775807)
theorem inB_yes {x : Int} (h : In64 x) : inB x = true := by unfold inB; exact decide_eq_true h
theorem inB_no {x : Int} (h : ¬ In64 x) : inB x = false := by unfold inB; exact decide_eq_false h
theorem limbs_in_neg {x : Int} (h : In128 x) (hs : 32768 ≤ lim x 3) : (lim x 4 = 65535 ∧ lim x 5 = 65535 ∧ lim x 6 = 65535 ∧ lim x 7 = 65535) ↔ In64 x := by
 unfold lim In64 at *; simp only [p16] at *; unfold In128 at h; omega
theorem limbs_in_pos {x : Int} (h : In128 x) (hs : lim x 3 < 32768) : (lim x 4 = 0 ∧ lim x 5 = 0 ∧ lim x 6 = 0 ∧ lim x 7 = 0) ↔ In64 x := by
 unfold lim In64 at *; simp only [p16] at *; unfold In128 at h; omega
theorem refint_any (x : Int) (h8 : In128 x) (w : World) :
  Calls Tryz.prog 137 #[SumV x] w fun e w' => e = .returned (.tuple #[.int .i64 (wholeN x), .bool (inB x)]) ∧ Below w.heap.size w w' := by
 by_cases hs : 32768 ≤ lim x 3
 ·refine refint_neg x hs _ _ (fun h => ?_) (fun h => ?_) w
  ·have h' := (limbs_in_neg h8 hs).1 h; exact ⟨by rw [wholeN_yes h', lo_is h'], inB_yes h'⟩
  ·have h' := fun g => h ((limbs_in_neg h8 hs).2 g); exact ⟨wholeN_no h', inB_no h'⟩
 ·refine refint_pos x (by omega) _ _ (fun h => ?_) (fun h => ?_) w
  ·have h' := (limbs_in_pos h8 (by omega)).1 h; exact ⟨by rw [wholeN_yes h', lo_is h'], inB_yes h'⟩
  ·have h' := fun g => h ((limbs_in_pos h8 (by omega)).2 g); exact ⟨wholeN_no h', inB_no h'⟩
end Go.Proofs.YtclcabdekeegdaaGreat
/- From NumDoes. -/
namespace Go.Proofs.YtclcabdekeegdaaGreat
open Go.ChangeShapes Go.WideShapes Go.ChangeAt Go.RowKit
theorem product_zero (a b : Int) (h : a = 0 ∨ b = 0) (w : World) :
  Calls Tryz.prog 142 #[.int .i64 a, .int .i64 b] w fun e w' => e = .returned (.tuple #[.int .i64 0, .bool true]) ∧ w = w' := by
 by_cases h0 : a = 0
 ·subst h0
  go_enter Tryz.func142, Tryz.ntmps142
  go_wp2
  go_ret2
  exact ⟨rfl, rfl⟩
 ·have g : (a == 0) = false := by simp [h0]
  obtain rfl : b = 0 := by omega
  clear h
  go_enter Tryz.func142, Tryz.ntmps142
  go_wp2
  go_ret2
  exact ⟨rfl, rfl⟩
theorem abs_rule {n : Int} (h : In64 n) : (n < 0 ∧ IntKind.u64.wrap (-IntKind.u64.wrap n) = absZ n) ∨ (¬ n < 0 ∧ IntKind.u64.wrap n = absZ n) := by
 by_cases h0 : n < 0
 ·exact .inl ⟨h0, abs_neg h h0⟩
 ·exact .inr ⟨h0, abs_pos h (by omega)⟩
set_option maxHeartbeats 1000000 in
theorem product_over (a b : Int) (ha : In64 a) (hb : In64 b) (h0 : a ≠ 0) (h1 : b ≠ 0) (hq : 18446744073709551615 / absZ a < absZ b) (w : World) :
  Calls Tryz.prog 142 #[.int .i64 a, .int .i64 b] w fun e w' => e = .returned (.tuple #[.int .i64 0, .bool false]) ∧ w = w' := by
 have g0 : (a == 0) = false := by simp [h0]
 have g1 : (b == 0) = false := by simp [h1]
 have p0 : 1 ≤ absZ a := by unfold absZ; split <;> omega
 have p1 := (absZ_bd ha).2
 have p2 : (absZ a == 0) = false := by simp; omega
 have q : IntKind.u64.wrap ((18446744073709551615 : Int).tdiv (absZ a)) = 18446744073709551615 / absZ a := IntWalk.u64_quo _ _ ⟨by omega, by omega, p0⟩
 have gq : decide (18446744073709551615 / absZ a < absZ b) = true := by simpa using hq
 rcases abs_rule ha with ⟨s1, r1⟩ | ⟨s1, r1⟩ <;> rcases abs_rule hb with ⟨s2, r2⟩ | ⟨s2, r2⟩
 all_goals
  clear h0 h1 ha hb hq
  go_enter Tryz.func142, Tryz.ntmps142
  go_wp2
  go_ret2
  exact ⟨rfl, rfl⟩
/-- The two ways in which a product is told. -/
def prodN (a b p : Int) : Int := if (a < 0 ↔ b < 0) then wrap64 p else wrap64 (-wrap64 p)
def prodB (a b p : Int) : Bool := if (a < 0 ↔ b < 0) then decide (p < 9223372036854775808) else decide (p ≤ 9223372036854775808)
set_option maxHeartbeats 2000000 in
theorem product_in (a b p : Int) (ha : In64 a) (hb : In64 b) (h0 : a ≠ 0) (h1 : b ≠ 0) (hp : absZ a * absZ b = p) (hq : ¬ 18446744073709551615 / absZ a < absZ b) (w : World) :
  Calls Tryz.prog 142 #[.int .i64 a, .int .i64 b] w fun e w' => e = .returned (.tuple #[.int .i64 (prodN a b p), .bool (prodB a b p)]) ∧ w = w' := by
 have g0 : (a == 0) = false := by simp [h0]
 have g1 : (b == 0) = false := by simp [h1]
 have p0 : 1 ≤ absZ a := by unfold absZ; split <;> omega
 have p1 := (absZ_bd ha).2
 have p2 : (absZ a == 0) = false := by simp; omega
 have q : IntKind.u64.wrap ((18446744073709551615 : Int).tdiv (absZ a)) = 18446744073709551615 / absZ a := IntWalk.u64_quo _ _ ⟨by omega, by omega, p0⟩
 have gq : decide (18446744073709551615 / absZ a < absZ b) = false := by simpa using hq
 have hle : absZ b * absZ a ≤ 18446744073709551615 := (Int.le_ediv_iff_mul_le (by omega)).1 (by omega)
 have hp0 := (absZ_mul ha hb).1
 rw [Int.mul_comm] at hle
 have m : IntKind.u64.wrap (absZ a * absZ b) = p := by rw [← hp]; exact IntWalk.u64_in _ ⟨hp0, hle⟩
 rw [hp] at hp0 hle
 rcases abs_rule ha with ⟨s1, r1⟩ | ⟨s1, r1⟩ <;> rcases abs_rule hb with ⟨s2, r2⟩ | ⟨s2, r2⟩
 ·have e1 : prodN a b p = wrap64 p := if_pos ⟨fun _ => s2, fun _ => s1⟩
  have e2 : prodB a b p = decide (p < 9223372036854775808) := if_pos ⟨fun _ => s2, fun _ => s1⟩
  rw [e1, e2]
  have k1 : decide (a < 0) = true := by simpa using s1
  have k2 : decide (b < 0) = true := by simpa using s2
  clear h0 h1 ha hb hq hp e1 e2
  go_enter Tryz.func142, Tryz.ntmps142
  go_wp2
  go_ret2
  exact ⟨rfl, rfl⟩
 ·have e1 : prodN a b p = wrap64 (-wrap64 p) := if_neg (fun h => s2 (h.1 s1))
  have e2 : prodB a b p = decide (p ≤ 9223372036854775808) := if_neg (fun h => s2 (h.1 s1))
  rw [e1, e2]
  have k1 : decide (a < 0) = true := by simpa using s1
  have k2 : decide (b < 0) = false := by simpa using s2
  clear h0 h1 ha hb hq hp e1 e2
  go_enter Tryz.func142, Tryz.ntmps142
  go_wp2
  go_ret2
  exact ⟨rfl, rfl⟩
 ·have e1 : prodN a b p = wrap64 (-wrap64 p) := if_neg (fun h => s1 (h.2 s2))
  have e2 : prodB a b p = decide (p ≤ 9223372036854775808) := if_neg (fun h => s1 (h.2 s2))
  rw [e1, e2]
  have k1 : decide (a < 0) = false := by simpa using s1
  have k2 : decide (b < 0) = true := by simpa using s2
  clear h0 h1 ha hb hq hp e1 e2
  go_enter Tryz.func142, Tryz.ntmps142
  go_wp2
  go_ret2
  exact ⟨rfl, rfl⟩
 ·have e1 : prodN a b p = wrap64 p := if_pos ⟨fun h => absurd h s1, fun h => absurd h s2⟩
  have e2 : prodB a b p = decide (p < 9223372036854775808) := if_pos ⟨fun h => absurd h s1, fun h => absurd h s2⟩
  rw [e1, e2]
  have k1 : decide (a < 0) = false := by simpa using s1
  have k2 : decide (b < 0) = false := by simpa using s2
  clear h0 h1 ha hb hq hp e1 e2
  go_enter Tryz.func142, Tryz.ntmps142
  go_wp2
  go_ret2
  exact ⟨rfl, rfl⟩
/-- A product: whether 64 bits hold it, and then itself. -/
theorem product_any (a b : Int) (ha : In64 a) (hb : In64 b) : ∃ n, (In64 (a * b) → n = a * b) ∧ ∀ w : World,
  Calls Tryz.prog 142 #[.int .i64 a, .int .i64 b] w fun e w' => e = .returned (.tuple #[.int .i64 n, .bool (inB (a * b))]) ∧ w = w' := by
 by_cases h : a = 0 ∨ b = 0
 ·have e : a * b = 0 := by rcases h with rfl | rfl <;> simp
  rw [e]
  exact ⟨0, fun _ => rfl, fun w => product_zero a b h w⟩
 have h0 : a ≠ 0 := fun e => h (.inl e)
 have h1 : b ≠ 0 := fun e => h (.inr e)
 by_cases hq : 18446744073709551615 / absZ a < absZ b
 ·have hno : ¬ In64 (a * b) := by
   have p0 : 1 ≤ absZ a := by unfold absZ; split <;> omega
   have hgt : ¬ absZ b * absZ a ≤ 18446744073709551615 := fun h => by
    have := (Int.le_ediv_iff_mul_le (a := absZ b) (b := 18446744073709551615) (show 0 < absZ a by omega)).2 h
    omega
   rw [Int.mul_comm] at hgt
   unfold In64
   by_cases c : (a < 0 ↔ b < 0)
   ·rw [← mul_same c]; omega
   ·rw [← mul_other c]; omega
  rw [inB_no hno]
  exact ⟨0, fun h => absurd h hno, fun w => product_over a b ha hb h0 h1 hq w⟩
 ·have hp0 := (absZ_mul ha hb).1
  refine ⟨prodN a b (absZ a * absZ b), ?_, fun w => ?_⟩
  rotate_left
  ·have hB : inB (a * b) = prodB a b (absZ a * absZ b) := by
    unfold inB prodB
    by_cases c : (a < 0 ↔ b < 0)
    ·rw [if_pos c, ← mul_same c]; exact decide_eq_decide.2 (by omega)
    ·rw [if_neg c, ← mul_other c]; exact decide_eq_decide.2 (by omega)
   rw [hB]
   exact product_in a b _ ha hb h0 h1 rfl hq w
  ·intro hin
   unfold prodN
   unfold In64 at hin
   by_cases c : (a < 0 ↔ b < 0)
   ·rw [if_pos c]; rw [← mul_same c] at hin ⊢; exact IntWalk.wrap64_in _ hin
   ·rw [if_neg c]; rw [← mul_other c] at hin ⊢; unfold wrap64; omega
end Go.Proofs.YtclcabdekeegdaaGreat
/- From NumDoes2. -/
namespace Go.Proofs.YtclcabdekeegdaaGreat
open Go.ChangeShapes Go.WideShapes Go.ChangeAt Go.RowKit
theorem not_in0 (b : Int) : (65535 - lim b 0) % 4294967296 = lim (-b - 1) 0 := by
 have := lim_nonneg b 0; have := lim_le b 0; have := not_lim0 b
 omega
theorem not_in1 (b : Int) : (65535 - lim b 1) % 4294967296 = lim (-b - 1) 1 := by
 have := lim_nonneg b 1; have := lim_le b 1; have := not_lim1 b
 omega
theorem not_in2 (b : Int) : (65535 - lim b 2) % 4294967296 = lim (-b - 1) 2 := by
 have := lim_nonneg b 2; have := lim_le b 2; have := not_lim2 b
 omega
theorem not_in3 (b : Int) : (65535 - lim b 3) % 4294967296 = lim (-b - 1) 3 := by
 have := lim_nonneg b 3; have := lim_le b 3; have := not_lim3 b
 omega
theorem not_in4 (b : Int) : (65535 - lim b 4) % 4294967296 = lim (-b - 1) 4 := by
 have := lim_nonneg b 4; have := lim_le b 4; have := not_lim4 b
 omega
theorem not_in5 (b : Int) : (65535 - lim b 5) % 4294967296 = lim (-b - 1) 5 := by
 have := lim_nonneg b 5; have := lim_le b 5; have := not_lim5 b
 omega
theorem not_in6 (b : Int) : (65535 - lim b 6) % 4294967296 = lim (-b - 1) 6 := by
 have := lim_nonneg b 6; have := lim_le b 6; have := not_lim6 b
 omega
theorem not_in7 (b : Int) : (65535 - lim b 7) % 4294967296 = lim (-b - 1) 7 := by
 have := lim_nonneg b 7; have := lim_le b 7; have := not_lim7 b
 omega
theorem refdo_add_yes (a b : Int) (ha : In64 a) (hb : In64 b) (h : In64 (a + b)) (w : World) :
  Calls Tryz.prog 122 #[.int .i64 4, .int .i64 a, .int .i64 b] w fun e w' => e = .returned (.tuple #[.int .i64 (a + b), .int .i64 0]) ∧ Below w.heap.size w w' := by
 have R := Lib.hid (fun W => refint_any (a + b) (by unfold In64 at ha hb; exact in128_of (by omega) (by omega)) W)
 rw [wholeN_yes h, inB_yes h] at R
 clear h
 go_enter Tryz.func122, Tryz.ntmps122
 go_wp2_with fail
 refine (wide_any a ha _).mono ?_
 rintro e w1 ⟨rfl, hb1⟩
 go_wp2_with fail
 refine (wide_any b hb _).mono ?_
 rintro e w2 ⟨rfl, hb2⟩
 go_wp2_with fail
 refine (refboth_any a b _).mono ?_
 rintro e w3 ⟨rfl, hb3⟩
 go_wp2_with fail
 refine (R.out _).mono ?_
 rintro e w4 ⟨rfl, hb4⟩
 go_wp2
 go_ret2
 have s1 := hb1.size; have s2 := hb2.size; have s3 := hb3.size
 exact ⟨rfl, ((hb1.trans (hb2.mono (by omega))).trans (hb3.mono (by omega))).trans (hb4.mono (by omega))⟩
theorem refdo_add_no (a b : Int) (ha : In64 a) (hb : In64 b) (h : ¬ In64 (a + b)) (w : World) :
  Calls Tryz.prog 122 #[.int .i64 4, .int .i64 a, .int .i64 b] w fun e w' => e = .returned (.tuple #[.int .i64 0, .int .i64 10]) ∧ Below w.heap.size w w' := by
 have R := Lib.hid (fun W => refint_any (a + b) (by unfold In64 at ha hb; exact in128_of (by omega) (by omega)) W)
 rw [wholeN_no h, inB_no h] at R
 clear h
 go_enter Tryz.func122, Tryz.ntmps122
 go_wp2_with fail
 refine (wide_any a ha _).mono ?_
 rintro e w1 ⟨rfl, hb1⟩
 go_wp2_with fail
 refine (wide_any b hb _).mono ?_
 rintro e w2 ⟨rfl, hb2⟩
 go_wp2_with fail
 refine (refboth_any a b _).mono ?_
 rintro e w3 ⟨rfl, hb3⟩
 go_wp2_with fail
 refine (R.out _).mono ?_
 rintro e w4 ⟨rfl, hb4⟩
 go_wp2
 go_ret2
 have s1 := hb1.size; have s2 := hb2.size; have s3 := hb3.size
 exact ⟨rfl, ((hb1.trans (hb2.mono (by omega))).trans (hb3.mono (by omega))).trans (hb4.mono (by omega))⟩
set_option maxRecDepth 100000 in
set_option maxHeartbeats 4000000 in
theorem refdo_sub_yes (a b : Int) (ha : In64 a) (hb : In64 b) (h : In64 (a - b)) (w : World) :
  Calls Tryz.prog 122 #[.int .i64 5, .int .i64 a, .int .i64 b] w fun e w' => e = .returned (.tuple #[.int .i64 (a - b), .int .i64 0]) ∧ Below w.heap.size w w' := by
 have R := Lib.hid (fun W => refint_any (a - b) (by unfold In64 at ha hb; exact in128_of (by omega) (by omega)) W)
 rw [wholeN_yes h, inB_yes h] at R
 have E1 := Lib.hid (show a + (-b - 1) + 1 = a - b by omega)
 clear h
 have q0 := not_in0 b
 have q1 := not_in1 b
 have q2 := not_in2 b
 have q3 := not_in3 b
 have q4 := not_in4 b
 have q5 := not_in5 b
 have q6 := not_in6 b
 have q7 := not_in7 b
 go_enter Tryz.func122, Tryz.ntmps122
 go_wp2_with fail
 refine (wide_any b hb _).mono ?_
 rintro e w1 ⟨rfl, hb1⟩
 go_wp2_with fail
 refine (limbs_any b _).mono ?_
 rintro e w2 ⟨rfl, hb2⟩
 have B2 : Below w.heap.size w w2 := hb1.trans (hb2.mono hb1.size)
 have s2 := B2.size
 clear hb1 hb2
 go_wp2_with fail
 refine wp_loop_rounds 9 ?_
 iterate 9 (rw [rounds_succ]; go_wp2_with fail)
 go_region_held3 (fun w' => Below w.heap.size w w' ∧ w'.cell? ⟨w2.heap.size, 0, none⟩ = some (.int .u32 (lim (-b - 1) 0)) ∧ w'.cell? ⟨w2.heap.size, 1, none⟩ = some (.int .u32 (lim (-b - 1) 1)) ∧ w'.cell? ⟨w2.heap.size, 2, none⟩ = some (.int .u32 (lim (-b - 1) 2)) ∧ w'.cell? ⟨w2.heap.size, 3, none⟩ = some (.int .u32 (lim (-b - 1) 3)) ∧ w'.cell? ⟨w2.heap.size, 4, none⟩ = some (.int .u32 (lim (-b - 1) 4)) ∧ w'.cell? ⟨w2.heap.size, 5, none⟩ = some (.int .u32 (lim (-b - 1) 5)) ∧ w'.cell? ⟨w2.heap.size, 6, none⟩ = some (.int .u32 (lim (-b - 1) 6)) ∧ w'.cell? ⟨w2.heap.size, 7, none⟩ = some (.int .u32 (lim (-b - 1) 7)))
  (first | (go_split_ands; refine ⟨Below.trans ‹Below w.heap.size w _› (hb9.mono (Below.size ‹Below w.heap.size w _›)), cell_later hb9 ?_, cell_later hb9 ?_, cell_later hb9 ?_, cell_later hb9 ?_, cell_later hb9 ?_, cell_later hb9 ?_, cell_later hb9 ?_, cell_later hb9 ?_⟩ <;> assumption) | (refine ⟨(B2.alloc (by omega) _).drew, ?_, ?_, ?_, ?_, ?_, ?_, ?_, ?_⟩ <;> simp [go_sem]))
  ((first | (go_at_call 139; (with_reducible refine (wide_any a ha _).mono ?_); rintro e w4 ⟨rfl, hb9⟩) | (go_at_call 141; refine (of_limbs (-b - 1) _).mono ?_; rintro e w4 ⟨rfl, hb9⟩) | (go_at_call 138; (with_reducible refine (refboth_any a (-b - 1) _).mono ?_); rintro e w4 ⟨rfl, hb9⟩) | (go_at_call 139; (with_reducible refine (wide_any 1 (by unfold In64; omega) _).mono ?_); rintro e w4 ⟨rfl, hb9⟩) | (go_at_call 138; (with_reducible refine (refboth_any (a + (-b - 1)) 1 _).mono ?_); rw [E1.out]; rintro e w4 ⟨rfl, hb9⟩) | (go_at_call 137; refine (R.out _).mono ?_; rintro e w4 ⟨rfl, hb9⟩)))
 go_wp2
 go_ret2
 go_split_ands
 exact ⟨rfl, ‹Below w.heap.size w _›⟩
set_option maxRecDepth 100000 in
set_option maxHeartbeats 4000000 in
theorem refdo_sub_no (a b : Int) (ha : In64 a) (hb : In64 b) (h : ¬ In64 (a - b)) (w : World) :
  Calls Tryz.prog 122 #[.int .i64 5, .int .i64 a, .int .i64 b] w fun e w' => e = .returned (.tuple #[.int .i64 0, .int .i64 10]) ∧ Below w.heap.size w w' := by
 have R := Lib.hid (fun W => refint_any (a - b) (by unfold In64 at ha hb; exact in128_of (by omega) (by omega)) W)
 rw [wholeN_no h, inB_no h] at R
 have E1 := Lib.hid (show a + (-b - 1) + 1 = a - b by omega)
 clear h
 have q0 := not_in0 b
 have q1 := not_in1 b
 have q2 := not_in2 b
 have q3 := not_in3 b
 have q4 := not_in4 b
 have q5 := not_in5 b
 have q6 := not_in6 b
 have q7 := not_in7 b
 go_enter Tryz.func122, Tryz.ntmps122
 go_wp2_with fail
 refine (wide_any b hb _).mono ?_
 rintro e w1 ⟨rfl, hb1⟩
 go_wp2_with fail
 refine (limbs_any b _).mono ?_
 rintro e w2 ⟨rfl, hb2⟩
 have B2 : Below w.heap.size w w2 := hb1.trans (hb2.mono hb1.size)
 have s2 := B2.size
 clear hb1 hb2
 go_wp2_with fail
 refine wp_loop_rounds 9 ?_
 iterate 9 (rw [rounds_succ]; go_wp2_with fail)
 go_region_held3 (fun w' => Below w.heap.size w w' ∧ w'.cell? ⟨w2.heap.size, 0, none⟩ = some (.int .u32 (lim (-b - 1) 0)) ∧ w'.cell? ⟨w2.heap.size, 1, none⟩ = some (.int .u32 (lim (-b - 1) 1)) ∧ w'.cell? ⟨w2.heap.size, 2, none⟩ = some (.int .u32 (lim (-b - 1) 2)) ∧ w'.cell? ⟨w2.heap.size, 3, none⟩ = some (.int .u32 (lim (-b - 1) 3)) ∧ w'.cell? ⟨w2.heap.size, 4, none⟩ = some (.int .u32 (lim (-b - 1) 4)) ∧ w'.cell? ⟨w2.heap.size, 5, none⟩ = some (.int .u32 (lim (-b - 1) 5)) ∧ w'.cell? ⟨w2.heap.size, 6, none⟩ = some (.int .u32 (lim (-b - 1) 6)) ∧ w'.cell? ⟨w2.heap.size, 7, none⟩ = some (.int .u32 (lim (-b - 1) 7)))
  (first | (go_split_ands; refine ⟨Below.trans ‹Below w.heap.size w _› (hb9.mono (Below.size ‹Below w.heap.size w _›)), cell_later hb9 ?_, cell_later hb9 ?_, cell_later hb9 ?_, cell_later hb9 ?_, cell_later hb9 ?_, cell_later hb9 ?_, cell_later hb9 ?_, cell_later hb9 ?_⟩ <;> assumption) | (refine ⟨(B2.alloc (by omega) _).drew, ?_, ?_, ?_, ?_, ?_, ?_, ?_, ?_⟩ <;> simp [go_sem]))
  ((first | (go_at_call 139; (with_reducible refine (wide_any a ha _).mono ?_); rintro e w4 ⟨rfl, hb9⟩) | (go_at_call 141; refine (of_limbs (-b - 1) _).mono ?_; rintro e w4 ⟨rfl, hb9⟩) | (go_at_call 138; (with_reducible refine (refboth_any a (-b - 1) _).mono ?_); rintro e w4 ⟨rfl, hb9⟩) | (go_at_call 139; (with_reducible refine (wide_any 1 (by unfold In64; omega) _).mono ?_); rintro e w4 ⟨rfl, hb9⟩) | (go_at_call 138; (with_reducible refine (refboth_any (a + (-b - 1)) 1 _).mono ?_); rw [E1.out]; rintro e w4 ⟨rfl, hb9⟩) | (go_at_call 137; refine (R.out _).mono ?_; rintro e w4 ⟨rfl, hb9⟩)))
 go_wp2
 go_ret2
 go_split_ands
 exact ⟨rfl, ‹Below w.heap.size w _›⟩
end Go.Proofs.YtclcabdekeegdaaGreat
/- From NumDoes3. -/
namespace Go.Proofs.YtclcabdekeegdaaGreat
open Go.ChangeShapes Go.WideShapes Go.ChangeAt Go.RowKit
theorem refdo_mul_yes (a b : Int) (ha : In64 a) (hb : In64 b) (h : In64 (a * b)) (w : World) :
  Calls Tryz.prog 122 #[.int .i64 6, .int .i64 a, .int .i64 b] w fun e w' => e = .returned (.tuple #[.int .i64 (a * b), .int .i64 0]) ∧ w = w' := by
 obtain ⟨n, hn, hc⟩ := product_any a b ha hb
 obtain rfl := hn h
 have R := Lib.hid hc
 rw [inB_yes h] at R
 clear h hc
 go_enter Tryz.func122, Tryz.ntmps122
 go_wp2_with fail
 refine (R.out _).mono ?_
 rintro e w1 ⟨rfl, rfl⟩
 go_wp2
 go_ret2
 exact ⟨rfl, rfl⟩
theorem refdo_mul_no (a b : Int) (ha : In64 a) (hb : In64 b) (h : ¬ In64 (a * b)) (w : World) :
  Calls Tryz.prog 122 #[.int .i64 6, .int .i64 a, .int .i64 b] w fun e w' => e = .returned (.tuple #[.int .i64 0, .int .i64 10]) ∧ w = w' := by
 obtain ⟨n, hn, hc⟩ := product_any a b ha hb
 clear hn
 have R := Lib.hid hc
 rw [inB_no h] at R
 clear h hc
 go_enter Tryz.func122, Tryz.ntmps122
 go_wp2_with fail
 refine (R.out _).mono ?_
 rintro e w1 ⟨rfl, rfl⟩
 go_wp2
 go_ret2
 exact ⟨rfl, rfl⟩
theorem refdo_div0 (a : Int) (w : World) :
  Calls Tryz.prog 122 #[.int .i64 7, .int .i64 a, .int .i64 0] w fun e w' => e = .returned (.tuple #[.int .i64 0, .int .i64 11]) ∧ w = w' := by
 go_enter Tryz.func122, Tryz.ntmps122
 go_wp2
 go_ret2
 exact ⟨rfl, rfl⟩
theorem refdo_rem0 (a : Int) (w : World) :
  Calls Tryz.prog 122 #[.int .i64 8, .int .i64 a, .int .i64 0] w fun e w' => e = .returned (.tuple #[.int .i64 0, .int .i64 11]) ∧ w = w' := by
 go_enter Tryz.func122, Tryz.ntmps122
 go_wp2
 go_ret2
 exact ⟨rfl, rfl⟩
theorem refdo_rem1 (a : Int) (w : World) :
  Calls Tryz.prog 122 #[.int .i64 8, .int .i64 a, .int .i64 (-1)] w fun e w' => e = .returned (.tuple #[.int .i64 0, .int .i64 0]) ∧ w = w' := by
 go_enter Tryz.func122, Tryz.ntmps122
 go_wp2
 go_ret2
 exact ⟨rfl, rfl⟩
theorem refdo_divL (w : World) :
  Calls Tryz.prog 122 #[.int .i64 7, .int .i64 (-9223372036854775808), .int .i64 (-1)] w fun e w' => e = .returned (.tuple #[.int .i64 0, .int .i64 10]) ∧ w = w' := by
 go_enter Tryz.func122, Tryz.ntmps122
 go_wp2
 go_ret2
 exact ⟨rfl, rfl⟩
theorem refdo_div1 (a : Int) (ha : In64 a) (h : a ≠ -9223372036854775808) (w : World) :
  Calls Tryz.prog 122 #[.int .i64 7, .int .i64 a, .int .i64 (-1)] w fun e w' => e = .returned (.tuple #[.int .i64 (-a), .int .i64 0]) ∧ w = w' := by
 have hu : (IntKind.u64.wrap a == 9223372036854775808) = false := by
  rw [IntKind.wrap_u64, beq_eq_false_iff_ne]; unfold In64 at ha; omega
 have hi := IntWalk.i64_in (-a) (by unfold In64 at ha; omega)
 have h0 : -9223372036854775807 ≤ a := by unfold In64 at ha; omega
 have h1 : a ≤ 9223372036854775807 := ha.2
 clear ha h
 go_enter Tryz.func122, Tryz.ntmps122
 go_wp2
 go_ret2
 exact ⟨rfl, rfl⟩
theorem refdo_div (a b : Int) (ha : In64 a) (h0 : b ≠ 0) (h1 : b ≠ -1) (w : World) :
  Calls Tryz.prog 122 #[.int .i64 7, .int .i64 a, .int .i64 b] w fun e w' => e = .returned (.tuple #[.int .i64 (a.tdiv b), .int .i64 0]) ∧ w = w' := by
 have ht := tdiv_in (a := a) (b := b) ha (by omega)
 unfold In64 at ht
 have hi := IntWalk.i64_in _ ht
 obtain ⟨t0, t1⟩ := ht
 have g0 : (b == 0) = false := by simp [h0]
 have g1 : (b == -1) = false := by rw [beq_eq_false_iff_ne]; exact h1
 clear h1
 go_enter Tryz.func122, Tryz.ntmps122
 go_wp2
 go_ret2
 exact ⟨rfl, rfl⟩
theorem refdo_rem (a b : Int) (ha : In64 a) (h0 : b ≠ 0) (h1 : b ≠ -1) (w : World) :
  Calls Tryz.prog 122 #[.int .i64 8, .int .i64 a, .int .i64 b] w fun e w' => e = .returned (.tuple #[.int .i64 (a.tmod b), .int .i64 0]) ∧ w = w' := by
 have ht := tdiv_in (a := a) (b := b) ha (by omega)
 have hm := quo_mul_in (a := a) (b := b) ha
 have hr := tmod_in (b := b) ha
 have hqr := quo_rem a b
 unfold In64 at ht hm hr
 have hi := IntWalk.i64_in _ ht
 have hj := IntWalk.i64_in _ hm
 have he : a - a.tdiv b * b = a.tmod b := by omega
 have hk := IntWalk.i64_in _ hr
 obtain ⟨t0, t1⟩ := ht
 obtain ⟨m0, m1⟩ := hm
 obtain ⟨r0, r1⟩ := hr
 have g0 : (b == 0) = false := by simp [h0]
 have g1 : (b == -1) = false := by rw [beq_eq_false_iff_ne]; exact h1
 clear h1 hqr
 go_enter Tryz.func122, Tryz.ntmps122
 go_wp2
 go_ret2
 exact ⟨rfl, rfl⟩
theorem refdo_arg (op a b : Int) (h4 : op ≠ 4) (h5 : op ≠ 5) (h6 : op ≠ 6) (h7 : op ≠ 7) (h8 : op ≠ 8) (w : World) :
  Calls Tryz.prog 122 #[.int .i64 op, .int .i64 a, .int .i64 b] w fun e w' => e = .returned (.tuple #[.int .i64 0, .int .i64 2]) ∧ w = w' := by
 have g4 : (op == 4) = false := by simp [h4]
 have g5 : (op == 5) = false := by simp [h5]
 have g6 : (op == 6) = false := by simp [h6]
 have g7 : (op == 7) = false := by simp [h7]
 have g8 : (op == 8) = false := by simp [h8]
 clear h4 h5 h6 h7 h8
 go_enter Tryz.func122, Tryz.ntmps122
 go_wp2
 go_ret2
 exact ⟨rfl, rfl⟩
theorem refdo_any (op a b : Int) (ha : In64 a) (hb : In64 b) (w : World) :
  Calls Tryz.prog 122 #[.int .i64 op, .int .i64 a, .int .i64 b] w fun e w' => e = .returned (.tuple #[.int .i64 (doN op a b), .int .i64 (doE op a b)]) ∧ Below w.heap.size w w' := by
 by_cases h4 : op = 4
 ·subst h4
  by_cases h : In64 (a + b)
  ·exact (refdo_add_yes a b ha hb h w).mono fun e w' ⟨he, hw⟩ => ⟨by rw [he]; simp [doN, doE, wholeN_yes h, wholeE_yes h], hw⟩
  ·exact (refdo_add_no a b ha hb h w).mono fun e w' ⟨he, hw⟩ => ⟨by rw [he]; simp [doN, doE, wholeN_no h, wholeE_no h], hw⟩
 by_cases h5 : op = 5
 ·subst h5
  by_cases h : In64 (a - b)
  ·exact (refdo_sub_yes a b ha hb h w).mono fun e w' ⟨he, hw⟩ => ⟨by rw [he]; simp [doN, doE, wholeN_yes h, wholeE_yes h], hw⟩
  ·exact (refdo_sub_no a b ha hb h w).mono fun e w' ⟨he, hw⟩ => ⟨by rw [he]; simp [doN, doE, wholeN_no h, wholeE_no h], hw⟩
 by_cases h6 : op = 6
 ·subst h6
  by_cases h : In64 (a * b)
  ·exact (refdo_mul_yes a b ha hb h w).mono fun e w' ⟨he, hw⟩ => ⟨by rw [he]; simp [doN, doE, wholeN_yes h, wholeE_yes h], hw ▸ Below.refl _ _⟩
  ·exact (refdo_mul_no a b ha hb h w).mono fun e w' ⟨he, hw⟩ => ⟨by rw [he]; simp [doN, doE, wholeN_no h, wholeE_no h], hw ▸ Below.refl _ _⟩
 by_cases h7 : op = 7
 ·subst h7
  by_cases h0 : b = 0
  ·subst h0; exact (refdo_div0 a w).mono fun e w' ⟨h, hw⟩ => ⟨h, hw ▸ Below.refl _ _⟩
  by_cases h1 : b = -1
  ·subst h1
   by_cases hl : a = -9223372036854775808
   ·subst hl
    exact (refdo_divL w).mono fun e w' ⟨h, hw⟩ => ⟨by rw [h]; simp [doN, doE, wholeN, wholeE], hw ▸ Below.refl _ _⟩
   ·have ht : a.tdiv (-1) = -a := by rw [Int.tdiv_neg, Int.tdiv_one]
    have hin : In64 (-a) := by unfold In64 at *; omega
    exact (refdo_div1 a ha hl w).mono fun e w' ⟨h, hw⟩ => ⟨by rw [h]; simp [doN, doE, ht, wholeN_yes hin, wholeE_yes hin], hw ▸ Below.refl _ _⟩
  ·have ht := tdiv_in (a := a) (b := b) ha (by omega)
   exact (refdo_div a b ha h0 h1 w).mono fun e w' ⟨h, hw⟩ => ⟨by rw [h]; simp [doN, doE, h0, wholeN_yes ht, wholeE_yes ht], hw ▸ Below.refl _ _⟩
 by_cases h8 : op = 8
 ·subst h8
  by_cases h0 : b = 0
  ·subst h0; exact (refdo_rem0 a w).mono fun e w' ⟨h, hw⟩ => ⟨h, hw ▸ Below.refl _ _⟩
  by_cases h1 : b = -1
  ·subst h1
   have ht : a.tmod (-1) = 0 := by rw [Int.tmod_neg, Int.tmod_one]
   exact (refdo_rem1 a w).mono fun e w' ⟨h, hw⟩ => ⟨by rw [h]; simp [doN, doE, ht], hw ▸ Below.refl _ _⟩
  ·exact (refdo_rem a b ha h0 h1 w).mono fun e w' ⟨h, hw⟩ => ⟨by rw [h]; simp [doN, doE, h0], hw ▸ Below.refl _ _⟩
 exact (refdo_arg op a b h4 h5 h6 h7 h8 w).mono fun e w' ⟨h, hw⟩ => ⟨by rw [h]; simp [doN, doE, h4, h5, h6, h7, h8], hw ▸ Below.refl _ _⟩
end Go.Proofs.YtclcabdekeegdaaGreat
