/- Layer 13, walked: Same of the reference, of two that are the same. -/
import Derived.Test.YtclcabdekeegdaaGreatExZ3
namespace Go.Proofs.YtclcabdekeegdaaGreat
open Go Go.ChangeShapes Go.WideShapes Go.ChangeAt Go.RowKit
set_option linter.unusedVariables false
set_option linter.unusedSimpArgs false
set_option maxHeartbeats 8000000 in
set_option maxRecDepth 40000 in
theorem rsame_any : ∀ (e : X) (A : Option Addr) (c : Nat) (A2 : Option Addr) (c2 : Nat) (w : World), KidsAt w w.heap.size e A c → KidsAt w w.heap.size e A2 c2 → Calls Tryz.prog 24 #[e.val A c, e.val A2 c2] w fun en w' => en = .returned (.bool true) ∧ Below w.heap.size w w' := by
  refine X.ind ?_
  intro o nm v ks ih A c A2 c2 w hk hk2
  obtain ⟨W1, hW1⟩ : ∃ W1, (w.alloc ((X.mk o nm v ks).obj A c)).alloc ((X.mk o nm v ks).obj A2 c2) = W1 := ⟨_, rfl⟩
  have hb1 : Below w.heap.size w W1 := by rw [← hW1]; exact two_boxes _ _ _
  have hq1 : W1.heap[w.heap.size]? = some ((X.mk o nm v ks).obj A c) := by rw [← hW1]; exact (Below.heap_alloc _ _ _ (by simp)).trans (obj_box _ _ _ _)
  have hq2 : W1.heap[w.heap.size + 1]? = some ((X.mk o nm v ks).obj A2 c2) := by
    rw [← hW1]
    have := obj_box (w.alloc ((X.mk o nm v ks).obj A c)) (X.mk o nm v ks) A2 c2
    rwa [World.size_alloc] at this
  have HLM := Lib.hid (show ks.length ≤ 9223372036854775807 by have := hk.len; unfold maxLen at this; simp only [X.ks] at this; omega)
  have HIH := Lib.hid ih
  have HK := Lib.hid hk
  have HK2 := Lib.hid hk2
  have HQ := Lib.hid (And.intro hq1 hq2)
  have HB1 := Lib.hid hb1
  obtain ⟨p0, p1, p2, p3, p4, p5⟩ := obj_cells hq1
  obtain ⟨r0, r1, r2, r3, r4, r5⟩ := obj_cells hq2
  simp only [X.op, X.nm, X.v, X.ks] at p0 p1 p2 p3 p4 p5 r0 r1 r2 r3 r4 r5
  have hl1 := lt_of_heap hq1
  have hl2 := lt_of_heap hq2
  clear hk hk2 ih hb1 hq1 hq2
  unfold X.obj at hW1
  simp only [X.op, X.nm, X.v, X.ks] at hW1
  unfold X.val at HIH ⊢
  simp only [X.op, X.nm, X.v, X.ks]
  go_enter Tryz.func24, Tryz.ntmps24
  go_wp2
  clear p0 p1 p2 p3 p4 p5 r0 r1 r2 r3 r4 r5
  go_loopw [5] (fun iv wr => ∃ k : Nat, iv = .int .i64 k ∧ k ≤ ks.length ∧ Hid (Below W1.heap.size W1 wr)) (fun iv _ => ks.length - (intOf iv).toNat)
  case atStart => exact ⟨0, rfl, Nat.zero_le _, Lib.hid (Below.refl _ _)⟩
  case round =>
    obtain ⟨k, rfl, hk, HB⟩ := hrel
    have HBW := Lib.hid (hop0 HB1.out HB.out)
    obtain ⟨p0, p1, p2, p3, p4, p5⟩ := obj_cells ((HB.out.block _ hl1).trans HQ.out.1)
    obtain ⟨r0, r1, r2, r3, r4, r5⟩ := obj_cells ((HB.out.block _ hl2).trans HQ.out.2)
    simp only [X.op, X.nm, X.v, X.ks] at p0 p1 p2 p3 p4 p5 r0 r1 r2 r3 r4 r5
    have hl3 := Nat.lt_of_lt_of_le hl1 HB.out.size
    have hl4 := Nat.lt_of_lt_of_le hl2 HB.out.size
    by_cases hlt : k < ks.length
    · obtain ⟨b, off, B3, c3, rfl, hbB, hkk, k0, k1, k2, k3, k4, k5⟩ := KidsAt.at6m (HK.out.below HBW.out) k hlt
      obtain ⟨b', off', B4, c4, rfl, hbB', hkk', j0, j1, j2, j3, j4, j5⟩ := KidsAt.at6m (HK2.out.below HBW.out) k hlt
      have HIHk := Lib.hid (HIH.out ks[k] (List.getElem_mem hlt) B3 c3 B4 c4)
      obtain ⟨x, hx⟩ : ∃ x, ks[k] = x := ⟨_, rfl⟩
      rw [hx] at hkk hkk' k0 k1 k2 k3 k4 k5 j0 j1 j2 j3 j4 j5 HIHk
      have HX := Lib.hid (fun (U : World) (h : Below wr.heap.size wr U) => And.intro (KidsAt.more (Nat.le_trans HBW.out.size h.size) (hkk.below (h.mono HBW.out.size))) (KidsAt.more (Nat.le_trans HBW.out.size h.size) (hkk'.below (h.mono HBW.out.size))))
      have i1 : (0 : Int) ≤ (k : Int) := by omega
      have i2 : (k : Int) < (ks.length : Int) := by omega
      have i3 : k + 1 ≤ 9223372036854775807 := by have := HLM.out; omega
      clear hkk hkk' hx hbB hbB'
      go_wp2
      have hS : Below wr.heap.size wr wr.drew := (Below.refl _ _).drew
      refine held_begin 12 (fun W => Below wr.heap.size wr W) rfl (by kernel_rfl) ?_
      refine held_take (i := 0) (t := 41) (v := (.pointer (some ⟨w.heap.size, 5, none⟩))) (fuel := 11) rfl rfl (by kernel_rfl) (by kernel_rfl) (by kernel_rfl) (fun _ _ _ h => h) (.inl ⟨rfl, fun W hW => by simp [execOp, Act.eval, go_sem]⟩) hS ?_
      simp only [List.setIfInBounds_toArray, List.set_cons_succ, List.set_cons_zero]
      refine held_take (i := 1) (t := 42) (v := (.slice (some ⟨b, off, none⟩) ks.length c)) (fuel := 10) rfl rfl (by kernel_rfl) (by kernel_rfl) (by kernel_rfl) (fun _ _ _ h => h) (.inl ⟨rfl, fun W hW => by simp [execOp, Act.eval, go_sem, later_cell hW p5]⟩) hS ?_
      simp only [List.setIfInBounds_toArray, List.set_cons_succ, List.set_cons_zero]
      refine held_take (i := 2) (t := 43) (v := (.int .i64 (k : Int))) (fuel := 9) rfl rfl (by kernel_rfl) (by kernel_rfl) (by kernel_rfl) (fun _ _ _ h => h) (.inl ⟨rfl, fun W hW => by simp [execOp, Act.eval, go_sem]⟩) hS ?_
      simp only [List.setIfInBounds_toArray, List.set_cons_succ, List.set_cons_zero]
      refine held_take (i := 3) (t := 44) (v := (.pointer (some ⟨b, off + k * 6, none⟩))) (fuel := 8) rfl rfl (by kernel_rfl) (by kernel_rfl) (by kernel_rfl) (fun _ _ _ h => h) (.inl ⟨rfl, fun W hW => by simp [execOp, Act.eval, go_sem, i1, i2]⟩) hS ?_
      simp only [List.setIfInBounds_toArray, List.set_cons_succ, List.set_cons_zero]
      refine held_take (i := 4) (t := 45) (v := (.agg #[.int .i64 x.op, .string x.nm, .int .i64 x.v.k, .int .i64 x.v.n, .string x.v.s, .slice B3 x.ks.length c3])) (fuel := 7) rfl rfl (by kernel_rfl) (by kernel_rfl) (by kernel_rfl) (fun _ _ _ h => h) (.inl ⟨rfl, fun W hW => by simp [execOp, Act.eval, go_sem, later_cell hW k0, later_cell hW k1, later_cell hW k2, later_cell hW k3, later_cell hW k4, later_cell hW k5]⟩) hS ?_
      simp only [List.setIfInBounds_toArray, List.set_cons_succ, List.set_cons_zero]
      refine held_take (i := 5) (t := 46) (v := (.pointer (some ⟨w.heap.size + 1, 5, none⟩))) (fuel := 6) rfl rfl (by kernel_rfl) (by kernel_rfl) (by kernel_rfl) (fun _ _ _ h => h) (.inl ⟨rfl, fun W hW => by simp [execOp, Act.eval, go_sem]⟩) hS ?_
      simp only [List.setIfInBounds_toArray, List.set_cons_succ, List.set_cons_zero]
      refine held_take (i := 6) (t := 47) (v := (.slice (some ⟨b', off', none⟩) ks.length c2)) (fuel := 5) rfl rfl (by kernel_rfl) (by kernel_rfl) (by kernel_rfl) (fun _ _ _ h => h) (.inl ⟨rfl, fun W hW => by simp [execOp, Act.eval, go_sem, later_cell hW r5]⟩) hS ?_
      simp only [List.setIfInBounds_toArray, List.set_cons_succ, List.set_cons_zero]
      refine held_take (i := 7) (t := 48) (v := (.int .i64 (k : Int))) (fuel := 4) rfl rfl (by kernel_rfl) (by kernel_rfl) (by kernel_rfl) (fun _ _ _ h => h) (.inl ⟨rfl, fun W hW => by simp [execOp, Act.eval, go_sem]⟩) hS ?_
      simp only [List.setIfInBounds_toArray, List.set_cons_succ, List.set_cons_zero]
      refine held_take (i := 8) (t := 49) (v := (.pointer (some ⟨b', off' + k * 6, none⟩))) (fuel := 3) rfl rfl (by kernel_rfl) (by kernel_rfl) (by kernel_rfl) (fun _ _ _ h => h) (.inl ⟨rfl, fun W hW => by simp [execOp, Act.eval, go_sem, i1, i2]⟩) hS ?_
      simp only [List.setIfInBounds_toArray, List.set_cons_succ, List.set_cons_zero]
      refine held_take (i := 9) (t := 50) (v := (.agg #[.int .i64 x.op, .string x.nm, .int .i64 x.v.k, .int .i64 x.v.n, .string x.v.s, .slice B4 x.ks.length c4])) (fuel := 2) rfl rfl (by kernel_rfl) (by kernel_rfl) (by kernel_rfl) (fun _ _ _ h => h) (.inl ⟨rfl, fun W hW => by simp [execOp, Act.eval, go_sem, later_cell hW j0, later_cell hW j1, later_cell hW j2, later_cell hW j3, later_cell hW j4, later_cell hW j5]⟩) hS ?_
      simp only [List.setIfInBounds_toArray, List.set_cons_succ, List.set_cons_zero]
      refine held_call (i := 10) rfl (by kernel_rfl) (by kernel_rfl) ?_
      simp [Oper.wp, execOp, Act.eval, Act.put, go_sem]
      refine (HIHk.out _ (HX.out _ hS).1 (HX.out _ hS).2).mono ?_
      rintro en w4 ⟨rfl, hb4⟩
      have hS : Below wr.heap.size wr w4 := hop0 hS hb4
      refine ⟨hS, ?_⟩
      try simp only [List.setIfInBounds_toArray, List.set_cons_succ, List.set_cons_zero]
      refine held_take (i := 11) (t := 52) (v := (.bool false)) (fuel := 0) rfl rfl (by kernel_rfl) (by kernel_rfl) (by kernel_rfl) (fun _ _ _ h => h) (.inl ⟨rfl, fun W hW => by simp [execOp, Act.eval, go_sem]⟩) hS ?_
      simp only [List.setIfInBounds_toArray, List.set_cons_succ, List.set_cons_zero]
      refine wpAnyH_done (by kernel_rfl) ?_ 0
      have HN := Lib.hid (hop0 HB.out hS)
      clear hS hb4
      go_wp2
      go_roundw
      case rel => exact ⟨k + 1, by go_num, by omega, HN⟩
      case measure => simp [intOf]; omega
    · go_wp2
      go_ret
      exact ⟨rfl, HBW.out⟩
end Go.Proofs.YtclcabdekeegdaaGreat
