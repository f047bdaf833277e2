/- Layer 15, walked: as values. -/
import Derived.Test.YtihgcfokenabgaaAgX3
import Derived.Test.YtihgcfokenabgaaAgX4
namespace Go.Proofs.Ytihgcfokenabgaa
open Go Go.ChangeShapes Go.WideShapes Go.ChangeAt Go.RowKit
set_option linter.unusedVariables false
set_option linter.unusedSimpArgs false
set_option maxHeartbeats 4000000 in
set_option maxRecDepth 100000 in
theorem apack_any (a : Ac) (w : World) :
    Calls Try.prog 19 #[a.V] w fun e w' => ∃ A c, e = .returned (.slice A 4 c) ∧ Row3 w' w'.heap.size A (packA a) ∧ Below w.heap.size w w' := by
  have HL := Lib.hid (fun W : World => row3_lit W (packA a) (by unfold maxLen; simp [packA]))
  obtain ⟨an, ax, ab⟩ := a
  have HI1 := Lib.hid (fun W => vint_any an W)
  have HI2 := Lib.hid (fun W => vint_any (hiZ ax) W)
  have HI3 := Lib.hid (fun W => vint_any (IntKind.i64.wrap (loZ ax)) W)
  unfold Ac.V
  obtain ⟨W1, hW1⟩ : ∃ W1, w.alloc (.cells #[.int .i64 an, .int .i64 (hiZ ax), .int .u64 (loZ ax), .int .i64 ab.k, .int .i64 ab.n, .string ab.s] 35) = W1 := ⟨_, rfl⟩
  have HQ : Hid (W1.heap[w.heap.size]? = some (.cells #[.int .i64 an, .int .i64 (hiZ ax), .int .u64 (loZ ax), .int .i64 ab.k, .int .i64 ab.n, .string ab.s] 35)) := Lib.hid (by rw [← hW1]; exact World.alloc_heap_new _ _)
  have HB0 : Hid (Below w.heap.size w W1) := Lib.hid (by rw [← hW1]; exact (Below.refl _ _).alloc (Nat.le_refl _) _)
  go_enter Try.func19, Try.ntmps19
  go_wp2
  obtain ⟨W2, hW2⟩ : ∃ W2, W1.drew = W2 := ⟨_, rfl⟩
  have hS : SA 35 w ⟨an, ax, ab⟩ W2 := by rw [← hW2]; exact (sa_of HQ.out).below ((Below.refl _ _).drew)
  have HB := Lib.hid (show Below w.heap.size w W2 by rw [← hW2]; exact HB0.out.drew)
  refine held_begin 16 (fun W => SA 35 w ⟨an, ax, ab⟩ W) rfl (by kernel_rfl) ?_
  rw [hW2]
  clear hW2
  refine held_take (i := 0) (t := 3) (v := (.pointer (some ⟨w.heap.size, 0, none⟩))) (fuel := 15) rfl rfl (by kernel_rfl) (by kernel_rfl) (by kernel_rfl) (fun _ _ _ h => h) (.inl ⟨rfl, fun W hW => by obtain ⟨s0, sa⟩ := hW; simp [execOp, Act.eval, go_sem, s0, sa]⟩) hS ?_
  simp only [List.setIfInBounds_toArray, List.set_cons_succ, List.set_cons_zero]
  refine held_take (i := 1) (t := 4) (v := (.int .i64 an)) (fuel := 14) rfl rfl (by kernel_rfl) (by kernel_rfl) (by kernel_rfl) (fun _ _ _ h => h) (.inl ⟨rfl, fun W hW => by obtain ⟨s0, sa⟩ := hW; simp [execOp, Act.eval, go_sem, s0, sa, sa.1]⟩) hS ?_
  simp only [List.setIfInBounds_toArray, List.set_cons_succ, List.set_cons_zero]
  refine held_take (i := 3) (t := 6) (v := (.pointer (some ⟨w.heap.size, 1, none⟩))) (fuel := 13) rfl rfl (by kernel_rfl) (by kernel_rfl) (by kernel_rfl) (fun _ _ _ h => h) (.inl ⟨rfl, fun W hW => by obtain ⟨s0, sa⟩ := hW; simp [execOp, Act.eval, go_sem, s0, sa]⟩) hS ?_
  simp only [List.setIfInBounds_toArray, List.set_cons_succ, List.set_cons_zero]
  refine held_take (i := 4) (t := 7) (v := (.pointer (some ⟨w.heap.size, 1, none⟩))) (fuel := 12) rfl rfl (by kernel_rfl) (by kernel_rfl) (by kernel_rfl) (fun _ _ _ h => h) (.inl ⟨rfl, fun W hW => by obtain ⟨s0, sa⟩ := hW; simp [execOp, Act.eval, go_sem, s0, sa]⟩) hS ?_
  simp only [List.setIfInBounds_toArray, List.set_cons_succ, List.set_cons_zero]
  refine held_take (i := 5) (t := 8) (v := (.int .i64 (hiZ ax))) (fuel := 11) rfl rfl (by kernel_rfl) (by kernel_rfl) (by kernel_rfl) (fun _ _ _ h => h) (.inl ⟨rfl, fun W hW => by obtain ⟨s0, sa⟩ := hW; simp [execOp, Act.eval, go_sem, s0, sa, sa.2.1]⟩) hS ?_
  simp only [List.setIfInBounds_toArray, List.set_cons_succ, List.set_cons_zero]
  refine held_take (i := 7) (t := 10) (v := (.pointer (some ⟨w.heap.size, 1, none⟩))) (fuel := 10) rfl rfl (by kernel_rfl) (by kernel_rfl) (by kernel_rfl) (fun _ _ _ h => h) (.inl ⟨rfl, fun W hW => by obtain ⟨s0, sa⟩ := hW; simp [execOp, Act.eval, go_sem, s0, sa]⟩) hS ?_
  simp only [List.setIfInBounds_toArray, List.set_cons_succ, List.set_cons_zero]
  refine held_take (i := 8) (t := 11) (v := (.pointer (some ⟨w.heap.size, 2, none⟩))) (fuel := 9) rfl rfl (by kernel_rfl) (by kernel_rfl) (by kernel_rfl) (fun _ _ _ h => h) (.inl ⟨rfl, fun W hW => by obtain ⟨s0, sa⟩ := hW; simp [execOp, Act.eval, go_sem, s0, sa]⟩) hS ?_
  simp only [List.setIfInBounds_toArray, List.set_cons_succ, List.set_cons_zero]
  refine held_take (i := 9) (t := 12) (v := (.int .u64 (loZ ax))) (fuel := 8) rfl rfl (by kernel_rfl) (by kernel_rfl) (by kernel_rfl) (fun _ _ _ h => h) (.inl ⟨rfl, fun W hW => by obtain ⟨s0, sa⟩ := hW; simp [execOp, Act.eval, go_sem, s0, sa, sa.2.2.1]⟩) hS ?_
  simp only [List.setIfInBounds_toArray, List.set_cons_succ, List.set_cons_zero]
  refine held_take (i := 10) (t := 13) (v := (.int .i64 (IntKind.i64.wrap (loZ ax)))) (fuel := 7) rfl rfl (by kernel_rfl) (by kernel_rfl) (by kernel_rfl) (fun _ _ _ h => h) (.inl ⟨rfl, fun W hW => by obtain ⟨s0, sa⟩ := hW; simp [execOp, Act.eval, go_sem, s0, sa]⟩) hS ?_
  simp only [List.setIfInBounds_toArray, List.set_cons_succ, List.set_cons_zero]
  refine held_take (i := 12) (t := 15) (v := (.pointer (some ⟨w.heap.size, 3, none⟩))) (fuel := 6) rfl rfl (by kernel_rfl) (by kernel_rfl) (by kernel_rfl) (fun _ _ _ h => h) (.inl ⟨rfl, fun W hW => by obtain ⟨s0, sa⟩ := hW; simp [execOp, Act.eval, go_sem, s0, sa]⟩) hS ?_
  simp only [List.setIfInBounds_toArray, List.set_cons_succ, List.set_cons_zero]
  refine held_take (i := 13) (t := 16) (v := (.agg #[.int .i64 ab.k, .int .i64 ab.n, .string ab.s])) (fuel := 5) rfl rfl (by kernel_rfl) (by kernel_rfl) (by kernel_rfl) (fun _ _ _ h => h) (.inl ⟨rfl, fun W hW => by obtain ⟨s0, sa⟩ := hW; simp [execOp, Act.eval, go_sem, s0, sa, sa.2.2.2.1, sa.2.2.2.2.1, sa.2.2.2.2.2]⟩) hS ?_
  simp only [List.setIfInBounds_toArray, List.set_cons_succ, List.set_cons_zero]
  -- 2 the operation, HI1 its contract
  refine held_call (i := 2) rfl (by kernel_rfl) (by kernel_rfl) ?_
  simp [Oper.wp, execOp, Act.eval, Act.put, go_sem]
  refine (HI1.out _).mono ?_
  rintro e w2 ⟨rfl, hb2⟩
  have hS2 := hS.below hb2
  replace HB := Lib.hid (hop1 HB.out hb2)
  refine ⟨hS2, ?_⟩
  clear hS hb2
  have hS := hS2
  clear hS2
  try simp only [List.setIfInBounds_toArray, List.set_cons_succ, List.set_cons_zero]
  -- 6 the operation, HI2 its contract
  refine held_call (i := 6) rfl (by kernel_rfl) (by kernel_rfl) ?_
  simp [Oper.wp, execOp, Act.eval, Act.put, go_sem]
  refine (HI2.out _).mono ?_
  rintro e w2 ⟨rfl, hb2⟩
  have hS2 := hS.below hb2
  replace HB := Lib.hid (hop1 HB.out hb2)
  refine ⟨hS2, ?_⟩
  clear hS hb2
  have hS := hS2
  clear hS2
  try simp only [List.setIfInBounds_toArray, List.set_cons_succ, List.set_cons_zero]
  -- 11 the operation, HI3 its contract
  refine held_call (i := 11) rfl (by kernel_rfl) (by kernel_rfl) ?_
  simp [Oper.wp, execOp, Act.eval, Act.put, go_sem]
  refine (HI3.out _).mono ?_
  rintro e w2 ⟨rfl, hb2⟩
  have hS2 := hS.below hb2
  replace HB := Lib.hid (hop1 HB.out hb2)
  refine ⟨hS2, ?_⟩
  clear hS hb2
  have hS := hS2
  clear hS2
  try simp only [List.setIfInBounds_toArray, List.set_cons_succ, List.set_cons_zero]
  refine held_call (i := 14) rfl (by kernel_rfl) (by kernel_rfl) ?_
  simp [Oper.wp, execOp, Act.eval, Act.put, go_sem]
  have hS2 := hS.below ((Below.refl _ _).alloc (Nat.le_refl _) (.cells #[.int .i64 1, .int .i64 an, .string ⟨#[]⟩, .int .i64 1, .int .i64 (hiZ ax), .string ⟨#[]⟩, .int .i64 1, .int .i64 (IntKind.i64.wrap (loZ ax)), .string ⟨#[]⟩, .int .i64 ab.k, .int .i64 ab.n, .string ab.s] 33))
  refine ⟨hS2, ?_⟩
  clear hS
  have hS := hS2
  clear hS2
  try simp only [List.setIfInBounds_toArray, List.set_cons_succ, List.set_cons_zero]
  refine held_take (i := 15) (t := 2) (v := (.slice (some ⟨w2.heap.size, 0, none⟩) 4 4)) (fuel := 0) rfl rfl (by kernel_rfl) (by kernel_rfl) (by kernel_rfl) (fun _ _ _ h => h) (.inl ⟨rfl, fun W hW => by obtain ⟨s0, sa⟩ := hW; simp [execOp, Act.eval, go_sem, s0, sa]⟩) hS ?_
  simp only [List.setIfInBounds_toArray, List.set_cons_succ, List.set_cons_zero]
  refine wpAnyH_done (by kernel_rfl) ?_ 0
  go_wp2
  go_ret
  refine ⟨some ⟨w2.heap.size, 0, none⟩, 4, by simp, ?_, HB.out.alloc HB.out.size _⟩
  have h := HL.out w2
  rw [World.size_alloc, wrap64_i64]
  exact h
end Go.Proofs.Ytihgcfokenabgaa
