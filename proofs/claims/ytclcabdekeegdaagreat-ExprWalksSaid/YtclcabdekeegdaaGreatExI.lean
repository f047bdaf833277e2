/- Layer 13: the law Forms, walked. -/
import Derived.Test.YtclcabdekeegdaaGreatExQ8
namespace Go.Proofs.YtclcabdekeegdaaGreat
open Go.ChangeShapes Go.WideShapes Go.ChangeAt Go.RowKit
set_option linter.unusedVariables false
set_option linter.unusedSimpArgs false
theorem far_forms {e : X} {cs : List C} {row : List V} (h : farX e cs row = false) : hugeX e = false := by
  unfold farX at h
  simp only [Bool.or_eq_false_iff] at h
  exact h.1.1
set_option maxHeartbeats 8000000 in
set_option maxRecDepth 40000 in
theorem forms_walk (e : X) (hwe : e.wf) (A : Option Addr) (c : Nat) (w : World) (hk : KidsAt w w.heap.size e A c) :
    Calls Tryz.prog 3 #[e.val A c] w fun en w' => en = .returned (.bool true) ∧ Below w.heap.size w w' := by
  obtain ⟨W1, hW1⟩ : ∃ W1, w.alloc (e.obj A c) = W1 := ⟨_, rfl⟩
  have hb1 : Below w.heap.size w W1 := by rw [← hW1]; exact (Below.refl _ _).alloc (Nat.le_refl _) _
  have hq1 : W1.heap[w.heap.size]? = some (e.obj A c) := by rw [← hW1]; exact obj_box _ _ _ _
  have HB1 := Lib.hid hb1
  have HQ := Lib.hid (fun (W : World) (hb : Below W1.heap.size W1 W) => show W.heap[w.heap.size]? = some (e.obj A c) from (hb.block _ (Array.getElem?_eq_some_iff.1 hq1).1).trans hq1)
  have HFA := Lib.hid (fun (W : World) (h : Below w.heap.size w W) => far_any e hwe [] (by simp) [] (by simp) A c none 0 none 0 W (by decide) (by decide) (KidsAt.more h.size (hk.below h)) (fun j hj => by simp at hj) (fun j hj => by simp at hj))
  have HC := Lib.hid (fun (W : World) (h : Below w.heap.size w W) => check_any_x e hwe A c W (KidsAt.more h.size (hk.below h)))
  have HRC := Lib.hid (fun (W : World) (h : Below w.heap.size w W) => rchk_any e hwe A c W (KidsAt.more h.size (hk.below h)))
  have HN := Lib.hid (fun (W : World) (h : Below w.heap.size w W) => nodes_any e A c W (KidsAt.more h.size (hk.below h)))
  have HRN := Lib.hid (fun (W : World) (h : Below w.heap.size w W) => rnodes_any e A c W (KidsAt.more h.size (hk.below h)))
  obtain ⟨fz, hfz⟩ : ∃ z, farX e [] [] = z := ⟨_, rfl⟩
  rw [hfz] at HFA
  unfold X.val at HFA HC HRC HN HRN ⊢
  simp only [List.length_nil] at HFA
  cases fz with
  | true =>
    clear hfz hk hq1 hb1
    unfold X.obj at hW1
    go_enter Tryz.func3, Tryz.ntmps3
    go_wp2_with (first
      | (go_at_call 10; refine (alive_any _).mono ?_; rintro en w2 ⟨rfl, hb2⟩; obtain ⟨p0, p1, p2, p3, p4, p5⟩ := obj_cells (HQ.out _ hb2); have HB2 := Lib.hid (hop0 HB1.out hb2); clear hb2)
      | (go_at_call 11; refine (HFA.out _ HB2.out).mono ?_; rintro en w3 ⟨rfl, hb3⟩; have HB3 := Lib.hid (hop0 HB2.out hb3); clear hb3))
    go_ret
    exact ⟨rfl, HB3.out⟩
  | false =>
    have hh := far_forms hfz
    rw [rcheck_eq hh] at HRC
    rw [(huge_not hh).1] at HRN
    obtain ⟨x, hx⟩ : ∃ x, checkX e = x := ⟨_, rfl⟩
    obtain ⟨y, hy⟩ : ∃ y : Int, ((min (cnt e) 257 : Nat) : Int) = y := ⟨_, rfl⟩
    rw [hx] at HC HRC
    rw [hy] at HN HRN
    clear hfz hk hq1 hb1 hx hy hh
    unfold X.obj at hW1
    go_enter Tryz.func3, Tryz.ntmps3
    go_wp2_with (first
      | (go_at_call 10; refine (alive_any _).mono ?_; rintro en w2 ⟨rfl, hb2⟩; obtain ⟨p0, p1, p2, p3, p4, p5⟩ := obj_cells (HQ.out _ hb2); have HQ2 := Lib.hid (HQ.out _ hb2); have HB2 := Lib.hid (hop0 HB1.out hb2); clear hb2)
      | (go_at_call 11; refine (HFA.out _ HB2.out).mono ?_; rintro en w3 ⟨rfl, hb3⟩; have HQ3 := Lib.hid ((hb3.block _ (lt_of_heap HQ2.out)).trans HQ2.out); have HB3 := Lib.hid (hop0 HB2.out hb3); clear hb3))
    have hS : Hid (w3.drew.heap[w.heap.size]? = some (e.obj A c)) ∧ Below w.heap.size w w3.drew := ⟨Lib.hid HQ3.out, HB3.out.drew⟩
    clear p0 p1 p2 p3 p4 p5 HFA HQ hW1
    refine held_begin 13 (fun W => Hid (W.heap[w.heap.size]? = some (e.obj A c)) ∧ Below w.heap.size w W) rfl (by kernel_rfl) ?_
    refine held_take (i := 0) (t := 7) (v := (.agg #[.int .i64 e.op, .string e.nm, .int .i64 e.v.k, .int .i64 e.v.n, .string e.v.s, .slice A e.ks.length c])) (fuel := 12) rfl rfl (by kernel_rfl) (by kernel_rfl) (by kernel_rfl) (fun _ _ _ h => h) (.inl ⟨rfl, fun W hW => by simp [execOp, Act.eval, go_sem, (obj_cells hW.1.out).1, (obj_cells hW.1.out).2.1, (obj_cells hW.1.out).2.2.1, (obj_cells hW.1.out).2.2.2.1, (obj_cells hW.1.out).2.2.2.2.1, (obj_cells hW.1.out).2.2.2.2.2]⟩) hS ?_
    simp only [List.setIfInBounds_toArray, List.set_cons_succ, List.set_cons_zero]
    refine held_take (i := 2) (t := 9) (v := (.agg #[.int .i64 e.op, .string e.nm, .int .i64 e.v.k, .int .i64 e.v.n, .string e.v.s, .slice A e.ks.length c])) (fuel := 11) rfl rfl (by kernel_rfl) (by kernel_rfl) (by kernel_rfl) (fun _ _ _ h => h) (.inl ⟨rfl, fun W hW => by simp [execOp, Act.eval, go_sem, (obj_cells hW.1.out).1, (obj_cells hW.1.out).2.1, (obj_cells hW.1.out).2.2.1, (obj_cells hW.1.out).2.2.2.1, (obj_cells hW.1.out).2.2.2.2.1, (obj_cells hW.1.out).2.2.2.2.2]⟩) hS ?_
    simp only [List.setIfInBounds_toArray, List.set_cons_succ, List.set_cons_zero]
    refine held_call (i := 1) rfl (by kernel_rfl) (by kernel_rfl) ?_
    simp [Oper.wp, execOp, Act.eval, Act.put, go_sem]
    refine (HC.out _ hS.2).mono ?_
    rintro en u5 ⟨rfl, hb⟩
    have hS := And.intro (Lib.hid ((hb.block _ (lt_of_heap hS.1.out)).trans hS.1.out)) (hop0 hS.2 hb)
    clear hb
    refine ⟨hS, ?_⟩
    try simp only [List.setIfInBounds_toArray, List.set_cons_succ, List.set_cons_zero]
    refine held_call (i := 3) rfl (by kernel_rfl) (by kernel_rfl) ?_
    simp [Oper.wp, execOp, Act.eval, Act.put, go_sem]
    refine (HRC.out _ hS.2).mono ?_
    rintro en u6 ⟨rfl, hb⟩
    have hS := And.intro (Lib.hid ((hb.block _ (lt_of_heap hS.1.out)).trans hS.1.out)) (hop0 hS.2 hb)
    clear hb
    refine ⟨hS, ?_⟩
    try simp only [List.setIfInBounds_toArray, List.set_cons_succ, List.set_cons_zero]
    refine held_take (i := 4) (t := 11) (v := (.bool true)) (fuel := 8) rfl rfl (by kernel_rfl) (by kernel_rfl) (by kernel_rfl) (fun _ _ _ h => h) (.inl ⟨rfl, fun W hW => by simp [execOp, Act.eval, go_sem]⟩) hS ?_
    simp only [List.setIfInBounds_toArray, List.set_cons_succ, List.set_cons_zero]
    refine held_take (i := 5) (t := 12) (v := (.bool true)) (fuel := 7) rfl rfl (by kernel_rfl) (by kernel_rfl) (by kernel_rfl) (fun _ _ _ h => h) (.inl ⟨rfl, fun W hW => by simp [execOp, Act.eval, go_sem]⟩) hS ?_
    simp only [List.setIfInBounds_toArray, List.set_cons_succ, List.set_cons_zero]
    refine held_take (i := 6) (t := 13) (v := (.agg #[.int .i64 e.op, .string e.nm, .int .i64 e.v.k, .int .i64 e.v.n, .string e.v.s, .slice A e.ks.length c])) (fuel := 6) rfl rfl (by kernel_rfl) (by kernel_rfl) (by kernel_rfl) (fun _ _ _ h => h) (.inl ⟨rfl, fun W hW => by simp [execOp, Act.eval, go_sem, (obj_cells hW.1.out).1, (obj_cells hW.1.out).2.1, (obj_cells hW.1.out).2.2.1, (obj_cells hW.1.out).2.2.2.1, (obj_cells hW.1.out).2.2.2.2.1, (obj_cells hW.1.out).2.2.2.2.2]⟩) hS ?_
    simp only [List.setIfInBounds_toArray, List.set_cons_succ, List.set_cons_zero]
    refine held_take (i := 8) (t := 15) (v := (.agg #[.int .i64 e.op, .string e.nm, .int .i64 e.v.k, .int .i64 e.v.n, .string e.v.s, .slice A e.ks.length c])) (fuel := 5) rfl rfl (by kernel_rfl) (by kernel_rfl) (by kernel_rfl) (fun _ _ _ h => h) (.inl ⟨rfl, fun W hW => by simp [execOp, Act.eval, go_sem, (obj_cells hW.1.out).1, (obj_cells hW.1.out).2.1, (obj_cells hW.1.out).2.2.1, (obj_cells hW.1.out).2.2.2.1, (obj_cells hW.1.out).2.2.2.2.1, (obj_cells hW.1.out).2.2.2.2.2]⟩) hS ?_
    simp only [List.setIfInBounds_toArray, List.set_cons_succ, List.set_cons_zero]
    refine held_call (i := 7) rfl (by kernel_rfl) (by kernel_rfl) ?_
    simp [Oper.wp, execOp, Act.eval, Act.put, go_sem]
    refine (HN.out _ hS.2).mono ?_
    rintro en u7 ⟨rfl, hb⟩
    have hS := And.intro (Lib.hid ((hb.block _ (lt_of_heap hS.1.out)).trans hS.1.out)) (hop0 hS.2 hb)
    clear hb
    refine ⟨hS, ?_⟩
    try simp only [List.setIfInBounds_toArray, List.set_cons_succ, List.set_cons_zero]
    refine held_call (i := 9) rfl (by kernel_rfl) (by kernel_rfl) ?_
    simp [Oper.wp, execOp, Act.eval, Act.put, go_sem]
    refine (HRN.out _ hS.2).mono ?_
    rintro en u8 ⟨rfl, hb⟩
    have hS := And.intro (Lib.hid ((hb.block _ (lt_of_heap hS.1.out)).trans hS.1.out)) (hop0 hS.2 hb)
    clear hb
    refine ⟨hS, ?_⟩
    try simp only [List.setIfInBounds_toArray, List.set_cons_succ, List.set_cons_zero]
    refine held_take (i := 10) (t := 17) (v := (.bool true)) (fuel := 2) rfl rfl (by kernel_rfl) (by kernel_rfl) (by kernel_rfl) (fun _ _ _ h => h) (.inl ⟨rfl, fun W hW => by simp [execOp, Act.eval, go_sem]⟩) hS ?_
    simp only [List.setIfInBounds_toArray, List.set_cons_succ, List.set_cons_zero]
    refine held_take (i := 11) (t := 18) (v := (.bool true)) (fuel := 1) rfl rfl (by kernel_rfl) (by kernel_rfl) (by kernel_rfl) (fun _ _ _ h => h) (.inl ⟨rfl, fun W hW => by simp [execOp, Act.eval, go_sem]⟩) hS ?_
    simp only [List.setIfInBounds_toArray, List.set_cons_succ, List.set_cons_zero]
    refine held_take (i := 12) (t := 2) (v := (.bool true)) (fuel := 0) rfl rfl (by kernel_rfl) (by kernel_rfl) (by kernel_rfl) (fun _ _ _ h => h) (.inl ⟨rfl, fun W hW => by simp [execOp, Act.eval, go_sem]⟩) hS ?_
    simp only [List.setIfInBounds_toArray, List.set_cons_succ, List.set_cons_zero]
    refine wpAnyH_done (by kernel_rfl) ?_ 0
    go_wp2
    go_ret
    exact ⟨rfl, hS.2⟩
end Go.Proofs.YtclcabdekeegdaaGreat
