/- Layer 13, walked: form (the reference). -/
import Derived.Test.YtclcabdekeegdaaGreatExQ6
namespace Go.Proofs.YtclcabdekeegdaaGreat
open Go.ChangeShapes Go.WideShapes Go.ChangeAt Go.RowKit
set_option linter.unusedVariables false
set_option linter.unusedSimpArgs false
theorem formL_step {ks : List X} {k : Nat} (hk : k < ks.length) : formL (ks.drop k) = (formX ks[k] && formL (ks.drop (k + 1))) := by
  rw [List.drop_eq_getElem_cons hk, formL]
theorem formL_stop {ks : List X} {k : Nat} (h : ¬ k < ks.length) : formL (ks.drop k) = true := by
  rw [List.drop_eq_nil_of_le (by omega), formL]
theorem head_1 {n : ByteArray} {v : V} : headB 1 n v = (nameB n.data.toList && zeroV v) := by unfold headB; rw [if_pos rfl]
theorem head_2 {n : ByteArray} {v : V} : headB 2 n v = (decide (n.size = 0) && decide (v.k ≠ 0) && decide (chk v = 0)) := by unfold headB; rw [if_neg (by decide), if_pos rfl]
theorem head_3 {n : ByteArray} {v : V} : headB 3 n v = (decide (wordK n.data.toList ≠ 0) && zeroV v) := by unfold headB; rw [if_neg (by decide), if_neg (by decide), if_pos rfl]
theorem head_o {o : Int} {n : ByteArray} {v : V} (h1 : o ≠ 1) (h2 : o ≠ 2) (h3 : o ≠ 3) : headB o n v = (decide (n.size = 0) && zeroV v) := by unfold headB; rw [if_neg h1, if_neg h2, if_neg h3]
theorem zero_yes {k m : Int} {s : ByteArray} (h1 : k = 0) (h2 : m = 0) (h3 : s.size = 0) : zeroV ⟨k, m, s⟩ = true := by unfold zeroV; simp [h1, h2, h3]
theorem zero_no {k m : Int} {s : ByteArray} (h : k ≠ 0 ∨ m ≠ 0 ∨ s.size ≠ 0) : zeroV ⟨k, m, s⟩ = false := by
  unfold zeroV
  rcases h with h | h | h <;> simp [h]
set_option maxHeartbeats 16000000 in
set_option maxRecDepth 40000 in
theorem rform_any : ∀ (e : X), e.wf → ∀ (A : Option Addr) (c : Nat) (w : World), KidsAt w w.heap.size e A c →
    Calls Tryz.prog 37 #[e.val A c] w fun en w' => en = .returned (.bool (formX e)) ∧ Below w.heap.size w w' := by
  refine X.ind ?_
  intro o n v ks ih hwf A c w hk
  simp only [X.wf] at hwf
  obtain ⟨hw1, hw2, hw3, hw4⟩ := hwf
  obtain ⟨vk, vn, vs⟩ := v
  have HIH := Lib.hid (fun k hk => ih k hk (X.wfL_mem hw4 k hk))
  have HK := Lib.hid hk
  have HV := Lib.hid (rcheck_any ⟨vk, vn, vs⟩ hw3)
  have HN := Lib.hid (rname_any n hw2)
  obtain ⟨E, hE⟩ : ∃ E, Ending.returned (.bool (formX (.mk o n ⟨vk, vn, vs⟩ ks))) = E := ⟨_, rfl⟩
  rw [hE]
  have HE := Lib.hid hE
  obtain ⟨W1, hW1⟩ : ∃ W1, w.alloc ((X.mk o n ⟨vk, vn, vs⟩ ks).obj A c) = W1 := ⟨_, rfl⟩
  have HB1 := Lib.hid (show Below w.heap.size w W1 by rw [← hW1]; exact (Below.refl _ _).alloc (Nat.le_refl _) _)
  have HQ1 := Lib.hid (show W1.heap[w.heap.size]? = some ((X.mk o n ⟨vk, vn, vs⟩ ks).obj A c) by rw [← hW1]; exact obj_box _ _ _ _)
  have HC6 := Lib.hid (C6.of HQ1.out)
  obtain ⟨p0, p1, p2, p3, p4, p5⟩ := obj_cells HQ1.out
  simp only [X.op, X.nm, X.v, X.ks] at p0 p1 p2 p3 p4 p5
  have hlen := hk.len
  unfold maxLen at hlen
  simp only [X.ks] at hlen
  have HHEAD := Lib.hid (show headB o n ⟨vk, vn, vs⟩ = false → E = .returned (.bool false) from fun h => by rw [← HE.out, formX, h, Bool.and_false, Bool.false_and])
  clear hE hk ih hw1 hw3 hw4
  unfold X.obj at hW1
  unfold X.val
  unfold V.val at HV
  simp only [X.op, X.nm, X.v, X.ks] at hW1 ⊢
  dsimp only at HV
  by_cases hl : (ks.length : Int) = kidsN o
  · have q0 : ((ks.length : Int) != kidsN o) = false := by simpa using hl
    by_cases e1 : o = 1
    · subst e1
      rw [head_1] at HHEAD
      obtain ⟨y, hy⟩ : ∃ y, nameB n.data.toList = y := ⟨_, rfl⟩
      rw [hy] at HHEAD HN
      cases y with
      | false =>
        have HX := Lib.hid (HHEAD.out (by rfl))
        clear hl hy
        go_enter Tryz.func37, Tryz.ntmps37
        go_wp2_with fail
        try rw [hW1]
        have hS : Hid (C6 1 n ⟨vk, vn, vs⟩ ks.length A c w.heap.size W1.drew) ∧ Below w.heap.size w W1.drew := ⟨Lib.hid HC6.out, HB1.out.drew⟩
        refine held_begin 7 (fun W => Hid (C6 1 n ⟨vk, vn, vs⟩ ks.length A c w.heap.size W) ∧ Below w.heap.size w W) rfl (by kernel_rfl) ?_
        refine held_take (i := 0) (t := 4) (v := (.pointer (some ⟨w.heap.size, 5, none⟩))) (fuel := 6) rfl rfl (by kernel_rfl) (by kernel_rfl) (by kernel_rfl) (fun _ _ _ h => h) (.inl ⟨rfl, fun W hW => by simp [execOp, Act.eval, go_sem]⟩) hS ?_
        simp only [List.setIfInBounds_toArray, List.set_cons_succ, List.set_cons_zero]
        refine held_take (i := 1) (t := 5) (v := (.slice A ks.length c)) (fuel := 5) rfl rfl (by kernel_rfl) (by kernel_rfl) (by kernel_rfl) (fun _ _ _ h => h) (.inl ⟨rfl, fun W hW => by simp [execOp, Act.eval, go_sem, hW.1.out.2.2.2.2.2]⟩) hS ?_
        simp only [List.setIfInBounds_toArray, List.set_cons_succ, List.set_cons_zero]
        refine held_take (i := 2) (t := 6) (v := (.int .i64 (ks.length : Int))) (fuel := 4) rfl rfl (by kernel_rfl) (by kernel_rfl) (by kernel_rfl) (fun _ _ _ h => h) (.inl ⟨rfl, fun W hW => by simp [execOp, Act.eval, go_sem]⟩) hS ?_
        simp only [List.setIfInBounds_toArray, List.set_cons_succ, List.set_cons_zero]
        refine held_take (i := 3) (t := 7) (v := (.pointer (some ⟨w.heap.size, 0, none⟩))) (fuel := 3) rfl rfl (by kernel_rfl) (by kernel_rfl) (by kernel_rfl) (fun _ _ _ h => h) (.inl ⟨rfl, fun W hW => by simp [execOp, Act.eval, go_sem]⟩) hS ?_
        simp only [List.setIfInBounds_toArray, List.set_cons_succ, List.set_cons_zero]
        refine held_take (i := 4) (t := 8) (v := (.int .i64 1)) (fuel := 2) rfl rfl (by kernel_rfl) (by kernel_rfl) (by kernel_rfl) (fun _ _ _ h => h) (.inl ⟨rfl, fun W hW => by simp [execOp, Act.eval, go_sem, hW.1.out.1]⟩) hS ?_
        simp only [List.setIfInBounds_toArray, List.set_cons_succ, List.set_cons_zero]
        refine held_call (i := 5) rfl (by kernel_rfl) (by kernel_rfl) ?_
        simp [Oper.wp, execOp, Act.eval, Act.put, go_sem]
        refine (rkids_any 1 _).mono ?_
        rintro en w' ⟨rfl, rfl⟩
        refine ⟨hS, ?_⟩
        try simp only [List.setIfInBounds_toArray, List.set_cons_succ, List.set_cons_zero]
        refine held_take (i := 6) (t := 10) (v := (.bool false)) (fuel := 0) rfl rfl (by kernel_rfl) (by kernel_rfl) (by kernel_rfl) (fun _ _ _ h => h) (.inl ⟨rfl, fun W hW => by simp [execOp, Act.eval, go_sem, q0]⟩) hS ?_
        simp only [List.setIfInBounds_toArray, List.set_cons_succ, List.set_cons_zero]
        refine wpAnyH_done (by kernel_rfl) ?_ 0
        go_wp2_with (go_at_call 53; refine (HN.out _).mono ?_; rintro e w' ⟨rfl, rfl⟩)
        go_ret
        rw [HX.out]
        exact ⟨rfl, HB1.out.drew⟩
      | true =>
        have hn1 : ∀ v, headB 1 n v = zeroV v := fun v => by rw [head_1, hy]; rfl
        by_cases z1 : vk = 0
        · by_cases z2 : vn = 0
          · by_cases z3 : vs.size = 0
            · have hq : vs.toList = [] := by rw [toList_nil]; exact z3
              have hh : headB 1 n ⟨vk, vn, vs⟩ = true := by rw [hn1 _, zero_yes z1 z2 z3]
              have HALL := Lib.hid (show ∀ b, formL ks = b → E = .returned (.bool b) from fun b h => by rw [← HE.out, formX, hh, h, decide_eq_true hl]; rfl)
              clear hl z3 hh hn1
              subst z1 z2
              go_enter Tryz.func37, Tryz.ntmps37
              go_wp2_with fail
              try rw [hW1]
              have hS : Hid (C6 1 n ⟨0, 0, vs⟩ ks.length A c w.heap.size W1.drew) ∧ Below w.heap.size w W1.drew := ⟨Lib.hid HC6.out, HB1.out.drew⟩
              refine held_begin 7 (fun W => Hid (C6 1 n ⟨0, 0, vs⟩ ks.length A c w.heap.size W) ∧ Below w.heap.size w W) rfl (by kernel_rfl) ?_
              refine held_take (i := 0) (t := 4) (v := (.pointer (some ⟨w.heap.size, 5, none⟩))) (fuel := 6) rfl rfl (by kernel_rfl) (by kernel_rfl) (by kernel_rfl) (fun _ _ _ h => h) (.inl ⟨rfl, fun W hW => by simp [execOp, Act.eval, go_sem]⟩) hS ?_
              simp only [List.setIfInBounds_toArray, List.set_cons_succ, List.set_cons_zero]
              refine held_take (i := 1) (t := 5) (v := (.slice A ks.length c)) (fuel := 5) rfl rfl (by kernel_rfl) (by kernel_rfl) (by kernel_rfl) (fun _ _ _ h => h) (.inl ⟨rfl, fun W hW => by simp [execOp, Act.eval, go_sem, hW.1.out.2.2.2.2.2]⟩) hS ?_
              simp only [List.setIfInBounds_toArray, List.set_cons_succ, List.set_cons_zero]
              refine held_take (i := 2) (t := 6) (v := (.int .i64 (ks.length : Int))) (fuel := 4) rfl rfl (by kernel_rfl) (by kernel_rfl) (by kernel_rfl) (fun _ _ _ h => h) (.inl ⟨rfl, fun W hW => by simp [execOp, Act.eval, go_sem]⟩) hS ?_
              simp only [List.setIfInBounds_toArray, List.set_cons_succ, List.set_cons_zero]
              refine held_take (i := 3) (t := 7) (v := (.pointer (some ⟨w.heap.size, 0, none⟩))) (fuel := 3) rfl rfl (by kernel_rfl) (by kernel_rfl) (by kernel_rfl) (fun _ _ _ h => h) (.inl ⟨rfl, fun W hW => by simp [execOp, Act.eval, go_sem]⟩) hS ?_
              simp only [List.setIfInBounds_toArray, List.set_cons_succ, List.set_cons_zero]
              refine held_take (i := 4) (t := 8) (v := (.int .i64 1)) (fuel := 2) rfl rfl (by kernel_rfl) (by kernel_rfl) (by kernel_rfl) (fun _ _ _ h => h) (.inl ⟨rfl, fun W hW => by simp [execOp, Act.eval, go_sem, hW.1.out.1]⟩) hS ?_
              simp only [List.setIfInBounds_toArray, List.set_cons_succ, List.set_cons_zero]
              refine held_call (i := 5) rfl (by kernel_rfl) (by kernel_rfl) ?_
              simp [Oper.wp, execOp, Act.eval, Act.put, go_sem]
              refine (rkids_any 1 _).mono ?_
              rintro en w' ⟨rfl, rfl⟩
              refine ⟨hS, ?_⟩
              try simp only [List.setIfInBounds_toArray, List.set_cons_succ, List.set_cons_zero]
              refine held_take (i := 6) (t := 10) (v := (.bool false)) (fuel := 0) rfl rfl (by kernel_rfl) (by kernel_rfl) (by kernel_rfl) (fun _ _ _ h => h) (.inl ⟨rfl, fun W hW => by simp [execOp, Act.eval, go_sem, q0]⟩) hS ?_
              simp only [List.setIfInBounds_toArray, List.set_cons_succ, List.set_cons_zero]
              refine wpAnyH_done (by kernel_rfl) ?_ 0
              go_wp2_with ((go_at_call 53; refine (HN.out _).mono ?_; rintro e w' ⟨rfl, rfl⟩))
              go_loopw [3] (fun iv wr => ∃ (k : Nat), k ≤ ks.length ∧ iv = .int .i64 k ∧ Hid (formL (ks.drop k) = formL ks) ∧ Hid (wr.heap[w.heap.size]? = some ((X.mk 1 n ⟨0, 0, vs⟩ ks).obj A c)) ∧ Below w.heap.size w wr) (fun iv _ => ks.length - (intOf iv).toNat)
              case atStart => exact ⟨0, Nat.zero_le _, rfl, Lib.hid (by simp), Lib.hid HQ1.out, HB1.out.drew⟩
              case round =>
                obtain ⟨k, hkk, rfl, HSZ, HQ, hbel⟩ := hrel
                have HB := Lib.hid hbel
                obtain ⟨c0, c1, c2, c3, c4, c5⟩ := obj_cells HQ.out
                simp only [X.op, X.nm, X.v, X.ks] at c0 c1 c2 c3 c4 c5
                by_cases h : k < ks.length
                · obtain ⟨bb, off, A2, cc2, rfl, hbB, hk2, d0, d1, d2, d3, d4, d5⟩ := (HK.out.below hbel).at6m k h
                  have HS := Lib.hid (HSZ.out.symm.trans (formL_step h))
                  have HC := Lib.hid (HIH.out ks[k] (List.getElem_mem h) A2 cc2 wr (KidsAt.more hbel.size hk2))
                  obtain ⟨x, hx⟩ : ∃ x, ks[k] = x := ⟨_, rfl⟩
                  rw [hx] at hk2 d0 d1 d2 d3 d4 d5 HS HC
                  have hbw : bb < wr.heap.size := Nat.lt_of_lt_of_le hbB hbel.size
                  have i0 : (0 : Int) ≤ (k : Int) := by omega
                  have i1 : (k : Int) < (ks.length : Int) := by omega
                  obtain ⟨z, hz⟩ : ∃ z, formX x = z := ⟨_, rfl⟩
                  rw [hz] at HS HC
                  unfold X.val at HC
                  clear hx hz hk2 hbB h
                  cases z with
                  | false =>
                    have HT := Lib.hid (HALL.out false (by rw [HS.out]; rfl))
                    go_wp2_with (go_at_call 37; go_loud (refine HC.out.mono ?_; rintro e w2 ⟨rfl, hb2⟩; have HB2 := Lib.hid (hop0 HB.out hb2); clear hb2))
                    go_ret
                    rw [HT.out]
                    exact ⟨rfl, HB2.out⟩
                  | true =>
                    have HT := Lib.hid (show formL (ks.drop (k + 1)) = formL ks from by rw [HS.out]; rfl)
                    go_wp2_with (go_at_call 37; go_loud (refine HC.out.mono ?_; rintro e w2 ⟨rfl, hb2⟩; have HB2 := Lib.hid (hop0 HB.out hb2); have HQ2 := Lib.hid ((hb2.block _ (Array.getElem?_eq_some_iff.1 HQ.out).1).trans HQ.out); clear hb2))
                    go_roundw
                    case rel => exact ⟨k + 1, by omega, by go_num, HT, HQ2, HB2.out⟩
                    case measure => simp [intOf]; omega
                · have HF := Lib.hid (HALL.out true (HSZ.out.symm.trans (formL_stop h)))
                  have i1 : ¬ (k : Int) < (ks.length : Int) := by omega
                  clear h
                  go_wp2
                  go_ret
                  rw [HF.out]
                  exact ⟨rfl, HB.out⟩
            · have hq : ¬ vs.toList = [] := by rw [toList_nil]; exact z3
              have HX := Lib.hid (HHEAD.out (by have HZ := zero_no (k := vk) (m := vn) (.inr (.inr z3)); exact (by rw [HZ]; rfl)))
              clear hl z3 hn1
              subst z1 z2
              go_enter Tryz.func37, Tryz.ntmps37
              go_wp2_with fail
              try rw [hW1]
              have hS : Hid (C6 1 n ⟨0, 0, vs⟩ ks.length A c w.heap.size W1.drew) ∧ Below w.heap.size w W1.drew := ⟨Lib.hid HC6.out, HB1.out.drew⟩
              refine held_begin 7 (fun W => Hid (C6 1 n ⟨0, 0, vs⟩ ks.length A c w.heap.size W) ∧ Below w.heap.size w W) rfl (by kernel_rfl) ?_
              refine held_take (i := 0) (t := 4) (v := (.pointer (some ⟨w.heap.size, 5, none⟩))) (fuel := 6) rfl rfl (by kernel_rfl) (by kernel_rfl) (by kernel_rfl) (fun _ _ _ h => h) (.inl ⟨rfl, fun W hW => by simp [execOp, Act.eval, go_sem]⟩) hS ?_
              simp only [List.setIfInBounds_toArray, List.set_cons_succ, List.set_cons_zero]
              refine held_take (i := 1) (t := 5) (v := (.slice A ks.length c)) (fuel := 5) rfl rfl (by kernel_rfl) (by kernel_rfl) (by kernel_rfl) (fun _ _ _ h => h) (.inl ⟨rfl, fun W hW => by simp [execOp, Act.eval, go_sem, hW.1.out.2.2.2.2.2]⟩) hS ?_
              simp only [List.setIfInBounds_toArray, List.set_cons_succ, List.set_cons_zero]
              refine held_take (i := 2) (t := 6) (v := (.int .i64 (ks.length : Int))) (fuel := 4) rfl rfl (by kernel_rfl) (by kernel_rfl) (by kernel_rfl) (fun _ _ _ h => h) (.inl ⟨rfl, fun W hW => by simp [execOp, Act.eval, go_sem]⟩) hS ?_
              simp only [List.setIfInBounds_toArray, List.set_cons_succ, List.set_cons_zero]
              refine held_take (i := 3) (t := 7) (v := (.pointer (some ⟨w.heap.size, 0, none⟩))) (fuel := 3) rfl rfl (by kernel_rfl) (by kernel_rfl) (by kernel_rfl) (fun _ _ _ h => h) (.inl ⟨rfl, fun W hW => by simp [execOp, Act.eval, go_sem]⟩) hS ?_
              simp only [List.setIfInBounds_toArray, List.set_cons_succ, List.set_cons_zero]
              refine held_take (i := 4) (t := 8) (v := (.int .i64 1)) (fuel := 2) rfl rfl (by kernel_rfl) (by kernel_rfl) (by kernel_rfl) (fun _ _ _ h => h) (.inl ⟨rfl, fun W hW => by simp [execOp, Act.eval, go_sem, hW.1.out.1]⟩) hS ?_
              simp only [List.setIfInBounds_toArray, List.set_cons_succ, List.set_cons_zero]
              refine held_call (i := 5) rfl (by kernel_rfl) (by kernel_rfl) ?_
              simp [Oper.wp, execOp, Act.eval, Act.put, go_sem]
              refine (rkids_any 1 _).mono ?_
              rintro en w' ⟨rfl, rfl⟩
              refine ⟨hS, ?_⟩
              try simp only [List.setIfInBounds_toArray, List.set_cons_succ, List.set_cons_zero]
              refine held_take (i := 6) (t := 10) (v := (.bool false)) (fuel := 0) rfl rfl (by kernel_rfl) (by kernel_rfl) (by kernel_rfl) (fun _ _ _ h => h) (.inl ⟨rfl, fun W hW => by simp [execOp, Act.eval, go_sem, q0]⟩) hS ?_
              simp only [List.setIfInBounds_toArray, List.set_cons_succ, List.set_cons_zero]
              refine wpAnyH_done (by kernel_rfl) ?_ 0
              go_wp2_with ((go_at_call 53; refine (HN.out _).mono ?_; rintro e w' ⟨rfl, rfl⟩))
              go_ret
              rw [HX.out]
              exact ⟨rfl, HB1.out.drew⟩
          · have HX := Lib.hid (HHEAD.out (by have HZ := zero_no (k := vk) (m := vn) (s := vs) (.inr (.inl z2)); exact (by rw [HZ]; rfl)))
            clear hl hn1
            subst z1
            go_enter Tryz.func37, Tryz.ntmps37
            go_wp2_with fail
            try rw [hW1]
            have hS : Hid (C6 1 n ⟨0, vn, vs⟩ ks.length A c w.heap.size W1.drew) ∧ Below w.heap.size w W1.drew := ⟨Lib.hid HC6.out, HB1.out.drew⟩
            refine held_begin 7 (fun W => Hid (C6 1 n ⟨0, vn, vs⟩ ks.length A c w.heap.size W) ∧ Below w.heap.size w W) rfl (by kernel_rfl) ?_
            refine held_take (i := 0) (t := 4) (v := (.pointer (some ⟨w.heap.size, 5, none⟩))) (fuel := 6) rfl rfl (by kernel_rfl) (by kernel_rfl) (by kernel_rfl) (fun _ _ _ h => h) (.inl ⟨rfl, fun W hW => by simp [execOp, Act.eval, go_sem]⟩) hS ?_
            simp only [List.setIfInBounds_toArray, List.set_cons_succ, List.set_cons_zero]
            refine held_take (i := 1) (t := 5) (v := (.slice A ks.length c)) (fuel := 5) rfl rfl (by kernel_rfl) (by kernel_rfl) (by kernel_rfl) (fun _ _ _ h => h) (.inl ⟨rfl, fun W hW => by simp [execOp, Act.eval, go_sem, hW.1.out.2.2.2.2.2]⟩) hS ?_
            simp only [List.setIfInBounds_toArray, List.set_cons_succ, List.set_cons_zero]
            refine held_take (i := 2) (t := 6) (v := (.int .i64 (ks.length : Int))) (fuel := 4) rfl rfl (by kernel_rfl) (by kernel_rfl) (by kernel_rfl) (fun _ _ _ h => h) (.inl ⟨rfl, fun W hW => by simp [execOp, Act.eval, go_sem]⟩) hS ?_
            simp only [List.setIfInBounds_toArray, List.set_cons_succ, List.set_cons_zero]
            refine held_take (i := 3) (t := 7) (v := (.pointer (some ⟨w.heap.size, 0, none⟩))) (fuel := 3) rfl rfl (by kernel_rfl) (by kernel_rfl) (by kernel_rfl) (fun _ _ _ h => h) (.inl ⟨rfl, fun W hW => by simp [execOp, Act.eval, go_sem]⟩) hS ?_
            simp only [List.setIfInBounds_toArray, List.set_cons_succ, List.set_cons_zero]
            refine held_take (i := 4) (t := 8) (v := (.int .i64 1)) (fuel := 2) rfl rfl (by kernel_rfl) (by kernel_rfl) (by kernel_rfl) (fun _ _ _ h => h) (.inl ⟨rfl, fun W hW => by simp [execOp, Act.eval, go_sem, hW.1.out.1]⟩) hS ?_
            simp only [List.setIfInBounds_toArray, List.set_cons_succ, List.set_cons_zero]
            refine held_call (i := 5) rfl (by kernel_rfl) (by kernel_rfl) ?_
            simp [Oper.wp, execOp, Act.eval, Act.put, go_sem]
            refine (rkids_any 1 _).mono ?_
            rintro en w' ⟨rfl, rfl⟩
            refine ⟨hS, ?_⟩
            try simp only [List.setIfInBounds_toArray, List.set_cons_succ, List.set_cons_zero]
            refine held_take (i := 6) (t := 10) (v := (.bool false)) (fuel := 0) rfl rfl (by kernel_rfl) (by kernel_rfl) (by kernel_rfl) (fun _ _ _ h => h) (.inl ⟨rfl, fun W hW => by simp [execOp, Act.eval, go_sem, q0]⟩) hS ?_
            simp only [List.setIfInBounds_toArray, List.set_cons_succ, List.set_cons_zero]
            refine wpAnyH_done (by kernel_rfl) ?_ 0
            go_wp2_with ((go_at_call 53; refine (HN.out _).mono ?_; rintro e w' ⟨rfl, rfl⟩))
            go_ret
            rw [HX.out]
            exact ⟨rfl, HB1.out.drew⟩
        · have HX := Lib.hid (HHEAD.out (by have HZ := zero_no (k := vk) (m := vn) (s := vs) (.inl z1); exact (by rw [HZ]; rfl)))
          clear hl hn1
          go_enter Tryz.func37, Tryz.ntmps37
          go_wp2_with fail
          try rw [hW1]
          have hS : Hid (C6 1 n ⟨vk, vn, vs⟩ ks.length A c w.heap.size W1.drew) ∧ Below w.heap.size w W1.drew := ⟨Lib.hid HC6.out, HB1.out.drew⟩
          refine held_begin 7 (fun W => Hid (C6 1 n ⟨vk, vn, vs⟩ ks.length A c w.heap.size W) ∧ Below w.heap.size w W) rfl (by kernel_rfl) ?_
          refine held_take (i := 0) (t := 4) (v := (.pointer (some ⟨w.heap.size, 5, none⟩))) (fuel := 6) rfl rfl (by kernel_rfl) (by kernel_rfl) (by kernel_rfl) (fun _ _ _ h => h) (.inl ⟨rfl, fun W hW => by simp [execOp, Act.eval, go_sem]⟩) hS ?_
          simp only [List.setIfInBounds_toArray, List.set_cons_succ, List.set_cons_zero]
          refine held_take (i := 1) (t := 5) (v := (.slice A ks.length c)) (fuel := 5) rfl rfl (by kernel_rfl) (by kernel_rfl) (by kernel_rfl) (fun _ _ _ h => h) (.inl ⟨rfl, fun W hW => by simp [execOp, Act.eval, go_sem, hW.1.out.2.2.2.2.2]⟩) hS ?_
          simp only [List.setIfInBounds_toArray, List.set_cons_succ, List.set_cons_zero]
          refine held_take (i := 2) (t := 6) (v := (.int .i64 (ks.length : Int))) (fuel := 4) rfl rfl (by kernel_rfl) (by kernel_rfl) (by kernel_rfl) (fun _ _ _ h => h) (.inl ⟨rfl, fun W hW => by simp [execOp, Act.eval, go_sem]⟩) hS ?_
          simp only [List.setIfInBounds_toArray, List.set_cons_succ, List.set_cons_zero]
          refine held_take (i := 3) (t := 7) (v := (.pointer (some ⟨w.heap.size, 0, none⟩))) (fuel := 3) rfl rfl (by kernel_rfl) (by kernel_rfl) (by kernel_rfl) (fun _ _ _ h => h) (.inl ⟨rfl, fun W hW => by simp [execOp, Act.eval, go_sem]⟩) hS ?_
          simp only [List.setIfInBounds_toArray, List.set_cons_succ, List.set_cons_zero]
          refine held_take (i := 4) (t := 8) (v := (.int .i64 1)) (fuel := 2) rfl rfl (by kernel_rfl) (by kernel_rfl) (by kernel_rfl) (fun _ _ _ h => h) (.inl ⟨rfl, fun W hW => by simp [execOp, Act.eval, go_sem, hW.1.out.1]⟩) hS ?_
          simp only [List.setIfInBounds_toArray, List.set_cons_succ, List.set_cons_zero]
          refine held_call (i := 5) rfl (by kernel_rfl) (by kernel_rfl) ?_
          simp [Oper.wp, execOp, Act.eval, Act.put, go_sem]
          refine (rkids_any 1 _).mono ?_
          rintro en w' ⟨rfl, rfl⟩
          refine ⟨hS, ?_⟩
          try simp only [List.setIfInBounds_toArray, List.set_cons_succ, List.set_cons_zero]
          refine held_take (i := 6) (t := 10) (v := (.bool false)) (fuel := 0) rfl rfl (by kernel_rfl) (by kernel_rfl) (by kernel_rfl) (fun _ _ _ h => h) (.inl ⟨rfl, fun W hW => by simp [execOp, Act.eval, go_sem, q0]⟩) hS ?_
          simp only [List.setIfInBounds_toArray, List.set_cons_succ, List.set_cons_zero]
          refine wpAnyH_done (by kernel_rfl) ?_ 0
          go_wp2_with ((go_at_call 53; refine (HN.out _).mono ?_; rintro e w' ⟨rfl, rfl⟩))
          go_ret
          rw [HX.out]
          exact ⟨rfl, HB1.out.drew⟩
    · by_cases e2 : o = 2
      · subst e2
        clear e1
        rw [head_2] at HHEAD
        by_cases z0 : n.size = 0
        · have hq : n.toList = [] := by rw [toList_nil]; exact z0
          have hqe : n.toList.isEmpty = true := by rw [isEmpty_size]; exact decide_eq_true z0
          by_cases z1 : vk = 0
          · have HX := Lib.hid (HHEAD.out (by simp [z1]))
            clear hl z0
            subst z1
            go_enter Tryz.func37, Tryz.ntmps37
            go_wp2_with fail
            try rw [hW1]
            have hS : Hid (C6 2 n ⟨0, vn, vs⟩ ks.length A c w.heap.size W1.drew) ∧ Below w.heap.size w W1.drew := ⟨Lib.hid HC6.out, HB1.out.drew⟩
            refine held_begin 7 (fun W => Hid (C6 2 n ⟨0, vn, vs⟩ ks.length A c w.heap.size W) ∧ Below w.heap.size w W) rfl (by kernel_rfl) ?_
            refine held_take (i := 0) (t := 4) (v := (.pointer (some ⟨w.heap.size, 5, none⟩))) (fuel := 6) rfl rfl (by kernel_rfl) (by kernel_rfl) (by kernel_rfl) (fun _ _ _ h => h) (.inl ⟨rfl, fun W hW => by simp [execOp, Act.eval, go_sem]⟩) hS ?_
            simp only [List.setIfInBounds_toArray, List.set_cons_succ, List.set_cons_zero]
            refine held_take (i := 1) (t := 5) (v := (.slice A ks.length c)) (fuel := 5) rfl rfl (by kernel_rfl) (by kernel_rfl) (by kernel_rfl) (fun _ _ _ h => h) (.inl ⟨rfl, fun W hW => by simp [execOp, Act.eval, go_sem, hW.1.out.2.2.2.2.2]⟩) hS ?_
            simp only [List.setIfInBounds_toArray, List.set_cons_succ, List.set_cons_zero]
            refine held_take (i := 2) (t := 6) (v := (.int .i64 (ks.length : Int))) (fuel := 4) rfl rfl (by kernel_rfl) (by kernel_rfl) (by kernel_rfl) (fun _ _ _ h => h) (.inl ⟨rfl, fun W hW => by simp [execOp, Act.eval, go_sem]⟩) hS ?_
            simp only [List.setIfInBounds_toArray, List.set_cons_succ, List.set_cons_zero]
            refine held_take (i := 3) (t := 7) (v := (.pointer (some ⟨w.heap.size, 0, none⟩))) (fuel := 3) rfl rfl (by kernel_rfl) (by kernel_rfl) (by kernel_rfl) (fun _ _ _ h => h) (.inl ⟨rfl, fun W hW => by simp [execOp, Act.eval, go_sem]⟩) hS ?_
            simp only [List.setIfInBounds_toArray, List.set_cons_succ, List.set_cons_zero]
            refine held_take (i := 4) (t := 8) (v := (.int .i64 2)) (fuel := 2) rfl rfl (by kernel_rfl) (by kernel_rfl) (by kernel_rfl) (fun _ _ _ h => h) (.inl ⟨rfl, fun W hW => by simp [execOp, Act.eval, go_sem, hW.1.out.1]⟩) hS ?_
            simp only [List.setIfInBounds_toArray, List.set_cons_succ, List.set_cons_zero]
            refine held_call (i := 5) rfl (by kernel_rfl) (by kernel_rfl) ?_
            simp [Oper.wp, execOp, Act.eval, Act.put, go_sem]
            refine (rkids_any 2 _).mono ?_
            rintro en w' ⟨rfl, rfl⟩
            refine ⟨hS, ?_⟩
            try simp only [List.setIfInBounds_toArray, List.set_cons_succ, List.set_cons_zero]
            refine held_take (i := 6) (t := 10) (v := (.bool false)) (fuel := 0) rfl rfl (by kernel_rfl) (by kernel_rfl) (by kernel_rfl) (fun _ _ _ h => h) (.inl ⟨rfl, fun W hW => by simp [execOp, Act.eval, go_sem, q0]⟩) hS ?_
            simp only [List.setIfInBounds_toArray, List.set_cons_succ, List.set_cons_zero]
            refine wpAnyH_done (by kernel_rfl) ?_ 0
            go_wp2
            go_ret
            rw [HX.out]
            exact ⟨rfl, HB1.out.drew⟩
          · obtain ⟨x, hx⟩ : ∃ x, chk ⟨vk, vn, vs⟩ = x := ⟨_, rfl⟩
            by_cases z2 : x = 0
            · have hh : headB 2 n ⟨vk, vn, vs⟩ = true := by rw [head_2, decide_eq_true z0, decide_eq_true z1, decide_eq_true (hx.trans z2)]; rfl
              have HALL := Lib.hid (show ∀ b, formL ks = b → E = .returned (.bool b) from fun b h => by rw [← HE.out, formX, hh, h, decide_eq_true hl]; rfl)
              rw [hx, z2] at HV
              have q1 : (vk == 0) = false := by simpa using z1
              clear hl z0 hh hx z2 z1
              go_enter Tryz.func37, Tryz.ntmps37
              go_wp2_with fail
              try rw [hW1]
              have hS : Hid (C6 2 n ⟨vk, vn, vs⟩ ks.length A c w.heap.size W1.drew) ∧ Below w.heap.size w W1.drew := ⟨Lib.hid HC6.out, HB1.out.drew⟩
              refine held_begin 7 (fun W => Hid (C6 2 n ⟨vk, vn, vs⟩ ks.length A c w.heap.size W) ∧ Below w.heap.size w W) rfl (by kernel_rfl) ?_
              refine held_take (i := 0) (t := 4) (v := (.pointer (some ⟨w.heap.size, 5, none⟩))) (fuel := 6) rfl rfl (by kernel_rfl) (by kernel_rfl) (by kernel_rfl) (fun _ _ _ h => h) (.inl ⟨rfl, fun W hW => by simp [execOp, Act.eval, go_sem]⟩) hS ?_
              simp only [List.setIfInBounds_toArray, List.set_cons_succ, List.set_cons_zero]
              refine held_take (i := 1) (t := 5) (v := (.slice A ks.length c)) (fuel := 5) rfl rfl (by kernel_rfl) (by kernel_rfl) (by kernel_rfl) (fun _ _ _ h => h) (.inl ⟨rfl, fun W hW => by simp [execOp, Act.eval, go_sem, hW.1.out.2.2.2.2.2]⟩) hS ?_
              simp only [List.setIfInBounds_toArray, List.set_cons_succ, List.set_cons_zero]
              refine held_take (i := 2) (t := 6) (v := (.int .i64 (ks.length : Int))) (fuel := 4) rfl rfl (by kernel_rfl) (by kernel_rfl) (by kernel_rfl) (fun _ _ _ h => h) (.inl ⟨rfl, fun W hW => by simp [execOp, Act.eval, go_sem]⟩) hS ?_
              simp only [List.setIfInBounds_toArray, List.set_cons_succ, List.set_cons_zero]
              refine held_take (i := 3) (t := 7) (v := (.pointer (some ⟨w.heap.size, 0, none⟩))) (fuel := 3) rfl rfl (by kernel_rfl) (by kernel_rfl) (by kernel_rfl) (fun _ _ _ h => h) (.inl ⟨rfl, fun W hW => by simp [execOp, Act.eval, go_sem]⟩) hS ?_
              simp only [List.setIfInBounds_toArray, List.set_cons_succ, List.set_cons_zero]
              refine held_take (i := 4) (t := 8) (v := (.int .i64 2)) (fuel := 2) rfl rfl (by kernel_rfl) (by kernel_rfl) (by kernel_rfl) (fun _ _ _ h => h) (.inl ⟨rfl, fun W hW => by simp [execOp, Act.eval, go_sem, hW.1.out.1]⟩) hS ?_
              simp only [List.setIfInBounds_toArray, List.set_cons_succ, List.set_cons_zero]
              refine held_call (i := 5) rfl (by kernel_rfl) (by kernel_rfl) ?_
              simp [Oper.wp, execOp, Act.eval, Act.put, go_sem]
              refine (rkids_any 2 _).mono ?_
              rintro en w' ⟨rfl, rfl⟩
              refine ⟨hS, ?_⟩
              try simp only [List.setIfInBounds_toArray, List.set_cons_succ, List.set_cons_zero]
              refine held_take (i := 6) (t := 10) (v := (.bool false)) (fuel := 0) rfl rfl (by kernel_rfl) (by kernel_rfl) (by kernel_rfl) (fun _ _ _ h => h) (.inl ⟨rfl, fun W hW => by simp [execOp, Act.eval, go_sem, q0]⟩) hS ?_
              simp only [List.setIfInBounds_toArray, List.set_cons_succ, List.set_cons_zero]
              refine wpAnyH_done (by kernel_rfl) ?_ 0
              go_wp2_with (go_at_call 55; refine (HV.out _).mono ?_; rintro e w2 ⟨rfl, hb2⟩; have HB2 := Lib.hid (hop0 HB1.out.drew hb2); have HQ2 := Lib.hid ((hb2.block _ (lt_of_heap HQ1.out)).trans HQ1.out); clear hb2)
              go_loopw [3] (fun iv wr => ∃ (k : Nat), k ≤ ks.length ∧ iv = .int .i64 k ∧ Hid (formL (ks.drop k) = formL ks) ∧ Hid (wr.heap[w.heap.size]? = some ((X.mk 2 n ⟨vk, vn, vs⟩ ks).obj A c)) ∧ Below w.heap.size w wr) (fun iv _ => ks.length - (intOf iv).toNat)
              case atStart => exact ⟨0, Nat.zero_le _, rfl, Lib.hid (by simp), HQ2, HB2.out⟩
              case round =>
                obtain ⟨k, hkk, rfl, HSZ, HQ, hbel⟩ := hrel
                have HB := Lib.hid hbel
                obtain ⟨c0, c1, c2, c3, c4, c5⟩ := obj_cells HQ.out
                simp only [X.op, X.nm, X.v, X.ks] at c0 c1 c2 c3 c4 c5
                by_cases h : k < ks.length
                · obtain ⟨bb, off, A2, cc2, rfl, hbB, hk2, d0, d1, d2, d3, d4, d5⟩ := (HK.out.below hbel).at6m k h
                  have HS := Lib.hid (HSZ.out.symm.trans (formL_step h))
                  have HC := Lib.hid (HIH.out ks[k] (List.getElem_mem h) A2 cc2 wr (KidsAt.more hbel.size hk2))
                  obtain ⟨x, hx⟩ : ∃ x, ks[k] = x := ⟨_, rfl⟩
                  rw [hx] at hk2 d0 d1 d2 d3 d4 d5 HS HC
                  have hbw : bb < wr.heap.size := Nat.lt_of_lt_of_le hbB hbel.size
                  have i0 : (0 : Int) ≤ (k : Int) := by omega
                  have i1 : (k : Int) < (ks.length : Int) := by omega
                  obtain ⟨z, hz⟩ : ∃ z, formX x = z := ⟨_, rfl⟩
                  rw [hz] at HS HC
                  unfold X.val at HC
                  clear hx hz hk2 hbB h
                  cases z with
                  | false =>
                    have HT := Lib.hid (HALL.out false (by rw [HS.out]; rfl))
                    go_wp2_with (go_at_call 37; go_loud (refine HC.out.mono ?_; rintro e w2 ⟨rfl, hb2⟩; have HB2 := Lib.hid (hop0 HB.out hb2); clear hb2))
                    go_ret
                    rw [HT.out]
                    exact ⟨rfl, HB2.out⟩
                  | true =>
                    have HT := Lib.hid (show formL (ks.drop (k + 1)) = formL ks from by rw [HS.out]; rfl)
                    go_wp2_with (go_at_call 37; go_loud (refine HC.out.mono ?_; rintro e w2 ⟨rfl, hb2⟩; have HB2 := Lib.hid (hop0 HB.out hb2); have HQ2 := Lib.hid ((hb2.block _ (Array.getElem?_eq_some_iff.1 HQ.out).1).trans HQ.out); clear hb2))
                    go_roundw
                    case rel => exact ⟨k + 1, by omega, by go_num, HT, HQ2, HB2.out⟩
                    case measure => simp [intOf]; omega
                · have HF := Lib.hid (HALL.out true (HSZ.out.symm.trans (formL_stop h)))
                  have i1 : ¬ (k : Int) < (ks.length : Int) := by omega
                  clear h
                  go_wp2
                  go_ret
                  rw [HF.out]
                  exact ⟨rfl, HB.out⟩
            · have HX := Lib.hid (HHEAD.out (by rw [hx, decide_eq_false z2, Bool.and_false]))
              rw [hx] at HV
              have q1 : (vk == 0) = false := by simpa using z1
              have q2 : (x != 0) = true := by simpa using z2
              clear hl z0 hx z2 z1
              go_enter Tryz.func37, Tryz.ntmps37
              go_wp2_with fail
              try rw [hW1]
              have hS : Hid (C6 2 n ⟨vk, vn, vs⟩ ks.length A c w.heap.size W1.drew) ∧ Below w.heap.size w W1.drew := ⟨Lib.hid HC6.out, HB1.out.drew⟩
              refine held_begin 7 (fun W => Hid (C6 2 n ⟨vk, vn, vs⟩ ks.length A c w.heap.size W) ∧ Below w.heap.size w W) rfl (by kernel_rfl) ?_
              refine held_take (i := 0) (t := 4) (v := (.pointer (some ⟨w.heap.size, 5, none⟩))) (fuel := 6) rfl rfl (by kernel_rfl) (by kernel_rfl) (by kernel_rfl) (fun _ _ _ h => h) (.inl ⟨rfl, fun W hW => by simp [execOp, Act.eval, go_sem]⟩) hS ?_
              simp only [List.setIfInBounds_toArray, List.set_cons_succ, List.set_cons_zero]
              refine held_take (i := 1) (t := 5) (v := (.slice A ks.length c)) (fuel := 5) rfl rfl (by kernel_rfl) (by kernel_rfl) (by kernel_rfl) (fun _ _ _ h => h) (.inl ⟨rfl, fun W hW => by simp [execOp, Act.eval, go_sem, hW.1.out.2.2.2.2.2]⟩) hS ?_
              simp only [List.setIfInBounds_toArray, List.set_cons_succ, List.set_cons_zero]
              refine held_take (i := 2) (t := 6) (v := (.int .i64 (ks.length : Int))) (fuel := 4) rfl rfl (by kernel_rfl) (by kernel_rfl) (by kernel_rfl) (fun _ _ _ h => h) (.inl ⟨rfl, fun W hW => by simp [execOp, Act.eval, go_sem]⟩) hS ?_
              simp only [List.setIfInBounds_toArray, List.set_cons_succ, List.set_cons_zero]
              refine held_take (i := 3) (t := 7) (v := (.pointer (some ⟨w.heap.size, 0, none⟩))) (fuel := 3) rfl rfl (by kernel_rfl) (by kernel_rfl) (by kernel_rfl) (fun _ _ _ h => h) (.inl ⟨rfl, fun W hW => by simp [execOp, Act.eval, go_sem]⟩) hS ?_
              simp only [List.setIfInBounds_toArray, List.set_cons_succ, List.set_cons_zero]
              refine held_take (i := 4) (t := 8) (v := (.int .i64 2)) (fuel := 2) rfl rfl (by kernel_rfl) (by kernel_rfl) (by kernel_rfl) (fun _ _ _ h => h) (.inl ⟨rfl, fun W hW => by simp [execOp, Act.eval, go_sem, hW.1.out.1]⟩) hS ?_
              simp only [List.setIfInBounds_toArray, List.set_cons_succ, List.set_cons_zero]
              refine held_call (i := 5) rfl (by kernel_rfl) (by kernel_rfl) ?_
              simp [Oper.wp, execOp, Act.eval, Act.put, go_sem]
              refine (rkids_any 2 _).mono ?_
              rintro en w' ⟨rfl, rfl⟩
              refine ⟨hS, ?_⟩
              try simp only [List.setIfInBounds_toArray, List.set_cons_succ, List.set_cons_zero]
              refine held_take (i := 6) (t := 10) (v := (.bool false)) (fuel := 0) rfl rfl (by kernel_rfl) (by kernel_rfl) (by kernel_rfl) (fun _ _ _ h => h) (.inl ⟨rfl, fun W hW => by simp [execOp, Act.eval, go_sem, q0]⟩) hS ?_
              simp only [List.setIfInBounds_toArray, List.set_cons_succ, List.set_cons_zero]
              refine wpAnyH_done (by kernel_rfl) ?_ 0
              go_wp2_with (go_at_call 55; refine (HV.out _).mono ?_; rintro e w2 ⟨rfl, hb2⟩; have HB2 := Lib.hid (hop0 HB1.out.drew hb2); clear hb2)
              go_ret
              rw [HX.out]
              exact ⟨rfl, HB2.out⟩
        · have hq : ¬ n.toList = [] := by rw [toList_nil]; exact z0
          have hqe : n.toList.isEmpty = false := by rw [isEmpty_size]; exact decide_eq_false z0
          have HX := Lib.hid (HHEAD.out (by rw [decide_eq_false z0, Bool.false_and, Bool.false_and]))
          clear hl z0
          go_enter Tryz.func37, Tryz.ntmps37
          go_wp2_with fail
          try rw [hW1]
          have hS : Hid (C6 2 n ⟨vk, vn, vs⟩ ks.length A c w.heap.size W1.drew) ∧ Below w.heap.size w W1.drew := ⟨Lib.hid HC6.out, HB1.out.drew⟩
          refine held_begin 7 (fun W => Hid (C6 2 n ⟨vk, vn, vs⟩ ks.length A c w.heap.size W) ∧ Below w.heap.size w W) rfl (by kernel_rfl) ?_
          refine held_take (i := 0) (t := 4) (v := (.pointer (some ⟨w.heap.size, 5, none⟩))) (fuel := 6) rfl rfl (by kernel_rfl) (by kernel_rfl) (by kernel_rfl) (fun _ _ _ h => h) (.inl ⟨rfl, fun W hW => by simp [execOp, Act.eval, go_sem]⟩) hS ?_
          simp only [List.setIfInBounds_toArray, List.set_cons_succ, List.set_cons_zero]
          refine held_take (i := 1) (t := 5) (v := (.slice A ks.length c)) (fuel := 5) rfl rfl (by kernel_rfl) (by kernel_rfl) (by kernel_rfl) (fun _ _ _ h => h) (.inl ⟨rfl, fun W hW => by simp [execOp, Act.eval, go_sem, hW.1.out.2.2.2.2.2]⟩) hS ?_
          simp only [List.setIfInBounds_toArray, List.set_cons_succ, List.set_cons_zero]
          refine held_take (i := 2) (t := 6) (v := (.int .i64 (ks.length : Int))) (fuel := 4) rfl rfl (by kernel_rfl) (by kernel_rfl) (by kernel_rfl) (fun _ _ _ h => h) (.inl ⟨rfl, fun W hW => by simp [execOp, Act.eval, go_sem]⟩) hS ?_
          simp only [List.setIfInBounds_toArray, List.set_cons_succ, List.set_cons_zero]
          refine held_take (i := 3) (t := 7) (v := (.pointer (some ⟨w.heap.size, 0, none⟩))) (fuel := 3) rfl rfl (by kernel_rfl) (by kernel_rfl) (by kernel_rfl) (fun _ _ _ h => h) (.inl ⟨rfl, fun W hW => by simp [execOp, Act.eval, go_sem]⟩) hS ?_
          simp only [List.setIfInBounds_toArray, List.set_cons_succ, List.set_cons_zero]
          refine held_take (i := 4) (t := 8) (v := (.int .i64 2)) (fuel := 2) rfl rfl (by kernel_rfl) (by kernel_rfl) (by kernel_rfl) (fun _ _ _ h => h) (.inl ⟨rfl, fun W hW => by simp [execOp, Act.eval, go_sem, hW.1.out.1]⟩) hS ?_
          simp only [List.setIfInBounds_toArray, List.set_cons_succ, List.set_cons_zero]
          refine held_call (i := 5) rfl (by kernel_rfl) (by kernel_rfl) ?_
          simp [Oper.wp, execOp, Act.eval, Act.put, go_sem]
          refine (rkids_any 2 _).mono ?_
          rintro en w' ⟨rfl, rfl⟩
          refine ⟨hS, ?_⟩
          try simp only [List.setIfInBounds_toArray, List.set_cons_succ, List.set_cons_zero]
          refine held_take (i := 6) (t := 10) (v := (.bool false)) (fuel := 0) rfl rfl (by kernel_rfl) (by kernel_rfl) (by kernel_rfl) (fun _ _ _ h => h) (.inl ⟨rfl, fun W hW => by simp [execOp, Act.eval, go_sem, q0]⟩) hS ?_
          simp only [List.setIfInBounds_toArray, List.set_cons_succ, List.set_cons_zero]
          refine wpAnyH_done (by kernel_rfl) ?_ 0
          go_wp2
          go_ret
          rw [HX.out]
          exact ⟨rfl, HB1.out.drew⟩
      · by_cases e3 : o = 3
        · subst e3
          clear e1 e2
          rw [head_3] at HHEAD
          have HWD := Lib.hid (word_any n)
          obtain ⟨x, hx⟩ : ∃ x, wordK n.data.toList = x := ⟨_, rfl⟩
          rw [hx] at HWD
          by_cases z0 : x = 0
          · have HX := Lib.hid (HHEAD.out (by rw [hx]; simp [z0]))
            have q1 : (x == 0) = true := by simpa using z0
            clear hl z0 hx
            go_enter Tryz.func37, Tryz.ntmps37
            go_wp2_with fail
            try rw [hW1]
            have hS : Hid (C6 3 n ⟨vk, vn, vs⟩ ks.length A c w.heap.size W1.drew) ∧ Below w.heap.size w W1.drew := ⟨Lib.hid HC6.out, HB1.out.drew⟩
            refine held_begin 7 (fun W => Hid (C6 3 n ⟨vk, vn, vs⟩ ks.length A c w.heap.size W) ∧ Below w.heap.size w W) rfl (by kernel_rfl) ?_
            refine held_take (i := 0) (t := 4) (v := (.pointer (some ⟨w.heap.size, 5, none⟩))) (fuel := 6) rfl rfl (by kernel_rfl) (by kernel_rfl) (by kernel_rfl) (fun _ _ _ h => h) (.inl ⟨rfl, fun W hW => by simp [execOp, Act.eval, go_sem]⟩) hS ?_
            simp only [List.setIfInBounds_toArray, List.set_cons_succ, List.set_cons_zero]
            refine held_take (i := 1) (t := 5) (v := (.slice A ks.length c)) (fuel := 5) rfl rfl (by kernel_rfl) (by kernel_rfl) (by kernel_rfl) (fun _ _ _ h => h) (.inl ⟨rfl, fun W hW => by simp [execOp, Act.eval, go_sem, hW.1.out.2.2.2.2.2]⟩) hS ?_
            simp only [List.setIfInBounds_toArray, List.set_cons_succ, List.set_cons_zero]
            refine held_take (i := 2) (t := 6) (v := (.int .i64 (ks.length : Int))) (fuel := 4) rfl rfl (by kernel_rfl) (by kernel_rfl) (by kernel_rfl) (fun _ _ _ h => h) (.inl ⟨rfl, fun W hW => by simp [execOp, Act.eval, go_sem]⟩) hS ?_
            simp only [List.setIfInBounds_toArray, List.set_cons_succ, List.set_cons_zero]
            refine held_take (i := 3) (t := 7) (v := (.pointer (some ⟨w.heap.size, 0, none⟩))) (fuel := 3) rfl rfl (by kernel_rfl) (by kernel_rfl) (by kernel_rfl) (fun _ _ _ h => h) (.inl ⟨rfl, fun W hW => by simp [execOp, Act.eval, go_sem]⟩) hS ?_
            simp only [List.setIfInBounds_toArray, List.set_cons_succ, List.set_cons_zero]
            refine held_take (i := 4) (t := 8) (v := (.int .i64 3)) (fuel := 2) rfl rfl (by kernel_rfl) (by kernel_rfl) (by kernel_rfl) (fun _ _ _ h => h) (.inl ⟨rfl, fun W hW => by simp [execOp, Act.eval, go_sem, hW.1.out.1]⟩) hS ?_
            simp only [List.setIfInBounds_toArray, List.set_cons_succ, List.set_cons_zero]
            refine held_call (i := 5) rfl (by kernel_rfl) (by kernel_rfl) ?_
            simp [Oper.wp, execOp, Act.eval, Act.put, go_sem]
            refine (rkids_any 3 _).mono ?_
            rintro en w' ⟨rfl, rfl⟩
            refine ⟨hS, ?_⟩
            try simp only [List.setIfInBounds_toArray, List.set_cons_succ, List.set_cons_zero]
            refine held_take (i := 6) (t := 10) (v := (.bool false)) (fuel := 0) rfl rfl (by kernel_rfl) (by kernel_rfl) (by kernel_rfl) (fun _ _ _ h => h) (.inl ⟨rfl, fun W hW => by simp [execOp, Act.eval, go_sem, q0]⟩) hS ?_
            simp only [List.setIfInBounds_toArray, List.set_cons_succ, List.set_cons_zero]
            refine wpAnyH_done (by kernel_rfl) ?_ 0
            go_wp2_with (go_at_call 91; refine (HWD.out _).mono ?_; rintro e w' ⟨rfl, rfl⟩)
            go_ret
            rw [HX.out]
            exact ⟨rfl, HB1.out.drew⟩
          · have hn1 : ∀ v, headB 3 n v = zeroV v := fun v => by rw [head_3, hx, decide_eq_true z0]; rfl
            have q1 : (x == 0) = false := by simpa using z0
            clear z0
            by_cases z1 : vk = 0
            · by_cases z2 : vn = 0
              · by_cases z3 : vs.size = 0
                · have hq : vs.toList = [] := by rw [toList_nil]; exact z3
                  have hh : headB 3 n ⟨vk, vn, vs⟩ = true := by rw [hn1 _, zero_yes z1 z2 z3]
                  have HALL := Lib.hid (show ∀ b, formL ks = b → E = .returned (.bool b) from fun b h => by rw [← HE.out, formX, hh, h, decide_eq_true hl]; rfl)
                  clear hl z3 hh hn1
                  subst z1 z2
                  go_enter Tryz.func37, Tryz.ntmps37
                  go_wp2_with fail
                  try rw [hW1]
                  have hS : Hid (C6 3 n ⟨0, 0, vs⟩ ks.length A c w.heap.size W1.drew) ∧ Below w.heap.size w W1.drew := ⟨Lib.hid HC6.out, HB1.out.drew⟩
                  refine held_begin 7 (fun W => Hid (C6 3 n ⟨0, 0, vs⟩ ks.length A c w.heap.size W) ∧ Below w.heap.size w W) rfl (by kernel_rfl) ?_
                  refine held_take (i := 0) (t := 4) (v := (.pointer (some ⟨w.heap.size, 5, none⟩))) (fuel := 6) rfl rfl (by kernel_rfl) (by kernel_rfl) (by kernel_rfl) (fun _ _ _ h => h) (.inl ⟨rfl, fun W hW => by simp [execOp, Act.eval, go_sem]⟩) hS ?_
                  simp only [List.setIfInBounds_toArray, List.set_cons_succ, List.set_cons_zero]
                  refine held_take (i := 1) (t := 5) (v := (.slice A ks.length c)) (fuel := 5) rfl rfl (by kernel_rfl) (by kernel_rfl) (by kernel_rfl) (fun _ _ _ h => h) (.inl ⟨rfl, fun W hW => by simp [execOp, Act.eval, go_sem, hW.1.out.2.2.2.2.2]⟩) hS ?_
                  simp only [List.setIfInBounds_toArray, List.set_cons_succ, List.set_cons_zero]
                  refine held_take (i := 2) (t := 6) (v := (.int .i64 (ks.length : Int))) (fuel := 4) rfl rfl (by kernel_rfl) (by kernel_rfl) (by kernel_rfl) (fun _ _ _ h => h) (.inl ⟨rfl, fun W hW => by simp [execOp, Act.eval, go_sem]⟩) hS ?_
                  simp only [List.setIfInBounds_toArray, List.set_cons_succ, List.set_cons_zero]
                  refine held_take (i := 3) (t := 7) (v := (.pointer (some ⟨w.heap.size, 0, none⟩))) (fuel := 3) rfl rfl (by kernel_rfl) (by kernel_rfl) (by kernel_rfl) (fun _ _ _ h => h) (.inl ⟨rfl, fun W hW => by simp [execOp, Act.eval, go_sem]⟩) hS ?_
                  simp only [List.setIfInBounds_toArray, List.set_cons_succ, List.set_cons_zero]
                  refine held_take (i := 4) (t := 8) (v := (.int .i64 3)) (fuel := 2) rfl rfl (by kernel_rfl) (by kernel_rfl) (by kernel_rfl) (fun _ _ _ h => h) (.inl ⟨rfl, fun W hW => by simp [execOp, Act.eval, go_sem, hW.1.out.1]⟩) hS ?_
                  simp only [List.setIfInBounds_toArray, List.set_cons_succ, List.set_cons_zero]
                  refine held_call (i := 5) rfl (by kernel_rfl) (by kernel_rfl) ?_
                  simp [Oper.wp, execOp, Act.eval, Act.put, go_sem]
                  refine (rkids_any 3 _).mono ?_
                  rintro en w' ⟨rfl, rfl⟩
                  refine ⟨hS, ?_⟩
                  try simp only [List.setIfInBounds_toArray, List.set_cons_succ, List.set_cons_zero]
                  refine held_take (i := 6) (t := 10) (v := (.bool false)) (fuel := 0) rfl rfl (by kernel_rfl) (by kernel_rfl) (by kernel_rfl) (fun _ _ _ h => h) (.inl ⟨rfl, fun W hW => by simp [execOp, Act.eval, go_sem, q0]⟩) hS ?_
                  simp only [List.setIfInBounds_toArray, List.set_cons_succ, List.set_cons_zero]
                  refine wpAnyH_done (by kernel_rfl) ?_ 0
                  go_wp2_with ((go_at_call 91; refine (HWD.out _).mono ?_; rintro e w' ⟨rfl, rfl⟩))
                  go_loopw [3] (fun iv wr => ∃ (k : Nat), k ≤ ks.length ∧ iv = .int .i64 k ∧ Hid (formL (ks.drop k) = formL ks) ∧ Hid (wr.heap[w.heap.size]? = some ((X.mk 3 n ⟨0, 0, vs⟩ ks).obj A c)) ∧ Below w.heap.size w wr) (fun iv _ => ks.length - (intOf iv).toNat)
                  case atStart => exact ⟨0, Nat.zero_le _, rfl, Lib.hid (by simp), Lib.hid HQ1.out, HB1.out.drew⟩
                  case round =>
                    obtain ⟨k, hkk, rfl, HSZ, HQ, hbel⟩ := hrel
                    have HB := Lib.hid hbel
                    obtain ⟨c0, c1, c2, c3, c4, c5⟩ := obj_cells HQ.out
                    simp only [X.op, X.nm, X.v, X.ks] at c0 c1 c2 c3 c4 c5
                    by_cases h : k < ks.length
                    · obtain ⟨bb, off, A2, cc2, rfl, hbB, hk2, d0, d1, d2, d3, d4, d5⟩ := (HK.out.below hbel).at6m k h
                      have HS := Lib.hid (HSZ.out.symm.trans (formL_step h))
                      have HC := Lib.hid (HIH.out ks[k] (List.getElem_mem h) A2 cc2 wr (KidsAt.more hbel.size hk2))
                      obtain ⟨x, hx⟩ : ∃ x, ks[k] = x := ⟨_, rfl⟩
                      rw [hx] at hk2 d0 d1 d2 d3 d4 d5 HS HC
                      have hbw : bb < wr.heap.size := Nat.lt_of_lt_of_le hbB hbel.size
                      have i0 : (0 : Int) ≤ (k : Int) := by omega
                      have i1 : (k : Int) < (ks.length : Int) := by omega
                      obtain ⟨z, hz⟩ : ∃ z, formX x = z := ⟨_, rfl⟩
                      rw [hz] at HS HC
                      unfold X.val at HC
                      clear hx hz hk2 hbB h
                      cases z with
                      | false =>
                        have HT := Lib.hid (HALL.out false (by rw [HS.out]; rfl))
                        go_wp2_with (go_at_call 37; go_loud (refine HC.out.mono ?_; rintro e w2 ⟨rfl, hb2⟩; have HB2 := Lib.hid (hop0 HB.out hb2); clear hb2))
                        go_ret
                        rw [HT.out]
                        exact ⟨rfl, HB2.out⟩
                      | true =>
                        have HT := Lib.hid (show formL (ks.drop (k + 1)) = formL ks from by rw [HS.out]; rfl)
                        go_wp2_with (go_at_call 37; go_loud (refine HC.out.mono ?_; rintro e w2 ⟨rfl, hb2⟩; have HB2 := Lib.hid (hop0 HB.out hb2); have HQ2 := Lib.hid ((hb2.block _ (Array.getElem?_eq_some_iff.1 HQ.out).1).trans HQ.out); clear hb2))
                        go_roundw
                        case rel => exact ⟨k + 1, by omega, by go_num, HT, HQ2, HB2.out⟩
                        case measure => simp [intOf]; omega
                    · have HF := Lib.hid (HALL.out true (HSZ.out.symm.trans (formL_stop h)))
                      have i1 : ¬ (k : Int) < (ks.length : Int) := by omega
                      clear h
                      go_wp2
                      go_ret
                      rw [HF.out]
                      exact ⟨rfl, HB.out⟩
                · have hq : ¬ vs.toList = [] := by rw [toList_nil]; exact z3
                  have HX := Lib.hid (HHEAD.out (by have HZ := zero_no (k := vk) (m := vn) (.inr (.inr z3)); exact (by rw [HZ, Bool.and_false])))
                  clear hl z3 hn1
                  subst z1 z2
                  go_enter Tryz.func37, Tryz.ntmps37
                  go_wp2_with fail
                  try rw [hW1]
                  have hS : Hid (C6 3 n ⟨0, 0, vs⟩ ks.length A c w.heap.size W1.drew) ∧ Below w.heap.size w W1.drew := ⟨Lib.hid HC6.out, HB1.out.drew⟩
                  refine held_begin 7 (fun W => Hid (C6 3 n ⟨0, 0, vs⟩ ks.length A c w.heap.size W) ∧ Below w.heap.size w W) rfl (by kernel_rfl) ?_
                  refine held_take (i := 0) (t := 4) (v := (.pointer (some ⟨w.heap.size, 5, none⟩))) (fuel := 6) rfl rfl (by kernel_rfl) (by kernel_rfl) (by kernel_rfl) (fun _ _ _ h => h) (.inl ⟨rfl, fun W hW => by simp [execOp, Act.eval, go_sem]⟩) hS ?_
                  simp only [List.setIfInBounds_toArray, List.set_cons_succ, List.set_cons_zero]
                  refine held_take (i := 1) (t := 5) (v := (.slice A ks.length c)) (fuel := 5) rfl rfl (by kernel_rfl) (by kernel_rfl) (by kernel_rfl) (fun _ _ _ h => h) (.inl ⟨rfl, fun W hW => by simp [execOp, Act.eval, go_sem, hW.1.out.2.2.2.2.2]⟩) hS ?_
                  simp only [List.setIfInBounds_toArray, List.set_cons_succ, List.set_cons_zero]
                  refine held_take (i := 2) (t := 6) (v := (.int .i64 (ks.length : Int))) (fuel := 4) rfl rfl (by kernel_rfl) (by kernel_rfl) (by kernel_rfl) (fun _ _ _ h => h) (.inl ⟨rfl, fun W hW => by simp [execOp, Act.eval, go_sem]⟩) hS ?_
                  simp only [List.setIfInBounds_toArray, List.set_cons_succ, List.set_cons_zero]
                  refine held_take (i := 3) (t := 7) (v := (.pointer (some ⟨w.heap.size, 0, none⟩))) (fuel := 3) rfl rfl (by kernel_rfl) (by kernel_rfl) (by kernel_rfl) (fun _ _ _ h => h) (.inl ⟨rfl, fun W hW => by simp [execOp, Act.eval, go_sem]⟩) hS ?_
                  simp only [List.setIfInBounds_toArray, List.set_cons_succ, List.set_cons_zero]
                  refine held_take (i := 4) (t := 8) (v := (.int .i64 3)) (fuel := 2) rfl rfl (by kernel_rfl) (by kernel_rfl) (by kernel_rfl) (fun _ _ _ h => h) (.inl ⟨rfl, fun W hW => by simp [execOp, Act.eval, go_sem, hW.1.out.1]⟩) hS ?_
                  simp only [List.setIfInBounds_toArray, List.set_cons_succ, List.set_cons_zero]
                  refine held_call (i := 5) rfl (by kernel_rfl) (by kernel_rfl) ?_
                  simp [Oper.wp, execOp, Act.eval, Act.put, go_sem]
                  refine (rkids_any 3 _).mono ?_
                  rintro en w' ⟨rfl, rfl⟩
                  refine ⟨hS, ?_⟩
                  try simp only [List.setIfInBounds_toArray, List.set_cons_succ, List.set_cons_zero]
                  refine held_take (i := 6) (t := 10) (v := (.bool false)) (fuel := 0) rfl rfl (by kernel_rfl) (by kernel_rfl) (by kernel_rfl) (fun _ _ _ h => h) (.inl ⟨rfl, fun W hW => by simp [execOp, Act.eval, go_sem, q0]⟩) hS ?_
                  simp only [List.setIfInBounds_toArray, List.set_cons_succ, List.set_cons_zero]
                  refine wpAnyH_done (by kernel_rfl) ?_ 0
                  go_wp2_with ((go_at_call 91; refine (HWD.out _).mono ?_; rintro e w' ⟨rfl, rfl⟩))
                  go_ret
                  rw [HX.out]
                  exact ⟨rfl, HB1.out.drew⟩
              · have HX := Lib.hid (HHEAD.out (by have HZ := zero_no (k := vk) (m := vn) (s := vs) (.inr (.inl z2)); exact (by rw [HZ, Bool.and_false])))
                clear hl hn1
                subst z1
                go_enter Tryz.func37, Tryz.ntmps37
                go_wp2_with fail
                try rw [hW1]
                have hS : Hid (C6 3 n ⟨0, vn, vs⟩ ks.length A c w.heap.size W1.drew) ∧ Below w.heap.size w W1.drew := ⟨Lib.hid HC6.out, HB1.out.drew⟩
                refine held_begin 7 (fun W => Hid (C6 3 n ⟨0, vn, vs⟩ ks.length A c w.heap.size W) ∧ Below w.heap.size w W) rfl (by kernel_rfl) ?_
                refine held_take (i := 0) (t := 4) (v := (.pointer (some ⟨w.heap.size, 5, none⟩))) (fuel := 6) rfl rfl (by kernel_rfl) (by kernel_rfl) (by kernel_rfl) (fun _ _ _ h => h) (.inl ⟨rfl, fun W hW => by simp [execOp, Act.eval, go_sem]⟩) hS ?_
                simp only [List.setIfInBounds_toArray, List.set_cons_succ, List.set_cons_zero]
                refine held_take (i := 1) (t := 5) (v := (.slice A ks.length c)) (fuel := 5) rfl rfl (by kernel_rfl) (by kernel_rfl) (by kernel_rfl) (fun _ _ _ h => h) (.inl ⟨rfl, fun W hW => by simp [execOp, Act.eval, go_sem, hW.1.out.2.2.2.2.2]⟩) hS ?_
                simp only [List.setIfInBounds_toArray, List.set_cons_succ, List.set_cons_zero]
                refine held_take (i := 2) (t := 6) (v := (.int .i64 (ks.length : Int))) (fuel := 4) rfl rfl (by kernel_rfl) (by kernel_rfl) (by kernel_rfl) (fun _ _ _ h => h) (.inl ⟨rfl, fun W hW => by simp [execOp, Act.eval, go_sem]⟩) hS ?_
                simp only [List.setIfInBounds_toArray, List.set_cons_succ, List.set_cons_zero]
                refine held_take (i := 3) (t := 7) (v := (.pointer (some ⟨w.heap.size, 0, none⟩))) (fuel := 3) rfl rfl (by kernel_rfl) (by kernel_rfl) (by kernel_rfl) (fun _ _ _ h => h) (.inl ⟨rfl, fun W hW => by simp [execOp, Act.eval, go_sem]⟩) hS ?_
                simp only [List.setIfInBounds_toArray, List.set_cons_succ, List.set_cons_zero]
                refine held_take (i := 4) (t := 8) (v := (.int .i64 3)) (fuel := 2) rfl rfl (by kernel_rfl) (by kernel_rfl) (by kernel_rfl) (fun _ _ _ h => h) (.inl ⟨rfl, fun W hW => by simp [execOp, Act.eval, go_sem, hW.1.out.1]⟩) hS ?_
                simp only [List.setIfInBounds_toArray, List.set_cons_succ, List.set_cons_zero]
                refine held_call (i := 5) rfl (by kernel_rfl) (by kernel_rfl) ?_
                simp [Oper.wp, execOp, Act.eval, Act.put, go_sem]
                refine (rkids_any 3 _).mono ?_
                rintro en w' ⟨rfl, rfl⟩
                refine ⟨hS, ?_⟩
                try simp only [List.setIfInBounds_toArray, List.set_cons_succ, List.set_cons_zero]
                refine held_take (i := 6) (t := 10) (v := (.bool false)) (fuel := 0) rfl rfl (by kernel_rfl) (by kernel_rfl) (by kernel_rfl) (fun _ _ _ h => h) (.inl ⟨rfl, fun W hW => by simp [execOp, Act.eval, go_sem, q0]⟩) hS ?_
                simp only [List.setIfInBounds_toArray, List.set_cons_succ, List.set_cons_zero]
                refine wpAnyH_done (by kernel_rfl) ?_ 0
                go_wp2_with ((go_at_call 91; refine (HWD.out _).mono ?_; rintro e w' ⟨rfl, rfl⟩))
                go_ret
                rw [HX.out]
                exact ⟨rfl, HB1.out.drew⟩
            · have HX := Lib.hid (HHEAD.out (by have HZ := zero_no (k := vk) (m := vn) (s := vs) (.inl z1); exact (by rw [HZ, Bool.and_false])))
              clear hl hn1
              go_enter Tryz.func37, Tryz.ntmps37
              go_wp2_with fail
              try rw [hW1]
              have hS : Hid (C6 3 n ⟨vk, vn, vs⟩ ks.length A c w.heap.size W1.drew) ∧ Below w.heap.size w W1.drew := ⟨Lib.hid HC6.out, HB1.out.drew⟩
              refine held_begin 7 (fun W => Hid (C6 3 n ⟨vk, vn, vs⟩ ks.length A c w.heap.size W) ∧ Below w.heap.size w W) rfl (by kernel_rfl) ?_
              refine held_take (i := 0) (t := 4) (v := (.pointer (some ⟨w.heap.size, 5, none⟩))) (fuel := 6) rfl rfl (by kernel_rfl) (by kernel_rfl) (by kernel_rfl) (fun _ _ _ h => h) (.inl ⟨rfl, fun W hW => by simp [execOp, Act.eval, go_sem]⟩) hS ?_
              simp only [List.setIfInBounds_toArray, List.set_cons_succ, List.set_cons_zero]
              refine held_take (i := 1) (t := 5) (v := (.slice A ks.length c)) (fuel := 5) rfl rfl (by kernel_rfl) (by kernel_rfl) (by kernel_rfl) (fun _ _ _ h => h) (.inl ⟨rfl, fun W hW => by simp [execOp, Act.eval, go_sem, hW.1.out.2.2.2.2.2]⟩) hS ?_
              simp only [List.setIfInBounds_toArray, List.set_cons_succ, List.set_cons_zero]
              refine held_take (i := 2) (t := 6) (v := (.int .i64 (ks.length : Int))) (fuel := 4) rfl rfl (by kernel_rfl) (by kernel_rfl) (by kernel_rfl) (fun _ _ _ h => h) (.inl ⟨rfl, fun W hW => by simp [execOp, Act.eval, go_sem]⟩) hS ?_
              simp only [List.setIfInBounds_toArray, List.set_cons_succ, List.set_cons_zero]
              refine held_take (i := 3) (t := 7) (v := (.pointer (some ⟨w.heap.size, 0, none⟩))) (fuel := 3) rfl rfl (by kernel_rfl) (by kernel_rfl) (by kernel_rfl) (fun _ _ _ h => h) (.inl ⟨rfl, fun W hW => by simp [execOp, Act.eval, go_sem]⟩) hS ?_
              simp only [List.setIfInBounds_toArray, List.set_cons_succ, List.set_cons_zero]
              refine held_take (i := 4) (t := 8) (v := (.int .i64 3)) (fuel := 2) rfl rfl (by kernel_rfl) (by kernel_rfl) (by kernel_rfl) (fun _ _ _ h => h) (.inl ⟨rfl, fun W hW => by simp [execOp, Act.eval, go_sem, hW.1.out.1]⟩) hS ?_
              simp only [List.setIfInBounds_toArray, List.set_cons_succ, List.set_cons_zero]
              refine held_call (i := 5) rfl (by kernel_rfl) (by kernel_rfl) ?_
              simp [Oper.wp, execOp, Act.eval, Act.put, go_sem]
              refine (rkids_any 3 _).mono ?_
              rintro en w' ⟨rfl, rfl⟩
              refine ⟨hS, ?_⟩
              try simp only [List.setIfInBounds_toArray, List.set_cons_succ, List.set_cons_zero]
              refine held_take (i := 6) (t := 10) (v := (.bool false)) (fuel := 0) rfl rfl (by kernel_rfl) (by kernel_rfl) (by kernel_rfl) (fun _ _ _ h => h) (.inl ⟨rfl, fun W hW => by simp [execOp, Act.eval, go_sem, q0]⟩) hS ?_
              simp only [List.setIfInBounds_toArray, List.set_cons_succ, List.set_cons_zero]
              refine wpAnyH_done (by kernel_rfl) ?_ 0
              go_wp2_with ((go_at_call 91; refine (HWD.out _).mono ?_; rintro e w' ⟨rfl, rfl⟩))
              go_ret
              rw [HX.out]
              exact ⟨rfl, HB1.out.drew⟩
        · rw [head_o e1 e2 e3] at HHEAD
          have b1 : (o == 1) = false := by simpa using e1
          have b2 : (o == 2) = false := by simpa using e2
          have b3 : (o == 3) = false := by simpa using e3
          by_cases z0 : n.size = 0
          · have hqn : n.toList = [] := by rw [toList_nil]; exact z0
            have hqe : n.toList.isEmpty = true := by rw [isEmpty_size]; exact decide_eq_true z0
            have hn1 : ∀ v, headB o n v = zeroV v := fun v => by rw [head_o e1 e2 e3, decide_eq_true z0]; rfl
            clear e1 e2 e3 z0
            by_cases z1 : vk = 0
            · by_cases z2 : vn = 0
              · by_cases z3 : vs.size = 0
                · have hq : vs.toList = [] := by rw [toList_nil]; exact z3
                  have hh : headB o n ⟨vk, vn, vs⟩ = true := by rw [hn1 _, zero_yes z1 z2 z3]
                  have HALL := Lib.hid (show ∀ b, formL ks = b → E = .returned (.bool b) from fun b h => by rw [← HE.out, formX, hh, h, decide_eq_true hl]; rfl)
                  clear hl z3 hh hn1
                  subst z1 z2
                  go_enter Tryz.func37, Tryz.ntmps37
                  go_wp2_with fail
                  try rw [hW1]
                  have hS : Hid (C6 o n ⟨0, 0, vs⟩ ks.length A c w.heap.size W1.drew) ∧ Below w.heap.size w W1.drew := ⟨Lib.hid HC6.out, HB1.out.drew⟩
                  refine held_begin 7 (fun W => Hid (C6 o n ⟨0, 0, vs⟩ ks.length A c w.heap.size W) ∧ Below w.heap.size w W) rfl (by kernel_rfl) ?_
                  refine held_take (i := 0) (t := 4) (v := (.pointer (some ⟨w.heap.size, 5, none⟩))) (fuel := 6) rfl rfl (by kernel_rfl) (by kernel_rfl) (by kernel_rfl) (fun _ _ _ h => h) (.inl ⟨rfl, fun W hW => by simp [execOp, Act.eval, go_sem]⟩) hS ?_
                  simp only [List.setIfInBounds_toArray, List.set_cons_succ, List.set_cons_zero]
                  refine held_take (i := 1) (t := 5) (v := (.slice A ks.length c)) (fuel := 5) rfl rfl (by kernel_rfl) (by kernel_rfl) (by kernel_rfl) (fun _ _ _ h => h) (.inl ⟨rfl, fun W hW => by simp [execOp, Act.eval, go_sem, hW.1.out.2.2.2.2.2]⟩) hS ?_
                  simp only [List.setIfInBounds_toArray, List.set_cons_succ, List.set_cons_zero]
                  refine held_take (i := 2) (t := 6) (v := (.int .i64 (ks.length : Int))) (fuel := 4) rfl rfl (by kernel_rfl) (by kernel_rfl) (by kernel_rfl) (fun _ _ _ h => h) (.inl ⟨rfl, fun W hW => by simp [execOp, Act.eval, go_sem]⟩) hS ?_
                  simp only [List.setIfInBounds_toArray, List.set_cons_succ, List.set_cons_zero]
                  refine held_take (i := 3) (t := 7) (v := (.pointer (some ⟨w.heap.size, 0, none⟩))) (fuel := 3) rfl rfl (by kernel_rfl) (by kernel_rfl) (by kernel_rfl) (fun _ _ _ h => h) (.inl ⟨rfl, fun W hW => by simp [execOp, Act.eval, go_sem]⟩) hS ?_
                  simp only [List.setIfInBounds_toArray, List.set_cons_succ, List.set_cons_zero]
                  refine held_take (i := 4) (t := 8) (v := (.int .i64 o)) (fuel := 2) rfl rfl (by kernel_rfl) (by kernel_rfl) (by kernel_rfl) (fun _ _ _ h => h) (.inl ⟨rfl, fun W hW => by simp [execOp, Act.eval, go_sem, hW.1.out.1]⟩) hS ?_
                  simp only [List.setIfInBounds_toArray, List.set_cons_succ, List.set_cons_zero]
                  refine held_call (i := 5) rfl (by kernel_rfl) (by kernel_rfl) ?_
                  simp [Oper.wp, execOp, Act.eval, Act.put, go_sem]
                  refine (rkids_any o _).mono ?_
                  rintro en w' ⟨rfl, rfl⟩
                  refine ⟨hS, ?_⟩
                  try simp only [List.setIfInBounds_toArray, List.set_cons_succ, List.set_cons_zero]
                  refine held_take (i := 6) (t := 10) (v := (.bool false)) (fuel := 0) rfl rfl (by kernel_rfl) (by kernel_rfl) (by kernel_rfl) (fun _ _ _ h => h) (.inl ⟨rfl, fun W hW => by simp [execOp, Act.eval, go_sem, q0]⟩) hS ?_
                  simp only [List.setIfInBounds_toArray, List.set_cons_succ, List.set_cons_zero]
                  refine wpAnyH_done (by kernel_rfl) ?_ 0
                  go_wp2_with (fail)
                  go_loopw [3] (fun iv wr => ∃ (k : Nat), k ≤ ks.length ∧ iv = .int .i64 k ∧ Hid (formL (ks.drop k) = formL ks) ∧ Hid (wr.heap[w.heap.size]? = some ((X.mk o n ⟨0, 0, vs⟩ ks).obj A c)) ∧ Below w.heap.size w wr) (fun iv _ => ks.length - (intOf iv).toNat)
                  case atStart => exact ⟨0, Nat.zero_le _, rfl, Lib.hid (by simp), Lib.hid HQ1.out, HB1.out.drew⟩
                  case round =>
                    obtain ⟨k, hkk, rfl, HSZ, HQ, hbel⟩ := hrel
                    have HB := Lib.hid hbel
                    obtain ⟨c0, c1, c2, c3, c4, c5⟩ := obj_cells HQ.out
                    simp only [X.op, X.nm, X.v, X.ks] at c0 c1 c2 c3 c4 c5
                    by_cases h : k < ks.length
                    · obtain ⟨bb, off, A2, cc2, rfl, hbB, hk2, d0, d1, d2, d3, d4, d5⟩ := (HK.out.below hbel).at6m k h
                      have HS := Lib.hid (HSZ.out.symm.trans (formL_step h))
                      have HC := Lib.hid (HIH.out ks[k] (List.getElem_mem h) A2 cc2 wr (KidsAt.more hbel.size hk2))
                      obtain ⟨x, hx⟩ : ∃ x, ks[k] = x := ⟨_, rfl⟩
                      rw [hx] at hk2 d0 d1 d2 d3 d4 d5 HS HC
                      have hbw : bb < wr.heap.size := Nat.lt_of_lt_of_le hbB hbel.size
                      have i0 : (0 : Int) ≤ (k : Int) := by omega
                      have i1 : (k : Int) < (ks.length : Int) := by omega
                      obtain ⟨z, hz⟩ : ∃ z, formX x = z := ⟨_, rfl⟩
                      rw [hz] at HS HC
                      unfold X.val at HC
                      clear hx hz hk2 hbB h
                      cases z with
                      | false =>
                        have HT := Lib.hid (HALL.out false (by rw [HS.out]; rfl))
                        go_wp2_with (go_at_call 37; go_loud (refine HC.out.mono ?_; rintro e w2 ⟨rfl, hb2⟩; have HB2 := Lib.hid (hop0 HB.out hb2); clear hb2))
                        go_ret
                        rw [HT.out]
                        exact ⟨rfl, HB2.out⟩
                      | true =>
                        have HT := Lib.hid (show formL (ks.drop (k + 1)) = formL ks from by rw [HS.out]; rfl)
                        go_wp2_with (go_at_call 37; go_loud (refine HC.out.mono ?_; rintro e w2 ⟨rfl, hb2⟩; have HB2 := Lib.hid (hop0 HB.out hb2); have HQ2 := Lib.hid ((hb2.block _ (Array.getElem?_eq_some_iff.1 HQ.out).1).trans HQ.out); clear hb2))
                        go_roundw
                        case rel => exact ⟨k + 1, by omega, by go_num, HT, HQ2, HB2.out⟩
                        case measure => simp [intOf]; omega
                    · have HF := Lib.hid (HALL.out true (HSZ.out.symm.trans (formL_stop h)))
                      have i1 : ¬ (k : Int) < (ks.length : Int) := by omega
                      clear h
                      go_wp2
                      go_ret
                      rw [HF.out]
                      exact ⟨rfl, HB.out⟩
                · have hq : ¬ vs.toList = [] := by rw [toList_nil]; exact z3
                  have HX := Lib.hid (HHEAD.out (by have HZ := zero_no (k := vk) (m := vn) (.inr (.inr z3)); exact (by rw [HZ, Bool.and_false])))
                  clear hl z3 hn1
                  subst z1 z2
                  go_enter Tryz.func37, Tryz.ntmps37
                  go_wp2_with fail
                  try rw [hW1]
                  have hS : Hid (C6 o n ⟨0, 0, vs⟩ ks.length A c w.heap.size W1.drew) ∧ Below w.heap.size w W1.drew := ⟨Lib.hid HC6.out, HB1.out.drew⟩
                  refine held_begin 7 (fun W => Hid (C6 o n ⟨0, 0, vs⟩ ks.length A c w.heap.size W) ∧ Below w.heap.size w W) rfl (by kernel_rfl) ?_
                  refine held_take (i := 0) (t := 4) (v := (.pointer (some ⟨w.heap.size, 5, none⟩))) (fuel := 6) rfl rfl (by kernel_rfl) (by kernel_rfl) (by kernel_rfl) (fun _ _ _ h => h) (.inl ⟨rfl, fun W hW => by simp [execOp, Act.eval, go_sem]⟩) hS ?_
                  simp only [List.setIfInBounds_toArray, List.set_cons_succ, List.set_cons_zero]
                  refine held_take (i := 1) (t := 5) (v := (.slice A ks.length c)) (fuel := 5) rfl rfl (by kernel_rfl) (by kernel_rfl) (by kernel_rfl) (fun _ _ _ h => h) (.inl ⟨rfl, fun W hW => by simp [execOp, Act.eval, go_sem, hW.1.out.2.2.2.2.2]⟩) hS ?_
                  simp only [List.setIfInBounds_toArray, List.set_cons_succ, List.set_cons_zero]
                  refine held_take (i := 2) (t := 6) (v := (.int .i64 (ks.length : Int))) (fuel := 4) rfl rfl (by kernel_rfl) (by kernel_rfl) (by kernel_rfl) (fun _ _ _ h => h) (.inl ⟨rfl, fun W hW => by simp [execOp, Act.eval, go_sem]⟩) hS ?_
                  simp only [List.setIfInBounds_toArray, List.set_cons_succ, List.set_cons_zero]
                  refine held_take (i := 3) (t := 7) (v := (.pointer (some ⟨w.heap.size, 0, none⟩))) (fuel := 3) rfl rfl (by kernel_rfl) (by kernel_rfl) (by kernel_rfl) (fun _ _ _ h => h) (.inl ⟨rfl, fun W hW => by simp [execOp, Act.eval, go_sem]⟩) hS ?_
                  simp only [List.setIfInBounds_toArray, List.set_cons_succ, List.set_cons_zero]
                  refine held_take (i := 4) (t := 8) (v := (.int .i64 o)) (fuel := 2) rfl rfl (by kernel_rfl) (by kernel_rfl) (by kernel_rfl) (fun _ _ _ h => h) (.inl ⟨rfl, fun W hW => by simp [execOp, Act.eval, go_sem, hW.1.out.1]⟩) hS ?_
                  simp only [List.setIfInBounds_toArray, List.set_cons_succ, List.set_cons_zero]
                  refine held_call (i := 5) rfl (by kernel_rfl) (by kernel_rfl) ?_
                  simp [Oper.wp, execOp, Act.eval, Act.put, go_sem]
                  refine (rkids_any o _).mono ?_
                  rintro en w' ⟨rfl, rfl⟩
                  refine ⟨hS, ?_⟩
                  try simp only [List.setIfInBounds_toArray, List.set_cons_succ, List.set_cons_zero]
                  refine held_take (i := 6) (t := 10) (v := (.bool false)) (fuel := 0) rfl rfl (by kernel_rfl) (by kernel_rfl) (by kernel_rfl) (fun _ _ _ h => h) (.inl ⟨rfl, fun W hW => by simp [execOp, Act.eval, go_sem, q0]⟩) hS ?_
                  simp only [List.setIfInBounds_toArray, List.set_cons_succ, List.set_cons_zero]
                  refine wpAnyH_done (by kernel_rfl) ?_ 0
                  go_wp2_with (fail)
                  go_ret
                  rw [HX.out]
                  exact ⟨rfl, HB1.out.drew⟩
              · have HX := Lib.hid (HHEAD.out (by have HZ := zero_no (k := vk) (m := vn) (s := vs) (.inr (.inl z2)); exact (by rw [HZ, Bool.and_false])))
                clear hl hn1
                subst z1
                go_enter Tryz.func37, Tryz.ntmps37
                go_wp2_with fail
                try rw [hW1]
                have hS : Hid (C6 o n ⟨0, vn, vs⟩ ks.length A c w.heap.size W1.drew) ∧ Below w.heap.size w W1.drew := ⟨Lib.hid HC6.out, HB1.out.drew⟩
                refine held_begin 7 (fun W => Hid (C6 o n ⟨0, vn, vs⟩ ks.length A c w.heap.size W) ∧ Below w.heap.size w W) rfl (by kernel_rfl) ?_
                refine held_take (i := 0) (t := 4) (v := (.pointer (some ⟨w.heap.size, 5, none⟩))) (fuel := 6) rfl rfl (by kernel_rfl) (by kernel_rfl) (by kernel_rfl) (fun _ _ _ h => h) (.inl ⟨rfl, fun W hW => by simp [execOp, Act.eval, go_sem]⟩) hS ?_
                simp only [List.setIfInBounds_toArray, List.set_cons_succ, List.set_cons_zero]
                refine held_take (i := 1) (t := 5) (v := (.slice A ks.length c)) (fuel := 5) rfl rfl (by kernel_rfl) (by kernel_rfl) (by kernel_rfl) (fun _ _ _ h => h) (.inl ⟨rfl, fun W hW => by simp [execOp, Act.eval, go_sem, hW.1.out.2.2.2.2.2]⟩) hS ?_
                simp only [List.setIfInBounds_toArray, List.set_cons_succ, List.set_cons_zero]
                refine held_take (i := 2) (t := 6) (v := (.int .i64 (ks.length : Int))) (fuel := 4) rfl rfl (by kernel_rfl) (by kernel_rfl) (by kernel_rfl) (fun _ _ _ h => h) (.inl ⟨rfl, fun W hW => by simp [execOp, Act.eval, go_sem]⟩) hS ?_
                simp only [List.setIfInBounds_toArray, List.set_cons_succ, List.set_cons_zero]
                refine held_take (i := 3) (t := 7) (v := (.pointer (some ⟨w.heap.size, 0, none⟩))) (fuel := 3) rfl rfl (by kernel_rfl) (by kernel_rfl) (by kernel_rfl) (fun _ _ _ h => h) (.inl ⟨rfl, fun W hW => by simp [execOp, Act.eval, go_sem]⟩) hS ?_
                simp only [List.setIfInBounds_toArray, List.set_cons_succ, List.set_cons_zero]
                refine held_take (i := 4) (t := 8) (v := (.int .i64 o)) (fuel := 2) rfl rfl (by kernel_rfl) (by kernel_rfl) (by kernel_rfl) (fun _ _ _ h => h) (.inl ⟨rfl, fun W hW => by simp [execOp, Act.eval, go_sem, hW.1.out.1]⟩) hS ?_
                simp only [List.setIfInBounds_toArray, List.set_cons_succ, List.set_cons_zero]
                refine held_call (i := 5) rfl (by kernel_rfl) (by kernel_rfl) ?_
                simp [Oper.wp, execOp, Act.eval, Act.put, go_sem]
                refine (rkids_any o _).mono ?_
                rintro en w' ⟨rfl, rfl⟩
                refine ⟨hS, ?_⟩
                try simp only [List.setIfInBounds_toArray, List.set_cons_succ, List.set_cons_zero]
                refine held_take (i := 6) (t := 10) (v := (.bool false)) (fuel := 0) rfl rfl (by kernel_rfl) (by kernel_rfl) (by kernel_rfl) (fun _ _ _ h => h) (.inl ⟨rfl, fun W hW => by simp [execOp, Act.eval, go_sem, q0]⟩) hS ?_
                simp only [List.setIfInBounds_toArray, List.set_cons_succ, List.set_cons_zero]
                refine wpAnyH_done (by kernel_rfl) ?_ 0
                go_wp2_with (fail)
                go_ret
                rw [HX.out]
                exact ⟨rfl, HB1.out.drew⟩
            · have HX := Lib.hid (HHEAD.out (by have HZ := zero_no (k := vk) (m := vn) (s := vs) (.inl z1); exact (by rw [HZ, Bool.and_false])))
              clear hl hn1
              go_enter Tryz.func37, Tryz.ntmps37
              go_wp2_with fail
              try rw [hW1]
              have hS : Hid (C6 o n ⟨vk, vn, vs⟩ ks.length A c w.heap.size W1.drew) ∧ Below w.heap.size w W1.drew := ⟨Lib.hid HC6.out, HB1.out.drew⟩
              refine held_begin 7 (fun W => Hid (C6 o n ⟨vk, vn, vs⟩ ks.length A c w.heap.size W) ∧ Below w.heap.size w W) rfl (by kernel_rfl) ?_
              refine held_take (i := 0) (t := 4) (v := (.pointer (some ⟨w.heap.size, 5, none⟩))) (fuel := 6) rfl rfl (by kernel_rfl) (by kernel_rfl) (by kernel_rfl) (fun _ _ _ h => h) (.inl ⟨rfl, fun W hW => by simp [execOp, Act.eval, go_sem]⟩) hS ?_
              simp only [List.setIfInBounds_toArray, List.set_cons_succ, List.set_cons_zero]
              refine held_take (i := 1) (t := 5) (v := (.slice A ks.length c)) (fuel := 5) rfl rfl (by kernel_rfl) (by kernel_rfl) (by kernel_rfl) (fun _ _ _ h => h) (.inl ⟨rfl, fun W hW => by simp [execOp, Act.eval, go_sem, hW.1.out.2.2.2.2.2]⟩) hS ?_
              simp only [List.setIfInBounds_toArray, List.set_cons_succ, List.set_cons_zero]
              refine held_take (i := 2) (t := 6) (v := (.int .i64 (ks.length : Int))) (fuel := 4) rfl rfl (by kernel_rfl) (by kernel_rfl) (by kernel_rfl) (fun _ _ _ h => h) (.inl ⟨rfl, fun W hW => by simp [execOp, Act.eval, go_sem]⟩) hS ?_
              simp only [List.setIfInBounds_toArray, List.set_cons_succ, List.set_cons_zero]
              refine held_take (i := 3) (t := 7) (v := (.pointer (some ⟨w.heap.size, 0, none⟩))) (fuel := 3) rfl rfl (by kernel_rfl) (by kernel_rfl) (by kernel_rfl) (fun _ _ _ h => h) (.inl ⟨rfl, fun W hW => by simp [execOp, Act.eval, go_sem]⟩) hS ?_
              simp only [List.setIfInBounds_toArray, List.set_cons_succ, List.set_cons_zero]
              refine held_take (i := 4) (t := 8) (v := (.int .i64 o)) (fuel := 2) rfl rfl (by kernel_rfl) (by kernel_rfl) (by kernel_rfl) (fun _ _ _ h => h) (.inl ⟨rfl, fun W hW => by simp [execOp, Act.eval, go_sem, hW.1.out.1]⟩) hS ?_
              simp only [List.setIfInBounds_toArray, List.set_cons_succ, List.set_cons_zero]
              refine held_call (i := 5) rfl (by kernel_rfl) (by kernel_rfl) ?_
              simp [Oper.wp, execOp, Act.eval, Act.put, go_sem]
              refine (rkids_any o _).mono ?_
              rintro en w' ⟨rfl, rfl⟩
              refine ⟨hS, ?_⟩
              try simp only [List.setIfInBounds_toArray, List.set_cons_succ, List.set_cons_zero]
              refine held_take (i := 6) (t := 10) (v := (.bool false)) (fuel := 0) rfl rfl (by kernel_rfl) (by kernel_rfl) (by kernel_rfl) (fun _ _ _ h => h) (.inl ⟨rfl, fun W hW => by simp [execOp, Act.eval, go_sem, q0]⟩) hS ?_
              simp only [List.setIfInBounds_toArray, List.set_cons_succ, List.set_cons_zero]
              refine wpAnyH_done (by kernel_rfl) ?_ 0
              go_wp2_with (fail)
              go_ret
              rw [HX.out]
              exact ⟨rfl, HB1.out.drew⟩
          · have hqn : ¬ n.toList = [] := by rw [toList_nil]; exact z0
            have hqe : n.toList.isEmpty = false := by rw [isEmpty_size]; exact decide_eq_false z0
            have HX := Lib.hid (HHEAD.out (by rw [decide_eq_false z0, Bool.false_and]))
            clear hl e1 e2 e3 z0
            go_enter Tryz.func37, Tryz.ntmps37
            go_wp2_with fail
            try rw [hW1]
            have hS : Hid (C6 o n ⟨vk, vn, vs⟩ ks.length A c w.heap.size W1.drew) ∧ Below w.heap.size w W1.drew := ⟨Lib.hid HC6.out, HB1.out.drew⟩
            refine held_begin 7 (fun W => Hid (C6 o n ⟨vk, vn, vs⟩ ks.length A c w.heap.size W) ∧ Below w.heap.size w W) rfl (by kernel_rfl) ?_
            refine held_take (i := 0) (t := 4) (v := (.pointer (some ⟨w.heap.size, 5, none⟩))) (fuel := 6) rfl rfl (by kernel_rfl) (by kernel_rfl) (by kernel_rfl) (fun _ _ _ h => h) (.inl ⟨rfl, fun W hW => by simp [execOp, Act.eval, go_sem]⟩) hS ?_
            simp only [List.setIfInBounds_toArray, List.set_cons_succ, List.set_cons_zero]
            refine held_take (i := 1) (t := 5) (v := (.slice A ks.length c)) (fuel := 5) rfl rfl (by kernel_rfl) (by kernel_rfl) (by kernel_rfl) (fun _ _ _ h => h) (.inl ⟨rfl, fun W hW => by simp [execOp, Act.eval, go_sem, hW.1.out.2.2.2.2.2]⟩) hS ?_
            simp only [List.setIfInBounds_toArray, List.set_cons_succ, List.set_cons_zero]
            refine held_take (i := 2) (t := 6) (v := (.int .i64 (ks.length : Int))) (fuel := 4) rfl rfl (by kernel_rfl) (by kernel_rfl) (by kernel_rfl) (fun _ _ _ h => h) (.inl ⟨rfl, fun W hW => by simp [execOp, Act.eval, go_sem]⟩) hS ?_
            simp only [List.setIfInBounds_toArray, List.set_cons_succ, List.set_cons_zero]
            refine held_take (i := 3) (t := 7) (v := (.pointer (some ⟨w.heap.size, 0, none⟩))) (fuel := 3) rfl rfl (by kernel_rfl) (by kernel_rfl) (by kernel_rfl) (fun _ _ _ h => h) (.inl ⟨rfl, fun W hW => by simp [execOp, Act.eval, go_sem]⟩) hS ?_
            simp only [List.setIfInBounds_toArray, List.set_cons_succ, List.set_cons_zero]
            refine held_take (i := 4) (t := 8) (v := (.int .i64 o)) (fuel := 2) rfl rfl (by kernel_rfl) (by kernel_rfl) (by kernel_rfl) (fun _ _ _ h => h) (.inl ⟨rfl, fun W hW => by simp [execOp, Act.eval, go_sem, hW.1.out.1]⟩) hS ?_
            simp only [List.setIfInBounds_toArray, List.set_cons_succ, List.set_cons_zero]
            refine held_call (i := 5) rfl (by kernel_rfl) (by kernel_rfl) ?_
            simp [Oper.wp, execOp, Act.eval, Act.put, go_sem]
            refine (rkids_any o _).mono ?_
            rintro en w' ⟨rfl, rfl⟩
            refine ⟨hS, ?_⟩
            try simp only [List.setIfInBounds_toArray, List.set_cons_succ, List.set_cons_zero]
            refine held_take (i := 6) (t := 10) (v := (.bool false)) (fuel := 0) rfl rfl (by kernel_rfl) (by kernel_rfl) (by kernel_rfl) (fun _ _ _ h => h) (.inl ⟨rfl, fun W hW => by simp [execOp, Act.eval, go_sem, q0]⟩) hS ?_
            simp only [List.setIfInBounds_toArray, List.set_cons_succ, List.set_cons_zero]
            refine wpAnyH_done (by kernel_rfl) ?_ 0
            go_wp2
            go_ret
            rw [HX.out]
            exact ⟨rfl, HB1.out.drew⟩
  · have HX := Lib.hid (show E = .returned (.bool false) by rw [← HE.out, formX, decide_eq_false hl, Bool.false_and, Bool.false_and])
    have q0 : ((ks.length : Int) != kidsN o) = true := by simpa using hl
    clear hl
    go_enter Tryz.func37, Tryz.ntmps37
    go_wp2_with fail
    try rw [hW1]
    have hS : Hid (C6 o n ⟨vk, vn, vs⟩ ks.length A c w.heap.size W1.drew) ∧ Below w.heap.size w W1.drew := ⟨Lib.hid HC6.out, HB1.out.drew⟩
    refine held_begin 7 (fun W => Hid (C6 o n ⟨vk, vn, vs⟩ ks.length A c w.heap.size W) ∧ Below w.heap.size w W) rfl (by kernel_rfl) ?_
    refine held_take (i := 0) (t := 4) (v := (.pointer (some ⟨w.heap.size, 5, none⟩))) (fuel := 6) rfl rfl (by kernel_rfl) (by kernel_rfl) (by kernel_rfl) (fun _ _ _ h => h) (.inl ⟨rfl, fun W hW => by simp [execOp, Act.eval, go_sem]⟩) hS ?_
    simp only [List.setIfInBounds_toArray, List.set_cons_succ, List.set_cons_zero]
    refine held_take (i := 1) (t := 5) (v := (.slice A ks.length c)) (fuel := 5) rfl rfl (by kernel_rfl) (by kernel_rfl) (by kernel_rfl) (fun _ _ _ h => h) (.inl ⟨rfl, fun W hW => by simp [execOp, Act.eval, go_sem, hW.1.out.2.2.2.2.2]⟩) hS ?_
    simp only [List.setIfInBounds_toArray, List.set_cons_succ, List.set_cons_zero]
    refine held_take (i := 2) (t := 6) (v := (.int .i64 (ks.length : Int))) (fuel := 4) rfl rfl (by kernel_rfl) (by kernel_rfl) (by kernel_rfl) (fun _ _ _ h => h) (.inl ⟨rfl, fun W hW => by simp [execOp, Act.eval, go_sem]⟩) hS ?_
    simp only [List.setIfInBounds_toArray, List.set_cons_succ, List.set_cons_zero]
    refine held_take (i := 3) (t := 7) (v := (.pointer (some ⟨w.heap.size, 0, none⟩))) (fuel := 3) rfl rfl (by kernel_rfl) (by kernel_rfl) (by kernel_rfl) (fun _ _ _ h => h) (.inl ⟨rfl, fun W hW => by simp [execOp, Act.eval, go_sem]⟩) hS ?_
    simp only [List.setIfInBounds_toArray, List.set_cons_succ, List.set_cons_zero]
    refine held_take (i := 4) (t := 8) (v := (.int .i64 o)) (fuel := 2) rfl rfl (by kernel_rfl) (by kernel_rfl) (by kernel_rfl) (fun _ _ _ h => h) (.inl ⟨rfl, fun W hW => by simp [execOp, Act.eval, go_sem, hW.1.out.1]⟩) hS ?_
    simp only [List.setIfInBounds_toArray, List.set_cons_succ, List.set_cons_zero]
    refine held_call (i := 5) rfl (by kernel_rfl) (by kernel_rfl) ?_
    simp [Oper.wp, execOp, Act.eval, Act.put, go_sem]
    refine (rkids_any o _).mono ?_
    rintro en w' ⟨rfl, rfl⟩
    refine ⟨hS, ?_⟩
    try simp only [List.setIfInBounds_toArray, List.set_cons_succ, List.set_cons_zero]
    refine held_take (i := 6) (t := 10) (v := (.bool true)) (fuel := 0) rfl rfl (by kernel_rfl) (by kernel_rfl) (by kernel_rfl) (fun _ _ _ h => h) (.inl ⟨rfl, fun W hW => by simp [execOp, Act.eval, go_sem, q0]⟩) hS ?_
    simp only [List.setIfInBounds_toArray, List.set_cons_succ, List.set_cons_zero]
    refine wpAnyH_done (by kernel_rfl) ?_ 0
    go_wp2
    go_ret
    rw [HX.out]
    exact ⟨rfl, HB1.out.drew⟩
end Go.Proofs.YtclcabdekeegdaaGreat
