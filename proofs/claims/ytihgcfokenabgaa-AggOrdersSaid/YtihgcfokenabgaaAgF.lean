/- Layer 15, walked: the document's Pack. -/
import Derived.Test.YtihgcfokenabgaaAgE
import Derived.Laws.OwnMore
import Derived.LoopTactic
import Derived.BigRegion
namespace Go.Proofs.Ytihgcfokenabgaa
open Go Go.ChangeShapes Go.WideShapes Go.ChangeAt Go.RowKit
set_option linter.unusedVariables false
set_option linter.unusedSimpArgs false
/-- As values. -/
def packA (a : Ac) : List V := [intA a.n, intA (hiZ a.x), intA (wrap64 (loZ a.x)), a.b]
theorem row3_lit (w : World) (l : List V) (hl : l.length ≤ maxLen) : Row3 (w.alloc (.cells (cellsOf l).toArray 33)) (w.heap.size + 1) (some ⟨w.heap.size, 0, none⟩) l := by
  have h : (w.alloc (.cells (cellsOf l).toArray 33)).ownsRow w.heap.size 33 3 (.slice (some ⟨w.heap.size, 0, none⟩) l.length l.length) l.length (cellsOf l).toArray.toList := World.ownsRow_lit w _ _ (Nat.le_refl _) hl (by simp [cellsOf_length])
  have := (row3_of_own h).2
  rwa [World.size_alloc] at this
set_option maxRecDepth 100000 in
theorem rpack_any (a : Ac) (w : World) :
    Calls Try.prog 21 #[a.V] w fun e w' => ∃ q, e = .returned (.slice (some ⟨q, 0, none⟩) 4 4) ∧ Row3 w' w'.heap.size (some ⟨q, 0, none⟩) (packA a) ∧ Below w.heap.size w w' := by
  unfold Ac.V
  go_enter Try.func21, Try.ntmps21
  go_wp2
  go_ret
  refine ⟨w.heap.size + 1, by simp, ?_, ((Below.refl _ _).alloc (Nat.le_refl _) _).alloc (by simp) _⟩
  have h := row3_lit (w.alloc (.cells #[.int .i64 a.n, .int .i64 (hiZ a.x), .int .u64 (loZ a.x), .int .i64 a.b.k, .int .i64 a.b.n, .string a.b.s] 38)) (packA a) (by unfold maxLen; simp [packA])
  rw [World.size_alloc] at h
  exact h.more (by simp)
/-- An int. -/
def okI (v : V) : Prop := v.k = 1 ∧ v.s.size = 0
instance (v : V) : Decidable (okI v) := inferInstanceAs (Decidable (_ ∧ _))
/-- Of what it is the values. -/
def unpackA : List V → Ac × Bool
  | [v0, v1, v2, v3] => if chk v3 = 0 ∧ okI v0 ∧ okI v1 ∧ okI v2 then (⟨v0.n, ofParts v1.n (IntKind.u64.wrap v2.n), v3⟩, true) else (zeroA, false)
  | _ => (zeroA, false)
theorem unpackA_4 (v0 v1 v2 v3 : V) : unpackA [v0, v1, v2, v3] = if chk v3 = 0 ∧ okI v0 ∧ okI v1 ∧ okI v2 then (⟨v0.n, ofParts v1.n (IntKind.u64.wrap v2.n), v3⟩, true) else (zeroA, false) := rfl
theorem okI_yes {v : V} (h : okI v) : (v.k != 1) = false ∧ (!v.s.toList.isEmpty) = false := by
  rw [isEmpty_size, decide_eq_true h.2]; simp [h.1]
theorem okI_no {v : V} (h : ¬ okI v) : (v.k != 1) = true ∨ ((v.k != 1) = false ∧ (!v.s.toList.isEmpty) = true) := by
  unfold okI at h
  rw [isEmpty_size]
  by_cases h1 : v.k = 1
  · have h2 : ¬ v.s.size = 0 := fun h2 => h ⟨h1, h2⟩
    exact .inr ⟨by simp [h1], by rw [decide_eq_false h2]; rfl⟩
  · exact .inl (by simpa using h1)
theorem unpackA_len {l : List V} (h : l.length ≠ 4) : unpackA l = (zeroA, false) := by
  unfold unpackA
  split
  · exact absurd rfl h
  · rfl
theorem row4 {w : World} {B : Nat} {A : Option Addr} {v0 v1 v2 v3 : V} (h : Row3 w B A [v0, v1, v2, v3]) : ∃ b off, A = some ⟨b, off, none⟩ ∧ b < B ∧
    (w.cell? ⟨b, off, none⟩ = some (.int .i64 v0.k) ∧ w.cell? ⟨b, off + 1, none⟩ = some (.int .i64 v0.n) ∧ w.cell? ⟨b, off + 2, none⟩ = some (.string v0.s)) ∧
    (w.cell? ⟨b, off + 3, none⟩ = some (.int .i64 v1.k) ∧ w.cell? ⟨b, off + 4, none⟩ = some (.int .i64 v1.n) ∧ w.cell? ⟨b, off + 5, none⟩ = some (.string v1.s)) ∧
    (w.cell? ⟨b, off + 6, none⟩ = some (.int .i64 v2.k) ∧ w.cell? ⟨b, off + 7, none⟩ = some (.int .i64 v2.n) ∧ w.cell? ⟨b, off + 8, none⟩ = some (.string v2.s)) ∧
    (w.cell? ⟨b, off + 9, none⟩ = some (.int .i64 v3.k) ∧ w.cell? ⟨b, off + 10, none⟩ = some (.int .i64 v3.n) ∧ w.cell? ⟨b, off + 11, none⟩ = some (.string v3.s)) := by
  obtain ⟨b, off, rfl, hb, h0⟩ := h 0 (by simp)
  obtain ⟨_, _, e1, _, h1⟩ := h 1 (by simp)
  obtain ⟨_, _, e2, _, h2⟩ := h 2 (by simp)
  obtain ⟨_, _, e3, _, h3⟩ := h 3 (by simp)
  cases e1; cases e2; cases e3
  exact ⟨b, off, rfl, hb, h0, h1, h2, h3⟩
theorem set6d {W : World} {q T : Nat} (h : W.heap[q]? = some (.cells #[.int .i64 0, .int .i64 0, .int .u64 0, .int .i64 0, .int .i64 0, .string ⟨#[]⟩] T)) (c0 c1 c2 c3 c4 c5 : Value) :
    ((((((W.setCell ⟨q, 0, none⟩ c0).setCell ⟨q, 1, none⟩ c1).setCell ⟨q, 2, none⟩ c2).setCell ⟨q, 3, none⟩ c3).setCell ⟨q, 4, none⟩ c4).setCell ⟨q, 5, none⟩ c5).drew.heap[q]? = some (.cells #[c0, c1, c2, c3, c4, c5] T) := by rw [heap_drew]; exact set6 h c0 c1 c2 c3 c4 c5
set_option maxHeartbeats 4000000 in
set_option maxRecDepth 100000 in
theorem runpack_any (l : List V) (hw : ∀ v ∈ l, v.wf) (n c : Nat) (A : Option Addr) (w : World) (hl : n = l.length) (hA : Row3 w w.heap.size A l) :
    Calls Try.prog 23 #[.slice A n c] w fun e w' => e = .returned (.tuple #[(unpackA l).1.V, .bool (unpackA l).2]) ∧ Below w.heap.size w w' := by
  by_cases h4 : n = 4
  · subst h4
    obtain ⟨v0, v1, v2, v3, rfl⟩ : ∃ v0 v1 v2 v3, l = [v0, v1, v2, v3] := by
      match l, hl with
      | [a, b, c, d], _ => exact ⟨a, b, c, d, rfl⟩
    obtain ⟨b, off, rfl, hb, _⟩ := row4 hA
    have HC := Lib.hid (fun W => rcheck_any v3 (hw _ (by simp)) W)
    have HV1 : Hid (In64 v1.n) := Lib.hid (by have := (hw v1 (by simp)).2.1; unfold in64 at this; unfold In64; exact this)
    obtain ⟨W1, hW1⟩ : ∃ W1, w.alloc (.cells #[.int .i64 0, .int .i64 0, .int .u64 0, .int .i64 0, .int .i64 0, .string ⟨#[]⟩] 38) = W1 := ⟨_, rfl⟩
    have HB0 : Hid (Below w.heap.size w W1) := Lib.hid (by rw [← hW1]; exact (Below.refl _ _).alloc (Nat.le_refl _) _)
    have HZ1 : Hid (W1.heap[w.heap.size]? = some (.cells #[.int .i64 0, .int .i64 0, .int .u64 0, .int .i64 0, .int .i64 0, .string ⟨#[]⟩] 38)) := Lib.hid (by rw [← hW1]; exact World.alloc_heap_new _ _)
    have HA1 := Lib.hid (hA.below HB0.out)
    have HS1 : Hid (w.heap.size ≤ W1.heap.size) := Lib.hid HB0.out.size
    obtain ⟨_, _, e9, _, ⟨a0, a1, a2⟩, ⟨b0, b1, b2⟩, ⟨c0, c1, c2⟩, d0, d1, d2⟩ := row4 HA1.out; cases e9; obtain ⟨⟨r0, r1, r2, r3, r4, r5⟩, fr0, fr1, fr2, fr3, fr4, fr5⟩ := blk6 HZ1.out; have hlt := heap_lt HZ1.out
    obtain ⟨r, hr⟩ : ∃ r, unpackA [v0, v1, v2, v3] = r := ⟨_, rfl⟩
    have HR := Lib.hid hr
    rw [hr]
    obtain ⟨ch, hc⟩ : ∃ c, chk v3 = c := ⟨_, rfl⟩
    rw [hc] at HC
    have HCC := Lib.hid hc
    unfold Ac.V
    unfold V.val at HC
    clear hr hc hA hl hw
    by_cases hc0 : ch = 0
    · subst hc0
      by_cases h0 : okI v0
      · obtain ⟨k0, e0⟩ := okI_yes h0
        by_cases h1 : okI v1
        · obtain ⟨k1, e1⟩ := okI_yes h1
          by_cases h2 : okI v2
          · obtain ⟨k2, e2⟩ := okI_yes h2
            have HE := Lib.hid (show r = (⟨v0.n, ofParts v1.n (IntKind.u64.wrap v2.n), v3⟩, true) by rw [← HR.out, unpackA_4, if_pos ⟨HCC.out, h0, h1, h2⟩])
            clear h0 h1 h2
            go_enter Try.func23, Try.ntmps23
            go_wp2_with (go_at_call 17; go_loud (refine (HC.out _).mono ?_; rintro en w2 ⟨rfl, hb1⟩; have HB1 := Lib.hid hb1; have HA2 := Lib.hid (HA1.out.below (hb1.mono HS1.out)); have HZ2 := Lib.hid ((hb1.block _ (heap_lt HZ1.out)).trans HZ1.out); clear hb1; clear a0 a1 a2 b0 b1 b2 c0 c1 c2 d0 d1 d2 r0 r1 r2 r3 r4 r5 fr0 fr1 fr2 fr3 fr4 fr5 hlt; obtain ⟨_, _, e9, _, ⟨a0, a1, a2⟩, ⟨b0, b1, b2⟩, ⟨c0, c1, c2⟩, d0, d1, d2⟩ := row4 HA2.out; cases e9; obtain ⟨⟨r0, r1, r2, r3, r4, r5⟩, fr0, fr1, fr2, fr3, fr4, fr5⟩ := blk6 HZ2.out; have hlt := heap_lt HZ2.out))
            refine wp_loop_rounds 4 ?_
            iterate 4 (rw [rounds_succ]; go_wp2)
            have hS : w2.drew.cell? ⟨b, off + 1, none⟩ = some (.int .i64 v0.n) ∧ w2.drew.cell? ⟨b, off + 4, none⟩ = some (.int .i64 v1.n) ∧ w2.drew.cell? ⟨b, off + 7, none⟩ = some (.int .i64 v2.n) ∧ w2.drew.cell? ⟨b, off + 9, none⟩ = some (.int .i64 v3.k) ∧ w2.drew.cell? ⟨b, off + 10, none⟩ = some (.int .i64 v3.n) ∧ w2.drew.cell? ⟨b, off + 11, none⟩ = some (.string v3.s) := ⟨a1, b1, c1, d0, d1, d2⟩
            refine held_begin 20 (fun W => W.cell? ⟨b, off + 1, none⟩ = some (.int .i64 v0.n) ∧ W.cell? ⟨b, off + 4, none⟩ = some (.int .i64 v1.n) ∧ W.cell? ⟨b, off + 7, none⟩ = some (.int .i64 v2.n) ∧ W.cell? ⟨b, off + 9, none⟩ = some (.int .i64 v3.k) ∧ W.cell? ⟨b, off + 10, none⟩ = some (.int .i64 v3.n) ∧ W.cell? ⟨b, off + 11, none⟩ = some (.string v3.s)) rfl (by kernel_rfl) ?_
            refine held_take (i := 0) (t := 35) (v := (.slice (some ⟨b, off, none⟩) 4 c)) (fuel := 19) rfl rfl (by kernel_rfl) (by kernel_rfl) (by kernel_rfl) (fun _ _ _ h => h) (.inl ⟨rfl, fun W hW => by obtain ⟨s0, s1, s2, s3, s4, s5⟩ := hW; simp [execOp, Act.eval, go_sem, s0, s1, s2, s3, s4, s5]⟩) hS ?_
            simp only [List.setIfInBounds_toArray, List.set_cons_succ, List.set_cons_zero]
            refine held_take (i := 1) (t := 36) (v := (.pointer (some ⟨b, off, none⟩))) (fuel := 18) rfl rfl (by kernel_rfl) (by kernel_rfl) (by kernel_rfl) (fun _ _ _ h => h) (.inl ⟨rfl, fun W hW => by obtain ⟨s0, s1, s2, s3, s4, s5⟩ := hW; simp [execOp, Act.eval, go_sem, s0, s1, s2, s3, s4, s5]⟩) hS ?_
            simp only [List.setIfInBounds_toArray, List.set_cons_succ, List.set_cons_zero]
            refine held_take (i := 2) (t := 37) (v := (.pointer (some ⟨b, off + 1, none⟩))) (fuel := 17) rfl rfl (by kernel_rfl) (by kernel_rfl) (by kernel_rfl) (fun _ _ _ h => h) (.inl ⟨rfl, fun W hW => by obtain ⟨s0, s1, s2, s3, s4, s5⟩ := hW; simp [execOp, Act.eval, go_sem, s0, s1, s2, s3, s4, s5]⟩) hS ?_
            simp only [List.setIfInBounds_toArray, List.set_cons_succ, List.set_cons_zero]
            refine held_take (i := 3) (t := 38) (v := (.int .i64 v0.n)) (fuel := 16) rfl rfl (by kernel_rfl) (by kernel_rfl) (by kernel_rfl) (fun _ _ _ h => h) (.inl ⟨rfl, fun W hW => by obtain ⟨s0, s1, s2, s3, s4, s5⟩ := hW; simp [execOp, Act.eval, go_sem, s0, s1, s2, s3, s4, s5]⟩) hS ?_
            simp only [List.setIfInBounds_toArray, List.set_cons_succ, List.set_cons_zero]
            refine held_take (i := 4) (t := 39) (v := (.slice (some ⟨b, off, none⟩) 4 c)) (fuel := 15) rfl rfl (by kernel_rfl) (by kernel_rfl) (by kernel_rfl) (fun _ _ _ h => h) (.inl ⟨rfl, fun W hW => by obtain ⟨s0, s1, s2, s3, s4, s5⟩ := hW; simp [execOp, Act.eval, go_sem, s0, s1, s2, s3, s4, s5]⟩) hS ?_
            simp only [List.setIfInBounds_toArray, List.set_cons_succ, List.set_cons_zero]
            refine held_take (i := 5) (t := 40) (v := (.pointer (some ⟨b, off + 3, none⟩))) (fuel := 14) rfl rfl (by kernel_rfl) (by kernel_rfl) (by kernel_rfl) (fun _ _ _ h => h) (.inl ⟨rfl, fun W hW => by obtain ⟨s0, s1, s2, s3, s4, s5⟩ := hW; simp [execOp, Act.eval, go_sem, s0, s1, s2, s3, s4, s5]⟩) hS ?_
            simp only [List.setIfInBounds_toArray, List.set_cons_succ, List.set_cons_zero]
            refine held_take (i := 6) (t := 41) (v := (.pointer (some ⟨b, off + 4, none⟩))) (fuel := 13) rfl rfl (by kernel_rfl) (by kernel_rfl) (by kernel_rfl) (fun _ _ _ h => h) (.inl ⟨rfl, fun W hW => by obtain ⟨s0, s1, s2, s3, s4, s5⟩ := hW; simp [execOp, Act.eval, go_sem, s0, s1, s2, s3, s4, s5]⟩) hS ?_
            simp only [List.setIfInBounds_toArray, List.set_cons_succ, List.set_cons_zero]
            refine held_take (i := 7) (t := 42) (v := (.int .i64 v1.n)) (fuel := 12) rfl rfl (by kernel_rfl) (by kernel_rfl) (by kernel_rfl) (fun _ _ _ h => h) (.inl ⟨rfl, fun W hW => by obtain ⟨s0, s1, s2, s3, s4, s5⟩ := hW; simp [execOp, Act.eval, go_sem, s0, s1, s2, s3, s4, s5]⟩) hS ?_
            simp only [List.setIfInBounds_toArray, List.set_cons_succ, List.set_cons_zero]
            refine held_take (i := 8) (t := 43) (v := (.slice (some ⟨b, off, none⟩) 4 c)) (fuel := 11) rfl rfl (by kernel_rfl) (by kernel_rfl) (by kernel_rfl) (fun _ _ _ h => h) (.inl ⟨rfl, fun W hW => by obtain ⟨s0, s1, s2, s3, s4, s5⟩ := hW; simp [execOp, Act.eval, go_sem, s0, s1, s2, s3, s4, s5]⟩) hS ?_
            simp only [List.setIfInBounds_toArray, List.set_cons_succ, List.set_cons_zero]
            refine held_take (i := 9) (t := 44) (v := (.pointer (some ⟨b, off + 6, none⟩))) (fuel := 10) rfl rfl (by kernel_rfl) (by kernel_rfl) (by kernel_rfl) (fun _ _ _ h => h) (.inl ⟨rfl, fun W hW => by obtain ⟨s0, s1, s2, s3, s4, s5⟩ := hW; simp [execOp, Act.eval, go_sem, s0, s1, s2, s3, s4, s5]⟩) hS ?_
            simp only [List.setIfInBounds_toArray, List.set_cons_succ, List.set_cons_zero]
            refine held_take (i := 10) (t := 45) (v := (.pointer (some ⟨b, off + 7, none⟩))) (fuel := 9) rfl rfl (by kernel_rfl) (by kernel_rfl) (by kernel_rfl) (fun _ _ _ h => h) (.inl ⟨rfl, fun W hW => by obtain ⟨s0, s1, s2, s3, s4, s5⟩ := hW; simp [execOp, Act.eval, go_sem, s0, s1, s2, s3, s4, s5]⟩) hS ?_
            simp only [List.setIfInBounds_toArray, List.set_cons_succ, List.set_cons_zero]
            refine held_take (i := 11) (t := 46) (v := (.int .i64 v2.n)) (fuel := 8) rfl rfl (by kernel_rfl) (by kernel_rfl) (by kernel_rfl) (fun _ _ _ h => h) (.inl ⟨rfl, fun W hW => by obtain ⟨s0, s1, s2, s3, s4, s5⟩ := hW; simp [execOp, Act.eval, go_sem, s0, s1, s2, s3, s4, s5]⟩) hS ?_
            simp only [List.setIfInBounds_toArray, List.set_cons_succ, List.set_cons_zero]
            refine held_take (i := 12) (t := 47) (v := (.int .u64 (IntKind.u64.wrap v2.n))) (fuel := 7) rfl rfl (by kernel_rfl) (by kernel_rfl) (by kernel_rfl) (fun _ _ _ h => h) (.inl ⟨rfl, fun W hW => by obtain ⟨s0, s1, s2, s3, s4, s5⟩ := hW; simp [execOp, Act.eval, go_sem, s0, s1, s2, s3, s4, s5]⟩) hS ?_
            simp only [List.setIfInBounds_toArray, List.set_cons_succ, List.set_cons_zero]
            refine held_take (i := 13) (t := 48) (v := (.agg #[.int .i64 v1.n, .int .u64 (IntKind.u64.wrap v2.n)])) (fuel := 6) rfl rfl (by kernel_rfl) (by kernel_rfl) (by kernel_rfl) (fun _ _ _ h => h) (.inl ⟨rfl, fun W hW => by obtain ⟨s0, s1, s2, s3, s4, s5⟩ := hW; simp [execOp, Act.eval, go_sem, s0, s1, s2, s3, s4, s5]⟩) hS ?_
            simp only [List.setIfInBounds_toArray, List.set_cons_succ, List.set_cons_zero]
            refine held_take (i := 14) (t := 49) (v := (.slice (some ⟨b, off, none⟩) 4 c)) (fuel := 5) rfl rfl (by kernel_rfl) (by kernel_rfl) (by kernel_rfl) (fun _ _ _ h => h) (.inl ⟨rfl, fun W hW => by obtain ⟨s0, s1, s2, s3, s4, s5⟩ := hW; simp [execOp, Act.eval, go_sem, s0, s1, s2, s3, s4, s5]⟩) hS ?_
            simp only [List.setIfInBounds_toArray, List.set_cons_succ, List.set_cons_zero]
            refine held_take (i := 15) (t := 50) (v := (.pointer (some ⟨b, off + 9, none⟩))) (fuel := 4) rfl rfl (by kernel_rfl) (by kernel_rfl) (by kernel_rfl) (fun _ _ _ h => h) (.inl ⟨rfl, fun W hW => by obtain ⟨s0, s1, s2, s3, s4, s5⟩ := hW; simp [execOp, Act.eval, go_sem, s0, s1, s2, s3, s4, s5]⟩) hS ?_
            simp only [List.setIfInBounds_toArray, List.set_cons_succ, List.set_cons_zero]
            refine held_take (i := 16) (t := 51) (v := (.agg #[.int .i64 v3.k, .int .i64 v3.n, .string v3.s])) (fuel := 3) rfl rfl (by kernel_rfl) (by kernel_rfl) (by kernel_rfl) (fun _ _ _ h => h) (.inl ⟨rfl, fun W hW => by obtain ⟨s0, s1, s2, s3, s4, s5⟩ := hW; simp [execOp, Act.eval, go_sem, s0, s1, s2, s3, s4, s5]⟩) hS ?_
            simp only [List.setIfInBounds_toArray, List.set_cons_succ, List.set_cons_zero]
            refine held_take (i := 17) (t := 52) (v := (.agg #[.int .i64 v0.n, .int .i64 v1.n, .int .u64 (IntKind.u64.wrap v2.n), .int .i64 v3.k, .int .i64 v3.n, .string v3.s])) (fuel := 2) rfl rfl (by kernel_rfl) (by kernel_rfl) (by kernel_rfl) (fun _ _ _ h => h) (.inl ⟨rfl, fun W hW => by obtain ⟨s0, s1, s2, s3, s4, s5⟩ := hW; simp [execOp, Act.eval, go_sem, s0, s1, s2, s3, s4, s5]⟩) hS ?_
            simp only [List.setIfInBounds_toArray, List.set_cons_succ, List.set_cons_zero]
            refine held_call (i := 18) rfl (by kernel_rfl) (by kernel_rfl) ?_
            simp [Oper.wp, execOp, Act.eval, Act.put, go_sem, r0, r1, r2, r3, r4, r5, fr0, fr1, fr2, fr3, fr4, fr5]
            refine ⟨⟨a1, b1, c1, d0, d1, d2⟩, ?_⟩
            try simp only [List.setIfInBounds_toArray, List.set_cons_succ, List.set_cons_zero]
            refine held_call (i := 19) rfl (by kernel_rfl) (by kernel_rfl) ?_
            simp [Oper.wp, execOp, Act.eval, Act.put, go_sem]
            refine ⟨⟨a1, b1, c1, d0, d1, d2⟩, ?_⟩
            try simp only [List.setIfInBounds_toArray, List.set_cons_succ, List.set_cons_zero]
            refine wpAnyH_done (by kernel_rfl) ?_ 0
            go_wp2
            refine bodyPost_ret (res2 rfl (by rfl) (set6d HZ2.out _ _ _ _ _ _) Try.underlying38 (by kernel_rfl)) rfl ⟨?_, (below6 (HB0.out.trans (HB1.out.mono HS1.out)) (Nat.le_refl _) _ _ _ _ _ _).drew⟩
            rw [HE.out]
            dsimp only
            rw [hi_parts HV1.out (by rw [IntKind.wrap_u64]; omega) (by rw [IntKind.wrap_u64]; omega), lo_parts (by rw [IntKind.wrap_u64]; omega) (by rw [IntKind.wrap_u64]; omega)]
            rfl
          · have HE := Lib.hid (show r = (zeroA, false) by rw [← HR.out, unpackA_4, if_neg (by rintro ⟨_, _, _, h⟩; exact h2 h)])
            rcases okI_no h2 with k2 | ⟨k2, e2⟩
            all_goals
              clear h0 h1 h2
              go_enter Try.func23, Try.ntmps23
              go_wp2_with (go_at_call 17; go_loud (refine (HC.out _).mono ?_; rintro en w2 ⟨rfl, hb1⟩; have HB1 := Lib.hid hb1; have HA2 := Lib.hid (HA1.out.below (hb1.mono HS1.out)); have HZ2 := Lib.hid ((hb1.block _ (heap_lt HZ1.out)).trans HZ1.out); clear hb1; clear a0 a1 a2 b0 b1 b2 c0 c1 c2 d0 d1 d2 r0 r1 r2 r3 r4 r5 fr0 fr1 fr2 fr3 fr4 fr5 hlt; obtain ⟨_, _, e9, _, ⟨a0, a1, a2⟩, ⟨b0, b1, b2⟩, ⟨c0, c1, c2⟩, d0, d1, d2⟩ := row4 HA2.out; cases e9; obtain ⟨⟨r0, r1, r2, r3, r4, r5⟩, fr0, fr1, fr2, fr3, fr4, fr5⟩ := blk6 HZ2.out; have hlt := heap_lt HZ2.out))
              refine wp_loop_rounds 4 ?_
              iterate 3 (rw [rounds_succ]; go_wp2)
              refine bodyPost_ret (res2 rfl (by rfl) (set6 HZ2.out _ _ _ _ _ _) Try.underlying38 (by kernel_rfl)) rfl ⟨?_, below6 (HB0.out.trans (HB1.out.mono HS1.out)) (Nat.le_refl _) _ _ _ _ _ _⟩
              rw [HE.out]
              rfl
        · have HE := Lib.hid (show r = (zeroA, false) by rw [← HR.out, unpackA_4, if_neg (by rintro ⟨_, _, h, _⟩; exact h1 h)])
          rcases okI_no h1 with k1 | ⟨k1, e1⟩
          all_goals
            clear h0 h1
            go_enter Try.func23, Try.ntmps23
            go_wp2_with (go_at_call 17; go_loud (refine (HC.out _).mono ?_; rintro en w2 ⟨rfl, hb1⟩; have HB1 := Lib.hid hb1; have HA2 := Lib.hid (HA1.out.below (hb1.mono HS1.out)); have HZ2 := Lib.hid ((hb1.block _ (heap_lt HZ1.out)).trans HZ1.out); clear hb1; clear a0 a1 a2 b0 b1 b2 c0 c1 c2 d0 d1 d2 r0 r1 r2 r3 r4 r5 fr0 fr1 fr2 fr3 fr4 fr5 hlt; obtain ⟨_, _, e9, _, ⟨a0, a1, a2⟩, ⟨b0, b1, b2⟩, ⟨c0, c1, c2⟩, d0, d1, d2⟩ := row4 HA2.out; cases e9; obtain ⟨⟨r0, r1, r2, r3, r4, r5⟩, fr0, fr1, fr2, fr3, fr4, fr5⟩ := blk6 HZ2.out; have hlt := heap_lt HZ2.out))
            refine wp_loop_rounds 4 ?_
            iterate 2 (rw [rounds_succ]; go_wp2)
            refine bodyPost_ret (res2 rfl (by rfl) (set6 HZ2.out _ _ _ _ _ _) Try.underlying38 (by kernel_rfl)) rfl ⟨?_, below6 (HB0.out.trans (HB1.out.mono HS1.out)) (Nat.le_refl _) _ _ _ _ _ _⟩
            rw [HE.out]
            rfl
      · have HE := Lib.hid (show r = (zeroA, false) by rw [← HR.out, unpackA_4, if_neg (by rintro ⟨_, h, _⟩; exact h0 h)])
        rcases okI_no h0 with k0 | ⟨k0, e0⟩
        all_goals
          clear h0
          go_enter Try.func23, Try.ntmps23
          go_wp2_with (go_at_call 17; go_loud (refine (HC.out _).mono ?_; rintro en w2 ⟨rfl, hb1⟩; have HB1 := Lib.hid hb1; have HA2 := Lib.hid (HA1.out.below (hb1.mono HS1.out)); have HZ2 := Lib.hid ((hb1.block _ (heap_lt HZ1.out)).trans HZ1.out); clear hb1; clear a0 a1 a2 b0 b1 b2 c0 c1 c2 d0 d1 d2 r0 r1 r2 r3 r4 r5 fr0 fr1 fr2 fr3 fr4 fr5 hlt; obtain ⟨_, _, e9, _, ⟨a0, a1, a2⟩, ⟨b0, b1, b2⟩, ⟨c0, c1, c2⟩, d0, d1, d2⟩ := row4 HA2.out; cases e9; obtain ⟨⟨r0, r1, r2, r3, r4, r5⟩, fr0, fr1, fr2, fr3, fr4, fr5⟩ := blk6 HZ2.out; have hlt := heap_lt HZ2.out))
          refine wp_loop_rounds 4 ?_
          rw [rounds_succ]
          go_wp2
          refine bodyPost_ret (res2 rfl (by rfl) (set6 HZ2.out _ _ _ _ _ _) Try.underlying38 (by kernel_rfl)) rfl ⟨?_, below6 (HB0.out.trans (HB1.out.mono HS1.out)) (Nat.le_refl _) _ _ _ _ _ _⟩
          rw [HE.out]
          rfl
    · have q1 : (ch != 0) = true := by simpa using hc0
      have HE := Lib.hid (show r = (zeroA, false) by rw [← HR.out]; rw [unpackA_4, if_neg (by rintro ⟨h, _⟩; rw [HCC.out] at h; exact hc0 h)])
      clear hc0
      go_enter Try.func23, Try.ntmps23
      go_wp2_with (go_at_call 17; go_loud (refine (HC.out _).mono ?_; rintro en w2 ⟨rfl, hb1⟩; have HB1 := Lib.hid hb1; have HA2 := Lib.hid (HA1.out.below (hb1.mono HS1.out)); have HZ2 := Lib.hid ((hb1.block _ (heap_lt HZ1.out)).trans HZ1.out); clear hb1; clear a0 a1 a2 b0 b1 b2 c0 c1 c2 d0 d1 d2 r0 r1 r2 r3 r4 r5 fr0 fr1 fr2 fr3 fr4 fr5 hlt; obtain ⟨_, _, e9, _, ⟨a0, a1, a2⟩, ⟨b0, b1, b2⟩, ⟨c0, c1, c2⟩, d0, d1, d2⟩ := row4 HA2.out; cases e9; obtain ⟨⟨r0, r1, r2, r3, r4, r5⟩, fr0, fr1, fr2, fr3, fr4, fr5⟩ := blk6 HZ2.out; have hlt := heap_lt HZ2.out))
      refine bodyPost_ret (res2 rfl (by rfl) (set6 HZ2.out _ _ _ _ _ _) Try.underlying38 (by kernel_rfl)) rfl ⟨?_, below6 (HB0.out.trans (HB1.out.mono HS1.out)) (Nat.le_refl _) _ _ _ _ _ _⟩
      rw [HE.out]
      rfl
  · have q0 : ((n : Int) != 4) = true := by simp; omega
    rw [unpackA_len (by omega)]
    unfold Ac.V
    clear h4 hl hA hw
    go_enter Try.func23, Try.ntmps23
    go_wp2
    exact bodyPost_ret (res2 rfl (by rfl) (World.alloc_heap_new w _) Try.underlying38 (by kernel_rfl)) rfl ⟨rfl, (Below.refl _ _).alloc (Nat.le_refl _) _⟩
end Go.Proofs.Ytihgcfokenabgaa
