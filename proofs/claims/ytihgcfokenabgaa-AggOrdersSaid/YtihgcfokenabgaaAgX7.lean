/- Layer 15, walked: Unpack. -/
import Derived.Test.YtihgcfokenabgaaAgX5
import Derived.Test.YtihgcfokenabgaaAgX6
namespace Go.Proofs.Ytihgcfokenabgaa
open Go Go.ChangeShapes Go.WideShapes Go.ChangeAt Go.RowKit
set_option linter.unusedVariables false
set_option linter.unusedSimpArgs false
/-- Unpack's error. -/
def errU (b : Bool) : Int := if b = true then 0 else 151
theorem okI_eq {v : V} : okI v ↔ intA v.n = v := by
  obtain ⟨k, n, s⟩ := v
  unfold okI intA
  dsimp only
  constructor
  · rintro ⟨rfl, h⟩
    rw [empty_of_size h]
  · intro h
    rw [V.mk.injEq] at h
    exact ⟨h.1.symm, by rw [← h.2.2]; rfl⟩
theorem pack_of {n0 n1 n2 : Int} {v : V} (h1 : In64 n1) (h2 : In64 n2) : packA ⟨n0, ofParts n1 (IntKind.u64.wrap n2), v⟩ = [intA n0, intA n1, intA n2, v] := by
  unfold packA
  dsimp only
  rw [hi_parts h1 (by rw [IntKind.wrap_u64]; omega) (by rw [IntKind.wrap_u64]; omega), lo_parts (by rw [IntKind.wrap_u64]; omega) (by rw [IntKind.wrap_u64]; omega)]
  have : wrap64 (IntKind.u64.wrap n2) = n2 := by unfold wrap64; rw [IntKind.wrap_u64]; unfold In64 at h2; omega
  rw [this]
def SR (b off : Nat) (v0 v1 v2 v3 : V) (W : World) : Prop := W.cell? ⟨b, off + 1, none⟩ = some (.int .i64 v0.n) ∧ W.cell? ⟨b, off + 4, none⟩ = some (.int .i64 v1.n) ∧ W.cell? ⟨b, off + 7, none⟩ = some (.int .i64 v2.n) ∧ W.cell? ⟨b, off + 9, none⟩ = some (.int .i64 v3.k) ∧ W.cell? ⟨b, off + 10, none⟩ = some (.int .i64 v3.n) ∧ W.cell? ⟨b, off + 11, none⟩ = some (.string v3.s)
theorem sr_of {b off B : Nat} {v0 v1 v2 v3 : V} {W : World} (h : Row3 W B (some ⟨b, off, none⟩) [v0, v1, v2, v3]) : SR b off v0 v1 v2 v3 W := by
  obtain ⟨_, _, e9, _, ⟨a0, a1, a2⟩, ⟨b0, b1, b2⟩, ⟨c0, c1, c2⟩, d0, d1, d2⟩ := row4 h
  cases e9
  exact ⟨a1, b1, c1, d0, d1, d2⟩
theorem HS2a {w W : World} (h : Below w.heap.size w W) : w.heap.size ≤ W.heap.size := h.size
set_option maxHeartbeats 4000000 in
set_option maxRecDepth 100000 in
theorem aunpack_any (l : List V) (hw : ∀ v ∈ l, v.wf) (n c : Nat) (A : Option Addr) (w : World) (hl : n = l.length) (hA : Row3 w w.heap.size A l) :
    Calls Try.prog 22 #[.slice A n c] w fun e w' => e = .returned (.tuple #[(unpackA l).1.V, .int .i64 (errU (unpackA l).2)]) ∧ Below w.heap.size w w' := by
  by_cases h4 : n = 4
  · subst h4
    obtain ⟨v0, v1, v2, v3, rfl⟩ : ∃ v0 v1 v2 v3, l = [v0, v1, v2, v3] := by
      match l, hl with
      | [a, b, c, d], _ => exact ⟨a, b, c, d, rfl⟩
    obtain ⟨b, off, rfl, hb, _⟩ := row4 hA
    have HC := Lib.hid (fun W => check_any v3 (hw _ (by simp)) W)
    have i1 : In64 v1.n := by have := (hw v1 (by simp)).2.1; unfold in64 at this; unfold In64; exact this
    have i2 : In64 v2.n := by have := (hw v2 (by simp)).2.1; unfold in64 at this; unfold In64; exact this
    have HV1 := Lib.hid i1
    obtain ⟨q, hq⟩ : ∃ q : Bool, q = true ↔ [intA v0.n, intA v1.n, intA v2.n, v3] = [v0, v1, v2, v3] := ⟨decide (okI v0 ∧ okI v1 ∧ okI v2), by
      rw [decide_eq_true_eq, okI_eq, okI_eq, okI_eq]
      simp⟩
    have HQ := Lib.hid (fun (c1 : Nat) (A1 : Option Addr) (W : World) (h1 : Row3 W W.heap.size A1 [intA v0.n, intA v1.n, intA v2.n, v3]) (h2 : Row3 W W.heap.size (some ⟨b, off, none⟩) [v0, v1, v2, v3]) => seq4_any _ _ _ _ _ _ _ _ q hq c1 c A1 (some ⟨b, off, none⟩) W h1 h2)
    have HQQ := Lib.hid (show q = true ↔ okI v0 ∧ okI v1 ∧ okI v2 by
      rw [hq, okI_eq, okI_eq, okI_eq]
      simp)
    have HP := Lib.hid (fun W => apack_any ⟨v0.n, ofParts v1.n (IntKind.u64.wrap v2.n), v3⟩ W)
    rw [pack_of i1 i2] at HP
    unfold Ac.V at HP
    dsimp only at HP
    rw [hi_parts i1 (by rw [IntKind.wrap_u64]; omega) (by rw [IntKind.wrap_u64]; omega), lo_parts (by rw [IntKind.wrap_u64]; omega) (by rw [IntKind.wrap_u64]; omega)] at HP
    obtain ⟨W1, hW1⟩ : ∃ W1, w.alloc (.cells #[.int .i64 0, .int .i64 0, .int .u64 0, .int .i64 0, .int .i64 0, .string ⟨#[]⟩] 35) = W1 := ⟨_, rfl⟩
    have HB0 : Hid (Below w.heap.size w W1) := Lib.hid (by rw [← hW1]; exact (Below.refl _ _).alloc (Nat.le_refl _) _)
    have HZ1 : Hid (W1.heap[w.heap.size]? = some (.cells #[.int .i64 0, .int .i64 0, .int .u64 0, .int .i64 0, .int .i64 0, .string ⟨#[]⟩] 35)) := Lib.hid (by rw [← hW1]; exact World.alloc_heap_new _ _)
    have HA1 := Lib.hid (hA.below HB0.out)
    have HS1 : Hid (w.heap.size ≤ W1.heap.size) := Lib.hid HB0.out.size
    obtain ⟨_, _, e9, _, ⟨a0, a1, a2⟩, ⟨b0, b1, b2⟩, ⟨c0, c1, c2⟩, d0, d1, d2⟩ := row4 HA1.out; cases e9; obtain ⟨⟨r0, r1, r2, r3, r4, r5⟩, fr0, fr1, fr2, fr3, fr4, fr5⟩ := blk6 HZ1.out; have hlt := heap_lt HZ1.out
    obtain ⟨r, hr⟩ : ∃ r, unpackA [v0, v1, v2, v3] = r := ⟨_, rfl⟩
    have HR := Lib.hid hr
    rw [hr]
    obtain ⟨ch, hc⟩ : ∃ c, chk v3 = c := ⟨_, rfl⟩
    rw [hc] at HC
    have HCC := Lib.hid hc
    unfold Ac.V
    unfold V.val at HC
    clear hr hc hA hl hw i1 i2 hq
    by_cases hc0 : ch = 0
    · subst hc0
      cases q with
      | true =>
        have HE := Lib.hid (show r = (⟨v0.n, ofParts v1.n (IntKind.u64.wrap v2.n), v3⟩, true) by rw [← HR.out, unpackA_4, if_pos ⟨HCC.out, HQQ.out.1 rfl⟩])
        go_enter Try.func22, Try.ntmps22
        go_wp2_with (go_at_call 27; go_loud (refine (HC.out _).mono ?_; rintro en w2 ⟨rfl, hb1⟩; have HB1 := Lib.hid (hop1 HB0.out hb1); have HA2 := Lib.hid (HA1.out.below (hb1.mono HS1.out)); have HZ2 := Lib.hid ((hb1.block _ (heap_lt HZ1.out)).trans HZ1.out); clear hb1; clear a0 a1 a2 b0 b1 b2 c0 c1 c2 d0 d1 d2 r0 r1 r2 r3 r4 r5 fr0 fr1 fr2 fr3 fr4 fr5 hlt; obtain ⟨_, _, e9, _, ⟨a0, a1, a2⟩, ⟨b0, b1, b2⟩, ⟨c0, c1, c2⟩, d0, d1, d2⟩ := row4 HA2.out; cases e9; obtain ⟨⟨r0, r1, r2, r3, r4, r5⟩, fr0, fr1, fr2, fr3, fr4, fr5⟩ := blk6 HZ2.out; have hlt := heap_lt HZ2.out))
        obtain ⟨W3, hW3⟩ : ∃ W3, w2.drew = W3 := ⟨_, rfl⟩
        obtain ⟨g, hg⟩ : ∃ g, W3.heap.size = g := ⟨_, rfl⟩
        obtain ⟨w4, hw4⟩ : ∃ w4, W3.alloc (.cells #[.int .i64 0, .int .i64 0, .int .u64 0, .int .i64 0, .int .i64 0, .string ⟨#[]⟩] 35) = w4 := ⟨_, rfl⟩
        obtain ⟨W5, hW5⟩ : ∃ W5, (((((w4.setCell ⟨g, 0, none⟩ (.int .i64 v0.n)).setCell ⟨g, 1, none⟩ (.int .i64 v1.n)).setCell ⟨g, 2, none⟩ (.int .u64 (IntKind.u64.wrap v2.n))).setCell ⟨g, 3, none⟩ (.int .i64 v3.k)).setCell ⟨g, 4, none⟩ (.int .i64 v3.n)).setCell ⟨g, 5, none⟩ (.string v3.s) = W5 := ⟨_, rfl⟩
        have B3 : Below w2.heap.size w2 W3 := by rw [← hW3]; exact (Below.refl _ _).drew
        have hgl : w2.heap.size = g := by rw [← hg, ← hW3]; rfl
        have B4 : Below w2.heap.size w2 w4 := by rw [← hw4]; exact B3.alloc B3.size _
        have HO4 : w4.heap[g]? = some (.cells #[.int .i64 0, .int .i64 0, .int .u64 0, .int .i64 0, .int .i64 0, .string ⟨#[]⟩] 35) := by rw [← hw4, ← hg]; exact World.alloc_heap_new _ _
        have HO5 := Lib.hid (show W5.heap[g]? = some (.cells #[.int .i64 v0.n, .int .i64 v1.n, .int .u64 (IntKind.u64.wrap v2.n), .int .i64 v3.k, .int .i64 v3.n, .string v3.s] 35) by rw [← hW5]; exact set6 HO4 _ _ _ _ _ _)
        have B5' : Below w2.heap.size w2 W5 := by rw [← hW5]; exact below6 B4 (by omega) _ _ _ _ _ _
        have HA5 := Lib.hid ((HA2.out.below (B5'.mono (HS2a HB1.out))))
        have HB5 := Lib.hid (hop1 HB1.out B5')
        have HZ5 := Lib.hid ((B5'.block _ (heap_lt HZ2.out)).trans HZ2.out)
        have HGL := Lib.hid (show w.heap.size < g by rw [← hgl]; exact heap_lt HZ2.out)
        have hS : SR b off v0 v1 v2 v3 W3 := sr_of (HA2.out.below (B3.mono (HS2a HB1.out)))
        have hS4 := Lib.hid (sr_of (HA2.out.below (B4.mono (HS2a HB1.out))))
        have hS5 := Lib.hid (sr_of HA5.out)
        obtain ⟨⟨o0, o1, o2, o3, o4, o5⟩, fo0, fo1, fo2, fo3, fo4, fo5⟩ := blk6 HO4
        have hlo := heap_lt HO4
        clear B3 B4 B5' hgl HO4 a0 a1 a2 b0 b1 b2 c0 c1 c2 d0 d1 d2 r0 r1 r2 r3 r4 r5 fr0 fr1 fr2 fr3 fr4 fr5 hlt
        refine held_begin 20 (fun W => SR b off v0 v1 v2 v3 W) rfl (by kernel_rfl) ?_
        rw [hW3]
        clear hW3
        refine held_take (i := 0) (t := 16) (v := (.slice (some ⟨b, off, none⟩) 4 c)) (fuel := 19) rfl rfl (by kernel_rfl) (by kernel_rfl) (by kernel_rfl) (fun _ _ _ h => h) (.inl ⟨rfl, fun W hW => by obtain ⟨s0, s1, s2, s3, s4, s5⟩ := hW; simp [execOp, Act.eval, go_sem, s0, s1, s2, s3, s4, s5]⟩) hS ?_
        simp only [List.setIfInBounds_toArray, List.set_cons_succ, List.set_cons_zero]
        refine held_take (i := 1) (t := 17) (v := (.pointer (some ⟨b, off, none⟩))) (fuel := 18) rfl rfl (by kernel_rfl) (by kernel_rfl) (by kernel_rfl) (fun _ _ _ h => h) (.inl ⟨rfl, fun W hW => by obtain ⟨s0, s1, s2, s3, s4, s5⟩ := hW; simp [execOp, Act.eval, go_sem, s0, s1, s2, s3, s4, s5]⟩) hS ?_
        simp only [List.setIfInBounds_toArray, List.set_cons_succ, List.set_cons_zero]
        refine held_take (i := 2) (t := 18) (v := (.pointer (some ⟨b, off + 1, none⟩))) (fuel := 17) rfl rfl (by kernel_rfl) (by kernel_rfl) (by kernel_rfl) (fun _ _ _ h => h) (.inl ⟨rfl, fun W hW => by obtain ⟨s0, s1, s2, s3, s4, s5⟩ := hW; simp [execOp, Act.eval, go_sem, s0, s1, s2, s3, s4, s5]⟩) hS ?_
        simp only [List.setIfInBounds_toArray, List.set_cons_succ, List.set_cons_zero]
        refine held_take (i := 3) (t := 19) (v := (.int .i64 v0.n)) (fuel := 16) rfl rfl (by kernel_rfl) (by kernel_rfl) (by kernel_rfl) (fun _ _ _ h => h) (.inl ⟨rfl, fun W hW => by obtain ⟨s0, s1, s2, s3, s4, s5⟩ := hW; simp [execOp, Act.eval, go_sem, s0, s1, s2, s3, s4, s5]⟩) hS ?_
        simp only [List.setIfInBounds_toArray, List.set_cons_succ, List.set_cons_zero]
        refine held_take (i := 4) (t := 20) (v := (.slice (some ⟨b, off, none⟩) 4 c)) (fuel := 15) rfl rfl (by kernel_rfl) (by kernel_rfl) (by kernel_rfl) (fun _ _ _ h => h) (.inl ⟨rfl, fun W hW => by obtain ⟨s0, s1, s2, s3, s4, s5⟩ := hW; simp [execOp, Act.eval, go_sem, s0, s1, s2, s3, s4, s5]⟩) hS ?_
        simp only [List.setIfInBounds_toArray, List.set_cons_succ, List.set_cons_zero]
        refine held_take (i := 5) (t := 21) (v := (.pointer (some ⟨b, off + 3, none⟩))) (fuel := 14) rfl rfl (by kernel_rfl) (by kernel_rfl) (by kernel_rfl) (fun _ _ _ h => h) (.inl ⟨rfl, fun W hW => by obtain ⟨s0, s1, s2, s3, s4, s5⟩ := hW; simp [execOp, Act.eval, go_sem, s0, s1, s2, s3, s4, s5]⟩) hS ?_
        simp only [List.setIfInBounds_toArray, List.set_cons_succ, List.set_cons_zero]
        refine held_take (i := 6) (t := 22) (v := (.pointer (some ⟨b, off + 4, none⟩))) (fuel := 13) rfl rfl (by kernel_rfl) (by kernel_rfl) (by kernel_rfl) (fun _ _ _ h => h) (.inl ⟨rfl, fun W hW => by obtain ⟨s0, s1, s2, s3, s4, s5⟩ := hW; simp [execOp, Act.eval, go_sem, s0, s1, s2, s3, s4, s5]⟩) hS ?_
        simp only [List.setIfInBounds_toArray, List.set_cons_succ, List.set_cons_zero]
        refine held_take (i := 7) (t := 23) (v := (.int .i64 v1.n)) (fuel := 12) rfl rfl (by kernel_rfl) (by kernel_rfl) (by kernel_rfl) (fun _ _ _ h => h) (.inl ⟨rfl, fun W hW => by obtain ⟨s0, s1, s2, s3, s4, s5⟩ := hW; simp [execOp, Act.eval, go_sem, s0, s1, s2, s3, s4, s5]⟩) hS ?_
        simp only [List.setIfInBounds_toArray, List.set_cons_succ, List.set_cons_zero]
        refine held_take (i := 8) (t := 24) (v := (.slice (some ⟨b, off, none⟩) 4 c)) (fuel := 11) rfl rfl (by kernel_rfl) (by kernel_rfl) (by kernel_rfl) (fun _ _ _ h => h) (.inl ⟨rfl, fun W hW => by obtain ⟨s0, s1, s2, s3, s4, s5⟩ := hW; simp [execOp, Act.eval, go_sem, s0, s1, s2, s3, s4, s5]⟩) hS ?_
        simp only [List.setIfInBounds_toArray, List.set_cons_succ, List.set_cons_zero]
        refine held_take (i := 9) (t := 25) (v := (.pointer (some ⟨b, off + 6, none⟩))) (fuel := 10) rfl rfl (by kernel_rfl) (by kernel_rfl) (by kernel_rfl) (fun _ _ _ h => h) (.inl ⟨rfl, fun W hW => by obtain ⟨s0, s1, s2, s3, s4, s5⟩ := hW; simp [execOp, Act.eval, go_sem, s0, s1, s2, s3, s4, s5]⟩) hS ?_
        simp only [List.setIfInBounds_toArray, List.set_cons_succ, List.set_cons_zero]
        refine held_take (i := 10) (t := 26) (v := (.pointer (some ⟨b, off + 7, none⟩))) (fuel := 9) rfl rfl (by kernel_rfl) (by kernel_rfl) (by kernel_rfl) (fun _ _ _ h => h) (.inl ⟨rfl, fun W hW => by obtain ⟨s0, s1, s2, s3, s4, s5⟩ := hW; simp [execOp, Act.eval, go_sem, s0, s1, s2, s3, s4, s5]⟩) hS ?_
        simp only [List.setIfInBounds_toArray, List.set_cons_succ, List.set_cons_zero]
        refine held_take (i := 11) (t := 27) (v := (.int .i64 v2.n)) (fuel := 8) rfl rfl (by kernel_rfl) (by kernel_rfl) (by kernel_rfl) (fun _ _ _ h => h) (.inl ⟨rfl, fun W hW => by obtain ⟨s0, s1, s2, s3, s4, s5⟩ := hW; simp [execOp, Act.eval, go_sem, s0, s1, s2, s3, s4, s5]⟩) hS ?_
        simp only [List.setIfInBounds_toArray, List.set_cons_succ, List.set_cons_zero]
        refine held_take (i := 12) (t := 28) (v := (.int .u64 (IntKind.u64.wrap v2.n))) (fuel := 7) rfl rfl (by kernel_rfl) (by kernel_rfl) (by kernel_rfl) (fun _ _ _ h => h) (.inl ⟨rfl, fun W hW => by obtain ⟨s0, s1, s2, s3, s4, s5⟩ := hW; simp [execOp, Act.eval, go_sem, s0, s1, s2, s3, s4, s5]⟩) hS ?_
        simp only [List.setIfInBounds_toArray, List.set_cons_succ, List.set_cons_zero]
        refine held_take (i := 13) (t := 29) (v := (.agg #[.int .i64 v1.n, .int .u64 (IntKind.u64.wrap v2.n)])) (fuel := 6) rfl rfl (by kernel_rfl) (by kernel_rfl) (by kernel_rfl) (fun _ _ _ h => h) (.inl ⟨rfl, fun W hW => by obtain ⟨s0, s1, s2, s3, s4, s5⟩ := hW; simp [execOp, Act.eval, go_sem, s0, s1, s2, s3, s4, s5]⟩) hS ?_
        simp only [List.setIfInBounds_toArray, List.set_cons_succ, List.set_cons_zero]
        refine held_take (i := 14) (t := 30) (v := (.slice (some ⟨b, off, none⟩) 4 c)) (fuel := 5) rfl rfl (by kernel_rfl) (by kernel_rfl) (by kernel_rfl) (fun _ _ _ h => h) (.inl ⟨rfl, fun W hW => by obtain ⟨s0, s1, s2, s3, s4, s5⟩ := hW; simp [execOp, Act.eval, go_sem, s0, s1, s2, s3, s4, s5]⟩) hS ?_
        simp only [List.setIfInBounds_toArray, List.set_cons_succ, List.set_cons_zero]
        refine held_take (i := 15) (t := 31) (v := (.pointer (some ⟨b, off + 9, none⟩))) (fuel := 4) rfl rfl (by kernel_rfl) (by kernel_rfl) (by kernel_rfl) (fun _ _ _ h => h) (.inl ⟨rfl, fun W hW => by obtain ⟨s0, s1, s2, s3, s4, s5⟩ := hW; simp [execOp, Act.eval, go_sem, s0, s1, s2, s3, s4, s5]⟩) hS ?_
        simp only [List.setIfInBounds_toArray, List.set_cons_succ, List.set_cons_zero]
        refine held_take (i := 16) (t := 32) (v := (.agg #[.int .i64 v3.k, .int .i64 v3.n, .string v3.s])) (fuel := 3) rfl rfl (by kernel_rfl) (by kernel_rfl) (by kernel_rfl) (fun _ _ _ h => h) (.inl ⟨rfl, fun W hW => by obtain ⟨s0, s1, s2, s3, s4, s5⟩ := hW; simp [execOp, Act.eval, go_sem, s0, s1, s2, s3, s4, s5]⟩) hS ?_
        simp only [List.setIfInBounds_toArray, List.set_cons_succ, List.set_cons_zero]
        refine held_take (i := 17) (t := 33) (v := (.agg #[.int .i64 v0.n, .int .i64 v1.n, .int .u64 (IntKind.u64.wrap v2.n), .int .i64 v3.k, .int .i64 v3.n, .string v3.s])) (fuel := 2) rfl rfl (by kernel_rfl) (by kernel_rfl) (by kernel_rfl) (fun _ _ _ h => h) (.inl ⟨rfl, fun W hW => by obtain ⟨s0, s1, s2, s3, s4, s5⟩ := hW; simp [execOp, Act.eval, go_sem, s0, s1, s2, s3, s4, s5]⟩) hS ?_
        simp only [List.setIfInBounds_toArray, List.set_cons_succ, List.set_cons_zero]
        refine held_call (i := 18) rfl (by kernel_rfl) (by kernel_rfl) ?_
        simp [Oper.wp, execOp, Act.eval, Act.put, go_sem]
        rw [hw4, hg]
        refine ⟨hS4.out, ?_⟩
        clear hS hw4
        try simp only [List.setIfInBounds_toArray, List.set_cons_succ, List.set_cons_zero]
        refine held_call (i := 19) rfl (by kernel_rfl) (by kernel_rfl) ?_
        simp [Oper.wp, execOp, Act.eval, Act.put, go_sem, o0, o1, o2, o3, o4, o5, fo0, fo1, fo2, fo3, fo4, fo5, hlo]
        rw [hW5]
        refine ⟨hS5.out, ?_⟩
        clear hW5 o0 o1 o2 o3 o4 o5 fo0 fo1 fo2 fo3 fo4 fo5 hlo
        try simp only [List.setIfInBounds_toArray, List.set_cons_succ, List.set_cons_zero]
        refine wpAnyH_done (by kernel_rfl) ?_ 0
        obtain ⟨⟨o0, o1, o2, o3, o4, o5⟩, _⟩ := blk6 HO5.out
        go_wp2_with (first
          | (go_at_call 19; go_loud (refine (HP.out _).mono ?_; rintro en w6 ⟨A6, c6, rfl, hr6, hb6⟩; have HB6 := Lib.hid (hop1 HB5.out hb6); have HR6 := Lib.hid hr6; have HA6 := Lib.hid (HA5.out.below (hb6.mono (HS2a HB5.out))); have HO6 := Lib.hid ((hb6.block _ (heap_lt HO5.out)).trans HO5.out); have HZ6 := Lib.hid ((hb6.block _ (heap_lt HZ5.out)).trans HZ5.out); clear hb6 hr6 o0 o1 o2 o3 o4 o5))
          | (go_at_call 37; go_loud (refine (HQ.out _ _ _ HR6.out (HA6.out.more HB6.out.size)).mono ?_; rintro en w7 ⟨rfl, hb7⟩; have HB7 := Lib.hid (hop1 HB6.out hb7); have HO7 := Lib.hid ((hb7.block _ (heap_lt HO6.out)).trans HO6.out); have HZ7 := Lib.hid ((hb7.block _ (heap_lt HZ6.out)).trans HZ6.out); clear hb7; obtain ⟨⟨o0, o1, o2, o3, o4, o5⟩, _⟩ := blk6 HO7.out; obtain ⟨⟨r0, r1, r2, r3, r4, r5⟩, fr0, fr1, fr2, fr3, fr4, fr5⟩ := blk6 HZ7.out; have hlt := heap_lt HZ7.out; have hlo := heap_lt HO7.out; have n1 : w.heap.size ≠ g := (by have := HGL.out; omega); have n2 : g ≠ w.heap.size := (by have := HGL.out; omega))))
        refine bodyPost_ret (res2 rfl (by rfl) (set6 HZ7.out _ _ _ _ _ _) Try.underlying35 (by kernel_rfl)) rfl ⟨?_, below6 HB7.out (Nat.le_refl _) _ _ _ _ _ _⟩
        rw [HE.out]
        dsimp only
        rw [hi_parts HV1.out (by rw [IntKind.wrap_u64]; omega) (by rw [IntKind.wrap_u64]; omega), lo_parts (by rw [IntKind.wrap_u64]; omega) (by rw [IntKind.wrap_u64]; omega)]
        rfl
      | false =>
        have HE := Lib.hid (show r = (zeroA, false) by rw [← HR.out, unpackA_4, if_neg (by rintro ⟨_, h⟩; have := HQQ.out.2 h; cases this)])
        go_enter Try.func22, Try.ntmps22
        go_wp2_with (go_at_call 27; go_loud (refine (HC.out _).mono ?_; rintro en w2 ⟨rfl, hb1⟩; have HB1 := Lib.hid (hop1 HB0.out hb1); have HA2 := Lib.hid (HA1.out.below (hb1.mono HS1.out)); have HZ2 := Lib.hid ((hb1.block _ (heap_lt HZ1.out)).trans HZ1.out); clear hb1; clear a0 a1 a2 b0 b1 b2 c0 c1 c2 d0 d1 d2 r0 r1 r2 r3 r4 r5 fr0 fr1 fr2 fr3 fr4 fr5 hlt; obtain ⟨_, _, e9, _, ⟨a0, a1, a2⟩, ⟨b0, b1, b2⟩, ⟨c0, c1, c2⟩, d0, d1, d2⟩ := row4 HA2.out; cases e9; obtain ⟨⟨r0, r1, r2, r3, r4, r5⟩, fr0, fr1, fr2, fr3, fr4, fr5⟩ := blk6 HZ2.out; have hlt := heap_lt HZ2.out))
        obtain ⟨W3, hW3⟩ : ∃ W3, w2.drew = W3 := ⟨_, rfl⟩
        obtain ⟨g, hg⟩ : ∃ g, W3.heap.size = g := ⟨_, rfl⟩
        obtain ⟨w4, hw4⟩ : ∃ w4, W3.alloc (.cells #[.int .i64 0, .int .i64 0, .int .u64 0, .int .i64 0, .int .i64 0, .string ⟨#[]⟩] 35) = w4 := ⟨_, rfl⟩
        obtain ⟨W5, hW5⟩ : ∃ W5, (((((w4.setCell ⟨g, 0, none⟩ (.int .i64 v0.n)).setCell ⟨g, 1, none⟩ (.int .i64 v1.n)).setCell ⟨g, 2, none⟩ (.int .u64 (IntKind.u64.wrap v2.n))).setCell ⟨g, 3, none⟩ (.int .i64 v3.k)).setCell ⟨g, 4, none⟩ (.int .i64 v3.n)).setCell ⟨g, 5, none⟩ (.string v3.s) = W5 := ⟨_, rfl⟩
        have B3 : Below w2.heap.size w2 W3 := by rw [← hW3]; exact (Below.refl _ _).drew
        have hgl : w2.heap.size = g := by rw [← hg, ← hW3]; rfl
        have B4 : Below w2.heap.size w2 w4 := by rw [← hw4]; exact B3.alloc B3.size _
        have HO4 : w4.heap[g]? = some (.cells #[.int .i64 0, .int .i64 0, .int .u64 0, .int .i64 0, .int .i64 0, .string ⟨#[]⟩] 35) := by rw [← hw4, ← hg]; exact World.alloc_heap_new _ _
        have HO5 := Lib.hid (show W5.heap[g]? = some (.cells #[.int .i64 v0.n, .int .i64 v1.n, .int .u64 (IntKind.u64.wrap v2.n), .int .i64 v3.k, .int .i64 v3.n, .string v3.s] 35) by rw [← hW5]; exact set6 HO4 _ _ _ _ _ _)
        have B5' : Below w2.heap.size w2 W5 := by rw [← hW5]; exact below6 B4 (by omega) _ _ _ _ _ _
        have HA5 := Lib.hid ((HA2.out.below (B5'.mono (HS2a HB1.out))))
        have HB5 := Lib.hid (hop1 HB1.out B5')
        have HZ5 := Lib.hid ((B5'.block _ (heap_lt HZ2.out)).trans HZ2.out)
        have HGL := Lib.hid (show w.heap.size < g by rw [← hgl]; exact heap_lt HZ2.out)
        have hS : SR b off v0 v1 v2 v3 W3 := sr_of (HA2.out.below (B3.mono (HS2a HB1.out)))
        have hS4 := Lib.hid (sr_of (HA2.out.below (B4.mono (HS2a HB1.out))))
        have hS5 := Lib.hid (sr_of HA5.out)
        obtain ⟨⟨o0, o1, o2, o3, o4, o5⟩, fo0, fo1, fo2, fo3, fo4, fo5⟩ := blk6 HO4
        have hlo := heap_lt HO4
        clear B3 B4 B5' hgl HO4 a0 a1 a2 b0 b1 b2 c0 c1 c2 d0 d1 d2 r0 r1 r2 r3 r4 r5 fr0 fr1 fr2 fr3 fr4 fr5 hlt
        refine held_begin 20 (fun W => SR b off v0 v1 v2 v3 W) rfl (by kernel_rfl) ?_
        rw [hW3]
        clear hW3
        refine held_take (i := 0) (t := 16) (v := (.slice (some ⟨b, off, none⟩) 4 c)) (fuel := 19) rfl rfl (by kernel_rfl) (by kernel_rfl) (by kernel_rfl) (fun _ _ _ h => h) (.inl ⟨rfl, fun W hW => by obtain ⟨s0, s1, s2, s3, s4, s5⟩ := hW; simp [execOp, Act.eval, go_sem, s0, s1, s2, s3, s4, s5]⟩) hS ?_
        simp only [List.setIfInBounds_toArray, List.set_cons_succ, List.set_cons_zero]
        refine held_take (i := 1) (t := 17) (v := (.pointer (some ⟨b, off, none⟩))) (fuel := 18) rfl rfl (by kernel_rfl) (by kernel_rfl) (by kernel_rfl) (fun _ _ _ h => h) (.inl ⟨rfl, fun W hW => by obtain ⟨s0, s1, s2, s3, s4, s5⟩ := hW; simp [execOp, Act.eval, go_sem, s0, s1, s2, s3, s4, s5]⟩) hS ?_
        simp only [List.setIfInBounds_toArray, List.set_cons_succ, List.set_cons_zero]
        refine held_take (i := 2) (t := 18) (v := (.pointer (some ⟨b, off + 1, none⟩))) (fuel := 17) rfl rfl (by kernel_rfl) (by kernel_rfl) (by kernel_rfl) (fun _ _ _ h => h) (.inl ⟨rfl, fun W hW => by obtain ⟨s0, s1, s2, s3, s4, s5⟩ := hW; simp [execOp, Act.eval, go_sem, s0, s1, s2, s3, s4, s5]⟩) hS ?_
        simp only [List.setIfInBounds_toArray, List.set_cons_succ, List.set_cons_zero]
        refine held_take (i := 3) (t := 19) (v := (.int .i64 v0.n)) (fuel := 16) rfl rfl (by kernel_rfl) (by kernel_rfl) (by kernel_rfl) (fun _ _ _ h => h) (.inl ⟨rfl, fun W hW => by obtain ⟨s0, s1, s2, s3, s4, s5⟩ := hW; simp [execOp, Act.eval, go_sem, s0, s1, s2, s3, s4, s5]⟩) hS ?_
        simp only [List.setIfInBounds_toArray, List.set_cons_succ, List.set_cons_zero]
        refine held_take (i := 4) (t := 20) (v := (.slice (some ⟨b, off, none⟩) 4 c)) (fuel := 15) rfl rfl (by kernel_rfl) (by kernel_rfl) (by kernel_rfl) (fun _ _ _ h => h) (.inl ⟨rfl, fun W hW => by obtain ⟨s0, s1, s2, s3, s4, s5⟩ := hW; simp [execOp, Act.eval, go_sem, s0, s1, s2, s3, s4, s5]⟩) hS ?_
        simp only [List.setIfInBounds_toArray, List.set_cons_succ, List.set_cons_zero]
        refine held_take (i := 5) (t := 21) (v := (.pointer (some ⟨b, off + 3, none⟩))) (fuel := 14) rfl rfl (by kernel_rfl) (by kernel_rfl) (by kernel_rfl) (fun _ _ _ h => h) (.inl ⟨rfl, fun W hW => by obtain ⟨s0, s1, s2, s3, s4, s5⟩ := hW; simp [execOp, Act.eval, go_sem, s0, s1, s2, s3, s4, s5]⟩) hS ?_
        simp only [List.setIfInBounds_toArray, List.set_cons_succ, List.set_cons_zero]
        refine held_take (i := 6) (t := 22) (v := (.pointer (some ⟨b, off + 4, none⟩))) (fuel := 13) rfl rfl (by kernel_rfl) (by kernel_rfl) (by kernel_rfl) (fun _ _ _ h => h) (.inl ⟨rfl, fun W hW => by obtain ⟨s0, s1, s2, s3, s4, s5⟩ := hW; simp [execOp, Act.eval, go_sem, s0, s1, s2, s3, s4, s5]⟩) hS ?_
        simp only [List.setIfInBounds_toArray, List.set_cons_succ, List.set_cons_zero]
        refine held_take (i := 7) (t := 23) (v := (.int .i64 v1.n)) (fuel := 12) rfl rfl (by kernel_rfl) (by kernel_rfl) (by kernel_rfl) (fun _ _ _ h => h) (.inl ⟨rfl, fun W hW => by obtain ⟨s0, s1, s2, s3, s4, s5⟩ := hW; simp [execOp, Act.eval, go_sem, s0, s1, s2, s3, s4, s5]⟩) hS ?_
        simp only [List.setIfInBounds_toArray, List.set_cons_succ, List.set_cons_zero]
        refine held_take (i := 8) (t := 24) (v := (.slice (some ⟨b, off, none⟩) 4 c)) (fuel := 11) rfl rfl (by kernel_rfl) (by kernel_rfl) (by kernel_rfl) (fun _ _ _ h => h) (.inl ⟨rfl, fun W hW => by obtain ⟨s0, s1, s2, s3, s4, s5⟩ := hW; simp [execOp, Act.eval, go_sem, s0, s1, s2, s3, s4, s5]⟩) hS ?_
        simp only [List.setIfInBounds_toArray, List.set_cons_succ, List.set_cons_zero]
        refine held_take (i := 9) (t := 25) (v := (.pointer (some ⟨b, off + 6, none⟩))) (fuel := 10) rfl rfl (by kernel_rfl) (by kernel_rfl) (by kernel_rfl) (fun _ _ _ h => h) (.inl ⟨rfl, fun W hW => by obtain ⟨s0, s1, s2, s3, s4, s5⟩ := hW; simp [execOp, Act.eval, go_sem, s0, s1, s2, s3, s4, s5]⟩) hS ?_
        simp only [List.setIfInBounds_toArray, List.set_cons_succ, List.set_cons_zero]
        refine held_take (i := 10) (t := 26) (v := (.pointer (some ⟨b, off + 7, none⟩))) (fuel := 9) rfl rfl (by kernel_rfl) (by kernel_rfl) (by kernel_rfl) (fun _ _ _ h => h) (.inl ⟨rfl, fun W hW => by obtain ⟨s0, s1, s2, s3, s4, s5⟩ := hW; simp [execOp, Act.eval, go_sem, s0, s1, s2, s3, s4, s5]⟩) hS ?_
        simp only [List.setIfInBounds_toArray, List.set_cons_succ, List.set_cons_zero]
        refine held_take (i := 11) (t := 27) (v := (.int .i64 v2.n)) (fuel := 8) rfl rfl (by kernel_rfl) (by kernel_rfl) (by kernel_rfl) (fun _ _ _ h => h) (.inl ⟨rfl, fun W hW => by obtain ⟨s0, s1, s2, s3, s4, s5⟩ := hW; simp [execOp, Act.eval, go_sem, s0, s1, s2, s3, s4, s5]⟩) hS ?_
        simp only [List.setIfInBounds_toArray, List.set_cons_succ, List.set_cons_zero]
        refine held_take (i := 12) (t := 28) (v := (.int .u64 (IntKind.u64.wrap v2.n))) (fuel := 7) rfl rfl (by kernel_rfl) (by kernel_rfl) (by kernel_rfl) (fun _ _ _ h => h) (.inl ⟨rfl, fun W hW => by obtain ⟨s0, s1, s2, s3, s4, s5⟩ := hW; simp [execOp, Act.eval, go_sem, s0, s1, s2, s3, s4, s5]⟩) hS ?_
        simp only [List.setIfInBounds_toArray, List.set_cons_succ, List.set_cons_zero]
        refine held_take (i := 13) (t := 29) (v := (.agg #[.int .i64 v1.n, .int .u64 (IntKind.u64.wrap v2.n)])) (fuel := 6) rfl rfl (by kernel_rfl) (by kernel_rfl) (by kernel_rfl) (fun _ _ _ h => h) (.inl ⟨rfl, fun W hW => by obtain ⟨s0, s1, s2, s3, s4, s5⟩ := hW; simp [execOp, Act.eval, go_sem, s0, s1, s2, s3, s4, s5]⟩) hS ?_
        simp only [List.setIfInBounds_toArray, List.set_cons_succ, List.set_cons_zero]
        refine held_take (i := 14) (t := 30) (v := (.slice (some ⟨b, off, none⟩) 4 c)) (fuel := 5) rfl rfl (by kernel_rfl) (by kernel_rfl) (by kernel_rfl) (fun _ _ _ h => h) (.inl ⟨rfl, fun W hW => by obtain ⟨s0, s1, s2, s3, s4, s5⟩ := hW; simp [execOp, Act.eval, go_sem, s0, s1, s2, s3, s4, s5]⟩) hS ?_
        simp only [List.setIfInBounds_toArray, List.set_cons_succ, List.set_cons_zero]
        refine held_take (i := 15) (t := 31) (v := (.pointer (some ⟨b, off + 9, none⟩))) (fuel := 4) rfl rfl (by kernel_rfl) (by kernel_rfl) (by kernel_rfl) (fun _ _ _ h => h) (.inl ⟨rfl, fun W hW => by obtain ⟨s0, s1, s2, s3, s4, s5⟩ := hW; simp [execOp, Act.eval, go_sem, s0, s1, s2, s3, s4, s5]⟩) hS ?_
        simp only [List.setIfInBounds_toArray, List.set_cons_succ, List.set_cons_zero]
        refine held_take (i := 16) (t := 32) (v := (.agg #[.int .i64 v3.k, .int .i64 v3.n, .string v3.s])) (fuel := 3) rfl rfl (by kernel_rfl) (by kernel_rfl) (by kernel_rfl) (fun _ _ _ h => h) (.inl ⟨rfl, fun W hW => by obtain ⟨s0, s1, s2, s3, s4, s5⟩ := hW; simp [execOp, Act.eval, go_sem, s0, s1, s2, s3, s4, s5]⟩) hS ?_
        simp only [List.setIfInBounds_toArray, List.set_cons_succ, List.set_cons_zero]
        refine held_take (i := 17) (t := 33) (v := (.agg #[.int .i64 v0.n, .int .i64 v1.n, .int .u64 (IntKind.u64.wrap v2.n), .int .i64 v3.k, .int .i64 v3.n, .string v3.s])) (fuel := 2) rfl rfl (by kernel_rfl) (by kernel_rfl) (by kernel_rfl) (fun _ _ _ h => h) (.inl ⟨rfl, fun W hW => by obtain ⟨s0, s1, s2, s3, s4, s5⟩ := hW; simp [execOp, Act.eval, go_sem, s0, s1, s2, s3, s4, s5]⟩) hS ?_
        simp only [List.setIfInBounds_toArray, List.set_cons_succ, List.set_cons_zero]
        refine held_call (i := 18) rfl (by kernel_rfl) (by kernel_rfl) ?_
        simp [Oper.wp, execOp, Act.eval, Act.put, go_sem]
        rw [hw4, hg]
        refine ⟨hS4.out, ?_⟩
        clear hS hw4
        try simp only [List.setIfInBounds_toArray, List.set_cons_succ, List.set_cons_zero]
        refine held_call (i := 19) rfl (by kernel_rfl) (by kernel_rfl) ?_
        simp [Oper.wp, execOp, Act.eval, Act.put, go_sem, o0, o1, o2, o3, o4, o5, fo0, fo1, fo2, fo3, fo4, fo5, hlo]
        rw [hW5]
        refine ⟨hS5.out, ?_⟩
        clear hW5 o0 o1 o2 o3 o4 o5 fo0 fo1 fo2 fo3 fo4 fo5 hlo
        try simp only [List.setIfInBounds_toArray, List.set_cons_succ, List.set_cons_zero]
        refine wpAnyH_done (by kernel_rfl) ?_ 0
        obtain ⟨⟨o0, o1, o2, o3, o4, o5⟩, _⟩ := blk6 HO5.out
        go_wp2_with (first
          | (go_at_call 19; go_loud (refine (HP.out _).mono ?_; rintro en w6 ⟨A6, c6, rfl, hr6, hb6⟩; have HB6 := Lib.hid (hop1 HB5.out hb6); have HR6 := Lib.hid hr6; have HA6 := Lib.hid (HA5.out.below (hb6.mono (HS2a HB5.out))); have HO6 := Lib.hid ((hb6.block _ (heap_lt HO5.out)).trans HO5.out); have HZ6 := Lib.hid ((hb6.block _ (heap_lt HZ5.out)).trans HZ5.out); clear hb6 hr6 o0 o1 o2 o3 o4 o5))
          | (go_at_call 37; go_loud (refine (HQ.out _ _ _ HR6.out (HA6.out.more HB6.out.size)).mono ?_; rintro en w7 ⟨rfl, hb7⟩; have HB7 := Lib.hid (hop1 HB6.out hb7); have HO7 := Lib.hid ((hb7.block _ (heap_lt HO6.out)).trans HO6.out); have HZ7 := Lib.hid ((hb7.block _ (heap_lt HZ6.out)).trans HZ6.out); clear hb7; obtain ⟨⟨o0, o1, o2, o3, o4, o5⟩, _⟩ := blk6 HO7.out; obtain ⟨⟨r0, r1, r2, r3, r4, r5⟩, fr0, fr1, fr2, fr3, fr4, fr5⟩ := blk6 HZ7.out; have hlt := heap_lt HZ7.out; have hlo := heap_lt HO7.out; have n1 : w.heap.size ≠ g := (by have := HGL.out; omega); have n2 : g ≠ w.heap.size := (by have := HGL.out; omega))))
        refine bodyPost_ret (res2 rfl (by rfl) (set6 HZ7.out _ _ _ _ _ _) Try.underlying35 (by kernel_rfl)) rfl ⟨?_, below6 HB7.out (Nat.le_refl _) _ _ _ _ _ _⟩
        rw [HE.out]
        rfl
    · have q1 : (ch != 0) = true := by simpa using hc0
      have HE := Lib.hid (show r = (zeroA, false) by rw [← HR.out]; rw [unpackA_4, if_neg (by rintro ⟨h, _⟩; rw [HCC.out] at h; exact hc0 h)])
      clear hc0
      go_enter Try.func22, Try.ntmps22
      go_wp2_with (go_at_call 27; go_loud (refine (HC.out _).mono ?_; rintro en w2 ⟨rfl, hb1⟩; have HB1 := Lib.hid (hop1 HB0.out hb1); have HA2 := Lib.hid (HA1.out.below (hb1.mono HS1.out)); have HZ2 := Lib.hid ((hb1.block _ (heap_lt HZ1.out)).trans HZ1.out); clear hb1; clear a0 a1 a2 b0 b1 b2 c0 c1 c2 d0 d1 d2 r0 r1 r2 r3 r4 r5 fr0 fr1 fr2 fr3 fr4 fr5 hlt; obtain ⟨_, _, e9, _, ⟨a0, a1, a2⟩, ⟨b0, b1, b2⟩, ⟨c0, c1, c2⟩, d0, d1, d2⟩ := row4 HA2.out; cases e9; obtain ⟨⟨r0, r1, r2, r3, r4, r5⟩, fr0, fr1, fr2, fr3, fr4, fr5⟩ := blk6 HZ2.out; have hlt := heap_lt HZ2.out))
      refine bodyPost_ret (res2 rfl (by rfl) (set6 HZ2.out _ _ _ _ _ _) Try.underlying35 (by kernel_rfl)) rfl ⟨?_, below6 HB1.out (Nat.le_refl _) _ _ _ _ _ _⟩
      rw [HE.out]
      rfl
  · have q0 : ((n : Int) != 4) = true := by simp; omega
    rw [unpackA_len (by omega)]
    unfold Ac.V
    obtain ⟨W1, hW1⟩ : ∃ W1, w.alloc (.cells #[.int .i64 0, .int .i64 0, .int .u64 0, .int .i64 0, .int .i64 0, .string ⟨#[]⟩] 35) = W1 := ⟨_, rfl⟩
    have HB0 : Hid (Below w.heap.size w W1) := Lib.hid (by rw [← hW1]; exact (Below.refl _ _).alloc (Nat.le_refl _) _)
    have HZ1 : Hid (W1.heap[w.heap.size]? = some (.cells #[.int .i64 0, .int .i64 0, .int .u64 0, .int .i64 0, .int .i64 0, .string ⟨#[]⟩] 35)) := Lib.hid (by rw [← hW1]; exact World.alloc_heap_new _ _)
    obtain ⟨⟨r0, r1, r2, r3, r4, r5⟩, fr0, fr1, fr2, fr3, fr4, fr5⟩ := blk6 HZ1.out
    have hlt := heap_lt HZ1.out
    clear h4 hl hA hw
    go_enter Try.func22, Try.ntmps22
    go_wp2
    exact bodyPost_ret (res2 rfl (by rfl) (set6 HZ1.out _ _ _ _ _ _) Try.underlying35 (by kernel_rfl)) rfl ⟨rfl, below6 HB0.out (Nat.le_refl _) _ _ _ _ _ _⟩
end Go.Proofs.Ytihgcfokenabgaa
