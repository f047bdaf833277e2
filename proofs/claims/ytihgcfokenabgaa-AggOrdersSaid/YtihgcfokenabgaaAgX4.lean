/- Layer 15, walked: a value more. -/
import Derived.Test.YtihgcfokenabgaaAgX2
namespace Go.Proofs.Ytihgcfokenabgaa
open Go Go.ChangeShapes Go.WideShapes Go.ChangeAt Go.RowKit
set_option linter.unusedVariables false
set_option linter.unusedSimpArgs false
theorem both_step (kind : Int) (a : Ac) (v : V) (hk : okA kind = true) : bothA kind a ⟨1, v.n, v⟩ = (stepA kind a v, 0) := by
  unfold bothA stepA
  have h0 : ¬ okA kind = false := by simp [hk]
  rw [if_neg h0]
  dsimp only
  rw [Prod.mk.injEq, Ac.mk.injEq]
  refine ⟨⟨rfl, rfl, ?_⟩, rfl⟩
  by_cases hb : kind = 4 ∨ kind = 5
  · by_cases hc : a.n = 0 ∨ btr kind v a.b
    · rw [if_pos (⟨hb, by decide, hc⟩ : (kind = 4 ∨ kind = 5) ∧ (1 : Int) ≠ 0 ∧ (a.n = 0 ∨ btr kind v a.b)), if_pos ⟨hb, hc⟩]
    · rw [if_neg (fun h : (kind = 4 ∨ kind = 5) ∧ (1 : Int) ≠ 0 ∧ (a.n = 0 ∨ btr kind v a.b) => hc h.2.2), if_neg (fun h => hc h.2)]
  · rw [if_neg (fun h : (kind = 4 ∨ kind = 5) ∧ (1 : Int) ≠ 0 ∧ (a.n = 0 ∨ btr kind v a.b) => hb h.1), if_neg (fun h => hb h.1)]
/-- What is kept, and a value, as they lie in their boxes. -/
def SV (T : Nat) (w : World) (a : Ac) (v : V) (W : World) : Prop := (W.heap[w.heap.size]? = some (.cells #[.int .i64 a.n, .int .i64 (hiZ a.x), .int .u64 (loZ a.x), .int .i64 a.b.k, .int .i64 a.b.n, .string a.b.s] T) ∧ W.heap[w.heap.size + 1]? = some (.cells #[.int .i64 v.k, .int .i64 v.n, .string v.s] 33)) ∧
  (W.cell? ⟨w.heap.size, 0, none⟩ = some (.int .i64 a.n) ∧ W.cell? ⟨w.heap.size, 1, none⟩ = some (.int .i64 (hiZ a.x)) ∧ W.cell? ⟨w.heap.size, 2, none⟩ = some (.int .u64 (loZ a.x)) ∧ W.cell? ⟨w.heap.size, 3, none⟩ = some (.int .i64 a.b.k) ∧ W.cell? ⟨w.heap.size, 4, none⟩ = some (.int .i64 a.b.n) ∧ W.cell? ⟨w.heap.size, 5, none⟩ = some (.string a.b.s)) ∧
  (W.cell? ⟨w.heap.size + 1, 0, none⟩ = some (.int .i64 v.k) ∧ W.cell? ⟨w.heap.size + 1, 1, none⟩ = some (.int .i64 v.n) ∧ W.cell? ⟨w.heap.size + 1, 2, none⟩ = some (.string v.s))
theorem sv_of {T : Nat} {w W : World} {a : Ac} {v : V} (h : W.heap[w.heap.size]? = some (.cells #[.int .i64 a.n, .int .i64 (hiZ a.x), .int .u64 (loZ a.x), .int .i64 a.b.k, .int .i64 a.b.n, .string a.b.s] T)) (h2 : W.heap[w.heap.size + 1]? = some (.cells #[.int .i64 v.k, .int .i64 v.n, .string v.s] 33)) : SV T w a v W := ⟨⟨h, h2⟩, (blk6 h).1, blk3 h2⟩
theorem SV.below {T : Nat} {w W W' : World} {a : Ac} {v : V} (h : SV T w a v W) (hb : Below W.heap.size W W') : SV T w a v W' := sv_of ((hb.block _ (heap_lt h.1.1)).trans h.1.1) ((hb.block _ (heap_lt h.1.2)).trans h.1.2)
theorem SV.set {T : Nat} {w W : World} {a : Ac} {v : V} (h : SV T w a v W) (i : Nat) (u : Value) : SV T w a v (W.setCell ⟨w.heap.size + 2, i, none⟩ u) :=
  sv_of (by rw [heap_setCell_other _ _ _ _ (by dsimp only; omega)]; exact h.1.1) (by rw [heap_setCell_other _ _ _ _ (by dsimp only; omega)]; exact h.1.2)
set_option maxHeartbeats 4000000 in
set_option maxRecDepth 100000 in
theorem aadd_any (kind : Int) (a : Ac) (v : V) (ha : a.b.wf) (hv : v.wf) (w : World) :
    Calls Try.prog 11 #[.int .i64 kind, a.V, v.val] w fun e w' => e = .returned (.tuple #[(addA kind a v).1.V, .int .i64 (addA kind a v).2]) ∧ Below w.heap.size w w' := by
  have HK := Lib.hid (fun W => known_any kind W)
  obtain ⟨an, ax, b⟩ := a
  have HC := Lib.hid (fun W => check_any v hv W)
  have HA := Lib.hid (fun W => add_any 0 v.n (by have := hv.2.1; unfold in64 at this; unfold In64; exact this) W)
  rw [Int.zero_add] at HA
  have HB := Lib.hid (fun W => aboth_any kind ⟨an, ax, b⟩ ⟨1, v.n, v⟩ ha hv W)
  obtain ⟨r, hr⟩ : ∃ r, addA kind ⟨an, ax, b⟩ v = r := ⟨_, rfl⟩
  have HR := Lib.hid hr
  rw [hr]
  obtain ⟨c, hc⟩ : ∃ c, chk v = c := ⟨_, rfl⟩
  rw [hc] at HC
  have HCC := Lib.hid hc
  have HN := Lib.hid (B3.new 35 w an ax b v)
  clear hr hc ha hv
  obtain ⟨W1, hW1⟩ : ∃ W1, ((w.alloc (.cells #[.int .i64 an, .int .i64 (hiZ ax), .int .u64 (loZ ax), .int .i64 b.k, .int .i64 b.n, .string b.s] 35)).alloc (.cells #[.int .i64 v.k, .int .i64 v.n, .string v.s] 33)).alloc (.cells #[.int .i64 0, .int .i64 0, .int .u64 0, .int .i64 0, .int .i64 0, .string ⟨#[]⟩] 35) = W1 := ⟨_, rfl⟩
  rw [hW1] at HN
  unfold Ac.V V.val
  unfold V.val at HC
  unfold SumV at HA
  rw [show hiZ 0 = 0 by rfl, show loZ 0 = 0 by rfl] at HA
  obtain ⟨⟨a0, a1, a2, a3, a4, a5⟩, _⟩ := blk6 HN.out.a; obtain ⟨v0, v1, v2⟩ := blk3 HN.out.v; obtain ⟨⟨r0, r1, r2, r3, r4, r5⟩, fr0, fr1, fr2, fr3, fr4, fr5⟩ := blk6 HN.out.r; have hlt := heap_lt HN.out.r
  cases hok : okA kind with
  | false =>
    have HE := Lib.hid (show r = (zeroA, 150) by rw [← HR.out]; unfold addA; rw [if_pos hok])
    rw [hok] at HK
    clear hok HB
    go_enter Try.func11, Try.ntmps11
    go_wp2_with (first
      | (go_at_call 26; go_loud (refine (HK.out _).mono ?_; rintro e w1 ⟨rfl, rfl⟩))
      | (go_at_call 27; go_loud (refine (HC.out _).mono ?_; rintro en w1 ⟨rfl, hb1⟩; have HN1 := Lib.hid (HN.out.below hb1); clear hb1; clear a0 a1 a2 a3 a4 a5 v0 v1 v2 r0 r1 r2 r3 r4 r5 fr0 fr1 fr2 fr3 fr4 fr5 hlt; obtain ⟨⟨a0, a1, a2, a3, a4, a5⟩, _⟩ := blk6 HN1.out.a; obtain ⟨v0, v1, v2⟩ := blk3 HN1.out.v; obtain ⟨⟨r0, r1, r2, r3, r4, r5⟩, fr0, fr1, fr2, fr3, fr4, fr5⟩ := blk6 HN1.out.r; have hlt := heap_lt HN1.out.r)))
    refine bodyPost_ret (res2 rfl (by rfl) (set6 HN.out.r _ _ _ _ _ _) Try.underlying35 (by kernel_rfl)) rfl ⟨?_, below6 HN.out.b (by omega) _ _ _ _ _ _⟩
    rw [HE.out]
    rfl
  | true =>
    have HO := Lib.hid (show ¬ okA kind = false by rw [hok]; simp)
    rw [both_step kind _ v hok] at HB
    obtain ⟨⟨rn, rx, rb⟩, hs⟩ : ∃ s, stepA kind ⟨an, ax, b⟩ v = s := ⟨_, rfl⟩
    rw [hs] at HB
    unfold Ac.V at HB
    have HST := Lib.hid hs
    rw [hok] at HK
    clear hok hs
    by_cases hc0 : c = 0
    · have HCZ := Lib.hid (HCC.out.trans hc0)
      have HNo := Lib.hid (show ∀ (_ : ¬ (kind = 3 ∧ 1 < v.k)) (_ : cntd kind v = true), r = (⟨rn, rx, rb⟩, 0) by
        intro h1 h2
        rw [← HR.out, ← HST.out]; unfold addA
        rw [if_neg HO.out, if_neg (by rintro (h | h); exact h HCZ.out; exact h1 h), if_neg (by rw [h2]; simp)])
      have HSk := Lib.hid (show ∀ (_ : v.k = 0) (_ : kind ≠ 1), r = (⟨an, ax, b⟩, 0) by
        intro h1 h2
        rw [← HR.out]; unfold addA
        rw [if_neg HO.out, if_neg (by rintro (h | h); exact h HCZ.out; omega), if_pos (by unfold cntd; rw [decide_eq_false h2]; simp [h1])])
      subst hc0
      by_cases h3 : kind = 3
      · subst h3
        by_cases hv0 : v.k = 0
        · have HE := Lib.hid (HSk.out hv0 (by decide))
          have q0 : (v.k != 0) = false := by simpa using hv0
          have q1 : (v.k == 0) = true := by simpa using hv0
          clear hv0 HNo HSk HB
          go_enter Try.func11, Try.ntmps11
          go_wp2_with (first
            | (go_at_call 26; go_loud (refine (HK.out _).mono ?_; rintro e w1 ⟨rfl, rfl⟩))
            | (go_at_call 27; go_loud (refine (HC.out _).mono ?_; rintro en w1 ⟨rfl, hb1⟩; have HN1 := Lib.hid (HN.out.below hb1); clear hb1; clear a0 a1 a2 a3 a4 a5 v0 v1 v2 r0 r1 r2 r3 r4 r5 fr0 fr1 fr2 fr3 fr4 fr5 hlt; obtain ⟨⟨a0, a1, a2, a3, a4, a5⟩, _⟩ := blk6 HN1.out.a; obtain ⟨v0, v1, v2⟩ := blk3 HN1.out.v; obtain ⟨⟨r0, r1, r2, r3, r4, r5⟩, fr0, fr1, fr2, fr3, fr4, fr5⟩ := blk6 HN1.out.r; have hlt := heap_lt HN1.out.r)))
          refine bodyPost_ret (res2 rfl (by rfl) (set6 HN1.out.r _ _ _ _ _ _) Try.underlying35 (by kernel_rfl)) rfl ⟨?_, below6 HN1.out.b (by omega) _ _ _ _ _ _⟩
          rw [HE.out]
          rfl
        · by_cases hv1 : v.k = 1
          · have HE := Lib.hid (HNo.out (by omega) (by unfold cntd; simp [hv0]))
            have q0 : (v.k != 0) = true := by simpa using hv0
            have q1 : (v.k == 0) = false := by simpa using hv0
            have q2 : (v.k != 1) = false := by simpa using hv1
            clear hv0 hv1 HNo HSk
            go_enter Try.func11, Try.ntmps11
            go_wp2_with (first
              | (go_at_call 26; go_loud (refine (HK.out _).mono ?_; rintro e w1 ⟨rfl, rfl⟩))
              | (go_at_call 27; go_loud (refine (HC.out _).mono ?_; rintro en w1 ⟨rfl, hb1⟩; have HN1 := Lib.hid (HN.out.below hb1); clear hb1; clear a0 a1 a2 a3 a4 a5 v0 v1 v2 r0 r1 r2 r3 r4 r5 fr0 fr1 fr2 fr3 fr4 fr5 hlt; obtain ⟨⟨a0, a1, a2, a3, a4, a5⟩, _⟩ := blk6 HN1.out.a; obtain ⟨v0, v1, v2⟩ := blk3 HN1.out.v; obtain ⟨⟨r0, r1, r2, r3, r4, r5⟩, fr0, fr1, fr2, fr3, fr4, fr5⟩ := blk6 HN1.out.r; have hlt := heap_lt HN1.out.r)))
            have hS : SV 35 w ⟨an, ax, b⟩ v w1.drew := (sv_of HN1.out.a HN1.out.v).below ((Below.refl _ _).drew)
            clear a0 a1 a2 a3 a4 a5 v0 v1 v2 r0 r1 r2 r3 r4 r5 fr0 fr1 fr2 fr3 fr4 fr5 hlt
            refine held_begin 13 (fun W => SV 35 w ⟨an, ax, b⟩ v W) rfl (by kernel_rfl) ?_
            refine held_take (i := 0) (t := 39) (v := (.int .i64 3)) (fuel := 12) rfl rfl (by kernel_rfl) (by kernel_rfl) (by kernel_rfl) (fun _ _ _ h => h) (.inl ⟨rfl, fun W hW => by obtain ⟨s0, sa, sv⟩ := hW; simp [execOp, Act.eval, go_sem, s0, sa, sv]⟩) hS ?_
            simp only [List.setIfInBounds_toArray, List.set_cons_succ, List.set_cons_zero]
            refine held_take (i := 1) (t := 40) (v := (.agg #[.int .i64 an, .int .i64 (hiZ ax), .int .u64 (loZ ax), .int .i64 b.k, .int .i64 b.n, .string b.s])) (fuel := 11) rfl rfl (by kernel_rfl) (by kernel_rfl) (by kernel_rfl) (fun _ _ _ h => h) (.inl ⟨rfl, fun W hW => by obtain ⟨s0, sa, sv⟩ := hW; simp [execOp, Act.eval, go_sem, s0, sa, sv, sa.1, sa.2.1, sa.2.2.1, sa.2.2.2.1, sa.2.2.2.2.1, sa.2.2.2.2.2]⟩) hS ?_
            simp only [List.setIfInBounds_toArray, List.set_cons_succ, List.set_cons_zero]
            refine held_take (i := 2) (t := 41) (v := (.agg #[.int .i64 0, .int .u64 0])) (fuel := 10) rfl rfl (by kernel_rfl) (by kernel_rfl) (by kernel_rfl) (fun _ _ _ h => h) (.inl ⟨rfl, fun W hW => by obtain ⟨s0, sa, sv⟩ := hW; simp [execOp, Act.eval, go_sem, s0, sa, sv]⟩) hS ?_
            simp only [List.setIfInBounds_toArray, List.set_cons_succ, List.set_cons_zero]
            refine held_take (i := 3) (t := 42) (v := (.pointer (some ⟨w.heap.size + 1, 1, none⟩))) (fuel := 9) rfl rfl (by kernel_rfl) (by kernel_rfl) (by kernel_rfl) (fun _ _ _ h => h) (.inl ⟨rfl, fun W hW => by obtain ⟨s0, sa, sv⟩ := hW; simp [execOp, Act.eval, go_sem, s0, sa, sv]⟩) hS ?_
            simp only [List.setIfInBounds_toArray, List.set_cons_succ, List.set_cons_zero]
            refine held_take (i := 4) (t := 43) (v := (.int .i64 v.n)) (fuel := 8) rfl rfl (by kernel_rfl) (by kernel_rfl) (by kernel_rfl) (fun _ _ _ h => h) (.inl ⟨rfl, fun W hW => by obtain ⟨s0, sa, sv⟩ := hW; simp [execOp, Act.eval, go_sem, s0, sa, sv, sv.1, sv.2.1, sv.2.2]⟩) hS ?_
            simp only [List.setIfInBounds_toArray, List.set_cons_succ, List.set_cons_zero]
            refine held_take (i := 6) (t := 45) (v := (.agg #[.int .i64 v.k, .int .i64 v.n, .string v.s])) (fuel := 7) rfl rfl (by kernel_rfl) (by kernel_rfl) (by kernel_rfl) (fun _ _ _ h => h) (.inl ⟨rfl, fun W hW => by obtain ⟨s0, sa, sv⟩ := hW; simp [execOp, Act.eval, go_sem, s0, sa, sv, sv.1, sv.2.1, sv.2.2]⟩) hS ?_
            simp only [List.setIfInBounds_toArray, List.set_cons_succ, List.set_cons_zero]
            refine held_call (i := 5) rfl (by kernel_rfl) (by kernel_rfl) ?_
            simp [Oper.wp, execOp, Act.eval, Act.put, go_sem]
            refine (HA.out _).mono ?_
            rintro e w2 ⟨rfl, hb2⟩
            have hS2 := hS.below hb2
            have HN2 := Lib.hid ((HN1.out.below ((Below.refl _ _).drew)).below hb2)
            refine ⟨hS2, ?_⟩
            clear hS hb2
            have hS := hS2
            clear hS2
            try simp only [List.setIfInBounds_toArray, List.set_cons_succ, List.set_cons_zero]
            refine held_take (i := 7) (t := 46) (v := (.agg #[.int .i64 1, .int .i64 (hiZ v.n), .int .u64 (loZ v.n), .int .i64 v.k, .int .i64 v.n, .string v.s])) (fuel := 5) rfl rfl (by kernel_rfl) (by kernel_rfl) (by kernel_rfl) (fun _ _ _ h => h) (.inl ⟨rfl, fun W hW => by obtain ⟨s0, sa, sv⟩ := hW; simp [execOp, Act.eval, go_sem, s0, sa, sv]⟩) hS ?_
            simp only [List.setIfInBounds_toArray, List.set_cons_succ, List.set_cons_zero]
            refine held_call (i := 8) rfl (by kernel_rfl) (by kernel_rfl) ?_
            simp [Oper.wp, execOp, Act.eval, Act.put, go_sem]
            refine (HB.out _).mono ?_
            rintro e w3 ⟨rfl, hb3⟩
            have hS2 := hS.below hb3
            have HN3 := Lib.hid (HN2.out.below hb3)
            refine ⟨hS2, ?_⟩
            clear hS hb3
            have hS := hS2
            clear hS2
            try simp only [List.setIfInBounds_toArray, List.set_cons_succ, List.set_cons_zero]
            refine held_take (i := 9) (t := 48) (v := (.agg #[.int .i64 rn, .int .i64 (hiZ rx), .int .u64 (loZ rx), .int .i64 rb.k, .int .i64 rb.n, .string rb.s])) (fuel := 3) rfl rfl (by kernel_rfl) (by kernel_rfl) (by kernel_rfl) (fun _ _ _ h => h) (.inl ⟨rfl, fun W hW => by obtain ⟨s0, sa, sv⟩ := hW; simp [execOp, Act.eval, go_sem, s0, sa, sv]⟩) hS ?_
            simp only [List.setIfInBounds_toArray, List.set_cons_succ, List.set_cons_zero]
            refine held_take (i := 10) (t := 49) (v := (.int .i64 0)) (fuel := 2) rfl rfl (by kernel_rfl) (by kernel_rfl) (by kernel_rfl) (fun _ _ _ h => h) (.inl ⟨rfl, fun W hW => by obtain ⟨s0, sa, sv⟩ := hW; simp [execOp, Act.eval, go_sem, s0, sa, sv]⟩) hS ?_
            simp only [List.setIfInBounds_toArray, List.set_cons_succ, List.set_cons_zero]
            obtain ⟨⟨r0, r1, r2, r3, r4, r5⟩, fr0, fr1, fr2, fr3, fr4, fr5⟩ := blk6 HN3.out.r
            have hlt := heap_lt HN3.out.r
            refine held_call (i := 11) rfl (by kernel_rfl) (by kernel_rfl) ?_
            simp [Oper.wp, execOp, Act.eval, Act.put, go_sem, r0, r1, r2, r3, r4, r5, fr0, fr1, fr2, fr3, fr4, fr5, hlt]
            refine ⟨(((((hS.set 0 _).set 1 _).set 2 _).set 3 _).set 4 _).set 5 _, ?_⟩
            try simp only [List.setIfInBounds_toArray, List.set_cons_succ, List.set_cons_zero]
            refine held_call (i := 12) rfl (by kernel_rfl) (by kernel_rfl) ?_
            simp [Oper.wp, execOp, Act.eval, Act.put, go_sem]
            refine ⟨(((((hS.set 0 _).set 1 _).set 2 _).set 3 _).set 4 _).set 5 _, ?_⟩
            try simp only [List.setIfInBounds_toArray, List.set_cons_succ, List.set_cons_zero]
            refine wpAnyH_done (by kernel_rfl) ?_ 0
            clear hS
            go_wp2
            refine bodyPost_ret (res2 rfl (by rfl) (set6 HN3.out.r _ _ _ _ _ _) Try.underlying35 (by kernel_rfl)) rfl ⟨?_, below6 HN3.out.b (by omega) _ _ _ _ _ _⟩
            rw [HE.out]
            rfl
          · have HE := Lib.hid (show r = (zeroA, 151) by
              have := chk_kinds HCZ.out
              rw [← HR.out]; unfold addA; rw [if_neg HO.out, if_pos (.inr ⟨rfl, by omega⟩)])
            have q0 : (v.k != 0) = true := by simpa using hv0
            have q2 : (v.k != 1) = true := by simpa using hv1
            clear hv0 hv1 HNo HSk HB
            go_enter Try.func11, Try.ntmps11
            go_wp2_with (first
              | (go_at_call 26; go_loud (refine (HK.out _).mono ?_; rintro e w1 ⟨rfl, rfl⟩))
              | (go_at_call 27; go_loud (refine (HC.out _).mono ?_; rintro en w1 ⟨rfl, hb1⟩; have HN1 := Lib.hid (HN.out.below hb1); clear hb1; clear a0 a1 a2 a3 a4 a5 v0 v1 v2 r0 r1 r2 r3 r4 r5 fr0 fr1 fr2 fr3 fr4 fr5 hlt; obtain ⟨⟨a0, a1, a2, a3, a4, a5⟩, _⟩ := blk6 HN1.out.a; obtain ⟨v0, v1, v2⟩ := blk3 HN1.out.v; obtain ⟨⟨r0, r1, r2, r3, r4, r5⟩, fr0, fr1, fr2, fr3, fr4, fr5⟩ := blk6 HN1.out.r; have hlt := heap_lt HN1.out.r)))
            refine bodyPost_ret (res2 rfl (by rfl) (set6 HN1.out.r _ _ _ _ _ _) Try.underlying35 (by kernel_rfl)) rfl ⟨?_, below6 HN1.out.b (by omega) _ _ _ _ _ _⟩
            rw [HE.out]
            rfl
      · have q3 : (kind == 3) = false := by simpa using h3
        by_cases hv0 : v.k = 0
        · by_cases h1 : kind = 1
          · subst h1
            have HE := Lib.hid (HNo.out (by omega) (by unfold cntd; simp))
            have q1 : (v.k == 0) = true := by simpa using hv0
            clear hv0 h3 q3 HNo HSk
            go_enter Try.func11, Try.ntmps11
            go_wp2_with (first
              | (go_at_call 26; go_loud (refine (HK.out _).mono ?_; rintro e w1 ⟨rfl, rfl⟩))
              | (go_at_call 27; go_loud (refine (HC.out _).mono ?_; rintro en w1 ⟨rfl, hb1⟩; have HN1 := Lib.hid (HN.out.below hb1); clear hb1; clear a0 a1 a2 a3 a4 a5 v0 v1 v2 r0 r1 r2 r3 r4 r5 fr0 fr1 fr2 fr3 fr4 fr5 hlt; obtain ⟨⟨a0, a1, a2, a3, a4, a5⟩, _⟩ := blk6 HN1.out.a; obtain ⟨v0, v1, v2⟩ := blk3 HN1.out.v; obtain ⟨⟨r0, r1, r2, r3, r4, r5⟩, fr0, fr1, fr2, fr3, fr4, fr5⟩ := blk6 HN1.out.r; have hlt := heap_lt HN1.out.r)))
            have hS : SV 35 w ⟨an, ax, b⟩ v w1.drew := (sv_of HN1.out.a HN1.out.v).below ((Below.refl _ _).drew)
            clear a0 a1 a2 a3 a4 a5 v0 v1 v2 r0 r1 r2 r3 r4 r5 fr0 fr1 fr2 fr3 fr4 fr5 hlt
            refine held_begin 13 (fun W => SV 35 w ⟨an, ax, b⟩ v W) rfl (by kernel_rfl) ?_
            refine held_take (i := 0) (t := 39) (v := (.int .i64 1)) (fuel := 12) rfl rfl (by kernel_rfl) (by kernel_rfl) (by kernel_rfl) (fun _ _ _ h => h) (.inl ⟨rfl, fun W hW => by obtain ⟨s0, sa, sv⟩ := hW; simp [execOp, Act.eval, go_sem, s0, sa, sv]⟩) hS ?_
            simp only [List.setIfInBounds_toArray, List.set_cons_succ, List.set_cons_zero]
            refine held_take (i := 1) (t := 40) (v := (.agg #[.int .i64 an, .int .i64 (hiZ ax), .int .u64 (loZ ax), .int .i64 b.k, .int .i64 b.n, .string b.s])) (fuel := 11) rfl rfl (by kernel_rfl) (by kernel_rfl) (by kernel_rfl) (fun _ _ _ h => h) (.inl ⟨rfl, fun W hW => by obtain ⟨s0, sa, sv⟩ := hW; simp [execOp, Act.eval, go_sem, s0, sa, sv, sa.1, sa.2.1, sa.2.2.1, sa.2.2.2.1, sa.2.2.2.2.1, sa.2.2.2.2.2]⟩) hS ?_
            simp only [List.setIfInBounds_toArray, List.set_cons_succ, List.set_cons_zero]
            refine held_take (i := 2) (t := 41) (v := (.agg #[.int .i64 0, .int .u64 0])) (fuel := 10) rfl rfl (by kernel_rfl) (by kernel_rfl) (by kernel_rfl) (fun _ _ _ h => h) (.inl ⟨rfl, fun W hW => by obtain ⟨s0, sa, sv⟩ := hW; simp [execOp, Act.eval, go_sem, s0, sa, sv]⟩) hS ?_
            simp only [List.setIfInBounds_toArray, List.set_cons_succ, List.set_cons_zero]
            refine held_take (i := 3) (t := 42) (v := (.pointer (some ⟨w.heap.size + 1, 1, none⟩))) (fuel := 9) rfl rfl (by kernel_rfl) (by kernel_rfl) (by kernel_rfl) (fun _ _ _ h => h) (.inl ⟨rfl, fun W hW => by obtain ⟨s0, sa, sv⟩ := hW; simp [execOp, Act.eval, go_sem, s0, sa, sv]⟩) hS ?_
            simp only [List.setIfInBounds_toArray, List.set_cons_succ, List.set_cons_zero]
            refine held_take (i := 4) (t := 43) (v := (.int .i64 v.n)) (fuel := 8) rfl rfl (by kernel_rfl) (by kernel_rfl) (by kernel_rfl) (fun _ _ _ h => h) (.inl ⟨rfl, fun W hW => by obtain ⟨s0, sa, sv⟩ := hW; simp [execOp, Act.eval, go_sem, s0, sa, sv, sv.1, sv.2.1, sv.2.2]⟩) hS ?_
            simp only [List.setIfInBounds_toArray, List.set_cons_succ, List.set_cons_zero]
            refine held_take (i := 6) (t := 45) (v := (.agg #[.int .i64 v.k, .int .i64 v.n, .string v.s])) (fuel := 7) rfl rfl (by kernel_rfl) (by kernel_rfl) (by kernel_rfl) (fun _ _ _ h => h) (.inl ⟨rfl, fun W hW => by obtain ⟨s0, sa, sv⟩ := hW; simp [execOp, Act.eval, go_sem, s0, sa, sv, sv.1, sv.2.1, sv.2.2]⟩) hS ?_
            simp only [List.setIfInBounds_toArray, List.set_cons_succ, List.set_cons_zero]
            refine held_call (i := 5) rfl (by kernel_rfl) (by kernel_rfl) ?_
            simp [Oper.wp, execOp, Act.eval, Act.put, go_sem]
            refine (HA.out _).mono ?_
            rintro e w2 ⟨rfl, hb2⟩
            have hS2 := hS.below hb2
            have HN2 := Lib.hid ((HN1.out.below ((Below.refl _ _).drew)).below hb2)
            refine ⟨hS2, ?_⟩
            clear hS hb2
            have hS := hS2
            clear hS2
            try simp only [List.setIfInBounds_toArray, List.set_cons_succ, List.set_cons_zero]
            refine held_take (i := 7) (t := 46) (v := (.agg #[.int .i64 1, .int .i64 (hiZ v.n), .int .u64 (loZ v.n), .int .i64 v.k, .int .i64 v.n, .string v.s])) (fuel := 5) rfl rfl (by kernel_rfl) (by kernel_rfl) (by kernel_rfl) (fun _ _ _ h => h) (.inl ⟨rfl, fun W hW => by obtain ⟨s0, sa, sv⟩ := hW; simp [execOp, Act.eval, go_sem, s0, sa, sv]⟩) hS ?_
            simp only [List.setIfInBounds_toArray, List.set_cons_succ, List.set_cons_zero]
            refine held_call (i := 8) rfl (by kernel_rfl) (by kernel_rfl) ?_
            simp [Oper.wp, execOp, Act.eval, Act.put, go_sem]
            refine (HB.out _).mono ?_
            rintro e w3 ⟨rfl, hb3⟩
            have hS2 := hS.below hb3
            have HN3 := Lib.hid (HN2.out.below hb3)
            refine ⟨hS2, ?_⟩
            clear hS hb3
            have hS := hS2
            clear hS2
            try simp only [List.setIfInBounds_toArray, List.set_cons_succ, List.set_cons_zero]
            refine held_take (i := 9) (t := 48) (v := (.agg #[.int .i64 rn, .int .i64 (hiZ rx), .int .u64 (loZ rx), .int .i64 rb.k, .int .i64 rb.n, .string rb.s])) (fuel := 3) rfl rfl (by kernel_rfl) (by kernel_rfl) (by kernel_rfl) (fun _ _ _ h => h) (.inl ⟨rfl, fun W hW => by obtain ⟨s0, sa, sv⟩ := hW; simp [execOp, Act.eval, go_sem, s0, sa, sv]⟩) hS ?_
            simp only [List.setIfInBounds_toArray, List.set_cons_succ, List.set_cons_zero]
            refine held_take (i := 10) (t := 49) (v := (.int .i64 0)) (fuel := 2) rfl rfl (by kernel_rfl) (by kernel_rfl) (by kernel_rfl) (fun _ _ _ h => h) (.inl ⟨rfl, fun W hW => by obtain ⟨s0, sa, sv⟩ := hW; simp [execOp, Act.eval, go_sem, s0, sa, sv]⟩) hS ?_
            simp only [List.setIfInBounds_toArray, List.set_cons_succ, List.set_cons_zero]
            obtain ⟨⟨r0, r1, r2, r3, r4, r5⟩, fr0, fr1, fr2, fr3, fr4, fr5⟩ := blk6 HN3.out.r
            have hlt := heap_lt HN3.out.r
            refine held_call (i := 11) rfl (by kernel_rfl) (by kernel_rfl) ?_
            simp [Oper.wp, execOp, Act.eval, Act.put, go_sem, r0, r1, r2, r3, r4, r5, fr0, fr1, fr2, fr3, fr4, fr5, hlt]
            refine ⟨(((((hS.set 0 _).set 1 _).set 2 _).set 3 _).set 4 _).set 5 _, ?_⟩
            try simp only [List.setIfInBounds_toArray, List.set_cons_succ, List.set_cons_zero]
            refine held_call (i := 12) rfl (by kernel_rfl) (by kernel_rfl) ?_
            simp [Oper.wp, execOp, Act.eval, Act.put, go_sem]
            refine ⟨(((((hS.set 0 _).set 1 _).set 2 _).set 3 _).set 4 _).set 5 _, ?_⟩
            try simp only [List.setIfInBounds_toArray, List.set_cons_succ, List.set_cons_zero]
            refine wpAnyH_done (by kernel_rfl) ?_ 0
            clear hS
            go_wp2
            refine bodyPost_ret (res2 rfl (by rfl) (set6 HN3.out.r _ _ _ _ _ _) Try.underlying35 (by kernel_rfl)) rfl ⟨?_, below6 HN3.out.b (by omega) _ _ _ _ _ _⟩
            rw [HE.out]
            rfl
          · have HE := Lib.hid (HSk.out hv0 h1)
            have q1 : (v.k == 0) = true := by simpa using hv0
            have q2 : (kind != 1) = true := by simpa using h1
            clear hv0 h1 h3 HNo HSk HB
            go_enter Try.func11, Try.ntmps11
            go_wp2_with (first
              | (go_at_call 26; go_loud (refine (HK.out _).mono ?_; rintro e w1 ⟨rfl, rfl⟩))
              | (go_at_call 27; go_loud (refine (HC.out _).mono ?_; rintro en w1 ⟨rfl, hb1⟩; have HN1 := Lib.hid (HN.out.below hb1); clear hb1; clear a0 a1 a2 a3 a4 a5 v0 v1 v2 r0 r1 r2 r3 r4 r5 fr0 fr1 fr2 fr3 fr4 fr5 hlt; obtain ⟨⟨a0, a1, a2, a3, a4, a5⟩, _⟩ := blk6 HN1.out.a; obtain ⟨v0, v1, v2⟩ := blk3 HN1.out.v; obtain ⟨⟨r0, r1, r2, r3, r4, r5⟩, fr0, fr1, fr2, fr3, fr4, fr5⟩ := blk6 HN1.out.r; have hlt := heap_lt HN1.out.r)))
            refine bodyPost_ret (res2 rfl (by rfl) (set6 HN1.out.r _ _ _ _ _ _) Try.underlying35 (by kernel_rfl)) rfl ⟨?_, below6 HN1.out.b (by omega) _ _ _ _ _ _⟩
            rw [HE.out]
            rfl
        · have HE := Lib.hid (HNo.out (by rintro ⟨h, _⟩; exact h3 h) (by unfold cntd; simp [hv0]))
          have q1 : (v.k == 0) = false := by simpa using hv0
          clear hv0 h3 HNo HSk
          go_enter Try.func11, Try.ntmps11
          go_wp2_with (first
            | (go_at_call 26; go_loud (refine (HK.out _).mono ?_; rintro e w1 ⟨rfl, rfl⟩))
            | (go_at_call 27; go_loud (refine (HC.out _).mono ?_; rintro en w1 ⟨rfl, hb1⟩; have HN1 := Lib.hid (HN.out.below hb1); clear hb1; clear a0 a1 a2 a3 a4 a5 v0 v1 v2 r0 r1 r2 r3 r4 r5 fr0 fr1 fr2 fr3 fr4 fr5 hlt; obtain ⟨⟨a0, a1, a2, a3, a4, a5⟩, _⟩ := blk6 HN1.out.a; obtain ⟨v0, v1, v2⟩ := blk3 HN1.out.v; obtain ⟨⟨r0, r1, r2, r3, r4, r5⟩, fr0, fr1, fr2, fr3, fr4, fr5⟩ := blk6 HN1.out.r; have hlt := heap_lt HN1.out.r)))
          have hS : SV 35 w ⟨an, ax, b⟩ v w1.drew := (sv_of HN1.out.a HN1.out.v).below ((Below.refl _ _).drew)
          clear a0 a1 a2 a3 a4 a5 v0 v1 v2 r0 r1 r2 r3 r4 r5 fr0 fr1 fr2 fr3 fr4 fr5 hlt
          refine held_begin 13 (fun W => SV 35 w ⟨an, ax, b⟩ v W) rfl (by kernel_rfl) ?_
          refine held_take (i := 0) (t := 39) (v := (.int .i64 kind)) (fuel := 12) rfl rfl (by kernel_rfl) (by kernel_rfl) (by kernel_rfl) (fun _ _ _ h => h) (.inl ⟨rfl, fun W hW => by obtain ⟨s0, sa, sv⟩ := hW; simp [execOp, Act.eval, go_sem, s0, sa, sv]⟩) hS ?_
          simp only [List.setIfInBounds_toArray, List.set_cons_succ, List.set_cons_zero]
          refine held_take (i := 1) (t := 40) (v := (.agg #[.int .i64 an, .int .i64 (hiZ ax), .int .u64 (loZ ax), .int .i64 b.k, .int .i64 b.n, .string b.s])) (fuel := 11) rfl rfl (by kernel_rfl) (by kernel_rfl) (by kernel_rfl) (fun _ _ _ h => h) (.inl ⟨rfl, fun W hW => by obtain ⟨s0, sa, sv⟩ := hW; simp [execOp, Act.eval, go_sem, s0, sa, sv, sa.1, sa.2.1, sa.2.2.1, sa.2.2.2.1, sa.2.2.2.2.1, sa.2.2.2.2.2]⟩) hS ?_
          simp only [List.setIfInBounds_toArray, List.set_cons_succ, List.set_cons_zero]
          refine held_take (i := 2) (t := 41) (v := (.agg #[.int .i64 0, .int .u64 0])) (fuel := 10) rfl rfl (by kernel_rfl) (by kernel_rfl) (by kernel_rfl) (fun _ _ _ h => h) (.inl ⟨rfl, fun W hW => by obtain ⟨s0, sa, sv⟩ := hW; simp [execOp, Act.eval, go_sem, s0, sa, sv]⟩) hS ?_
          simp only [List.setIfInBounds_toArray, List.set_cons_succ, List.set_cons_zero]
          refine held_take (i := 3) (t := 42) (v := (.pointer (some ⟨w.heap.size + 1, 1, none⟩))) (fuel := 9) rfl rfl (by kernel_rfl) (by kernel_rfl) (by kernel_rfl) (fun _ _ _ h => h) (.inl ⟨rfl, fun W hW => by obtain ⟨s0, sa, sv⟩ := hW; simp [execOp, Act.eval, go_sem, s0, sa, sv]⟩) hS ?_
          simp only [List.setIfInBounds_toArray, List.set_cons_succ, List.set_cons_zero]
          refine held_take (i := 4) (t := 43) (v := (.int .i64 v.n)) (fuel := 8) rfl rfl (by kernel_rfl) (by kernel_rfl) (by kernel_rfl) (fun _ _ _ h => h) (.inl ⟨rfl, fun W hW => by obtain ⟨s0, sa, sv⟩ := hW; simp [execOp, Act.eval, go_sem, s0, sa, sv, sv.1, sv.2.1, sv.2.2]⟩) hS ?_
          simp only [List.setIfInBounds_toArray, List.set_cons_succ, List.set_cons_zero]
          refine held_take (i := 6) (t := 45) (v := (.agg #[.int .i64 v.k, .int .i64 v.n, .string v.s])) (fuel := 7) rfl rfl (by kernel_rfl) (by kernel_rfl) (by kernel_rfl) (fun _ _ _ h => h) (.inl ⟨rfl, fun W hW => by obtain ⟨s0, sa, sv⟩ := hW; simp [execOp, Act.eval, go_sem, s0, sa, sv, sv.1, sv.2.1, sv.2.2]⟩) hS ?_
          simp only [List.setIfInBounds_toArray, List.set_cons_succ, List.set_cons_zero]
          refine held_call (i := 5) rfl (by kernel_rfl) (by kernel_rfl) ?_
          simp [Oper.wp, execOp, Act.eval, Act.put, go_sem]
          refine (HA.out _).mono ?_
          rintro e w2 ⟨rfl, hb2⟩
          have hS2 := hS.below hb2
          have HN2 := Lib.hid ((HN1.out.below ((Below.refl _ _).drew)).below hb2)
          refine ⟨hS2, ?_⟩
          clear hS hb2
          have hS := hS2
          clear hS2
          try simp only [List.setIfInBounds_toArray, List.set_cons_succ, List.set_cons_zero]
          refine held_take (i := 7) (t := 46) (v := (.agg #[.int .i64 1, .int .i64 (hiZ v.n), .int .u64 (loZ v.n), .int .i64 v.k, .int .i64 v.n, .string v.s])) (fuel := 5) rfl rfl (by kernel_rfl) (by kernel_rfl) (by kernel_rfl) (fun _ _ _ h => h) (.inl ⟨rfl, fun W hW => by obtain ⟨s0, sa, sv⟩ := hW; simp [execOp, Act.eval, go_sem, s0, sa, sv]⟩) hS ?_
          simp only [List.setIfInBounds_toArray, List.set_cons_succ, List.set_cons_zero]
          refine held_call (i := 8) rfl (by kernel_rfl) (by kernel_rfl) ?_
          simp [Oper.wp, execOp, Act.eval, Act.put, go_sem]
          refine (HB.out _).mono ?_
          rintro e w3 ⟨rfl, hb3⟩
          have hS2 := hS.below hb3
          have HN3 := Lib.hid (HN2.out.below hb3)
          refine ⟨hS2, ?_⟩
          clear hS hb3
          have hS := hS2
          clear hS2
          try simp only [List.setIfInBounds_toArray, List.set_cons_succ, List.set_cons_zero]
          refine held_take (i := 9) (t := 48) (v := (.agg #[.int .i64 rn, .int .i64 (hiZ rx), .int .u64 (loZ rx), .int .i64 rb.k, .int .i64 rb.n, .string rb.s])) (fuel := 3) rfl rfl (by kernel_rfl) (by kernel_rfl) (by kernel_rfl) (fun _ _ _ h => h) (.inl ⟨rfl, fun W hW => by obtain ⟨s0, sa, sv⟩ := hW; simp [execOp, Act.eval, go_sem, s0, sa, sv]⟩) hS ?_
          simp only [List.setIfInBounds_toArray, List.set_cons_succ, List.set_cons_zero]
          refine held_take (i := 10) (t := 49) (v := (.int .i64 0)) (fuel := 2) rfl rfl (by kernel_rfl) (by kernel_rfl) (by kernel_rfl) (fun _ _ _ h => h) (.inl ⟨rfl, fun W hW => by obtain ⟨s0, sa, sv⟩ := hW; simp [execOp, Act.eval, go_sem, s0, sa, sv]⟩) hS ?_
          simp only [List.setIfInBounds_toArray, List.set_cons_succ, List.set_cons_zero]
          obtain ⟨⟨r0, r1, r2, r3, r4, r5⟩, fr0, fr1, fr2, fr3, fr4, fr5⟩ := blk6 HN3.out.r
          have hlt := heap_lt HN3.out.r
          refine held_call (i := 11) rfl (by kernel_rfl) (by kernel_rfl) ?_
          simp [Oper.wp, execOp, Act.eval, Act.put, go_sem, r0, r1, r2, r3, r4, r5, fr0, fr1, fr2, fr3, fr4, fr5, hlt]
          refine ⟨(((((hS.set 0 _).set 1 _).set 2 _).set 3 _).set 4 _).set 5 _, ?_⟩
          try simp only [List.setIfInBounds_toArray, List.set_cons_succ, List.set_cons_zero]
          refine held_call (i := 12) rfl (by kernel_rfl) (by kernel_rfl) ?_
          simp [Oper.wp, execOp, Act.eval, Act.put, go_sem]
          refine ⟨(((((hS.set 0 _).set 1 _).set 2 _).set 3 _).set 4 _).set 5 _, ?_⟩
          try simp only [List.setIfInBounds_toArray, List.set_cons_succ, List.set_cons_zero]
          refine wpAnyH_done (by kernel_rfl) ?_ 0
          clear hS
          go_wp2
          refine bodyPost_ret (res2 rfl (by rfl) (set6 HN3.out.r _ _ _ _ _ _) Try.underlying35 (by kernel_rfl)) rfl ⟨?_, below6 HN3.out.b (by omega) _ _ _ _ _ _⟩
          rw [HE.out]
          rfl
    · have q1 : (c != 0) = true := by simpa using hc0
      have HE := Lib.hid (show r = (zeroA, 151) by rw [← HR.out]; unfold addA; rw [if_neg HO.out, if_pos (.inl (by rw [HCC.out]; exact hc0))])
      clear hc0 HB
      go_enter Try.func11, Try.ntmps11
      go_wp2_with (first
        | (go_at_call 26; go_loud (refine (HK.out _).mono ?_; rintro e w1 ⟨rfl, rfl⟩))
        | (go_at_call 27; go_loud (refine (HC.out _).mono ?_; rintro en w1 ⟨rfl, hb1⟩; have HN1 := Lib.hid (HN.out.below hb1); clear hb1; clear a0 a1 a2 a3 a4 a5 v0 v1 v2 r0 r1 r2 r3 r4 r5 fr0 fr1 fr2 fr3 fr4 fr5 hlt; obtain ⟨⟨a0, a1, a2, a3, a4, a5⟩, _⟩ := blk6 HN1.out.a; obtain ⟨v0, v1, v2⟩ := blk3 HN1.out.v; obtain ⟨⟨r0, r1, r2, r3, r4, r5⟩, fr0, fr1, fr2, fr3, fr4, fr5⟩ := blk6 HN1.out.r; have hlt := heap_lt HN1.out.r)))
      refine bodyPost_ret (res2 rfl (by rfl) (set6 HN1.out.r _ _ _ _ _ _) Try.underlying35 (by kernel_rfl)) rfl ⟨?_, below6 HN1.out.b (by omega) _ _ _ _ _ _⟩
      rw [HE.out]
      rfl
end Go.Proofs.Ytihgcfokenabgaa
