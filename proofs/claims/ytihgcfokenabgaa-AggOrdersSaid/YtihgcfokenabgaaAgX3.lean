/- Layer 15, walked: what is kept, what it comes to. -/
import Derived.Test.YtihgcfokenabgaaAgX2
namespace Go.Proofs.Ytihgcfokenabgaa
open Go Go.ChangeShapes Go.WideShapes Go.ChangeAt Go.RowKit
set_option linter.unusedVariables false
set_option linter.unusedSimpArgs false
theorem vint_any (n : Int) (w : World) :
    Calls Try.prog 35 #[.int .i64 n] w fun e w' => e = .returned (.agg #[.int .i64 1, .int .i64 n, .string ⟨#[]⟩]) ∧ Below w.heap.size w w' := by
  go_enter Try.func35, Try.ntmps35
  go_wp2
  exact bodyPost_ret (v := .agg #[.int .i64 1, .int .i64 n, .string ⟨#[]⟩]) (by simp [results, Try.results35, go_sem]) rfl ⟨rfl, (Below.refl _ _).alloc (Nat.le_refl _) _⟩
theorem counted_any (a : Ac) (w : World) :
    Calls Try.prog 46 #[a.V] w fun e w' => e = .returned (V.val (intA a.n)) ∧ Below w.heap.size w w' := by
  obtain ⟨an, ax, ab⟩ := a
  obtain ⟨W1, hW1⟩ : ∃ W1, (w.alloc (.cells #[.int .i64 an, .int .i64 (hiZ ax), .int .u64 (loZ ax), .int .i64 ab.k, .int .i64 ab.n, .string ab.s] 35)).alloc (.cells #[.int .i64 0, .int .i64 0, .string ⟨#[]⟩] 33) = W1 := ⟨_, rfl⟩
  have HN := Lib.hid (B2.new 35 w ⟨an, ax, ab⟩)
  rw [hW1] at HN
  unfold Ac.V V.val
  obtain ⟨⟨a0, a1, a2, a3, a4, a5⟩, _⟩ := blk6 HN.out.a
  obtain ⟨r0, r1, r2⟩ := blk3 HN.out.r
  obtain ⟨fr0, fr1, fr2⟩ := blk3f HN.out.r
  have hlt := heap_lt HN.out.r
  have HI := Lib.hid (fun W => vint_any an W)
  go_enter Try.func46, Try.ntmps46
  go_wp2_with (go_at_call 35; go_loud (refine (HI.out _).mono ?_; rintro en w2 ⟨rfl, hb1⟩; have HN1 := Lib.hid (HN.out.below hb1); clear hb1; clear a0 a1 a2 a3 a4 a5 r0 r1 r2 fr0 fr1 fr2 hlt; obtain ⟨r0, r1, r2⟩ := blk3 HN1.out.r; obtain ⟨fr0, fr1, fr2⟩ := blk3f HN1.out.r; have hlt := heap_lt HN1.out.r))
  exact bodyPost_ret (res1 rfl (by rfl) (set3 HN1.out.r _ _ _) Try.underlying33 (by kernel_rfl)) rfl ⟨rfl, below3 HN1.out.b (by omega) _ _ _⟩
/-- The best, if there is one. -/
def bestA (a : Ac) : V := if a.n = 0 then nulA else a.b
theorem best_any (a : Ac) (w : World) :
    Calls Try.prog 48 #[a.V] w fun e w' => e = .returned (V.val (bestA a)) ∧ Below w.heap.size w w' := by
  obtain ⟨an, ax, ab⟩ := a
  obtain ⟨W1, hW1⟩ : ∃ W1, (w.alloc (.cells #[.int .i64 an, .int .i64 (hiZ ax), .int .u64 (loZ ax), .int .i64 ab.k, .int .i64 ab.n, .string ab.s] 35)).alloc (.cells #[.int .i64 0, .int .i64 0, .string ⟨#[]⟩] 33) = W1 := ⟨_, rfl⟩
  have HN := Lib.hid (B2.new 35 w ⟨an, ax, ab⟩)
  rw [hW1] at HN
  unfold Ac.V V.val
  obtain ⟨⟨a0, a1, a2, a3, a4, a5⟩, _⟩ := blk6 HN.out.a
  obtain ⟨r0, r1, r2⟩ := blk3 HN.out.r
  obtain ⟨fr0, fr1, fr2⟩ := blk3f HN.out.r
  have hlt := heap_lt HN.out.r
  by_cases h0 : an = 0
  · rw [show bestA ⟨an, ax, ab⟩ = nulA by unfold bestA; rw [if_pos h0]]
    have q0 : (an == 0) = true := by simpa using h0
    clear h0
    go_enter Try.func48, Try.ntmps48
    go_wp2
    exact bodyPost_ret (res1 rfl (by rfl) (set3 HN.out.r _ _ _) Try.underlying33 (by kernel_rfl)) rfl ⟨rfl, below3 HN.out.b (by omega) _ _ _⟩
  · rw [show bestA ⟨an, ax, ab⟩ = ab by unfold bestA; rw [if_neg h0]]
    have q0 : (an == 0) = false := by simpa using h0
    clear h0
    go_enter Try.func48, Try.ntmps48
    go_wp2
    exact bodyPost_ret (res1 rfl (by rfl) (set3 HN.out.r _ _ _) Try.underlying33 (by kernel_rfl)) rfl ⟨rfl, below3 HN.out.b (by omega) _ _ _⟩
/-- The sum, if it is one of 64 bits. -/
def totalA (a : Ac) : V := if a.n = 0 ∨ inB a.x = false then nulA else intA (wholeN a.x)
theorem total_any (a : Ac) (ha : In128 a.x) (w : World) :
    Calls Try.prog 47 #[a.V] w fun e w' => e = .returned (V.val (totalA a)) ∧ Below w.heap.size w w' := by
  obtain ⟨an, ax, ab⟩ := a
  obtain ⟨W1, hW1⟩ : ∃ W1, (w.alloc (.cells #[.int .i64 an, .int .i64 (hiZ ax), .int .u64 (loZ ax), .int .i64 ab.k, .int .i64 ab.n, .string ab.s] 35)).alloc (.cells #[.int .i64 0, .int .i64 0, .string ⟨#[]⟩] 33) = W1 := ⟨_, rfl⟩
  have HN := Lib.hid (B2.new 35 w ⟨an, ax, ab⟩)
  rw [hW1] at HN
  unfold Ac.V V.val
  obtain ⟨⟨a0, a1, a2, a3, a4, a5⟩, _⟩ := blk6 HN.out.a
  obtain ⟨r0, r1, r2⟩ := blk3 HN.out.r
  obtain ⟨fr0, fr1, fr2⟩ := blk3f HN.out.r
  have hlt := heap_lt HN.out.r
  have HI := Lib.hid (fun W => int_any ax ha W)
  unfold SumV at HI
  obtain ⟨i, hi⟩ : ∃ c, inB ax = c := ⟨_, rfl⟩
  obtain ⟨n, hn⟩ : ∃ c, wholeN ax = c := ⟨_, rfl⟩
  rw [hi, hn] at HI
  have HII := Lib.hid hi
  have HNN := Lib.hid hn
  obtain ⟨r, hr⟩ : ∃ r, totalA ⟨an, ax, ab⟩ = r := ⟨_, rfl⟩
  have HR := Lib.hid hr
  rw [hr]
  have HV := Lib.hid (fun W => vint_any n W)
  clear hr hi hn ha
  by_cases h0 : an = 0
  · rw [show r = nulA by rw [← HR.out]; unfold totalA; rw [if_pos (.inl h0)]]
    have q0 : (an == 0) = true := by simpa using h0
    clear h0
    go_enter Try.func47, Try.ntmps47
    go_wp2_with (first
      | (go_at_call 51; go_loud (refine (HI.out _).mono ?_; rintro en w2 ⟨rfl, hb1⟩; have HN1 := Lib.hid (HN.out.below hb1); clear hb1; clear a0 a1 a2 a3 a4 a5 r0 r1 r2 fr0 fr1 fr2 hlt; obtain ⟨⟨a0, a1, a2, a3, a4, a5⟩, _⟩ := blk6 HN1.out.a; obtain ⟨r0, r1, r2⟩ := blk3 HN1.out.r; obtain ⟨fr0, fr1, fr2⟩ := blk3f HN1.out.r; have hlt := heap_lt HN1.out.r))
      | (go_at_call 35; go_loud (refine (HV.out _).mono ?_; rintro en w3 ⟨rfl, hb1⟩; have HN2 := Lib.hid (HN1.out.below hb1); clear hb1; clear a0 a1 a2 a3 a4 a5 r0 r1 r2 fr0 fr1 fr2 hlt; obtain ⟨r0, r1, r2⟩ := blk3 HN2.out.r; obtain ⟨fr0, fr1, fr2⟩ := blk3f HN2.out.r; have hlt := heap_lt HN2.out.r)))
    exact bodyPost_ret (res1 rfl (by rfl) (set3 HN1.out.r _ _ _) Try.underlying33 (by kernel_rfl)) rfl ⟨rfl, below3 HN1.out.b (by omega) _ _ _⟩
  · have q0 : (an == 0) = false := by simpa using h0
    cases i with
    | true =>
      rw [show r = intA n by rw [← HR.out]; unfold totalA; rw [if_neg (by rintro (h | h); exact h0 h; rw [HII.out] at h; cases h), HNN.out]]
      clear h0
      go_enter Try.func47, Try.ntmps47
      go_wp2_with (first
        | (go_at_call 51; go_loud (refine (HI.out _).mono ?_; rintro en w2 ⟨rfl, hb1⟩; have HN1 := Lib.hid (HN.out.below hb1); clear hb1; clear a0 a1 a2 a3 a4 a5 r0 r1 r2 fr0 fr1 fr2 hlt; obtain ⟨⟨a0, a1, a2, a3, a4, a5⟩, _⟩ := blk6 HN1.out.a; obtain ⟨r0, r1, r2⟩ := blk3 HN1.out.r; obtain ⟨fr0, fr1, fr2⟩ := blk3f HN1.out.r; have hlt := heap_lt HN1.out.r))
        | (go_at_call 35; go_loud (refine (HV.out _).mono ?_; rintro en w3 ⟨rfl, hb1⟩; have HN2 := Lib.hid (HN1.out.below hb1); clear hb1; clear a0 a1 a2 a3 a4 a5 r0 r1 r2 fr0 fr1 fr2 hlt; obtain ⟨r0, r1, r2⟩ := blk3 HN2.out.r; obtain ⟨fr0, fr1, fr2⟩ := blk3f HN2.out.r; have hlt := heap_lt HN2.out.r)))
      exact bodyPost_ret (res1 rfl (by rfl) (set3 HN2.out.r _ _ _) Try.underlying33 (by kernel_rfl)) rfl ⟨rfl, below3 HN2.out.b (by omega) _ _ _⟩
    | false =>
      rw [show r = nulA by rw [← HR.out]; unfold totalA; rw [if_pos (.inr HII.out)]]
      clear h0
      go_enter Try.func47, Try.ntmps47
      go_wp2_with (first
        | (go_at_call 51; go_loud (refine (HI.out _).mono ?_; rintro en w2 ⟨rfl, hb1⟩; have HN1 := Lib.hid (HN.out.below hb1); clear hb1; clear a0 a1 a2 a3 a4 a5 r0 r1 r2 fr0 fr1 fr2 hlt; obtain ⟨⟨a0, a1, a2, a3, a4, a5⟩, _⟩ := blk6 HN1.out.a; obtain ⟨r0, r1, r2⟩ := blk3 HN1.out.r; obtain ⟨fr0, fr1, fr2⟩ := blk3f HN1.out.r; have hlt := heap_lt HN1.out.r))
        | (go_at_call 35; go_loud (refine (HV.out _).mono ?_; rintro en w3 ⟨rfl, hb1⟩; have HN2 := Lib.hid (HN1.out.below hb1); clear hb1; clear a0 a1 a2 a3 a4 a5 r0 r1 r2 fr0 fr1 fr2 hlt; obtain ⟨r0, r1, r2⟩ := blk3 HN2.out.r; obtain ⟨fr0, fr1, fr2⟩ := blk3f HN2.out.r; have hlt := heap_lt HN2.out.r)))
      exact bodyPost_ret (res1 rfl (by rfl) (set3 HN1.out.r _ _ _) Try.underlying33 (by kernel_rfl)) rfl ⟨rfl, below3 HN1.out.b (by omega) _ _ _⟩
/-- What is kept, as it lies in its box. -/
def SA (T : Nat) (w : World) (a : Ac) (W : World) : Prop := W.heap[w.heap.size]? = some (.cells #[.int .i64 a.n, .int .i64 (hiZ a.x), .int .u64 (loZ a.x), .int .i64 a.b.k, .int .i64 a.b.n, .string a.b.s] T) ∧
  (W.cell? ⟨w.heap.size, 0, none⟩ = some (.int .i64 a.n) ∧ W.cell? ⟨w.heap.size, 1, none⟩ = some (.int .i64 (hiZ a.x)) ∧ W.cell? ⟨w.heap.size, 2, none⟩ = some (.int .u64 (loZ a.x)) ∧ W.cell? ⟨w.heap.size, 3, none⟩ = some (.int .i64 a.b.k) ∧ W.cell? ⟨w.heap.size, 4, none⟩ = some (.int .i64 a.b.n) ∧ W.cell? ⟨w.heap.size, 5, none⟩ = some (.string a.b.s))
theorem sa_of {T : Nat} {w W : World} {a : Ac} (h : W.heap[w.heap.size]? = some (.cells #[.int .i64 a.n, .int .i64 (hiZ a.x), .int .u64 (loZ a.x), .int .i64 a.b.k, .int .i64 a.b.n, .string a.b.s] T)) : SA T w a W := ⟨h, (blk6 h).1⟩
theorem SA.below {T : Nat} {w W W' : World} {a : Ac} (h : SA T w a W) (hb : Below W.heap.size W W') : SA T w a W' := sa_of ((hb.block _ (heap_lt h.1)).trans h.1)
theorem SA.set {T : Nat} {w W : World} {a : Ac} (h : SA T w a W) (i : Nat) (v : Value) : SA T w a (W.setCell ⟨w.heap.size + 1, i, none⟩ v) :=
  sa_of (by rw [heap_setCell_other _ _ _ _ (by dsimp only; omega)]; exact h.1)
set_option maxHeartbeats 4000000 in
set_option maxRecDepth 100000 in
theorem aworth_any (kind : Int) (a : Ac) (ha : In128 a.x) (w : World) :
    Calls Try.prog 15 #[.int .i64 kind, a.V] w fun e w' => e = .returned (.tuple #[(worthA kind a).1.val, .int .i64 (worthA kind a).2]) ∧ Below w.heap.size w w' := by
  have HJ := Lib.hid (fun W => worths_any W)
  have HK := Lib.hid (fun W => known_any kind W)
  have HCC := Lib.hid (fun W => counted_any a W)
  have HCT := Lib.hid (fun W => total_any a ha W)
  have HCB := Lib.hid (fun W => best_any a W)
  obtain ⟨r, hr⟩ : ∃ r, worthA kind a = r := ⟨_, rfl⟩
  have HR := Lib.hid hr
  rw [hr]
  clear hr ha
  obtain ⟨an, ax, ab⟩ := a
  obtain ⟨W1, hW1⟩ : ∃ W1, (w.alloc (.cells #[.int .i64 an, .int .i64 (hiZ ax), .int .u64 (loZ ax), .int .i64 ab.k, .int .i64 ab.n, .string ab.s] 35)).alloc (.cells #[.int .i64 0, .int .i64 0, .string ⟨#[]⟩] 33) = W1 := ⟨_, rfl⟩
  have HN := Lib.hid (B2.new 35 w ⟨an, ax, ab⟩)
  rw [hW1] at HN
  unfold Ac.V V.val
  obtain ⟨⟨a0, a1, a2, a3, a4, a5⟩, _⟩ := blk6 HN.out.a
  obtain ⟨r0, r1, r2⟩ := blk3 HN.out.r
  obtain ⟨fr0, fr1, fr2⟩ := blk3f HN.out.r
  have hlt := heap_lt HN.out.r
  cases hok : okA kind with
  | false =>
    have HE := Lib.hid (show r = (nulA, 150) by
      have hk : ¬ (1 ≤ kind ∧ kind ≤ 5) := fun h => by rw [okA_iff.2 h] at hok; cases hok
      rw [← HR.out]; unfold worthA; rw [if_neg (by omega), if_neg (by omega), if_neg (by omega)])
    rw [hok] at HK
    clear hok
    go_enter Try.func15, Try.ntmps15
    go_wp2_with (go_at_call 26; go_loud (refine (HK.out _).mono ?_; rintro e w1 ⟨rfl, rfl⟩))
    refine bodyPost_ret (res2 rfl (by rfl) (set3 HN.out.r _ _ _) Try.underlying33 (by kernel_rfl)) rfl ⟨?_, below3 HN.out.b (by omega) _ _ _⟩
    rw [HE.out]
    rfl
  | true =>
    obtain ⟨hk1, hk5⟩ := okA_iff.1 hok
    rw [hok] at HK
    clear hok
    rcases (show kind = 1 ∨ kind = 2 ∨ kind = 3 ∨ kind = 4 ∨ kind = 5 by omega) with rfl | rfl | rfl | rfl | rfl
    · skip
      obtain ⟨⟨rk, rn, rs⟩, HU, HE⟩ : ∃ v : V, Hid (∀ W, Calls Try.prog 46 #[Ac.V ⟨an, ax, ab⟩] W fun e w' => e = .returned (V.val v) ∧ Below W.heap.size W w') ∧ Hid (r = (v, 0)) :=
        ⟨_, Lib.hid HCC.out, Lib.hid (by rw [← HR.out]; rfl)⟩
      unfold Ac.V V.val at HU
      clear HCC HCT HCB HR
      -- counted the function, 1 the kind
      have hix : ∀ W : World, (Instr.index 73 (.agg #[.nilFunc, .func (.func 46) #[] #[], .func (.func 46) #[] #[], .func (.func 47) #[] #[], .func (.func 48) #[] #[], .func (.func 48) #[] #[]]) (.int .i64 1)).run Try.prog W = .ok (.func (.func 46) #[] #[]) W := fun _ => by kernel_rfl
      go_enter Try.func15, Try.ntmps15
      go_wp2_with (go_at_call 26; go_loud (refine (HK.out _).mono ?_; rintro e w1 ⟨rfl, rfl⟩))
      have hS : SA 35 w ⟨an, ax, ab⟩ W1.drew := (sa_of HN.out.a).below ((Below.refl _ _).drew)
      clear a0 a1 a2 a3 a4 a5 r0 r1 r2 fr0 fr1 fr2 hlt
      refine held_begin 7 (fun W => SA 35 w ⟨an, ax, ab⟩ W) rfl (by kernel_rfl) ?_
      refine held_take (i := 1) (t := 11) (v := (.int .i64 1)) (fuel := 6) rfl rfl (by kernel_rfl) (by kernel_rfl) (by kernel_rfl) (fun _ _ _ h => h) (.inl ⟨rfl, fun W hW => by obtain ⟨s0, sa⟩ := hW; simp [execOp, Act.eval, go_sem, s0, sa]⟩) hS ?_
      simp only [List.setIfInBounds_toArray, List.set_cons_succ, List.set_cons_zero]
      refine held_take (i := 3) (t := 13) (v := (.agg #[.int .i64 an, .int .i64 (hiZ ax), .int .u64 (loZ ax), .int .i64 ab.k, .int .i64 ab.n, .string ab.s])) (fuel := 5) rfl rfl (by kernel_rfl) (by kernel_rfl) (by kernel_rfl) (fun _ _ _ h => h) (.inl ⟨rfl, fun W hW => by obtain ⟨s0, sa⟩ := hW; simp [execOp, Act.eval, go_sem, s0, sa, sa.1, sa.2.1, sa.2.2.1, sa.2.2.2.1, sa.2.2.2.2.1, sa.2.2.2.2.2]⟩) hS ?_
      simp only [List.setIfInBounds_toArray, List.set_cons_succ, List.set_cons_zero]
      refine held_call (i := 0) rfl (by kernel_rfl) (by kernel_rfl) ?_
      simp [Oper.wp, execOp, Act.eval, Act.put, go_sem]
      refine (HJ.out _).mono ?_
      rintro e w2 ⟨rfl, hb2⟩
      have hS2 := hS.below hb2
      have HN2 := Lib.hid ((HN.out.below ((Below.refl _ _).drew)).below hb2)
      refine ⟨hS2, ?_⟩
      clear hS hb2
      have hS := hS2
      clear hS2
      try simp only [List.setIfInBounds_toArray, List.set_cons_succ, List.set_cons_zero]
      refine held_take (i := 2) (t := 12) (v := (.func (.func 46) #[] #[])) (fuel := 3) rfl rfl (by kernel_rfl) (by kernel_rfl) (by kernel_rfl) (fun _ _ _ h => h) (.inl ⟨rfl, fun W hW => by obtain ⟨s0, sa⟩ := hW; simp [execOp, Act.eval, go_sem, s0, sa, hix]⟩) hS ?_
      simp only [List.setIfInBounds_toArray, List.set_cons_succ, List.set_cons_zero]
      refine held_call (i := 4) rfl (by kernel_rfl) (by kernel_rfl) ?_
      simp [Oper.wp, execOp, Act.eval, Act.put, go_sem]
      refine (HU.out _).mono ?_
      rintro e w3 ⟨rfl, hb3⟩
      have hS2 := hS.below hb3
      have HN3 := Lib.hid (HN2.out.below hb3)
      refine ⟨hS2, ?_⟩
      clear hS hb3
      have hS := hS2
      clear hS2
      try simp only [List.setIfInBounds_toArray, List.set_cons_succ, List.set_cons_zero]
      obtain ⟨r0, r1, r2⟩ := blk3 HN3.out.r
      obtain ⟨fr0, fr1, fr2⟩ := blk3f HN3.out.r
      have hlt := heap_lt HN3.out.r
      refine held_call (i := 5) rfl (by kernel_rfl) (by kernel_rfl) ?_
      simp [Oper.wp, execOp, Act.eval, Act.put, go_sem, r0, r1, r2, fr0, fr1, fr2, hlt]
      refine ⟨((hS.set 0 _).set 1 _).set 2 _, ?_⟩
      try simp only [List.setIfInBounds_toArray, List.set_cons_succ, List.set_cons_zero]
      refine held_call (i := 6) rfl (by kernel_rfl) (by kernel_rfl) ?_
      simp [Oper.wp, execOp, Act.eval, Act.put, go_sem]
      refine ⟨((hS.set 0 _).set 1 _).set 2 _, ?_⟩
      try simp only [List.setIfInBounds_toArray, List.set_cons_succ, List.set_cons_zero]
      refine wpAnyH_done (by kernel_rfl) ?_ 0
      clear hS
      go_wp2
      refine bodyPost_ret (res2 rfl (by rfl) (set3 HN3.out.r _ _ _) Try.underlying33 (by kernel_rfl)) rfl ⟨?_, below3 HN3.out.b (by omega) _ _ _⟩
      rw [HE.out]
      rfl
    · skip
      obtain ⟨⟨rk, rn, rs⟩, HU, HE⟩ : ∃ v : V, Hid (∀ W, Calls Try.prog 46 #[Ac.V ⟨an, ax, ab⟩] W fun e w' => e = .returned (V.val v) ∧ Below W.heap.size W w') ∧ Hid (r = (v, 0)) :=
        ⟨_, Lib.hid HCC.out, Lib.hid (by rw [← HR.out]; rfl)⟩
      unfold Ac.V V.val at HU
      clear HCC HCT HCB HR
      -- counted the function, 2 the kind
      have hix : ∀ W : World, (Instr.index 73 (.agg #[.nilFunc, .func (.func 46) #[] #[], .func (.func 46) #[] #[], .func (.func 47) #[] #[], .func (.func 48) #[] #[], .func (.func 48) #[] #[]]) (.int .i64 2)).run Try.prog W = .ok (.func (.func 46) #[] #[]) W := fun _ => by kernel_rfl
      go_enter Try.func15, Try.ntmps15
      go_wp2_with (go_at_call 26; go_loud (refine (HK.out _).mono ?_; rintro e w1 ⟨rfl, rfl⟩))
      have hS : SA 35 w ⟨an, ax, ab⟩ W1.drew := (sa_of HN.out.a).below ((Below.refl _ _).drew)
      clear a0 a1 a2 a3 a4 a5 r0 r1 r2 fr0 fr1 fr2 hlt
      refine held_begin 7 (fun W => SA 35 w ⟨an, ax, ab⟩ W) rfl (by kernel_rfl) ?_
      refine held_take (i := 1) (t := 11) (v := (.int .i64 2)) (fuel := 6) rfl rfl (by kernel_rfl) (by kernel_rfl) (by kernel_rfl) (fun _ _ _ h => h) (.inl ⟨rfl, fun W hW => by obtain ⟨s0, sa⟩ := hW; simp [execOp, Act.eval, go_sem, s0, sa]⟩) hS ?_
      simp only [List.setIfInBounds_toArray, List.set_cons_succ, List.set_cons_zero]
      refine held_take (i := 3) (t := 13) (v := (.agg #[.int .i64 an, .int .i64 (hiZ ax), .int .u64 (loZ ax), .int .i64 ab.k, .int .i64 ab.n, .string ab.s])) (fuel := 5) rfl rfl (by kernel_rfl) (by kernel_rfl) (by kernel_rfl) (fun _ _ _ h => h) (.inl ⟨rfl, fun W hW => by obtain ⟨s0, sa⟩ := hW; simp [execOp, Act.eval, go_sem, s0, sa, sa.1, sa.2.1, sa.2.2.1, sa.2.2.2.1, sa.2.2.2.2.1, sa.2.2.2.2.2]⟩) hS ?_
      simp only [List.setIfInBounds_toArray, List.set_cons_succ, List.set_cons_zero]
      refine held_call (i := 0) rfl (by kernel_rfl) (by kernel_rfl) ?_
      simp [Oper.wp, execOp, Act.eval, Act.put, go_sem]
      refine (HJ.out _).mono ?_
      rintro e w2 ⟨rfl, hb2⟩
      have hS2 := hS.below hb2
      have HN2 := Lib.hid ((HN.out.below ((Below.refl _ _).drew)).below hb2)
      refine ⟨hS2, ?_⟩
      clear hS hb2
      have hS := hS2
      clear hS2
      try simp only [List.setIfInBounds_toArray, List.set_cons_succ, List.set_cons_zero]
      refine held_take (i := 2) (t := 12) (v := (.func (.func 46) #[] #[])) (fuel := 3) rfl rfl (by kernel_rfl) (by kernel_rfl) (by kernel_rfl) (fun _ _ _ h => h) (.inl ⟨rfl, fun W hW => by obtain ⟨s0, sa⟩ := hW; simp [execOp, Act.eval, go_sem, s0, sa, hix]⟩) hS ?_
      simp only [List.setIfInBounds_toArray, List.set_cons_succ, List.set_cons_zero]
      refine held_call (i := 4) rfl (by kernel_rfl) (by kernel_rfl) ?_
      simp [Oper.wp, execOp, Act.eval, Act.put, go_sem]
      refine (HU.out _).mono ?_
      rintro e w3 ⟨rfl, hb3⟩
      have hS2 := hS.below hb3
      have HN3 := Lib.hid (HN2.out.below hb3)
      refine ⟨hS2, ?_⟩
      clear hS hb3
      have hS := hS2
      clear hS2
      try simp only [List.setIfInBounds_toArray, List.set_cons_succ, List.set_cons_zero]
      obtain ⟨r0, r1, r2⟩ := blk3 HN3.out.r
      obtain ⟨fr0, fr1, fr2⟩ := blk3f HN3.out.r
      have hlt := heap_lt HN3.out.r
      refine held_call (i := 5) rfl (by kernel_rfl) (by kernel_rfl) ?_
      simp [Oper.wp, execOp, Act.eval, Act.put, go_sem, r0, r1, r2, fr0, fr1, fr2, hlt]
      refine ⟨((hS.set 0 _).set 1 _).set 2 _, ?_⟩
      try simp only [List.setIfInBounds_toArray, List.set_cons_succ, List.set_cons_zero]
      refine held_call (i := 6) rfl (by kernel_rfl) (by kernel_rfl) ?_
      simp [Oper.wp, execOp, Act.eval, Act.put, go_sem]
      refine ⟨((hS.set 0 _).set 1 _).set 2 _, ?_⟩
      try simp only [List.setIfInBounds_toArray, List.set_cons_succ, List.set_cons_zero]
      refine wpAnyH_done (by kernel_rfl) ?_ 0
      clear hS
      go_wp2
      refine bodyPost_ret (res2 rfl (by rfl) (set3 HN3.out.r _ _ _) Try.underlying33 (by kernel_rfl)) rfl ⟨?_, below3 HN3.out.b (by omega) _ _ _⟩
      rw [HE.out]
      rfl
    · skip
      obtain ⟨⟨rk, rn, rs⟩, HU, HE⟩ : ∃ v : V, Hid (∀ W, Calls Try.prog 47 #[Ac.V ⟨an, ax, ab⟩] W fun e w' => e = .returned (V.val v) ∧ Below W.heap.size W w') ∧ Hid (r = (v, 0)) :=
        ⟨_, Lib.hid HCT.out, Lib.hid (by rw [← HR.out]; rfl)⟩
      unfold Ac.V V.val at HU
      clear HCC HCT HCB HR
      -- total the function, 3 the kind
      have hix : ∀ W : World, (Instr.index 73 (.agg #[.nilFunc, .func (.func 46) #[] #[], .func (.func 46) #[] #[], .func (.func 47) #[] #[], .func (.func 48) #[] #[], .func (.func 48) #[] #[]]) (.int .i64 3)).run Try.prog W = .ok (.func (.func 47) #[] #[]) W := fun _ => by kernel_rfl
      go_enter Try.func15, Try.ntmps15
      go_wp2_with (go_at_call 26; go_loud (refine (HK.out _).mono ?_; rintro e w1 ⟨rfl, rfl⟩))
      have hS : SA 35 w ⟨an, ax, ab⟩ W1.drew := (sa_of HN.out.a).below ((Below.refl _ _).drew)
      clear a0 a1 a2 a3 a4 a5 r0 r1 r2 fr0 fr1 fr2 hlt
      refine held_begin 7 (fun W => SA 35 w ⟨an, ax, ab⟩ W) rfl (by kernel_rfl) ?_
      refine held_take (i := 1) (t := 11) (v := (.int .i64 3)) (fuel := 6) rfl rfl (by kernel_rfl) (by kernel_rfl) (by kernel_rfl) (fun _ _ _ h => h) (.inl ⟨rfl, fun W hW => by obtain ⟨s0, sa⟩ := hW; simp [execOp, Act.eval, go_sem, s0, sa]⟩) hS ?_
      simp only [List.setIfInBounds_toArray, List.set_cons_succ, List.set_cons_zero]
      refine held_take (i := 3) (t := 13) (v := (.agg #[.int .i64 an, .int .i64 (hiZ ax), .int .u64 (loZ ax), .int .i64 ab.k, .int .i64 ab.n, .string ab.s])) (fuel := 5) rfl rfl (by kernel_rfl) (by kernel_rfl) (by kernel_rfl) (fun _ _ _ h => h) (.inl ⟨rfl, fun W hW => by obtain ⟨s0, sa⟩ := hW; simp [execOp, Act.eval, go_sem, s0, sa, sa.1, sa.2.1, sa.2.2.1, sa.2.2.2.1, sa.2.2.2.2.1, sa.2.2.2.2.2]⟩) hS ?_
      simp only [List.setIfInBounds_toArray, List.set_cons_succ, List.set_cons_zero]
      refine held_call (i := 0) rfl (by kernel_rfl) (by kernel_rfl) ?_
      simp [Oper.wp, execOp, Act.eval, Act.put, go_sem]
      refine (HJ.out _).mono ?_
      rintro e w2 ⟨rfl, hb2⟩
      have hS2 := hS.below hb2
      have HN2 := Lib.hid ((HN.out.below ((Below.refl _ _).drew)).below hb2)
      refine ⟨hS2, ?_⟩
      clear hS hb2
      have hS := hS2
      clear hS2
      try simp only [List.setIfInBounds_toArray, List.set_cons_succ, List.set_cons_zero]
      refine held_take (i := 2) (t := 12) (v := (.func (.func 47) #[] #[])) (fuel := 3) rfl rfl (by kernel_rfl) (by kernel_rfl) (by kernel_rfl) (fun _ _ _ h => h) (.inl ⟨rfl, fun W hW => by obtain ⟨s0, sa⟩ := hW; simp [execOp, Act.eval, go_sem, s0, sa, hix]⟩) hS ?_
      simp only [List.setIfInBounds_toArray, List.set_cons_succ, List.set_cons_zero]
      refine held_call (i := 4) rfl (by kernel_rfl) (by kernel_rfl) ?_
      simp [Oper.wp, execOp, Act.eval, Act.put, go_sem]
      refine (HU.out _).mono ?_
      rintro e w3 ⟨rfl, hb3⟩
      have hS2 := hS.below hb3
      have HN3 := Lib.hid (HN2.out.below hb3)
      refine ⟨hS2, ?_⟩
      clear hS hb3
      have hS := hS2
      clear hS2
      try simp only [List.setIfInBounds_toArray, List.set_cons_succ, List.set_cons_zero]
      obtain ⟨r0, r1, r2⟩ := blk3 HN3.out.r
      obtain ⟨fr0, fr1, fr2⟩ := blk3f HN3.out.r
      have hlt := heap_lt HN3.out.r
      refine held_call (i := 5) rfl (by kernel_rfl) (by kernel_rfl) ?_
      simp [Oper.wp, execOp, Act.eval, Act.put, go_sem, r0, r1, r2, fr0, fr1, fr2, hlt]
      refine ⟨((hS.set 0 _).set 1 _).set 2 _, ?_⟩
      try simp only [List.setIfInBounds_toArray, List.set_cons_succ, List.set_cons_zero]
      refine held_call (i := 6) rfl (by kernel_rfl) (by kernel_rfl) ?_
      simp [Oper.wp, execOp, Act.eval, Act.put, go_sem]
      refine ⟨((hS.set 0 _).set 1 _).set 2 _, ?_⟩
      try simp only [List.setIfInBounds_toArray, List.set_cons_succ, List.set_cons_zero]
      refine wpAnyH_done (by kernel_rfl) ?_ 0
      clear hS
      go_wp2
      refine bodyPost_ret (res2 rfl (by rfl) (set3 HN3.out.r _ _ _) Try.underlying33 (by kernel_rfl)) rfl ⟨?_, below3 HN3.out.b (by omega) _ _ _⟩
      rw [HE.out]
      rfl
    · skip
      obtain ⟨⟨rk, rn, rs⟩, HU, HE⟩ : ∃ v : V, Hid (∀ W, Calls Try.prog 48 #[Ac.V ⟨an, ax, ab⟩] W fun e w' => e = .returned (V.val v) ∧ Below W.heap.size W w') ∧ Hid (r = (v, 0)) :=
        ⟨_, Lib.hid HCB.out, Lib.hid (by rw [← HR.out]; rfl)⟩
      unfold Ac.V V.val at HU
      clear HCC HCT HCB HR
      -- best the function, 4 the kind
      have hix : ∀ W : World, (Instr.index 73 (.agg #[.nilFunc, .func (.func 46) #[] #[], .func (.func 46) #[] #[], .func (.func 47) #[] #[], .func (.func 48) #[] #[], .func (.func 48) #[] #[]]) (.int .i64 4)).run Try.prog W = .ok (.func (.func 48) #[] #[]) W := fun _ => by kernel_rfl
      go_enter Try.func15, Try.ntmps15
      go_wp2_with (go_at_call 26; go_loud (refine (HK.out _).mono ?_; rintro e w1 ⟨rfl, rfl⟩))
      have hS : SA 35 w ⟨an, ax, ab⟩ W1.drew := (sa_of HN.out.a).below ((Below.refl _ _).drew)
      clear a0 a1 a2 a3 a4 a5 r0 r1 r2 fr0 fr1 fr2 hlt
      refine held_begin 7 (fun W => SA 35 w ⟨an, ax, ab⟩ W) rfl (by kernel_rfl) ?_
      refine held_take (i := 1) (t := 11) (v := (.int .i64 4)) (fuel := 6) rfl rfl (by kernel_rfl) (by kernel_rfl) (by kernel_rfl) (fun _ _ _ h => h) (.inl ⟨rfl, fun W hW => by obtain ⟨s0, sa⟩ := hW; simp [execOp, Act.eval, go_sem, s0, sa]⟩) hS ?_
      simp only [List.setIfInBounds_toArray, List.set_cons_succ, List.set_cons_zero]
      refine held_take (i := 3) (t := 13) (v := (.agg #[.int .i64 an, .int .i64 (hiZ ax), .int .u64 (loZ ax), .int .i64 ab.k, .int .i64 ab.n, .string ab.s])) (fuel := 5) rfl rfl (by kernel_rfl) (by kernel_rfl) (by kernel_rfl) (fun _ _ _ h => h) (.inl ⟨rfl, fun W hW => by obtain ⟨s0, sa⟩ := hW; simp [execOp, Act.eval, go_sem, s0, sa, sa.1, sa.2.1, sa.2.2.1, sa.2.2.2.1, sa.2.2.2.2.1, sa.2.2.2.2.2]⟩) hS ?_
      simp only [List.setIfInBounds_toArray, List.set_cons_succ, List.set_cons_zero]
      refine held_call (i := 0) rfl (by kernel_rfl) (by kernel_rfl) ?_
      simp [Oper.wp, execOp, Act.eval, Act.put, go_sem]
      refine (HJ.out _).mono ?_
      rintro e w2 ⟨rfl, hb2⟩
      have hS2 := hS.below hb2
      have HN2 := Lib.hid ((HN.out.below ((Below.refl _ _).drew)).below hb2)
      refine ⟨hS2, ?_⟩
      clear hS hb2
      have hS := hS2
      clear hS2
      try simp only [List.setIfInBounds_toArray, List.set_cons_succ, List.set_cons_zero]
      refine held_take (i := 2) (t := 12) (v := (.func (.func 48) #[] #[])) (fuel := 3) rfl rfl (by kernel_rfl) (by kernel_rfl) (by kernel_rfl) (fun _ _ _ h => h) (.inl ⟨rfl, fun W hW => by obtain ⟨s0, sa⟩ := hW; simp [execOp, Act.eval, go_sem, s0, sa, hix]⟩) hS ?_
      simp only [List.setIfInBounds_toArray, List.set_cons_succ, List.set_cons_zero]
      refine held_call (i := 4) rfl (by kernel_rfl) (by kernel_rfl) ?_
      simp [Oper.wp, execOp, Act.eval, Act.put, go_sem]
      refine (HU.out _).mono ?_
      rintro e w3 ⟨rfl, hb3⟩
      have hS2 := hS.below hb3
      have HN3 := Lib.hid (HN2.out.below hb3)
      refine ⟨hS2, ?_⟩
      clear hS hb3
      have hS := hS2
      clear hS2
      try simp only [List.setIfInBounds_toArray, List.set_cons_succ, List.set_cons_zero]
      obtain ⟨r0, r1, r2⟩ := blk3 HN3.out.r
      obtain ⟨fr0, fr1, fr2⟩ := blk3f HN3.out.r
      have hlt := heap_lt HN3.out.r
      refine held_call (i := 5) rfl (by kernel_rfl) (by kernel_rfl) ?_
      simp [Oper.wp, execOp, Act.eval, Act.put, go_sem, r0, r1, r2, fr0, fr1, fr2, hlt]
      refine ⟨((hS.set 0 _).set 1 _).set 2 _, ?_⟩
      try simp only [List.setIfInBounds_toArray, List.set_cons_succ, List.set_cons_zero]
      refine held_call (i := 6) rfl (by kernel_rfl) (by kernel_rfl) ?_
      simp [Oper.wp, execOp, Act.eval, Act.put, go_sem]
      refine ⟨((hS.set 0 _).set 1 _).set 2 _, ?_⟩
      try simp only [List.setIfInBounds_toArray, List.set_cons_succ, List.set_cons_zero]
      refine wpAnyH_done (by kernel_rfl) ?_ 0
      clear hS
      go_wp2
      refine bodyPost_ret (res2 rfl (by rfl) (set3 HN3.out.r _ _ _) Try.underlying33 (by kernel_rfl)) rfl ⟨?_, below3 HN3.out.b (by omega) _ _ _⟩
      rw [HE.out]
      rfl
    · skip
      obtain ⟨⟨rk, rn, rs⟩, HU, HE⟩ : ∃ v : V, Hid (∀ W, Calls Try.prog 48 #[Ac.V ⟨an, ax, ab⟩] W fun e w' => e = .returned (V.val v) ∧ Below W.heap.size W w') ∧ Hid (r = (v, 0)) :=
        ⟨_, Lib.hid HCB.out, Lib.hid (by rw [← HR.out]; rfl)⟩
      unfold Ac.V V.val at HU
      clear HCC HCT HCB HR
      -- best the function, 5 the kind
      have hix : ∀ W : World, (Instr.index 73 (.agg #[.nilFunc, .func (.func 46) #[] #[], .func (.func 46) #[] #[], .func (.func 47) #[] #[], .func (.func 48) #[] #[], .func (.func 48) #[] #[]]) (.int .i64 5)).run Try.prog W = .ok (.func (.func 48) #[] #[]) W := fun _ => by kernel_rfl
      go_enter Try.func15, Try.ntmps15
      go_wp2_with (go_at_call 26; go_loud (refine (HK.out _).mono ?_; rintro e w1 ⟨rfl, rfl⟩))
      have hS : SA 35 w ⟨an, ax, ab⟩ W1.drew := (sa_of HN.out.a).below ((Below.refl _ _).drew)
      clear a0 a1 a2 a3 a4 a5 r0 r1 r2 fr0 fr1 fr2 hlt
      refine held_begin 7 (fun W => SA 35 w ⟨an, ax, ab⟩ W) rfl (by kernel_rfl) ?_
      refine held_take (i := 1) (t := 11) (v := (.int .i64 5)) (fuel := 6) rfl rfl (by kernel_rfl) (by kernel_rfl) (by kernel_rfl) (fun _ _ _ h => h) (.inl ⟨rfl, fun W hW => by obtain ⟨s0, sa⟩ := hW; simp [execOp, Act.eval, go_sem, s0, sa]⟩) hS ?_
      simp only [List.setIfInBounds_toArray, List.set_cons_succ, List.set_cons_zero]
      refine held_take (i := 3) (t := 13) (v := (.agg #[.int .i64 an, .int .i64 (hiZ ax), .int .u64 (loZ ax), .int .i64 ab.k, .int .i64 ab.n, .string ab.s])) (fuel := 5) rfl rfl (by kernel_rfl) (by kernel_rfl) (by kernel_rfl) (fun _ _ _ h => h) (.inl ⟨rfl, fun W hW => by obtain ⟨s0, sa⟩ := hW; simp [execOp, Act.eval, go_sem, s0, sa, sa.1, sa.2.1, sa.2.2.1, sa.2.2.2.1, sa.2.2.2.2.1, sa.2.2.2.2.2]⟩) hS ?_
      simp only [List.setIfInBounds_toArray, List.set_cons_succ, List.set_cons_zero]
      refine held_call (i := 0) rfl (by kernel_rfl) (by kernel_rfl) ?_
      simp [Oper.wp, execOp, Act.eval, Act.put, go_sem]
      refine (HJ.out _).mono ?_
      rintro e w2 ⟨rfl, hb2⟩
      have hS2 := hS.below hb2
      have HN2 := Lib.hid ((HN.out.below ((Below.refl _ _).drew)).below hb2)
      refine ⟨hS2, ?_⟩
      clear hS hb2
      have hS := hS2
      clear hS2
      try simp only [List.setIfInBounds_toArray, List.set_cons_succ, List.set_cons_zero]
      refine held_take (i := 2) (t := 12) (v := (.func (.func 48) #[] #[])) (fuel := 3) rfl rfl (by kernel_rfl) (by kernel_rfl) (by kernel_rfl) (fun _ _ _ h => h) (.inl ⟨rfl, fun W hW => by obtain ⟨s0, sa⟩ := hW; simp [execOp, Act.eval, go_sem, s0, sa, hix]⟩) hS ?_
      simp only [List.setIfInBounds_toArray, List.set_cons_succ, List.set_cons_zero]
      refine held_call (i := 4) rfl (by kernel_rfl) (by kernel_rfl) ?_
      simp [Oper.wp, execOp, Act.eval, Act.put, go_sem]
      refine (HU.out _).mono ?_
      rintro e w3 ⟨rfl, hb3⟩
      have hS2 := hS.below hb3
      have HN3 := Lib.hid (HN2.out.below hb3)
      refine ⟨hS2, ?_⟩
      clear hS hb3
      have hS := hS2
      clear hS2
      try simp only [List.setIfInBounds_toArray, List.set_cons_succ, List.set_cons_zero]
      obtain ⟨r0, r1, r2⟩ := blk3 HN3.out.r
      obtain ⟨fr0, fr1, fr2⟩ := blk3f HN3.out.r
      have hlt := heap_lt HN3.out.r
      refine held_call (i := 5) rfl (by kernel_rfl) (by kernel_rfl) ?_
      simp [Oper.wp, execOp, Act.eval, Act.put, go_sem, r0, r1, r2, fr0, fr1, fr2, hlt]
      refine ⟨((hS.set 0 _).set 1 _).set 2 _, ?_⟩
      try simp only [List.setIfInBounds_toArray, List.set_cons_succ, List.set_cons_zero]
      refine held_call (i := 6) rfl (by kernel_rfl) (by kernel_rfl) ?_
      simp [Oper.wp, execOp, Act.eval, Act.put, go_sem]
      refine ⟨((hS.set 0 _).set 1 _).set 2 _, ?_⟩
      try simp only [List.setIfInBounds_toArray, List.set_cons_succ, List.set_cons_zero]
      refine wpAnyH_done (by kernel_rfl) ?_ 0
      clear hS
      go_wp2
      refine bodyPost_ret (res2 rfl (by rfl) (set3 HN3.out.r _ _ _) Try.underlying33 (by kernel_rfl)) rfl ⟨?_, below3 HN3.out.b (by omega) _ _ _⟩
      rw [HE.out]
      rfl
end Go.Proofs.Ytihgcfokenabgaa
