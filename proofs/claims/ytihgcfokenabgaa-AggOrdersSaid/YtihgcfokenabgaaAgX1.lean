/- Layer 15, walked: of what kind, and what is kept of two, for each kind. -/
import Derived.Test.YtihgcfokenabgaaAgF
namespace Go.Proofs.Ytihgcfokenabgaa
open Go Go.ChangeShapes Go.WideShapes Go.ChangeAt Go.RowKit
set_option linter.unusedVariables false
set_option linter.unusedSimpArgs false
theorem known_any (kind : Int) (w : World) : Calls Try.prog 26 #[.int .i64 kind] w fun e w' => e = .returned (.bool (okA kind)) ∧ w = w' := by
  by_cases h0 : 0 < kind
  · by_cases h6 : kind < 6
    · rw [show okA kind = true from okA_iff.2 ⟨by omega, by omega⟩]
      go_enter Try.func26, Try.ntmps26
      go_wp2
      go_ret
      exact ⟨by simp, rfl⟩
    · rw [show okA kind = false by unfold okA; simp; omega]
      go_enter Try.func26, Try.ntmps26
      go_wp2
      go_ret
      exact ⟨by simp, rfl⟩
  · rw [show okA kind = false by unfold okA; simp; omega]
    go_enter Try.func26, Try.ntmps26
    go_wp2
    go_ret
    exact ⟨by simp, rfl⟩
theorem akind_any (kind col : Int) (w : World) :
    Calls Try.prog 9 #[.int .i64 kind, .int .i64 col] w fun e w' => e = .returned (.tuple #[.int .i64 (ofA kind col).1, .int .i64 (ofA kind col).2]) ∧ Below w.heap.size w w' := by
  have HK := Lib.hid (fun W => known_any kind W)
  cases hok : okA kind with
  | false =>
    rw [show ofA kind col = (0, 150) by unfold ofA; rw [if_pos hok]]
    rw [hok] at HK
    clear hok
    go_enter Try.func9, Try.ntmps9
    go_wp2_with (go_at_call 26; go_loud (refine (HK.out _).mono ?_; rintro e w1 ⟨rfl, rfl⟩))
    go_ret2
    exact ⟨by simp, Below.refl _ _⟩
  | true =>
    obtain ⟨hk1, hk5⟩ := okA_iff.1 hok
    have fin : ∀ a b : Int, ofA kind col = (a, b) → Ending.returned (.tuple #[.int .i64 a, .int .i64 b]) = .returned (.tuple #[.int .i64 (ofA kind col).1, .int .i64 (ofA kind col).2]) := fun a b h => by rw [h]
    have HF := Lib.hid fin
    have HO := Lib.hid (show ¬ okA kind = false by rw [hok]; simp)
    rw [hok] at HK
    clear fin hok
    go_enter Try.func9, Try.ntmps9
    go_wp2_with (go_at_call 26; go_loud (refine (HK.out _).mono ?_; rintro e w1 ⟨rfl, rfl⟩))
    all_goals
      go_ret2
      refine ⟨HF.out _ _ ?_, Below.refl _ _⟩
      clear HF HK
      unfold ofA
      rw [if_neg HO.out]
      (repeat' split) <;> first | rfl | (exfalso; simp at *; omega)
theorem res1 {f : Func} {p T : Nat} (hres : f.results = #[.cell p T]) {tmps : Array Value} {W : World} {g T' : Nat} {cs : Array Value} {d} (hp : tmps.getD p undef = .pointer (some ⟨g, 0, none⟩)) (hg : W.heap[g]? = some (.cells cs T'))
    (hu : Try.prog.underlying T = some (.struct d)) (hi : (Try.prog.info? T).map (·.size) = some cs.size) : (results f tmps).run Try.prog W = .ok (.agg cs) W := by
  have hp' : tmps[p]?.getD undef = .pointer (some ⟨g, 0, none⟩) := by simpa using hp
  simp [results, hres, hp', asAddr, run_loadVar_row W g T' T cs (0, 0) (.struct d) hg hu rfl hi]
theorem unchanged_any (a c : Ac) (w : World) :
    Calls Try.prog 42 #[a.V, c.V] w fun e w' => e = .returned a.V ∧ Below w.heap.size w w' := by
  obtain ⟨an, ax, ab⟩ := a
  obtain ⟨cn, cx, cb⟩ := c
  obtain ⟨W1, hW1⟩ : ∃ W1, ((w.alloc (.cells #[.int .i64 an, .int .i64 (hiZ ax), .int .u64 (loZ ax), .int .i64 ab.k, .int .i64 ab.n, .string ab.s] 35)).alloc (.cells #[.int .i64 cn, .int .i64 (hiZ cx), .int .u64 (loZ cx), .int .i64 cb.k, .int .i64 cb.n, .string cb.s] 35)).alloc (.cells #[.int .i64 0, .int .i64 0, .int .u64 0, .int .i64 0, .int .i64 0, .string ⟨#[]⟩] 35) = W1 := ⟨_, rfl⟩
  have HSZ : Hid (W1.heap.size = w.heap.size + 3) := Lib.hid (by rw [← hW1]; simp)
  have HN := Lib.hid (B5.new 35 w ⟨an, ax, ab⟩ ⟨cn, cx, cb⟩)
  rw [hW1] at HN
  unfold Ac.V
  obtain ⟨⟨a0, a1, a2, a3, a4, a5⟩, fa0, fa1, fa2, fa3, fa4, fa5⟩ := blk6 HN.out.a; obtain ⟨⟨c0, c1, c2, c3, c4, c5⟩, _⟩ := blk6 HN.out.c; obtain ⟨⟨r0, r1, r2, r3, r4, r5⟩, fr0, fr1, fr2, fr3, fr4, fr5⟩ := blk6 HN.out.r; have hlt := heap_lt HN.out.r
  have hl0 : w.heap.size < W1.heap.size := heap_lt HN.out.a
  have hl1 : w.heap.size + 1 < W1.heap.size := heap_lt HN.out.c
  go_enter Try.func42, Try.ntmps42
  go_wp2
  exact bodyPost_ret (res1 rfl (by rfl) (set6 HN.out.r _ _ _ _ _ _) Try.underlying35 (by kernel_rfl)) rfl ⟨rfl, below6 HN.out.b (by omega) _ _ _ _ _ _⟩
theorem summed_any (a c : Ac) (w : World) :
    Calls Try.prog 43 #[a.V, c.V] w fun e w' => e = .returned (Ac.V ⟨a.n, a.x + c.x, a.b⟩) ∧ Below w.heap.size w w' := by
  obtain ⟨an, ax, ab⟩ := a
  obtain ⟨cn, cx, cb⟩ := c
  have HB := Lib.hid (fun W => both_any ax cx W)
  unfold SumV at HB
  obtain ⟨W1, hW1⟩ : ∃ W1, ((w.alloc (.cells #[.int .i64 an, .int .i64 (hiZ ax), .int .u64 (loZ ax), .int .i64 ab.k, .int .i64 ab.n, .string ab.s] 35)).alloc (.cells #[.int .i64 cn, .int .i64 (hiZ cx), .int .u64 (loZ cx), .int .i64 cb.k, .int .i64 cb.n, .string cb.s] 35)).alloc (.cells #[.int .i64 0, .int .i64 0, .int .u64 0, .int .i64 0, .int .i64 0, .string ⟨#[]⟩] 35) = W1 := ⟨_, rfl⟩
  have HSZ : Hid (W1.heap.size = w.heap.size + 3) := Lib.hid (by rw [← hW1]; simp)
  have HN := Lib.hid (B5.new 35 w ⟨an, ax, ab⟩ ⟨cn, cx, cb⟩)
  rw [hW1] at HN
  unfold Ac.V
  obtain ⟨⟨a0, a1, a2, a3, a4, a5⟩, fa0, fa1, fa2, fa3, fa4, fa5⟩ := blk6 HN.out.a; obtain ⟨⟨c0, c1, c2, c3, c4, c5⟩, _⟩ := blk6 HN.out.c; obtain ⟨⟨r0, r1, r2, r3, r4, r5⟩, fr0, fr1, fr2, fr3, fr4, fr5⟩ := blk6 HN.out.r; have hlt := heap_lt HN.out.r
  have hl0 : w.heap.size < W1.heap.size := heap_lt HN.out.a
  have hl1 : w.heap.size + 1 < W1.heap.size := heap_lt HN.out.c
  go_enter Try.func43, Try.ntmps43
  go_wp2_with (go_at_call 38; go_loud (refine (HB.out _).mono ?_; rintro en w2 ⟨rfl, hb1⟩; have HN1 := Lib.hid (HN.out.below hb1); clear hb1; clear a0 a1 a2 a3 a4 a5 fa0 fa1 fa2 fa3 fa4 fa5 c0 c1 c2 c3 c4 c5 r0 r1 r2 r3 r4 r5 fr0 fr1 fr2 fr3 fr4 fr5 hlt hl0 hl1; obtain ⟨⟨a0, a1, a2, a3, a4, a5⟩, fa0, fa1, fa2, fa3, fa4, fa5⟩ := blk6 HN1.out.a; obtain ⟨⟨r0, r1, r2, r3, r4, r5⟩, fr0, fr1, fr2, fr3, fr4, fr5⟩ := blk6 HN1.out.r; have hlt := heap_lt HN1.out.r))
  refine bodyPost_ret (res1 rfl (by rfl) (set6 (by (repeat (rw [heap_setCell_other _ _ _ _ (by dsimp only; omega)])); exact HN1.out.r) _ _ _ _ _ _) Try.underlying35 (by kernel_rfl)) rfl ⟨rfl, below6 (by (repeat (refine belowq ?_ (by omega) _ _)); exact HN1.out.b) (by omega) _ _ _ _ _ _⟩
/-- The better one. -/
def betterA (a c : Ac) (how : Int) : Ac := if c.n ≠ 0 ∧ (a.n = 0 ∨ cmpV c.b a.b = how) then ⟨a.n, a.x, c.b⟩ else a
set_option maxHeartbeats 4000000 in
theorem better_any (a c : Ac) (how : Int) (ha : a.b.wf) (hc : c.b.wf) (w : World) :
    Calls Try.prog 50 #[a.V, c.V, .int .i64 how] w fun e w' => e = .returned (betterA a c how).V ∧ Below w.heap.size w w' := by
  obtain ⟨an, ax, ab⟩ := a
  obtain ⟨cn, cx, cb⟩ := c
  have HM := Lib.hid (fun W => cmp_any cb ab hc ha W)
  obtain ⟨r, hr⟩ : ∃ r, betterA ⟨an, ax, ab⟩ ⟨cn, cx, cb⟩ how = r := ⟨_, rfl⟩
  have HR := Lib.hid hr
  rw [hr]
  obtain ⟨m, hm⟩ : ∃ c, cmpV cb ab = c := ⟨_, rfl⟩
  rw [hm] at HM
  have HMM := Lib.hid hm
  clear hr hm ha hc
  unfold V.val at HM
  obtain ⟨W1, hW1⟩ : ∃ W1, ((w.alloc (.cells #[.int .i64 an, .int .i64 (hiZ ax), .int .u64 (loZ ax), .int .i64 ab.k, .int .i64 ab.n, .string ab.s] 35)).alloc (.cells #[.int .i64 cn, .int .i64 (hiZ cx), .int .u64 (loZ cx), .int .i64 cb.k, .int .i64 cb.n, .string cb.s] 35)).alloc (.cells #[.int .i64 0, .int .i64 0, .int .u64 0, .int .i64 0, .int .i64 0, .string ⟨#[]⟩] 35) = W1 := ⟨_, rfl⟩
  have HSZ : Hid (W1.heap.size = w.heap.size + 3) := Lib.hid (by rw [← hW1]; simp)
  have HN := Lib.hid (B5.new 35 w ⟨an, ax, ab⟩ ⟨cn, cx, cb⟩)
  rw [hW1] at HN
  unfold Ac.V
  obtain ⟨⟨a0, a1, a2, a3, a4, a5⟩, fa0, fa1, fa2, fa3, fa4, fa5⟩ := blk6 HN.out.a; obtain ⟨⟨c0, c1, c2, c3, c4, c5⟩, _⟩ := blk6 HN.out.c; obtain ⟨⟨r0, r1, r2, r3, r4, r5⟩, fr0, fr1, fr2, fr3, fr4, fr5⟩ := blk6 HN.out.r; have hlt := heap_lt HN.out.r
  have hl0 : w.heap.size < W1.heap.size := heap_lt HN.out.a
  have hl1 : w.heap.size + 1 < W1.heap.size := heap_lt HN.out.c
  by_cases hz : cn = 0
  · have HE := Lib.hid (show r = ⟨an, ax, ab⟩ by rw [← HR.out]; unfold betterA; rw [if_neg (by rintro ⟨h, _⟩; exact h hz)])
    have q3 : (cn != 0) = false := by simpa using hz
    clear hz
    go_enter Try.func50, Try.ntmps50
    go_wp2_with (go_at_call 52; go_loud (refine (HM.out _).mono ?_; rintro en w2 ⟨rfl, hb1⟩; have HN1 := Lib.hid (HN.out.below hb1); clear hb1; clear a0 a1 a2 a3 a4 a5 fa0 fa1 fa2 fa3 fa4 fa5 c0 c1 c2 c3 c4 c5 r0 r1 r2 r3 r4 r5 fr0 fr1 fr2 fr3 fr4 fr5 hlt hl0 hl1; obtain ⟨⟨a0, a1, a2, a3, a4, a5⟩, fa0, fa1, fa2, fa3, fa4, fa5⟩ := blk6 HN1.out.a; obtain ⟨⟨c0, c1, c2, c3, c4, c5⟩, _⟩ := blk6 HN1.out.c; obtain ⟨⟨r0, r1, r2, r3, r4, r5⟩, fr0, fr1, fr2, fr3, fr4, fr5⟩ := blk6 HN1.out.r; have hlt := heap_lt HN1.out.r))
    refine bodyPost_ret (res1 rfl (by rfl) (set6 (by (repeat (rw [heap_setCell_other _ _ _ _ (by dsimp only; omega)])); exact HN.out.r) _ _ _ _ _ _) Try.underlying35 (by kernel_rfl)) rfl ⟨?_, below6 (by (repeat (refine belowq ?_ (by omega) _ _)); exact HN.out.b) (by omega) _ _ _ _ _ _⟩
    rw [HE.out]
  · have q3 : (cn != 0) = true := by simpa using hz
    have HZ := Lib.hid hz
    clear hz
    by_cases hy : an = 0
    · have HE := Lib.hid (show r = ⟨an, ax, cb⟩ by rw [← HR.out]; unfold betterA; rw [if_pos ⟨HZ.out, .inl hy⟩])
      have q4 : (an == 0) = true := by simpa using hy
      clear hy
      go_enter Try.func50, Try.ntmps50
      go_wp2_with (go_at_call 52; go_loud (refine (HM.out _).mono ?_; rintro en w2 ⟨rfl, hb1⟩; have HN1 := Lib.hid (HN.out.below hb1); clear hb1; clear a0 a1 a2 a3 a4 a5 fa0 fa1 fa2 fa3 fa4 fa5 c0 c1 c2 c3 c4 c5 r0 r1 r2 r3 r4 r5 fr0 fr1 fr2 fr3 fr4 fr5 hlt hl0 hl1; obtain ⟨⟨a0, a1, a2, a3, a4, a5⟩, fa0, fa1, fa2, fa3, fa4, fa5⟩ := blk6 HN1.out.a; obtain ⟨⟨c0, c1, c2, c3, c4, c5⟩, _⟩ := blk6 HN1.out.c; obtain ⟨⟨r0, r1, r2, r3, r4, r5⟩, fr0, fr1, fr2, fr3, fr4, fr5⟩ := blk6 HN1.out.r; have hlt := heap_lt HN1.out.r))
      refine bodyPost_ret (res1 rfl (by rfl) (set6 (by (repeat (rw [heap_setCell_other _ _ _ _ (by dsimp only; omega)])); exact HN.out.r) _ _ _ _ _ _) Try.underlying35 (by kernel_rfl)) rfl ⟨?_, below6 (by (repeat (refine belowq ?_ (by omega) _ _)); exact HN.out.b) (by omega) _ _ _ _ _ _⟩
      rw [HE.out]
    · have q4 : (an == 0) = false := by simpa using hy
      have HY := Lib.hid hy
      clear hy
      by_cases hm : m = how
      · have HE := Lib.hid (show r = ⟨an, ax, cb⟩ by rw [← HR.out]; unfold betterA; rw [if_pos ⟨HZ.out, .inr (HMM.out.trans hm)⟩])
        have q5 : (m == how) = true := by simpa using hm
        clear hm
        go_enter Try.func50, Try.ntmps50
        go_wp2_with (go_at_call 52; go_loud (refine (HM.out _).mono ?_; rintro en w2 ⟨rfl, hb1⟩; have HN1 := Lib.hid (HN.out.below hb1); clear hb1; clear a0 a1 a2 a3 a4 a5 fa0 fa1 fa2 fa3 fa4 fa5 c0 c1 c2 c3 c4 c5 r0 r1 r2 r3 r4 r5 fr0 fr1 fr2 fr3 fr4 fr5 hlt hl0 hl1; obtain ⟨⟨a0, a1, a2, a3, a4, a5⟩, fa0, fa1, fa2, fa3, fa4, fa5⟩ := blk6 HN1.out.a; obtain ⟨⟨c0, c1, c2, c3, c4, c5⟩, _⟩ := blk6 HN1.out.c; obtain ⟨⟨r0, r1, r2, r3, r4, r5⟩, fr0, fr1, fr2, fr3, fr4, fr5⟩ := blk6 HN1.out.r; have hlt := heap_lt HN1.out.r))
        refine bodyPost_ret (res1 rfl (by rfl) (set6 (by (repeat (rw [heap_setCell_other _ _ _ _ (by dsimp only; omega)])); exact HN1.out.r) _ _ _ _ _ _) Try.underlying35 (by kernel_rfl)) rfl ⟨?_, below6 (by (repeat (refine belowq ?_ (by omega) _ _)); exact HN1.out.b) (by omega) _ _ _ _ _ _⟩
        rw [HE.out]
      · have HE := Lib.hid (show r = ⟨an, ax, ab⟩ by rw [← HR.out]; unfold betterA; rw [if_neg (by rintro ⟨_, h | h⟩; exact HY.out h; exact hm (HMM.out.symm.trans h))])
        have q5 : (m == how) = false := by simpa using hm
        clear hm
        go_enter Try.func50, Try.ntmps50
        go_wp2_with (go_at_call 52; go_loud (refine (HM.out _).mono ?_; rintro en w2 ⟨rfl, hb1⟩; have HN1 := Lib.hid (HN.out.below hb1); clear hb1; clear a0 a1 a2 a3 a4 a5 fa0 fa1 fa2 fa3 fa4 fa5 c0 c1 c2 c3 c4 c5 r0 r1 r2 r3 r4 r5 fr0 fr1 fr2 fr3 fr4 fr5 hlt hl0 hl1; obtain ⟨⟨a0, a1, a2, a3, a4, a5⟩, fa0, fa1, fa2, fa3, fa4, fa5⟩ := blk6 HN1.out.a; obtain ⟨⟨c0, c1, c2, c3, c4, c5⟩, _⟩ := blk6 HN1.out.c; obtain ⟨⟨r0, r1, r2, r3, r4, r5⟩, fr0, fr1, fr2, fr3, fr4, fr5⟩ := blk6 HN1.out.r; have hlt := heap_lt HN1.out.r))
        refine bodyPost_ret (res1 rfl (by rfl) (set6 (by (repeat (rw [heap_setCell_other _ _ _ _ (by dsimp only; omega)])); exact HN1.out.r) _ _ _ _ _ _) Try.underlying35 (by kernel_rfl)) rfl ⟨?_, below6 (by (repeat (refine belowq ?_ (by omega) _ _)); exact HN1.out.b) (by omega) _ _ _ _ _ _⟩
        rw [HE.out]
theorem least_any (a c : Ac) (ha : a.b.wf) (hc : c.b.wf) (w : World) :
    Calls Try.prog 44 #[a.V, c.V] w fun e w' => e = .returned (betterA a c (-1)).V ∧ Below w.heap.size w w' := by
  obtain ⟨an, ax, ab⟩ := a
  obtain ⟨cn, cx, cb⟩ := c
  have HM := Lib.hid (fun W => better_any ⟨an, ax, ab⟩ ⟨cn, cx, cb⟩ (-1) ha hc W)
  obtain ⟨⟨rn, rx, rb⟩, hr⟩ : ∃ r, betterA ⟨an, ax, ab⟩ ⟨cn, cx, cb⟩ (-1) = r := ⟨_, rfl⟩
  rw [hr]
  rw [hr] at HM
  clear hr ha hc
  unfold Ac.V at HM
  obtain ⟨W1, hW1⟩ : ∃ W1, ((w.alloc (.cells #[.int .i64 an, .int .i64 (hiZ ax), .int .u64 (loZ ax), .int .i64 ab.k, .int .i64 ab.n, .string ab.s] 35)).alloc (.cells #[.int .i64 cn, .int .i64 (hiZ cx), .int .u64 (loZ cx), .int .i64 cb.k, .int .i64 cb.n, .string cb.s] 35)).alloc (.cells #[.int .i64 0, .int .i64 0, .int .u64 0, .int .i64 0, .int .i64 0, .string ⟨#[]⟩] 35) = W1 := ⟨_, rfl⟩
  have HSZ : Hid (W1.heap.size = w.heap.size + 3) := Lib.hid (by rw [← hW1]; simp)
  have HN := Lib.hid (B5.new 35 w ⟨an, ax, ab⟩ ⟨cn, cx, cb⟩)
  rw [hW1] at HN
  unfold Ac.V
  obtain ⟨⟨a0, a1, a2, a3, a4, a5⟩, fa0, fa1, fa2, fa3, fa4, fa5⟩ := blk6 HN.out.a; obtain ⟨⟨c0, c1, c2, c3, c4, c5⟩, _⟩ := blk6 HN.out.c; obtain ⟨⟨r0, r1, r2, r3, r4, r5⟩, fr0, fr1, fr2, fr3, fr4, fr5⟩ := blk6 HN.out.r; have hlt := heap_lt HN.out.r
  have hl0 : w.heap.size < W1.heap.size := heap_lt HN.out.a
  have hl1 : w.heap.size + 1 < W1.heap.size := heap_lt HN.out.c
  go_enter Try.func44, Try.ntmps44
  go_wp2_with (go_at_call 50; go_loud (refine (HM.out _).mono ?_; rintro en w2 ⟨rfl, hb1⟩; have HN1 := Lib.hid (HN.out.below hb1); clear hb1; clear a0 a1 a2 a3 a4 a5 fa0 fa1 fa2 fa3 fa4 fa5 c0 c1 c2 c3 c4 c5 r0 r1 r2 r3 r4 r5 fr0 fr1 fr2 fr3 fr4 fr5 hlt hl0 hl1; obtain ⟨⟨r0, r1, r2, r3, r4, r5⟩, fr0, fr1, fr2, fr3, fr4, fr5⟩ := blk6 HN1.out.r; have hlt := heap_lt HN1.out.r))
  exact bodyPost_ret (res1 rfl (by rfl) (set6 HN1.out.r _ _ _ _ _ _) Try.underlying35 (by kernel_rfl)) rfl ⟨rfl, below6 HN1.out.b (by omega) _ _ _ _ _ _⟩
theorem greatest_any (a c : Ac) (ha : a.b.wf) (hc : c.b.wf) (w : World) :
    Calls Try.prog 45 #[a.V, c.V] w fun e w' => e = .returned (betterA a c 1).V ∧ Below w.heap.size w w' := by
  obtain ⟨an, ax, ab⟩ := a
  obtain ⟨cn, cx, cb⟩ := c
  have HM := Lib.hid (fun W => better_any ⟨an, ax, ab⟩ ⟨cn, cx, cb⟩ (1) ha hc W)
  obtain ⟨⟨rn, rx, rb⟩, hr⟩ : ∃ r, betterA ⟨an, ax, ab⟩ ⟨cn, cx, cb⟩ (1) = r := ⟨_, rfl⟩
  rw [hr]
  rw [hr] at HM
  clear hr ha hc
  unfold Ac.V at HM
  obtain ⟨W1, hW1⟩ : ∃ W1, ((w.alloc (.cells #[.int .i64 an, .int .i64 (hiZ ax), .int .u64 (loZ ax), .int .i64 ab.k, .int .i64 ab.n, .string ab.s] 35)).alloc (.cells #[.int .i64 cn, .int .i64 (hiZ cx), .int .u64 (loZ cx), .int .i64 cb.k, .int .i64 cb.n, .string cb.s] 35)).alloc (.cells #[.int .i64 0, .int .i64 0, .int .u64 0, .int .i64 0, .int .i64 0, .string ⟨#[]⟩] 35) = W1 := ⟨_, rfl⟩
  have HSZ : Hid (W1.heap.size = w.heap.size + 3) := Lib.hid (by rw [← hW1]; simp)
  have HN := Lib.hid (B5.new 35 w ⟨an, ax, ab⟩ ⟨cn, cx, cb⟩)
  rw [hW1] at HN
  unfold Ac.V
  obtain ⟨⟨a0, a1, a2, a3, a4, a5⟩, fa0, fa1, fa2, fa3, fa4, fa5⟩ := blk6 HN.out.a; obtain ⟨⟨c0, c1, c2, c3, c4, c5⟩, _⟩ := blk6 HN.out.c; obtain ⟨⟨r0, r1, r2, r3, r4, r5⟩, fr0, fr1, fr2, fr3, fr4, fr5⟩ := blk6 HN.out.r; have hlt := heap_lt HN.out.r
  have hl0 : w.heap.size < W1.heap.size := heap_lt HN.out.a
  have hl1 : w.heap.size + 1 < W1.heap.size := heap_lt HN.out.c
  go_enter Try.func45, Try.ntmps45
  go_wp2_with (go_at_call 50; go_loud (refine (HM.out _).mono ?_; rintro en w2 ⟨rfl, hb1⟩; have HN1 := Lib.hid (HN.out.below hb1); clear hb1; clear a0 a1 a2 a3 a4 a5 fa0 fa1 fa2 fa3 fa4 fa5 c0 c1 c2 c3 c4 c5 r0 r1 r2 r3 r4 r5 fr0 fr1 fr2 fr3 fr4 fr5 hlt hl0 hl1; obtain ⟨⟨r0, r1, r2, r3, r4, r5⟩, fr0, fr1, fr2, fr3, fr4, fr5⟩ := blk6 HN1.out.r; have hlt := heap_lt HN1.out.r))
  exact bodyPost_ret (res1 rfl (by rfl) (set6 HN1.out.r _ _ _ _ _ _) Try.underlying35 (by kernel_rfl)) rfl ⟨rfl, below6 HN1.out.b (by omega) _ _ _ _ _ _⟩
end Go.Proofs.Ytihgcfokenabgaa
