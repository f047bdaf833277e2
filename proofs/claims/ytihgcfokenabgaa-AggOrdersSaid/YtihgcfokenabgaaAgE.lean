/- Layer 15, walked: the document's Worth. -/
import Derived.Test.YtihgcfokenabgaaAgD
namespace Go.Proofs.Ytihgcfokenabgaa
open Go Go.ChangeShapes Go.WideShapes Go.ChangeAt Go.RowKit
set_option linter.unusedVariables false
set_option linter.unusedSimpArgs false
/-- What it comes to. -/
def worthA (kind : Int) (a : Ac) : V × Int :=
  if kind = 1 ∨ kind = 2 then (intA a.n, 0) else if kind = 3 then (if a.n = 0 ∨ inB a.x = false then nulA else intA (wholeN a.x), 0) else if kind = 4 ∨ kind = 5 then (if a.n = 0 then nulA else a.b, 0) else (nulA, 150)
/-- Boxes: what is kept, the answer. -/
structure B2 (T : Nat) (w : World) (a : Ac) (W : World) : Prop where
  a : W.heap[w.heap.size]? = some (.cells #[.int .i64 a.n, .int .i64 (hiZ a.x), .int .u64 (loZ a.x), .int .i64 a.b.k, .int .i64 a.b.n, .string a.b.s] T)
  r : W.heap[w.heap.size + 1]? = some (.cells #[.int .i64 0, .int .i64 0, .string ⟨#[]⟩] 33)
  b : Below w.heap.size w W
theorem B2.below {T : Nat} {w W W' : World} {a : Ac} (h : B2 T w a W) (hb : Below W.heap.size W W') : B2 T w a W' :=
  ⟨(hb.block _ (heap_lt h.a)).trans h.a, (hb.block _ (heap_lt h.r)).trans h.r, hop1 h.b hb⟩
theorem B2.new (T : Nat) (w : World) (a : Ac) : B2 T w a ((w.alloc (.cells #[.int .i64 a.n, .int .i64 (hiZ a.x), .int .u64 (loZ a.x), .int .i64 a.b.k, .int .i64 a.b.n, .string a.b.s] T)).alloc (.cells #[.int .i64 0, .int .i64 0, .string ⟨#[]⟩] 33)) := by
  refine ⟨?_, ?_, ((Below.refl _ _).alloc (Nat.le_refl _) _).alloc (by simp) _⟩
  · exact (Below.heap_alloc _ _ _ (by simp)).trans (World.alloc_heap_new w _)
  · have := World.alloc_heap_new (w.alloc (.cells #[.int .i64 a.n, .int .i64 (hiZ a.x), .int .u64 (loZ a.x), .int .i64 a.b.k, .int .i64 a.b.n, .string a.b.s] T)) (.cells #[.int .i64 0, .int .i64 0, .string ⟨#[]⟩] 33)
    rwa [World.size_alloc] at this
theorem blk3f {W : World} {q T : Nat} {c0 c1 c2 : Value} (h : W.heap[q]? = some (.cells #[c0, c1, c2] T)) :
    W.frozen? ⟨q, 0, none⟩ = false ∧ W.frozen? ⟨q, 1, none⟩ = false ∧ W.frozen? ⟨q, 2, none⟩ = false := by
  refine ⟨?_, ?_, ?_⟩ <;> simp [World.frozen?, h]
theorem set3 {W : World} {q T : Nat} (h : W.heap[q]? = some (.cells #[.int .i64 0, .int .i64 0, .string ⟨#[]⟩] T)) (c0 c1 c2 : Value) :
    (((W.setCell ⟨q, 0, none⟩ c0).setCell ⟨q, 1, none⟩ c1).setCell ⟨q, 2, none⟩ c2).heap[q]? = some (.cells #[c0, c1, c2] T) :=
  heap_setCell_same _ _ _ _ _ _ (heap_setCell_same _ _ _ _ _ _ (heap_setCell_same _ _ _ _ _ _ h))
theorem below3 {w W : World} {q : Nat} (h : Below w.heap.size w W) (hq : w.heap.size ≤ q) (c0 c1 c2 : Value) :
    Below w.heap.size w (((W.setCell ⟨q, 0, none⟩ c0).setCell ⟨q, 1, none⟩ c1).setCell ⟨q, 2, none⟩ c2) :=
  belowq (belowq (belowq h hq 0 c0) hq 1 c1) hq 2 c2
set_option maxHeartbeats 4000000 in
set_option maxRecDepth 100000 in
theorem rworth_any (kind : Int) (a : Ac) (ha : In128 a.x) (w : World) :
    Calls Try.prog 16 #[.int .i64 kind, a.V] w fun e w' => e = .returned (.tuple #[(worthA kind a).1.val, .int .i64 (worthA kind a).2]) ∧ Below w.heap.size w w' := by
  obtain ⟨an, ax, ab⟩ := a
  have HI := Lib.hid (fun W => refint_any ax ha W)
  obtain ⟨r, hr⟩ : ∃ r, worthA kind ⟨an, ax, ab⟩ = r := ⟨_, rfl⟩
  have HR := Lib.hid hr
  rw [hr]
  obtain ⟨i, hi⟩ : ∃ c, inB ax = c := ⟨_, rfl⟩
  obtain ⟨n, hn⟩ : ∃ c, wholeN ax = c := ⟨_, rfl⟩
  rw [hi, hn] at HI
  have HII := Lib.hid hi
  have HNN := Lib.hid hn
  have HN := Lib.hid (B2.new 38 w ⟨an, ax, ab⟩)
  clear hr hi hn ha
  obtain ⟨W1, hW1⟩ : ∃ W1, (w.alloc (.cells #[.int .i64 an, .int .i64 (hiZ ax), .int .u64 (loZ ax), .int .i64 ab.k, .int .i64 ab.n, .string ab.s] 38)).alloc (.cells #[.int .i64 0, .int .i64 0, .string ⟨#[]⟩] 33) = W1 := ⟨_, rfl⟩
  rw [hW1] at HN
  unfold Ac.V V.val
  unfold SumV at HI
  obtain ⟨⟨a0, a1, a2, a3, a4, a5⟩, _⟩ := blk6 HN.out.a
  obtain ⟨r0, r1, r2⟩ := blk3 HN.out.r
  obtain ⟨fr0, fr1, fr2⟩ := blk3f HN.out.r
  have hlt := heap_lt HN.out.r
  by_cases hk : kind = 1 ∨ kind = 2 ∨ kind = 3 ∨ kind = 4 ∨ kind = 5
  · rcases hk with rfl | rfl | rfl | rfl | rfl
    · have HE := Lib.hid (show r = (intA an, 0) by rw [← HR.out]; rfl)
      go_enter Try.func16, Try.ntmps16
      go_wp2_with (go_at_call 34; go_loud (refine (HI.out _).mono ?_; rintro en w2 ⟨rfl, hb1⟩; have HN1 := Lib.hid (HN.out.below hb1); clear hb1; clear a0 a1 a2 a3 a4 a5 r0 r1 r2 fr0 fr1 fr2 hlt; obtain ⟨⟨a0, a1, a2, a3, a4, a5⟩, _⟩ := blk6 HN1.out.a; obtain ⟨r0, r1, r2⟩ := blk3 HN1.out.r; obtain ⟨fr0, fr1, fr2⟩ := blk3f HN1.out.r; have hlt := heap_lt HN1.out.r))
      refine bodyPost_ret (res2 rfl (by rfl) (set3 HN.out.r _ _ _) Try.underlying33 (by kernel_rfl)) rfl ⟨?_, below3 HN.out.b (by omega) _ _ _⟩
      rw [HE.out]
      rfl
    · have HE := Lib.hid (show r = (intA an, 0) by rw [← HR.out]; rfl)
      go_enter Try.func16, Try.ntmps16
      go_wp2_with (go_at_call 34; go_loud (refine (HI.out _).mono ?_; rintro en w2 ⟨rfl, hb1⟩; have HN1 := Lib.hid (HN.out.below hb1); clear hb1; clear a0 a1 a2 a3 a4 a5 r0 r1 r2 fr0 fr1 fr2 hlt; obtain ⟨⟨a0, a1, a2, a3, a4, a5⟩, _⟩ := blk6 HN1.out.a; obtain ⟨r0, r1, r2⟩ := blk3 HN1.out.r; obtain ⟨fr0, fr1, fr2⟩ := blk3f HN1.out.r; have hlt := heap_lt HN1.out.r))
      refine bodyPost_ret (res2 rfl (by rfl) (set3 HN.out.r _ _ _) Try.underlying33 (by kernel_rfl)) rfl ⟨?_, below3 HN.out.b (by omega) _ _ _⟩
      rw [HE.out]
      rfl
    · by_cases h0 : an = 0
      · have HE := Lib.hid (show r = (nulA, 0) by rw [← HR.out]; unfold worthA; rw [if_neg (by decide), if_pos rfl, if_pos (.inl h0)])
        have q0 : (an == 0) = true := by simpa using h0
        clear h0
        go_enter Try.func16, Try.ntmps16
        go_wp2_with (go_at_call 34; go_loud (refine (HI.out _).mono ?_; rintro en w2 ⟨rfl, hb1⟩; have HN1 := Lib.hid (HN.out.below hb1); clear hb1; clear a0 a1 a2 a3 a4 a5 r0 r1 r2 fr0 fr1 fr2 hlt; obtain ⟨⟨a0, a1, a2, a3, a4, a5⟩, _⟩ := blk6 HN1.out.a; obtain ⟨r0, r1, r2⟩ := blk3 HN1.out.r; obtain ⟨fr0, fr1, fr2⟩ := blk3f HN1.out.r; have hlt := heap_lt HN1.out.r))
        refine bodyPost_ret (res2 rfl (by rfl) (set3 HN1.out.r _ _ _) Try.underlying33 (by kernel_rfl)) rfl ⟨?_, below3 HN1.out.b (by omega) _ _ _⟩
        rw [HE.out]
        rfl
      · have q0 : (an == 0) = false := by simpa using h0
        cases i with
        | true =>
          have HE := Lib.hid (show r = (intA n, 0) by rw [← HR.out]; unfold worthA; rw [if_neg (by decide), if_pos rfl, if_neg (by rintro (h | h); exact h0 h; rw [HII.out] at h; cases h), HNN.out])
          clear h0
          go_enter Try.func16, Try.ntmps16
          go_wp2_with (go_at_call 34; go_loud (refine (HI.out _).mono ?_; rintro en w2 ⟨rfl, hb1⟩; have HN1 := Lib.hid (HN.out.below hb1); clear hb1; clear a0 a1 a2 a3 a4 a5 r0 r1 r2 fr0 fr1 fr2 hlt; obtain ⟨⟨a0, a1, a2, a3, a4, a5⟩, _⟩ := blk6 HN1.out.a; obtain ⟨r0, r1, r2⟩ := blk3 HN1.out.r; obtain ⟨fr0, fr1, fr2⟩ := blk3f HN1.out.r; have hlt := heap_lt HN1.out.r))
          refine bodyPost_ret (res2 rfl (by rfl) (set3 HN1.out.r _ _ _) Try.underlying33 (by kernel_rfl)) rfl ⟨?_, below3 HN1.out.b (by omega) _ _ _⟩
          rw [HE.out]
          rfl
        | false =>
          have HE := Lib.hid (show r = (nulA, 0) by rw [← HR.out]; unfold worthA; rw [if_neg (by decide), if_pos rfl, if_pos (.inr HII.out)])
          clear h0
          go_enter Try.func16, Try.ntmps16
          go_wp2_with (go_at_call 34; go_loud (refine (HI.out _).mono ?_; rintro en w2 ⟨rfl, hb1⟩; have HN1 := Lib.hid (HN.out.below hb1); clear hb1; clear a0 a1 a2 a3 a4 a5 r0 r1 r2 fr0 fr1 fr2 hlt; obtain ⟨⟨a0, a1, a2, a3, a4, a5⟩, _⟩ := blk6 HN1.out.a; obtain ⟨r0, r1, r2⟩ := blk3 HN1.out.r; obtain ⟨fr0, fr1, fr2⟩ := blk3f HN1.out.r; have hlt := heap_lt HN1.out.r))
          refine bodyPost_ret (res2 rfl (by rfl) (set3 HN1.out.r _ _ _) Try.underlying33 (by kernel_rfl)) rfl ⟨?_, below3 HN1.out.b (by omega) _ _ _⟩
          rw [HE.out]
          rfl
    · skip
      by_cases h0 : an = 0
      · have HE := Lib.hid (show r = (nulA, 0) by rw [← HR.out]; unfold worthA; rw [if_neg (by decide), if_neg (by decide), if_pos (by decide), if_pos h0])
        have q0 : (an == 0) = true := by simpa using h0
        clear h0
        go_enter Try.func16, Try.ntmps16
        go_wp2_with (go_at_call 34; go_loud (refine (HI.out _).mono ?_; rintro en w2 ⟨rfl, hb1⟩; have HN1 := Lib.hid (HN.out.below hb1); clear hb1; clear a0 a1 a2 a3 a4 a5 r0 r1 r2 fr0 fr1 fr2 hlt; obtain ⟨⟨a0, a1, a2, a3, a4, a5⟩, _⟩ := blk6 HN1.out.a; obtain ⟨r0, r1, r2⟩ := blk3 HN1.out.r; obtain ⟨fr0, fr1, fr2⟩ := blk3f HN1.out.r; have hlt := heap_lt HN1.out.r))
        refine bodyPost_ret (res2 rfl (by rfl) (set3 HN.out.r _ _ _) Try.underlying33 (by kernel_rfl)) rfl ⟨?_, below3 HN.out.b (by omega) _ _ _⟩
        rw [HE.out]
        rfl
      · have HE := Lib.hid (show r = (ab, 0) by rw [← HR.out]; unfold worthA; rw [if_neg (by decide), if_neg (by decide), if_pos (by decide), if_neg h0])
        have q0 : (an == 0) = false := by simpa using h0
        clear h0
        go_enter Try.func16, Try.ntmps16
        go_wp2_with (go_at_call 34; go_loud (refine (HI.out _).mono ?_; rintro en w2 ⟨rfl, hb1⟩; have HN1 := Lib.hid (HN.out.below hb1); clear hb1; clear a0 a1 a2 a3 a4 a5 r0 r1 r2 fr0 fr1 fr2 hlt; obtain ⟨⟨a0, a1, a2, a3, a4, a5⟩, _⟩ := blk6 HN1.out.a; obtain ⟨r0, r1, r2⟩ := blk3 HN1.out.r; obtain ⟨fr0, fr1, fr2⟩ := blk3f HN1.out.r; have hlt := heap_lt HN1.out.r))
        refine bodyPost_ret (res2 rfl (by rfl) (set3 HN.out.r _ _ _) Try.underlying33 (by kernel_rfl)) rfl ⟨?_, below3 HN.out.b (by omega) _ _ _⟩
        rw [HE.out]
        rfl
    · skip
      by_cases h0 : an = 0
      · have HE := Lib.hid (show r = (nulA, 0) by rw [← HR.out]; unfold worthA; rw [if_neg (by decide), if_neg (by decide), if_pos (by decide), if_pos h0])
        have q0 : (an == 0) = true := by simpa using h0
        clear h0
        go_enter Try.func16, Try.ntmps16
        go_wp2_with (go_at_call 34; go_loud (refine (HI.out _).mono ?_; rintro en w2 ⟨rfl, hb1⟩; have HN1 := Lib.hid (HN.out.below hb1); clear hb1; clear a0 a1 a2 a3 a4 a5 r0 r1 r2 fr0 fr1 fr2 hlt; obtain ⟨⟨a0, a1, a2, a3, a4, a5⟩, _⟩ := blk6 HN1.out.a; obtain ⟨r0, r1, r2⟩ := blk3 HN1.out.r; obtain ⟨fr0, fr1, fr2⟩ := blk3f HN1.out.r; have hlt := heap_lt HN1.out.r))
        refine bodyPost_ret (res2 rfl (by rfl) (set3 HN.out.r _ _ _) Try.underlying33 (by kernel_rfl)) rfl ⟨?_, below3 HN.out.b (by omega) _ _ _⟩
        rw [HE.out]
        rfl
      · have HE := Lib.hid (show r = (ab, 0) by rw [← HR.out]; unfold worthA; rw [if_neg (by decide), if_neg (by decide), if_pos (by decide), if_neg h0])
        have q0 : (an == 0) = false := by simpa using h0
        clear h0
        go_enter Try.func16, Try.ntmps16
        go_wp2_with (go_at_call 34; go_loud (refine (HI.out _).mono ?_; rintro en w2 ⟨rfl, hb1⟩; have HN1 := Lib.hid (HN.out.below hb1); clear hb1; clear a0 a1 a2 a3 a4 a5 r0 r1 r2 fr0 fr1 fr2 hlt; obtain ⟨⟨a0, a1, a2, a3, a4, a5⟩, _⟩ := blk6 HN1.out.a; obtain ⟨r0, r1, r2⟩ := blk3 HN1.out.r; obtain ⟨fr0, fr1, fr2⟩ := blk3f HN1.out.r; have hlt := heap_lt HN1.out.r))
        refine bodyPost_ret (res2 rfl (by rfl) (set3 HN.out.r _ _ _) Try.underlying33 (by kernel_rfl)) rfl ⟨?_, below3 HN.out.b (by omega) _ _ _⟩
        rw [HE.out]
        rfl
  · have HE := Lib.hid (show r = (nulA, 150) by rw [← HR.out]; unfold worthA; rw [if_neg (by omega), if_neg (by omega), if_neg (by omega)])
    have q1 : (kind == 1) = false := by simp; omega
    have q2 : (kind == 2) = false := by simp; omega
    have q3 : (kind == 3) = false := by simp; omega
    have q4 : (kind == 4) = false := by simp; omega
    have q5 : (kind == 5) = false := by simp; omega
    clear hk
    go_enter Try.func16, Try.ntmps16
    go_wp2_with (go_at_call 34; go_loud (refine (HI.out _).mono ?_; rintro en w2 ⟨rfl, hb1⟩; have HN1 := Lib.hid (HN.out.below hb1); clear hb1; clear a0 a1 a2 a3 a4 a5 r0 r1 r2 fr0 fr1 fr2 hlt; obtain ⟨⟨a0, a1, a2, a3, a4, a5⟩, _⟩ := blk6 HN1.out.a; obtain ⟨r0, r1, r2⟩ := blk3 HN1.out.r; obtain ⟨fr0, fr1, fr2⟩ := blk3f HN1.out.r; have hlt := heap_lt HN1.out.r))
    refine bodyPost_ret (res2 rfl (by rfl) (set3 HN.out.r _ _ _) Try.underlying33 (by kernel_rfl)) rfl ⟨?_, below3 HN.out.b (by omega) _ _ _⟩
    rw [HE.out]
    rfl
end Go.Proofs.Ytihgcfokenabgaa
