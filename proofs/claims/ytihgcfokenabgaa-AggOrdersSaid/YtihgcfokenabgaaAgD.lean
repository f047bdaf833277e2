/- Layer 15, walked: the document's Both. -/
import Derived.Test.YtihgcfokenabgaaAgB
namespace Go.Proofs.Ytihgcfokenabgaa
open Go Go.ChangeShapes Go.WideShapes Go.ChangeAt Go.RowKit
set_option linter.unusedVariables false
set_option linter.unusedSimpArgs false
def cells6 (a : Ac) : Array Value := #[.int .i64 a.n, .int .i64 (hiZ a.x), .int .u64 (loZ a.x), .int .i64 a.b.k, .int .i64 a.b.n, .string a.b.s]
/-- Boxes: two kept, the answer. -/
structure B5 (T : Nat) (w : World) (a c : Ac) (W : World) : Prop where
  a : W.heap[w.heap.size]? = some (.cells #[.int .i64 a.n, .int .i64 (hiZ a.x), .int .u64 (loZ a.x), .int .i64 a.b.k, .int .i64 a.b.n, .string a.b.s] T)
  c : W.heap[w.heap.size + 1]? = some (.cells #[.int .i64 c.n, .int .i64 (hiZ c.x), .int .u64 (loZ c.x), .int .i64 c.b.k, .int .i64 c.b.n, .string c.b.s] T)
  r : W.heap[w.heap.size + 2]? = some (.cells #[.int .i64 0, .int .i64 0, .int .u64 0, .int .i64 0, .int .i64 0, .string ⟨#[]⟩] T)
  b : Below w.heap.size w W
theorem B5.below {T : Nat} {w W W' : World} {a c : Ac} (h : B5 T w a c W) (hb : Below W.heap.size W W') : B5 T w a c W' :=
  ⟨(hb.block _ (heap_lt h.a)).trans h.a, (hb.block _ (heap_lt h.c)).trans h.c, (hb.block _ (heap_lt h.r)).trans h.r, hop1 h.b hb⟩
theorem B5.new (T : Nat) (w : World) (a c : Ac) : B5 T w a c (((w.alloc (.cells #[.int .i64 a.n, .int .i64 (hiZ a.x), .int .u64 (loZ a.x), .int .i64 a.b.k, .int .i64 a.b.n, .string a.b.s] T)).alloc (.cells #[.int .i64 c.n, .int .i64 (hiZ c.x), .int .u64 (loZ c.x), .int .i64 c.b.k, .int .i64 c.b.n, .string c.b.s] T)).alloc (.cells #[.int .i64 0, .int .i64 0, .int .u64 0, .int .i64 0, .int .i64 0, .string ⟨#[]⟩] T)) := by
  refine ⟨?_, ?_, ?_, (((Below.refl _ _).alloc (Nat.le_refl _) _).alloc (by simp) _).alloc (by simp; omega) _⟩
  · exact (Below.heap_alloc _ _ _ (by simp; omega)).trans ((Below.heap_alloc _ _ _ (by simp)).trans (World.alloc_heap_new w _))
  · have := World.alloc_heap_new (w.alloc (.cells #[.int .i64 a.n, .int .i64 (hiZ a.x), .int .u64 (loZ a.x), .int .i64 a.b.k, .int .i64 a.b.n, .string a.b.s] T)) (.cells #[.int .i64 c.n, .int .i64 (hiZ c.x), .int .u64 (loZ c.x), .int .i64 c.b.k, .int .i64 c.b.n, .string c.b.s] T)
    rw [World.size_alloc] at this
    exact (Below.heap_alloc _ _ _ (by simp)).trans this
  · have := World.alloc_heap_new ((w.alloc (.cells #[.int .i64 a.n, .int .i64 (hiZ a.x), .int .u64 (loZ a.x), .int .i64 a.b.k, .int .i64 a.b.n, .string a.b.s] T)).alloc (.cells #[.int .i64 c.n, .int .i64 (hiZ c.x), .int .u64 (loZ c.x), .int .i64 c.b.k, .int .i64 c.b.n, .string c.b.s] T)) (.cells #[.int .i64 0, .int .i64 0, .int .u64 0, .int .i64 0, .int .i64 0, .string ⟨#[]⟩] T)
    rwa [World.size_alloc, World.size_alloc] at this
/-- With what comes out in a box of its own. -/
structure B6 (T : Nat) (w : World) (a c o : Ac) (q : Nat) (W : World) : Prop extends B5 T w a c W where
  o : W.heap[q]? = some (.cells #[.int .i64 o.n, .int .i64 (hiZ o.x), .int .u64 (loZ o.x), .int .i64 o.b.k, .int .i64 o.b.n, .string o.b.s] T)
  q : q = w.heap.size + 3
theorem B6.below {T : Nat} {w W W' : World} {a c o : Ac} {q : Nat} (h : B6 T w a c o q W) (hb : Below W.heap.size W W') : B6 T w a c o q W' :=
  ⟨h.toB5.below hb, (hb.block _ (heap_lt h.o)).trans h.o, h.q⟩
theorem B6.new {T : Nat} {w W : World} {a c : Ac} (h : B5 T w a c W) (hs : W.heap.size = w.heap.size + 3) (o : Ac) : B6 T w a c o W.heap.size (W.alloc (.cells #[.int .i64 o.n, .int .i64 (hiZ o.x), .int .u64 (loZ o.x), .int .i64 o.b.k, .int .i64 o.b.n, .string o.b.s] T)) :=
  ⟨h.below ((Below.refl _ _).alloc (Nat.le_refl _) _), World.alloc_heap_new _ _, hs⟩
theorem belowq {w W : World} {q : Nat} (h : Below w.heap.size w W) (hq : w.heap.size ≤ q) (i : Nat) (v : Value) : Below w.heap.size w (W.setCell ⟨q, i, none⟩ v) := h.setCell (p := ⟨q, i, none⟩) hq v
theorem bothA_no {kind : Int} {a c : Ac} (ho : ¬ okA kind = false) (h3 : kind ≠ 3) (hb : ¬ ((kind = 4 ∨ kind = 5) ∧ c.n ≠ 0 ∧ (a.n = 0 ∨ btr kind c.b a.b))) : bothA kind a c = (⟨wrap64 (a.n + c.n), a.x, a.b⟩, 0) := by
  unfold bothA; rw [if_neg ho, if_neg h3, if_neg hb, wrap64_i64]
theorem bothA_yes {kind : Int} {a c : Ac} (ho : ¬ okA kind = false) (h3 : kind ≠ 3) (hb : (kind = 4 ∨ kind = 5) ∧ c.n ≠ 0 ∧ (a.n = 0 ∨ btr kind c.b a.b)) : bothA kind a c = (⟨wrap64 (a.n + c.n), a.x, c.b⟩, 0) := by
  unfold bothA; rw [if_neg ho, if_neg h3, if_pos hb, wrap64_i64]
theorem bothA_sum (a c : Ac) : bothA 3 a c = (⟨wrap64 (a.n + c.n), a.x + c.x, a.b⟩, 0) := by
  unfold bothA; rw [if_neg (by decide), if_pos rfl, if_neg (by rintro ⟨h | h, _⟩ <;> omega), wrap64_i64]
theorem set6a {W : World} {q T : Nat} (h : W.heap[q]? = some (.cells #[.int .i64 0, .int .i64 0, .int .u64 0, .int .i64 0, .int .i64 0, .string ⟨#[]⟩] T)) (c0 c1 c2 c3 c4 c5 : Value) (o : Obj) :
    (((((((W.setCell ⟨q, 0, none⟩ c0).setCell ⟨q, 1, none⟩ c1).setCell ⟨q, 2, none⟩ c2).setCell ⟨q, 3, none⟩ c3).setCell ⟨q, 4, none⟩ c4).setCell ⟨q, 5, none⟩ c5).alloc o).heap[q]? = some (.cells #[c0, c1, c2, c3, c4, c5] T) :=
  (Below.heap_alloc _ o _ (heap_lt (set6 h c0 c1 c2 c3 c4 c5))).trans (set6 h c0 c1 c2 c3 c4 c5)
theorem below6a {q : Nat} {w W : World} (h : Below w.heap.size w W) (hq : w.heap.size ≤ q) (c0 c1 c2 c3 c4 c5 : Value) (o : Obj) :
    Below w.heap.size w (((((((W.setCell ⟨q, 0, none⟩ c0).setCell ⟨q, 1, none⟩ c1).setCell ⟨q, 2, none⟩ c2).setCell ⟨q, 3, none⟩ c3).setCell ⟨q, 4, none⟩ c4).setCell ⟨q, 5, none⟩ c5).alloc o) :=
  (below6 h hq c0 c1 c2 c3 c4 c5).alloc (below6 h hq c0 c1 c2 c3 c4 c5).size o
set_option maxHeartbeats 4000000 in
set_option maxRecDepth 100000 in
theorem rboth_any (kind : Int) (a c : Ac) (ha : a.b.wf) (hc : c.b.wf) (w : World) :
    Calls Try.prog 14 #[.int .i64 kind, a.V, c.V] w fun e w' => e = .returned (.tuple #[(bothA kind a c).1.V, .int .i64 (bothA kind a c).2]) ∧ Below w.heap.size w w' := by
  obtain ⟨an, ax, ab⟩ := a
  obtain ⟨cn, cx, cb⟩ := c
  have HM := Lib.hid (fun W => rcmp_any cb ab hc ha W)
  have HB := Lib.hid (fun W => refboth_any ax cx W)
  obtain ⟨r, hr⟩ : ∃ r, bothA kind ⟨an, ax, ab⟩ ⟨cn, cx, cb⟩ = r := ⟨_, rfl⟩
  have HR := Lib.hid hr
  rw [hr]
  obtain ⟨m, hm⟩ : ∃ c, cmpV cb ab = c := ⟨_, rfl⟩
  rw [hm] at HM
  have HMM := Lib.hid hm
  have HN := Lib.hid (B5.new 38 w ⟨an, ax, ab⟩ ⟨cn, cx, cb⟩)
  clear hr hm ha hc
  obtain ⟨W1, hW1⟩ : ∃ W1, ((w.alloc (.cells #[.int .i64 an, .int .i64 (hiZ ax), .int .u64 (loZ ax), .int .i64 ab.k, .int .i64 ab.n, .string ab.s] 38)).alloc (.cells #[.int .i64 cn, .int .i64 (hiZ cx), .int .u64 (loZ cx), .int .i64 cb.k, .int .i64 cb.n, .string cb.s] 38)).alloc (.cells #[.int .i64 0, .int .i64 0, .int .u64 0, .int .i64 0, .int .i64 0, .string ⟨#[]⟩] 38) = W1 := ⟨_, rfl⟩
  have HSZ : Hid (W1.heap.size = w.heap.size + 3) := Lib.hid (by rw [← hW1]; simp)
  rw [hW1] at HN
  unfold Ac.V
  unfold V.val at HM
  unfold SumV at HB
  obtain ⟨⟨a0, a1, a2, a3, a4, a5⟩, _⟩ := blk6 HN.out.a; obtain ⟨⟨c0, c1, c2, c3, c4, c5⟩, _⟩ := blk6 HN.out.c; obtain ⟨⟨r0, r1, r2, r3, r4, r5⟩, fr0, fr1, fr2, fr3, fr4, fr5⟩ := blk6 HN.out.r; have hlt := heap_lt HN.out.r
  have hl0 : w.heap.size < W1.heap.size := heap_lt HN.out.a
  have hl1 : w.heap.size + 1 < W1.heap.size := heap_lt HN.out.c
  have hn2 : w.heap.size + 1 + 1 ≠ W1.heap.size := by have := HSZ.out; omega
  have hn3 : W1.heap.size ≠ w.heap.size + 1 + 1 := by have := HSZ.out; omega
  by_cases hk1 : kind < 1 ∨ 5 < kind
  · have HE := Lib.hid (show r = (zeroA, 150) by rw [← HR.out]; unfold bothA okA; rw [if_pos (by simp; omega)])
    rcases hk1 with hk1 | hk1
    · skip
      go_enter Try.func14, Try.ntmps14
      go_wp2_with (first
        | (go_at_call 29; go_loud (refine (HB.out _).mono ?_; rintro en w2 ⟨rfl, hb1⟩; have HN1 := Lib.hid ((B6.new HN.out HSZ.out ⟨wrap64 (an + cn), ax, ab⟩).below hb1); clear hb1; clear a0 a1 a2 a3 a4 a5 c0 c1 c2 c3 c4 c5 r0 r1 r2 r3 r4 r5 fr0 fr1 fr2 fr3 fr4 fr5 hlt; obtain ⟨⟨a0, a1, a2, a3, a4, a5⟩, _⟩ := blk6 HN1.out.a; obtain ⟨⟨c0, c1, c2, c3, c4, c5⟩, _⟩ := blk6 HN1.out.c; obtain ⟨⟨r0, r1, r2, r3, r4, r5⟩, fr0, fr1, fr2, fr3, fr4, fr5⟩ := blk6 HN1.out.r; have hlt := heap_lt HN1.out.r; obtain ⟨⟨o0, o1, o2, o3, o4, o5⟩, fo0, fo1, fo2, fo3, fo4, fo5⟩ := blk6 HN1.out.o; have hlo := heap_lt HN1.out.o))
        | (go_at_call 31; go_loud (refine (HM.out _).mono ?_; rintro en w2 ⟨rfl, hb1⟩; have HN1 := Lib.hid ((B6.new HN.out HSZ.out ⟨wrap64 (an + cn), ax, ab⟩).below hb1); clear hb1; clear a0 a1 a2 a3 a4 a5 c0 c1 c2 c3 c4 c5 r0 r1 r2 r3 r4 r5 fr0 fr1 fr2 fr3 fr4 fr5 hlt; obtain ⟨⟨a0, a1, a2, a3, a4, a5⟩, _⟩ := blk6 HN1.out.a; obtain ⟨⟨c0, c1, c2, c3, c4, c5⟩, _⟩ := blk6 HN1.out.c; obtain ⟨⟨r0, r1, r2, r3, r4, r5⟩, fr0, fr1, fr2, fr3, fr4, fr5⟩ := blk6 HN1.out.r; have hlt := heap_lt HN1.out.r; obtain ⟨⟨o0, o1, o2, o3, o4, o5⟩, fo0, fo1, fo2, fo3, fo4, fo5⟩ := blk6 HN1.out.o; have hlo := heap_lt HN1.out.o)))
      refine bodyPost_ret (res2 rfl (by rfl) (set6 HN.out.r _ _ _ _ _ _) Try.underlying38 (by kernel_rfl)) rfl ⟨?_, below6 HN.out.b (by omega) _ _ _ _ _ _⟩
      rw [HE.out]
      rfl
    · have hk2 : 1 ≤ kind := by omega
      go_enter Try.func14, Try.ntmps14
      go_wp2_with (first
        | (go_at_call 29; go_loud (refine (HB.out _).mono ?_; rintro en w2 ⟨rfl, hb1⟩; have HN1 := Lib.hid ((B6.new HN.out HSZ.out ⟨wrap64 (an + cn), ax, ab⟩).below hb1); clear hb1; clear a0 a1 a2 a3 a4 a5 c0 c1 c2 c3 c4 c5 r0 r1 r2 r3 r4 r5 fr0 fr1 fr2 fr3 fr4 fr5 hlt; obtain ⟨⟨a0, a1, a2, a3, a4, a5⟩, _⟩ := blk6 HN1.out.a; obtain ⟨⟨c0, c1, c2, c3, c4, c5⟩, _⟩ := blk6 HN1.out.c; obtain ⟨⟨r0, r1, r2, r3, r4, r5⟩, fr0, fr1, fr2, fr3, fr4, fr5⟩ := blk6 HN1.out.r; have hlt := heap_lt HN1.out.r; obtain ⟨⟨o0, o1, o2, o3, o4, o5⟩, fo0, fo1, fo2, fo3, fo4, fo5⟩ := blk6 HN1.out.o; have hlo := heap_lt HN1.out.o))
        | (go_at_call 31; go_loud (refine (HM.out _).mono ?_; rintro en w2 ⟨rfl, hb1⟩; have HN1 := Lib.hid ((B6.new HN.out HSZ.out ⟨wrap64 (an + cn), ax, ab⟩).below hb1); clear hb1; clear a0 a1 a2 a3 a4 a5 c0 c1 c2 c3 c4 c5 r0 r1 r2 r3 r4 r5 fr0 fr1 fr2 fr3 fr4 fr5 hlt; obtain ⟨⟨a0, a1, a2, a3, a4, a5⟩, _⟩ := blk6 HN1.out.a; obtain ⟨⟨c0, c1, c2, c3, c4, c5⟩, _⟩ := blk6 HN1.out.c; obtain ⟨⟨r0, r1, r2, r3, r4, r5⟩, fr0, fr1, fr2, fr3, fr4, fr5⟩ := blk6 HN1.out.r; have hlt := heap_lt HN1.out.r; obtain ⟨⟨o0, o1, o2, o3, o4, o5⟩, fo0, fo1, fo2, fo3, fo4, fo5⟩ := blk6 HN1.out.o; have hlo := heap_lt HN1.out.o)))
      refine bodyPost_ret (res2 rfl (by rfl) (set6 HN.out.r _ _ _ _ _ _) Try.underlying38 (by kernel_rfl)) rfl ⟨?_, below6 HN.out.b (by omega) _ _ _ _ _ _⟩
      rw [HE.out]
      rfl
  · have hk2 : 1 ≤ kind := by omega
    have hk3 : kind ≤ 5 := by omega
    have HOK := Lib.hid (show ¬ okA kind = false by unfold okA; rw [decide_eq_true hk2, decide_eq_true hk3]; simp)
    clear hk1
    rcases (show kind = 1 ∨ kind = 2 ∨ kind = 3 ∨ kind = 4 ∨ kind = 5 by omega) with rfl | rfl | rfl | rfl | rfl
    · have HE := Lib.hid (show r = (⟨wrap64 (an + cn), ax, ab⟩, 0) by rw [← HR.out, bothA_no HOK.out (by decide) (by rintro ⟨h | h, _⟩ <;> omega)])
      go_enter Try.func14, Try.ntmps14
      go_wp2_with (first
        | (go_at_call 29; go_loud (refine (HB.out _).mono ?_; rintro en w2 ⟨rfl, hb1⟩; have HN1 := Lib.hid ((B6.new HN.out HSZ.out ⟨wrap64 (an + cn), ax, ab⟩).below hb1); clear hb1; clear a0 a1 a2 a3 a4 a5 c0 c1 c2 c3 c4 c5 r0 r1 r2 r3 r4 r5 fr0 fr1 fr2 fr3 fr4 fr5 hlt; obtain ⟨⟨a0, a1, a2, a3, a4, a5⟩, _⟩ := blk6 HN1.out.a; obtain ⟨⟨c0, c1, c2, c3, c4, c5⟩, _⟩ := blk6 HN1.out.c; obtain ⟨⟨r0, r1, r2, r3, r4, r5⟩, fr0, fr1, fr2, fr3, fr4, fr5⟩ := blk6 HN1.out.r; have hlt := heap_lt HN1.out.r; obtain ⟨⟨o0, o1, o2, o3, o4, o5⟩, fo0, fo1, fo2, fo3, fo4, fo5⟩ := blk6 HN1.out.o; have hlo := heap_lt HN1.out.o))
        | (go_at_call 31; go_loud (refine (HM.out _).mono ?_; rintro en w2 ⟨rfl, hb1⟩; have HN1 := Lib.hid ((B6.new HN.out HSZ.out ⟨wrap64 (an + cn), ax, ab⟩).below hb1); clear hb1; clear a0 a1 a2 a3 a4 a5 c0 c1 c2 c3 c4 c5 r0 r1 r2 r3 r4 r5 fr0 fr1 fr2 fr3 fr4 fr5 hlt; obtain ⟨⟨a0, a1, a2, a3, a4, a5⟩, _⟩ := blk6 HN1.out.a; obtain ⟨⟨c0, c1, c2, c3, c4, c5⟩, _⟩ := blk6 HN1.out.c; obtain ⟨⟨r0, r1, r2, r3, r4, r5⟩, fr0, fr1, fr2, fr3, fr4, fr5⟩ := blk6 HN1.out.r; have hlt := heap_lt HN1.out.r; obtain ⟨⟨o0, o1, o2, o3, o4, o5⟩, fo0, fo1, fo2, fo3, fo4, fo5⟩ := blk6 HN1.out.o; have hlo := heap_lt HN1.out.o)))
      refine bodyPost_ret (res2 rfl (by rfl) (set6a HN.out.r _ _ _ _ _ _ _) Try.underlying38 (by kernel_rfl)) rfl ⟨?_, below6a HN.out.b (by omega) _ _ _ _ _ _ _⟩
      rw [HE.out]
      rfl
    · have HE := Lib.hid (show r = (⟨wrap64 (an + cn), ax, ab⟩, 0) by rw [← HR.out, bothA_no HOK.out (by decide) (by rintro ⟨h | h, _⟩ <;> omega)])
      go_enter Try.func14, Try.ntmps14
      go_wp2_with (first
        | (go_at_call 29; go_loud (refine (HB.out _).mono ?_; rintro en w2 ⟨rfl, hb1⟩; have HN1 := Lib.hid ((B6.new HN.out HSZ.out ⟨wrap64 (an + cn), ax, ab⟩).below hb1); clear hb1; clear a0 a1 a2 a3 a4 a5 c0 c1 c2 c3 c4 c5 r0 r1 r2 r3 r4 r5 fr0 fr1 fr2 fr3 fr4 fr5 hlt; obtain ⟨⟨a0, a1, a2, a3, a4, a5⟩, _⟩ := blk6 HN1.out.a; obtain ⟨⟨c0, c1, c2, c3, c4, c5⟩, _⟩ := blk6 HN1.out.c; obtain ⟨⟨r0, r1, r2, r3, r4, r5⟩, fr0, fr1, fr2, fr3, fr4, fr5⟩ := blk6 HN1.out.r; have hlt := heap_lt HN1.out.r; obtain ⟨⟨o0, o1, o2, o3, o4, o5⟩, fo0, fo1, fo2, fo3, fo4, fo5⟩ := blk6 HN1.out.o; have hlo := heap_lt HN1.out.o))
        | (go_at_call 31; go_loud (refine (HM.out _).mono ?_; rintro en w2 ⟨rfl, hb1⟩; have HN1 := Lib.hid ((B6.new HN.out HSZ.out ⟨wrap64 (an + cn), ax, ab⟩).below hb1); clear hb1; clear a0 a1 a2 a3 a4 a5 c0 c1 c2 c3 c4 c5 r0 r1 r2 r3 r4 r5 fr0 fr1 fr2 fr3 fr4 fr5 hlt; obtain ⟨⟨a0, a1, a2, a3, a4, a5⟩, _⟩ := blk6 HN1.out.a; obtain ⟨⟨c0, c1, c2, c3, c4, c5⟩, _⟩ := blk6 HN1.out.c; obtain ⟨⟨r0, r1, r2, r3, r4, r5⟩, fr0, fr1, fr2, fr3, fr4, fr5⟩ := blk6 HN1.out.r; have hlt := heap_lt HN1.out.r; obtain ⟨⟨o0, o1, o2, o3, o4, o5⟩, fo0, fo1, fo2, fo3, fo4, fo5⟩ := blk6 HN1.out.o; have hlo := heap_lt HN1.out.o)))
      refine bodyPost_ret (res2 rfl (by rfl) (set6a HN.out.r _ _ _ _ _ _ _) Try.underlying38 (by kernel_rfl)) rfl ⟨?_, below6a HN.out.b (by omega) _ _ _ _ _ _ _⟩
      rw [HE.out]
      rfl
    · have HE := Lib.hid (show r = (⟨wrap64 (an + cn), ax + cx, ab⟩, 0) by rw [← HR.out, bothA_sum])
      go_enter Try.func14, Try.ntmps14
      go_wp2_with (first
        | (go_at_call 29; go_loud (refine (HB.out _).mono ?_; rintro en w2 ⟨rfl, hb1⟩; have HN1 := Lib.hid ((B6.new HN.out HSZ.out ⟨wrap64 (an + cn), ax, ab⟩).below hb1); clear hb1; clear a0 a1 a2 a3 a4 a5 c0 c1 c2 c3 c4 c5 r0 r1 r2 r3 r4 r5 fr0 fr1 fr2 fr3 fr4 fr5 hlt; obtain ⟨⟨a0, a1, a2, a3, a4, a5⟩, _⟩ := blk6 HN1.out.a; obtain ⟨⟨c0, c1, c2, c3, c4, c5⟩, _⟩ := blk6 HN1.out.c; obtain ⟨⟨r0, r1, r2, r3, r4, r5⟩, fr0, fr1, fr2, fr3, fr4, fr5⟩ := blk6 HN1.out.r; have hlt := heap_lt HN1.out.r; obtain ⟨⟨o0, o1, o2, o3, o4, o5⟩, fo0, fo1, fo2, fo3, fo4, fo5⟩ := blk6 HN1.out.o; have hlo := heap_lt HN1.out.o))
        | (go_at_call 31; go_loud (refine (HM.out _).mono ?_; rintro en w2 ⟨rfl, hb1⟩; have HN1 := Lib.hid ((B6.new HN.out HSZ.out ⟨wrap64 (an + cn), ax, ab⟩).below hb1); clear hb1; clear a0 a1 a2 a3 a4 a5 c0 c1 c2 c3 c4 c5 r0 r1 r2 r3 r4 r5 fr0 fr1 fr2 fr3 fr4 fr5 hlt; obtain ⟨⟨a0, a1, a2, a3, a4, a5⟩, _⟩ := blk6 HN1.out.a; obtain ⟨⟨c0, c1, c2, c3, c4, c5⟩, _⟩ := blk6 HN1.out.c; obtain ⟨⟨r0, r1, r2, r3, r4, r5⟩, fr0, fr1, fr2, fr3, fr4, fr5⟩ := blk6 HN1.out.r; have hlt := heap_lt HN1.out.r; obtain ⟨⟨o0, o1, o2, o3, o4, o5⟩, fo0, fo1, fo2, fo3, fo4, fo5⟩ := blk6 HN1.out.o; have hlo := heap_lt HN1.out.o)))
      have hq := HN1.out.q
      refine bodyPost_ret (res2 rfl (by rfl) (set6 (by (repeat (rw [heap_setCell_other _ _ _ _ (by dsimp only; omega)])); exact HN1.out.r) _ _ _ _ _ _) Try.underlying38 (by kernel_rfl)) rfl ⟨?_, below6 (by (repeat (refine belowq ?_ (by omega) _ _)); exact HN1.out.b) (by omega) _ _ _ _ _ _⟩
      rw [HE.out]
      rfl
    · skip
      by_cases hz : cn = 0
      · have HE := Lib.hid (show r = (⟨wrap64 (an + cn), ax, ab⟩, 0) by rw [← HR.out, bothA_no HOK.out (by decide) (by rintro ⟨_, h, _⟩; exact h hz)])
        have q3 : (cn != 0) = false := by simpa using hz
        clear hz
        go_enter Try.func14, Try.ntmps14
        go_wp2_with (first
          | (go_at_call 29; go_loud (refine (HB.out _).mono ?_; rintro en w2 ⟨rfl, hb1⟩; have HN1 := Lib.hid ((B6.new HN.out HSZ.out ⟨wrap64 (an + cn), ax, ab⟩).below hb1); clear hb1; clear a0 a1 a2 a3 a4 a5 c0 c1 c2 c3 c4 c5 r0 r1 r2 r3 r4 r5 fr0 fr1 fr2 fr3 fr4 fr5 hlt; obtain ⟨⟨a0, a1, a2, a3, a4, a5⟩, _⟩ := blk6 HN1.out.a; obtain ⟨⟨c0, c1, c2, c3, c4, c5⟩, _⟩ := blk6 HN1.out.c; obtain ⟨⟨r0, r1, r2, r3, r4, r5⟩, fr0, fr1, fr2, fr3, fr4, fr5⟩ := blk6 HN1.out.r; have hlt := heap_lt HN1.out.r; obtain ⟨⟨o0, o1, o2, o3, o4, o5⟩, fo0, fo1, fo2, fo3, fo4, fo5⟩ := blk6 HN1.out.o; have hlo := heap_lt HN1.out.o))
          | (go_at_call 31; go_loud (refine (HM.out _).mono ?_; rintro en w2 ⟨rfl, hb1⟩; have HN1 := Lib.hid ((B6.new HN.out HSZ.out ⟨wrap64 (an + cn), ax, ab⟩).below hb1); clear hb1; clear a0 a1 a2 a3 a4 a5 c0 c1 c2 c3 c4 c5 r0 r1 r2 r3 r4 r5 fr0 fr1 fr2 fr3 fr4 fr5 hlt; obtain ⟨⟨a0, a1, a2, a3, a4, a5⟩, _⟩ := blk6 HN1.out.a; obtain ⟨⟨c0, c1, c2, c3, c4, c5⟩, _⟩ := blk6 HN1.out.c; obtain ⟨⟨r0, r1, r2, r3, r4, r5⟩, fr0, fr1, fr2, fr3, fr4, fr5⟩ := blk6 HN1.out.r; have hlt := heap_lt HN1.out.r; obtain ⟨⟨o0, o1, o2, o3, o4, o5⟩, fo0, fo1, fo2, fo3, fo4, fo5⟩ := blk6 HN1.out.o; have hlo := heap_lt HN1.out.o)))
        refine bodyPost_ret (res2 rfl (by rfl) (set6a HN.out.r _ _ _ _ _ _ _) Try.underlying38 (by kernel_rfl)) rfl ⟨?_, below6a HN.out.b (by omega) _ _ _ _ _ _ _⟩
        rw [HE.out]
        rfl
      · have q3 : (cn != 0) = true := by simpa using hz
        have HZ := Lib.hid hz
        clear hz
        by_cases hy : an = 0
        · have HE := Lib.hid (show r = (⟨wrap64 (an + cn), ax, cb⟩, 0) by rw [← HR.out, bothA_yes HOK.out (by decide) ⟨by decide, HZ.out, .inl hy⟩])
          have q4 : (an == 0) = true := by simpa using hy
          clear hy
          go_enter Try.func14, Try.ntmps14
          go_wp2_with (first
            | (go_at_call 29; go_loud (refine (HB.out _).mono ?_; rintro en w2 ⟨rfl, hb1⟩; have HN1 := Lib.hid ((B6.new HN.out HSZ.out ⟨wrap64 (an + cn), ax, ab⟩).below hb1); clear hb1; clear a0 a1 a2 a3 a4 a5 c0 c1 c2 c3 c4 c5 r0 r1 r2 r3 r4 r5 fr0 fr1 fr2 fr3 fr4 fr5 hlt; obtain ⟨⟨a0, a1, a2, a3, a4, a5⟩, _⟩ := blk6 HN1.out.a; obtain ⟨⟨c0, c1, c2, c3, c4, c5⟩, _⟩ := blk6 HN1.out.c; obtain ⟨⟨r0, r1, r2, r3, r4, r5⟩, fr0, fr1, fr2, fr3, fr4, fr5⟩ := blk6 HN1.out.r; have hlt := heap_lt HN1.out.r; obtain ⟨⟨o0, o1, o2, o3, o4, o5⟩, fo0, fo1, fo2, fo3, fo4, fo5⟩ := blk6 HN1.out.o; have hlo := heap_lt HN1.out.o))
            | (go_at_call 31; go_loud (refine (HM.out _).mono ?_; rintro en w2 ⟨rfl, hb1⟩; have HN1 := Lib.hid ((B6.new HN.out HSZ.out ⟨wrap64 (an + cn), ax, ab⟩).below hb1); clear hb1; clear a0 a1 a2 a3 a4 a5 c0 c1 c2 c3 c4 c5 r0 r1 r2 r3 r4 r5 fr0 fr1 fr2 fr3 fr4 fr5 hlt; obtain ⟨⟨a0, a1, a2, a3, a4, a5⟩, _⟩ := blk6 HN1.out.a; obtain ⟨⟨c0, c1, c2, c3, c4, c5⟩, _⟩ := blk6 HN1.out.c; obtain ⟨⟨r0, r1, r2, r3, r4, r5⟩, fr0, fr1, fr2, fr3, fr4, fr5⟩ := blk6 HN1.out.r; have hlt := heap_lt HN1.out.r; obtain ⟨⟨o0, o1, o2, o3, o4, o5⟩, fo0, fo1, fo2, fo3, fo4, fo5⟩ := blk6 HN1.out.o; have hlo := heap_lt HN1.out.o)))
          have hq := HN1.out.q
          refine bodyPost_ret (res2 rfl (by rfl) (set6 (by (repeat (rw [heap_setCell_other _ _ _ _ (by dsimp only; omega)])); exact HN1.out.r) _ _ _ _ _ _) Try.underlying38 (by kernel_rfl)) rfl ⟨?_, below6 (by (repeat (refine belowq ?_ (by omega) _ _)); exact HN1.out.b) (by omega) _ _ _ _ _ _⟩
          rw [HE.out]
          rfl
        · have q4 : (an == 0) = false := by simpa using hy
          have HY := Lib.hid hy
          clear hy
          by_cases hm : m < 0
          · have HE := Lib.hid (show r = (⟨wrap64 (an + cn), ax, cb⟩, 0) by rw [← HR.out, bothA_yes HOK.out (by decide) ⟨by decide, HZ.out, .inr (btr_iff.2 (by rw [HMM.out]; omega))⟩])
            go_enter Try.func14, Try.ntmps14
            go_wp2_with (first
              | (go_at_call 29; go_loud (refine (HB.out _).mono ?_; rintro en w2 ⟨rfl, hb1⟩; have HN1 := Lib.hid ((B6.new HN.out HSZ.out ⟨wrap64 (an + cn), ax, ab⟩).below hb1); clear hb1; clear a0 a1 a2 a3 a4 a5 c0 c1 c2 c3 c4 c5 r0 r1 r2 r3 r4 r5 fr0 fr1 fr2 fr3 fr4 fr5 hlt; obtain ⟨⟨a0, a1, a2, a3, a4, a5⟩, _⟩ := blk6 HN1.out.a; obtain ⟨⟨c0, c1, c2, c3, c4, c5⟩, _⟩ := blk6 HN1.out.c; obtain ⟨⟨r0, r1, r2, r3, r4, r5⟩, fr0, fr1, fr2, fr3, fr4, fr5⟩ := blk6 HN1.out.r; have hlt := heap_lt HN1.out.r; obtain ⟨⟨o0, o1, o2, o3, o4, o5⟩, fo0, fo1, fo2, fo3, fo4, fo5⟩ := blk6 HN1.out.o; have hlo := heap_lt HN1.out.o))
              | (go_at_call 31; go_loud (refine (HM.out _).mono ?_; rintro en w2 ⟨rfl, hb1⟩; have HN1 := Lib.hid ((B6.new HN.out HSZ.out ⟨wrap64 (an + cn), ax, ab⟩).below hb1); clear hb1; clear a0 a1 a2 a3 a4 a5 c0 c1 c2 c3 c4 c5 r0 r1 r2 r3 r4 r5 fr0 fr1 fr2 fr3 fr4 fr5 hlt; obtain ⟨⟨a0, a1, a2, a3, a4, a5⟩, _⟩ := blk6 HN1.out.a; obtain ⟨⟨c0, c1, c2, c3, c4, c5⟩, _⟩ := blk6 HN1.out.c; obtain ⟨⟨r0, r1, r2, r3, r4, r5⟩, fr0, fr1, fr2, fr3, fr4, fr5⟩ := blk6 HN1.out.r; have hlt := heap_lt HN1.out.r; obtain ⟨⟨o0, o1, o2, o3, o4, o5⟩, fo0, fo1, fo2, fo3, fo4, fo5⟩ := blk6 HN1.out.o; have hlo := heap_lt HN1.out.o)))
            have hq := HN1.out.q
            refine bodyPost_ret (res2 rfl (by rfl) (set6 (by (repeat (rw [heap_setCell_other _ _ _ _ (by dsimp only; omega)])); exact HN1.out.r) _ _ _ _ _ _) Try.underlying38 (by kernel_rfl)) rfl ⟨?_, below6 (by (repeat (refine belowq ?_ (by omega) _ _)); exact HN1.out.b) (by omega) _ _ _ _ _ _⟩
            rw [HE.out]
            rfl
          · have HE := Lib.hid (show r = (⟨wrap64 (an + cn), ax, ab⟩, 0) by rw [← HR.out, bothA_no HOK.out (by decide) (by rintro ⟨_, _, h | h⟩; exact HY.out h; rw [btr_iff, HMM.out] at h; omega)])
            go_enter Try.func14, Try.ntmps14
            go_wp2_with (first
              | (go_at_call 29; go_loud (refine (HB.out _).mono ?_; rintro en w2 ⟨rfl, hb1⟩; have HN1 := Lib.hid ((B6.new HN.out HSZ.out ⟨wrap64 (an + cn), ax, ab⟩).below hb1); clear hb1; clear a0 a1 a2 a3 a4 a5 c0 c1 c2 c3 c4 c5 r0 r1 r2 r3 r4 r5 fr0 fr1 fr2 fr3 fr4 fr5 hlt; obtain ⟨⟨a0, a1, a2, a3, a4, a5⟩, _⟩ := blk6 HN1.out.a; obtain ⟨⟨c0, c1, c2, c3, c4, c5⟩, _⟩ := blk6 HN1.out.c; obtain ⟨⟨r0, r1, r2, r3, r4, r5⟩, fr0, fr1, fr2, fr3, fr4, fr5⟩ := blk6 HN1.out.r; have hlt := heap_lt HN1.out.r; obtain ⟨⟨o0, o1, o2, o3, o4, o5⟩, fo0, fo1, fo2, fo3, fo4, fo5⟩ := blk6 HN1.out.o; have hlo := heap_lt HN1.out.o))
              | (go_at_call 31; go_loud (refine (HM.out _).mono ?_; rintro en w2 ⟨rfl, hb1⟩; have HN1 := Lib.hid ((B6.new HN.out HSZ.out ⟨wrap64 (an + cn), ax, ab⟩).below hb1); clear hb1; clear a0 a1 a2 a3 a4 a5 c0 c1 c2 c3 c4 c5 r0 r1 r2 r3 r4 r5 fr0 fr1 fr2 fr3 fr4 fr5 hlt; obtain ⟨⟨a0, a1, a2, a3, a4, a5⟩, _⟩ := blk6 HN1.out.a; obtain ⟨⟨c0, c1, c2, c3, c4, c5⟩, _⟩ := blk6 HN1.out.c; obtain ⟨⟨r0, r1, r2, r3, r4, r5⟩, fr0, fr1, fr2, fr3, fr4, fr5⟩ := blk6 HN1.out.r; have hlt := heap_lt HN1.out.r; obtain ⟨⟨o0, o1, o2, o3, o4, o5⟩, fo0, fo1, fo2, fo3, fo4, fo5⟩ := blk6 HN1.out.o; have hlo := heap_lt HN1.out.o)))
            have hq := HN1.out.q
            refine bodyPost_ret (res2 rfl (by rfl) (set6 (by (repeat (rw [heap_setCell_other _ _ _ _ (by dsimp only; omega)])); exact HN1.out.r) _ _ _ _ _ _) Try.underlying38 (by kernel_rfl)) rfl ⟨?_, below6 (by (repeat (refine belowq ?_ (by omega) _ _)); exact HN1.out.b) (by omega) _ _ _ _ _ _⟩
            rw [HE.out]
            rfl
    · skip
      by_cases hz : cn = 0
      · have HE := Lib.hid (show r = (⟨wrap64 (an + cn), ax, ab⟩, 0) by rw [← HR.out, bothA_no HOK.out (by decide) (by rintro ⟨_, h, _⟩; exact h hz)])
        have q3 : (cn != 0) = false := by simpa using hz
        clear hz
        go_enter Try.func14, Try.ntmps14
        go_wp2_with (first
          | (go_at_call 29; go_loud (refine (HB.out _).mono ?_; rintro en w2 ⟨rfl, hb1⟩; have HN1 := Lib.hid ((B6.new HN.out HSZ.out ⟨wrap64 (an + cn), ax, ab⟩).below hb1); clear hb1; clear a0 a1 a2 a3 a4 a5 c0 c1 c2 c3 c4 c5 r0 r1 r2 r3 r4 r5 fr0 fr1 fr2 fr3 fr4 fr5 hlt; obtain ⟨⟨a0, a1, a2, a3, a4, a5⟩, _⟩ := blk6 HN1.out.a; obtain ⟨⟨c0, c1, c2, c3, c4, c5⟩, _⟩ := blk6 HN1.out.c; obtain ⟨⟨r0, r1, r2, r3, r4, r5⟩, fr0, fr1, fr2, fr3, fr4, fr5⟩ := blk6 HN1.out.r; have hlt := heap_lt HN1.out.r; obtain ⟨⟨o0, o1, o2, o3, o4, o5⟩, fo0, fo1, fo2, fo3, fo4, fo5⟩ := blk6 HN1.out.o; have hlo := heap_lt HN1.out.o))
          | (go_at_call 31; go_loud (refine (HM.out _).mono ?_; rintro en w2 ⟨rfl, hb1⟩; have HN1 := Lib.hid ((B6.new HN.out HSZ.out ⟨wrap64 (an + cn), ax, ab⟩).below hb1); clear hb1; clear a0 a1 a2 a3 a4 a5 c0 c1 c2 c3 c4 c5 r0 r1 r2 r3 r4 r5 fr0 fr1 fr2 fr3 fr4 fr5 hlt; obtain ⟨⟨a0, a1, a2, a3, a4, a5⟩, _⟩ := blk6 HN1.out.a; obtain ⟨⟨c0, c1, c2, c3, c4, c5⟩, _⟩ := blk6 HN1.out.c; obtain ⟨⟨r0, r1, r2, r3, r4, r5⟩, fr0, fr1, fr2, fr3, fr4, fr5⟩ := blk6 HN1.out.r; have hlt := heap_lt HN1.out.r; obtain ⟨⟨o0, o1, o2, o3, o4, o5⟩, fo0, fo1, fo2, fo3, fo4, fo5⟩ := blk6 HN1.out.o; have hlo := heap_lt HN1.out.o)))
        refine bodyPost_ret (res2 rfl (by rfl) (set6a HN.out.r _ _ _ _ _ _ _) Try.underlying38 (by kernel_rfl)) rfl ⟨?_, below6a HN.out.b (by omega) _ _ _ _ _ _ _⟩
        rw [HE.out]
        rfl
      · have q3 : (cn != 0) = true := by simpa using hz
        have HZ := Lib.hid hz
        clear hz
        by_cases hy : an = 0
        · have HE := Lib.hid (show r = (⟨wrap64 (an + cn), ax, cb⟩, 0) by rw [← HR.out, bothA_yes HOK.out (by decide) ⟨by decide, HZ.out, .inl hy⟩])
          have q4 : (an == 0) = true := by simpa using hy
          clear hy
          go_enter Try.func14, Try.ntmps14
          go_wp2_with (first
            | (go_at_call 29; go_loud (refine (HB.out _).mono ?_; rintro en w2 ⟨rfl, hb1⟩; have HN1 := Lib.hid ((B6.new HN.out HSZ.out ⟨wrap64 (an + cn), ax, ab⟩).below hb1); clear hb1; clear a0 a1 a2 a3 a4 a5 c0 c1 c2 c3 c4 c5 r0 r1 r2 r3 r4 r5 fr0 fr1 fr2 fr3 fr4 fr5 hlt; obtain ⟨⟨a0, a1, a2, a3, a4, a5⟩, _⟩ := blk6 HN1.out.a; obtain ⟨⟨c0, c1, c2, c3, c4, c5⟩, _⟩ := blk6 HN1.out.c; obtain ⟨⟨r0, r1, r2, r3, r4, r5⟩, fr0, fr1, fr2, fr3, fr4, fr5⟩ := blk6 HN1.out.r; have hlt := heap_lt HN1.out.r; obtain ⟨⟨o0, o1, o2, o3, o4, o5⟩, fo0, fo1, fo2, fo3, fo4, fo5⟩ := blk6 HN1.out.o; have hlo := heap_lt HN1.out.o))
            | (go_at_call 31; go_loud (refine (HM.out _).mono ?_; rintro en w2 ⟨rfl, hb1⟩; have HN1 := Lib.hid ((B6.new HN.out HSZ.out ⟨wrap64 (an + cn), ax, ab⟩).below hb1); clear hb1; clear a0 a1 a2 a3 a4 a5 c0 c1 c2 c3 c4 c5 r0 r1 r2 r3 r4 r5 fr0 fr1 fr2 fr3 fr4 fr5 hlt; obtain ⟨⟨a0, a1, a2, a3, a4, a5⟩, _⟩ := blk6 HN1.out.a; obtain ⟨⟨c0, c1, c2, c3, c4, c5⟩, _⟩ := blk6 HN1.out.c; obtain ⟨⟨r0, r1, r2, r3, r4, r5⟩, fr0, fr1, fr2, fr3, fr4, fr5⟩ := blk6 HN1.out.r; have hlt := heap_lt HN1.out.r; obtain ⟨⟨o0, o1, o2, o3, o4, o5⟩, fo0, fo1, fo2, fo3, fo4, fo5⟩ := blk6 HN1.out.o; have hlo := heap_lt HN1.out.o)))
          have hq := HN1.out.q
          refine bodyPost_ret (res2 rfl (by rfl) (set6 (by (repeat (rw [heap_setCell_other _ _ _ _ (by dsimp only; omega)])); exact HN1.out.r) _ _ _ _ _ _) Try.underlying38 (by kernel_rfl)) rfl ⟨?_, below6 (by (repeat (refine belowq ?_ (by omega) _ _)); exact HN1.out.b) (by omega) _ _ _ _ _ _⟩
          rw [HE.out]
          rfl
        · have q4 : (an == 0) = false := by simpa using hy
          have HY := Lib.hid hy
          clear hy
          by_cases hm : 0 < m
          · have HE := Lib.hid (show r = (⟨wrap64 (an + cn), ax, cb⟩, 0) by rw [← HR.out, bothA_yes HOK.out (by decide) ⟨by decide, HZ.out, .inr (btr_iff.2 (by rw [HMM.out]; omega))⟩])
            go_enter Try.func14, Try.ntmps14
            go_wp2_with (first
              | (go_at_call 29; go_loud (refine (HB.out _).mono ?_; rintro en w2 ⟨rfl, hb1⟩; have HN1 := Lib.hid ((B6.new HN.out HSZ.out ⟨wrap64 (an + cn), ax, ab⟩).below hb1); clear hb1; clear a0 a1 a2 a3 a4 a5 c0 c1 c2 c3 c4 c5 r0 r1 r2 r3 r4 r5 fr0 fr1 fr2 fr3 fr4 fr5 hlt; obtain ⟨⟨a0, a1, a2, a3, a4, a5⟩, _⟩ := blk6 HN1.out.a; obtain ⟨⟨c0, c1, c2, c3, c4, c5⟩, _⟩ := blk6 HN1.out.c; obtain ⟨⟨r0, r1, r2, r3, r4, r5⟩, fr0, fr1, fr2, fr3, fr4, fr5⟩ := blk6 HN1.out.r; have hlt := heap_lt HN1.out.r; obtain ⟨⟨o0, o1, o2, o3, o4, o5⟩, fo0, fo1, fo2, fo3, fo4, fo5⟩ := blk6 HN1.out.o; have hlo := heap_lt HN1.out.o))
              | (go_at_call 31; go_loud (refine (HM.out _).mono ?_; rintro en w2 ⟨rfl, hb1⟩; have HN1 := Lib.hid ((B6.new HN.out HSZ.out ⟨wrap64 (an + cn), ax, ab⟩).below hb1); clear hb1; clear a0 a1 a2 a3 a4 a5 c0 c1 c2 c3 c4 c5 r0 r1 r2 r3 r4 r5 fr0 fr1 fr2 fr3 fr4 fr5 hlt; obtain ⟨⟨a0, a1, a2, a3, a4, a5⟩, _⟩ := blk6 HN1.out.a; obtain ⟨⟨c0, c1, c2, c3, c4, c5⟩, _⟩ := blk6 HN1.out.c; obtain ⟨⟨r0, r1, r2, r3, r4, r5⟩, fr0, fr1, fr2, fr3, fr4, fr5⟩ := blk6 HN1.out.r; have hlt := heap_lt HN1.out.r; obtain ⟨⟨o0, o1, o2, o3, o4, o5⟩, fo0, fo1, fo2, fo3, fo4, fo5⟩ := blk6 HN1.out.o; have hlo := heap_lt HN1.out.o)))
            have hq := HN1.out.q
            refine bodyPost_ret (res2 rfl (by rfl) (set6 (by (repeat (rw [heap_setCell_other _ _ _ _ (by dsimp only; omega)])); exact HN1.out.r) _ _ _ _ _ _) Try.underlying38 (by kernel_rfl)) rfl ⟨?_, below6 (by (repeat (refine belowq ?_ (by omega) _ _)); exact HN1.out.b) (by omega) _ _ _ _ _ _⟩
            rw [HE.out]
            rfl
          · have HE := Lib.hid (show r = (⟨wrap64 (an + cn), ax, ab⟩, 0) by rw [← HR.out, bothA_no HOK.out (by decide) (by rintro ⟨_, _, h | h⟩; exact HY.out h; rw [btr_iff, HMM.out] at h; omega)])
            go_enter Try.func14, Try.ntmps14
            go_wp2_with (first
              | (go_at_call 29; go_loud (refine (HB.out _).mono ?_; rintro en w2 ⟨rfl, hb1⟩; have HN1 := Lib.hid ((B6.new HN.out HSZ.out ⟨wrap64 (an + cn), ax, ab⟩).below hb1); clear hb1; clear a0 a1 a2 a3 a4 a5 c0 c1 c2 c3 c4 c5 r0 r1 r2 r3 r4 r5 fr0 fr1 fr2 fr3 fr4 fr5 hlt; obtain ⟨⟨a0, a1, a2, a3, a4, a5⟩, _⟩ := blk6 HN1.out.a; obtain ⟨⟨c0, c1, c2, c3, c4, c5⟩, _⟩ := blk6 HN1.out.c; obtain ⟨⟨r0, r1, r2, r3, r4, r5⟩, fr0, fr1, fr2, fr3, fr4, fr5⟩ := blk6 HN1.out.r; have hlt := heap_lt HN1.out.r; obtain ⟨⟨o0, o1, o2, o3, o4, o5⟩, fo0, fo1, fo2, fo3, fo4, fo5⟩ := blk6 HN1.out.o; have hlo := heap_lt HN1.out.o))
              | (go_at_call 31; go_loud (refine (HM.out _).mono ?_; rintro en w2 ⟨rfl, hb1⟩; have HN1 := Lib.hid ((B6.new HN.out HSZ.out ⟨wrap64 (an + cn), ax, ab⟩).below hb1); clear hb1; clear a0 a1 a2 a3 a4 a5 c0 c1 c2 c3 c4 c5 r0 r1 r2 r3 r4 r5 fr0 fr1 fr2 fr3 fr4 fr5 hlt; obtain ⟨⟨a0, a1, a2, a3, a4, a5⟩, _⟩ := blk6 HN1.out.a; obtain ⟨⟨c0, c1, c2, c3, c4, c5⟩, _⟩ := blk6 HN1.out.c; obtain ⟨⟨r0, r1, r2, r3, r4, r5⟩, fr0, fr1, fr2, fr3, fr4, fr5⟩ := blk6 HN1.out.r; have hlt := heap_lt HN1.out.r; obtain ⟨⟨o0, o1, o2, o3, o4, o5⟩, fo0, fo1, fo2, fo3, fo4, fo5⟩ := blk6 HN1.out.o; have hlo := heap_lt HN1.out.o)))
            have hq := HN1.out.q
            refine bodyPost_ret (res2 rfl (by rfl) (set6 (by (repeat (rw [heap_setCell_other _ _ _ _ (by dsimp only; omega)])); exact HN1.out.r) _ _ _ _ _ _) Try.underlying38 (by kernel_rfl)) rfl ⟨?_, below6 (by (repeat (refine belowq ?_ (by omega) _ _)); exact HN1.out.b) (by omega) _ _ _ _ _ _⟩
            rw [HE.out]
            rfl
end Go.Proofs.Ytihgcfokenabgaa
