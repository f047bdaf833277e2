/- Layer 15, walked: the document's Of, Add. -/
import Derived.Test.YtihgcfokenabgaaAgP
import Derived.Test.YtihgcfokenabgaaAgA
import Derived.Test.YtihgcfokenabgaaAgC
import Derived.Test.YtihgcfokenabgaaRegAll
namespace Go.Proofs.Ytihgcfokenabgaa
open Go Go.ChangeShapes Go.WideShapes Go.ChangeAt Go.RowKit
set_option linter.unusedVariables false
set_option linter.unusedSimpArgs false
theorem int_any (x : Int) (h8 : In128 x) (w : World) :
    Calls Try.prog 51 #[SumV x] w fun e w' => e = .returned (.tuple #[.int .i64 (wholeN x), .bool (inB x)]) ∧ Below w.heap.size w w' := by
  by_cases hx : In64 x
  · rw [wholeN_yes hx, inB_yes hx]; exact int_yes x hx w
  · rw [wholeN_no hx, inB_no hx]; exact int_no x h8 hx w
theorem hop1 {w a b : World} (h : Below w.heap.size w a) (h2 : Below a.heap.size a b) : Below w.heap.size w b := h.trans (h2.mono h.size)
theorem ltr_cell {w w' : World} {a : Addr} {v : Value} (hb : Below w.heap.size w w') (h : w.cell? a = some v) : w'.cell? a = some v := (hb.cell (World.block_lt_of_cell? w a h)).trans h
/-- What is kept, as a value. -/
def Ac.V (a : Ac) : Value := .agg #[.int .i64 a.n, .int .i64 (hiZ a.x), .int .u64 (loZ a.x), .int .i64 a.b.k, .int .i64 a.b.n, .string a.b.s]
def Ac.cells (a : Ac) : Array Value := #[.int .i64 a.n, .int .i64 (hiZ a.x), .int .u64 (loZ a.x), .int .i64 a.b.k, .int .i64 a.b.n, .string a.b.s]
def Ac.wf (a : Ac) : Prop := In64 a.n ∧ In128 a.x ∧ a.b.wf
theorem zeroA_V : Ac.V zeroA = .agg #[.int .i64 0, .int .i64 0, .int .u64 0, .int .i64 0, .int .i64 0, .string ⟨#[]⟩] := by rfl
theorem okA_iff {kind : Int} : okA kind = true ↔ 1 ≤ kind ∧ kind ≤ 5 := by unfold okA; rw [Bool.and_eq_true, decide_eq_true_eq, decide_eq_true_eq]
/-- Of what kind. -/
def ofA (kind col : Int) : Int × Int :=
  if okA kind = false then (0, 150) else if col < 1 ∨ 3 < col ∨ (kind = 3 ∧ col ≠ 1) then (0, 151) else if 4 ≤ kind then (col, 0) else (1, 0)
theorem rkind_any (kind col : Int) (w : World) :
    Calls Try.prog 10 #[.int .i64 kind, .int .i64 col] w fun e w' => e = .returned (.tuple #[.int .i64 (ofA kind col).1, .int .i64 (ofA kind col).2]) ∧ w = w' := by
  have fin : ∀ a b : Int, ofA kind col = (a, b) → Ending.returned (.tuple #[.int .i64 a, .int .i64 b]) = .returned (.tuple #[.int .i64 (ofA kind col).1, .int .i64 (ofA kind col).2]) := fun a b h => by rw [h]
  have HF := Lib.hid fin
  clear fin
  go_enter Try.func10, Try.ntmps10
  go_wp2
  all_goals
    go_ret2
    refine ⟨HF.out _ _ ?_, rfl⟩
    clear HF
    unfold ofA okA
    (repeat' split) <;> first | rfl | (exfalso; simp at *; omega)
theorem btr_iff {kind : Int} {v b : V} : btr kind v b ↔ (kind = 4 ∧ cmpV v b < 0) ∨ (kind = 5 ∧ 0 < cmpV v b) := by unfold btr; rw [cmpV_lt, cmpV_gt]
theorem blk6 {W : World} {q T : Nat} {c0 c1 c2 c3 c4 c5 : Value} (h : W.heap[q]? = some (.cells #[c0, c1, c2, c3, c4, c5] T)) :
    (W.cell? ⟨q, 0, none⟩ = some c0 ∧ W.cell? ⟨q, 1, none⟩ = some c1 ∧ W.cell? ⟨q, 2, none⟩ = some c2 ∧ W.cell? ⟨q, 3, none⟩ = some c3 ∧ W.cell? ⟨q, 4, none⟩ = some c4 ∧ W.cell? ⟨q, 5, none⟩ = some c5) ∧
    (W.frozen? ⟨q, 0, none⟩ = false ∧ W.frozen? ⟨q, 1, none⟩ = false ∧ W.frozen? ⟨q, 2, none⟩ = false ∧ W.frozen? ⟨q, 3, none⟩ = false ∧ W.frozen? ⟨q, 4, none⟩ = false ∧ W.frozen? ⟨q, 5, none⟩ = false) := by
  refine ⟨⟨?_, ?_, ?_, ?_, ?_, ?_⟩, ?_, ?_, ?_, ?_, ?_, ?_⟩ <;> simp [World.cell?, World.frozen?, h]
theorem blk3 {W : World} {q T : Nat} {c0 c1 c2 : Value} (h : W.heap[q]? = some (.cells #[c0, c1, c2] T)) :
    W.cell? ⟨q, 0, none⟩ = some c0 ∧ W.cell? ⟨q, 1, none⟩ = some c1 ∧ W.cell? ⟨q, 2, none⟩ = some c2 := by
  refine ⟨?_, ?_, ?_⟩ <;> simp [World.cell?, h]
theorem heap_lt {W : World} {b : Nat} {o : Obj} (h : W.heap[b]? = some o) : b < W.heap.size := (Array.getElem?_eq_some_iff.1 h).1
/-- Three boxes: what was kept, the value, the answer. -/
structure B3 (T : Nat) (w : World) (an ax : Int) (b v : V) (W : World) : Prop where
  a : W.heap[w.heap.size]? = some (.cells #[.int .i64 an, .int .i64 (hiZ ax), .int .u64 (loZ ax), .int .i64 b.k, .int .i64 b.n, .string b.s] T)
  v : W.heap[w.heap.size + 1]? = some (.cells #[.int .i64 v.k, .int .i64 v.n, .string v.s] 33)
  r : W.heap[w.heap.size + 2]? = some (.cells #[.int .i64 0, .int .i64 0, .int .u64 0, .int .i64 0, .int .i64 0, .string ⟨#[]⟩] T)
  b : Below w.heap.size w W
theorem B3.below {T : Nat} {w W W' : World} {an ax : Int} {b v : V} (h : B3 T w an ax b v W) (hb : Below W.heap.size W W') : B3 T w an ax b v W' :=
  ⟨(hb.block _ (heap_lt h.a)).trans h.a, (hb.block _ (heap_lt h.v)).trans h.v, (hb.block _ (heap_lt h.r)).trans h.r, hop1 h.b hb⟩
theorem B3.new (T : Nat) (w : World) (an ax : Int) (b v : V) : B3 T w an ax b v (((w.alloc (.cells #[.int .i64 an, .int .i64 (hiZ ax), .int .u64 (loZ ax), .int .i64 b.k, .int .i64 b.n, .string b.s] T)).alloc (.cells #[.int .i64 v.k, .int .i64 v.n, .string v.s] 33)).alloc (.cells #[.int .i64 0, .int .i64 0, .int .u64 0, .int .i64 0, .int .i64 0, .string ⟨#[]⟩] T)) := by
  refine ⟨?_, ?_, ?_, (((Below.refl _ _).alloc (Nat.le_refl _) _).alloc (by simp) _).alloc (by simp; omega) _⟩
  · exact (Below.heap_alloc _ _ _ (by simp; omega)).trans ((Below.heap_alloc _ _ _ (by simp)).trans (World.alloc_heap_new w _))
  · have := World.alloc_heap_new (w.alloc (.cells #[.int .i64 an, .int .i64 (hiZ ax), .int .u64 (loZ ax), .int .i64 b.k, .int .i64 b.n, .string b.s] T)) (.cells #[.int .i64 v.k, .int .i64 v.n, .string v.s] 33)
    rw [World.size_alloc] at this
    exact (Below.heap_alloc _ _ _ (by simp)).trans this
  · have := World.alloc_heap_new ((w.alloc (.cells #[.int .i64 an, .int .i64 (hiZ ax), .int .u64 (loZ ax), .int .i64 b.k, .int .i64 b.n, .string b.s] T)).alloc (.cells #[.int .i64 v.k, .int .i64 v.n, .string v.s] 33)) (.cells #[.int .i64 0, .int .i64 0, .int .u64 0, .int .i64 0, .int .i64 0, .string ⟨#[]⟩] T)
    rwa [World.size_alloc, World.size_alloc] at this
theorem set6 {W : World} {q T : Nat} (h : W.heap[q]? = some (.cells #[.int .i64 0, .int .i64 0, .int .u64 0, .int .i64 0, .int .i64 0, .string ⟨#[]⟩] T)) (c0 c1 c2 c3 c4 c5 : Value) :
    ((((((W.setCell ⟨q, 0, none⟩ c0).setCell ⟨q, 1, none⟩ c1).setCell ⟨q, 2, none⟩ c2).setCell ⟨q, 3, none⟩ c3).setCell ⟨q, 4, none⟩ c4).setCell ⟨q, 5, none⟩ c5).heap[q]? = some (.cells #[c0, c1, c2, c3, c4, c5] T) :=
  heap_setCell_same _ _ _ _ _ _ (heap_setCell_same _ _ _ _ _ _ (heap_setCell_same _ _ _ _ _ _ (heap_setCell_same _ _ _ _ _ _ (heap_setCell_same _ _ _ _ _ _ (heap_setCell_same _ _ _ _ _ _ h)))))
theorem below6 {B q : Nat} {w W : World} (h : Below B w W) (hq : B ≤ q) (c0 c1 c2 c3 c4 c5 : Value) :
    Below B w ((((((W.setCell ⟨q, 0, none⟩ c0).setCell ⟨q, 1, none⟩ c1).setCell ⟨q, 2, none⟩ c2).setCell ⟨q, 3, none⟩ c3).setCell ⟨q, 4, none⟩ c4).setCell ⟨q, 5, none⟩ c5) :=
  (((((h.setCell (p := ⟨q, 0, none⟩) hq c0).setCell (p := ⟨q, 1, none⟩) hq c1).setCell (p := ⟨q, 2, none⟩) hq c2).setCell (p := ⟨q, 3, none⟩) hq c3).setCell (p := ⟨q, 4, none⟩) hq c4).setCell (p := ⟨q, 5, none⟩) hq c5
theorem below1 {w W : World} (h : Below w.heap.size w W) (i : Nat) (v : Value) : Below w.heap.size w (W.setCell ⟨w.heap.size, i, none⟩ v) := h.setCell (p := ⟨w.heap.size, i, none⟩) (Nat.le_refl _) v
theorem res2 {f : Func} {p t T : Nat} (hres : f.results = #[.cell p T, .tmp t]) {tmps : Array Value} {W : World} {g T' : Nat} {cs : Array Value} {d} (hp : tmps.getD p undef = .pointer (some ⟨g, 0, none⟩)) (hg : W.heap[g]? = some (.cells cs T'))
    (hu : Try.prog.underlying T = some (.struct d)) (hi : (Try.prog.info? T).map (·.size) = some cs.size) : (results f tmps).run Try.prog W = .ok (.tuple #[.agg cs, tmps.getD t undef]) W := by
  have hp' : tmps[p]?.getD undef = .pointer (some ⟨g, 0, none⟩) := by simpa using hp
  simp [results, hres, hp', asAddr, run_loadVar_row W g T' T cs (0, 0) (.struct d) hg hu rfl hi]
theorem wrap64_i64 (n : Int) : IntKind.i64.wrap n = wrap64 n := by unfold wrap64; rw [IntKind.wrap_i64]
theorem stepA_no {kind : Int} {a : Ac} {v : V} (h3 : kind ≠ 3) (hb : ¬ ((kind = 4 ∨ kind = 5) ∧ (a.n = 0 ∨ btr kind v a.b))) : stepA kind a v = ⟨wrap64 (a.n + 1), a.x, a.b⟩ := by
  unfold stepA; rw [if_neg h3, if_neg hb, wrap64_i64]
theorem stepA_yes {kind : Int} {a : Ac} {v : V} (h3 : kind ≠ 3) (hb : (kind = 4 ∨ kind = 5) ∧ (a.n = 0 ∨ btr kind v a.b)) : stepA kind a v = ⟨wrap64 (a.n + 1), a.x, v⟩ := by
  unfold stepA; rw [if_neg h3, if_pos hb, wrap64_i64]
theorem stepA_sum (a : Ac) (v : V) : stepA 3 a v = ⟨wrap64 (a.n + 1), a.x + v.n, a.b⟩ := by
  unfold stepA; rw [if_pos rfl, if_neg (by rintro ⟨h | h, _⟩ <;> omega), wrap64_i64]
set_option maxHeartbeats 4000000 in
set_option maxRecDepth 100000 in
theorem radd_any (kind : Int) (a : Ac) (v : V) (ha : a.b.wf) (hv : v.wf) (w : World) :
    Calls Try.prog 12 #[.int .i64 kind, a.V, v.val] w fun e w' => e = .returned (.tuple #[(addA kind a v).1.V, .int .i64 (addA kind a v).2]) ∧ Below w.heap.size w w' := by
  obtain ⟨an, ax, b⟩ := a
  have HC := Lib.hid (fun W => rcheck_any v hv W)
  have HM := Lib.hid (fun W => rcmp_any v b hv ha W)
  have HW := Lib.hid (fun W => wide_any v.n (by have := hv.2.1; unfold in64 at this; unfold In64; exact this) W)
  have HB := Lib.hid (fun W => refboth_any ax v.n W)
  obtain ⟨r, hr⟩ : ∃ r, addA kind ⟨an, ax, b⟩ v = r := ⟨_, rfl⟩
  have HR := Lib.hid hr
  rw [hr]
  obtain ⟨c, hc⟩ : ∃ c, chk v = c := ⟨_, rfl⟩
  obtain ⟨m, hm⟩ : ∃ c, cmpV v b = c := ⟨_, rfl⟩
  rw [hc] at HC
  rw [hm] at HM
  have HCC := Lib.hid hc
  have HMM := Lib.hid hm
  have HN := Lib.hid (B3.new 38 w an ax b v)
  clear hr hc hm ha hv
  obtain ⟨W1, hW1⟩ : ∃ W1, ((w.alloc (.cells #[.int .i64 an, .int .i64 (hiZ ax), .int .u64 (loZ ax), .int .i64 b.k, .int .i64 b.n, .string b.s] 38)).alloc (.cells #[.int .i64 v.k, .int .i64 v.n, .string v.s] 33)).alloc (.cells #[.int .i64 0, .int .i64 0, .int .u64 0, .int .i64 0, .int .i64 0, .string ⟨#[]⟩] 38) = W1 := ⟨_, rfl⟩
  rw [hW1] at HN
  unfold Ac.V V.val
  unfold V.val at HC HM
  unfold SumV at HW HB
  obtain ⟨⟨a0, a1, a2, a3, a4, a5⟩, fa0, fa1, fa2, fa3, fa4, fa5⟩ := blk6 HN.out.a; obtain ⟨v0, v1, v2⟩ := blk3 HN.out.v; obtain ⟨⟨r0, r1, r2, r3, r4, r5⟩, fr0, fr1, fr2, fr3, fr4, fr5⟩ := blk6 HN.out.r; have hlt := heap_lt HN.out.r
  by_cases hk1 : kind < 1 ∨ 5 < kind
  · have HE := Lib.hid (show r = (zeroA, 150) by rw [← HR.out]; unfold addA okA; rw [if_pos (by simp; omega)])
    rcases hk1 with hk1 | hk1
    · skip
      go_enter Try.func12, Try.ntmps12
      go_wp2_with (first
        | (go_at_call 17; go_loud (refine (HC.out _).mono ?_; rintro en w1 ⟨rfl, hb1⟩; have HN1 := Lib.hid (HN.out.below hb1); clear hb1; clear a0 a1 a2 a3 a4 a5 fa0 fa1 fa2 fa3 fa4 fa5 v0 v1 v2 r0 r1 r2 r3 r4 r5 fr0 fr1 fr2 fr3 fr4 fr5 hlt; obtain ⟨⟨a0, a1, a2, a3, a4, a5⟩, fa0, fa1, fa2, fa3, fa4, fa5⟩ := blk6 HN1.out.a; obtain ⟨v0, v1, v2⟩ := blk3 HN1.out.v; obtain ⟨⟨r0, r1, r2, r3, r4, r5⟩, fr0, fr1, fr2, fr3, fr4, fr5⟩ := blk6 HN1.out.r; have hlt := heap_lt HN1.out.r))
        | (go_at_call 31; go_loud (refine (HM.out _).mono ?_; rintro en w2 ⟨rfl, hb1⟩; have HN2 := Lib.hid (HN1.out.below hb1); clear hb1; clear a0 a1 a2 a3 a4 a5 fa0 fa1 fa2 fa3 fa4 fa5 v0 v1 v2 r0 r1 r2 r3 r4 r5 fr0 fr1 fr2 fr3 fr4 fr5 hlt; obtain ⟨⟨a0, a1, a2, a3, a4, a5⟩, fa0, fa1, fa2, fa3, fa4, fa5⟩ := blk6 HN2.out.a; obtain ⟨v0, v1, v2⟩ := blk3 HN2.out.v; obtain ⟨⟨r0, r1, r2, r3, r4, r5⟩, fr0, fr1, fr2, fr3, fr4, fr5⟩ := blk6 HN2.out.r; have hlt := heap_lt HN2.out.r)))
      refine bodyPost_ret (res2 rfl (by rfl) (set6 HN.out.r _ _ _ _ _ _) Try.underlying38 (by kernel_rfl)) rfl ⟨?_, below6 HN.out.b (by omega) _ _ _ _ _ _⟩
      rw [HE.out]
      rfl
    · have hk2 : 1 ≤ kind := by omega
      go_enter Try.func12, Try.ntmps12
      go_wp2_with (first
        | (go_at_call 17; go_loud (refine (HC.out _).mono ?_; rintro en w1 ⟨rfl, hb1⟩; have HN1 := Lib.hid (HN.out.below hb1); clear hb1; clear a0 a1 a2 a3 a4 a5 fa0 fa1 fa2 fa3 fa4 fa5 v0 v1 v2 r0 r1 r2 r3 r4 r5 fr0 fr1 fr2 fr3 fr4 fr5 hlt; obtain ⟨⟨a0, a1, a2, a3, a4, a5⟩, fa0, fa1, fa2, fa3, fa4, fa5⟩ := blk6 HN1.out.a; obtain ⟨v0, v1, v2⟩ := blk3 HN1.out.v; obtain ⟨⟨r0, r1, r2, r3, r4, r5⟩, fr0, fr1, fr2, fr3, fr4, fr5⟩ := blk6 HN1.out.r; have hlt := heap_lt HN1.out.r))
        | (go_at_call 31; go_loud (refine (HM.out _).mono ?_; rintro en w2 ⟨rfl, hb1⟩; have HN2 := Lib.hid (HN1.out.below hb1); clear hb1; clear a0 a1 a2 a3 a4 a5 fa0 fa1 fa2 fa3 fa4 fa5 v0 v1 v2 r0 r1 r2 r3 r4 r5 fr0 fr1 fr2 fr3 fr4 fr5 hlt; obtain ⟨⟨a0, a1, a2, a3, a4, a5⟩, fa0, fa1, fa2, fa3, fa4, fa5⟩ := blk6 HN2.out.a; obtain ⟨v0, v1, v2⟩ := blk3 HN2.out.v; obtain ⟨⟨r0, r1, r2, r3, r4, r5⟩, fr0, fr1, fr2, fr3, fr4, fr5⟩ := blk6 HN2.out.r; have hlt := heap_lt HN2.out.r)))
      refine bodyPost_ret (res2 rfl (by rfl) (set6 HN.out.r _ _ _ _ _ _) Try.underlying38 (by kernel_rfl)) rfl ⟨?_, below6 HN.out.b (by omega) _ _ _ _ _ _⟩
      rw [HE.out]
      rfl
  · have hk2 : 1 ≤ kind := by omega
    have hk3 : kind ≤ 5 := by omega
    have HOK := Lib.hid (show ¬ okA kind = false by unfold okA; rw [decide_eq_true hk2, decide_eq_true hk3]; simp)
    by_cases hc0 : c = 0
    · by_cases h3 : kind = 3 ∧ 1 < v.k
      · have HE := Lib.hid (show r = (zeroA, 151) by rw [← HR.out]; unfold addA; rw [if_neg HOK.out, if_pos (.inr h3)])
        obtain ⟨rfl, hv1⟩ := h3
        subst hc0
        go_enter Try.func12, Try.ntmps12
        go_wp2_with (first
          | (go_at_call 17; go_loud (refine (HC.out _).mono ?_; rintro en w1 ⟨rfl, hb1⟩; have HN1 := Lib.hid (HN.out.below hb1); clear hb1; clear a0 a1 a2 a3 a4 a5 fa0 fa1 fa2 fa3 fa4 fa5 v0 v1 v2 r0 r1 r2 r3 r4 r5 fr0 fr1 fr2 fr3 fr4 fr5 hlt; obtain ⟨⟨a0, a1, a2, a3, a4, a5⟩, fa0, fa1, fa2, fa3, fa4, fa5⟩ := blk6 HN1.out.a; obtain ⟨v0, v1, v2⟩ := blk3 HN1.out.v; obtain ⟨⟨r0, r1, r2, r3, r4, r5⟩, fr0, fr1, fr2, fr3, fr4, fr5⟩ := blk6 HN1.out.r; have hlt := heap_lt HN1.out.r))
          | (go_at_call 31; go_loud (refine (HM.out _).mono ?_; rintro en w2 ⟨rfl, hb1⟩; have HN2 := Lib.hid (HN1.out.below hb1); clear hb1; clear a0 a1 a2 a3 a4 a5 fa0 fa1 fa2 fa3 fa4 fa5 v0 v1 v2 r0 r1 r2 r3 r4 r5 fr0 fr1 fr2 fr3 fr4 fr5 hlt; obtain ⟨⟨a0, a1, a2, a3, a4, a5⟩, fa0, fa1, fa2, fa3, fa4, fa5⟩ := blk6 HN2.out.a; obtain ⟨v0, v1, v2⟩ := blk3 HN2.out.v; obtain ⟨⟨r0, r1, r2, r3, r4, r5⟩, fr0, fr1, fr2, fr3, fr4, fr5⟩ := blk6 HN2.out.r; have hlt := heap_lt HN2.out.r)))
        refine bodyPost_ret (res2 rfl (by rfl) (set6 HN1.out.r _ _ _ _ _ _) Try.underlying38 (by kernel_rfl)) rfl ⟨?_, below6 HN1.out.b (by omega) _ _ _ _ _ _⟩
        rw [HE.out]
        rfl
      · have HCN := Lib.hid (show ¬ (chk v ≠ 0 ∨ (kind = 3 ∧ 1 < v.k)) by rintro (h | h); exact h (HCC.out.trans hc0); exact h3 h)
        subst hc0
        by_cases hct : v.k = 0 ∧ kind ≠ 1
        · have HE := Lib.hid (show r = (⟨an, ax, b⟩, 0) by rw [← HR.out]; unfold addA; rw [if_neg HOK.out, if_neg HCN.out, if_pos (by unfold cntd; rw [decide_eq_false hct.2]; simp [hct.1])])
          obtain ⟨hv0, hk4⟩ := hct
          have HK5 := Lib.hid (show 1 ≤ kind ∧ kind ≤ 5 ∧ kind ≠ 1 from ⟨hk2, hk3, hk4⟩)
          have q1 : (kind != 1) = true := by simpa using hk4
          have q2 : (v.k == 0) = true := by simpa using hv0
          have hv1 : v.k ≤ 1 := by omega
          clear hk1 h3 hv0 hk4 hk2 hk3
          rcases (show kind = 2 ∨ kind = 3 ∨ kind = 4 ∨ kind = 5 by have := HK5.out; omega) with rfl | rfl | rfl | rfl
          all_goals
            go_enter Try.func12, Try.ntmps12
            go_wp2_with (first
              | (go_at_call 17; go_loud (refine (HC.out _).mono ?_; rintro en w1 ⟨rfl, hb1⟩; have HN1 := Lib.hid (HN.out.below hb1); clear hb1; clear a0 a1 a2 a3 a4 a5 fa0 fa1 fa2 fa3 fa4 fa5 v0 v1 v2 r0 r1 r2 r3 r4 r5 fr0 fr1 fr2 fr3 fr4 fr5 hlt; obtain ⟨⟨a0, a1, a2, a3, a4, a5⟩, fa0, fa1, fa2, fa3, fa4, fa5⟩ := blk6 HN1.out.a; obtain ⟨v0, v1, v2⟩ := blk3 HN1.out.v; obtain ⟨⟨r0, r1, r2, r3, r4, r5⟩, fr0, fr1, fr2, fr3, fr4, fr5⟩ := blk6 HN1.out.r; have hlt := heap_lt HN1.out.r))
              | (go_at_call 31; go_loud (refine (HM.out _).mono ?_; rintro en w2 ⟨rfl, hb1⟩; have HN2 := Lib.hid (HN1.out.below hb1); clear hb1; clear a0 a1 a2 a3 a4 a5 fa0 fa1 fa2 fa3 fa4 fa5 v0 v1 v2 r0 r1 r2 r3 r4 r5 fr0 fr1 fr2 fr3 fr4 fr5 hlt; obtain ⟨⟨a0, a1, a2, a3, a4, a5⟩, fa0, fa1, fa2, fa3, fa4, fa5⟩ := blk6 HN2.out.a; obtain ⟨v0, v1, v2⟩ := blk3 HN2.out.v; obtain ⟨⟨r0, r1, r2, r3, r4, r5⟩, fr0, fr1, fr2, fr3, fr4, fr5⟩ := blk6 HN2.out.r; have hlt := heap_lt HN2.out.r)))
            refine bodyPost_ret (res2 rfl (by rfl) (set6 (by (repeat (rw [heap_setCell_other _ _ _ _ (by dsimp only; omega)])); exact HN1.out.r) _ _ _ _ _ _) Try.underlying38 (by kernel_rfl)) rfl ⟨?_, below6 (by (repeat (refine below1 ?_ _ _)); exact HN1.out.b) (by omega) _ _ _ _ _ _⟩
            rw [HE.out]
            rfl
        · have HS := Lib.hid (show r = (stepA kind ⟨an, ax, b⟩ v, 0) by rw [← HR.out]; unfold addA; rw [if_neg HOK.out, if_neg HCN.out, if_neg (by unfold cntd; by_cases h1 : kind = 1; (simp [h1]); (simp [h1]; exact fun h => hct ⟨h, h1⟩))])
          have hct2 : kind ≠ 1 → v.k ≠ 0 := fun h1 h2 => hct ⟨h2, h1⟩
          clear hct hk1
          rcases (show kind = 1 ∨ kind = 2 ∨ kind = 3 ∨ kind = 4 ∨ kind = 5 by omega) with rfl | rfl | rfl | rfl | rfl
          · have HE := Lib.hid (show r = (⟨wrap64 (an + 1), ax, b⟩, 0) by rw [HS.out, stepA_no (by decide) (by rintro ⟨h | h, _⟩ <;> omega)])
            clear h3 HS
            go_enter Try.func12, Try.ntmps12
            go_wp2_with (first
              | (go_at_call 17; go_loud (refine (HC.out _).mono ?_; rintro en w1 ⟨rfl, hb1⟩; have HN1 := Lib.hid (HN.out.below hb1); clear hb1; clear a0 a1 a2 a3 a4 a5 fa0 fa1 fa2 fa3 fa4 fa5 v0 v1 v2 r0 r1 r2 r3 r4 r5 fr0 fr1 fr2 fr3 fr4 fr5 hlt; obtain ⟨⟨a0, a1, a2, a3, a4, a5⟩, fa0, fa1, fa2, fa3, fa4, fa5⟩ := blk6 HN1.out.a; obtain ⟨v0, v1, v2⟩ := blk3 HN1.out.v; obtain ⟨⟨r0, r1, r2, r3, r4, r5⟩, fr0, fr1, fr2, fr3, fr4, fr5⟩ := blk6 HN1.out.r; have hlt := heap_lt HN1.out.r))
              | (go_at_call 31; go_loud (refine (HM.out _).mono ?_; rintro en w2 ⟨rfl, hb1⟩; have HN2 := Lib.hid (HN1.out.below hb1); clear hb1; clear a0 a1 a2 a3 a4 a5 fa0 fa1 fa2 fa3 fa4 fa5 v0 v1 v2 r0 r1 r2 r3 r4 r5 fr0 fr1 fr2 fr3 fr4 fr5 hlt; obtain ⟨⟨a0, a1, a2, a3, a4, a5⟩, fa0, fa1, fa2, fa3, fa4, fa5⟩ := blk6 HN2.out.a; obtain ⟨v0, v1, v2⟩ := blk3 HN2.out.v; obtain ⟨⟨r0, r1, r2, r3, r4, r5⟩, fr0, fr1, fr2, fr3, fr4, fr5⟩ := blk6 HN2.out.r; have hlt := heap_lt HN2.out.r)))
            all_goals
              refine bodyPost_ret (res2 rfl (by rfl) (set6 (by (repeat (rw [heap_setCell_other _ _ _ _ (by dsimp only; omega)])); exact HN1.out.r) _ _ _ _ _ _) Try.underlying38 (by kernel_rfl)) rfl ⟨?_, below6 (by (repeat (refine below1 ?_ _ _)); exact HN1.out.b) (by omega) _ _ _ _ _ _⟩
              rw [HE.out]
              rfl
          · have HE := Lib.hid (show r = (⟨wrap64 (an + 1), ax, b⟩, 0) by rw [HS.out, stepA_no (by decide) (by rintro ⟨h | h, _⟩ <;> omega)])
            have q2 : (v.k == 0) = false := by simpa using hct2 (by decide)
            clear h3 HS hct2
            go_enter Try.func12, Try.ntmps12
            go_wp2_with (first
              | (go_at_call 17; go_loud (refine (HC.out _).mono ?_; rintro en w1 ⟨rfl, hb1⟩; have HN1 := Lib.hid (HN.out.below hb1); clear hb1; clear a0 a1 a2 a3 a4 a5 fa0 fa1 fa2 fa3 fa4 fa5 v0 v1 v2 r0 r1 r2 r3 r4 r5 fr0 fr1 fr2 fr3 fr4 fr5 hlt; obtain ⟨⟨a0, a1, a2, a3, a4, a5⟩, fa0, fa1, fa2, fa3, fa4, fa5⟩ := blk6 HN1.out.a; obtain ⟨v0, v1, v2⟩ := blk3 HN1.out.v; obtain ⟨⟨r0, r1, r2, r3, r4, r5⟩, fr0, fr1, fr2, fr3, fr4, fr5⟩ := blk6 HN1.out.r; have hlt := heap_lt HN1.out.r))
              | (go_at_call 31; go_loud (refine (HM.out _).mono ?_; rintro en w2 ⟨rfl, hb1⟩; have HN2 := Lib.hid (HN1.out.below hb1); clear hb1; clear a0 a1 a2 a3 a4 a5 fa0 fa1 fa2 fa3 fa4 fa5 v0 v1 v2 r0 r1 r2 r3 r4 r5 fr0 fr1 fr2 fr3 fr4 fr5 hlt; obtain ⟨⟨a0, a1, a2, a3, a4, a5⟩, fa0, fa1, fa2, fa3, fa4, fa5⟩ := blk6 HN2.out.a; obtain ⟨v0, v1, v2⟩ := blk3 HN2.out.v; obtain ⟨⟨r0, r1, r2, r3, r4, r5⟩, fr0, fr1, fr2, fr3, fr4, fr5⟩ := blk6 HN2.out.r; have hlt := heap_lt HN2.out.r)))
            refine bodyPost_ret (res2 rfl (by rfl) (set6 (by (repeat (rw [heap_setCell_other _ _ _ _ (by dsimp only; omega)])); exact HN1.out.r) _ _ _ _ _ _) Try.underlying38 (by kernel_rfl)) rfl ⟨?_, below6 (by (repeat (refine below1 ?_ _ _)); exact HN1.out.b) (by omega) _ _ _ _ _ _⟩
            rw [HE.out]
            rfl
          · have HE := Lib.hid (show r = (⟨wrap64 (an + 1), ax + v.n, b⟩, 0) by rw [HS.out, stepA_sum])
            have q2 : (v.k == 0) = false := by simpa using hct2 (by decide)
            have hv1 : v.k ≤ 1 := by omega
            clear h3 HS hct2
            go_enter Try.func12, Try.ntmps12
            go_wp2_with (first
              | (go_at_call 17; go_loud (refine (HC.out _).mono ?_; rintro en w1 ⟨rfl, hb1⟩; have HN1 := Lib.hid (HN.out.below hb1); clear hb1; clear a0 a1 a2 a3 a4 a5 fa0 fa1 fa2 fa3 fa4 fa5 v0 v1 v2 r0 r1 r2 r3 r4 r5 fr0 fr1 fr2 fr3 fr4 fr5 hlt; obtain ⟨⟨a0, a1, a2, a3, a4, a5⟩, fa0, fa1, fa2, fa3, fa4, fa5⟩ := blk6 HN1.out.a; obtain ⟨v0, v1, v2⟩ := blk3 HN1.out.v; obtain ⟨⟨r0, r1, r2, r3, r4, r5⟩, fr0, fr1, fr2, fr3, fr4, fr5⟩ := blk6 HN1.out.r; have hlt := heap_lt HN1.out.r))
              | (go_at_call 31; go_loud (refine (HM.out _).mono ?_; rintro en w2 ⟨rfl, hb1⟩; have HN2 := Lib.hid (HN1.out.below hb1); clear hb1; clear a0 a1 a2 a3 a4 a5 fa0 fa1 fa2 fa3 fa4 fa5 v0 v1 v2 r0 r1 r2 r3 r4 r5 fr0 fr1 fr2 fr3 fr4 fr5 hlt; obtain ⟨⟨a0, a1, a2, a3, a4, a5⟩, fa0, fa1, fa2, fa3, fa4, fa5⟩ := blk6 HN2.out.a; obtain ⟨v0, v1, v2⟩ := blk3 HN2.out.v; obtain ⟨⟨r0, r1, r2, r3, r4, r5⟩, fr0, fr1, fr2, fr3, fr4, fr5⟩ := blk6 HN2.out.r; have hlt := heap_lt HN2.out.r)))
            clear a0 a1 a2 a3 a4 a5 fa0 fa1 fa2 fa3 fa4 fa5 v0 v1 v2 r0 r1 r2 r3 r4 r5 fr0 fr1 fr2 fr3 fr4 fr5 hlt
            have hS : B3 38 w an ax b v w1.drew := HN1.out.below (Below.refl _ _).drew
            refine till_begin 8 7 (fun W => B3 38 w an ax b v W) rfl (by kernel_rfl) ?_
            refine till_take (i := 0) (t := 39) (v := (.pointer (some ⟨w.heap.size, 1, none⟩))) (fuel := 7) rfl rfl (by kernel_rfl) (by kernel_rfl) (by kernel_rfl) (by kernel_rfl) (fun _ _ _ h => h) (.inl ⟨rfl, fun W hW => by simp [execOp, Act.eval, go_sem]⟩) hS ?_
            simp only [List.setIfInBounds_toArray, List.set_cons_succ, List.set_cons_zero]
            refine till_take (i := 1) (t := 40) (v := (.agg #[.int .i64 (hiZ ax), .int .u64 (loZ ax)])) (fuel := 6) rfl rfl (by kernel_rfl) (by kernel_rfl) (by kernel_rfl) (by kernel_rfl) (fun _ _ _ h => h) (.inl ⟨rfl, fun W hW => by simp [execOp, Act.eval, go_sem, (blk6 hW.a).1]⟩) hS ?_
            simp only [List.setIfInBounds_toArray, List.set_cons_succ, List.set_cons_zero]
            refine till_take (i := 2) (t := 41) (v := (.pointer (some ⟨w.heap.size + 1, 1, none⟩))) (fuel := 5) rfl rfl (by kernel_rfl) (by kernel_rfl) (by kernel_rfl) (by kernel_rfl) (fun _ _ _ h => h) (.inl ⟨rfl, fun W hW => by simp [execOp, Act.eval, go_sem]⟩) hS ?_
            simp only [List.setIfInBounds_toArray, List.set_cons_succ, List.set_cons_zero]
            refine till_take (i := 3) (t := 42) (v := (.int .i64 v.n)) (fuel := 4) rfl rfl (by kernel_rfl) (by kernel_rfl) (by kernel_rfl) (by kernel_rfl) (fun _ _ _ h => h) (.inl ⟨rfl, fun W hW => by simp [execOp, Act.eval, go_sem, (blk3 hW.v)]⟩) hS ?_
            simp only [List.setIfInBounds_toArray, List.set_cons_succ, List.set_cons_zero]
            refine till_one (i := 4) rfl (by kernel_rfl) (by kernel_rfl) ?_
            simp [Oper.wp, execOp, Act.eval, Act.put, go_sem]
            refine (HW.out _).mono ?_
            rintro en w4 ⟨rfl, hb4⟩
            have hS := hS.below hb4
            refine ⟨hS, ?_⟩
            try simp only [List.setIfInBounds_toArray, List.set_cons_succ, List.set_cons_zero]
            refine till_one (i := 5) rfl (by kernel_rfl) (by kernel_rfl) ?_
            simp [Oper.wp, execOp, Act.eval, Act.put, go_sem]
            refine (HB.out _).mono ?_
            rintro en w5 ⟨rfl, hb5⟩
            have hS := hS.below hb5
            refine ⟨hS, ?_⟩
            try simp only [List.setIfInBounds_toArray, List.set_cons_succ, List.set_cons_zero]
            refine till_take (i := 6) (t := 45) (v := (.pointer (some ⟨w.heap.size, 1, none⟩))) (fuel := 1) rfl rfl (by kernel_rfl) (by kernel_rfl) (by kernel_rfl) (by kernel_rfl) (fun _ _ _ h => h) (.inl ⟨rfl, fun W hW => by simp [execOp, Act.eval, go_sem]⟩) hS ?_
            simp only [List.setIfInBounds_toArray, List.set_cons_succ, List.set_cons_zero]
            refine till_one (i := 7) rfl (by kernel_rfl) (by kernel_rfl) ?_
            obtain ⟨⟨a0, a1, a2, a3, a4, a5⟩, fa0, fa1, fa2, fa3, fa4, fa5⟩ := blk6 hS.a; obtain ⟨v0, v1, v2⟩ := blk3 hS.v; obtain ⟨⟨r0, r1, r2, r3, r4, r5⟩, fr0, fr1, fr2, fr3, fr4, fr5⟩ := blk6 hS.r; have hlt := heap_lt hS.r
            simp [Oper.wp, execOp, Act.eval, Act.put, go_sem, a1, a2, fa1, fa2]
            refine till_done (by kernel_rfl) ?_
            have HNS := Lib.hid hS
            clear hb4 hb5
            go_wp2
            refine bodyPost_ret (res2 rfl (by rfl) (set6 (by (repeat (rw [heap_setCell_other _ _ _ _ (by dsimp only; omega)])); exact HNS.out.r) _ _ _ _ _ _) Try.underlying38 (by kernel_rfl)) rfl ⟨?_, below6 (by (repeat (refine below1 ?_ _ _)); exact HNS.out.b) (by omega) _ _ _ _ _ _⟩
            rw [HE.out]
            rfl
          · have q2 : (v.k == 0) = false := by simpa using hct2 (by decide)
            clear h3 hct2
            by_cases h0 : an = 0
            · have HE := Lib.hid (show r = (⟨wrap64 (an + 1), ax, v⟩, 0) by rw [HS.out, stepA_yes (by decide) ⟨by decide, .inl h0⟩])
              have q3 : (an == 0) = true := by simpa using h0
              clear h0 HS
              go_enter Try.func12, Try.ntmps12
              go_wp2_with (first
                | (go_at_call 17; go_loud (refine (HC.out _).mono ?_; rintro en w1 ⟨rfl, hb1⟩; have HN1 := Lib.hid (HN.out.below hb1); clear hb1; clear a0 a1 a2 a3 a4 a5 fa0 fa1 fa2 fa3 fa4 fa5 v0 v1 v2 r0 r1 r2 r3 r4 r5 fr0 fr1 fr2 fr3 fr4 fr5 hlt; obtain ⟨⟨a0, a1, a2, a3, a4, a5⟩, fa0, fa1, fa2, fa3, fa4, fa5⟩ := blk6 HN1.out.a; obtain ⟨v0, v1, v2⟩ := blk3 HN1.out.v; obtain ⟨⟨r0, r1, r2, r3, r4, r5⟩, fr0, fr1, fr2, fr3, fr4, fr5⟩ := blk6 HN1.out.r; have hlt := heap_lt HN1.out.r))
                | (go_at_call 31; go_loud (refine (HM.out _).mono ?_; rintro en w2 ⟨rfl, hb1⟩; have HN2 := Lib.hid (HN1.out.below hb1); clear hb1; clear a0 a1 a2 a3 a4 a5 fa0 fa1 fa2 fa3 fa4 fa5 v0 v1 v2 r0 r1 r2 r3 r4 r5 fr0 fr1 fr2 fr3 fr4 fr5 hlt; obtain ⟨⟨a0, a1, a2, a3, a4, a5⟩, fa0, fa1, fa2, fa3, fa4, fa5⟩ := blk6 HN2.out.a; obtain ⟨v0, v1, v2⟩ := blk3 HN2.out.v; obtain ⟨⟨r0, r1, r2, r3, r4, r5⟩, fr0, fr1, fr2, fr3, fr4, fr5⟩ := blk6 HN2.out.r; have hlt := heap_lt HN2.out.r)))
              refine bodyPost_ret (res2 rfl (by rfl) (set6 (by (repeat (rw [heap_setCell_other _ _ _ _ (by dsimp only; omega)])); exact HN1.out.r) _ _ _ _ _ _) Try.underlying38 (by kernel_rfl)) rfl ⟨?_, below6 (by (repeat (refine below1 ?_ _ _)); exact HN1.out.b) (by omega) _ _ _ _ _ _⟩
              rw [HE.out]
              rfl
            · have q3 : (an == 0) = false := by simpa using h0
              have HZ := Lib.hid h0
              clear h0
              by_cases hm : m < 0
              · have HE := Lib.hid (show r = (⟨wrap64 (an + 1), ax, v⟩, 0) by rw [HS.out, stepA_yes (by decide) ⟨by decide, .inr (btr_iff.2 (by rw [HMM.out]; omega))⟩])
                clear HS
                go_enter Try.func12, Try.ntmps12
                go_wp2_with (first
                  | (go_at_call 17; go_loud (refine (HC.out _).mono ?_; rintro en w1 ⟨rfl, hb1⟩; have HN1 := Lib.hid (HN.out.below hb1); clear hb1; clear a0 a1 a2 a3 a4 a5 fa0 fa1 fa2 fa3 fa4 fa5 v0 v1 v2 r0 r1 r2 r3 r4 r5 fr0 fr1 fr2 fr3 fr4 fr5 hlt; obtain ⟨⟨a0, a1, a2, a3, a4, a5⟩, fa0, fa1, fa2, fa3, fa4, fa5⟩ := blk6 HN1.out.a; obtain ⟨v0, v1, v2⟩ := blk3 HN1.out.v; obtain ⟨⟨r0, r1, r2, r3, r4, r5⟩, fr0, fr1, fr2, fr3, fr4, fr5⟩ := blk6 HN1.out.r; have hlt := heap_lt HN1.out.r))
                  | (go_at_call 31; go_loud (refine (HM.out _).mono ?_; rintro en w2 ⟨rfl, hb1⟩; have HN2 := Lib.hid (HN1.out.below hb1); clear hb1; clear a0 a1 a2 a3 a4 a5 fa0 fa1 fa2 fa3 fa4 fa5 v0 v1 v2 r0 r1 r2 r3 r4 r5 fr0 fr1 fr2 fr3 fr4 fr5 hlt; obtain ⟨⟨a0, a1, a2, a3, a4, a5⟩, fa0, fa1, fa2, fa3, fa4, fa5⟩ := blk6 HN2.out.a; obtain ⟨v0, v1, v2⟩ := blk3 HN2.out.v; obtain ⟨⟨r0, r1, r2, r3, r4, r5⟩, fr0, fr1, fr2, fr3, fr4, fr5⟩ := blk6 HN2.out.r; have hlt := heap_lt HN2.out.r)))
                refine bodyPost_ret (res2 rfl (by rfl) (set6 (by (repeat (rw [heap_setCell_other _ _ _ _ (by dsimp only; omega)])); exact HN2.out.r) _ _ _ _ _ _) Try.underlying38 (by kernel_rfl)) rfl ⟨?_, below6 (by (repeat (refine below1 ?_ _ _)); exact HN2.out.b) (by omega) _ _ _ _ _ _⟩
                rw [HE.out]
                rfl
              · have HE := Lib.hid (show r = (⟨wrap64 (an + 1), ax, b⟩, 0) by rw [HS.out, stepA_no (by decide) (by rintro ⟨_, h | h⟩; exact HZ.out h; rw [btr_iff, HMM.out] at h; omega)])
                clear HS
                go_enter Try.func12, Try.ntmps12
                go_wp2_with (first
                  | (go_at_call 17; go_loud (refine (HC.out _).mono ?_; rintro en w1 ⟨rfl, hb1⟩; have HN1 := Lib.hid (HN.out.below hb1); clear hb1; clear a0 a1 a2 a3 a4 a5 fa0 fa1 fa2 fa3 fa4 fa5 v0 v1 v2 r0 r1 r2 r3 r4 r5 fr0 fr1 fr2 fr3 fr4 fr5 hlt; obtain ⟨⟨a0, a1, a2, a3, a4, a5⟩, fa0, fa1, fa2, fa3, fa4, fa5⟩ := blk6 HN1.out.a; obtain ⟨v0, v1, v2⟩ := blk3 HN1.out.v; obtain ⟨⟨r0, r1, r2, r3, r4, r5⟩, fr0, fr1, fr2, fr3, fr4, fr5⟩ := blk6 HN1.out.r; have hlt := heap_lt HN1.out.r))
                  | (go_at_call 31; go_loud (refine (HM.out _).mono ?_; rintro en w2 ⟨rfl, hb1⟩; have HN2 := Lib.hid (HN1.out.below hb1); clear hb1; clear a0 a1 a2 a3 a4 a5 fa0 fa1 fa2 fa3 fa4 fa5 v0 v1 v2 r0 r1 r2 r3 r4 r5 fr0 fr1 fr2 fr3 fr4 fr5 hlt; obtain ⟨⟨a0, a1, a2, a3, a4, a5⟩, fa0, fa1, fa2, fa3, fa4, fa5⟩ := blk6 HN2.out.a; obtain ⟨v0, v1, v2⟩ := blk3 HN2.out.v; obtain ⟨⟨r0, r1, r2, r3, r4, r5⟩, fr0, fr1, fr2, fr3, fr4, fr5⟩ := blk6 HN2.out.r; have hlt := heap_lt HN2.out.r)))
                refine bodyPost_ret (res2 rfl (by rfl) (set6 (by (repeat (rw [heap_setCell_other _ _ _ _ (by dsimp only; omega)])); exact HN2.out.r) _ _ _ _ _ _) Try.underlying38 (by kernel_rfl)) rfl ⟨?_, below6 (by (repeat (refine below1 ?_ _ _)); exact HN2.out.b) (by omega) _ _ _ _ _ _⟩
                rw [HE.out]
                rfl
          · have q2 : (v.k == 0) = false := by simpa using hct2 (by decide)
            clear h3 hct2
            by_cases h0 : an = 0
            · have HE := Lib.hid (show r = (⟨wrap64 (an + 1), ax, v⟩, 0) by rw [HS.out, stepA_yes (by decide) ⟨by decide, .inl h0⟩])
              have q3 : (an == 0) = true := by simpa using h0
              clear h0 HS
              go_enter Try.func12, Try.ntmps12
              go_wp2_with (first
                | (go_at_call 17; go_loud (refine (HC.out _).mono ?_; rintro en w1 ⟨rfl, hb1⟩; have HN1 := Lib.hid (HN.out.below hb1); clear hb1; clear a0 a1 a2 a3 a4 a5 fa0 fa1 fa2 fa3 fa4 fa5 v0 v1 v2 r0 r1 r2 r3 r4 r5 fr0 fr1 fr2 fr3 fr4 fr5 hlt; obtain ⟨⟨a0, a1, a2, a3, a4, a5⟩, fa0, fa1, fa2, fa3, fa4, fa5⟩ := blk6 HN1.out.a; obtain ⟨v0, v1, v2⟩ := blk3 HN1.out.v; obtain ⟨⟨r0, r1, r2, r3, r4, r5⟩, fr0, fr1, fr2, fr3, fr4, fr5⟩ := blk6 HN1.out.r; have hlt := heap_lt HN1.out.r))
                | (go_at_call 31; go_loud (refine (HM.out _).mono ?_; rintro en w2 ⟨rfl, hb1⟩; have HN2 := Lib.hid (HN1.out.below hb1); clear hb1; clear a0 a1 a2 a3 a4 a5 fa0 fa1 fa2 fa3 fa4 fa5 v0 v1 v2 r0 r1 r2 r3 r4 r5 fr0 fr1 fr2 fr3 fr4 fr5 hlt; obtain ⟨⟨a0, a1, a2, a3, a4, a5⟩, fa0, fa1, fa2, fa3, fa4, fa5⟩ := blk6 HN2.out.a; obtain ⟨v0, v1, v2⟩ := blk3 HN2.out.v; obtain ⟨⟨r0, r1, r2, r3, r4, r5⟩, fr0, fr1, fr2, fr3, fr4, fr5⟩ := blk6 HN2.out.r; have hlt := heap_lt HN2.out.r)))
              refine bodyPost_ret (res2 rfl (by rfl) (set6 (by (repeat (rw [heap_setCell_other _ _ _ _ (by dsimp only; omega)])); exact HN1.out.r) _ _ _ _ _ _) Try.underlying38 (by kernel_rfl)) rfl ⟨?_, below6 (by (repeat (refine below1 ?_ _ _)); exact HN1.out.b) (by omega) _ _ _ _ _ _⟩
              rw [HE.out]
              rfl
            · have q3 : (an == 0) = false := by simpa using h0
              have HZ := Lib.hid h0
              clear h0
              by_cases hm : 0 < m
              · have HE := Lib.hid (show r = (⟨wrap64 (an + 1), ax, v⟩, 0) by rw [HS.out, stepA_yes (by decide) ⟨by decide, .inr (btr_iff.2 (by rw [HMM.out]; omega))⟩])
                clear HS
                go_enter Try.func12, Try.ntmps12
                go_wp2_with (first
                  | (go_at_call 17; go_loud (refine (HC.out _).mono ?_; rintro en w1 ⟨rfl, hb1⟩; have HN1 := Lib.hid (HN.out.below hb1); clear hb1; clear a0 a1 a2 a3 a4 a5 fa0 fa1 fa2 fa3 fa4 fa5 v0 v1 v2 r0 r1 r2 r3 r4 r5 fr0 fr1 fr2 fr3 fr4 fr5 hlt; obtain ⟨⟨a0, a1, a2, a3, a4, a5⟩, fa0, fa1, fa2, fa3, fa4, fa5⟩ := blk6 HN1.out.a; obtain ⟨v0, v1, v2⟩ := blk3 HN1.out.v; obtain ⟨⟨r0, r1, r2, r3, r4, r5⟩, fr0, fr1, fr2, fr3, fr4, fr5⟩ := blk6 HN1.out.r; have hlt := heap_lt HN1.out.r))
                  | (go_at_call 31; go_loud (refine (HM.out _).mono ?_; rintro en w2 ⟨rfl, hb1⟩; have HN2 := Lib.hid (HN1.out.below hb1); clear hb1; clear a0 a1 a2 a3 a4 a5 fa0 fa1 fa2 fa3 fa4 fa5 v0 v1 v2 r0 r1 r2 r3 r4 r5 fr0 fr1 fr2 fr3 fr4 fr5 hlt; obtain ⟨⟨a0, a1, a2, a3, a4, a5⟩, fa0, fa1, fa2, fa3, fa4, fa5⟩ := blk6 HN2.out.a; obtain ⟨v0, v1, v2⟩ := blk3 HN2.out.v; obtain ⟨⟨r0, r1, r2, r3, r4, r5⟩, fr0, fr1, fr2, fr3, fr4, fr5⟩ := blk6 HN2.out.r; have hlt := heap_lt HN2.out.r)))
                refine bodyPost_ret (res2 rfl (by rfl) (set6 (by (repeat (rw [heap_setCell_other _ _ _ _ (by dsimp only; omega)])); exact HN2.out.r) _ _ _ _ _ _) Try.underlying38 (by kernel_rfl)) rfl ⟨?_, below6 (by (repeat (refine below1 ?_ _ _)); exact HN2.out.b) (by omega) _ _ _ _ _ _⟩
                rw [HE.out]
                rfl
              · have HE := Lib.hid (show r = (⟨wrap64 (an + 1), ax, b⟩, 0) by rw [HS.out, stepA_no (by decide) (by rintro ⟨_, h | h⟩; exact HZ.out h; rw [btr_iff, HMM.out] at h; omega)])
                clear HS
                go_enter Try.func12, Try.ntmps12
                go_wp2_with (first
                  | (go_at_call 17; go_loud (refine (HC.out _).mono ?_; rintro en w1 ⟨rfl, hb1⟩; have HN1 := Lib.hid (HN.out.below hb1); clear hb1; clear a0 a1 a2 a3 a4 a5 fa0 fa1 fa2 fa3 fa4 fa5 v0 v1 v2 r0 r1 r2 r3 r4 r5 fr0 fr1 fr2 fr3 fr4 fr5 hlt; obtain ⟨⟨a0, a1, a2, a3, a4, a5⟩, fa0, fa1, fa2, fa3, fa4, fa5⟩ := blk6 HN1.out.a; obtain ⟨v0, v1, v2⟩ := blk3 HN1.out.v; obtain ⟨⟨r0, r1, r2, r3, r4, r5⟩, fr0, fr1, fr2, fr3, fr4, fr5⟩ := blk6 HN1.out.r; have hlt := heap_lt HN1.out.r))
                  | (go_at_call 31; go_loud (refine (HM.out _).mono ?_; rintro en w2 ⟨rfl, hb1⟩; have HN2 := Lib.hid (HN1.out.below hb1); clear hb1; clear a0 a1 a2 a3 a4 a5 fa0 fa1 fa2 fa3 fa4 fa5 v0 v1 v2 r0 r1 r2 r3 r4 r5 fr0 fr1 fr2 fr3 fr4 fr5 hlt; obtain ⟨⟨a0, a1, a2, a3, a4, a5⟩, fa0, fa1, fa2, fa3, fa4, fa5⟩ := blk6 HN2.out.a; obtain ⟨v0, v1, v2⟩ := blk3 HN2.out.v; obtain ⟨⟨r0, r1, r2, r3, r4, r5⟩, fr0, fr1, fr2, fr3, fr4, fr5⟩ := blk6 HN2.out.r; have hlt := heap_lt HN2.out.r)))
                refine bodyPost_ret (res2 rfl (by rfl) (set6 (by (repeat (rw [heap_setCell_other _ _ _ _ (by dsimp only; omega)])); exact HN2.out.r) _ _ _ _ _ _) Try.underlying38 (by kernel_rfl)) rfl ⟨?_, below6 (by (repeat (refine below1 ?_ _ _)); exact HN2.out.b) (by omega) _ _ _ _ _ _⟩
                rw [HE.out]
                rfl
    · have HE := Lib.hid (show r = (zeroA, 151) by rw [← HR.out]; unfold addA; rw [if_neg HOK.out, if_pos (.inl (by rw [HCC.out]; exact hc0))])
      have q0 : (c != 0) = true := by simpa using hc0
      clear hc0
      go_enter Try.func12, Try.ntmps12
      go_wp2_with (first
        | (go_at_call 17; go_loud (refine (HC.out _).mono ?_; rintro en w1 ⟨rfl, hb1⟩; have HN1 := Lib.hid (HN.out.below hb1); clear hb1; clear a0 a1 a2 a3 a4 a5 fa0 fa1 fa2 fa3 fa4 fa5 v0 v1 v2 r0 r1 r2 r3 r4 r5 fr0 fr1 fr2 fr3 fr4 fr5 hlt; obtain ⟨⟨a0, a1, a2, a3, a4, a5⟩, fa0, fa1, fa2, fa3, fa4, fa5⟩ := blk6 HN1.out.a; obtain ⟨v0, v1, v2⟩ := blk3 HN1.out.v; obtain ⟨⟨r0, r1, r2, r3, r4, r5⟩, fr0, fr1, fr2, fr3, fr4, fr5⟩ := blk6 HN1.out.r; have hlt := heap_lt HN1.out.r))
        | (go_at_call 31; go_loud (refine (HM.out _).mono ?_; rintro en w2 ⟨rfl, hb1⟩; have HN2 := Lib.hid (HN1.out.below hb1); clear hb1; clear a0 a1 a2 a3 a4 a5 fa0 fa1 fa2 fa3 fa4 fa5 v0 v1 v2 r0 r1 r2 r3 r4 r5 fr0 fr1 fr2 fr3 fr4 fr5 hlt; obtain ⟨⟨a0, a1, a2, a3, a4, a5⟩, fa0, fa1, fa2, fa3, fa4, fa5⟩ := blk6 HN2.out.a; obtain ⟨v0, v1, v2⟩ := blk3 HN2.out.v; obtain ⟨⟨r0, r1, r2, r3, r4, r5⟩, fr0, fr1, fr2, fr3, fr4, fr5⟩ := blk6 HN2.out.r; have hlt := heap_lt HN2.out.r)))
      refine bodyPost_ret (res2 rfl (by rfl) (set6 HN1.out.r _ _ _ _ _ _) Try.underlying38 (by kernel_rfl)) rfl ⟨?_, below6 HN1.out.b (by omega) _ _ _ _ _ _⟩
      rw [HE.out]
      rfl
end Go.Proofs.Ytihgcfokenabgaa
