/- Layer 15, walked: Fold of ints (the example's). -/
import Derived.Test.YtihgcfokenabgaaAgX7
namespace Go.Proofs.Ytihgcfokenabgaa
open Go Go.ChangeShapes Go.WideShapes Go.ChangeAt Go.RowKit
set_option linter.unusedVariables false
set_option linter.unusedSimpArgs false
def put6 (W : World) (q : Nat) (a : Ac) : World :=
  (((((W.setCell ⟨q, 0, none⟩ (.int .i64 a.n)).setCell ⟨q, 1, none⟩ (.int .i64 (hiZ a.x))).setCell ⟨q, 2, none⟩ (.int .u64 (loZ a.x))).setCell ⟨q, 3, none⟩ (.int .i64 a.b.k)).setCell ⟨q, 4, none⟩ (.int .i64 a.b.n)).setCell ⟨q, 5, none⟩ (.string a.b.s)
theorem put6_same {W : World} {q T : Nat} {c0 c1 c2 c3 c4 c5 : Value} (h : W.heap[q]? = some (.cells #[c0, c1, c2, c3, c4, c5] T)) (a : Ac) :
    (put6 W q a).heap[q]? = some (.cells #[.int .i64 a.n, .int .i64 (hiZ a.x), .int .u64 (loZ a.x), .int .i64 a.b.k, .int .i64 a.b.n, .string a.b.s] T) :=
  heap_setCell_same _ _ _ _ _ _ (heap_setCell_same _ _ _ _ _ _ (heap_setCell_same _ _ _ _ _ _ (heap_setCell_same _ _ _ _ _ _ (heap_setCell_same _ _ _ _ _ _ (heap_setCell_same _ _ _ _ _ _ h)))))
theorem put6_other {W : World} {q k : Nat} (a : Ac) (h : k ≠ q) : (put6 W q a).heap[k]? = W.heap[k]? :=
  (heap_setCell_other _ _ _ _ h).trans ((heap_setCell_other _ _ _ _ h).trans ((heap_setCell_other _ _ _ _ h).trans ((heap_setCell_other _ _ _ _ h).trans ((heap_setCell_other _ _ _ _ h).trans (heap_setCell_other _ _ _ _ h)))))
theorem put6_below {w W : World} {q : Nat} (h : Below w.heap.size w W) (hq : w.heap.size ≤ q) (a : Ac) : Below w.heap.size w (put6 W q a) := below6 h hq _ _ _ _ _ _
/-- One int behind the other. -/
def fold3 (a : Ac) (l : List Int) : Ac := l.foldl (fun a n => stepA 3 a (intA n)) a
theorem step3_wf {a : Ac} {n : Int} (h : a.b.wf) : (stepA 3 a (intA n)).b.wf := by
  unfold stepA
  dsimp only
  rw [if_neg (by rintro ⟨h | h, _⟩ <;> omega)]
  exact h
theorem add3 (a : Ac) (n : Int) : addA 3 a (intA n) = (stepA 3 a (intA n), 0) := by
  unfold addA
  rw [if_neg (by decide), if_neg (by rintro (h | ⟨_, h⟩); exact h rfl; unfold intA at h; dsimp only at h; omega), if_neg (by unfold cntd intA; simp)]
theorem fold3_next {l : List Int} {i : Nat} {a x : Ac} (h : fold3 a l = fold3 x (l.drop i)) (hi : i < l.length) : fold3 a l = fold3 (stepA 3 x (intA l[i])) (l.drop (i + 1)) := by
  rw [h, List.drop_eq_getElem_cons hi]
  rfl
theorem closure_any (n : Int) (w : World) :
    Calls Try.prog 25 #[.int .i64 n] w fun e w' => e = .returned (.agg #[.int .i64 1, .int .i64 n, .string ⟨#[]⟩]) ∧ Below w.heap.size w w' := by
  go_enter Try.func25, Try.ntmps25
  go_wp2
  exact bodyPost_ret (v := .agg #[.int .i64 1, .int .i64 n, .string ⟨#[]⟩]) (by simp [results, Try.results25, go_sem]) rfl ⟨rfl, (Below.refl _ _).alloc (Nat.le_refl _) _⟩
/-- What is kept, in box q. -/
def SQ (T q : Nat) (a : Ac) (W : World) : Prop := W.heap[q]? = some (.cells #[.int .i64 a.n, .int .i64 (hiZ a.x), .int .u64 (loZ a.x), .int .i64 a.b.k, .int .i64 a.b.n, .string a.b.s] T) ∧
  (W.cell? ⟨q, 0, none⟩ = some (.int .i64 a.n) ∧ W.cell? ⟨q, 1, none⟩ = some (.int .i64 (hiZ a.x)) ∧ W.cell? ⟨q, 2, none⟩ = some (.int .u64 (loZ a.x)) ∧ W.cell? ⟨q, 3, none⟩ = some (.int .i64 a.b.k) ∧ W.cell? ⟨q, 4, none⟩ = some (.int .i64 a.b.n) ∧ W.cell? ⟨q, 5, none⟩ = some (.string a.b.s))
theorem sq_of {T q : Nat} {W : World} {a : Ac} (h : W.heap[q]? = some (.cells #[.int .i64 a.n, .int .i64 (hiZ a.x), .int .u64 (loZ a.x), .int .i64 a.b.k, .int .i64 a.b.n, .string a.b.s] T)) : SQ T q a W := ⟨h, (blk6 h).1⟩
theorem SQ.below {T q : Nat} {W W' : World} {a : Ac} (h : SQ T q a W) (hb : Below W.heap.size W W') : SQ T q a W' := sq_of ((hb.block _ (heap_lt h.1)).trans h.1)
theorem SQ.set {T q g : Nat} {W : World} {a : Ac} (h : SQ T q a W) (hg : q ≠ g) (i : Nat) (v : Value) : SQ T q a (W.setCell ⟨g, i, none⟩ v) :=
  sq_of (by rw [heap_setCell_other _ _ _ _ hg]; exact h.1)
def lim20k : Nat := 2000
set_option maxHeartbeats 4000000 in
set_option maxRecDepth 100000 in
theorem afold64_any (l : List Int) (hw : ∀ x ∈ l, In64 x) (n c : Nat) (A : Option Addr) (w : World) (hl : n = l.length) (h0 : ¬ n = 0) (hn : n ≤ 2000) (hA : ∀ (j : Nat) (h : j < l.length), ∃ b off, A = some ⟨b, off, none⟩ ∧ b < w.heap.size ∧ w.cell? ⟨b, off + j, none⟩ = some (.int .i64 l[j])) :
    Calls Try.prog 24 #[.int .i64 3, .slice A n c, .func (.func 25) #[] #[]] w fun e w' =>
      e = .returned (.tuple #[(fold3 zeroA l).V, .int .i64 0]) ∧ Below w.heap.size w w' := by
  have HA := Lib.hid hA
  have HL := Lib.hid hl
  have HWI := Lib.hid hw
  have HN2 := Lib.hid (show n ≤ lim20k by unfold lim20k; omega)
  have HK := Lib.hid (fun W => known_any 3 W)
  rw [show okA 3 = true by rfl] at HK
  obtain ⟨r, hr⟩ : ∃ r, fold3 zeroA l = r := ⟨_, rfl⟩
  have HR := Lib.hid hr
  rw [hr]
  have q0 : ((n : Int) == 0) = false := by simp; omega
  obtain ⟨W1, hW1⟩ : ∃ W1, (w.alloc (.cells #[.int .i64 0, .int .i64 0, .int .u64 0, .int .i64 0, .int .i64 0, .string ⟨#[]⟩] 35)).alloc (.cells #[.int .i64 0, .int .i64 0, .int .u64 0, .int .i64 0, .int .i64 0, .string ⟨#[]⟩] 35) = W1 := ⟨_, rfl⟩
  have HB1 := Lib.hid (show Below w.heap.size w W1 by rw [← hW1]; exact ((Below.refl _ _).alloc (Nat.le_refl _) _).alloc (by simp) _)
  have HZR := Lib.hid (show W1.heap[w.heap.size]? = some (.cells #[.int .i64 0, .int .i64 0, .int .u64 0, .int .i64 0, .int .i64 0, .string ⟨#[]⟩] 35) by rw [← hW1]; exact (Below.heap_alloc _ _ _ (by simp)).trans (World.alloc_heap_new w _))
  have HZX := Lib.hid (show W1.heap[w.heap.size + 1]? = some (.cells #[.int .i64 zeroA.n, .int .i64 (hiZ zeroA.x), .int .u64 (loZ zeroA.x), .int .i64 zeroA.b.k, .int .i64 zeroA.b.n, .string zeroA.b.s] 35) by
    rw [← hW1]
    have := World.alloc_heap_new (w.alloc (.cells #[.int .i64 0, .int .i64 0, .int .u64 0, .int .i64 0, .int .i64 0, .string ⟨#[]⟩] 35)) (.cells #[.int .i64 0, .int .i64 0, .int .u64 0, .int .i64 0, .int .i64 0, .string ⟨#[]⟩] 35)
    rw [World.size_alloc] at this
    exact this)
  have hnf : ∀ w : World, (binOp .eql 62 (.func (.func 25) #[] #[]) .nilFunc).run Try.prog w = .ok (.bool false) w := fun _ => by kernel_rfl
  clear hr hA hl hw hn h0
  go_enter Try.func24, Try.ntmps24
  go_wp2_with (go_at_call 26; go_loud (refine (HK.out _).mono ?_; rintro e w1 ⟨rfl, rfl⟩))
  clear hW1
  go_loopw [29] (fun iv wr => ∃ (i : Nat) (x : Ac), iv = .int .i64 i ∧ i ≤ n ∧ Hid x.b.wf ∧ Hid (fold3 zeroA l = fold3 x (l.drop i)) ∧ Hid (wr.heap[w.heap.size + 1]? = some (.cells #[.int .i64 x.n, .int .i64 (hiZ x.x), .int .u64 (loZ x.x), .int .i64 x.b.k, .int .i64 x.b.n, .string x.b.s] 35)) ∧ Hid (wr.heap[w.heap.size]? = some (.cells #[.int .i64 0, .int .i64 0, .int .u64 0, .int .i64 0, .int .i64 0, .string ⟨#[]⟩] 35)) ∧ Hid (Below w.heap.size w wr)) (fun iv _ => n - (intOf iv).toNat)
  case atStart => exact ⟨0, zeroA, rfl, Nat.zero_le _, Lib.hid ⟨by unfold zeroA nulA in64; dsimp only; omega, by unfold zeroA nulA in64; dsimp only; omega, by decide⟩, Lib.hid rfl, HZX, HZR, HB1⟩
  case round =>
    obtain ⟨i, x, rfl, hi, HXW, HF, HX, HRB, HB⟩ := hrel
    by_cases hlt : i < n
    · have hil : i < l.length := by rw [← HL.out]; exact hlt
      obtain ⟨rb, ro, hA2, hrb, n0⟩ := HA.out i hil
      subst hA2
      have HNX := Lib.hid (fold3_next HF.out hil)
      have hv64 := HWI.out _ (List.getElem_mem hil)
      obtain ⟨v, hv⟩ : ∃ v, l[i] = v := ⟨_, rfl⟩
      simp only [hv] at n0 HNX hv64
      have n1 := ltr_cell HB.out n0
      have HCL := Lib.hid (fun W => closure_any v W)
      have HAD := Lib.hid (fun W => aadd_any 3 x (intA v) HXW.out ⟨by unfold intA in64; dsimp only; omega, by unfold in64; exact hv64, by unfold intA; dsimp only; decide⟩ W)
      rw [add3] at HAD
      have HY := Lib.hid (step3_wf (n := v) HXW.out)
      obtain ⟨y, hy⟩ : ∃ y, stepA 3 x (intA v) = y := ⟨_, rfl⟩
      simp only [hy] at HAD HY HNX
      unfold Ac.V V.val intA at HAD
      have i1 : (0 : Int) ≤ (i : Int) := by omega
      have i2 : (i : Int) < (n : Int) := by omega
      have i3 : i + 1 ≤ 9223372036854775807 := by have := HN2.out; unfold lim20k at this; omega
      have hmem := heap_lt HX.out
      clear hil hv hv64 hrb n0 hy HF
      go_wp2
      obtain ⟨W2, hW2⟩ : ∃ W2, wr.drew = W2 := ⟨_, rfl⟩
      have hS : SQ 35 (w.heap.size + 1) x W2 := by rw [← hW2]; exact (sq_of HX.out).below ((Below.refl _ _).drew)
      replace HB := Lib.hid (show Below w.heap.size w W2 by rw [← hW2]; exact HB.out.drew)
      replace HRB := Lib.hid (show W2.heap[w.heap.size]? = some (.cells #[.int .i64 0, .int .i64 0, .int .u64 0, .int .i64 0, .int .i64 0, .string ⟨#[]⟩] 35) by rw [← hW2]; exact HRB.out)
      clear HX n1
      refine held_begin 12 (fun W => SQ 35 (w.heap.size + 1) x W) rfl (by kernel_rfl) ?_
      rw [hW2]
      clear hW2
      refine held_take (i := 0) (t := 34) (v := (.int .i64 3)) (fuel := 11) rfl rfl (by kernel_rfl) (by kernel_rfl) (by kernel_rfl) (fun _ _ _ h => h) (.inl ⟨rfl, fun W hW => by obtain ⟨s0, sa⟩ := hW; simp [execOp, Act.eval, go_sem, s0, sa]⟩) hS ?_
      simp only [List.setIfInBounds_toArray, List.set_cons_succ, List.set_cons_zero]
      refine held_take (i := 1) (t := 35) (v := (.agg #[.int .i64 x.n, .int .i64 (hiZ x.x), .int .u64 (loZ x.x), .int .i64 x.b.k, .int .i64 x.b.n, .string x.b.s])) (fuel := 10) rfl rfl (by kernel_rfl) (by kernel_rfl) (by kernel_rfl) (fun _ _ _ h => h) (.inl ⟨rfl, fun W hW => by obtain ⟨s0, sa⟩ := hW; simp [execOp, Act.eval, go_sem, s0, sa, sa.1, sa.2.1, sa.2.2.1, sa.2.2.2.1, sa.2.2.2.2.1, sa.2.2.2.2.2]⟩) hS ?_
      simp only [List.setIfInBounds_toArray, List.set_cons_succ, List.set_cons_zero]
      refine held_take (i := 2) (t := 36) (v := (.func (.func 25) #[] #[])) (fuel := 9) rfl rfl (by kernel_rfl) (by kernel_rfl) (by kernel_rfl) (fun _ _ _ h => h) (.inl ⟨rfl, fun W hW => by obtain ⟨s0, sa⟩ := hW; simp [execOp, Act.eval, go_sem, s0, sa]⟩) hS ?_
      simp only [List.setIfInBounds_toArray, List.set_cons_succ, List.set_cons_zero]
      refine held_take (i := 3) (t := 37) (v := (.int .i64 v)) (fuel := 8) rfl rfl (by kernel_rfl) (by kernel_rfl) (by kernel_rfl) (fun _ _ _ h => h) (.inl ⟨rfl, fun W hW => by obtain ⟨s0, sa⟩ := hW; simp [execOp, Act.eval, go_sem, s0, sa]⟩) hS ?_
      simp only [List.setIfInBounds_toArray, List.set_cons_succ, List.set_cons_zero]
      refine held_two (i := 4) (j := 9) rfl rfl (by kernel_rfl) (by kernel_rfl) (by kernel_rfl) ?_ ?_
      · skip
        simp [Oper.wp, execOp, Act.eval, Act.put, go_sem]
        refine (HCL.out _).mono ?_
        rintro e w2 ⟨rfl, hb2⟩
        have hS2 := hS.below hb2
        replace HB := Lib.hid (hop1 HB.out hb2)
        replace HRB := Lib.hid ((hb2.block _ (heap_lt HRB.out)).trans HRB.out)
        refine ⟨hS2, ?_⟩
        clear hS
        have hS := hS2
        clear hS2
        try simp only [List.setIfInBounds_toArray, List.set_cons_succ, List.set_cons_zero]
        refine held_two (i := 5) (j := 9) rfl rfl (by kernel_rfl) (by kernel_rfl) (by kernel_rfl) ?_ ?_
        · skip
          simp [Oper.wp, execOp, Act.eval, Act.put, go_sem]
          refine (HAD.out _).mono ?_
          rintro e w3 ⟨rfl, hb3⟩
          have hS2 := hS.below hb3
          replace HB := Lib.hid (hop1 HB.out hb3)
          replace HRB := Lib.hid ((hb3.block _ (heap_lt HRB.out)).trans HRB.out)
          refine ⟨hS2, ?_⟩
          clear hS
          have hS := hS2
          clear hS2
          try simp only [List.setIfInBounds_toArray, List.set_cons_succ, List.set_cons_zero]
          refine held_take (i := 6) (t := 33) (v := (.tuple #[.agg #[.int .i64 y.n, .int .i64 (hiZ y.x), .int .u64 (loZ y.x), .int .i64 y.b.k, .int .i64 y.b.n, .string y.b.s], .int .i64 0])) (fuel := 5) rfl rfl (by kernel_rfl) (by kernel_rfl) (by kernel_rfl) (fun _ _ _ h => h) (.inl ⟨rfl, fun W hW => by obtain ⟨s0, sa⟩ := hW; simp [execOp, Act.eval, go_sem, s0, sa]⟩) hS ?_
          simp only [List.setIfInBounds_toArray, List.set_cons_succ, List.set_cons_zero]
          refine held_take (i := 7) (t := 40) (v := (.agg #[.int .i64 y.n, .int .i64 (hiZ y.x), .int .u64 (loZ y.x), .int .i64 y.b.k, .int .i64 y.b.n, .string y.b.s])) (fuel := 4) rfl rfl (by kernel_rfl) (by kernel_rfl) (by kernel_rfl) (fun _ _ _ h => h) (.inl ⟨rfl, fun W hW => by obtain ⟨s0, sa⟩ := hW; simp [execOp, Act.eval, go_sem, s0, sa]⟩) hS ?_
          simp only [List.setIfInBounds_toArray, List.set_cons_succ, List.set_cons_zero]
          refine held_take (i := 8) (t := 41) (v := (.int .i64 0)) (fuel := 3) rfl rfl (by kernel_rfl) (by kernel_rfl) (by kernel_rfl) (fun _ _ _ h => h) (.inl ⟨rfl, fun W hW => by obtain ⟨s0, sa⟩ := hW; simp [execOp, Act.eval, go_sem, s0, sa]⟩) hS ?_
          simp only [List.setIfInBounds_toArray, List.set_cons_succ, List.set_cons_zero]
          refine held_call (i := 9) rfl (by kernel_rfl) (by kernel_rfl) ?_
          -- w3 the world; behind it w4, g
          simp [Oper.wp, execOp, Act.eval, Act.put, go_sem]
          obtain ⟨w4, hw4⟩ : ∃ w4, World.alloc (w3) (.cells #[.int .i64 0, .int .i64 0, .int .u64 0, .int .i64 0, .int .i64 0, .string ⟨#[]⟩] 35) = w4 := ⟨_, rfl⟩
          obtain ⟨g, hg⟩ : ∃ g, (w3).heap.size = g := ⟨_, rfl⟩
          have HG := Lib.hid (show w.heap.size + 1 < g by rw [← hg]; exact heap_lt hS.1)
          have HOZ : Hid (w4.heap[g]? = some (.cells #[.int .i64 0, .int .i64 0, .int .u64 0, .int .i64 0, .int .i64 0, .string ⟨#[]⟩] 35)) := Lib.hid (by rw [← hw4, ← hg]; exact World.alloc_heap_new _ _)
          have hS2 : SQ 35 (w.heap.size + 1) x w4 := by rw [← hw4]; exact hS.below ((Below.refl _ _).alloc (Nat.le_refl _) _)
          replace HB := Lib.hid (show Below w.heap.size w w4 by rw [← hw4]; exact HB.out.alloc HB.out.size _)
          replace HRB := Lib.hid (show w4.heap[w.heap.size]? = some (.cells #[.int .i64 0, .int .i64 0, .int .u64 0, .int .i64 0, .int .i64 0, .string ⟨#[]⟩] 35) by rw [← hw4]; exact (Below.heap_alloc _ _ _ (heap_lt HRB.out)).trans HRB.out)
          rw [hw4]
          refine ⟨hS2, ?_⟩
          clear hS hw4
          have hS := hS2
          clear hS2
          try simp only [List.setIfInBounds_toArray, List.set_cons_succ, List.set_cons_zero]
          rw [hg]
          clear hg
          have hgl := HG.out
          obtain ⟨⟨o0, o1, o2, o3, o4, o5⟩, fo0, fo1, fo2, fo3, fo4, fo5⟩ := blk6 HOZ.out
          have hlo := heap_lt HOZ.out
          have nq : w.heap.size + 1 ≠ g := by omega
          have nq2 : g ≠ w.heap.size + 1 := by omega
          have nr : w.heap.size ≠ g := by omega
          refine held_call (i := 10) rfl (by kernel_rfl) (by kernel_rfl) ?_
          simp [Oper.wp, execOp, Act.eval, Act.put, go_sem, o0, o1, o2, o3, o4, o5, fo0, fo1, fo2, fo3, fo4, fo5, hlo]
          refine ⟨(((((hS.set nq 0 _).set nq 1 _).set nq 2 _).set nq 3 _).set nq 4 _).set nq 5 _, ?_⟩
          try simp only [List.setIfInBounds_toArray, List.set_cons_succ, List.set_cons_zero]
          refine held_call (i := 11) rfl (by kernel_rfl) (by kernel_rfl) ?_
          simp [Oper.wp, execOp, Act.eval, Act.put, go_sem]
          refine ⟨(((((hS.set nq 0 _).set nq 1 _).set nq 2 _).set nq 3 _).set nq 4 _).set nq 5 _, ?_⟩
          try simp only [List.setIfInBounds_toArray, List.set_cons_succ, List.set_cons_zero]
          refine wpAnyH_done (by kernel_rfl) ?_ 0
          have HG1 := Lib.hid (put6_same HOZ.out y)
          have HG2 := Lib.hid ((put6_other (q := g) y nq).trans hS.1)
          have HG3 := Lib.hid ((put6_other (q := g) y nr).trans HRB.out)
          have HG4 := Lib.hid (put6_below HB.out (show w.heap.size ≤ g by omega) y)
          obtain ⟨W5, hW5⟩ : ∃ z, put6 w4 g y = z := ⟨_, rfl⟩
          rw [hW5] at HG1 HG2 HG3 HG4
          unfold put6 at hW5
          rw [hW5]
          clear hW5 hS o0 o1 o2 o3 o4 o5 fo0 fo1 fo2 fo3 fo4 fo5 hlo HOZ HB HRB
          obtain ⟨⟨o0, o1, o2, o3, o4, o5⟩, _⟩ := blk6 HG1.out
          obtain ⟨⟨x0, x1, x2, x3, x4, x5⟩, fx0, fx1, fx2, fx3, fx4, fx5⟩ := blk6 HG2.out
          have hlx := heap_lt HG2.out
          have hlo := heap_lt HG1.out
          go_wp2
          go_roundw
          case rel => exact ⟨i + 1, y, rfl, by omega, HY, HNX, Lib.hid (put6_same HG2.out y), Lib.hid ((put6_other (q := w.heap.size + 1) y (show w.heap.size ≠ w.heap.size + 1 by omega)).trans HG3.out), Lib.hid (put6_below HG4.out (show w.heap.size ≤ w.heap.size + 1 by omega) y)⟩
          case measure => simp [intOf]; omega
        · skip
          -- w2 the world; behind it w4, g
          simp [Oper.wp, execOp, Act.eval, Act.put, go_sem]
          obtain ⟨w4, hw4⟩ : ∃ w4, World.alloc (w2) (.cells #[.int .i64 0, .int .i64 0, .int .u64 0, .int .i64 0, .int .i64 0, .string ⟨#[]⟩] 35) = w4 := ⟨_, rfl⟩
          obtain ⟨g, hg⟩ : ∃ g, (w2).heap.size = g := ⟨_, rfl⟩
          have HG := Lib.hid (show w.heap.size + 1 < g by rw [← hg]; exact heap_lt hS.1)
          have HOZ : Hid (w4.heap[g]? = some (.cells #[.int .i64 0, .int .i64 0, .int .u64 0, .int .i64 0, .int .i64 0, .string ⟨#[]⟩] 35)) := Lib.hid (by rw [← hw4, ← hg]; exact World.alloc_heap_new _ _)
          have hS2 : SQ 35 (w.heap.size + 1) x w4 := by rw [← hw4]; exact hS.below ((Below.refl _ _).alloc (Nat.le_refl _) _)
          replace HB := Lib.hid (show Below w.heap.size w w4 by rw [← hw4]; exact HB.out.alloc HB.out.size _)
          replace HRB := Lib.hid (show w4.heap[w.heap.size]? = some (.cells #[.int .i64 0, .int .i64 0, .int .u64 0, .int .i64 0, .int .i64 0, .string ⟨#[]⟩] 35) by rw [← hw4]; exact (Below.heap_alloc _ _ _ (heap_lt HRB.out)).trans HRB.out)
          rw [hw4]
          refine ⟨hS2, ?_⟩
          clear hS hw4
          have hS := hS2
          clear hS2
          try simp only [List.setIfInBounds_toArray, List.set_cons_succ, List.set_cons_zero]
          rw [hg]
          clear hg
          refine held_call (i := 5) rfl (by kernel_rfl) (by kernel_rfl) ?_
          simp [Oper.wp, execOp, Act.eval, Act.put, go_sem]
          refine (HAD.out _).mono ?_
          rintro e w3 ⟨rfl, hb3⟩
          have hS2 := hS.below hb3
          replace HB := Lib.hid (hop1 HB.out hb3)
          replace HRB := Lib.hid ((hb3.block _ (heap_lt HRB.out)).trans HRB.out)
          refine ⟨hS2, ?_⟩
          clear hS
          have hS := hS2
          clear hS2
          try simp only [List.setIfInBounds_toArray, List.set_cons_succ, List.set_cons_zero]
          refine held_take (i := 6) (t := 33) (v := (.tuple #[.agg #[.int .i64 y.n, .int .i64 (hiZ y.x), .int .u64 (loZ y.x), .int .i64 y.b.k, .int .i64 y.b.n, .string y.b.s], .int .i64 0])) (fuel := 4) rfl rfl (by kernel_rfl) (by kernel_rfl) (by kernel_rfl) (fun _ _ _ h => h) (.inl ⟨rfl, fun W hW => by obtain ⟨s0, sa⟩ := hW; simp [execOp, Act.eval, go_sem, s0, sa]⟩) hS ?_
          simp only [List.setIfInBounds_toArray, List.set_cons_succ, List.set_cons_zero]
          refine held_take (i := 7) (t := 40) (v := (.agg #[.int .i64 y.n, .int .i64 (hiZ y.x), .int .u64 (loZ y.x), .int .i64 y.b.k, .int .i64 y.b.n, .string y.b.s])) (fuel := 3) rfl rfl (by kernel_rfl) (by kernel_rfl) (by kernel_rfl) (fun _ _ _ h => h) (.inl ⟨rfl, fun W hW => by obtain ⟨s0, sa⟩ := hW; simp [execOp, Act.eval, go_sem, s0, sa]⟩) hS ?_
          simp only [List.setIfInBounds_toArray, List.set_cons_succ, List.set_cons_zero]
          refine held_take (i := 8) (t := 41) (v := (.int .i64 0)) (fuel := 2) rfl rfl (by kernel_rfl) (by kernel_rfl) (by kernel_rfl) (fun _ _ _ h => h) (.inl ⟨rfl, fun W hW => by obtain ⟨s0, sa⟩ := hW; simp [execOp, Act.eval, go_sem, s0, sa]⟩) hS ?_
          simp only [List.setIfInBounds_toArray, List.set_cons_succ, List.set_cons_zero]
          replace HOZ := Lib.hid ((hb3.block _ (heap_lt HOZ.out)).trans HOZ.out)
          have hgl := HG.out
          obtain ⟨⟨o0, o1, o2, o3, o4, o5⟩, fo0, fo1, fo2, fo3, fo4, fo5⟩ := blk6 HOZ.out
          have hlo := heap_lt HOZ.out
          have nq : w.heap.size + 1 ≠ g := by omega
          have nq2 : g ≠ w.heap.size + 1 := by omega
          have nr : w.heap.size ≠ g := by omega
          refine held_call (i := 10) rfl (by kernel_rfl) (by kernel_rfl) ?_
          simp [Oper.wp, execOp, Act.eval, Act.put, go_sem, o0, o1, o2, o3, o4, o5, fo0, fo1, fo2, fo3, fo4, fo5, hlo]
          refine ⟨(((((hS.set nq 0 _).set nq 1 _).set nq 2 _).set nq 3 _).set nq 4 _).set nq 5 _, ?_⟩
          try simp only [List.setIfInBounds_toArray, List.set_cons_succ, List.set_cons_zero]
          refine held_call (i := 11) rfl (by kernel_rfl) (by kernel_rfl) ?_
          simp [Oper.wp, execOp, Act.eval, Act.put, go_sem]
          refine ⟨(((((hS.set nq 0 _).set nq 1 _).set nq 2 _).set nq 3 _).set nq 4 _).set nq 5 _, ?_⟩
          try simp only [List.setIfInBounds_toArray, List.set_cons_succ, List.set_cons_zero]
          refine wpAnyH_done (by kernel_rfl) ?_ 0
          have HG1 := Lib.hid (put6_same HOZ.out y)
          have HG2 := Lib.hid ((put6_other (q := g) y nq).trans hS.1)
          have HG3 := Lib.hid ((put6_other (q := g) y nr).trans HRB.out)
          have HG4 := Lib.hid (put6_below HB.out (show w.heap.size ≤ g by omega) y)
          obtain ⟨W5, hW5⟩ : ∃ z, put6 w3 g y = z := ⟨_, rfl⟩
          rw [hW5] at HG1 HG2 HG3 HG4
          unfold put6 at hW5
          rw [hW5]
          clear hW5 hS o0 o1 o2 o3 o4 o5 fo0 fo1 fo2 fo3 fo4 fo5 hlo HOZ HB HRB
          obtain ⟨⟨o0, o1, o2, o3, o4, o5⟩, _⟩ := blk6 HG1.out
          obtain ⟨⟨x0, x1, x2, x3, x4, x5⟩, fx0, fx1, fx2, fx3, fx4, fx5⟩ := blk6 HG2.out
          have hlx := heap_lt HG2.out
          have hlo := heap_lt HG1.out
          go_wp2
          go_roundw
          case rel => exact ⟨i + 1, y, rfl, by omega, HY, HNX, Lib.hid (put6_same HG2.out y), Lib.hid ((put6_other (q := w.heap.size + 1) y (show w.heap.size ≠ w.heap.size + 1 by omega)).trans HG3.out), Lib.hid (put6_below HG4.out (show w.heap.size ≤ w.heap.size + 1 by omega) y)⟩
          case measure => simp [intOf]; omega
      · skip
        -- W2 the world; behind it w4, g
        simp [Oper.wp, execOp, Act.eval, Act.put, go_sem]
        obtain ⟨w4, hw4⟩ : ∃ w4, World.alloc (W2) (.cells #[.int .i64 0, .int .i64 0, .int .u64 0, .int .i64 0, .int .i64 0, .string ⟨#[]⟩] 35) = w4 := ⟨_, rfl⟩
        obtain ⟨g, hg⟩ : ∃ g, (W2).heap.size = g := ⟨_, rfl⟩
        have HG := Lib.hid (show w.heap.size + 1 < g by rw [← hg]; exact heap_lt hS.1)
        have HOZ : Hid (w4.heap[g]? = some (.cells #[.int .i64 0, .int .i64 0, .int .u64 0, .int .i64 0, .int .i64 0, .string ⟨#[]⟩] 35)) := Lib.hid (by rw [← hw4, ← hg]; exact World.alloc_heap_new _ _)
        have hS2 : SQ 35 (w.heap.size + 1) x w4 := by rw [← hw4]; exact hS.below ((Below.refl _ _).alloc (Nat.le_refl _) _)
        replace HB := Lib.hid (show Below w.heap.size w w4 by rw [← hw4]; exact HB.out.alloc HB.out.size _)
        replace HRB := Lib.hid (show w4.heap[w.heap.size]? = some (.cells #[.int .i64 0, .int .i64 0, .int .u64 0, .int .i64 0, .int .i64 0, .string ⟨#[]⟩] 35) by rw [← hw4]; exact (Below.heap_alloc _ _ _ (heap_lt HRB.out)).trans HRB.out)
        rw [hw4]
        refine ⟨hS2, ?_⟩
        clear hS hw4
        have hS := hS2
        clear hS2
        try simp only [List.setIfInBounds_toArray, List.set_cons_succ, List.set_cons_zero]
        rw [hg]
        clear hg
        refine held_call (i := 4) rfl (by kernel_rfl) (by kernel_rfl) ?_
        simp [Oper.wp, execOp, Act.eval, Act.put, go_sem]
        refine (HCL.out _).mono ?_
        rintro e w2 ⟨rfl, hb2⟩
        have hS2 := hS.below hb2
        replace HB := Lib.hid (hop1 HB.out hb2)
        replace HRB := Lib.hid ((hb2.block _ (heap_lt HRB.out)).trans HRB.out)
        refine ⟨hS2, ?_⟩
        clear hS
        have hS := hS2
        clear hS2
        try simp only [List.setIfInBounds_toArray, List.set_cons_succ, List.set_cons_zero]
        replace HOZ := Lib.hid ((hb2.block _ (heap_lt HOZ.out)).trans HOZ.out)
        refine held_call (i := 5) rfl (by kernel_rfl) (by kernel_rfl) ?_
        simp [Oper.wp, execOp, Act.eval, Act.put, go_sem]
        refine (HAD.out _).mono ?_
        rintro e w3 ⟨rfl, hb3⟩
        have hS2 := hS.below hb3
        replace HB := Lib.hid (hop1 HB.out hb3)
        replace HRB := Lib.hid ((hb3.block _ (heap_lt HRB.out)).trans HRB.out)
        refine ⟨hS2, ?_⟩
        clear hS
        have hS := hS2
        clear hS2
        try simp only [List.setIfInBounds_toArray, List.set_cons_succ, List.set_cons_zero]
        refine held_take (i := 6) (t := 33) (v := (.tuple #[.agg #[.int .i64 y.n, .int .i64 (hiZ y.x), .int .u64 (loZ y.x), .int .i64 y.b.k, .int .i64 y.b.n, .string y.b.s], .int .i64 0])) (fuel := 4) rfl rfl (by kernel_rfl) (by kernel_rfl) (by kernel_rfl) (fun _ _ _ h => h) (.inl ⟨rfl, fun W hW => by obtain ⟨s0, sa⟩ := hW; simp [execOp, Act.eval, go_sem, s0, sa]⟩) hS ?_
        simp only [List.setIfInBounds_toArray, List.set_cons_succ, List.set_cons_zero]
        refine held_take (i := 7) (t := 40) (v := (.agg #[.int .i64 y.n, .int .i64 (hiZ y.x), .int .u64 (loZ y.x), .int .i64 y.b.k, .int .i64 y.b.n, .string y.b.s])) (fuel := 3) rfl rfl (by kernel_rfl) (by kernel_rfl) (by kernel_rfl) (fun _ _ _ h => h) (.inl ⟨rfl, fun W hW => by obtain ⟨s0, sa⟩ := hW; simp [execOp, Act.eval, go_sem, s0, sa]⟩) hS ?_
        simp only [List.setIfInBounds_toArray, List.set_cons_succ, List.set_cons_zero]
        refine held_take (i := 8) (t := 41) (v := (.int .i64 0)) (fuel := 2) rfl rfl (by kernel_rfl) (by kernel_rfl) (by kernel_rfl) (fun _ _ _ h => h) (.inl ⟨rfl, fun W hW => by obtain ⟨s0, sa⟩ := hW; simp [execOp, Act.eval, go_sem, s0, sa]⟩) hS ?_
        simp only [List.setIfInBounds_toArray, List.set_cons_succ, List.set_cons_zero]
        replace HOZ := Lib.hid ((hb3.block _ (heap_lt HOZ.out)).trans HOZ.out)
        have hgl := HG.out
        obtain ⟨⟨o0, o1, o2, o3, o4, o5⟩, fo0, fo1, fo2, fo3, fo4, fo5⟩ := blk6 HOZ.out
        have hlo := heap_lt HOZ.out
        have nq : w.heap.size + 1 ≠ g := by omega
        have nq2 : g ≠ w.heap.size + 1 := by omega
        have nr : w.heap.size ≠ g := by omega
        refine held_call (i := 10) rfl (by kernel_rfl) (by kernel_rfl) ?_
        simp [Oper.wp, execOp, Act.eval, Act.put, go_sem, o0, o1, o2, o3, o4, o5, fo0, fo1, fo2, fo3, fo4, fo5, hlo]
        refine ⟨(((((hS.set nq 0 _).set nq 1 _).set nq 2 _).set nq 3 _).set nq 4 _).set nq 5 _, ?_⟩
        try simp only [List.setIfInBounds_toArray, List.set_cons_succ, List.set_cons_zero]
        refine held_call (i := 11) rfl (by kernel_rfl) (by kernel_rfl) ?_
        simp [Oper.wp, execOp, Act.eval, Act.put, go_sem]
        refine ⟨(((((hS.set nq 0 _).set nq 1 _).set nq 2 _).set nq 3 _).set nq 4 _).set nq 5 _, ?_⟩
        try simp only [List.setIfInBounds_toArray, List.set_cons_succ, List.set_cons_zero]
        refine wpAnyH_done (by kernel_rfl) ?_ 0
        have HG1 := Lib.hid (put6_same HOZ.out y)
        have HG2 := Lib.hid ((put6_other (q := g) y nq).trans hS.1)
        have HG3 := Lib.hid ((put6_other (q := g) y nr).trans HRB.out)
        have HG4 := Lib.hid (put6_below HB.out (show w.heap.size ≤ g by omega) y)
        obtain ⟨W5, hW5⟩ : ∃ z, put6 w3 g y = z := ⟨_, rfl⟩
        rw [hW5] at HG1 HG2 HG3 HG4
        unfold put6 at hW5
        rw [hW5]
        clear hW5 hS o0 o1 o2 o3 o4 o5 fo0 fo1 fo2 fo3 fo4 fo5 hlo HOZ HB HRB
        obtain ⟨⟨o0, o1, o2, o3, o4, o5⟩, _⟩ := blk6 HG1.out
        obtain ⟨⟨x0, x1, x2, x3, x4, x5⟩, fx0, fx1, fx2, fx3, fx4, fx5⟩ := blk6 HG2.out
        have hlx := heap_lt HG2.out
        have hlo := heap_lt HG1.out
        go_wp2
        go_roundw
        case rel => exact ⟨i + 1, y, rfl, by omega, HY, HNX, Lib.hid (put6_same HG2.out y), Lib.hid ((put6_other (q := w.heap.size + 1) y (show w.heap.size ≠ w.heap.size + 1 by omega)).trans HG3.out), Lib.hid (put6_below HG4.out (show w.heap.size ≤ w.heap.size + 1 by omega) y)⟩
        case measure => simp [intOf]; omega
    · have HD := Lib.hid (show x = r by
        have h : i = l.length := by rw [← HL.out]; omega
        rw [← HR.out, HF.out, h, List.drop_length]
        rfl)
      obtain ⟨⟨x0, x1, x2, x3, x4, x5⟩, _⟩ := blk6 HX.out
      obtain ⟨⟨r0, r1, r2, r3, r4, r5⟩, fr0, fr1, fr2, fr3, fr4, fr5⟩ := blk6 HRB.out
      have hlr := heap_lt HRB.out
      have hlx := heap_lt HX.out
      go_wp2
      refine bodyPost_ret (res2 rfl (by rfl) (set6 HRB.out _ _ _ _ _ _) Try.underlying35 (by kernel_rfl)) rfl ⟨?_, below6 HB.out (Nat.le_refl _) _ _ _ _ _ _⟩
      rw [← HD.out]
      rfl
end Go.Proofs.Ytihgcfokenabgaa
