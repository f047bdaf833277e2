/- Rows of the call's own, the copy of a row, and the iterator over it. -/
import Derived.Test.YtnginemabkecmaaDoorValWith
import Derived.RangeFuncNested
import Derived.RangeFuncBound
import Derived.RangeFuncCalls
import Derived.RangeFuncLeaves
import Derived.Shelf.Abstract
import Derived.Shelf.RegionOpen
import Derived.OwnWalkIn
import Derived.TacticsInMore
import Derived.LoopNIn
import Derived.LoopIn
import Derived.Lib.BufferMore
namespace Go.Proofs.YtnginemabkecmaaDoor
attribute [local go_sem] Oper.semAt_some
open Go.ChangeShapes Go.WideShapes Go.ChangeAt Go.RowKit Go.Shelf
set_option linter.unusedVariables false

def V.cells (v : V) : List Value := [.int .i64 v.k, .int .i64 v.n, .string v.s]
def cellsOf (l : List V) : List Value := l.flatMap V.cells
theorem cellsOf_length (l : List V) : (cellsOf l).length = l.length * 3 := by
  induction l with
  | nil => rfl
  | cons v l ih => simp [cellsOf, V.cells] at ih ⊢; omega
theorem cellsOf_append (a b : List V) : cellsOf (a ++ b) = cellsOf a ++ cellsOf b := by simp [cellsOf]
theorem cells_at : ∀ (l : List V) (q : Nat) (h : q < l.length), (cellsOf l)[q * 3]? = some (.int .i64 l[q].k) ∧ (cellsOf l)[q * 3 + 1]? = some (.int .i64 l[q].n) ∧ (cellsOf l)[q * 3 + 2]? = some (.string l[q].s)
  | [], q, h => by simp at h
  | v :: l, 0, h => by simp [cellsOf, V.cells]
  | v :: l, q + 1, h => by
    have ih := cells_at l q (by simpa using h)
    have e : cellsOf (v :: l) = [.int .i64 v.k, .int .i64 v.n, .string v.s] ++ cellsOf l := rfl
    have hs : ∀ j, ([Value.int .i64 v.k, .int .i64 v.n, .string v.s] ++ cellsOf l)[j + 3]? = (cellsOf l)[j]? := fun j => by
      rw [List.getElem?_append_right (by simp)]
      simp
    rw [e, show (q + 1) * 3 = q * 3 + 3 by omega, show q * 3 + 3 + 1 = q * 3 + 1 + 3 by omega, show q * 3 + 3 + 2 = q * 3 + 2 + 3 by omega, hs, hs, hs]
    simpa using ih
theorem cells_one (l : List V) : ∀ u ∈ cellsOf l, u.oneCell' = true := by
  intro u hu
  simp only [cellsOf, List.mem_flatMap, V.cells] at hu
  obtain ⟨v, _, hv⟩ := hu
  simp at hv
  rcases hv with rfl | rfl | rfl <;> rfl
theorem add_at (b off j : Nat) : (⟨b, off, none⟩ : Addr).add j = ⟨b, off + j, none⟩ := by unfold Addr.add; split <;> simp_all

theorem row3_of_own {w : World} {base : Nat} {A : Option Addr} {n c : Nat} {l : List V} (h : w.ownsRow base 23 3 (.slice A n c) n (cellsOf l)) : n = l.length ∧ Row3 w w.heap.size A l := by
  have hl := h.1
  rw [cellsOf_length] at hl
  have hn : n = l.length := by omega
  refine ⟨hn, fun j hj => ?_⟩
  obtain ⟨g, cap, hv, _, hlt⟩ := h.form (by omega)
  injection hv with h1 _ _
  subst h1
  obtain ⟨e0, e1, e2⟩ := cells_at l j hj
  have hc := h.cells (g := g) rfl
  have c0 := hc _ _ e0
  have c1 := hc _ _ e1
  have c2 := hc _ _ e2
  rw [add_at] at c0 c1 c2
  exact ⟨g, 0, rfl, hlt, c0, by rw [Nat.add_assoc]; exact c1, by rw [Nat.add_assoc]; exact c2⟩
theorem cells_of_row3 {w : World} {B : Nat} {b off : Nat} {l : List V} (h : Row3 w B (some ⟨b, off, none⟩) l) : ∀ j u, (cellsOf l)[j]? = some u → w.cell? ((⟨b, off, none⟩ : Addr).add j) = some u := by
  intro j u hu
  have hj : j < l.length * 3 := by rw [← cellsOf_length]; exact (List.getElem?_eq_some_iff.1 hu).1
  obtain ⟨b', off', e, _, c0, c1, c2⟩ := h (j / 3) (by omega)
  simp only [Option.some.injEq, Addr.mk.injEq, and_true] at e
  obtain ⟨rfl, rfl⟩ := e
  obtain ⟨e0, e1, e2⟩ := cells_at l (j / 3) (by omega)
  rw [add_at]
  rcases (show j = j / 3 * 3 ∨ j = j / 3 * 3 + 1 ∨ j = j / 3 * 3 + 2 by omega) with h | h | h
  · rw [← h] at e0 c0; rw [e0] at hu; injection hu with hu; subst hu; exact c0
  · rw [← h] at e1; rw [Nat.add_assoc, ← h] at c1; rw [e1] at hu; injection hu with hu; subst hu; exact c1
  · rw [← h] at e2; rw [Nat.add_assoc, ← h] at c2; rw [e2] at hu; injection hu with hu; subst hu; exact c2

theorem infoVal : (Tryd.prog.info? 23).map (fun i => (i.zero, i.size, i.bytes)) = some (some (Value.agg #[.int .i64 0, .int .i64 0, .string ⟨#[]⟩]), 3, 32) := by kernel_rfl

theorem Row3.none_ {w : World} {B : Nat} {l : List V} (h : Row3 w B none l) : l = [] := by
  cases l with
  | nil => rfl
  | cons v l =>
    obtain ⟨b, off, e, _⟩ := h 0 (by simp)
    cases e
theorem Row3.some_ {w : World} {B : Nat} {a : Addr} {l : List V} (h : Row3 w B (some a) l) : ∀ j u, (cellsOf l)[j]? = some u → w.cell? (a.add j) = some u := by
  cases l with
  | nil => intro j u hu; simp [cellsOf] at hu
  | cons v l =>
    obtain ⟨b, off, e, _⟩ := h 0 (by simp)
    injection e with e
    subst e
    exact cells_of_row3 h

/-- What the copy of a row is. -/
def CopyPost (l : List V) (w : World) (e : Ending) (w' : World) : Prop :=
  ∃ A c, e = .returned (.slice A l.length c) ∧ w'.ownsRow w.heap.size 23 3 (.slice A l.length c) l.length (cellsOf l) ∧ Below w.heap.size w w'

set_option maxHeartbeats 1000000 in
theorem clone_any (l : List V) (len c : Nat) (A : Option Addr) (w : World) (hl : len = l.length) (hm : len ≤ 65536) (hr : Row3 w w.heap.size A l) :
    Calls Tryd.prog 37 #[.slice A len c] w (CopyPost l w) := by
  cases A with
  | none =>
    obtain rfl : l = [] := hr.none_
    obtain rfl : len = 0 := hl
    clear hr
    have hnil : ∀ W, (binOp .eql 24 (.slice none 0 c) (.slice none 0 0)).run Tryd.prog W = .ok (.bool true) W := fun W => Lib.run_eql_slice_nil_nil W _ _ Tryd.underlying24
    go_enter Tryd.func37, Tryd.ntmps37
    go_wp2
    go_ret
    exact ⟨none, 0, rfl, World.ownsRow_nil _ _ _ _, Below.refl _ _⟩
  | some a =>
    have HL := Lib.hid hl
    have HR := Lib.hid hr
    clear hr hl
    obtain ⟨i0, hi, hz0, hz1, hz2⟩ := info_parts infoVal
    have HI := Lib.hid hi
    have HZ0 := Lib.hid hz0
    have HZ1 := Lib.hid hz1
    have HZ2 := Lib.hid hz2
    clear hi hz0 hz1 hz2
    have hnil : ∀ W, (binOp .eql 24 (.slice (some a) len c) (.slice none 0 0)).run Tryd.prog W = .ok (.bool false) W := fun W => Lib.run_eql_slice_some_nil W _ _ _ Tryd.underlying24
    go_enter Tryd.func37, Tryd.ntmps37
    go_wp2_with (at_builtin; go_loud (refine wpList_append_own_at _ rfl _ _ 24 rfl w.heap.size 23 i0 _ 3 32 Tryd.underlying24 HI.out HZ0.out HZ1.out HZ2.out rfl (by decide) _ 0 [] rfl (World.ownsRow_made w #[] 0 (Nat.le_refl _) (by decide) rfl) a len c (cellsOf l) rfl (by rw [cellsOf_length, HL.out]) ((HR.out.below ((Below.refl _ w).alloc (Nat.le_refl _) _)).some_) (cells_one l) (by unfold maxLen; omega) (by omega) (by simp) ?_); intro v1 w1 hown hg _ _; have HO := Lib.hid hown; have HG := Lib.hid hg; clear hown hg)
    go_ret
    have hn := HL.out
    subst hn
    obtain ⟨A', c', rfl⟩ := own_slice HO.out
    refine ⟨A', c', by simp, by simpa using HO.out, ?_⟩
    exact ((Below.refl _ w).alloc (Nat.le_refl _) _).grown HG.out (by simp) (fun k e => by cases e; exact Nat.le_refl _)

/-- What the iterator's maker hands back. -/
def AllPost (l : List V) (w : World) (e : Ending) (w' : World) : Prop :=
  ∃ A c, e = .returned (.func (.func 38) #[] #[.pointer (some ⟨w'.heap.size - 1, 0, none⟩)]) ∧ w.heap.size + 1 ≤ w'.heap.size ∧ Boxed w' (w'.heap.size - 1) 24 (.slice A l.length c) ∧
    Row3 w' (w'.heap.size - 1) A l ∧ (∀ a, A = some a → w.heap.size ≤ a.block) ∧ Below w.heap.size w w'
theorem all_any (l : List V) (len c : Nat) (A : Option Addr) (w : World) (hl : len = l.length) (hm : len ≤ 65536) (hr : Row3 w w.heap.size A l) :
    Calls Tryd.prog 29 #[.slice A len c] w (AllPost l w) := by
  have H := Lib.hid (clone_any l len c A w hl hm hr)
  clear hl hr
  go_enter Tryd.func29, Tryd.ntmps29
  go_wp2_with (go_at_call 37; refine H.out.mono ?_; rintro e w1 ⟨A1, c1, rfl, ho, hb⟩; have HO := Lib.hid ho; have HB := Lib.hid hb; clear ho hb)
  go_ret
  have hr1 := (row3_of_own HO.out).2
  refine ⟨A1, c1, by simp, by have := HB.out.size; simp; omega, by simp; exact Boxed.new _ _ _, ?_, fun a ha => (HO.out.lt _ (by rw [ha]; rfl)).1, HB.out.alloc HB.out.size _⟩
  simp
  exact hr1.below ((Below.refl _ _).alloc (Nat.le_refl _) _)

/-- Below D nothing has turned but block g. -/
structure Spare (g D : Nat) (w w' : World) : Prop where
  os : w'.os = w.os
  tape : w'.tape = w.tape
  output : w'.output = w.output
  size : w.heap.size ≤ w'.heap.size
  block : ∀ k : Nat, k < D → k ≠ g → w'.heap[k]? = w.heap[k]?
theorem Spare.refl (g D : Nat) (w : World) : Spare g D w w := ⟨rfl, rfl, rfl, Nat.le_refl _, fun _ _ _ => rfl⟩
theorem Spare.trans {g D : Nat} {a b c : World} (h : Spare g D a b) (k : Spare g D b c) : Spare g D a c :=
  ⟨k.os.trans h.os, k.tape.trans h.tape, k.output.trans h.output, Nat.le_trans h.size k.size, fun i h1 h2 => (k.block i h1 h2).trans (h.block i h1 h2)⟩
theorem Spare.of_below {g D : Nat} {w w' : World} (h : Below D w w') : Spare g D w w' := ⟨h.os, h.tape, h.output, h.size, fun k h1 _ => h.block k h1⟩
theorem Spare.alloc {g D : Nat} {a w : World} (h : Spare g D a w) (hD : D ≤ w.heap.size) (o : Obj) : Spare g D a (w.alloc o) := h.trans (.of_below ((Below.refl D w).alloc hD o))
theorem Spare.set {g D : Nat} {a w : World} (h : Spare g D a w) (u : Value) : Spare g D a (w.setCell ⟨g, 0, none⟩ u) :=
  h.trans ⟨rfl, rfl, rfl, by simp [World.setCell], fun k _ hk => Below.heap_setCell w _ u k hk⟩
theorem Spare.to_below {g D B : Nat} {a b c : World} (h : Below B a b) (k : Spare g D b c) (hg : B ≤ g) (hD : B ≤ D) : Below B a c :=
  h.trans ⟨k.os, k.tape, k.output, k.size, fun i hi => k.block i (by omega) (by omega)⟩
theorem Spare.putObj {g D : Nat} {w : World} (W : World) (i : Nat) (o o' : Obj) (hD : D ≤ w.heap.size) (hi : w.heap.size ≤ i) (h : W.heap[i]? = some o) (_ : o.isCells = false) (_ : o.isWalk = false) : Spare g D W (W.putObj i o') :=
  ⟨rfl, rfl, rfl, by simp, fun k hk _ => World.putObj_heap_other (by omega)⟩
theorem Row3.spare {g D : Nat} {w w' : World} {A : Option Addr} {l : List V} (h : Row3 w D A l) (hg : ∀ a, A = some a → a.block ≠ g) (hs : Spare g D w w') : Row3 w' D A l := by
  intro j hj
  obtain ⟨b, off, e, hlt, h0, h1, h2⟩ := h j hj
  have hb := hs.block b hlt (hg _ e)
  exact ⟨b, off, e, hlt, (World.cell?_of_block (a := ⟨b, _, none⟩) hb).trans h0, (World.cell?_of_block (a := ⟨b, _, none⟩) hb).trans h1, (World.cell?_of_block (a := ⟨b, _, none⟩) hb).trans h2⟩

def upto {α : Type} (f : Nat → α) (k : Nat) : List α := (List.range k).map f
theorem upto_succ {α : Type} (f : Nat → α) (k : Nat) : upto f (k + 1) = upto f k ++ [f k] := by simp [upto, List.range_succ]
theorem upto_length {α : Type} (f : Nat → α) (k : Nat) : (upto f k).length = k := by simp [upto]
def noV : V := ⟨0, 0, mt⟩
theorem getD_at {l : List V} {k : Nat} (h : k < l.length) : l.getD k noV = l[k] := by simp [List.getD, List.getElem?_eq_getElem h]

abbrev encs (x : Nat × V) : Array Value := #[.int .i64 (x.1 : Int), .agg #[.int .i64 x.2.k, .int .i64 x.2.n, .string x.2.s]]

set_option maxRecDepth 100000 in
set_option maxHeartbeats 2000000 in
theorem iter_in {α : Type} (val : α → Nat × V) (f : Nat → α) (F : Fence) (n : Nat) (hFf : F.fn 38) (hro : F.round = none) (hn : 1 ≤ n) (L Bs g D len c : Nat) (A : Option Addr) (l : List V) (hl : len = l.length) (hm : len ≤ 65536) (hf : ∀ (k : Nat) (h : k < l.length), val (f k) = (k, l[k])) (J Jx : List α → World → Prop)
    (W : World) (hJ : AbidesFrom W.heap.size J)
    (hY : ∀ pre x W1, J pre W1 → pre.length < len → YieldAt F (n - 1) Tryd.prog L (encs (val x)) W1 fun e W' =>
      (e = .returned (.bool true) ∧ J (pre ++ [x]) W' ∧ Spare g D W1 W') ∨ (e = .returned (.bool false) ∧ Jx (pre ++ [x]) W'))
    (hn0 : D ≤ W.heap.size) (hBs : W.cell? ⟨Bs, 0, none⟩ = some (.slice A len c)) (hr : Row3 W D A l) (hg : ∀ a, A = some a → a.block ≠ g) (h0 : J [] W) :
    CallsIn F n Tryd.prog 38 #[.func (.yield L) #[] #[], .pointer (some ⟨Bs, 0, none⟩)] W fun e W' => (∃ v, e = .returned v) ∧
      ((∃ ys, ys = upto f len ∧ J ys W') ∨ (∃ pre, (∃ k, k ≤ len ∧ pre = upto f k) ∧ Jx pre W')) := by
  have HL := Lib.hid hl
  have HR := Lib.hid hr
  have HJ := Lib.hid hJ
  have HF := Lib.hid hf
  have HG := Lib.hid hg
  have HY := Lib.hid hY
  clear hl hr hJ hY hg hf
  refine callsIn_of_wp Tryd.func38 rfl hFf ?_ hro
  simp only [Tryd.ntmps38, List.size_toArray, List.length_cons, List.length_nil, Nat.reduceAdd, Nat.reduceSub, Array.replicate_succ, Array.replicate_zero, List.push_toArray, List.append_toArray, List.nil_append, List.cons_append]
  gi_wp2
  gi_loopw [7] (fun i wr => ∃ k : Nat, k ≤ len ∧ i = .int .i64 k ∧ J (upto f k) wr ∧ Spare g D W wr)
    (fun i _ => len - (intOf i).toNat)
  case atStart => exact ⟨0, Nat.zero_le _, rfl, h0, Spare.refl _ _ _⟩
  case round =>
    obtain ⟨k, hk, rfl, hJs, hnx⟩ := hrel
    by_cases hlt : k < len
    · have hkl : k < l.length := by rw [← HL.out]; exact hlt
      obtain ⟨b, off, rfl, hB, c0, c1, c2⟩ := (HR.out.spare HG.out hnx) k hkl
      obtain ⟨v, HV⟩ : ∃ v, Hid (l[k] = v) := ⟨_, Lib.hid rfl⟩
      rw [HV.out] at c0 c1 c2
      have hJ2 : J (upto f k) (wr.alloc (.cells #[.int .i64 v.k, .int .i64 v.n, .string v.s] 23)) := HJ.out _ _ _ none hJs (World.grownBy_alloc _ _ none) (fun r e => by cases e)
      have HE := Lib.hid (show val (f k) = (k, v) by rw [HF.out k hkl, HV.out])
      obtain ⟨fn, tmps, assign, body, hy, hR⟩ := HY.out _ (f k) _ hJ2 (by rw [upto_length]; exact hlt)
      rw [HE.out] at hy
      dsimp only [encs] at hy
      have HP := Lib.hid (show upto f (k + 1) = upto f k ++ [f k] from upto_succ f k)
      clear hJ2 hJs
      gi_wp2
      refine hR.mono ?_
      rintro e W3 (⟨rfl, hJ3, hk3⟩ | ⟨rfl, hJx3⟩)
      · rw [← HP.out] at hJ3
        gi_wp2
        go_roundw
        case rel => exact ⟨k + 1, by omega, by simp, hJ3, (hnx.alloc (Nat.le_trans hn0 hnx.size) _).trans hk3⟩
        case measure => simp [intOf]; omega
      · rw [← HP.out] at hJx3
        gi_wp2
        refine bodyPost_ret (results_none rfl _ _ _) rfl ?_
        exact ⟨⟨_, rfl⟩, .inr ⟨_, ⟨k + 1, by omega, rfl⟩, hJx3⟩⟩
    · obtain rfl : k = len := by omega
      gi_wp2
      go_end0
      exact ⟨⟨_, rfl⟩, .inl ⟨_, rfl, hJs⟩⟩

theorem all_stops {α : Type} (val : α → Nat × V) (f : Nat → α) (n : Nat) (hn : 1 ≤ n) (Bs g D c : Nat) (A : Option Addr) (l : List V) (hm : l.length ≤ 65536) (hf : ∀ (k : Nat) (h : k < l.length), val (f k) = (k, l[k])) (w : World) (hBs : Bs < w.heap.size) (hD : D ≤ w.heap.size) (hc : Boxed w Bs 24 (.slice A l.length c)) (hr : Row3 w D A l) (hg : ∀ a, A = some a → a.block ≠ g) :
    SeqStopsK Fence.wide n Tryd.prog 38 #[.pointer (some ⟨Bs, 0, none⟩)] (fun x => encs (val x)) (Spare g D) (fun ys => ys = upto f l.length) (fun pre => ∃ k, k ≤ l.length ∧ pre = upto f k) l.length w := fun L J Jx W hW hJ _ hY h0 =>
  iter_in val f Fence.wide n trivial rfl hn L Bs g D l.length c A l rfl hm hf J Jx W hJ hY (Nat.le_trans hD hW.size) ((hW.cell (p := ⟨Bs, 0, none⟩) hBs).trans hc.cell) (hr.below (hW.mono hD)) hg h0
end Go.Proofs.YtnginemabkecmaaDoor
