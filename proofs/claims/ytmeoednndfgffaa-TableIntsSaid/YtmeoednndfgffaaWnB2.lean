/- What a seat needs of several texts. -/
import Derived.Test.YtmeoednndfgffaaMem
import Derived.Test.YtmeoednndfgffaaRegAll
import Derived.Test.YtmeoednndfgffaaRows
import Derived.WalkKit
import Derived.WalkLawsBesides
import Derived.WalkSpells
import Derived.ProofKit
import Derived.Below
import Derived.Outline
import Derived.Lib.Hide
import Derived.BigQuiet
import Derived.Deep.QuietTactic
import Derived.Deep.RegionWith
import Derived.Deep.RegionHeld3
import Derived.LoopTactic
import Derived.Maps.AppendAt
import Derived.Deep.AppendLies
import Derived.Deep.Onto
import Derived.OwnWalk
import Derived.RangeFuncBox
import Derived.RangeFuncNested
import Derived.RangeFuncBound
import Derived.RangeFuncCalls
import Derived.RangeFuncLeaves
import Derived.Sort.QuietTacIn
import Derived.LoopNIn
import Derived.OrdersHeld
import Derived.KernelRfl
import Derived.OrdersIn
import Derived.OwnWalkIn
/- From WnB. -/
namespace Go.Proofs.Ytmeoednndfgffaa
open Go.ChangeShapes Go.WideShapes Go.ChangeAt Go.RowKit
open Go.Lib (byteCells byteCells_length byteCells_append strCells)
set_option linter.unusedVariables false
end Go.Proofs.Ytmeoednndfgffaa
namespace Go.Proofs.Ytmeoednndfgffaa
open Go Go.RowKit
set_option linter.unusedVariables false
variable {F : Fence} {n : Nat} {P : Program}
end Go.Proofs.Ytmeoednndfgffaa
namespace Go.Proofs.Ytmeoednndfgffaa
open Go Go.RowKit
set_option linter.unusedVariables false
variable {F : Fence} {n : Nat} {P : Program}
end Go.Proofs.Ytmeoednndfgffaa
namespace Go.Proofs.Ytmeoednndfgffaa
attribute [local go_sem] Oper.semAt_some
open Go Go.RowKit
set_option linter.unusedVariables false
end Go.Proofs.Ytmeoednndfgffaa
namespace Go.Proofs.Ytmeoednndfgffaa
open Go Go.RowKit
set_option linter.unusedVariables false
variable {F : Fence} {n : Nat} {P : Program}
end Go.Proofs.Ytmeoednndfgffaa
namespace Go.Proofs.Ytmeoednndfgffaa
open Go Go.RowKit
set_option linter.unusedVariables false
variable {F : Fence} {n : Nat} {P : Program}
end Go.Proofs.Ytmeoednndfgffaa
namespace Go.Proofs.Ytmeoednndfgffaa
open Go
end Go.Proofs.Ytmeoednndfgffaa
namespace Go.Proofs.Ytmeoednndfgffaa
open Go
end Go.Proofs.Ytmeoednndfgffaa
namespace Go.Proofs.Ytmeoednndfgffaa
open Go Go.RowKit
end Go.Proofs.Ytmeoednndfgffaa
namespace Go.Proofs.Ytmeoednndfgffaa
open Go
end Go.Proofs.Ytmeoednndfgffaa
namespace Go.Proofs.Ytmeoednndfgffaa
attribute [local go_sem] Oper.semAt_some
open Go Go.ChangeShapes Go.WideShapes Go.ChangeAt Go.RowKit
set_option linter.unusedVariables false
theorem below_of_grown {u v : World} {B : Nat} {row : Option Nat} (h : u.grownBy v row) (hr : ∀ r, row = some r → B ≤ r) (hB : B ≤ u.heap.size) : Below B u v :=
  ⟨h.os, h.tape, h.output, h.size, fun k hk => h.block k (by omega) (by intro e; have := hr k e.symm; omega)⟩
theorem room_wide (k : Nat) : Fence.wide.room k := fun d h => by cases h
theorem RoundIn.deep {m m' : Nat} {P : Program} {l : Nat} {f : FuncId} {tmps : Array Value} {assign body : Code} {w : World} {R : Ending → World → Prop} (h : RoundIn Fence.wide m P l f tmps assign body w R) : RoundIn Fence.wide m' P l f tmps assign body w R := ⟨h.1, fun c cs _ => h.2 c cs (room_wide _)⟩
theorem YieldAt.deep {m m' : Nat} {P : Program} {l : Nat} {args : Array Value} {w : World} {R : Ending → World → Prop} (h : YieldAt Fence.wide m P l args w R) : YieldAt Fence.wide m' P l args w R := by
  obtain ⟨fn, tmps, assign, body, h1, h2⟩ := h
  exact ⟨fn, tmps, assign, body, h1, RoundIn.deep h2⟩
theorem SeqAt.deep {α : Type} {n n' : Nat} {P : Program} {g : Nat} {lb : Array Value} {encs : α → Array Value} {Y : List α → α → World → Prop} {Kp : World → World → Prop} {done : List α → Prop} {W : World}
    (h : SeqAt Fence.wide n P g lb encs Y Kp done W) : SeqAt Fence.wide n' P g lb encs Y Kp done W := fun l J Jx hJ hJx hY h0 =>
  callsIn_wide.2 (callsIn_wide.1 (h l J Jx hJ hJx (fun pre x U h1 h2 => YieldAt.deep (hY pre x U h1 h2)) h0))
theorem two_ways {e : Ending} {A B : Prop} (h : (e = .returned (.bool true) ∧ A) ∨ (e = .returned (.bool false) ∧ B)) : ∃ hv, e = .returned (.bool hv) ∧ ((hv = true ∧ A) ∨ (hv = false ∧ B)) :=
  h.elim (fun ⟨a, b⟩ => ⟨true, a, .inl ⟨rfl, b⟩⟩) (fun ⟨a, b⟩ => ⟨false, a, .inr ⟨rfl, b⟩⟩)
section
variable {F : Fence} {n : Nat} {P : Program}
/-- As range_nest; a round is told that the loop's own two blocks lie there. -/
theorem range_nest2 {α : Type} {g : Operand} {ps : Array Tmp} {assign body : Code} {Q : Exit → Act → World → Prop} {a : Act} {w : World}
    (hro : F.round = none) (h1 : 1 ≤ n) {gf : Nat} {lb : Array Value} (hg : a.eval g = .func (.func gf) #[] lb) (hFg : F.fn gf) (eg : ∀ args w, (callFunc gf args).run P w = .ok (.enter gf args) w)
    {encs : α → Array Value} {Y : List α → α → World → Prop} {Kp : World → World → Prop} {done : List α → Prop} (hseq : ∀ W1, w.grownBy W1 none → W1.heap.size = w.heap.size + 2 → SeqAt F (n - 1) P gf lb encs Y Kp done W1) (hps : ∀ x, (encs x).size = ps.size)
    (hKt : ∀ {A B C : World}, Kp A B → Kp B C → Kp A C) (hKg : ∀ {A B : World}, A.grownBy B none → Kp A B) (hKr : ∀ (A : World) (o : Obj), Kp A (A.putObj (w.heap.size + 1) o))
    (I : List α → World → Prop) (Ix : Code → List α → World → Prop) (hI : LoopOwn w.heap.size I) (hIx : ∀ c, LoopOwn w.heap.size (Ix c)) (hY : ∀ pre, LoopOwn w.heap.size (Y pre)) (h0 : ∀ W1, w.grownBy W1 none → W1.heap.size = w.heap.size + 2 → I [] W1) (V₁ : α → World → World) (hV : ∀ (x : α) (W : World), W.grownBy (V₁ x W) none) (At : α → World → World → Prop) (hAt : ∀ x W r r', Book w.heap.size r W → At x W ((V₁ x W).putObj (w.heap.size + 1) (.loop r'))) (a₁ : α → World → Act)
    (hassign : ∀ (l : Nat) (x : α) (W : World) (K : Act → World → Prop), K (a₁ x W) (V₁ x W) →
      assign.wpIn (F.inRound l) (n - 1 - 1) P (Exit.then K (fun _ _ _ => False)) { tmps := (ps.zip (encs x)).foldl (fun t (p, v) => t.setIfInBounds p v) a.tmps, defers := [] } W)
    (hbody : ∀ (l : Nat) (pre : List α) (x : α) (U W : World), I pre W → Y pre x W → At x U W → (∃ r, Book w.heap.size r W) → body.wpIn (F.inRound l) (n - 1 - 1) P (nestPost w.heap.size Kp I Ix (pre ++ [x]) W) (a₁ x U) W)
    (hdone : ∀ (xs : List α) (W : World), done xs → I xs W → W.heap[w.heap.size]? = some (.deferred (some [])) → Q .normal { a with defers := { target := .collected w.heap.size, args := #[] } :: a.defers } W)
    (hstop : ∀ (c : Code) (pre : List α) (W : World), Ix c pre W → W.heap[w.heap.size]? = some (.deferred (some [])) → c.wpIn F n P Q { a with defers := { target := .collected w.heap.size, args := #[] } :: a.defers } W) :
    (Code.rangeFunc g ps assign body).wpIn F n P Q a w := by
  refine wpIn_rangeFunc fun fn hfn => ?_
  let rc : LoopState → Option Code → Loop := fun st pe => { state := st, pending := pe, fn, tmps := a.tmps, params := ps, assign, body, defers := w.heap.size }
  let W1 := (w.alloc (.deferred (some []))).alloc (.loop (rc .ready none))
  have hgrow : w.grownBy W1 none := by
    have g1 := World.grownBy_alloc w (.deferred (some [])) none
    have g2 := World.grownBy_alloc (w.alloc (.deferred (some []))) (.loop (rc .ready none)) none
    exact ⟨g2.os.trans g1.os, g2.tape.trans g1.tape, g2.output.trans g1.output, Nat.le_trans g1.size g2.size, fun k hk hn => (g2.block k (Nat.lt_of_lt_of_le hk g1.size) hn).trans (g1.block k hk hn)⟩
  have hbook : Book w.heap.size (rc .ready none) W1 := by
    constructor
    · have := World.alloc_heap_new (w.alloc (.deferred (some []))) (.loop (rc .ready none))
      rwa [World.size_alloc] at this
    · exact (Below.heap_alloc _ _ _ (by simp)).trans (World.alloc_heap_new w _)
  refine ⟨w.heap.size + 1, [{ target := .collected w.heap.size, args := #[] }], W1, { target := .fn (.func gf) lb, args := #[.func (.yield (w.heap.size + 1)) #[] #[]] }, W1, gf,
    #[.func (.yield (w.heap.size + 1)) #[] #[]] ++ lb, W1, ?_, ?_, ?_, ?_, fun _ => h1, ?_⟩
  · rw [hro]; exact run_enterLoop_outer _ _ _ _ _
  · simp only [resolve, hg]; simp [go_sem]
  · intro f' hf'; simp [Target.leads] at hf'; subst hf'; exact hFg
  · simp [invoke, go_sem, eg]
  have hw1 : W1.heap.size = w.heap.size + 2 := by simp [W1]
  refine (hseq W1 hgrow hw1 (w.heap.size + 1) (fun pre W => I pre W ∧ Book w.heap.size (rc .ready none) W) (fun pre W => ∃ c, Ix c pre W ∧ Book w.heap.size (rc .done (some c)) W)
    (fun s U V row h hg hr => ⟨hI s U V row h.1 hg (fun r e => ⟨by have := (hr r e).1; omega, (hr r e).2⟩), h.2.away hg (fun r e => by have := (hr r e).1; omega)⟩)
    (fun s U V row h hg hr => by obtain ⟨c, h1, h2⟩ := h; exact ⟨c, hIx c s U V row h1 hg (fun r e => ⟨by have := (hr r e).1; omega, (hr r e).2⟩), h2.away hg (fun r e => by have := (hr r e).1; omega)⟩)
    ?_ ⟨h0 W1 hgrow hw1, hbook⟩).mono ?_
  · -- one round
    rintro pre x W ⟨hi, hb⟩ hy
    have hg := hV x W
    have hbV : Book w.heap.size (rc .ready none) (V₁ x W) := hb.grow hg
    refine ⟨fn, _, assign, body, run_yield hb.rcd (hps x), roundIn_of_wpIn hfn (hassign _ x W _ ⟨_, run_beginRound hbV.rcd rfl, ?_⟩)⟩
    have hb2 : Book w.heap.size (rc .busy none) ((V₁ x W).putObj (w.heap.size + 1) (.loop (rc .busy none))) := hbV.put
    refine wpIn_mono (hbody _ pre x W _ (hI.put (hI.grow hi hg) (Nat.le_succ _) hbV.rcd) ((hY pre).put ((hY pre).grow hy hg) (Nat.le_succ _) hbV.rcd) (hAt _ _ _ _ hb) ⟨_, hb2⟩) (round_nests ?_ ?_)
    · intro V hkf hkp hiv
      have hb3 := hb2.kept hkf
      have hkk := hKt (hKr (V₁ x W) _) hkp
      exact ⟨_, _, run_endRound none hb3.rcd, .inl ⟨rfl, ⟨hI.put hiv (Nat.le_succ _) hb3.rcd, hb3.put⟩, hKt (hKg hg) (hKt hkk (hKr V _))⟩⟩
    · intro c V hkf hkp hiv
      have hb3 := hb2.kept hkf
      have hkk := hKt (hKr (V₁ x W) _) hkp
      exact ⟨_, _, run_endRound (some c) hb3.rcd, .inr ⟨rfl, ⟨c, (hIx c).put hiv (Nat.le_succ _) hb3.rcd, hb3.put⟩, hKt (hKg hg) (hKt hkk (hKr V _))⟩⟩
  · -- behind the iterator
    rintro e W2 ⟨⟨v, rfl⟩, (⟨xs, hd, hi, hb⟩ | ⟨pre, c, hi, hb⟩)⟩
    · exact ⟨none, _, run_endLoop hb.rcd (by simp [rc]), hdone xs _ hd (hI.put hi (Nat.le_succ _) hb.rcd) (hb.put (r' := { rc .ready none with state := .exhausted })).dfr⟩
    · exact ⟨some c, _, run_endLoop hb.rcd (by simp [rc]), hstop c pre _ ((hIx c).put hi (Nat.le_succ _) hb.rcd) (hb.put (r' := { rc .done (some c) with state := .exhausted })).dfr⟩
end
end Go.Proofs.Ytmeoednndfgffaa
namespace Go.Proofs.Ytmeoednndfgffaa
attribute [local go_sem] Oper.semAt_some
open Go Go.ChangeShapes Go.WideShapes Go.ChangeAt Go.RowKit
set_option linter.unusedVariables false
set_option linter.unusedSimpArgs false
theorem LoopOwn.and {β : Type} {B : Nat} {I K : β → World → Prop} (h : LoopOwn B I) (k : LoopOwn B K) : LoopOwn B (fun s U => I s U ∧ K s U) := fun s W W' row hs hg hr => ⟨h s W W' row hs.1 hg hr, k s W W' row hs.2 hg hr⟩
theorem LoopOwn.map {β γ : Type} {B : Nat} {I : γ → World → Prop} (h : LoopOwn B I) (g : β → γ) : LoopOwn B (fun s U => I (g s) U) := fun s W W' row hs hg hr => h (g s) W W' row hs hg hr
theorem LoopOwn.size_ {β : Type} {B m : Nat} : LoopOwn B (fun (_ : β) (U : World) => m ≤ U.heap.size) := fun _ _ _ _ h hg _ => Nat.le_trans h hg.size
theorem LoopOwn.blk {β : Type} {B q : Nat} {x : Obj} (hq : q < B) : LoopOwn B (fun (_ : β) (U : World) => U.heap[q]? = some x) := fun _ U V row h hg hr => by
  have hlt := (Array.getElem?_eq_some_iff.1 h).1
  exact (hg.block q hlt (fun e => by have := (hr q e.symm).1; omega)).trans h
theorem LoopOwn.ex {β γ : Type} {B : Nat} {I : γ → World → Prop} (h : LoopOwn B I) : LoopOwn B (fun (_ : β) U => ∃ s, I s U) := fun _ U V row ⟨s, h1⟩ hg hr => ⟨s, h s U V row h1 hg hr⟩
theorem LoopOwn.pure_ {β : Type} {B : Nat} (p : β → Prop) : LoopOwn B (fun s (_ : World) => p s) := fun _ _ _ _ h _ _ => h
end Go.Proofs.Ytmeoednndfgffaa
namespace Go.Proofs.Ytmeoednndfgffaa
attribute [local go_sem] Oper.semAt_some
open Go Go.ChangeShapes Go.WideShapes Go.ChangeAt Go.RowKit
set_option linter.unusedVariables false
theorem LoopOwn.below {β : Type} {B s0 : Nat} {W : World} (hs : s0 ≤ B) (hW : s0 ≤ W.heap.size) : LoopOwn B (fun (_ : β) U => Below s0 W U) := fun _ U V row h hg hr =>
  h.trans (below_of_grown hg (fun r e => Nat.le_trans hs (hr r e).1) (Nat.le_trans hW h.size))
theorem LoopOwn.cell {β : Type} {B q i : Nat} {f : β → Value} (hq : q < B) : LoopOwn B (fun (s : β) (U : World) => U.cell? ⟨q, i, none⟩ = some (f s)) := fun s U V row h hg hr =>
  (World.cell?_of_block (w := U) (a := ⟨q, i, none⟩) (hg.block q (World.block_lt_of_cell? U _ h) (fun e => by have := (hr q e.symm).1; omega))).trans h
/-- One cell that may be written. -/
structure Cell1 (q : Nat) (v : Value) (U : World) : Prop where
  c : U.cell? ⟨q, 0, none⟩ = some v
  f : U.frozen? ⟨q, 0, none⟩ = false
theorem Cell1.lt {q : Nat} {v : Value} {U : World} (h : Cell1 q v U) : q < U.heap.size := World.block_lt_of_cell? U _ h.c
theorem Cell1.blk {q : Nat} {v : Value} {U V : World} (h : Cell1 q v U) (e : V.heap[q]? = U.heap[q]?) : Cell1 q v V := ⟨(World.cell?_of_block (w := U) (a := ⟨q, 0, none⟩) e).trans h.c, (World.frozen?_of_block (w := U) (a := ⟨q, 0, none⟩) e).trans h.f⟩
theorem Cell1.set {q : Nat} {v : Value} {U : World} (h : Cell1 q v U) (x : Value) : Cell1 q x (U.setCell ⟨q, 0, none⟩ x) := ⟨World.cell?_setCell_same _ _ _ h.c, (World.frozen?_setCell _ _ _ _).trans h.f⟩
theorem Cell1.own {β : Type} {B q : Nat} {f : β → Value} (hq : q < B) : LoopOwn B (fun (s : β) (U : World) => Cell1 q (f s) U) := fun s U V row h hg hr =>
  h.blk (hg.block q h.lt (fun e => by have := (hr q e.symm).1; omega))
theorem BookKept.set {D : Nat} {U : World} {q i : Nat} (hq : q < D) (v : Value) : BookKept D U (U.setCell ⟨q, i, none⟩ v) :=
  ⟨Below.heap_setCell _ _ _ _ (Nat.ne_of_gt hq), Below.heap_setCell _ _ _ _ (Nat.ne_of_gt (Nat.lt_succ_of_lt hq))⟩
end Go.Proofs.Ytmeoednndfgffaa
namespace Go.Proofs.Ytmeoednndfgffaa
open Go.ChangeShapes Go.WideShapes Go.ChangeAt Go.RowKit
set_option linter.unusedVariables false
theorem two_boxes (w : World) (a b : Obj) : Below w.heap.size w ((w.alloc a).alloc b) := ((Below.refl _ w).alloc (Nat.le_refl _) _).alloc (by simp) _
end Go.Proofs.Ytmeoednndfgffaa
namespace Go.Proofs.Ytmeoednndfgffaa
open Go.ChangeShapes Go.WideShapes Go.ChangeAt Go.RowKit
set_option linter.unusedVariables false
set_option linter.unusedSimpArgs false
end Go.Proofs.Ytmeoednndfgffaa
namespace Go.Proofs.Ytmeoednndfgffaa
open Go.ChangeShapes Go.WideShapes Go.ChangeAt Go.RowKit
set_option linter.unusedVariables false
set_option linter.unusedSimpArgs false
end Go.Proofs.Ytmeoednndfgffaa
namespace Go.Proofs.Ytmeoednndfgffaa
open Go.ChangeShapes Go.WideShapes Go.ChangeAt Go.RowKit
set_option linter.unusedVariables false
set_option linter.unusedSimpArgs false
end Go.Proofs.Ytmeoednndfgffaa
namespace Go.Proofs.Ytmeoednndfgffaa
open Go.ChangeShapes Go.WideShapes Go.ChangeAt Go.RowKit
set_option linter.unusedVariables false
set_option linter.unusedSimpArgs false
end Go.Proofs.Ytmeoednndfgffaa
namespace Go.Proofs.Ytmeoednndfgffaa
open Go.ChangeShapes Go.WideShapes Go.ChangeAt Go.RowKit
set_option linter.unusedVariables false
set_option linter.unusedSimpArgs false
end Go.Proofs.Ytmeoednndfgffaa
namespace Go.Proofs.Ytmeoednndfgffaa
open Go.ChangeShapes Go.WideShapes Go.ChangeAt Go.RowKit
set_option linter.unusedVariables false
set_option linter.unusedSimpArgs false
end Go.Proofs.Ytmeoednndfgffaa
namespace Go.Proofs.Ytmeoednndfgffaa
open Go.ChangeShapes Go.WideShapes Go.ChangeAt Go.RowKit
set_option linter.unusedVariables false
theorem hop0 {w a b : World} (h : Below w.heap.size w a) (h2 : Below a.heap.size a b) : Below w.heap.size w b := h.trans (h2.mono h.size)
theorem later_cell {w w' : World} {a : Addr} {v : Value} (hb : Below w.heap.size w w') (h : w.cell? a = some v) : w'.cell? a = some v := (hb.cell (World.block_lt_of_cell? w a h)).trans h
end Go.Proofs.Ytmeoednndfgffaa
namespace Go.Proofs.Ytmeoednndfgffaa
attribute [local go_sem] Oper.semAt_some
open Go Go.ChangeShapes Go.WideShapes Go.ChangeAt Go.RowKit
set_option linter.unusedVariables false
set_option linter.unusedSimpArgs false
end Go.Proofs.Ytmeoednndfgffaa
