/- A range over an iterator that ranges over another one itself: what is told of a loop abides while records of loops turn. No program is named here. -/
import Derived.Test.YtcdgiplgkffomaaGreatDoorRangeV
namespace Go.Proofs.YtcdgiplgkffomaaGreatDoor
open Go Go.RowKit
set_option linter.unusedVariables false
/-- A loop's record, or what it keeps of deferred calls. -/
def bookish : Obj → Prop
  | .loop _ => True
  | .deferred _ => True
  | _ => False
/-- It abides while memory grows, and while the record of a loop from B on turns. -/
def LoopOwn {β : Type} (B : Nat) (I : β → World → Prop) : Prop := ∀ s W W' row, I s W → W.grownBy W' row → (∀ r, row = some r → B ≤ r ∧ ∃ o, W.heap[r]? = some o ∧ bookish o) → I s W'
theorem LoopOwn.grow {β : Type} {B : Nat} {I : β → World → Prop} (h : LoopOwn B I) {s : β} {U V : World} (hs : I s U) (hg : U.grownBy V none) : I s V := h s U V none hs hg (fun r e => by cases e)
theorem grown_put (U : World) (q : Nat) (o : Obj) : U.grownBy (U.putObj q o) (some q) :=
  ⟨rfl, rfl, rfl, by simp [World.putObj], fun k hk hn => World.putObj_heap_other (fun e => hn (by rw [e]))⟩
theorem LoopOwn.put {β : Type} {B : Nat} {I : β → World → Prop} (h : LoopOwn B I) {s : β} {U : World} {q : Nat} {r r' : Loop} (hs : I s U) (hq : B ≤ q) (hl : U.heap[q]? = some (.loop r)) : I s (U.putObj q (.loop r')) :=
  h s U _ (some q) hs (grown_put U q _) (fun _ e => by cases e; exact ⟨hq, _, hl, trivial⟩)
theorem LoopOwn.done {β : Type} {B : Nat} {I : β → World → Prop} (h : LoopOwn B I) {s : β} {U : World} {q : Nat} {o' : Obj} (hs : I s U) (hq : B ≤ q) (hl : U.heap[q]? = some o') (o : Obj) (hb : bookish o' := by trivial) : I s (U.putObj q o) :=
  h s U _ (some q) hs (grown_put U q _) (fun _ e => by cases e; exact ⟨hq, _, hl, hb⟩)
theorem LoopOwn.mono {β : Type} {B B' : Nat} {I : β → World → Prop} (h : LoopOwn B I) (hB : B ≤ B') : LoopOwn B' I := fun s W W' row hs hg hr => h s W W' row hs hg (fun r e => ⟨Nat.le_trans hB (hr r e).1, (hr r e).2⟩)
theorem Book.away {B : Nat} {r : Loop} {U V : World} {row : Option Nat} (h : Book B r U) (hg : U.grownBy V row) (hr : ∀ q, row = some q → B + 2 ≤ q) : Book B r V :=
  ⟨(hg.block _ h.lt (fun e => by have := hr _ e.symm; omega)).trans h.rcd, (hg.block _ (Nat.lt_of_succ_lt h.lt) (fun e => by have := hr _ e.symm; omega)).trans h.dfr⟩
/-- What an iterator answers, called in the world W: what comes, 'Y pre x U'; 'Kp': what a round must leave to the iterator. -/
def SeqAt {α : Type} (F : Fence) (n : Nat) (P : Program) (g : Nat) (lb : Array Value) (encs : α → Array Value) (Y : List α → α → World → Prop) (Kp : World → World → Prop) (done : List α → Prop) (W : World) : Prop :=
  ∀ (l : Nat) (J Jx : List α → World → Prop), LoopOwn W.heap.size J → LoopOwn W.heap.size Jx →
    (∀ pre x U, J pre U → Y pre x U → YieldAt F (n - 1) P l (encs x) U fun e V => (e = .returned (.bool true) ∧ J (pre ++ [x]) V ∧ Kp U V) ∨ (e = .returned (.bool false) ∧ Jx (pre ++ [x]) V ∧ Kp U V)) →
    J [] W → CallsIn F n P g (#[.func (.yield l) #[] #[]] ++ lb) W fun e V => (∃ v, e = .returned v) ∧ ((∃ xs, done xs ∧ J xs V) ∨ ∃ pre, Jx pre V)
/-- What a round leaves, for the iterator too. -/
def nestPost {α : Type} (B : Nat) (Kp : World → World → Prop) (I : List α → World → Prop) (Ix : Code → List α → World → Prop) (xs : List α) (W : World) : Exit → Act → World → Prop
  | .normal, _, V => BookKept B W V ∧ Kp W V ∧ I xs V
  | .ret, _, V => BookKept B W V ∧ Kp W V ∧ Ix .ret xs V
  | .exit id, _, V => BookKept B W V ∧ Kp W V ∧ Ix (.exit id) xs V
  | .goto t, _, V => BookKept B W V ∧ Kp W V ∧ Ix (.goto t) xs V
  | .panic _, _, _ => False
  | .outgrown, _, _ => False
variable {F : Fence} {n : Nat} {P : Program}
theorem round_nests {α : Type} {l : Nat} {R : Ending → World → Prop} {B : Nat} {Kp : World → World → Prop} {I : List α → World → Prop} {Ix : Code → List α → World → Prop} {xs : List α} {W : World}
    (go : ∀ V, BookKept B W V → Kp W V → I xs V → ∃ v V', (Instr.endRound l none).run P V = .ok v V' ∧ R (.returned v) V')
    (leave : ∀ c V, BookKept B W V → Kp W V → Ix c xs V → ∃ v V', (Instr.endRound l (some c)).run P V = .ok v V' ∧ R (.returned v) V') :
    ∀ (e : Exit) (a : Act) (V : World), nestPost B Kp I Ix xs W e a V → roundPost P l R e a V
  | .normal, _, V, h => go V h.1 h.2.1 h.2.2
  | .ret, _, V, h => leave .ret V h.1 h.2.1 h.2.2
  | .exit id, _, V, h => leave (.exit id) V h.1 h.2.1 h.2.2
  | .goto t, _, V, h => leave (.goto t) V h.1 h.2.1 h.2.2
  | .panic _, _, _, h => h
  | .outgrown, _, _, h => h
theorem range_nest {α : Type} {g : Operand} {ps : Array Tmp} {assign body : Code} {Q : Exit → Act → World → Prop} {a : Act} {w : World}
    (hro : F.round = none) (h1 : 1 ≤ n) {gf : Nat} {lb : Array Value} (hg : a.eval g = .func (.func gf) #[] lb) (hFg : F.fn gf) (eg : ∀ args w, (callFunc gf args).run P w = .ok (.enter gf args) w)
    {encs : α → Array Value} {Y : List α → α → World → Prop} {Kp : World → World → Prop} {done : List α → Prop} (hseq : ∀ W1, w.grownBy W1 none → W1.heap.size = w.heap.size + 2 → SeqAt F (n - 1) P gf lb encs Y Kp done W1) (hps : ∀ x, (encs x).size = ps.size)
    (hKt : ∀ {A B C : World}, Kp A B → Kp B C → Kp A C) (hKg : ∀ {A B : World}, A.grownBy B none → Kp A B) (hKr : ∀ (A : World) (o : Obj), Kp A (A.putObj (w.heap.size + 1) o))
    (I : List α → World → Prop) (Ix : Code → List α → World → Prop) (hI : LoopOwn w.heap.size I) (hIx : ∀ c, LoopOwn w.heap.size (Ix c)) (hY : ∀ pre, LoopOwn w.heap.size (Y pre)) (h0 : ∀ W1, w.grownBy W1 none → W1.heap.size = w.heap.size + 2 → I [] W1) (V₁ : α → World → World) (hV : ∀ (x : α) (W : World), W.grownBy (V₁ x W) none) (At : α → World → World → Prop) (hAt : ∀ x W r r', Book w.heap.size r W → At x W ((V₁ x W).putObj (w.heap.size + 1) (.loop r'))) (a₁ : α → World → Act)
    (hassign : ∀ (l : Nat) (x : α) (W : World) (K : Act → World → Prop), K (a₁ x W) (V₁ x W) →
      assign.wpIn (F.inRound l) (n - 1 - 1) P (Exit.then K (fun _ _ _ => False)) { tmps := (ps.zip (encs x)).foldl (fun t (p, v) => t.setIfInBounds p v) a.tmps, defers := [] } W)
    (hbody : ∀ (l : Nat) (pre : List α) (x : α) (U W : World), I pre W → Y pre x W → At x U W → body.wpIn (F.inRound l) (n - 1 - 1) P (nestPost w.heap.size Kp I Ix (pre ++ [x]) W) (a₁ x U) W)
    (hdone : ∀ (xs : List α) (W : World), done xs → I xs W → W.heap[w.heap.size]? = some (.deferred (some [])) → Q .normal { a with defers := { target := .collected w.heap.size, args := #[] } :: a.defers } W)
    (hstop : ∀ (c : Code) (pre : List α) (W : World), Ix c pre W → W.heap[w.heap.size]? = some (.deferred (some [])) → c.wpIn F n P Q { a with defers := { target := .collected w.heap.size, args := #[] } :: a.defers } W) :
    (Code.rangeFunc g ps assign body).wpIn F n P Q a w := by
  refine wpIn_rangeFunc fun fn hfn => ?_
  let rc : LoopState → Option Code → Loop := fun st pe => { state := st, pending := pe, fn, tmps := a.tmps, params := ps, assign, body, defers := w.heap.size }
  let W1 := (w.alloc (.deferred (some []))).alloc (.loop (rc .ready none))
  have hgrow : w.grownBy W1 none := by
    have g1 := World.grownBy_alloc w (.deferred (some [])) none
    have g2 := World.grownBy_alloc (w.alloc (.deferred (some []))) (.loop (rc .ready none)) none
    exact ⟨g2.os.trans g1.os, g2.tape.trans g1.tape, g2.output.trans g1.output, Nat.le_trans g1.size g2.size, fun k hk hn => (g2.block k (Nat.lt_of_lt_of_le hk g1.size) hn).trans (g1.block k hk hn)⟩
  have hbook : Book w.heap.size (rc .ready none) W1 := by
    constructor
    · have := World.alloc_heap_new (w.alloc (.deferred (some []))) (.loop (rc .ready none))
      rwa [World.size_alloc] at this
    · exact (Below.heap_alloc _ _ _ (by simp)).trans (World.alloc_heap_new w _)
  refine ⟨w.heap.size + 1, [{ target := .collected w.heap.size, args := #[] }], W1, { target := .fn (.func gf) lb, args := #[.func (.yield (w.heap.size + 1)) #[] #[]] }, W1, gf,
    #[.func (.yield (w.heap.size + 1)) #[] #[]] ++ lb, W1, ?_, ?_, ?_, ?_, fun _ => h1, ?_⟩
  · rw [hro]; exact run_enterLoop_outer _ _ _ _ _
  · simp only [resolve, hg]; simp [go_sem]
  · intro f' hf'; simp [Target.leads] at hf'; subst hf'; exact hFg
  · simp [invoke, go_sem, eg]
  have hw1 : W1.heap.size = w.heap.size + 2 := by simp [W1]
  refine (hseq W1 hgrow hw1 (w.heap.size + 1) (fun pre W => I pre W ∧ Book w.heap.size (rc .ready none) W) (fun pre W => ∃ c, Ix c pre W ∧ Book w.heap.size (rc .done (some c)) W)
    (fun s U V row h hg hr => ⟨hI s U V row h.1 hg (fun r e => ⟨by have := (hr r e).1; omega, (hr r e).2⟩), h.2.away hg (fun r e => by have := (hr r e).1; omega)⟩)
    (fun s U V row h hg hr => by obtain ⟨c, h1, h2⟩ := h; exact ⟨c, hIx c s U V row h1 hg (fun r e => ⟨by have := (hr r e).1; omega, (hr r e).2⟩), h2.away hg (fun r e => by have := (hr r e).1; omega)⟩)
    ?_ ⟨h0 W1 hgrow hw1, hbook⟩).mono ?_
  · -- one round
    rintro pre x W ⟨hi, hb⟩ hy
    have hg := hV x W
    have hbV : Book w.heap.size (rc .ready none) (V₁ x W) := hb.grow hg
    refine ⟨fn, _, assign, body, run_yield hb.rcd (hps x), roundIn_of_wpIn hfn (hassign _ x W _ ⟨_, run_beginRound hbV.rcd rfl, ?_⟩)⟩
    have hb2 : Book w.heap.size (rc .busy none) ((V₁ x W).putObj (w.heap.size + 1) (.loop (rc .busy none))) := hbV.put
    refine wpIn_mono (hbody _ pre x W _ (hI.put (hI.grow hi hg) (Nat.le_succ _) hbV.rcd) ((hY pre).put ((hY pre).grow hy hg) (Nat.le_succ _) hbV.rcd) (hAt _ _ _ _ hb)) (round_nests ?_ ?_)
    · intro V hkf hkp hiv
      have hb3 := hb2.kept hkf
      have hkk := hKt (hKr (V₁ x W) _) hkp
      exact ⟨_, _, run_endRound none hb3.rcd, .inl ⟨rfl, ⟨hI.put hiv (Nat.le_succ _) hb3.rcd, hb3.put⟩, hKt (hKg hg) (hKt hkk (hKr V _))⟩⟩
    · intro c V hkf hkp hiv
      have hb3 := hb2.kept hkf
      have hkk := hKt (hKr (V₁ x W) _) hkp
      exact ⟨_, _, run_endRound (some c) hb3.rcd, .inr ⟨rfl, ⟨c, (hIx c).put hiv (Nat.le_succ _) hb3.rcd, hb3.put⟩, hKt (hKg hg) (hKt hkk (hKr V _))⟩⟩
  · -- behind the iterator
    rintro e W2 ⟨⟨v, rfl⟩, (⟨xs, hd, hi, hb⟩ | ⟨pre, c, hi, hb⟩)⟩
    · exact ⟨none, _, run_endLoop hb.rcd (by simp [rc]), hdone xs _ hd (hI.put hi (Nat.le_succ _) hb.rcd) (hb.put (r' := { rc .ready none with state := .exhausted })).dfr⟩
    · exact ⟨some c, _, run_endLoop hb.rcd (by simp [rc]), hstop c pre _ ((hIx c).put hi (Nat.le_succ _) hb.rcd) (hb.put (r' := { rc .done (some c) with state := .exhausted })).dfr⟩
end Go.Proofs.YtcdgiplgkffomaaGreatDoor
