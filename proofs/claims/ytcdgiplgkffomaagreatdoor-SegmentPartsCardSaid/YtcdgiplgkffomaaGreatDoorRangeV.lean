/- A range over an iterator whose assignment ahead of the body makes memory. No program is named here. -/
import Derived.Test.YtcdgiplgkffomaaGreatDoorRangeA
namespace Go.Proofs.YtcdgiplgkffomaaGreatDoor
open Go Go.RowKit
set_option linter.unusedVariables false
variable {F : Fence} {n : Nat} {P : Program}
/-- As range_keep, where what is assigned ahead of a round's body makes memory (the loop's variables in boxes): the body begins in a world V₁ x W, its activation names blocks of W. -/
theorem range_box {α : Type} {g : Operand} {ps : Array Tmp} {assign body : Code} {Q : Exit → Act → World → Prop} {a : Act} {w : World}
    (hro : F.round = none) (h1 : 1 ≤ n) {gf : Nat} {lb : Array Value} (hg : a.eval g = .func (.func gf) #[] lb) (hFg : F.fn gf) (eg : ∀ args w, (callFunc gf args).run P w = .ok (.enter gf args) w)
    {encs : α → Array Value} {Y : List α → α → World → Prop} {Kp : World → World → Prop} {done : List α → Prop} {w0 : World} (hseq : SeqMem F (n - 1) P gf lb encs Y Kp done w0) (hps : ∀ x, (encs x).size = ps.size)
    (hKt : ∀ {A B C : World}, Kp A B → Kp B C → Kp A C) (hK0 : Kp w0 w) (hKg : ∀ {A B : World}, Kp w0 A → A.grownBy B none → Kp A B) (hKr : ∀ (A : World) (o : Obj), Kp A (A.putObj (w.heap.size + 1) o))
    (I : List α → World → Prop) (Ix : Code → List α → World → Prop) (hIg : ∀ s U V, I s U → U.grownBy V none → I s V) (hIxg : ∀ c s U V, Ix c s U → U.grownBy V none → Ix c s V)
    (hIp : ∀ s U r r', I s U → Book w.heap.size r U → I s (U.putObj (w.heap.size + 1) (.loop r'))) (hIxp : ∀ c s U r r', Ix c s U → Book w.heap.size r U → Ix c s (U.putObj (w.heap.size + 1) (.loop r')))
    (hYp : ∀ pre x U r r', Y pre x U → Book w.heap.size r U → Y pre x (U.putObj (w.heap.size + 1) (.loop r'))) (hYg : ∀ pre x U V, Y pre x U → U.grownBy V none → Y pre x V) (h0 : ∀ W1, w.grownBy W1 none → W1.heap.size = w.heap.size + 2 → I [] W1) (V₁ : α → World → World) (hV : ∀ (x : α) (W : World), W.grownBy (V₁ x W) none) (At : α → World → World → Prop) (hAt : ∀ x W r r', Book w.heap.size r W → At x W ((V₁ x W).putObj (w.heap.size + 1) (.loop r'))) (a₁ : α → World → Act)
    (hassign : ∀ (l : Nat) (x : α) (W : World) (K : Act → World → Prop), K (a₁ x W) (V₁ x W) →
      assign.wpIn (F.inRound l) (n - 1 - 1) P (Exit.then K (fun _ _ _ => False)) { tmps := (ps.zip (encs x)).foldl (fun t (p, v) => t.setIfInBounds p v) a.tmps, defers := [] } W)
    (hbody : ∀ (l : Nat) (pre : List α) (x : α) (U W : World), I pre W → Y pre x W → At x U W → body.wpIn (F.inRound l) (n - 1 - 1) P (keepPost w.heap.size Kp I Ix (pre ++ [x]) W) (a₁ x U) W)
    (hdone : ∀ (xs : List α) (W : World), done xs → I xs W → W.heap[w.heap.size]? = some (.deferred (some [])) → Q .normal { a with defers := { target := .collected w.heap.size, args := #[] } :: a.defers } W)
    (hstop : ∀ (c : Code) (pre : List α) (W : World), Ix c pre W → W.heap[w.heap.size]? = some (.deferred (some [])) → c.wpIn F n P Q { a with defers := { target := .collected w.heap.size, args := #[] } :: a.defers } W) :
    (Code.rangeFunc g ps assign body).wpIn F n P Q a w := by
  refine wpIn_rangeFunc fun fn hfn => ?_
  let rc : LoopState → Option Code → Loop := fun st pe => { state := st, pending := pe, fn, tmps := a.tmps, params := ps, assign, body, defers := w.heap.size }
  let W1 := (w.alloc (.deferred (some []))).alloc (.loop (rc .ready none))
  have hgrow : w.grownBy W1 none := by
    have g1 := World.grownBy_alloc w (.deferred (some [])) none
    have g2 := World.grownBy_alloc (w.alloc (.deferred (some []))) (.loop (rc .ready none)) none
    exact ⟨g2.os.trans g1.os, g2.tape.trans g1.tape, g2.output.trans g1.output, Nat.le_trans g1.size g2.size, fun k hk hn => (g2.block k (Nat.lt_of_lt_of_le hk g1.size) hn).trans (g1.block k hk hn)⟩
  have hbook : Book w.heap.size (rc .ready none) W1 := by
    constructor
    · have := World.alloc_heap_new (w.alloc (.deferred (some []))) (.loop (rc .ready none))
      rwa [World.size_alloc] at this
    · exact (Below.heap_alloc _ _ _ (by simp)).trans (World.alloc_heap_new w _)
  refine ⟨w.heap.size + 1, [{ target := .collected w.heap.size, args := #[] }], W1, { target := .fn (.func gf) lb, args := #[.func (.yield (w.heap.size + 1)) #[] #[]] }, W1, gf,
    #[.func (.yield (w.heap.size + 1)) #[] #[]] ++ lb, W1, ?_, ?_, ?_, ?_, fun _ => h1, ?_⟩
  · rw [hro]; exact run_enterLoop_outer _ _ _ _ _
  · simp only [resolve, hg]; simp [go_sem]
  · intro f' hf'; simp [Target.leads] at hf'; subst hf'; exact hFg
  · simp [invoke, go_sem, eg]
  refine (hseq (w.heap.size + 1) (fun pre W => I pre W ∧ Book w.heap.size (rc .ready none) W ∧ Kp w0 W) (fun pre W => ∃ c, Ix c pre W ∧ Book w.heap.size (rc .done (some c)) W) W1 (hKt hK0 (hKg hK0 hgrow))
    (fun s U V h hg => ⟨hIg _ _ _ h.1 hg, h.2.1.grow hg, hKt h.2.2 (hKg h.2.2 hg)⟩) (fun s U V h hg => by obtain ⟨c, h1, h2⟩ := h; exact ⟨c, hIxg _ _ _ _ h1 hg, h2.grow hg⟩)
    ?_ ⟨h0 W1 hgrow (by simp [W1]), hbook, hKt hK0 (hKg hK0 hgrow)⟩).mono ?_
  · -- one round
    rintro pre x W ⟨hi, hb, hk⟩ hy
    have hg := hV x W
    have hbV : Book w.heap.size (rc .ready none) (V₁ x W) := hb.grow hg
    refine ⟨fn, _, assign, body, run_yield hb.rcd (hps x), roundIn_of_wpIn hfn (hassign _ x W _ ⟨_, run_beginRound hbV.rcd rfl, ?_⟩)⟩
    have hb2 : Book w.heap.size (rc .busy none) ((V₁ x W).putObj (w.heap.size + 1) (.loop (rc .busy none))) := hbV.put
    have hkV : Kp w0 (V₁ x W) := hKt hk (hKg hk hg)
    refine wpIn_mono (hbody _ pre x W _ (hIp _ _ _ _ (hIg _ _ _ hi hg) hbV) (hYp _ _ _ _ _ (hYg _ _ _ _ hy hg) hbV) (hAt _ _ _ _ hb)) (round_keeps ?_ ?_)
    · intro V hkf hkp hiv
      have hb3 := hb2.kept hkf
      have hkk := hKt (hKr (V₁ x W) _) hkp
      exact ⟨_, _, run_endRound none hb3.rcd, .inl ⟨rfl, ⟨hIp _ _ _ _ hiv hb3, hb3.put, hKt hkV (hKt hkk (hKr V _))⟩, hKt (hKg hk hg) (hKt hkk (hKr V _))⟩⟩
    · intro c V hkf hiv
      have hb3 := hb2.kept hkf
      exact ⟨_, _, run_endRound (some c) hb3.rcd, .inr ⟨rfl, c, hIxp _ _ _ _ _ hiv hb3, hb3.put⟩⟩
  · -- behind the iterator
    rintro e W2 ⟨⟨v, rfl⟩, (⟨xs, hd, hi, hb, _⟩ | ⟨pre, c, hi, hb⟩)⟩
    · exact ⟨none, _, run_endLoop hb.rcd (by simp [rc]), hdone xs _ hd (hIp _ _ _ _ hi hb) (hb.put (r' := { rc .ready none with state := .exhausted })).dfr⟩
    · exact ⟨some c, _, run_endLoop hb.rcd (by simp [rc]), hstop c pre _ (hIxp _ _ _ _ _ hi hb) (hb.put (r' := { rc .done (some c) with state := .exhausted })).dfr⟩
end Go.Proofs.YtcdgiplgkffomaaGreatDoor
