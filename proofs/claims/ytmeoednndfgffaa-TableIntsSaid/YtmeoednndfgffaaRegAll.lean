/- Several texts in one: RangeA, RegionQuiet, RangeV, RangeN, Region, RegTill, RegRound, RegZ. -/
import Derived.RangeFuncNested
import Derived.RangeFuncBound
import Derived.RangeFuncCalls
import Derived.RangeFuncLeaves
import Derived.Sort.QuietTacIn
import Derived.LoopNIn
import Derived.OrdersHeld
import Derived.KernelRfl
import Derived.WalkKit
import Derived.OrdersIn
/- Several texts in one: RangeMem, RangeKeep. -/
/- A range over an iterator that hands out memory of its own making: the body is told, of what it is handed, where it lies in the world of the round. No program is named here. -/
namespace Go.Proofs.Ytmeoednndfgffaa
open Go Go.RowKit
set_option linter.unusedVariables false

/-- What an iterator answers to whoever ranges over it: 'Y pre x W': x may come behind pre, in the world W; 'Kp': what a round must leave to the iterator. -/
def SeqMem {α : Type} (F : Fence) (n : Nat) (P : Program) (g : Nat) (lb : Array Value) (encs : α → Array Value) (Y : List α → α → World → Prop) (Kp : World → World → Prop) (done : List α → Prop) (w0 : World) : Prop :=
  ∀ (l : Nat) (J Jx : List α → World → Prop) (W : World), Kp w0 W → (∀ s U V, J s U → U.grownBy V none → J s V) → (∀ s U V, Jx s U → U.grownBy V none → Jx s V) →
    (∀ pre x U, J pre U → Y pre x U → YieldAt F (n - 1) P l (encs x) U fun e V => (e = .returned (.bool true) ∧ J (pre ++ [x]) V ∧ Kp U V) ∨ (e = .returned (.bool false) ∧ Jx (pre ++ [x]) V)) →
    J [] W → CallsIn F n P g (#[.func (.yield l) #[] #[]] ++ lb) W fun e V => (∃ v, e = .returned v) ∧ ((∃ xs, done xs ∧ J xs V) ∨ ∃ pre, Jx pre V)

/-- The loop's record and the block of the rounds' deferred calls lie where they were laid. -/
structure Book (B : Nat) (r : Loop) (W : World) : Prop where
  rcd : W.heap[B + 1]? = some (.loop r)
  dfr : W.heap[B]? = some (.deferred (some []))
theorem Book.lt {B : Nat} {r : Loop} {W : World} (h : Book B r W) : B + 1 < W.heap.size := (Array.getElem?_eq_some_iff.1 h.rcd).1
theorem Book.grow {B : Nat} {r : Loop} {U V : World} (h : Book B r U) (hg : U.grownBy V none) : Book B r V :=
  ⟨(hg.block _ h.lt (by simp)).trans h.rcd, (hg.block _ (Nat.lt_of_succ_lt h.lt) (by simp)).trans h.dfr⟩
theorem Book.keep {B : Nat} {r : Loop} {U V : World} (h : Book B r U) (hk : KeepsFrom B U V) : Book B r V :=
  ⟨hk.same _ _ (Nat.le_succ B) h.rcd rfl, hk.same _ _ (Nat.le_refl B) h.dfr rfl⟩
theorem Book.put {B : Nat} {r r' : Loop} {U : World} (h : Book B r U) : Book B r' (U.putObj (B + 1) (.loop r')) :=
  ⟨World.putObj_heap_same h.lt, (World.putObj_heap_other (Nat.ne_of_lt (Nat.lt_succ_self B))).trans h.dfr⟩
theorem own_book {β : Type} {B : Nat} {I : β → World → Prop} (h : OwnFrom B I) {s : β} {U : World} {r : Loop} (r' : Loop) (hs : I s U) (hb : Book B r U) : I s (U.putObj (B + 1) (.loop r')) :=
  h.putObj _ hs (Nat.le_succ B) hb.rcd rfl
theorem own_grow {β : Type} {B : Nat} {I : β → World → Prop} (h : OwnFrom B I) {s : β} {U V : World} (hs : I s U) (hg : U.grownBy V none) : I s V :=
  h s U V none hs hg (fun r e => by cases e)

variable {F : Fence} {n : Nat} {P : Program}
/-- How a round may end: it goes on, or it leaves by the jump c. -/
theorem round_ends {α : Type} {l : Nat} {R : Ending → World → Prop} {B : Nat} {Kp : World → World → Prop} {I : List α → World → Prop} {Ix : Code → List α → World → Prop} {xs : List α} {W : World}
    (go : ∀ V, KeepsFrom B W V → Kp W V → I xs V → ∃ v V', (Instr.endRound l none).run P V = .ok v V' ∧ R (.returned v) V')
    (leave : ∀ c V, KeepsFrom B W V → Ix c xs V → ∃ v V', (Instr.endRound l (some c)).run P V = .ok v V' ∧ R (.returned v) V') :
    ∀ (e : Exit) (a : Act) (V : World), ownPostG B Kp I Ix xs W e a V → roundPost P l R e a V
  | .normal, _, V, h => go V h.1 h.2.1 h.2.2
  | .ret, _, V, h => leave .ret V h.1 h.2
  | .exit id, _, V, h => leave (.exit id) V h.1 h.2
  | .goto t, _, V, h => leave (.goto t) V h.1 h.2
  | .panic _, _, _, h => h
  | .outgrown, _, _, h => h

theorem range_mem {α : Type} {g : Operand} {ps : Array Tmp} {assign body : Code} {Q : Exit → Act → World → Prop} {a : Act} {w : World}
    (hro : F.round = none) (h1 : 1 ≤ n) {gf : Nat} {lb : Array Value} (hg : a.eval g = .func (.func gf) #[] lb) (hFg : F.fn gf) (eg : ∀ args w, (callFunc gf args).run P w = .ok (.enter gf args) w)
    {encs : α → Array Value} {Y : List α → α → World → Prop} {Kp : World → World → Prop} {done : List α → Prop} {w0 : World} (hseq : SeqMem F (n - 1) P gf lb encs Y Kp done w0) (hps : ∀ x, (encs x).size = ps.size)
    (hKt : ∀ {A B C : World}, Kp A B → Kp B C → Kp A C) (hK0 : Kp w0 w) (hKg : ∀ {A B : World}, Kp w0 A → A.grownBy B none → Kp A B) (hKr : ∀ (A : World) (o : Obj), Kp A (A.putObj (w.heap.size + 1) o))
    (I : List α → World → Prop) (Ix : Code → List α → World → Prop) (hI : OwnFrom w.heap.size I) (hIx : ∀ c, OwnFrom w.heap.size (Ix c)) (hYo : ∀ pre, OwnFrom w.heap.size (Y pre)) (h0 : I [] w) (a₁ : α → Act)
    (hassign : ∀ (l : Nat) (x : α) (W : World) (K : Act → World → Prop), K (a₁ x) W →
      assign.wpIn (F.inRound l) (n - 1 - 1) P (Exit.then K (fun _ _ _ => False)) { tmps := (ps.zip (encs x)).foldl (fun t (p, v) => t.setIfInBounds p v) a.tmps, defers := [] } W)
    (hbody : ∀ (l : Nat) (pre : List α) (x : α) (W : World), I pre W → Y pre x W → body.wpIn (F.inRound l) (n - 1 - 1) P (ownPostG w.heap.size Kp I Ix (pre ++ [x]) W) (a₁ x) W)
    (hdone : ∀ (xs : List α) (W : World), done xs → I xs W → W.heap[w.heap.size]? = some (.deferred (some [])) → Q .normal { a with defers := { target := .collected w.heap.size, args := #[] } :: a.defers } W)
    (hstop : ∀ (c : Code) (pre : List α) (W : World), Ix c pre W → W.heap[w.heap.size]? = some (.deferred (some [])) → c.wpIn F n P Q { a with defers := { target := .collected w.heap.size, args := #[] } :: a.defers } W) :
    (Code.rangeFunc g ps assign body).wpIn F n P Q a w := by
  refine wpIn_rangeFunc fun fn hfn => ?_
  let rc : LoopState → Option Code → Loop := fun st pe => { state := st, pending := pe, fn, tmps := a.tmps, params := ps, assign, body, defers := w.heap.size }
  let W1 := (w.alloc (.deferred (some []))).alloc (.loop (rc .ready none))
  have hgrow : w.grownBy W1 none := by
    have g1 := World.grownBy_alloc w (.deferred (some [])) none
    have g2 := World.grownBy_alloc (w.alloc (.deferred (some []))) (.loop (rc .ready none)) none
    exact ⟨g2.os.trans g1.os, g2.tape.trans g1.tape, g2.output.trans g1.output, Nat.le_trans g1.size g2.size, fun k hk hn => (g2.block k (Nat.lt_of_lt_of_le hk g1.size) hn).trans (g1.block k hk hn)⟩
  have hbook : Book w.heap.size (rc .ready none) W1 := by
    constructor
    · have := World.alloc_heap_new (w.alloc (.deferred (some []))) (.loop (rc .ready none))
      rwa [World.size_alloc] at this
    · exact (Below.heap_alloc _ _ _ (by simp)).trans (World.alloc_heap_new w _)
  refine ⟨w.heap.size + 1, [{ target := .collected w.heap.size, args := #[] }], W1, { target := .fn (.func gf) lb, args := #[.func (.yield (w.heap.size + 1)) #[] #[]] }, W1, gf,
    #[.func (.yield (w.heap.size + 1)) #[] #[]] ++ lb, W1, ?_, ?_, ?_, ?_, fun _ => h1, ?_⟩
  · rw [hro]; exact run_enterLoop_outer _ _ _ _ _
  · simp only [resolve, hg]; simp [go_sem]
  · intro f' hf'; simp [Target.leads] at hf'; subst hf'; exact hFg
  · simp [invoke, go_sem, eg]
  refine (hseq (w.heap.size + 1) (fun pre W => I pre W ∧ Book w.heap.size (rc .ready none) W ∧ Kp w0 W) (fun pre W => ∃ c, Ix c pre W ∧ Book w.heap.size (rc .done (some c)) W) W1 (hKt hK0 (hKg hK0 hgrow))
    (fun s U V h hg => ⟨own_grow hI h.1 hg, h.2.1.grow hg, hKt h.2.2 (hKg h.2.2 hg)⟩) (fun s U V h hg => by obtain ⟨c, h1, h2⟩ := h; exact ⟨c, own_grow (hIx c) h1 hg, h2.grow hg⟩)
    ?_ ⟨own_grow hI h0 hgrow, hbook, hKt hK0 (hKg hK0 hgrow)⟩).mono ?_
  · -- one round
    rintro pre x W ⟨hi, hb, hk⟩ hy
    refine ⟨fn, _, assign, body, run_yield hb.rcd (hps x), roundIn_of_wpIn hfn (hassign _ x W _ ⟨_, run_beginRound hb.rcd rfl, ?_⟩)⟩
    have hb2 : Book w.heap.size (rc .busy none) (W.putObj (w.heap.size + 1) (.loop (rc .busy none))) := hb.put
    refine wpIn_mono (hbody _ pre x _ (own_book hI _ hi hb) (own_book (hYo pre) _ hy hb)) (round_ends ?_ ?_)
    · intro V hkf hkp hiv
      have hb3 := hb2.keep hkf
      have hkk := hKt (hKr W _) hkp
      exact ⟨_, _, run_endRound none hb3.rcd, .inl ⟨rfl, ⟨own_book hI _ hiv hb3, hb3.put, hKt hk (hKt hkk (hKr V _))⟩, hKt hkk (hKr V _)⟩⟩
    · intro c V hkf hiv
      have hb3 := hb2.keep hkf
      exact ⟨_, _, run_endRound (some c) hb3.rcd, .inr ⟨rfl, c, own_book (hIx c) _ hiv hb3, hb3.put⟩⟩
  · -- behind the iterator
    rintro e W2 ⟨⟨v, rfl⟩, (⟨xs, hd, hi, hb, _⟩ | ⟨pre, c, hi, hb⟩)⟩
    · exact ⟨none, _, run_endLoop hb.rcd (by simp [rc]), hdone xs _ hd (own_book hI _ hi hb) (hb.put (r' := { rc .ready none with state := .exhausted })).dfr⟩
    · exact ⟨some c, _, run_endLoop hb.rcd (by simp [rc]), hstop c pre _ (own_book (hIx c) _ hi hb) (hb.put (r' := { rc .done (some c) with state := .exhausted })).dfr⟩
end Go.Proofs.Ytmeoednndfgffaa

/- A range over an iterator, where the caller tells what a round turns (a file system of its own, say): the loop's two blocks are not among it. No program is named here. -/
namespace Go.Proofs.Ytmeoednndfgffaa
open Go Go.RowKit
set_option linter.unusedVariables false

def BookKept (B : Nat) (U V : World) : Prop := V.heap[B]? = U.heap[B]? ∧ V.heap[B + 1]? = U.heap[B + 1]?
theorem Book.kept {B : Nat} {r : Loop} {U V : World} (h : Book B r U) (hk : BookKept B U V) : Book B r V := ⟨hk.2.trans h.rcd, hk.1.trans h.dfr⟩
/-- What a round leaves. -/
def keepPost {α : Type} (B : Nat) (Kp : World → World → Prop) (I : List α → World → Prop) (Ix : Code → List α → World → Prop) (xs : List α) (W : World) : Exit → Act → World → Prop
  | .normal, _, V => BookKept B W V ∧ Kp W V ∧ I xs V
  | .ret, _, V => BookKept B W V ∧ Ix .ret xs V
  | .exit id, _, V => BookKept B W V ∧ Ix (.exit id) xs V
  | .goto t, _, V => BookKept B W V ∧ Ix (.goto t) xs V
  | .panic _, _, _ => False
  | .outgrown, _, _ => False
variable {F : Fence} {n : Nat} {P : Program}
/-- How a round may end, where the caller tells what turns: the loop's two blocks don't. -/
theorem round_keeps {α : Type} {l : Nat} {R : Ending → World → Prop} {B : Nat} {Kp : World → World → Prop} {I : List α → World → Prop} {Ix : Code → List α → World → Prop} {xs : List α} {W : World}
    (go : ∀ V, BookKept B W V → Kp W V → I xs V → ∃ v V', (Instr.endRound l none).run P V = .ok v V' ∧ R (.returned v) V')
    (leave : ∀ c V, BookKept B W V → Ix c xs V → ∃ v V', (Instr.endRound l (some c)).run P V = .ok v V' ∧ R (.returned v) V') :
    ∀ (e : Exit) (a : Act) (V : World), keepPost B Kp I Ix xs W e a V → roundPost P l R e a V
  | .normal, _, V, h => go V h.1 h.2.1 h.2.2
  | .ret, _, V, h => leave .ret V h.1 h.2
  | .exit id, _, V, h => leave (.exit id) V h.1 h.2
  | .goto t, _, V, h => leave (.goto t) V h.1 h.2
  | .panic _, _, _, h => h
  | .outgrown, _, _, h => h

theorem range_keep {α : Type} {g : Operand} {ps : Array Tmp} {assign body : Code} {Q : Exit → Act → World → Prop} {a : Act} {w : World}
    (hro : F.round = none) (h1 : 1 ≤ n) {gf : Nat} {lb : Array Value} (hg : a.eval g = .func (.func gf) #[] lb) (hFg : F.fn gf) (eg : ∀ args w, (callFunc gf args).run P w = .ok (.enter gf args) w)
    {encs : α → Array Value} {Y : List α → α → World → Prop} {Kp : World → World → Prop} {done : List α → Prop} {w0 : World} (hseq : SeqMem F (n - 1) P gf lb encs Y Kp done w0) (hps : ∀ x, (encs x).size = ps.size)
    (hKt : ∀ {A B C : World}, Kp A B → Kp B C → Kp A C) (hK0 : Kp w0 w) (hKg : ∀ {A B : World}, Kp w0 A → A.grownBy B none → Kp A B) (hKr : ∀ (A : World) (o : Obj), Kp A (A.putObj (w.heap.size + 1) o))
    (I : List α → World → Prop) (Ix : Code → List α → World → Prop) (hIg : ∀ s U V, I s U → U.grownBy V none → I s V) (hIxg : ∀ c s U V, Ix c s U → U.grownBy V none → Ix c s V)
    (hIp : ∀ s U r r', I s U → Book w.heap.size r U → I s (U.putObj (w.heap.size + 1) (.loop r'))) (hIxp : ∀ c s U r r', Ix c s U → Book w.heap.size r U → Ix c s (U.putObj (w.heap.size + 1) (.loop r')))
    (hYp : ∀ pre x U r r', Y pre x U → Book w.heap.size r U → Y pre x (U.putObj (w.heap.size + 1) (.loop r'))) (h0 : ∀ W1, w.grownBy W1 none → W1.heap.size = w.heap.size + 2 → I [] W1) (a₁ : α → Act)
    (hassign : ∀ (l : Nat) (x : α) (W : World) (K : Act → World → Prop), K (a₁ x) W →
      assign.wpIn (F.inRound l) (n - 1 - 1) P (Exit.then K (fun _ _ _ => False)) { tmps := (ps.zip (encs x)).foldl (fun t (p, v) => t.setIfInBounds p v) a.tmps, defers := [] } W)
    (hbody : ∀ (l : Nat) (pre : List α) (x : α) (W : World), I pre W → Y pre x W → body.wpIn (F.inRound l) (n - 1 - 1) P (keepPost w.heap.size Kp I Ix (pre ++ [x]) W) (a₁ x) W)
    (hdone : ∀ (xs : List α) (W : World), done xs → I xs W → W.heap[w.heap.size]? = some (.deferred (some [])) → Q .normal { a with defers := { target := .collected w.heap.size, args := #[] } :: a.defers } W)
    (hstop : ∀ (c : Code) (pre : List α) (W : World), Ix c pre W → W.heap[w.heap.size]? = some (.deferred (some [])) → c.wpIn F n P Q { a with defers := { target := .collected w.heap.size, args := #[] } :: a.defers } W) :
    (Code.rangeFunc g ps assign body).wpIn F n P Q a w := by
  refine wpIn_rangeFunc fun fn hfn => ?_
  let rc : LoopState → Option Code → Loop := fun st pe => { state := st, pending := pe, fn, tmps := a.tmps, params := ps, assign, body, defers := w.heap.size }
  let W1 := (w.alloc (.deferred (some []))).alloc (.loop (rc .ready none))
  have hgrow : w.grownBy W1 none := by
    have g1 := World.grownBy_alloc w (.deferred (some [])) none
    have g2 := World.grownBy_alloc (w.alloc (.deferred (some []))) (.loop (rc .ready none)) none
    exact ⟨g2.os.trans g1.os, g2.tape.trans g1.tape, g2.output.trans g1.output, Nat.le_trans g1.size g2.size, fun k hk hn => (g2.block k (Nat.lt_of_lt_of_le hk g1.size) hn).trans (g1.block k hk hn)⟩
  have hbook : Book w.heap.size (rc .ready none) W1 := by
    constructor
    · have := World.alloc_heap_new (w.alloc (.deferred (some []))) (.loop (rc .ready none))
      rwa [World.size_alloc] at this
    · exact (Below.heap_alloc _ _ _ (by simp)).trans (World.alloc_heap_new w _)
  refine ⟨w.heap.size + 1, [{ target := .collected w.heap.size, args := #[] }], W1, { target := .fn (.func gf) lb, args := #[.func (.yield (w.heap.size + 1)) #[] #[]] }, W1, gf,
    #[.func (.yield (w.heap.size + 1)) #[] #[]] ++ lb, W1, ?_, ?_, ?_, ?_, fun _ => h1, ?_⟩
  · rw [hro]; exact run_enterLoop_outer _ _ _ _ _
  · simp only [resolve, hg]; simp [go_sem]
  · intro f' hf'; simp [Target.leads] at hf'; subst hf'; exact hFg
  · simp [invoke, go_sem, eg]
  refine (hseq (w.heap.size + 1) (fun pre W => I pre W ∧ Book w.heap.size (rc .ready none) W ∧ Kp w0 W) (fun pre W => ∃ c, Ix c pre W ∧ Book w.heap.size (rc .done (some c)) W) W1 (hKt hK0 (hKg hK0 hgrow))
    (fun s U V h hg => ⟨hIg _ _ _ h.1 hg, h.2.1.grow hg, hKt h.2.2 (hKg h.2.2 hg)⟩) (fun s U V h hg => by obtain ⟨c, h1, h2⟩ := h; exact ⟨c, hIxg _ _ _ _ h1 hg, h2.grow hg⟩)
    ?_ ⟨h0 W1 hgrow (by simp [W1]), hbook, hKt hK0 (hKg hK0 hgrow)⟩).mono ?_
  · -- one round
    rintro pre x W ⟨hi, hb, hk⟩ hy
    refine ⟨fn, _, assign, body, run_yield hb.rcd (hps x), roundIn_of_wpIn hfn (hassign _ x W _ ⟨_, run_beginRound hb.rcd rfl, ?_⟩)⟩
    have hb2 : Book w.heap.size (rc .busy none) (W.putObj (w.heap.size + 1) (.loop (rc .busy none))) := hb.put
    refine wpIn_mono (hbody _ pre x _ (hIp _ _ _ _ hi hb) (hYp _ _ _ _ _ hy hb)) (round_keeps ?_ ?_)
    · intro V hkf hkp hiv
      have hb3 := hb2.kept hkf
      have hkk := hKt (hKr W _) hkp
      exact ⟨_, _, run_endRound none hb3.rcd, .inl ⟨rfl, ⟨hIp _ _ _ _ hiv hb3, hb3.put, hKt hk (hKt hkk (hKr V _))⟩, hKt hkk (hKr V _)⟩⟩
    · intro c V hkf hiv
      have hb3 := hb2.kept hkf
      exact ⟨_, _, run_endRound (some c) hb3.rcd, .inr ⟨rfl, c, hIxp _ _ _ _ _ hiv hb3, hb3.put⟩⟩
  · -- behind the iterator
    rintro e W2 ⟨⟨v, rfl⟩, (⟨xs, hd, hi, hb, _⟩ | ⟨pre, c, hi, hb⟩)⟩
    · exact ⟨none, _, run_endLoop hb.rcd (by simp [rc]), hdone xs _ hd (hIp _ _ _ _ hi hb) (hb.put (r' := { rc .ready none with state := .exhausted })).dfr⟩
    · exact ⟨some c, _, run_endLoop hb.rcd (by simp [rc]), hstop c pre _ (hIxp _ _ _ _ _ hi hb) (hb.put (r' := { rc .done (some c) with state := .exhausted })).dfr⟩
end Go.Proofs.Ytmeoednndfgffaa

/- In a round of a range over a function, too, a region that only reads is walked once (from the third stage). -/
namespace Go.Proofs.Ytmeoednndfgffaa
attribute [local go_sem] Oper.semAt_some
open Go Go.RowKit
set_option linter.unusedVariables false

section
variable {F : Fence} {n : Nat} {P : Program} {ops : Array Oper} {md : Region.Mode} {C : World → Prop}
/-- In a round, too, a region that only reads is walked once. -/
theorem any_of_quiet {Q : Act → Prop} {Q' : Exit → Act → World → Prop} (hnd : ∀ (i : Nat) (o : Oper), ops[i]? = some o → ∀ c, o.op ≠ .defer c) (hQ : ∀ a w, C w → Q a → Q' .normal a w) : ∀ (fuel : Nat) (listed : Array Bool) (a : Act) (w : World), C w →
    wpAnyQIn F n P md ops C Q fuel listed a → wpAnyIn F n P md ops Q' fuel listed a w
  | 0, _, _, _, hw, h => ⟨h.1, hQ _ _ hw h.2⟩
  | fuel + 1, listed, a, w, hw, h => by
    refine ⟨fun h0 => hQ _ _ hw (h.1 h0), fun i hi => ?_⟩
    have h2 := h.2 i hi
    have ih := fun l2 a2 w2 => any_of_quiet hnd hQ fuel l2 a2 w2
    unfold qOpIn at h2
    unfold wpOpIn
    cases ho : ops[i]? with
    | none => rw [ho] at h2; exact ih _ _ _ hw h2
    | some o =>
      rw [ho] at h2
      dsimp only at h2 ⊢
      obtain ⟨hask, h3⟩ := h2
      by_cases hwt : Region.wanted o (yielded ops a.tmps) = true
      · rw [if_pos hwt] at h3 ⊢
        obtain ⟨v, hv, hK⟩ := h3
        have hv1 := hv w hw
        unfold Oper.quietAtIn at hv1
        refine ⟨hask w hw, ?_⟩
        rw [Oper.semAt_eq _ _ _ (hnd i o ho)]
        revert hv1
        generalize (execOp a.eval o).run P w = r
        intro hv1
        cases r with
        | halt x w' => exact hv1.elim
        | ok x w' =>
          cases x <;> try exact hv1.elim
          · obtain ⟨e1, e2⟩ := hv1
            subst e1 e2
            exact ih _ _ _ hw hK
          · obtain ⟨e1, e2⟩ := hv1
            subst e1 e2
            exact ih _ _ _ hw hK
          · obtain ⟨e1, hd, hc⟩ := hv1
            subst e1
            refine ⟨hd, hc.mono ?_⟩
            rintro e w2 ⟨rfl, hw2⟩
            exact ih _ _ _ hw2 hK
      · rw [if_neg hwt] at h3 ⊢
        exact ⟨hask w hw, ih _ _ _ hw h3⟩
theorem region_quiet {id : Nat} {Q : Exit → Act → World → Prop} {a : Act} {w : World} {l : List Oper} (hnd : ∀ o ∈ l, ∀ c, o.op ≠ .defer c) (hm : P.follows .mixedOrders = true) (hB : Region.lexB .any l.toArray = true)
    (h : wpQuietIn F n P l.toArray (fun w' => ∃ n, w' = w.drewN n) (fun a' => ∀ w', (∃ n, w' = w.drewN n) → Q .normal a' w') l a) : (Code.region id l.toArray true).wpIn F n P Q a w := by
  simp only [Region.lexB, Bool.and_eq_true] at hB
  refine wpIn_region_any hm (any_of_quiet (C := fun w' => ∃ n, w' = w.drewN n) (Q := fun a' => ∀ w', (∃ n, w' = w.drewN n) → Q .normal a' w') (fun i o h => hnd o (List.mem_of_getElem? (by simpa using h))) (fun _ w' hw' h => h w' hw') _ _ _ _ ⟨1, rfl⟩ ?_)
  have := wpAnyQIn_lex (F := F) (n := n) (P := P) (C := fun w' => ∃ n, w' = w.drewN n) (Q := fun a' => ∀ w', (∃ n, w' = w.drewN n) → Q .normal a' w') (md := .any) hB.1 l 0 (Array.replicate l.toArray.size false) a (by simp) (by simpa using hB.2) h
  simpa using this
end

end Go.Proofs.Ytmeoednndfgffaa

/- A range over an iterator whose assignment ahead of the body makes memory. No program is named here. -/
namespace Go.Proofs.Ytmeoednndfgffaa
open Go Go.RowKit
set_option linter.unusedVariables false
variable {F : Fence} {n : Nat} {P : Program}
/-- As range_keep, where what is assigned ahead of a round's body makes memory (the loop's variables in boxes): the body begins in a world V₁ x W, its activation names blocks of W. -/
theorem range_box {α : Type} {g : Operand} {ps : Array Tmp} {assign body : Code} {Q : Exit → Act → World → Prop} {a : Act} {w : World}
    (hro : F.round = none) (h1 : 1 ≤ n) {gf : Nat} {lb : Array Value} (hg : a.eval g = .func (.func gf) #[] lb) (hFg : F.fn gf) (eg : ∀ args w, (callFunc gf args).run P w = .ok (.enter gf args) w)
    {encs : α → Array Value} {Y : List α → α → World → Prop} {Kp : World → World → Prop} {done : List α → Prop} {w0 : World} (hseq : SeqMem F (n - 1) P gf lb encs Y Kp done w0) (hps : ∀ x, (encs x).size = ps.size)
    (hKt : ∀ {A B C : World}, Kp A B → Kp B C → Kp A C) (hK0 : Kp w0 w) (hKg : ∀ {A B : World}, Kp w0 A → A.grownBy B none → Kp A B) (hKr : ∀ (A : World) (o : Obj), Kp A (A.putObj (w.heap.size + 1) o))
    (I : List α → World → Prop) (Ix : Code → List α → World → Prop) (hIg : ∀ s U V, I s U → U.grownBy V none → I s V) (hIxg : ∀ c s U V, Ix c s U → U.grownBy V none → Ix c s V)
    (hIp : ∀ s U r r', I s U → Book w.heap.size r U → I s (U.putObj (w.heap.size + 1) (.loop r'))) (hIxp : ∀ c s U r r', Ix c s U → Book w.heap.size r U → Ix c s (U.putObj (w.heap.size + 1) (.loop r')))
    (hYp : ∀ pre x U r r', Y pre x U → Book w.heap.size r U → Y pre x (U.putObj (w.heap.size + 1) (.loop r'))) (hYg : ∀ pre x U V, Y pre x U → U.grownBy V none → Y pre x V) (h0 : ∀ W1, w.grownBy W1 none → W1.heap.size = w.heap.size + 2 → I [] W1) (V₁ : α → World → World) (hV : ∀ (x : α) (W : World), W.grownBy (V₁ x W) none) (At : α → World → World → Prop) (hAt : ∀ x W r r', Book w.heap.size r W → At x W ((V₁ x W).putObj (w.heap.size + 1) (.loop r'))) (a₁ : α → World → Act)
    (hassign : ∀ (l : Nat) (x : α) (W : World) (K : Act → World → Prop), K (a₁ x W) (V₁ x W) →
      assign.wpIn (F.inRound l) (n - 1 - 1) P (Exit.then K (fun _ _ _ => False)) { tmps := (ps.zip (encs x)).foldl (fun t (p, v) => t.setIfInBounds p v) a.tmps, defers := [] } W)
    (hbody : ∀ (l : Nat) (pre : List α) (x : α) (U W : World), I pre W → Y pre x W → At x U W → body.wpIn (F.inRound l) (n - 1 - 1) P (keepPost w.heap.size Kp I Ix (pre ++ [x]) W) (a₁ x U) W)
    (hdone : ∀ (xs : List α) (W : World), done xs → I xs W → W.heap[w.heap.size]? = some (.deferred (some [])) → Q .normal { a with defers := { target := .collected w.heap.size, args := #[] } :: a.defers } W)
    (hstop : ∀ (c : Code) (pre : List α) (W : World), Ix c pre W → W.heap[w.heap.size]? = some (.deferred (some [])) → c.wpIn F n P Q { a with defers := { target := .collected w.heap.size, args := #[] } :: a.defers } W) :
    (Code.rangeFunc g ps assign body).wpIn F n P Q a w := by
  refine wpIn_rangeFunc fun fn hfn => ?_
  let rc : LoopState → Option Code → Loop := fun st pe => { state := st, pending := pe, fn, tmps := a.tmps, params := ps, assign, body, defers := w.heap.size }
  let W1 := (w.alloc (.deferred (some []))).alloc (.loop (rc .ready none))
  have hgrow : w.grownBy W1 none := by
    have g1 := World.grownBy_alloc w (.deferred (some [])) none
    have g2 := World.grownBy_alloc (w.alloc (.deferred (some []))) (.loop (rc .ready none)) none
    exact ⟨g2.os.trans g1.os, g2.tape.trans g1.tape, g2.output.trans g1.output, Nat.le_trans g1.size g2.size, fun k hk hn => (g2.block k (Nat.lt_of_lt_of_le hk g1.size) hn).trans (g1.block k hk hn)⟩
  have hbook : Book w.heap.size (rc .ready none) W1 := by
    constructor
    · have := World.alloc_heap_new (w.alloc (.deferred (some []))) (.loop (rc .ready none))
      rwa [World.size_alloc] at this
    · exact (Below.heap_alloc _ _ _ (by simp)).trans (World.alloc_heap_new w _)
  refine ⟨w.heap.size + 1, [{ target := .collected w.heap.size, args := #[] }], W1, { target := .fn (.func gf) lb, args := #[.func (.yield (w.heap.size + 1)) #[] #[]] }, W1, gf,
    #[.func (.yield (w.heap.size + 1)) #[] #[]] ++ lb, W1, ?_, ?_, ?_, ?_, fun _ => h1, ?_⟩
  · rw [hro]; exact run_enterLoop_outer _ _ _ _ _
  · simp only [resolve, hg]; simp [go_sem]
  · intro f' hf'; simp [Target.leads] at hf'; subst hf'; exact hFg
  · simp [invoke, go_sem, eg]
  refine (hseq (w.heap.size + 1) (fun pre W => I pre W ∧ Book w.heap.size (rc .ready none) W ∧ Kp w0 W) (fun pre W => ∃ c, Ix c pre W ∧ Book w.heap.size (rc .done (some c)) W) W1 (hKt hK0 (hKg hK0 hgrow))
    (fun s U V h hg => ⟨hIg _ _ _ h.1 hg, h.2.1.grow hg, hKt h.2.2 (hKg h.2.2 hg)⟩) (fun s U V h hg => by obtain ⟨c, h1, h2⟩ := h; exact ⟨c, hIxg _ _ _ _ h1 hg, h2.grow hg⟩)
    ?_ ⟨h0 W1 hgrow (by simp [W1]), hbook, hKt hK0 (hKg hK0 hgrow)⟩).mono ?_
  · -- one round
    rintro pre x W ⟨hi, hb, hk⟩ hy
    have hg := hV x W
    have hbV : Book w.heap.size (rc .ready none) (V₁ x W) := hb.grow hg
    refine ⟨fn, _, assign, body, run_yield hb.rcd (hps x), roundIn_of_wpIn hfn (hassign _ x W _ ⟨_, run_beginRound hbV.rcd rfl, ?_⟩)⟩
    have hb2 : Book w.heap.size (rc .busy none) ((V₁ x W).putObj (w.heap.size + 1) (.loop (rc .busy none))) := hbV.put
    have hkV : Kp w0 (V₁ x W) := hKt hk (hKg hk hg)
    refine wpIn_mono (hbody _ pre x W _ (hIp _ _ _ _ (hIg _ _ _ hi hg) hbV) (hYp _ _ _ _ _ (hYg _ _ _ _ hy hg) hbV) (hAt _ _ _ _ hb)) (round_keeps ?_ ?_)
    · intro V hkf hkp hiv
      have hb3 := hb2.kept hkf
      have hkk := hKt (hKr (V₁ x W) _) hkp
      exact ⟨_, _, run_endRound none hb3.rcd, .inl ⟨rfl, ⟨hIp _ _ _ _ hiv hb3, hb3.put, hKt hkV (hKt hkk (hKr V _))⟩, hKt (hKg hk hg) (hKt hkk (hKr V _))⟩⟩
    · intro c V hkf hiv
      have hb3 := hb2.kept hkf
      exact ⟨_, _, run_endRound (some c) hb3.rcd, .inr ⟨rfl, c, hIxp _ _ _ _ _ hiv hb3, hb3.put⟩⟩
  · -- behind the iterator
    rintro e W2 ⟨⟨v, rfl⟩, (⟨xs, hd, hi, hb, _⟩ | ⟨pre, c, hi, hb⟩)⟩
    · exact ⟨none, _, run_endLoop hb.rcd (by simp [rc]), hdone xs _ hd (hIp _ _ _ _ hi hb) (hb.put (r' := { rc .ready none with state := .exhausted })).dfr⟩
    · exact ⟨some c, _, run_endLoop hb.rcd (by simp [rc]), hstop c pre _ (hIxp _ _ _ _ _ hi hb) (hb.put (r' := { rc .done (some c) with state := .exhausted })).dfr⟩
end Go.Proofs.Ytmeoednndfgffaa

/- A range over an iterator that ranges over another one itself: what is told of a loop abides while records of loops turn. No program is named here. -/
namespace Go.Proofs.Ytmeoednndfgffaa
open Go Go.RowKit
set_option linter.unusedVariables false
/-- A loop's record, or what it keeps of deferred calls. -/
def bookish : Obj → Prop
  | .loop _ => True
  | .deferred _ => True
  | _ => False
/-- It abides while memory grows, and while the record of a loop from B on turns. -/
def LoopOwn {β : Type} (B : Nat) (I : β → World → Prop) : Prop := ∀ s W W' row, I s W → W.grownBy W' row → (∀ r, row = some r → B ≤ r ∧ ∃ o, W.heap[r]? = some o ∧ bookish o) → I s W'
theorem LoopOwn.grow {β : Type} {B : Nat} {I : β → World → Prop} (h : LoopOwn B I) {s : β} {U V : World} (hs : I s U) (hg : U.grownBy V none) : I s V := h s U V none hs hg (fun r e => by cases e)
theorem grown_put (U : World) (q : Nat) (o : Obj) : U.grownBy (U.putObj q o) (some q) :=
  ⟨rfl, rfl, rfl, by simp [World.putObj], fun k hk hn => World.putObj_heap_other (fun e => hn (by rw [e]))⟩
theorem LoopOwn.put {β : Type} {B : Nat} {I : β → World → Prop} (h : LoopOwn B I) {s : β} {U : World} {q : Nat} {r r' : Loop} (hs : I s U) (hq : B ≤ q) (hl : U.heap[q]? = some (.loop r)) : I s (U.putObj q (.loop r')) :=
  h s U _ (some q) hs (grown_put U q _) (fun _ e => by cases e; exact ⟨hq, _, hl, trivial⟩)
theorem LoopOwn.done {β : Type} {B : Nat} {I : β → World → Prop} (h : LoopOwn B I) {s : β} {U : World} {q : Nat} {o' : Obj} (hs : I s U) (hq : B ≤ q) (hl : U.heap[q]? = some o') (o : Obj) (hb : bookish o' := by trivial) : I s (U.putObj q o) :=
  h s U _ (some q) hs (grown_put U q _) (fun _ e => by cases e; exact ⟨hq, _, hl, hb⟩)
theorem LoopOwn.mono {β : Type} {B B' : Nat} {I : β → World → Prop} (h : LoopOwn B I) (hB : B ≤ B') : LoopOwn B' I := fun s W W' row hs hg hr => h s W W' row hs hg (fun r e => ⟨Nat.le_trans hB (hr r e).1, (hr r e).2⟩)
theorem Book.away {B : Nat} {r : Loop} {U V : World} {row : Option Nat} (h : Book B r U) (hg : U.grownBy V row) (hr : ∀ q, row = some q → B + 2 ≤ q) : Book B r V :=
  ⟨(hg.block _ h.lt (fun e => by have := hr _ e.symm; omega)).trans h.rcd, (hg.block _ (Nat.lt_of_succ_lt h.lt) (fun e => by have := hr _ e.symm; omega)).trans h.dfr⟩
/-- What an iterator answers, called in the world W: what comes, 'Y pre x U'; 'Kp': what a round must leave to the iterator. -/
def SeqAt {α : Type} (F : Fence) (n : Nat) (P : Program) (g : Nat) (lb : Array Value) (encs : α → Array Value) (Y : List α → α → World → Prop) (Kp : World → World → Prop) (done : List α → Prop) (W : World) : Prop :=
  ∀ (l : Nat) (J Jx : List α → World → Prop), LoopOwn W.heap.size J → LoopOwn W.heap.size Jx →
    (∀ pre x U, J pre U → Y pre x U → YieldAt F (n - 1) P l (encs x) U fun e V => (e = .returned (.bool true) ∧ J (pre ++ [x]) V ∧ Kp U V) ∨ (e = .returned (.bool false) ∧ Jx (pre ++ [x]) V ∧ Kp U V)) →
    J [] W → CallsIn F n P g (#[.func (.yield l) #[] #[]] ++ lb) W fun e V => (∃ v, e = .returned v) ∧ ((∃ xs, done xs ∧ J xs V) ∨ ∃ pre, Jx pre V)
/-- What a round leaves, for the iterator too. -/
def nestPost {α : Type} (B : Nat) (Kp : World → World → Prop) (I : List α → World → Prop) (Ix : Code → List α → World → Prop) (xs : List α) (W : World) : Exit → Act → World → Prop
  | .normal, _, V => BookKept B W V ∧ Kp W V ∧ I xs V
  | .ret, _, V => BookKept B W V ∧ Kp W V ∧ Ix .ret xs V
  | .exit id, _, V => BookKept B W V ∧ Kp W V ∧ Ix (.exit id) xs V
  | .goto t, _, V => BookKept B W V ∧ Kp W V ∧ Ix (.goto t) xs V
  | .panic _, _, _ => False
  | .outgrown, _, _ => False
variable {F : Fence} {n : Nat} {P : Program}
theorem round_nests {α : Type} {l : Nat} {R : Ending → World → Prop} {B : Nat} {Kp : World → World → Prop} {I : List α → World → Prop} {Ix : Code → List α → World → Prop} {xs : List α} {W : World}
    (go : ∀ V, BookKept B W V → Kp W V → I xs V → ∃ v V', (Instr.endRound l none).run P V = .ok v V' ∧ R (.returned v) V')
    (leave : ∀ c V, BookKept B W V → Kp W V → Ix c xs V → ∃ v V', (Instr.endRound l (some c)).run P V = .ok v V' ∧ R (.returned v) V') :
    ∀ (e : Exit) (a : Act) (V : World), nestPost B Kp I Ix xs W e a V → roundPost P l R e a V
  | .normal, _, V, h => go V h.1 h.2.1 h.2.2
  | .ret, _, V, h => leave .ret V h.1 h.2.1 h.2.2
  | .exit id, _, V, h => leave (.exit id) V h.1 h.2.1 h.2.2
  | .goto t, _, V, h => leave (.goto t) V h.1 h.2.1 h.2.2
  | .panic _, _, _, h => h
  | .outgrown, _, _, h => h
theorem range_nest {α : Type} {g : Operand} {ps : Array Tmp} {assign body : Code} {Q : Exit → Act → World → Prop} {a : Act} {w : World}
    (hro : F.round = none) (h1 : 1 ≤ n) {gf : Nat} {lb : Array Value} (hg : a.eval g = .func (.func gf) #[] lb) (hFg : F.fn gf) (eg : ∀ args w, (callFunc gf args).run P w = .ok (.enter gf args) w)
    {encs : α → Array Value} {Y : List α → α → World → Prop} {Kp : World → World → Prop} {done : List α → Prop} (hseq : ∀ W1, w.grownBy W1 none → W1.heap.size = w.heap.size + 2 → SeqAt F (n - 1) P gf lb encs Y Kp done W1) (hps : ∀ x, (encs x).size = ps.size)
    (hKt : ∀ {A B C : World}, Kp A B → Kp B C → Kp A C) (hKg : ∀ {A B : World}, A.grownBy B none → Kp A B) (hKr : ∀ (A : World) (o : Obj), Kp A (A.putObj (w.heap.size + 1) o))
    (I : List α → World → Prop) (Ix : Code → List α → World → Prop) (hI : LoopOwn w.heap.size I) (hIx : ∀ c, LoopOwn w.heap.size (Ix c)) (hY : ∀ pre, LoopOwn w.heap.size (Y pre)) (h0 : ∀ W1, w.grownBy W1 none → W1.heap.size = w.heap.size + 2 → I [] W1) (V₁ : α → World → World) (hV : ∀ (x : α) (W : World), W.grownBy (V₁ x W) none) (At : α → World → World → Prop) (hAt : ∀ x W r r', Book w.heap.size r W → At x W ((V₁ x W).putObj (w.heap.size + 1) (.loop r'))) (a₁ : α → World → Act)
    (hassign : ∀ (l : Nat) (x : α) (W : World) (K : Act → World → Prop), K (a₁ x W) (V₁ x W) →
      assign.wpIn (F.inRound l) (n - 1 - 1) P (Exit.then K (fun _ _ _ => False)) { tmps := (ps.zip (encs x)).foldl (fun t (p, v) => t.setIfInBounds p v) a.tmps, defers := [] } W)
    (hbody : ∀ (l : Nat) (pre : List α) (x : α) (U W : World), I pre W → Y pre x W → At x U W → body.wpIn (F.inRound l) (n - 1 - 1) P (nestPost w.heap.size Kp I Ix (pre ++ [x]) W) (a₁ x U) W)
    (hdone : ∀ (xs : List α) (W : World), done xs → I xs W → W.heap[w.heap.size]? = some (.deferred (some [])) → Q .normal { a with defers := { target := .collected w.heap.size, args := #[] } :: a.defers } W)
    (hstop : ∀ (c : Code) (pre : List α) (W : World), Ix c pre W → W.heap[w.heap.size]? = some (.deferred (some [])) → c.wpIn F n P Q { a with defers := { target := .collected w.heap.size, args := #[] } :: a.defers } W) :
    (Code.rangeFunc g ps assign body).wpIn F n P Q a w := by
  refine wpIn_rangeFunc fun fn hfn => ?_
  let rc : LoopState → Option Code → Loop := fun st pe => { state := st, pending := pe, fn, tmps := a.tmps, params := ps, assign, body, defers := w.heap.size }
  let W1 := (w.alloc (.deferred (some []))).alloc (.loop (rc .ready none))
  have hgrow : w.grownBy W1 none := by
    have g1 := World.grownBy_alloc w (.deferred (some [])) none
    have g2 := World.grownBy_alloc (w.alloc (.deferred (some []))) (.loop (rc .ready none)) none
    exact ⟨g2.os.trans g1.os, g2.tape.trans g1.tape, g2.output.trans g1.output, Nat.le_trans g1.size g2.size, fun k hk hn => (g2.block k (Nat.lt_of_lt_of_le hk g1.size) hn).trans (g1.block k hk hn)⟩
  have hbook : Book w.heap.size (rc .ready none) W1 := by
    constructor
    · have := World.alloc_heap_new (w.alloc (.deferred (some []))) (.loop (rc .ready none))
      rwa [World.size_alloc] at this
    · exact (Below.heap_alloc _ _ _ (by simp)).trans (World.alloc_heap_new w _)
  refine ⟨w.heap.size + 1, [{ target := .collected w.heap.size, args := #[] }], W1, { target := .fn (.func gf) lb, args := #[.func (.yield (w.heap.size + 1)) #[] #[]] }, W1, gf,
    #[.func (.yield (w.heap.size + 1)) #[] #[]] ++ lb, W1, ?_, ?_, ?_, ?_, fun _ => h1, ?_⟩
  · rw [hro]; exact run_enterLoop_outer _ _ _ _ _
  · simp only [resolve, hg]; simp [go_sem]
  · intro f' hf'; simp [Target.leads] at hf'; subst hf'; exact hFg
  · simp [invoke, go_sem, eg]
  have hw1 : W1.heap.size = w.heap.size + 2 := by simp [W1]
  refine (hseq W1 hgrow hw1 (w.heap.size + 1) (fun pre W => I pre W ∧ Book w.heap.size (rc .ready none) W) (fun pre W => ∃ c, Ix c pre W ∧ Book w.heap.size (rc .done (some c)) W)
    (fun s U V row h hg hr => ⟨hI s U V row h.1 hg (fun r e => ⟨by have := (hr r e).1; omega, (hr r e).2⟩), h.2.away hg (fun r e => by have := (hr r e).1; omega)⟩)
    (fun s U V row h hg hr => by obtain ⟨c, h1, h2⟩ := h; exact ⟨c, hIx c s U V row h1 hg (fun r e => ⟨by have := (hr r e).1; omega, (hr r e).2⟩), h2.away hg (fun r e => by have := (hr r e).1; omega)⟩)
    ?_ ⟨h0 W1 hgrow hw1, hbook⟩).mono ?_
  · -- one round
    rintro pre x W ⟨hi, hb⟩ hy
    have hg := hV x W
    have hbV : Book w.heap.size (rc .ready none) (V₁ x W) := hb.grow hg
    refine ⟨fn, _, assign, body, run_yield hb.rcd (hps x), roundIn_of_wpIn hfn (hassign _ x W _ ⟨_, run_beginRound hbV.rcd rfl, ?_⟩)⟩
    have hb2 : Book w.heap.size (rc .busy none) ((V₁ x W).putObj (w.heap.size + 1) (.loop (rc .busy none))) := hbV.put
    refine wpIn_mono (hbody _ pre x W _ (hI.put (hI.grow hi hg) (Nat.le_succ _) hbV.rcd) ((hY pre).put ((hY pre).grow hy hg) (Nat.le_succ _) hbV.rcd) (hAt _ _ _ _ hb)) (round_nests ?_ ?_)
    · intro V hkf hkp hiv
      have hb3 := hb2.kept hkf
      have hkk := hKt (hKr (V₁ x W) _) hkp
      exact ⟨_, _, run_endRound none hb3.rcd, .inl ⟨rfl, ⟨hI.put hiv (Nat.le_succ _) hb3.rcd, hb3.put⟩, hKt (hKg hg) (hKt hkk (hKr V _))⟩⟩
    · intro c V hkf hkp hiv
      have hb3 := hb2.kept hkf
      have hkk := hKt (hKr (V₁ x W) _) hkp
      exact ⟨_, _, run_endRound (some c) hb3.rcd, .inr ⟨rfl, ⟨c, (hIx c).put hiv (Nat.le_succ _) hb3.rcd, hb3.put⟩, hKt (hKg hg) (hKt hkk (hKr V _))⟩⟩
  · -- behind the iterator
    rintro e W2 ⟨⟨v, rfl⟩, (⟨xs, hd, hi, hb⟩ | ⟨pre, c, hi, hb⟩)⟩
    · exact ⟨none, _, run_endLoop hb.rcd (by simp [rc]), hdone xs _ hd (hI.put hi (Nat.le_succ _) hb.rcd) (hb.put (r' := { rc .ready none with state := .exhausted })).dfr⟩
    · exact ⟨some c, _, run_endLoop hb.rcd (by simp [rc]), hstop c pre _ ((hIx c).put hi (Nat.le_succ _) hb.rcd) (hb.put (r' := { rc .done (some c) with state := .exhausted })).dfr⟩
end Go.Proofs.Ytmeoednndfgffaa

/- A region that draws its order, taken by hand: what is held of the world may grow on the way. -/
namespace Go.Proofs.Ytmeoednndfgffaa
open Go
section
variable {P : Program} {ops : Array Oper} {Q : Exit → Act → World → Prop} {md : Region.Mode} {S S' : World → Prop}

/-- What holds under a stronger condition holds. -/
theorem held_more (hS : ∀ w, S' w → S w) : ∀ (fuel : Nat) (listed : Array Bool) (a : Act) (w : World), wpAnyH P md ops Q S' fuel listed a w → wpAnyH P md ops Q S fuel listed a w
  | 0, _, _, _, h => h
  | fuel + 1, _, _, _, h => ⟨h.1, fun i hi => wpOp_mono (fun a' w' h' => ⟨hS w' h'.1, held_more hS fuel _ a' w' h'.2⟩) (h.2 i hi)⟩
theorem held_begin {id : Nat} {a : Act} {w : World} (n : Nat) (S : World → Prop) (hn : ops.size = n) (hm : P.follows .mixedOrders = true)
    (h : wpAnyH P .any ops Q S n (Array.replicate n false) a w.drew) : (Code.region id ops true).wp P Q a w := by
  subst hn
  exact wp_region_held hm h
/-- An operation that yields v in each world of S is taken first. -/
theorem held_take {i t : Nat} {o : Oper} {v : Value} {fuel : Nat} {listed : Array Bool} {tm : Array Value} {ds : List Deferred} {w : World} (hi : ops[i]? = some o) (hd : o.dst = some t)
    (hs : Region.noSelect ops = true) (hf : Region.free md ops listed i = true) (hr : (Region.ready md ops listed).contains i = true)
    (hQ2 : ∀ c a w, Q (.panic c) (a.put o.dst v) w → Q (.panic c) a w) (hy : YieldsIf P ops S o v ⟨tm, ds⟩) (hS : S w)
    (h : wpAnyH P md ops Q S fuel (listed.setIfInBounds i true) ⟨tm.setIfInBounds t v, ds⟩ w) : wpAnyH P md ops Q S (fuel + 1) listed ⟨tm, ds⟩ w := by
  refine wpAnyH_take hi hs hf hr hQ2 hy hS ?_
  rw [hd]
  exact h
/-- One operation alone is ready, and is a call (or another that turns the world). -/
theorem held_call {i : Nat} {o : Oper} {fuel : Nat} {listed : Array Bool} {a : Act} {w : World} (hi : ops[i]? = some o) (hr : Region.ready md ops listed = [i]) (hw : Region.wanted o (yielded ops a.tmps) = true)
    (h : o.wp P a w (fun a' w' => S w' ∧ wpAnyH P md ops Q S fuel (listed.setIfInBounds i true) a' w') Q) : wpAnyH P md ops Q S (fuel + 1) listed a w :=
  wpAnyH_all hr (by simp) (fun j hj => by
    obtain rfl : j = i := by simpa using hj
    unfold wpOp
    simp only [hi]
    rw [if_pos hw]
    exact .inl h)
end
end Go.Proofs.Ytmeoednndfgffaa

/- A region that draws its order, taken by hand: what is held of the world is held till one last operation, a store. -/
namespace Go.Proofs.Ytmeoednndfgffaa
open Go
section
variable {P : Program} {ops : Array Oper} {Q : Exit → Act → World → Prop} {md : Region.Mode} {S : World → Prop} {z : Nat}

/-- Whatever order is picked, and S holds behind each operation but the one of number z. -/
def wpAnyT (P : Program) (md : Region.Mode) (ops : Array Oper) (Q : Exit → Act → World → Prop) (S : World → Prop) (z : Nat) : Nat → Array Bool → Act → World → Prop
  | 0, listed, a, w => Region.ready md ops listed = [] ∧ Q .normal a w
  | fuel + 1, listed, a, w =>
    (Region.ready md ops listed = [] → Q .normal a w) ∧
    ∀ i ∈ Region.ready md ops listed, wpOp P ops Q i (fun a' w' => (i ≠ z → S w') ∧ wpAnyT P md ops Q S z fuel (listed.setIfInBounds i true) a' w') a w
theorem any_of_till : ∀ (fuel : Nat) (listed : Array Bool) (a : Act) (w : World), wpAnyT P md ops Q S z fuel listed a w → wpAny P md ops Q fuel listed a w
  | 0, _, _, _, h => h
  | fuel + 1, _, _, _, h => ⟨h.1, fun i hi => wpOp_mono (fun a' w' h' => any_of_till fuel _ a' w' h'.2) (h.2 i hi)⟩
/-- Does number z wait for number i? -/
def waitsB (md : Region.Mode) (ops : Array Oper) (z i : Nat) : Bool :=
  match ops[z]? with
  | some o => o.after.any fun e => Region.binds md e && (e.on == i)
  | none => false
theorem waits_spec {i : Nat} {o : Oper} (h : waitsB md ops z i = true) (ho : ops[z]? = some o) : ∃ e ∈ o.after, Region.binds md e = true ∧ e.on = i := by
  unfold waitsB at h
  rw [ho] at h
  obtain ⟨k, hk, he⟩ := Array.any_eq_true.1 h
  simp only [Bool.and_eq_true, beq_iff_eq] at he
  exact ⟨o.after[k], Array.getElem_mem hk, he⟩
theorem till_first {i : Nat} {oi : Oper} {v : Value} (hi : ops[i]? = some oi) (hsel : ∀ (j : Nat) (o : Oper) cs b, ops[j]? = some o → o.op ≠ .select cs b)
    (hQ : ∀ c a w, Q (.panic c) (a.put oi.dst v) w → Q (.panic c) a w) (hz : waitsB md ops z i = true) :
    ∀ (fuel : Nat) (listed : Array Bool) (a : Act) (w : World),
      (∀ j oj, ops[j]? = some oj → j ≠ i → listed.getD j true = false → (∀ e ∈ oj.after, Region.binds md e = true → e.on ≠ i) → oi.apart ops oj = true) →
      i ∈ Region.ready md ops listed → YieldsIf P ops S oi v a → S w →
      wpAnyT P md ops Q S z fuel (listed.setIfInBounds i true) (a.put oi.dst v) w → wpAnyT P md ops Q S z (fuel + 1) listed a w := by
  intro fuel
  induction fuel with
  | zero =>
    intro listed a w _ hr hy hS H
    refine ⟨fun h => (by rw [h] at hr; cases hr), fun j hj => ?_⟩
    by_cases hji : j = i
    · subst hji; exact hy.wpOp hi hS ⟨fun _ => hS, H⟩
    · have := ready_mono hj hji
      rw [H.1] at this
      cases this
  | succ fuel ih =>
    intro listed a w hfree hr hy hS H
    refine ⟨fun h => (by rw [h] at hr; cases hr), fun j hj => ?_⟩
    by_cases hji : j = i
    · subst hji; exact hy.wpOp hi hS ⟨fun _ => hS, H⟩
    · have h1 := H.2 j (ready_mono hj hji)
      obtain ⟨hjun, oj, hoj, hall⟩ := mem_ready.1 hj
      have hnot : ∀ e ∈ oj.after, Region.binds md e = true → e.on ≠ i := fun e he hb heq => by
        have h1 := hall e he hb
        have h0 := (mem_ready.1 hr).1
        rw [heq] at h1
        rcases Nat.lt_or_ge i listed.size with h' | h'
        · simp [h'] at h0 h1; rw [h0] at h1; cases h1
        · simp [Array.getElem?_eq_none h'] at h1
      have hjz : j ≠ z := by
        rintro rfl
        obtain ⟨e, he, hb, ho⟩ := waits_spec hz hoj
        exact hnot e he hb ho
      have h2 := wpOp_putIf hoj (hfree j oj hoj hji hjun hnot) (fun cs b => hsel i oi cs b hi) (fun cs b => hsel j oj cs b hoj) hQ hy h1
      have hfree' : ∀ k ok, ops[k]? = some ok → k ≠ i → (listed.setIfInBounds j true).getD k true = false →
          (∀ e ∈ ok.after, Region.binds md e = true → e.on ≠ i) → oi.apart ops ok = true := fun k ok hk hki hun hno => by
        refine hfree k ok hk hki ?_ hno
        by_cases hjk : j = k
        · subst hjk; exact hjun
        · rw [getD_set_ne true hjk] at hun; exact hun
      refine wpOp_mono (fun a' w' h3 => ⟨h3.2.1, ih (listed.setIfInBounds j true) a' w' hfree' (ready_mono hr (Ne.symm hji)) h3.1 (h3.2.1 hjz) ?_⟩) h2
      rw [Array.setIfInBounds_comm _ _ hji]
      exact h3.2.2
theorem till_begin {id : Nat} {a : Act} {w : World} (n z : Nat) (S : World → Prop) (hn : ops.size = n) (hm : P.follows .mixedOrders = true)
    (h : wpAnyT P .any ops Q S z n (Array.replicate n false) a w.drew) : (Code.region id ops true).wp P Q a w := by
  subst hn
  exact wp_region_any hm (any_of_till _ _ _ _ h)
/-- An operation that yields v in each world of S, and that the last one waits for, is taken first. -/
theorem till_take {i t : Nat} {o : Oper} {v : Value} {fuel : Nat} {listed : Array Bool} {tm : Array Value} {ds : List Deferred} {w : World} (hi : ops[i]? = some o) (hd : o.dst = some t)
    (hs : Region.noSelect ops = true) (hf : Region.free md ops listed i = true) (hr : (Region.ready md ops listed).contains i = true) (hz : waitsB md ops z i = true)
    (hQ2 : ∀ c a w, Q (.panic c) (a.put o.dst v) w → Q (.panic c) a w) (hy : YieldsIf P ops S o v ⟨tm, ds⟩) (hS : S w)
    (h : wpAnyT P md ops Q S z fuel (listed.setIfInBounds i true) ⟨tm.setIfInBounds t v, ds⟩ w) : wpAnyT P md ops Q S z (fuel + 1) listed ⟨tm, ds⟩ w := by
  refine till_first hi (Region.noSelect_spec hs) hQ2 hz fuel listed _ w (Region.free_spec hi hf) (by simpa using hr) hy hS ?_
  rw [hd]
  exact h
theorem till_all {rs : List Nat} {fuel : Nat} {listed : Array Bool} {a : Act} {w : World} (hr : Region.ready md ops listed = rs) (hne : rs ≠ [])
    (h : ∀ i ∈ rs, wpOp P ops Q i (fun a' w' => (i ≠ z → S w') ∧ wpAnyT P md ops Q S z fuel (listed.setIfInBounds i true) a' w') a w) : wpAnyT P md ops Q S z (fuel + 1) listed a w :=
  ⟨fun h0 => absurd (hr ▸ h0) hne, hr ▸ h⟩
/-- One operation alone is ready. -/
theorem till_one {i : Nat} {o : Oper} {fuel : Nat} {listed : Array Bool} {a : Act} {w : World} (hi : ops[i]? = some o) (hr : Region.ready md ops listed = [i]) (hw : Region.wanted o (yielded ops a.tmps) = true)
    (h : o.wp P a w (fun a' w' => (i ≠ z → S w') ∧ wpAnyT P md ops Q S z fuel (listed.setIfInBounds i true) a' w') Q) : wpAnyT P md ops Q S z (fuel + 1) listed a w :=
  till_all hr (by simp) (fun j hj => by
    obtain rfl : j = i := by simpa using hj
    unfold wpOp
    simp only [hi]
    rw [if_pos hw]
    exact .inl h)
/-- Two operations are ready. -/
theorem till_two {i k : Nat} {o p : Oper} {fuel : Nat} {listed : Array Bool} {a : Act} {w : World} (hr : Region.ready md ops listed = [i, k])
    (hi : ops[i]? = some o) (hw : Region.wanted o (yielded ops a.tmps) = true) (hk : ops[k]? = some p) (hwk : Region.wanted p (yielded ops a.tmps) = true)
    (h : o.wp P a w (fun a' w' => (i ≠ z → S w') ∧ wpAnyT P md ops Q S z fuel (listed.setIfInBounds i true) a' w') Q)
    (h2 : p.wp P a w (fun a' w' => (k ≠ z → S w') ∧ wpAnyT P md ops Q S z fuel (listed.setIfInBounds k true) a' w') Q) : wpAnyT P md ops Q S z (fuel + 1) listed a w :=
  till_all hr (by simp) (fun j hj => by
    simp only [List.mem_cons, List.not_mem_nil, or_false] at hj
    rcases hj with rfl | rfl
    · unfold wpOp
      simp only [hi]
      rw [if_pos hw]
      exact .inl h
    · unfold wpOp
      simp only [hk]
      rw [if_pos hwk]
      exact .inl h2)
/-- All have come up. -/
theorem till_done {fuel : Nat} {listed : Array Bool} {a : Act} {w : World} (hr : Region.ready md ops listed = []) (h : Q .normal a w) : wpAnyT P md ops Q S z fuel listed a w := by
  cases fuel with
  | zero => exact ⟨hr, h⟩
  | succ n => exact ⟨fun _ => h, by rw [hr]; simp⟩
end
end Go.Proofs.Ytmeoednndfgffaa

/- A region that draws its order, in a round of a range over a function: taken by hand as outside of rounds. No program is named here. -/
namespace Go.Proofs.Ytmeoednndfgffaa
open Go Go.RowKit
section
variable {P : Program} {ops : Array Oper} {Q : Exit → Act → World → Prop} {md : Region.Mode} {l n : Nat}
theorem rows_round {r : String} {args : Array Value} {w : World} {R : Value → World → Prop} (h : Rows P r args w R) : RowsIn (Fence.wide.inRound l) n P r args w R :=
  fun c cs _ => let ⟨v, w', hr, s⟩ := h c cs; ⟨v, w', hr, stepsIn_wide.2 s⟩
theorem oper_round {o : Oper} {a : Act} {w : World} {K : Act → World → Prop} (hd : ∀ c, o.op ≠ .defer c) (h : o.wp P a w K Q) : o.wpIn (Fence.wide.inRound l) n P a w K Q := by
  refine ⟨fun f _ => trivial, ?_⟩
  rw [Oper.semAt_eq _ _ _ hd]
  unfold Oper.wp at h
  generalize (execOp a.eval o).run P w = r at h ⊢
  cases r with
  | ok x w' =>
    cases x with
    | value v => exact h
    | skip => exact h
    | defer d => exact h
    | enter f args => exact ⟨(fun h => (by cases h)), CallsIn.inRound l (callsIn_wide.2 h)⟩
    | row r args => exact ⟨(fun h => (by cases h)), rows_round h⟩
    | _ => exact h.elim
  | halt x w' =>
    cases x with
    | panic v => exact h
    | _ => exact h.elim
theorem any_round (hd : ∀ (i : Nat) (o : Oper), ops[i]? = some o → ∀ c, o.op ≠ .defer c) (hL : ¬ LetsOut Q) : ∀ (fuel : Nat) (listed : Array Bool) (a : Act) (w : World), wpAny P md ops Q fuel listed a w → wpAnyIn (Fence.wide.inRound l) n P md ops Q fuel listed a w
  | 0, _, _, _, h => h
  | fuel + 1, listed, a, w, h => ⟨h.1, fun i hi => by
    have h2 := h.2 i hi
    unfold wpOp at h2
    unfold wpOpIn
    cases ho : ops[i]? with
    | none => rw [ho] at h2; exact any_round hd hL fuel _ _ _ h2
    | some o =>
      rw [ho] at h2
      dsimp only at h2 ⊢
      by_cases hw : Region.wanted o (yielded ops a.tmps) = true
      · rw [if_pos hw] at h2 ⊢
        rcases h2 with h2 | h2
        · exact Oper.wpIn_mono (fun a' w' h3 => any_round hd hL fuel _ _ _ h3) (oper_round (hd i o ho) h2)
        · exact absurd h2.2 hL
      · rw [if_neg hw] at h2 ⊢
        exact ⟨fun f _ => trivial, any_round hd hL fuel _ _ _ h2⟩⟩
/-- In a round, too: held_begin. -/
theorem held_round {id : Nat} {a : Act} {w : World} (k : Nat) (S : World → Prop) (hn : ops.size = k) (hm : P.follows .mixedOrders = true) (hd : ∀ o ∈ ops, ∀ c, o.op ≠ .defer c) (hL : ¬ LetsOut Q)
    (h : wpAnyH P .any ops Q S k (Array.replicate k false) a w.drew) : (Code.region id ops true).wpIn (Fence.wide.inRound l) n P Q a w := by
  subst hn
  exact wpIn_region_any hm (any_round (fun i o ho => hd o (Array.mem_of_getElem? ho)) hL _ _ _ _ (wpAny_of_held _ _ _ _ h))
/-- In a round, too: till_begin. -/
theorem till_round {id : Nat} {a : Act} {w : World} (k z : Nat) (S : World → Prop) (hn : ops.size = k) (hm : P.follows .mixedOrders = true) (hd : ∀ o ∈ ops, ∀ c, o.op ≠ .defer c) (hL : ¬ LetsOut Q)
    (h : wpAnyT P .any ops Q S z k (Array.replicate k false) a w.drew) : (Code.region id ops true).wpIn (Fence.wide.inRound l) n P Q a w := by
  subst hn
  exact wpIn_region_any hm (any_round (fun i o ho => hd o (Array.mem_of_getElem? ho)) hL _ _ _ _ (any_of_till _ _ _ _ h))
end
end Go.Proofs.Ytmeoednndfgffaa

/- A region that draws its order, taken by hand: what is held of the world may fall with one operation, a store; others may come behind it. -/
namespace Go.Proofs.Ytmeoednndfgffaa
open Go
def noPanic (Q : Exit → Act → World → Prop) : Exit → Act → World → Prop
  | .panic _, _, _ => False
  | .outgrown, _, _ => False
  | e, a, w => Q e a w
theorem noPanic_le {Q : Exit → Act → World → Prop} : ∀ e a w, noPanic Q e a w → Q e a w
  | .normal, _, _, h => h
  | .ret, _, _, h => h
  | .exit _, _, _, h => h
  | .goto _, _, _, h => h
  | .panic _, _, _, h => h.elim
  | .outgrown, _, _, h => h.elim
section
variable {P : Program} {ops : Array Oper} {Q : Exit → Act → World → Prop} {md : Region.Mode} {S : World → Prop} {z : Nat}

/-- Whatever order is picked, and S holds behind each operation till the one of number z has come up. -/
def wpAnyZ (P : Program) (md : Region.Mode) (ops : Array Oper) (Q : Exit → Act → World → Prop) (S : World → Prop) (z : Nat) : Nat → Array Bool → Act → World → Prop
  | 0, listed, a, w => Region.ready md ops listed = [] ∧ Q .normal a w
  | fuel + 1, listed, a, w =>
    (Region.ready md ops listed = [] → Q .normal a w) ∧
    ∀ i ∈ Region.ready md ops listed, wpOp P ops Q i (fun a' w' => (listed.getD z true = false → i ≠ z → S w') ∧ wpAnyZ P md ops Q S z fuel (listed.setIfInBounds i true) a' w') a w
theorem held_of_z : ∀ (fuel : Nat) (listed : Array Bool) (a : Act) (w : World), wpAnyZ P md ops Q S z fuel listed a w → wpAnyH P md ops Q (fun _ => True) fuel listed a w
  | 0, _, _, _, h => h
  | fuel + 1, _, _, _, h => ⟨h.1, fun i hi => wpOp_mono (fun a' w' h' => ⟨trivial, held_of_z fuel _ a' w' h'.2⟩) (h.2 i hi)⟩
theorem z_first {i : Nat} {oi : Oper} {v : Value} (hi : ops[i]? = some oi) (hsel : ∀ (j : Nat) (o : Oper) cs b, ops[j]? = some o → o.op ≠ .select cs b)
    (hQ : ∀ c a w, Q (.panic c) (a.put oi.dst v) w → Q (.panic c) a w) (hz : waitsB md ops z i = true) (hiz : i ≠ z) :
    ∀ (fuel : Nat) (listed : Array Bool) (a : Act) (w : World), listed.getD z true = false →
      (∀ j oj, ops[j]? = some oj → j ≠ i → listed.getD j true = false → (∀ e ∈ oj.after, Region.binds md e = true → e.on ≠ i) → oi.apart ops oj = true) →
      i ∈ Region.ready md ops listed → YieldsIf P ops S oi v a → S w →
      wpAnyZ P md ops Q S z fuel (listed.setIfInBounds i true) (a.put oi.dst v) w → wpAnyZ P md ops Q S z (fuel + 1) listed a w := by
  intro fuel
  induction fuel with
  | zero =>
    intro listed a w hzl _ hr hy hS H
    refine ⟨fun h => (by rw [h] at hr; cases hr), fun j hj => ?_⟩
    by_cases hji : j = i
    · subst hji; exact hy.wpOp hi hS ⟨fun _ _ => hS, H⟩
    · have := ready_mono hj hji
      rw [H.1] at this
      cases this
  | succ fuel ih =>
    intro listed a w hzl hfree hr hy hS H
    refine ⟨fun h => (by rw [h] at hr; cases hr), fun j hj => ?_⟩
    by_cases hji : j = i
    · subst hji; exact hy.wpOp hi hS ⟨fun _ _ => hS, H⟩
    · have h1 := H.2 j (ready_mono hj hji)
      obtain ⟨hjun, oj, hoj, hall⟩ := mem_ready.1 hj
      have hnot : ∀ e ∈ oj.after, Region.binds md e = true → e.on ≠ i := fun e he hb heq => by
        have h1 := hall e he hb
        have h0 := (mem_ready.1 hr).1
        rw [heq] at h1
        rcases Nat.lt_or_ge i listed.size with h' | h'
        · simp [h'] at h0 h1; rw [h0] at h1; cases h1
        · simp [Array.getElem?_eq_none h'] at h1
      have hjz : j ≠ z := by
        rintro rfl
        obtain ⟨e, he, hb, ho⟩ := waits_spec hz hoj
        exact hnot e he hb ho
      have hzi : (listed.setIfInBounds i true).getD z true = false := by rw [getD_set_ne true hiz]; exact hzl
      have hzj : (listed.setIfInBounds j true).getD z true = false := by rw [getD_set_ne true hjz]; exact hzl
      have h2 := wpOp_putIf hoj (hfree j oj hoj hji hjun hnot) (fun cs b => hsel i oi cs b hi) (fun cs b => hsel j oj cs b hoj) hQ hy h1
      have hfree' : ∀ k ok, ops[k]? = some ok → k ≠ i → (listed.setIfInBounds j true).getD k true = false →
          (∀ e ∈ ok.after, Region.binds md e = true → e.on ≠ i) → oi.apart ops ok = true := fun k ok hk hki hun hno => by
        refine hfree k ok hk hki ?_ hno
        by_cases hjk : j = k
        · subst hjk; exact hjun
        · rw [getD_set_ne true hjk] at hun; exact hun
      refine wpOp_mono (fun a' w' h3 => ⟨fun _ _ => h3.2.1 hzi hjz, ih (listed.setIfInBounds j true) a' w' hzj hfree' (ready_mono hr (Ne.symm hji)) h3.1 (h3.2.1 hzi hjz) ?_⟩) h2
      rw [Array.setIfInBounds_comm _ _ hji]
      exact h3.2.2
/-- An operation that yields v in each world of S, and that number z waits for, is taken first. -/
theorem z_take {i t : Nat} {o : Oper} {v : Value} {fuel : Nat} {listed : Array Bool} {tm : Array Value} {ds : List Deferred} {w : World} (hi : ops[i]? = some o) (hd : o.dst = some t)
    (hs : Region.noSelect ops = true) (hf : Region.free md ops listed i = true) (hr : (Region.ready md ops listed).contains i = true) (hz : waitsB md ops z i = true) (hiz : i ≠ z) (hzl : listed.getD z true = false)
    (hQ2 : ∀ c a w, Q (.panic c) (a.put o.dst v) w → Q (.panic c) a w) (hy : YieldsIf P ops S o v ⟨tm, ds⟩) (hS : S w)
    (h : wpAnyZ P md ops Q S z fuel (listed.setIfInBounds i true) ⟨tm.setIfInBounds t v, ds⟩ w) : wpAnyZ P md ops Q S z (fuel + 1) listed ⟨tm, ds⟩ w := by
  refine z_first hi (Region.noSelect_spec hs) hQ2 hz hiz fuel listed _ w hzl (Region.free_spec hi hf) (by simpa using hr) hy hS ?_
  rw [hd]
  exact h
/-- One operation alone is ready. -/
theorem z_one {i : Nat} {o : Oper} {fuel : Nat} {listed : Array Bool} {a : Act} {w : World} (hi : ops[i]? = some o) (hr : Region.ready md ops listed = [i]) (hw : Region.wanted o (yielded ops a.tmps) = true)
    (h : o.wp P a w (fun a' w' => (listed.getD z true = false → i ≠ z → S w') ∧ wpAnyZ P md ops Q S z fuel (listed.setIfInBounds i true) a' w') Q) : wpAnyZ P md ops Q S z (fuel + 1) listed a w :=
  ⟨fun h0 => absurd (hr ▸ h0) (by simp), hr ▸ (fun j hj => by
    obtain rfl : j = i := by simpa using hj
    unfold wpOp
    simp only [hi]
    rw [if_pos hw]
    exact .inl h)⟩
/-- All have come up. -/
theorem z_done {fuel : Nat} {listed : Array Bool} {a : Act} {w : World} (hr : Region.ready md ops listed = []) (h : Q .normal a w) : wpAnyZ P md ops Q S z fuel listed a w := by
  cases fuel with
  | zero => exact ⟨hr, h⟩
  | succ n => exact ⟨fun _ => h, by rw [hr]; simp⟩
end
end Go.Proofs.Ytmeoednndfgffaa
