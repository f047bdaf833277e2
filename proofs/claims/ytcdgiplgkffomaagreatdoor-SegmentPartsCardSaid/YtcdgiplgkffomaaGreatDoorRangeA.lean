/- Several texts in one: RangeMem, RangeKeep. -/
import Derived.RangeFuncNested
import Derived.RangeFuncBound
/- A range over an iterator that hands out memory of its own making: the body is told, of what it is handed, where it lies in the world of the round. No program is named here. -/
namespace Go.Proofs.YtcdgiplgkffomaaGreatDoor
open Go Go.RowKit
set_option linter.unusedVariables false

/-- What an iterator answers to whoever ranges over it: 'Y pre x W': x may come behind pre, in the world W; 'Kp': what a round must leave to the iterator. -/
def SeqMem {α : Type} (F : Fence) (n : Nat) (P : Program) (g : Nat) (lb : Array Value) (encs : α → Array Value) (Y : List α → α → World → Prop) (Kp : World → World → Prop) (done : List α → Prop) (w0 : World) : Prop :=
  ∀ (l : Nat) (J Jx : List α → World → Prop) (W : World), Kp w0 W → (∀ s U V, J s U → U.grownBy V none → J s V) → (∀ s U V, Jx s U → U.grownBy V none → Jx s V) →
    (∀ pre x U, J pre U → Y pre x U → YieldAt F (n - 1) P l (encs x) U fun e V => (e = .returned (.bool true) ∧ J (pre ++ [x]) V ∧ Kp U V) ∨ (e = .returned (.bool false) ∧ Jx (pre ++ [x]) V)) →
    J [] W → CallsIn F n P g (#[.func (.yield l) #[] #[]] ++ lb) W fun e V => (∃ v, e = .returned v) ∧ ((∃ xs, done xs ∧ J xs V) ∨ ∃ pre, Jx pre V)

/-- The loop's record and the block of the rounds' deferred calls lie where they were laid. -/
structure Book (B : Nat) (r : Loop) (W : World) : Prop where
  rcd : W.heap[B + 1]? = some (.loop r)
  dfr : W.heap[B]? = some (.deferred (some []))
theorem Book.lt {B : Nat} {r : Loop} {W : World} (h : Book B r W) : B + 1 < W.heap.size := (Array.getElem?_eq_some_iff.1 h.rcd).1
theorem Book.grow {B : Nat} {r : Loop} {U V : World} (h : Book B r U) (hg : U.grownBy V none) : Book B r V :=
  ⟨(hg.block _ h.lt (by simp)).trans h.rcd, (hg.block _ (Nat.lt_of_succ_lt h.lt) (by simp)).trans h.dfr⟩
theorem Book.keep {B : Nat} {r : Loop} {U V : World} (h : Book B r U) (hk : KeepsFrom B U V) : Book B r V :=
  ⟨hk.same _ _ (Nat.le_succ B) h.rcd rfl, hk.same _ _ (Nat.le_refl B) h.dfr rfl⟩
theorem Book.put {B : Nat} {r r' : Loop} {U : World} (h : Book B r U) : Book B r' (U.putObj (B + 1) (.loop r')) :=
  ⟨World.putObj_heap_same h.lt, (World.putObj_heap_other (Nat.ne_of_lt (Nat.lt_succ_self B))).trans h.dfr⟩
theorem own_book {β : Type} {B : Nat} {I : β → World → Prop} (h : OwnFrom B I) {s : β} {U : World} {r : Loop} (r' : Loop) (hs : I s U) (hb : Book B r U) : I s (U.putObj (B + 1) (.loop r')) :=
  h.putObj _ hs (Nat.le_succ B) hb.rcd rfl
theorem own_grow {β : Type} {B : Nat} {I : β → World → Prop} (h : OwnFrom B I) {s : β} {U V : World} (hs : I s U) (hg : U.grownBy V none) : I s V :=
  h s U V none hs hg (fun r e => by cases e)

variable {F : Fence} {n : Nat} {P : Program}
/-- How a round may end: it goes on, or it leaves by the jump c. -/
theorem round_ends {α : Type} {l : Nat} {R : Ending → World → Prop} {B : Nat} {Kp : World → World → Prop} {I : List α → World → Prop} {Ix : Code → List α → World → Prop} {xs : List α} {W : World}
    (go : ∀ V, KeepsFrom B W V → Kp W V → I xs V → ∃ v V', (Instr.endRound l none).run P V = .ok v V' ∧ R (.returned v) V')
    (leave : ∀ c V, KeepsFrom B W V → Ix c xs V → ∃ v V', (Instr.endRound l (some c)).run P V = .ok v V' ∧ R (.returned v) V') :
    ∀ (e : Exit) (a : Act) (V : World), ownPostG B Kp I Ix xs W e a V → roundPost P l R e a V
  | .normal, _, V, h => go V h.1 h.2.1 h.2.2
  | .ret, _, V, h => leave .ret V h.1 h.2
  | .exit id, _, V, h => leave (.exit id) V h.1 h.2
  | .goto t, _, V, h => leave (.goto t) V h.1 h.2
  | .panic _, _, _, h => h
  | .outgrown, _, _, h => h

theorem range_mem {α : Type} {g : Operand} {ps : Array Tmp} {assign body : Code} {Q : Exit → Act → World → Prop} {a : Act} {w : World}
    (hro : F.round = none) (h1 : 1 ≤ n) {gf : Nat} {lb : Array Value} (hg : a.eval g = .func (.func gf) #[] lb) (hFg : F.fn gf) (eg : ∀ args w, (callFunc gf args).run P w = .ok (.enter gf args) w)
    {encs : α → Array Value} {Y : List α → α → World → Prop} {Kp : World → World → Prop} {done : List α → Prop} {w0 : World} (hseq : SeqMem F (n - 1) P gf lb encs Y Kp done w0) (hps : ∀ x, (encs x).size = ps.size)
    (hKt : ∀ {A B C : World}, Kp A B → Kp B C → Kp A C) (hK0 : Kp w0 w) (hKg : ∀ {A B : World}, Kp w0 A → A.grownBy B none → Kp A B) (hKr : ∀ (A : World) (o : Obj), Kp A (A.putObj (w.heap.size + 1) o))
    (I : List α → World → Prop) (Ix : Code → List α → World → Prop) (hI : OwnFrom w.heap.size I) (hIx : ∀ c, OwnFrom w.heap.size (Ix c)) (hYo : ∀ pre, OwnFrom w.heap.size (Y pre)) (h0 : I [] w) (a₁ : α → Act)
    (hassign : ∀ (l : Nat) (x : α) (W : World) (K : Act → World → Prop), K (a₁ x) W →
      assign.wpIn (F.inRound l) (n - 1 - 1) P (Exit.then K (fun _ _ _ => False)) { tmps := (ps.zip (encs x)).foldl (fun t (p, v) => t.setIfInBounds p v) a.tmps, defers := [] } W)
    (hbody : ∀ (l : Nat) (pre : List α) (x : α) (W : World), I pre W → Y pre x W → body.wpIn (F.inRound l) (n - 1 - 1) P (ownPostG w.heap.size Kp I Ix (pre ++ [x]) W) (a₁ x) W)
    (hdone : ∀ (xs : List α) (W : World), done xs → I xs W → W.heap[w.heap.size]? = some (.deferred (some [])) → Q .normal { a with defers := { target := .collected w.heap.size, args := #[] } :: a.defers } W)
    (hstop : ∀ (c : Code) (pre : List α) (W : World), Ix c pre W → W.heap[w.heap.size]? = some (.deferred (some [])) → c.wpIn F n P Q { a with defers := { target := .collected w.heap.size, args := #[] } :: a.defers } W) :
    (Code.rangeFunc g ps assign body).wpIn F n P Q a w := by
  refine wpIn_rangeFunc fun fn hfn => ?_
  let rc : LoopState → Option Code → Loop := fun st pe => { state := st, pending := pe, fn, tmps := a.tmps, params := ps, assign, body, defers := w.heap.size }
  let W1 := (w.alloc (.deferred (some []))).alloc (.loop (rc .ready none))
  have hgrow : w.grownBy W1 none := by
    have g1 := World.grownBy_alloc w (.deferred (some [])) none
    have g2 := World.grownBy_alloc (w.alloc (.deferred (some []))) (.loop (rc .ready none)) none
    exact ⟨g2.os.trans g1.os, g2.tape.trans g1.tape, g2.output.trans g1.output, Nat.le_trans g1.size g2.size, fun k hk hn => (g2.block k (Nat.lt_of_lt_of_le hk g1.size) hn).trans (g1.block k hk hn)⟩
  have hbook : Book w.heap.size (rc .ready none) W1 := by
    constructor
    · have := World.alloc_heap_new (w.alloc (.deferred (some []))) (.loop (rc .ready none))
      rwa [World.size_alloc] at this
    · exact (Below.heap_alloc _ _ _ (by simp)).trans (World.alloc_heap_new w _)
  refine ⟨w.heap.size + 1, [{ target := .collected w.heap.size, args := #[] }], W1, { target := .fn (.func gf) lb, args := #[.func (.yield (w.heap.size + 1)) #[] #[]] }, W1, gf,
    #[.func (.yield (w.heap.size + 1)) #[] #[]] ++ lb, W1, ?_, ?_, ?_, ?_, fun _ => h1, ?_⟩
  · rw [hro]; exact run_enterLoop_outer _ _ _ _ _
  · simp only [resolve, hg]; simp [go_sem]
  · intro f' hf'; simp [Target.leads] at hf'; subst hf'; exact hFg
  · simp [invoke, go_sem, eg]
  refine (hseq (w.heap.size + 1) (fun pre W => I pre W ∧ Book w.heap.size (rc .ready none) W ∧ Kp w0 W) (fun pre W => ∃ c, Ix c pre W ∧ Book w.heap.size (rc .done (some c)) W) W1 (hKt hK0 (hKg hK0 hgrow))
    (fun s U V h hg => ⟨own_grow hI h.1 hg, h.2.1.grow hg, hKt h.2.2 (hKg h.2.2 hg)⟩) (fun s U V h hg => by obtain ⟨c, h1, h2⟩ := h; exact ⟨c, own_grow (hIx c) h1 hg, h2.grow hg⟩)
    ?_ ⟨own_grow hI h0 hgrow, hbook, hKt hK0 (hKg hK0 hgrow)⟩).mono ?_
  · -- one round
    rintro pre x W ⟨hi, hb, hk⟩ hy
    refine ⟨fn, _, assign, body, run_yield hb.rcd (hps x), roundIn_of_wpIn hfn (hassign _ x W _ ⟨_, run_beginRound hb.rcd rfl, ?_⟩)⟩
    have hb2 : Book w.heap.size (rc .busy none) (W.putObj (w.heap.size + 1) (.loop (rc .busy none))) := hb.put
    refine wpIn_mono (hbody _ pre x _ (own_book hI _ hi hb) (own_book (hYo pre) _ hy hb)) (round_ends ?_ ?_)
    · intro V hkf hkp hiv
      have hb3 := hb2.keep hkf
      have hkk := hKt (hKr W _) hkp
      exact ⟨_, _, run_endRound none hb3.rcd, .inl ⟨rfl, ⟨own_book hI _ hiv hb3, hb3.put, hKt hk (hKt hkk (hKr V _))⟩, hKt hkk (hKr V _)⟩⟩
    · intro c V hkf hiv
      have hb3 := hb2.keep hkf
      exact ⟨_, _, run_endRound (some c) hb3.rcd, .inr ⟨rfl, c, own_book (hIx c) _ hiv hb3, hb3.put⟩⟩
  · -- behind the iterator
    rintro e W2 ⟨⟨v, rfl⟩, (⟨xs, hd, hi, hb, _⟩ | ⟨pre, c, hi, hb⟩)⟩
    · exact ⟨none, _, run_endLoop hb.rcd (by simp [rc]), hdone xs _ hd (own_book hI _ hi hb) (hb.put (r' := { rc .ready none with state := .exhausted })).dfr⟩
    · exact ⟨some c, _, run_endLoop hb.rcd (by simp [rc]), hstop c pre _ (own_book (hIx c) _ hi hb) (hb.put (r' := { rc .done (some c) with state := .exhausted })).dfr⟩
end Go.Proofs.YtcdgiplgkffomaaGreatDoor

/- A range over an iterator, where the caller tells what a round turns (a file system of its own, say): the loop's two blocks are not among it. No program is named here. -/
namespace Go.Proofs.YtcdgiplgkffomaaGreatDoor
open Go Go.RowKit
set_option linter.unusedVariables false

def BookKept (B : Nat) (U V : World) : Prop := V.heap[B]? = U.heap[B]? ∧ V.heap[B + 1]? = U.heap[B + 1]?
theorem Book.kept {B : Nat} {r : Loop} {U V : World} (h : Book B r U) (hk : BookKept B U V) : Book B r V := ⟨hk.2.trans h.rcd, hk.1.trans h.dfr⟩
/-- What a round leaves. -/
def keepPost {α : Type} (B : Nat) (Kp : World → World → Prop) (I : List α → World → Prop) (Ix : Code → List α → World → Prop) (xs : List α) (W : World) : Exit → Act → World → Prop
  | .normal, _, V => BookKept B W V ∧ Kp W V ∧ I xs V
  | .ret, _, V => BookKept B W V ∧ Ix .ret xs V
  | .exit id, _, V => BookKept B W V ∧ Ix (.exit id) xs V
  | .goto t, _, V => BookKept B W V ∧ Ix (.goto t) xs V
  | .panic _, _, _ => False
  | .outgrown, _, _ => False
variable {F : Fence} {n : Nat} {P : Program}
/-- How a round may end, where the caller tells what turns: the loop's two blocks don't. -/
theorem round_keeps {α : Type} {l : Nat} {R : Ending → World → Prop} {B : Nat} {Kp : World → World → Prop} {I : List α → World → Prop} {Ix : Code → List α → World → Prop} {xs : List α} {W : World}
    (go : ∀ V, BookKept B W V → Kp W V → I xs V → ∃ v V', (Instr.endRound l none).run P V = .ok v V' ∧ R (.returned v) V')
    (leave : ∀ c V, BookKept B W V → Ix c xs V → ∃ v V', (Instr.endRound l (some c)).run P V = .ok v V' ∧ R (.returned v) V') :
    ∀ (e : Exit) (a : Act) (V : World), keepPost B Kp I Ix xs W e a V → roundPost P l R e a V
  | .normal, _, V, h => go V h.1 h.2.1 h.2.2
  | .ret, _, V, h => leave .ret V h.1 h.2
  | .exit id, _, V, h => leave (.exit id) V h.1 h.2
  | .goto t, _, V, h => leave (.goto t) V h.1 h.2
  | .panic _, _, _, h => h
  | .outgrown, _, _, h => h

theorem range_keep {α : Type} {g : Operand} {ps : Array Tmp} {assign body : Code} {Q : Exit → Act → World → Prop} {a : Act} {w : World}
    (hro : F.round = none) (h1 : 1 ≤ n) {gf : Nat} {lb : Array Value} (hg : a.eval g = .func (.func gf) #[] lb) (hFg : F.fn gf) (eg : ∀ args w, (callFunc gf args).run P w = .ok (.enter gf args) w)
    {encs : α → Array Value} {Y : List α → α → World → Prop} {Kp : World → World → Prop} {done : List α → Prop} {w0 : World} (hseq : SeqMem F (n - 1) P gf lb encs Y Kp done w0) (hps : ∀ x, (encs x).size = ps.size)
    (hKt : ∀ {A B C : World}, Kp A B → Kp B C → Kp A C) (hK0 : Kp w0 w) (hKg : ∀ {A B : World}, Kp w0 A → A.grownBy B none → Kp A B) (hKr : ∀ (A : World) (o : Obj), Kp A (A.putObj (w.heap.size + 1) o))
    (I : List α → World → Prop) (Ix : Code → List α → World → Prop) (hIg : ∀ s U V, I s U → U.grownBy V none → I s V) (hIxg : ∀ c s U V, Ix c s U → U.grownBy V none → Ix c s V)
    (hIp : ∀ s U r r', I s U → Book w.heap.size r U → I s (U.putObj (w.heap.size + 1) (.loop r'))) (hIxp : ∀ c s U r r', Ix c s U → Book w.heap.size r U → Ix c s (U.putObj (w.heap.size + 1) (.loop r')))
    (hYp : ∀ pre x U r r', Y pre x U → Book w.heap.size r U → Y pre x (U.putObj (w.heap.size + 1) (.loop r'))) (h0 : ∀ W1, w.grownBy W1 none → W1.heap.size = w.heap.size + 2 → I [] W1) (a₁ : α → Act)
    (hassign : ∀ (l : Nat) (x : α) (W : World) (K : Act → World → Prop), K (a₁ x) W →
      assign.wpIn (F.inRound l) (n - 1 - 1) P (Exit.then K (fun _ _ _ => False)) { tmps := (ps.zip (encs x)).foldl (fun t (p, v) => t.setIfInBounds p v) a.tmps, defers := [] } W)
    (hbody : ∀ (l : Nat) (pre : List α) (x : α) (W : World), I pre W → Y pre x W → body.wpIn (F.inRound l) (n - 1 - 1) P (keepPost w.heap.size Kp I Ix (pre ++ [x]) W) (a₁ x) W)
    (hdone : ∀ (xs : List α) (W : World), done xs → I xs W → W.heap[w.heap.size]? = some (.deferred (some [])) → Q .normal { a with defers := { target := .collected w.heap.size, args := #[] } :: a.defers } W)
    (hstop : ∀ (c : Code) (pre : List α) (W : World), Ix c pre W → W.heap[w.heap.size]? = some (.deferred (some [])) → c.wpIn F n P Q { a with defers := { target := .collected w.heap.size, args := #[] } :: a.defers } W) :
    (Code.rangeFunc g ps assign body).wpIn F n P Q a w := by
  refine wpIn_rangeFunc fun fn hfn => ?_
  let rc : LoopState → Option Code → Loop := fun st pe => { state := st, pending := pe, fn, tmps := a.tmps, params := ps, assign, body, defers := w.heap.size }
  let W1 := (w.alloc (.deferred (some []))).alloc (.loop (rc .ready none))
  have hgrow : w.grownBy W1 none := by
    have g1 := World.grownBy_alloc w (.deferred (some [])) none
    have g2 := World.grownBy_alloc (w.alloc (.deferred (some []))) (.loop (rc .ready none)) none
    exact ⟨g2.os.trans g1.os, g2.tape.trans g1.tape, g2.output.trans g1.output, Nat.le_trans g1.size g2.size, fun k hk hn => (g2.block k (Nat.lt_of_lt_of_le hk g1.size) hn).trans (g1.block k hk hn)⟩
  have hbook : Book w.heap.size (rc .ready none) W1 := by
    constructor
    · have := World.alloc_heap_new (w.alloc (.deferred (some []))) (.loop (rc .ready none))
      rwa [World.size_alloc] at this
    · exact (Below.heap_alloc _ _ _ (by simp)).trans (World.alloc_heap_new w _)
  refine ⟨w.heap.size + 1, [{ target := .collected w.heap.size, args := #[] }], W1, { target := .fn (.func gf) lb, args := #[.func (.yield (w.heap.size + 1)) #[] #[]] }, W1, gf,
    #[.func (.yield (w.heap.size + 1)) #[] #[]] ++ lb, W1, ?_, ?_, ?_, ?_, fun _ => h1, ?_⟩
  · rw [hro]; exact run_enterLoop_outer _ _ _ _ _
  · simp only [resolve, hg]; simp [go_sem]
  · intro f' hf'; simp [Target.leads] at hf'; subst hf'; exact hFg
  · simp [invoke, go_sem, eg]
  refine (hseq (w.heap.size + 1) (fun pre W => I pre W ∧ Book w.heap.size (rc .ready none) W ∧ Kp w0 W) (fun pre W => ∃ c, Ix c pre W ∧ Book w.heap.size (rc .done (some c)) W) W1 (hKt hK0 (hKg hK0 hgrow))
    (fun s U V h hg => ⟨hIg _ _ _ h.1 hg, h.2.1.grow hg, hKt h.2.2 (hKg h.2.2 hg)⟩) (fun s U V h hg => by obtain ⟨c, h1, h2⟩ := h; exact ⟨c, hIxg _ _ _ _ h1 hg, h2.grow hg⟩)
    ?_ ⟨h0 W1 hgrow (by simp [W1]), hbook, hKt hK0 (hKg hK0 hgrow)⟩).mono ?_
  · -- one round
    rintro pre x W ⟨hi, hb, hk⟩ hy
    refine ⟨fn, _, assign, body, run_yield hb.rcd (hps x), roundIn_of_wpIn hfn (hassign _ x W _ ⟨_, run_beginRound hb.rcd rfl, ?_⟩)⟩
    have hb2 : Book w.heap.size (rc .busy none) (W.putObj (w.heap.size + 1) (.loop (rc .busy none))) := hb.put
    refine wpIn_mono (hbody _ pre x _ (hIp _ _ _ _ hi hb) (hYp _ _ _ _ _ hy hb)) (round_keeps ?_ ?_)
    · intro V hkf hkp hiv
      have hb3 := hb2.kept hkf
      have hkk := hKt (hKr W _) hkp
      exact ⟨_, _, run_endRound none hb3.rcd, .inl ⟨rfl, ⟨hIp _ _ _ _ hiv hb3, hb3.put, hKt hk (hKt hkk (hKr V _))⟩, hKt hkk (hKr V _)⟩⟩
    · intro c V hkf hiv
      have hb3 := hb2.kept hkf
      exact ⟨_, _, run_endRound (some c) hb3.rcd, .inr ⟨rfl, c, hIxp _ _ _ _ _ hiv hb3, hb3.put⟩⟩
  · -- behind the iterator
    rintro e W2 ⟨⟨v, rfl⟩, (⟨xs, hd, hi, hb, _⟩ | ⟨pre, c, hi, hb⟩)⟩
    · exact ⟨none, _, run_endLoop hb.rcd (by simp [rc]), hdone xs _ hd (hIp _ _ _ _ hi hb) (hb.put (r' := { rc .ready none with state := .exhausted })).dfr⟩
    · exact ⟨some c, _, run_endLoop hb.rcd (by simp [rc]), hstop c pre _ (hIxp _ _ _ _ _ hi hb) (hb.put (r' := { rc .done (some c) with state := .exhausted })).dfr⟩
end Go.Proofs.YtcdgiplgkffomaaGreatDoor
