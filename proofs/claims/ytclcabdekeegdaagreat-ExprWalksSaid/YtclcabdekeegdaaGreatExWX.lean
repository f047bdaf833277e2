/- Several texts in one: ExW, ExX, ExNo. -/
import Derived.Test.YtclcabdekeegdaaGreatExM
import Derived.Shelf.Abstract
/- Layer 13, walked: the iterator over all within, which ranges over itself. -/
namespace Go.Proofs.YtclcabdekeegdaaGreat
attribute [local go_sem] Oper.semAt_some
open Go Go.ChangeShapes Go.WideShapes Go.ChangeAt Go.RowKit
set_option linter.unusedVariables false

/-- An expression and where its Kids lie. -/
structure XA where
  e : X
  A : Option Addr
  c : Nat
def XA.enc (x : XA) : Array Value := #[x.e.val x.A x.c]
/-- What lies in the blocks S, and from B0 on, stays, rows of T aside. -/
structure Kt (B0 : Nat) (S : Nat → Prop) (T : Nat) (U V : World) : Prop where
  os : V.os = U.os
  tape : V.tape = U.tape
  output : V.output = U.output
  size : U.heap.size ≤ V.heap.size
  block : ∀ k, k < U.heap.size → (S k ∨ (B0 ≤ k ∧ ∀ cs fr, U.heap[k]? ≠ some (.cells cs T fr))) → V.heap[k]? = U.heap[k]?
section
variable {B0 : Nat} {S : Nat → Prop} {T : Nat} {U V W : World}
theorem Kt.trans (h : Kt B0 S T U V) (k : Kt B0 S T V W) : Kt B0 S T U W :=
  ⟨k.os.trans h.os, k.tape.trans h.tape, k.output.trans h.output, Nat.le_trans h.size k.size, fun i hi hs => by
    have e := h.block i hi hs
    exact (k.block i (Nat.lt_of_lt_of_le hi h.size) (hs.elim .inl fun ⟨h1, h2⟩ => .inr ⟨h1, fun cs fr => by rw [e]; exact h2 cs fr⟩)).trans e⟩
theorem Kt.grown (h : U.grownBy V none) : Kt B0 S T U V := ⟨h.os, h.tape, h.output, h.size, fun k hk _ => h.block k hk (by simp)⟩
theorem Kt.put (hS : ∀ k, S k → k < B0) {q : Nat} (hq : B0 = q + 1) (hS2 : ¬ S q) (o : Obj) : Kt B0 S T U (U.putObj q o) :=
  ⟨rfl, rfl, rfl, by simp [World.putObj], fun k _ hs => World.putObj_heap_other (by
    rintro rfl
    rcases hs with h | h
    · exact hS2 h
    · omega)⟩
theorem Kt.below {B : Nat} (h : Kt B0 S T U V) (hB : ∀ k, k < B → S k) (hU : B ≤ U.heap.size) : Below B U V := ⟨h.os, h.tape, h.output, h.size, fun k hk => h.block k (by omega) (.inl (hB k hk))⟩
end
theorem grown_of_below {u v : World} (h : Below u.heap.size u v) : u.grownBy v none := ⟨h.os, h.tape, h.output, h.size, fun k hk _ => h.block k hk⟩
theorem below_of_grown {u v : World} {B : Nat} {row : Option Nat} (h : u.grownBy v row) (hr : ∀ r, row = some r → B ≤ r) (hB : B ≤ u.heap.size) : Below B u v :=
  ⟨h.os, h.tape, h.output, h.size, fun k hk => h.block k (by omega) (by intro e; have := hr k e.symm; omega)⟩
/-- A mark among the deferred calls. -/
def markD (D : Nat) : Deferred := { target := .collected D, args := #[] }
theorem room_wide (k : Nat) : Fence.wide.room k := fun d h => by cases h
theorem RoundIn.deep {m m' : Nat} {P : Program} {l : Nat} {f : FuncId} {tmps : Array Value} {assign body : Code} {w : World} {R : Ending → World → Prop} (h : RoundIn Fence.wide m P l f tmps assign body w R) : RoundIn Fence.wide m' P l f tmps assign body w R := ⟨h.1, fun c cs _ => h.2 c cs (room_wide _)⟩
theorem YieldAt.deep {m m' : Nat} {P : Program} {l : Nat} {args : Array Value} {w : World} {R : Ending → World → Prop} (h : YieldAt Fence.wide m P l args w R) : YieldAt Fence.wide m' P l args w R := by
  obtain ⟨fn, tmps, assign, body, h1, h2⟩ := h
  exact ⟨fn, tmps, assign, body, h1, RoundIn.deep h2⟩
theorem SeqAt.deep {α : Type} {n n' : Nat} {P : Program} {g : Nat} {lb : Array Value} {encs : α → Array Value} {Y : List α → α → World → Prop} {Kp : World → World → Prop} {done : List α → Prop} {W : World}
    (h : SeqAt Fence.wide n P g lb encs Y Kp done W) : SeqAt Fence.wide n' P g lb encs Y Kp done W := fun l J Jx hJ hJx hY h0 =>
  callsIn_wide.2 (callsIn_wide.1 (h l J Jx hJ hJx (fun pre x U h1 h2 => YieldAt.deep (hY pre x U h1 h2)) h0))
theorem two_ways {e : Ending} {A B : Prop} (h : (e = .returned (.bool true) ∧ A) ∨ (e = .returned (.bool false) ∧ B)) : ∃ hv, e = .returned (.bool hv) ∧ ((hv = true ∧ A) ∨ (hv = false ∧ B)) :=
  h.elim (fun ⟨a, b⟩ => ⟨true, a, .inl ⟨rfl, b⟩⟩) (fun ⟨a, b⟩ => ⟨false, a, .inr ⟨rfl, b⟩⟩)
/-- Marks of loops, one behind the other, are taken off. -/
theorem leaves_marks {F : Fence} {n : Nat} {P : Program} {fn : Func} {tmps : Array Value} {R : Ending → World → Prop} {β : Type} {B : Nat} {I : β → World → Prop} (hI : LoopOwn B I) {s : β} {v : Value}
    (hres : ∀ V, (results fn tmps).run P V = .ok v V) (hR : ∀ V, I s V → R (.returned v) V) : ∀ (Ds : List Nat) (V : World), Ds.Pairwise (· ≠ ·) → (∀ D ∈ Ds, B ≤ D ∧ V.heap[D]? = some (.deferred (some []))) → I s V →
    LeavesInM F n P fn tmps R (Ds.map markD) .returning V
  | [], V, _, _, h => ⟨v, hres V, hR V h⟩
  | D :: Ds, V, hp, hd, h => by
    rw [List.pairwise_cons] at hp
    obtain ⟨h1, h2⟩ := hd D (by simp)
    refine ⟨by simp, .inl ⟨D, _, rfl, run_takeDeferred h2, ?_⟩⟩
    refine leaves_marks hI hres hR Ds _ hp.2 (fun D2 hD2 => ?_) (hI.done h h1 h2 _)
    obtain ⟨h3, h4⟩ := hd D2 (by simp [hD2])
    exact ⟨h3, (World.putObj_heap_other (fun e => hp.1 D2 hD2 e.symm)).trans h4⟩
section
variable {F : Fence} {n : Nat} {P : Program}
/-- As range_nest; a round is told that the loop's own two blocks lie there. -/
theorem range_nest2 {α : Type} {g : Operand} {ps : Array Tmp} {assign body : Code} {Q : Exit → Act → World → Prop} {a : Act} {w : World}
    (hro : F.round = none) (h1 : 1 ≤ n) {gf : Nat} {lb : Array Value} (hg : a.eval g = .func (.func gf) #[] lb) (hFg : F.fn gf) (eg : ∀ args w, (callFunc gf args).run P w = .ok (.enter gf args) w)
    {encs : α → Array Value} {Y : List α → α → World → Prop} {Kp : World → World → Prop} {done : List α → Prop} (hseq : ∀ W1, w.grownBy W1 none → W1.heap.size = w.heap.size + 2 → SeqAt F (n - 1) P gf lb encs Y Kp done W1) (hps : ∀ x, (encs x).size = ps.size)
    (hKt : ∀ {A B C : World}, Kp A B → Kp B C → Kp A C) (hKg : ∀ {A B : World}, A.grownBy B none → Kp A B) (hKr : ∀ (A : World) (o : Obj), Kp A (A.putObj (w.heap.size + 1) o))
    (I : List α → World → Prop) (Ix : Code → List α → World → Prop) (hI : LoopOwn w.heap.size I) (hIx : ∀ c, LoopOwn w.heap.size (Ix c)) (hY : ∀ pre, LoopOwn w.heap.size (Y pre)) (h0 : ∀ W1, w.grownBy W1 none → W1.heap.size = w.heap.size + 2 → I [] W1) (V₁ : α → World → World) (hV : ∀ (x : α) (W : World), W.grownBy (V₁ x W) none) (At : α → World → World → Prop) (hAt : ∀ x W r r', Book w.heap.size r W → At x W ((V₁ x W).putObj (w.heap.size + 1) (.loop r'))) (a₁ : α → World → Act)
    (hassign : ∀ (l : Nat) (x : α) (W : World) (K : Act → World → Prop), K (a₁ x W) (V₁ x W) →
      assign.wpIn (F.inRound l) (n - 1 - 1) P (Exit.then K (fun _ _ _ => False)) { tmps := (ps.zip (encs x)).foldl (fun t (p, v) => t.setIfInBounds p v) a.tmps, defers := [] } W)
    (hbody : ∀ (l : Nat) (pre : List α) (x : α) (U W : World), I pre W → Y pre x W → At x U W → (∃ r, Book w.heap.size r W) → body.wpIn (F.inRound l) (n - 1 - 1) P (nestPost w.heap.size Kp I Ix (pre ++ [x]) W) (a₁ x U) W)
    (hdone : ∀ (xs : List α) (W : World), done xs → I xs W → W.heap[w.heap.size]? = some (.deferred (some [])) → Q .normal { a with defers := { target := .collected w.heap.size, args := #[] } :: a.defers } W)
    (hstop : ∀ (c : Code) (pre : List α) (W : World), Ix c pre W → W.heap[w.heap.size]? = some (.deferred (some [])) → c.wpIn F n P Q { a with defers := { target := .collected w.heap.size, args := #[] } :: a.defers } W) :
    (Code.rangeFunc g ps assign body).wpIn F n P Q a w := by
  refine wpIn_rangeFunc fun fn hfn => ?_
  let rc : LoopState → Option Code → Loop := fun st pe => { state := st, pending := pe, fn, tmps := a.tmps, params := ps, assign, body, defers := w.heap.size }
  let W1 := (w.alloc (.deferred (some []))).alloc (.loop (rc .ready none))
  have hgrow : w.grownBy W1 none := by
    have g1 := World.grownBy_alloc w (.deferred (some [])) none
    have g2 := World.grownBy_alloc (w.alloc (.deferred (some []))) (.loop (rc .ready none)) none
    exact ⟨g2.os.trans g1.os, g2.tape.trans g1.tape, g2.output.trans g1.output, Nat.le_trans g1.size g2.size, fun k hk hn => (g2.block k (Nat.lt_of_lt_of_le hk g1.size) hn).trans (g1.block k hk hn)⟩
  have hbook : Book w.heap.size (rc .ready none) W1 := by
    constructor
    · have := World.alloc_heap_new (w.alloc (.deferred (some []))) (.loop (rc .ready none))
      rwa [World.size_alloc] at this
    · exact (Below.heap_alloc _ _ _ (by simp)).trans (World.alloc_heap_new w _)
  refine ⟨w.heap.size + 1, [{ target := .collected w.heap.size, args := #[] }], W1, { target := .fn (.func gf) lb, args := #[.func (.yield (w.heap.size + 1)) #[] #[]] }, W1, gf,
    #[.func (.yield (w.heap.size + 1)) #[] #[]] ++ lb, W1, ?_, ?_, ?_, ?_, fun _ => h1, ?_⟩
  · rw [hro]; exact run_enterLoop_outer _ _ _ _ _
  · simp only [resolve, hg]; simp [go_sem]
  · intro f' hf'; simp [Target.leads] at hf'; subst hf'; exact hFg
  · simp [invoke, go_sem, eg]
  have hw1 : W1.heap.size = w.heap.size + 2 := by simp [W1]
  refine (hseq W1 hgrow hw1 (w.heap.size + 1) (fun pre W => I pre W ∧ Book w.heap.size (rc .ready none) W) (fun pre W => ∃ c, Ix c pre W ∧ Book w.heap.size (rc .done (some c)) W)
    (fun s U V row h hg hr => ⟨hI s U V row h.1 hg (fun r e => ⟨by have := (hr r e).1; omega, (hr r e).2⟩), h.2.away hg (fun r e => by have := (hr r e).1; omega)⟩)
    (fun s U V row h hg hr => by obtain ⟨c, h1, h2⟩ := h; exact ⟨c, hIx c s U V row h1 hg (fun r e => ⟨by have := (hr r e).1; omega, (hr r e).2⟩), h2.away hg (fun r e => by have := (hr r e).1; omega)⟩)
    ?_ ⟨h0 W1 hgrow hw1, hbook⟩).mono ?_
  · -- one round
    rintro pre x W ⟨hi, hb⟩ hy
    have hg := hV x W
    have hbV : Book w.heap.size (rc .ready none) (V₁ x W) := hb.grow hg
    refine ⟨fn, _, assign, body, run_yield hb.rcd (hps x), roundIn_of_wpIn hfn (hassign _ x W _ ⟨_, run_beginRound hbV.rcd rfl, ?_⟩)⟩
    have hb2 : Book w.heap.size (rc .busy none) ((V₁ x W).putObj (w.heap.size + 1) (.loop (rc .busy none))) := hbV.put
    refine wpIn_mono (hbody _ pre x W _ (hI.put (hI.grow hi hg) (Nat.le_succ _) hbV.rcd) ((hY pre).put ((hY pre).grow hy hg) (Nat.le_succ _) hbV.rcd) (hAt _ _ _ _ hb) ⟨_, hb2⟩) (round_nests ?_ ?_)
    · intro V hkf hkp hiv
      have hb3 := hb2.kept hkf
      have hkk := hKt (hKr (V₁ x W) _) hkp
      exact ⟨_, _, run_endRound none hb3.rcd, .inl ⟨rfl, ⟨hI.put hiv (Nat.le_succ _) hb3.rcd, hb3.put⟩, hKt (hKg hg) (hKt hkk (hKr V _))⟩⟩
    · intro c V hkf hkp hiv
      have hb3 := hb2.kept hkf
      have hkk := hKt (hKr (V₁ x W) _) hkp
      exact ⟨_, _, run_endRound (some c) hb3.rcd, .inr ⟨rfl, ⟨c, (hIx c).put hiv (Nat.le_succ _) hb3.rcd, hb3.put⟩, hKt (hKg hg) (hKt hkk (hKr V _))⟩⟩
  · -- behind the iterator
    rintro e W2 ⟨⟨v, rfl⟩, (⟨xs, hd, hi, hb⟩ | ⟨pre, c, hi, hb⟩)⟩
    · exact ⟨none, _, run_endLoop hb.rcd (by simp [rc]), hdone xs _ hd (hI.put hi (Nat.le_succ _) hb.rcd) (hb.put (r' := { rc .ready none with state := .exhausted })).dfr⟩
    · exact ⟨some c, _, run_endLoop hb.rcd (by simp [rc]), hstop c pre _ ((hIx c).put hi (Nat.le_succ _) hb.rcd) (hb.put (r' := { rc .done (some c) with state := .exhausted })).dfr⟩
end
end Go.Proofs.YtclcabdekeegdaaGreat

/- Layer 13, walked: the iterator over all within, called. -/
namespace Go.Proofs.YtclcabdekeegdaaGreat
attribute [local go_sem] Oper.semAt_some
open Go Go.ChangeShapes Go.WideShapes Go.ChangeAt Go.RowKit
set_option linter.unusedVariables false
set_option linter.unusedSimpArgs false

/-- What comes behind pre. -/
def Yx (e : X) (B : Nat) (pre : List XA) (x : XA) (U : World) : Prop := (∃ post, allX e = pre.map XA.e ++ x.e :: post) ∧ KidsAt U B x.e x.A x.c ∧ B ≤ U.heap.size
theorem Yx.own {e : X} {B : Nat} {D : Nat} (hB : B ≤ D) (pre : List XA) : LoopOwn D (Yx e B pre) := fun x U V row h hg hr =>
  ⟨h.1, KidsAt.below (below_of_grown hg (fun r e => Nat.le_trans hB (hr r e).1) h.2.2) h.2.1, Nat.le_trans h.2.2 hg.size⟩
def boxX (x : XA) (U : World) : World := U.alloc (x.e.obj x.A x.c)
def AtX (x : XA) (U V : World) : Prop := V.heap[U.heap.size]? = some (x.e.obj x.A x.c)
theorem AtX.made {x : XA} {U : World} {D : Nat} (h : D + 1 < U.heap.size) (o : Obj) : AtX x U ((boxX x U).putObj (D + 1) o) := by
  unfold AtX boxX
  rw [World.putObj_heap_other (by omega)]
  exact World.alloc_heap_new U _
/-- What the iterator over e, called in W, needs of its own: e in block p, its yield, its Kids, its loops' marks. -/
structure Ws (e : X) (A : Option Addr) (c : Nat) (L : Nat) (B p s0 : Nat) (Ds : List Nat) (U : World) : Prop where
  hp : U.heap[p]? = some (e.obj A c)
  hy : U.heap[s0]? = some (.cells #[.func (.yield L) #[] #[]] 32)
  kids : KidsAt U B e A c
  ds : ∀ D ∈ Ds, s0 ≤ D ∧ D < U.heap.size ∧ U.heap[D]? = some (.deferred (some []))
  size : s0 + 1 ≤ U.heap.size
  b : B ≤ s0
  ps : p < s0
section
variable {e : X} {A : Option Addr} {c : Nat} {L : Nat} {B p s0 : Nat} {Ds : List Nat} {U V : World}
theorem Ws.keep (h : Ws e A c L B p s0 Ds U) (hb : ∀ k, k < U.heap.size → (k < s0 → k < B ∨ k = p) → (s0 < k → k ∈ Ds) → V.heap[k]? = U.heap[k]?) (hs : U.heap.size ≤ V.heap.size) (hB : Below B U V) : Ws e A c L B p s0 Ds V :=
  ⟨(hb p (by have := h.size; have := h.ps; omega) (fun _ => .inr rfl) (fun h2 => by have := h.ps; omega)).trans h.hp, (hb s0 h.size (fun h2 => by omega) (fun h2 => by omega)).trans h.hy, h.kids.below hB,
    fun D hD => by
      obtain ⟨h1, h2, h3⟩ := h.ds D hD
      refine ⟨h1, Nat.lt_of_lt_of_le h2 hs, (hb D h2 (fun h4 => by omega) (fun _ => hD)).trans h3⟩, Nat.le_trans h.size hs, h.b, h.ps⟩
theorem Ws.own {β : Type} {D : Nat} (hD : ∀ q ∈ Ds, q < D) (hs : s0 + 1 ≤ D) : LoopOwn D (fun (_ : β) U => Ws e A c L B p s0 Ds U) := fun _ U V row h hg hr =>
  h.keep (fun k hk h1 h2 => hg.block k hk (by
    intro e
    have := (hr k e.symm).1
    by_cases h3 : k < s0
    · omega
    · by_cases h4 : k = s0
      · omega
      · have := hD k (h2 (by omega)); omega)) hg.size (below_of_grown hg (fun r e => by have := (hr r e).1; have := h.b; omega) (by have := h.b; have := h.size; omega))
theorem Ws.kt {S : Nat → Prop} {T : Nat} (h : Ws e A c L B p s0 Ds U) (hT : T ≠ 32) (hk : Kt s0 S T U V) (hS : ∀ k, k < B → S k) (hp : S p) : Ws e A c L B p s0 Ds V :=
  h.keep (fun k hk2 h1 h2 => hk.block k hk2 (by
    by_cases h3 : k < s0
    · rcases h1 h3 with h4 | rfl
      · exact .inl (hS k h4)
      · exact .inl hp
    · refine .inr ⟨by omega, fun cs fr e2 => ?_⟩
      by_cases h4 : k = s0
      · subst h4
        rw [h.hy] at e2
        injection e2 with e2
        injection e2 with _ e2 _
        exact hT e2.symm
      · obtain ⟨_, _, h5⟩ := h.ds k (h2 (by omega))
        rw [h5] at e2
        cases e2)) hk.size (hk.below hS (by have := h.b; have := h.size; omega))
end
theorem allL_at : ∀ (ks : List X) (k : Nat) (h : k < ks.length), allL ks = allL (ks.take k) ++ (allX ks[k] ++ allL (ks.drop (k + 1)))
  | x :: ks, 0, h => by simp [allL]
  | x :: ks, k + 1, h => by
    simp only [List.take_succ_cons, List.drop_succ_cons, List.getElem_cons_succ, allL]
    rw [allL_at ks k (by simpa using h)]
    simp
theorem allL_take (ks : List X) (k : Nat) (h : k < ks.length) : allL (ks.take (k + 1)) = allL (ks.take k) ++ allX ks[k] := by
  rw [List.take_succ_eq_append_getElem h, allL_snoc]
theorem LoopOwn.and {β : Type} {B : Nat} {I K : β → World → Prop} (h : LoopOwn B I) (k : LoopOwn B K) : LoopOwn B (fun s U => I s U ∧ K s U) := fun s W W' row hs hg hr => ⟨h s W W' row hs.1 hg hr, k s W W' row hs.2 hg hr⟩
theorem LoopOwn.map {β γ : Type} {B : Nat} {I : γ → World → Prop} (h : LoopOwn B I) (g : β → γ) : LoopOwn B (fun s U => I (g s) U) := fun s W W' row hs hg hr => h (g s) W W' row hs hg hr
theorem LoopOwn.size_ {β : Type} {B m : Nat} : LoopOwn B (fun (_ : β) (U : World) => m ≤ U.heap.size) := fun _ _ _ _ h hg _ => Nat.le_trans h hg.size
theorem LoopOwn.blk {β : Type} {B q : Nat} {x : Obj} (hq : q < B) : LoopOwn B (fun (_ : β) (U : World) => U.heap[q]? = some x) := fun _ U V row h hg hr => by
  have hlt := (Array.getElem?_eq_some_iff.1 h).1
  exact (hg.block q hlt (fun e => by have := (hr q e.symm).1; omega)).trans h
theorem LoopOwn.ex {β γ : Type} {B : Nat} {I : γ → World → Prop} (h : LoopOwn B I) : LoopOwn B (fun (_ : β) U => ∃ s, I s U) := fun _ U V row ⟨s, h1⟩ hg hr => ⟨s, h s U V row h1 hg hr⟩
theorem LoopOwn.pure_ {β : Type} {B : Nat} (p : β → Prop) : LoopOwn B (fun s (_ : World) => p s) := fun _ _ _ _ h _ _ => h
set_option maxRecDepth 100000 in
set_option maxHeartbeats 16000000 in
theorem within_seq : ∀ (e : X) (n : Nat) (hn : 4 ≤ n) (B p : Nat) (S : Nat → Prop) (T : Nat) (hT : T ≠ 32) (hT2 : T ≠ 26) (A : Option Addr) (c : Nat) (W : World) (hp : W.heap[p]? = some (e.obj A c)) (hk : KidsAt W B e A c)
    (hB : B ≤ W.heap.size) (hSB : ∀ k, k < B → S k) (hSp : S p) (hSW : ∀ k, S k → k < W.heap.size),
    SeqAt Fence.wide n Tryz.prog 89 #[.pointer (some ⟨p, 0, none⟩)] XA.enc (Yx e B) (Kt W.heap.size S T) (fun xs => xs.map XA.e = allX e) W := by
  refine X.ind ?_
  intro o nm v ks ih n hn B p S T hT hT2 A c W hp hk hB hSB hSp hSW L J Jx hJ hJx hY h0
  have hn1 : 1 ≤ n := by omega
  have hn2 : 1 ≤ n - 1 - 1 := by omega
  have hn3 : 1 ≤ n - 1 - 1 - 1 := by omega
  have HIH := Lib.hid ih
  have HJ := Lib.hid hJ
  have HJX := Lib.hid hJx
  have HY := Lib.hid hY
  have hps : p < W.heap.size := hSW p hSp
  have hws : Ws (.mk o nm v ks) A c L B p W.heap.size [] (W.alloc (.cells #[.func (.yield L) #[] #[]] 32)) :=
    ⟨(Below.heap_alloc W _ p hps).trans hp, World.alloc_heap_new W _, hk.below (((Below.refl _ W).alloc (Nat.le_refl _) _).mono hB), fun D hD => by simp at hD, by simp, hB, hps⟩
  have HWS := Lib.hid hws
  have HYY := Lib.hid (hY [] ⟨.mk o nm v ks, A, c⟩ (W.alloc (.cells #[.func (.yield L) #[] #[]] 32)) (hJ.grow h0 (World.grownBy_alloc W _ none)) ⟨⟨allL ks, by simp [allX]⟩, hws.kids, by simp; omega⟩)
  clear ih hJ hJx hY hws hk
  refine callsIn_of_wp_marks Tryz.func89 rfl trivial ?_ rfl
  simp only [Tryz.ntmps89, List.size_toArray, List.length_cons, List.length_nil, Nat.reduceAdd, Nat.reduceSub, Array.replicate_succ, Array.replicate_zero, List.push_toArray, List.append_toArray, List.nil_append, List.cons_append]
  have c0 : W.cell? ⟨p, 0, none⟩ = some (.int .i64 o) := by simp [World.cell?, hp, X.obj, X.op]
  have c1 : W.cell? ⟨p, 1, none⟩ = some (.string nm) := by simp [World.cell?, hp, X.obj, X.nm]
  have c2 : W.cell? ⟨p, 2, none⟩ = some (.int .i64 v.k) := by simp [World.cell?, hp, X.obj, X.v]
  have c3 : W.cell? ⟨p, 3, none⟩ = some (.int .i64 v.n) := by simp [World.cell?, hp, X.obj, X.v]
  have c4 : W.cell? ⟨p, 4, none⟩ = some (.string v.s) := by simp [World.cell?, hp, X.obj, X.v]
  have c5 : W.cell? ⟨p, 5, none⟩ = some (.slice A ks.length c) := by simp [World.cell?, hp, X.obj, X.ks]
  obtain ⟨fn, tmps_, assign, body, hy, hR⟩ := HYY.out
  have HR := Lib.hid hR
  clear hR HYY
  unfold XA.enc X.val at hy
  simp only [X.op, X.nm, X.v, X.ks] at hy
  gi_wp2_with (refine (RoundIn.deep HR.out).mono ?_; rintro e W3 (⟨rfl, hJ3, hk3⟩ | ⟨rfl, hJ3, hk3⟩); all_goals (have HJ3 := Lib.hid hJ3; have HW3 := Lib.hid (HWS.out.kt hT hk3 hSB hSp); have d5 : W3.cell? ⟨p, 5, none⟩ = some (.slice A ks.length c) := (by simp [World.cell?, HW3.out.hp, X.obj, X.ks]); clear hJ3 hk3))
  · have HLEN := Lib.hid (by have := HWS.out.kids.len; unfold maxLen at this; simpa [X.ks] using this : ks.length ≤ c ∧ c ≤ 9223372036854775807)
    have HNEW := Lib.hid (show [XA.mk (.mk o nm v ks) A c].map XA.e = .mk o nm v ks :: allL (ks.take 0) from by simp [allL])
    refine wpIn_loop (fun a V => ∃ (k : Nat) (xs : List XA) (Ds : List Nat) (u4 u5 u14 u15 u16 u17 u18 u19 u20 u21 u22 u23 u24 : Value), (k ≤ ks.length ∧ Hid (xs.map XA.e = .mk o nm v ks :: allL (ks.take k)) ∧ Hid (J xs V) ∧ Hid (Ws (.mk o nm v ks) A c L B p W.heap.size Ds V) ∧ Hid (Ds.Pairwise (· ≠ ·))) ∧
      a = ⟨#[.func (.yield L) #[] #[], .pointer (some ⟨p, 0, none⟩), .pointer (some ⟨W.heap.size, 0, none⟩), undef, u4, u5, .func (.yield L) #[] #[], .agg #[.int .i64 o, .string nm, .int .i64 v.k, .int .i64 v.n, .string v.s, .slice A ks.length c], .bool true, .bool false, .pointer (some ⟨p, 5, none⟩),
        .slice A ks.length c, .int .i64 ks.length, .int .i64 k, u14, u15, u16, u17, u18, u19, u20, u21, u22, u23, u24], Ds.map markD⟩) (fun a _ => ks.length - (intOf (a.tmps.getD 13 undef)).toNat) ?start ?round
    case start => exact ⟨0, [⟨.mk o nm v ks, A, c⟩], [], _, _, _, _, _, _, _, _, _, _, _, _, _, ⟨Nat.zero_le _, HNEW, HJ3, HW3, Lib.hid .nil⟩, rfl⟩
    case round =>
      clear HNEW HJ3 HW3 d5 c0 c1 c2 c3 c4 c5 hp hy HR
      rintro a V ⟨k, xs, Ds, u4, u5, u14, u15, u16, u17, u18, u19, u20, u21, u22, u23, u24, ⟨hk, HXS, HJp, HWk, HP⟩, rfl⟩
      by_cases hlt : k < ks.length
      · obtain ⟨b, off, A2, c2, hA, hbB, hk2, c0, c1, c2', c3, c4, c5⟩ := HWk.out.kids.at6 k hlt
        have HA := Lib.hid hA
        simp only [X.ks] at hk2 c0 c1 c2' c3 c4 c5
        have HIHk := Lib.hid (HIH.out ks[k] (List.getElem_mem hlt))
        have HALL := Lib.hid (allL_at ks k hlt)
        have HTK := Lib.hid (allL_take ks k hlt)
        obtain ⟨x, hx⟩ : ∃ x, ks[k] = x := ⟨_, rfl⟩
        rw [hx] at hk2 c0 c1 c2' c3 c4 c5 HIHk HALL HTK
        clear hx
        obtain ⟨o2, nm2, v2, ks2⟩ := x
        simp only [X.op, X.nm, X.v, X.ks] at c0 c1 c2' c3 c4 c5
        have hbW : b < V.heap.size := by have := HWk.out.b; have := HWk.out.size; omega
        have i1 : (0 : Int) ≤ (k : Int) := by omega
        have i2 : (k : Int) < (ks.length : Int) := by omega
        have hW := within_any (.mk o2 nm2 v2 ks2) A2 c2
        unfold X.val X.obj at hW
        simp only [X.op, X.nm, X.v, X.ks] at hW
        have HWI := Lib.hid hW
        clear hW
        subst hA
        have HKX := Lib.hid hk2
        clear hk2
        gi_wp2_with (refine ⟨trivial, ?_⟩; gi_at_call 34; go_loud (refine (callsIn_wide.2 (HWI.out _)).mono ?_; rintro e w1 ⟨rfl, rfl⟩))
        obtain ⟨W0, hW0⟩ : ∃ W0, (V.alloc (.cells #[.int .i64 o2, .string nm2, .int .i64 v2.k, .int .i64 v2.n, .string v2.s, .slice A2 ks2.length c2] 26)).alloc (.cells #[.int .i64 o2, .string nm2, .int .i64 v2.k, .int .i64 v2.n, .string v2.s, .slice A2 ks2.length c2] 26) = W0 := ⟨_, rfl⟩
        have hsz : W0.heap.size = V.heap.size + 2 := by rw [← hW0]; simp
        have hg0 : V.grownBy W0 none := by rw [← hW0]; exact grown_of_below (((Below.refl _ V).alloc (Nat.le_refl _) _).alloc (by simp) _)
        have hq0 : W0.heap[V.heap.size + 1]? = some ((X.mk o2 nm2 v2 ks2).obj A2 c2) := by
          rw [← hW0]
          have := World.alloc_heap_new (V.alloc (.cells #[.int .i64 o2, .string nm2, .int .i64 v2.k, .int .i64 v2.n, .string v2.s, .slice A2 ks2.length c2] 26)) ((X.mk o2 nm2 v2 ks2).obj A2 c2)
          rwa [World.size_alloc] at this
        rw [hW0]
        have hVs := HWk.out.size
        have hBs := HWk.out.b
        have hSV : ∀ q, S q → q < V.heap.size := fun q h => by have := hSW q h; omega
        have hDs : ∀ q ∈ Ds, q < W0.heap.size := fun q h => by have := (HWk.out.ds q h).2.1; omega
        have HKT : Hid (KidsAt W0 B (.mk o2 nm2 v2 ks2) A2 c2) := Lib.hid (HKX.out.below (below_of_grown hg0 (fun r e => by cases e) (by omega)))
        clear hW0 c0 c1 c2' c3 c4 c5 HWI HKX
        have HWO := Lib.hid (Ws.own (β := List XA) (e := .mk o nm v ks) (A := some ⟨b, off, none⟩) (c := c) (L := L) (B := B) (p := p) (s0 := W.heap.size) (Ds := Ds) (D := W0.heap.size) hDs (by omega))
        have HL2 := Lib.hid HLEN.out.1
        refine range_nest2 rfl (by omega) (gf := 89) (lb := #[.pointer (some ⟨V.heap.size + 1, 0, none⟩)]) rfl trivial (enters_of Tryz.func89 (by kernel_rfl) rfl)
          (encs := XA.enc) (Y := Yx (.mk o2 nm2 v2 ks2) B) (Kp := Kt (W0.heap.size + 2) (fun q => S q ∨ q = V.heap.size + 1) T) (done := fun xs' => xs'.map XA.e = allX (.mk o2 nm2 v2 ks2))
          (fun W1 hg hs1 => by
            have h := HIHk.out 4 (Nat.le_refl _) B (V.heap.size + 1) (fun q => S q ∨ q = V.heap.size + 1) T hT hT2 A2 c2 W1 ((hg.block _ (by omega) (by simp)).trans hq0) (HKT.out.below (below_of_grown hg (fun r e => by cases e) (by omega)))
              (by omega) (fun k hk => .inl (hSB k hk)) (.inr rfl) (fun q hq => hq.elim (fun h => by have := hSV q h; omega) (fun h => by omega))
            rw [hs1] at h
            exact SeqAt.deep h)
          (fun x => rfl) Kt.trans Kt.grown (fun U o => Kt.put (fun q hq => hq.elim (fun h => by have := hSV q h; omega) (fun h => by omega)) rfl (fun hq => hq.elim (fun h => by have := hSV _ h; omega) (fun h => by omega)) o)
          (fun pre U => ((J (xs ++ pre) U ∧ Ws (.mk o nm v ks) (some ⟨b, off, none⟩) c L B p W.heap.size Ds U) ∧ U.heap[V.heap.size + 1]? = some ((X.mk o2 nm2 v2 ks2).obj A2 c2)) ∧ W0.heap.size + 2 ≤ U.heap.size)
          (fun c2 pre U => (c2 = .ret ∧ Ws (.mk o nm v ks) (some ⟨b, off, none⟩) c L B p W.heap.size Ds U) ∧ ∃ ns, Jx ns U)
          (((((HJ.out.mono (by omega)).map (xs ++ ·)).and HWO.out).and (LoopOwn.blk (by omega))).and LoopOwn.size_)
          (fun c3 => ((LoopOwn.pure_ (fun _ => c3 = .ret)).and HWO.out).and (LoopOwn.ex (HJX.out.mono (by omega))))
          (fun pre => Yx.own (by omega) pre) ?start boxX (fun x U => World.grownBy_alloc U _ none) AtX (fun x U r r' hb => AtX.made hb.lt _) ?a1 ?assign ?body ?done ?stop
        case start =>
          intro W1 hg hs1
          refine ⟨⟨⟨?_, ?_⟩, (hg.block _ (by omega) (by simp)).trans hq0⟩, by omega⟩
          · rw [List.append_nil]
            exact HJ.out.grow (HJ.out.grow HJp.out hg0) hg
          · exact (Ws.own (β := Unit) (D := V.heap.size) (fun q h => (HWk.out.ds q h).2.1) (by omega)).grow (s := ()) ((Ws.own (β := Unit) (D := V.heap.size) (fun q h => (HWk.out.ds q h).2.1) (by omega)).grow (s := ()) HWk.out hg0) hg
        case assign =>
          intro l0 x U K hK
          unfold XA.enc X.val
          gi_wp2
          exact hK
        case body =>
          rintro l0 pre x U V2 ⟨⟨⟨hJp2, hW2⟩, hq2⟩, hVs2⟩ ⟨⟨post, hpre⟩, hkx, hBx⟩ hat ⟨rb, hbk⟩
          have hat2 : V2.heap[U.heap.size]? = some (x.e.obj x.A x.c) := hat
          have e0 : V2.cell? ⟨U.heap.size, 0, none⟩ = some (.int .i64 x.e.op) := by simp [World.cell?, hat2, X.obj]
          have e1 : V2.cell? ⟨U.heap.size, 1, none⟩ = some (.string x.e.nm) := by simp [World.cell?, hat2, X.obj]
          have e2 : V2.cell? ⟨U.heap.size, 2, none⟩ = some (.int .i64 x.e.v.k) := by simp [World.cell?, hat2, X.obj]
          have e3 : V2.cell? ⟨U.heap.size, 3, none⟩ = some (.int .i64 x.e.v.n) := by simp [World.cell?, hat2, X.obj]
          have e4 : V2.cell? ⟨U.heap.size, 4, none⟩ = some (.string x.e.v.s) := by simp [World.cell?, hat2, X.obj]
          have e5 : V2.cell? ⟨U.heap.size, 5, none⟩ = some (.slice x.A x.e.ks.length x.c) := by simp [World.cell?, hat2, X.obj]
          have y4 : V2.cell? ⟨W.heap.size, 0, none⟩ = some (.func (.yield L) #[] #[]) := by simp [World.cell?, hW2.hy]
          obtain ⟨fn, tmps_, assign, body, hy, hR⟩ := HY.out (xs ++ pre) x V2 hJp2 ⟨⟨post ++ allL (ks.drop (k + 1)), by
            rw [List.map_append, HXS.out]
            show X.mk o nm v ks :: allL ks = _
            rw [HALL.out, hpre]
            simp⟩, hkx, hBx⟩
          have HR := Lib.hid hR
          unfold XA.enc X.val at hy
          have HQ2 := Lib.hid hq2
          have HW2 := Lib.hid hW2
          have HBK := Lib.hid hbk
          have HVS2 := Lib.hid hVs2
          have HRG := Lib.hid (show W.heap.size < W0.heap.size from by omega)
          have hkt : ∀ V3, Kt W.heap.size S T V2 V3 → BookKept W0.heap.size V2 V3 ∧ Kt (W0.heap.size + 2) (fun q => S q ∨ q = V.heap.size + 1) T V2 V3 ∧ V3.heap[V.heap.size + 1]? = some ((X.mk o2 nm2 v2 ks2).obj A2 c2) := fun V3 h3 => by
            have hqq : V3.heap[V.heap.size + 1]? = V2.heap[V.heap.size + 1]? := h3.block _ (by have := HVS2.out; omega) (.inr ⟨by omega, fun cs fr e => by
              rw [HQ2.out] at e
              injection e with e
              injection e with _ e _
              exact hT2 e.symm⟩)
            refine ⟨⟨h3.block _ (by have := HVS2.out; omega) (.inr ⟨by omega, fun cs fr e => by rw [HBK.out.dfr] at e; cases e⟩), h3.block _ (by have := HVS2.out; omega) (.inr ⟨by omega, fun cs fr e => by rw [HBK.out.rcd] at e; cases e⟩)⟩, ⟨h3.os, h3.tape, h3.output, h3.size, fun q hq hs => ?_⟩, hqq.trans HQ2.out⟩
            rcases hs with (h | rfl) | ⟨h1, h2⟩
            · exact h3.block q hq (.inl h)
            · exact hqq
            · exact h3.block q hq (.inr ⟨by omega, h2⟩)
          have HKT2 := Lib.hid hkt
          clear hR hJp2 hW2 hq2 hVs2 hpre hkx hBx hat hat2 hbk hkt
          gi_wp2_with (refine (RoundIn.deep HR.out).mono ?_; rintro e W3 (⟨rfl, hJ3, hk3⟩ | ⟨rfl, hJ3, hk3⟩); all_goals (have HJ3 := Lib.hid hJ3; have HK3 := Lib.hid hk3; clear hJ3 hk3))
          · have hh := HKT2.out _ HK3.out
            exact ⟨hh.1, hh.2.1, ⟨⟨by rw [← List.append_assoc]; exact HJ3.out, HW2.out.kt hT HK3.out hSB hSp⟩, hh.2.2⟩, Nat.le_trans HVS2.out HK3.out.size⟩
          · have hh := HKT2.out _ HK3.out
            exact ⟨hh.1, hh.2.1, ⟨rfl, HW2.out.kt hT HK3.out hSB hSp⟩, _, HJ3.out⟩
        case done =>
          rintro xs' V2 hxs ⟨⟨⟨hJp2, hW2⟩, hq2⟩, hVs2⟩ hK
          have hxs2 : xs'.map XA.e = allX (.mk o2 nm2 v2 ks2) := hxs
          have HX2 := Lib.hid (show (xs ++ xs').map XA.e = .mk o nm v ks :: allL (ks.take (k + 1)) from by rw [List.map_append, HXS.out, hxs2, HTK.out]; rfl)
          have HJ2 := Lib.hid hJp2
          have hds : ∀ D ∈ W0.heap.size :: Ds, W.heap.size ≤ D ∧ D < V2.heap.size ∧ V2.heap[D]? = some (.deferred (some [])) := fun D hD => by
            rcases List.mem_cons.1 hD with rfl | hD
            · exact ⟨by omega, by omega, hK⟩
            · exact hW2.ds D hD
          have HW2 := Lib.hid (show Ws (.mk o nm v ks) (some ⟨b, off, none⟩) c L B p W.heap.size (W0.heap.size :: Ds) V2 from ⟨hW2.hp, hW2.hy, hW2.kids, hds, hW2.size, hW2.b, hW2.ps⟩)
          have HP2 := Lib.hid (List.Pairwise.cons (a := W0.heap.size) (R := (· ≠ ·)) (fun q hq e => by have := hDs q hq; omega) HP.out)
          have hl1 : k + 1 ≤ 9223372036854775807 := by have := HLEN.out; omega
          clear hxs hxs2 hJp2 hW2 hq2 hVs2 hK hds
          gi_wp2
          have hac : ∀ a : Act, a.defers = { target := .collected (V.heap.size + 2), args := #[] } :: List.map markD Ds → a = ⟨a.tmps, List.map markD (W0.heap.size :: Ds)⟩ := fun a h => by
            rw [List.map_cons, hsz]
            unfold markD at h ⊢
            rw [← h]
          refine ⟨⟨k + 1, xs ++ xs', W0.heap.size :: Ds, _, _, _, _, _, _, _, _, _, _, _, _, _, ⟨by omega, HX2, HJ2, HW2, HP2⟩, hac _ rfl⟩, ?_⟩
          simp [intOf]
          omega
        case stop =>
          rintro cc pre V2 ⟨⟨rfl, hW2⟩, ns, hJx⟩ hK
          have HJ3 := Lib.hid hJx
          have hds : ∀ D ∈ W0.heap.size :: Ds, W.heap.size ≤ D ∧ V2.heap[D]? = some (.deferred (some [])) := fun D hD => by
            rcases List.mem_cons.1 hD with rfl | hD
            · exact ⟨by omega, hK⟩
            · exact ⟨(hW2.ds D hD).1, (hW2.ds D hD).2.2⟩
          have HDS := Lib.hid hds
          have HP2 := Lib.hid (List.Pairwise.cons (a := W0.heap.size) (R := (· ≠ ·)) (fun q hq e => by have := hDs q hq; omega) HP.out)
          clear hW2 hJx hK hds
          gi_wp2
          exact leaves_marks (Ds := W0.heap.size :: Ds) HJX.out (fun V => by simp [results, Tryz.results89, go_sem]; rfl) (fun V h => ⟨⟨_, rfl⟩, .inr ⟨_, h⟩⟩) V2 HP2.out HDS.out HJ3.out
      · have hke : ks.take k = ks := List.take_of_length_le (by omega)
        have HE := Lib.hid (show xs.map XA.e = allX (.mk o nm v ks) from by rw [HXS.out, hke]; rfl)
        have HDS := Lib.hid (show ∀ D ∈ Ds, W.heap.size ≤ D ∧ V.heap[D]? = some (.deferred (some [])) from fun D hD => ⟨(HWk.out.ds D hD).1, (HWk.out.ds D hD).2.2⟩)
        clear hke
        gi_wp2
        exact leaves_marks (Ds := Ds) HJ.out (fun V => by simp [results, Tryz.results89, go_sem]; rfl) (fun V h => ⟨⟨_, rfl⟩, .inl ⟨_, HE.out, h⟩⟩) V HP.out HDS.out HJp.out
  · exact leaves_marks (Ds := []) HJX.out (fun V => by simp [results, Tryz.results89, go_sem]; rfl) (fun V h => ⟨⟨_, rfl⟩, .inr ⟨_, h⟩⟩) W3 .nil (by simp) HJ3.out
end Go.Proofs.YtclcabdekeegdaaGreat

/- Layer 13, walked: how many expressions there are. -/
namespace Go.Proofs.YtclcabdekeegdaaGreat
attribute [local go_sem] Oper.semAt_some
open Go Go.ChangeShapes Go.WideShapes Go.ChangeAt Go.RowKit
set_option linter.unusedVariables false

theorem grown_self (U : World) : U.grownBy U none := ⟨rfl, rfl, rfl, Nat.le_refl _, fun _ _ _ => rfl⟩
theorem LoopOwn.below {β : Type} {B s0 : Nat} {W : World} (hs : s0 ≤ B) (hW : s0 ≤ W.heap.size) : LoopOwn B (fun (_ : β) U => Below s0 W U) := fun _ U V row h hg hr =>
  h.trans (below_of_grown hg (fun r e => Nat.le_trans hs (hr r e).1) (Nat.le_trans hW h.size))
theorem LoopOwn.cell {β : Type} {B q i : Nat} {f : β → Value} (hq : q < B) : LoopOwn B (fun (s : β) (U : World) => U.cell? ⟨q, i, none⟩ = some (f s)) := fun s U V row h hg hr =>
  (World.cell?_of_block (w := U) (a := ⟨q, i, none⟩) (hg.block q (World.block_lt_of_cell? U _ h) (fun e => by have := (hr q e.symm).1; omega))).trans h
/-- One cell that may be written. -/
structure Cell1 (q : Nat) (v : Value) (U : World) : Prop where
  c : U.cell? ⟨q, 0, none⟩ = some v
  f : U.frozen? ⟨q, 0, none⟩ = false
theorem Cell1.lt {q : Nat} {v : Value} {U : World} (h : Cell1 q v U) : q < U.heap.size := World.block_lt_of_cell? U _ h.c
theorem Cell1.blk {q : Nat} {v : Value} {U V : World} (h : Cell1 q v U) (e : V.heap[q]? = U.heap[q]?) : Cell1 q v V := ⟨(World.cell?_of_block (w := U) (a := ⟨q, 0, none⟩) e).trans h.c, (World.frozen?_of_block (w := U) (a := ⟨q, 0, none⟩) e).trans h.f⟩
theorem Cell1.set {q : Nat} {v : Value} {U : World} (h : Cell1 q v U) (x : Value) : Cell1 q x (U.setCell ⟨q, 0, none⟩ x) := ⟨World.cell?_setCell_same _ _ _ h.c, (World.frozen?_setCell _ _ _ _).trans h.f⟩
theorem Cell1.own {β : Type} {B q : Nat} {f : β → Value} (hq : q < B) : LoopOwn B (fun (s : β) (U : World) => Cell1 q (f s) U) := fun s U V row h hg hr =>
  h.blk (hg.block q h.lt (fun e => by have := (hr q e.symm).1; omega))
theorem Kt.set {B0 : Nat} {S : Nat → Prop} {T : Nat} {U : World} {q i : Nat} (hS : ¬ S q) (hq : q < B0) (v : Value) : Kt B0 S T U (U.setCell ⟨q, i, none⟩ v) :=
  ⟨rfl, rfl, rfl, by simp [World.setCell], fun k _ hs => Below.heap_setCell _ _ _ _ (fun (e : k = q) => hs.elim (fun h => hS (e ▸ h)) (fun h => by omega))⟩
theorem BookKept.set {D : Nat} {U : World} {q i : Nat} (hq : q < D) (v : Value) : BookKept D U (U.setCell ⟨q, i, none⟩ v) :=
  ⟨Below.heap_setCell _ _ _ _ (Nat.ne_of_gt hq), Below.heap_setCell _ _ _ _ (Nat.ne_of_gt (Nat.lt_succ_of_lt hq))⟩

theorem below_put {s0 : Nat} {W V : World} (h : Below s0 W V) (hW : s0 ≤ W.heap.size) {q : Nat} (hq : s0 ≤ q) (o : Obj) : Below s0 W (V.putObj q o) :=
  h.trans (below_of_grown (grown_put V q o) (fun r e => by cases e; exact hq) (Nat.le_trans hW h.size))
theorem append_len {x : XA} {pre : List XA} {m : Nat} (h : pre.length = m) : (pre ++ [x]).length = m + 1 := by simp [h]
set_option maxRecDepth 100000 in
set_option maxHeartbeats 16000000 in
theorem nodes_any (e : X) (A : Option Addr) (c : Nat) (W : World) (hk : KidsAt W W.heap.size e A c) :
    Calls Tryz.prog 14 #[e.val A c] W fun en w' => en = .returned (.int .i64 ((min (cnt e) 257 : Nat) : Int)) ∧ Below W.heap.size W w' := by
  refine (callsIn_wide (n := 8)).1 ?_
  obtain ⟨W0, hW0⟩ : ∃ W0, ((W.alloc (e.obj A c)).alloc (.cells #[.int .i64 0] 3)).alloc (e.obj A c) = W0 := ⟨_, rfl⟩
  have hsz : W0.heap.size = W.heap.size + 3 := by rw [← hW0]; simp
  have hbw : Below W.heap.size W W0 := by rw [← hW0]; exact (((Below.refl _ W).alloc (Nat.le_refl _) _).alloc (by simp) _).alloc (by simp; omega) _
  have hq0 : W0.heap[W.heap.size + 2]? = some (e.obj A c) := by
    rw [← hW0]
    have := World.alloc_heap_new ((W.alloc (e.obj A c)).alloc (.cells #[.int .i64 0] 3)) (e.obj A c)
    rwa [World.size_alloc, World.size_alloc] at this
  have hn0 : Cell1 (W.heap.size + 1) (.int .i64 0) W0 := by
    rw [← hW0]
    unfold X.obj
    exact ⟨by simp [go_sem], by simp [go_sem]⟩
  have HWI := Lib.hid (within_any e A c)
  have HK := Lib.hid (hk.below hbw)
  have HBW := Lib.hid hbw
  have HL := Lib.hid (allX_len e)
  clear hk hbw
  unfold X.val X.obj at HWI
  unfold X.obj at hW0
  unfold X.val
  refine callsIn_of_wp_marks Tryz.func14 rfl trivial ?_ rfl
  simp only [Tryz.ntmps14, List.size_toArray, List.length_cons, List.length_nil, Nat.reduceAdd, Nat.reduceSub, Array.replicate_succ, Array.replicate_zero, List.push_toArray, List.append_toArray, List.nil_append, List.cons_append]
  gi_wp2_with (refine ⟨trivial, ?_⟩; gi_at_call 34; go_loud (refine (callsIn_wide.2 (HWI.out _)).mono ?_; rintro e w1 ⟨rfl, rfl⟩))
  try rw [hW0]
  clear HWI hW0
  refine range_nest2 rfl (by omega) (gf := 89) (lb := #[.pointer (some ⟨W.heap.size + 2, 0, none⟩)]) (by simp [Act.eval]) trivial (enters_of Tryz.func89 (by kernel_rfl) rfl)
    (encs := XA.enc) (Y := Yx e W.heap.size) (Kp := Kt (W0.heap.size + 2) (fun q => q < W.heap.size ∨ q = W.heap.size + 2) 3) (done := fun xs' => xs'.map XA.e = allX e)
    (fun W1 hg hs1 => by
      have h := within_seq e 7 (by decide) W.heap.size (W.heap.size + 2) (fun q => q < W.heap.size ∨ q = W.heap.size + 2) 3 (by decide) (by decide) A c W1 ((hg.block _ (by omega) (by simp)).trans hq0) (HK.out.below (below_of_grown hg (fun r e => by cases e) (by omega)))
        (by omega) (fun k hk => .inl hk) (.inr rfl) (fun q hq => by omega)
      rw [hs1] at h
      exact h)
    (fun x => rfl) Kt.trans Kt.grown (fun U o => Kt.put (fun q hq => by omega) rfl (by omega) o)
    (fun pre U => (Below W.heap.size W U ∧ Cell1 (W.heap.size + 1) (.int .i64 (pre.length : Nat)) U) ∧ pre.length ≤ 256)
    (fun c2 pre U => c2 = .exit 0 ∧ (Below W.heap.size W U ∧ Cell1 (W.heap.size + 1) (.int .i64 257) U) ∧ 257 ≤ cnt e)
    (((LoopOwn.below (by omega) (Nat.le_refl _)).and (Cell1.own (f := fun pre : List XA => .int .i64 (pre.length : Nat)) (by omega))).and (LoopOwn.pure_ _))
    (fun c3 => (LoopOwn.pure_ (fun _ => c3 = .exit 0)).and (((LoopOwn.below (by omega) (Nat.le_refl _)).and (Cell1.own (f := fun _ => .int .i64 257) (by omega))).and (LoopOwn.pure_ _)))
    (fun pre => Yx.own (by omega) pre) ?start (fun x U => U) (fun x U => grown_self U) (fun _ _ _ => True) (fun x U r r' hb => trivial) ?a1 ?assign ?body ?done ?stop
  case start =>
    intro W1 hg hs1
    exact ⟨⟨HBW.out.trans (below_of_grown hg (fun r e => by cases e) (by omega)), hn0.blk (hg.block _ (by omega) (by simp))⟩, by simp⟩
  case assign =>
    intro l0 x U K hK
    unfold XA.enc X.val
    gi_wp2
    exact hK
  case body =>
    rintro l0 pre x U V2 ⟨⟨hB2, hc2⟩, hlen⟩ ⟨⟨post, hpre⟩, _, _⟩ hat ⟨rb, hbk⟩
    have hcnt : pre.length + 1 ≤ cnt e := by
      rw [← HL.out, hpre]
      simp
    have e0 := hc2.c
    have e1 := hc2.f
    have HB2 := Lib.hid hB2
    have HC2 := Lib.hid hc2
    have HCN := Lib.hid hcnt
    obtain ⟨m, hm⟩ : ∃ m, pre.length = m := ⟨_, rfl⟩
    have HM := Lib.hid hm
    rw [hm] at e0 hlen HC2 HCN
    clear hB2 hc2 hpre hbk hm hcnt
    by_cases h256 : m + 1 ≤ 256
    · have q1 : decide ((256 : Int) < (m : Int) + 1) = false := decide_eq_false (by omega)
      gi_wp2
      refine ⟨BookKept.set (by omega) _, Kt.set (by omega) (by omega) _, ⟨HB2.out.setCell (Nat.le_succ _) _, ?_⟩, ?_⟩
      · rw [append_len HM.out]
        exact HC2.out.set _
      · rw [append_len HM.out]
        exact h256
    · have q1 : decide ((256 : Int) < (m : Int) + 1) = true := decide_eq_true (by omega)
      gi_wp2
      refine ⟨BookKept.set (by omega) _, Kt.set (by omega) (by omega) _, rfl, ⟨HB2.out.setCell (Nat.le_succ _) _, ?_⟩, ?_⟩
      · have h7 : (m : Int) + 1 = 257 := by omega
        rw [h7]
        exact HC2.out.set _
      · have := HCN.out
        omega
  case done =>
    rintro xs V hxs ⟨⟨hB2, hc2⟩, hlen⟩ hK
    have e0 := hc2.c
    have hxl : xs.length = cnt e := by
      have hxs2 : xs.map XA.e = allX e := hxs
      rw [← HL.out, ← hxs2]
      simp
    have HX := Lib.hid (show ((xs.length : Nat) : Int) = ((min (cnt e) 257 : Nat) : Int) from by omega)
    have HK2 := Lib.hid hK
    have HB2 := Lib.hid hB2
    rw [hsz] at HK2
    clear hxl hxs hB2 hc2 hlen hK
    gi_wp2
    refine ⟨by simp, .inl ⟨_, _, rfl, run_takeDeferred HK2.out, ?_⟩⟩
    exact ⟨.int .i64 (xs.length : Nat), by simp [results, Tryz.results14, go_sem], by rw [HX.out], below_put HB2.out (Nat.le_refl _) (by omega) _⟩
  case stop =>
    rintro c2 pre V ⟨rfl, ⟨hB2, hc2⟩, hcn⟩ hK
    have e0 := hc2.c
    have HX := Lib.hid (show (257 : Int) = ((min (cnt e) 257 : Nat) : Int) from by omega)
    have HK2 := Lib.hid hK
    have HB2 := Lib.hid hB2
    rw [hsz] at HK2
    clear hcn hB2 hc2 hK
    gi_wp2
    refine ⟨by simp, .inl ⟨_, _, rfl, run_takeDeferred HK2.out, ?_⟩⟩
    exact ⟨.int .i64 257, by simp [results, Tryz.results14, go_sem], by rw [HX.out], below_put HB2.out (Nat.le_refl _) (by omega) _⟩
end Go.Proofs.YtclcabdekeegdaaGreat
