/- Several texts in one: RangeA, RegionQuiet, RangeV, RangeN, Region, RegTill, RegRound, RegZ. -/
import Derived.RangeFuncNested
import Derived.RangeFuncBound
import Derived.RangeFuncCalls
import Derived.RangeFuncLeaves
import Derived.Sort.QuietTacIn
import Derived.LoopNIn
import Derived.OrdersHeld
import Derived.KernelRfl
import Derived.WalkKit
import Derived.OrdersIn
/- Several texts in one: RangeMem, RangeKeep. -/
/- A range over an iterator that hands out memory of its own making: the body is told, of what it is handed, where it lies in the world of the round. No program is named here. -/
namespace Go.Proofs.YtclcabdekeegdaaGreat
open Go Go.RowKit
set_option linter.unusedVariables false
/-- The loop's record and the block of the rounds' deferred calls lie where they were laid. -/
structure Book (B : Nat) (r : Loop) (W : World) : Prop where
 rcd : W.heap[B + 1]? = some (.loop r)
 dfr : W.heap[B]? = some (.deferred (some []))
theorem Book.lt {B : Nat} {r : Loop} {W : World} (h : Book B r W) : B + 1 < W.heap.size := (Array.getElem?_eq_some_iff.1 h.rcd).1
theorem Book.grow {B : Nat} {r : Loop} {U V : World} (h : Book B r U) (hg : U.grownBy V none) : Book B r V :=
 ⟨(hg.block _ h.lt (by simp)).trans h.rcd, (hg.block _ (Nat.lt_of_succ_lt h.lt) (by simp)).trans h.dfr⟩
theorem Book.keep {B : Nat} {r : Loop} {U V : World} (h : Book B r U) (hk : KeepsFrom B U V) : Book B r V :=
 ⟨hk.same _ _ (Nat.le_succ B) h.rcd rfl, hk.same _ _ (Nat.le_refl B) h.dfr rfl⟩
theorem Book.put {B : Nat} {r r' : Loop} {U : World} (h : Book B r U) : Book B r' (U.putObj (B + 1) (.loop r')) :=
 ⟨World.putObj_heap_same h.lt, (World.putObj_heap_other (Nat.ne_of_lt (Nat.lt_succ_self B))).trans h.dfr⟩
variable {F : Fence} {n : Nat} {P : Program}
end Go.Proofs.YtclcabdekeegdaaGreat
/- A range over an iterator, where the caller tells what a round turns (a file system of its own, say): the loop's two blocks are not among it. No program is named here. -/
namespace Go.Proofs.YtclcabdekeegdaaGreat
open Go Go.RowKit
set_option linter.unusedVariables false
def BookKept (B : Nat) (U V : World) : Prop := V.heap[B]? = U.heap[B]? ∧ V.heap[B + 1]? = U.heap[B + 1]?
theorem Book.kept {B : Nat} {r : Loop} {U V : World} (h : Book B r U) (hk : BookKept B U V) : Book B r V := ⟨hk.2.trans h.rcd, hk.1.trans h.dfr⟩
variable {F : Fence} {n : Nat} {P : Program}
end Go.Proofs.YtclcabdekeegdaaGreat
/- In a round of a range over a function, too, a region that only reads is walked once (from the third stage). -/
namespace Go.Proofs.YtclcabdekeegdaaGreat
attribute [local go_sem] Oper.semAt_some
open Go Go.RowKit
set_option linter.unusedVariables false
section
variable {F : Fence} {n : Nat} {P : Program} {ops : Array Oper} {md : Region.Mode} {C : World → Prop}
end
end Go.Proofs.YtclcabdekeegdaaGreat
/- A range over an iterator whose assignment ahead of the body makes memory. No program is named here. -/
namespace Go.Proofs.YtclcabdekeegdaaGreat
open Go Go.RowKit
set_option linter.unusedVariables false
variable {F : Fence} {n : Nat} {P : Program}
end Go.Proofs.YtclcabdekeegdaaGreat
/- A range over an iterator that ranges over another one itself: what is told of a loop abides while records of loops turn. No program is named here. -/
namespace Go.Proofs.YtclcabdekeegdaaGreat
open Go Go.RowKit
set_option linter.unusedVariables false
/-- A loop's record, or what it keeps of deferred calls. -/
def bookish : Obj → Prop
 | .loop _ => True
 | .deferred _ => True
 | _ => False
/-- It abides while memory grows, and while the record of a loop from B on turns. -/
def LoopOwn {β : Type} (B : Nat) (I : β → World → Prop) : Prop := ∀ s W W' row, I s W → W.grownBy W' row → (∀ r, row = some r → B ≤ r ∧ ∃ o, W.heap[r]? = some o ∧ bookish o) → I s W'
theorem LoopOwn.grow {β : Type} {B : Nat} {I : β → World → Prop} (h : LoopOwn B I) {s : β} {U V : World} (hs : I s U) (hg : U.grownBy V none) : I s V := h s U V none hs hg (fun r e => by cases e)
theorem grown_put (U : World) (q : Nat) (o : Obj) : U.grownBy (U.putObj q o) (some q) :=
 ⟨rfl, rfl, rfl, by simp [World.putObj], fun k hk hn => World.putObj_heap_other (fun e => hn (by rw [e]))⟩
theorem LoopOwn.put {β : Type} {B : Nat} {I : β → World → Prop} (h : LoopOwn B I) {s : β} {U : World} {q : Nat} {r r' : Loop} (hs : I s U) (hq : B ≤ q) (hl : U.heap[q]? = some (.loop r)) : I s (U.putObj q (.loop r')) :=
 h s U _ (some q) hs (grown_put U q _) (fun _ e => by cases e; exact ⟨hq, _, hl, trivial⟩)
theorem LoopOwn.done {β : Type} {B : Nat} {I : β → World → Prop} (h : LoopOwn B I) {s : β} {U : World} {q : Nat} {o' : Obj} (hs : I s U) (hq : B ≤ q) (hl : U.heap[q]? = some o') (o : Obj) (hb : bookish o' := by trivial) : I s (U.putObj q o) :=
 h s U _ (some q) hs (grown_put U q _) (fun _ e => by cases e; exact ⟨hq, _, hl, hb⟩)
theorem LoopOwn.mono {β : Type} {B B' : Nat} {I : β → World → Prop} (h : LoopOwn B I) (hB : B ≤ B') : LoopOwn B' I := fun s W W' row hs hg hr => h s W W' row hs hg (fun r e => ⟨Nat.le_trans hB (hr r e).1, (hr r e).2⟩)
theorem Book.away {B : Nat} {r : Loop} {U V : World} {row : Option Nat} (h : Book B r U) (hg : U.grownBy V row) (hr : ∀ q, row = some q → B + 2 ≤ q) : Book B r V :=
 ⟨(hg.block _ h.lt (fun e => by have := hr _ e.symm; omega)).trans h.rcd, (hg.block _ (Nat.lt_of_succ_lt h.lt) (fun e => by have := hr _ e.symm; omega)).trans h.dfr⟩
/-- What an iterator answers, called in the world W: what comes, 'Y pre x U'; 'Kp': what a round must leave to the iterator. -/
def SeqAt {α : Type} (F : Fence) (n : Nat) (P : Program) (g : Nat) (lb : Array Value) (encs : α → Array Value) (Y : List α → α → World → Prop) (Kp : World → World → Prop) (done : List α → Prop) (W : World) : Prop :=
 ∀ (l : Nat) (J Jx : List α → World → Prop), LoopOwn W.heap.size J → LoopOwn W.heap.size Jx →
  (∀ pre x U, J pre U → Y pre x U → YieldAt F (n - 1) P l (encs x) U fun e V => (e = .returned (.bool true) ∧ J (pre ++ [x]) V ∧ Kp U V) ∨ (e = .returned (.bool false) ∧ Jx (pre ++ [x]) V ∧ Kp U V)) →
  J [] W → CallsIn F n P g (#[.func (.yield l) #[] #[]] ++ lb) W fun e V => (∃ v, e = .returned v) ∧ ((∃ xs, done xs ∧ J xs V) ∨ ∃ pre, Jx pre V)
/-- What a round leaves, for the iterator too. -/
def nestPost {α : Type} (B : Nat) (Kp : World → World → Prop) (I : List α → World → Prop) (Ix : Code → List α → World → Prop) (xs : List α) (W : World) : Exit → Act → World → Prop
 | .normal, _, V => BookKept B W V ∧ Kp W V ∧ I xs V
 | .ret, _, V => BookKept B W V ∧ Kp W V ∧ Ix .ret xs V
 | .exit id, _, V => BookKept B W V ∧ Kp W V ∧ Ix (.exit id) xs V
 | .goto t, _, V => BookKept B W V ∧ Kp W V ∧ Ix (.goto t) xs V
 | .panic _, _, _ => False
 | .outgrown, _, _ => False
variable {F : Fence} {n : Nat} {P : Program}
theorem round_nests {α : Type} {l : Nat} {R : Ending → World → Prop} {B : Nat} {Kp : World → World → Prop} {I : List α → World → Prop} {Ix : Code → List α → World → Prop} {xs : List α} {W : World}
  (go : ∀ V, BookKept B W V → Kp W V → I xs V → ∃ v V', (Instr.endRound l none).run P V = .ok v V' ∧ R (.returned v) V')
  (leave : ∀ c V, BookKept B W V → Kp W V → Ix c xs V → ∃ v V', (Instr.endRound l (some c)).run P V = .ok v V' ∧ R (.returned v) V') :
  ∀ (e : Exit) (a : Act) (V : World), nestPost B Kp I Ix xs W e a V → roundPost P l R e a V
 | .normal, _, V, h => go V h.1 h.2.1 h.2.2
 | .ret, _, V, h => leave .ret V h.1 h.2.1 h.2.2
 | .exit id, _, V, h => leave (.exit id) V h.1 h.2.1 h.2.2
 | .goto t, _, V, h => leave (.goto t) V h.1 h.2.1 h.2.2
 | .panic _, _, _, h => h
 | .outgrown, _, _, h => h
end Go.Proofs.YtclcabdekeegdaaGreat
/- A region that draws its order, taken by hand: what is held of the world may grow on the way. -/
namespace Go.Proofs.YtclcabdekeegdaaGreat
open Go
section
variable {P : Program} {ops : Array Oper} {Q : Exit → Act → World → Prop} {md : Region.Mode} {S S' : World → Prop}
theorem held_begin {id : Nat} {a : Act} {w : World} (n : Nat) (S : World → Prop) (hn : ops.size = n) (hm : P.follows .mixedOrders = true)
  (h : wpAnyH P .any ops Q S n (Array.replicate n false) a w.drew) : (Code.region id ops true).wp P Q a w := by
 subst hn
 exact wp_region_held hm h
/-- An operation that yields v in each world of S is taken first. -/
theorem nA {α : Type _} {l : List α} {i : Nat} {a : α} : l.toArray.setIfInBounds i a = (l.set i a).toArray := List.setIfInBounds_toArray ..
theorem nB {α : Type _} {x : α} {xs : List α} {n : Nat} {a : α} : (x :: xs).set (n + 1) a = x :: xs.set n a := List.set_cons_succ ..
theorem nC {α : Type _} {x : α} {xs : List α} {a : α} : (x :: xs).set 0 a = a :: xs := List.set_cons_zero ..
theorem held_take {i t : Nat} {o : Oper} {v : Value} {fuel : Nat} {listed : Array Bool} {tm : Array Value} {ds : List Deferred} {w : World} (hi : ops[i]? = some o) (hd : o.dst = some t)
  (hs : Region.noSelect ops = true) (hf : Region.free md ops listed i = true) (hr : (Region.ready md ops listed).contains i = true)
  (hQ2 : ∀ c a w, Q (.panic c) (a.put o.dst v) w → Q (.panic c) a w) (hy : YieldsIf P ops S o v ⟨tm, ds⟩) (hS : S w)
  (h : wpAnyH P md ops Q S fuel (listed.setIfInBounds i true) ⟨tm.setIfInBounds t v, ds⟩ w) : wpAnyH P md ops Q S (fuel + 1) listed ⟨tm, ds⟩ w := by
 refine wpAnyH_take hi hs hf hr hQ2 hy hS ?_
 rw [hd]
 exact h
theorem tkQ (i t : Nat) (v : Value) (fuel : Nat) {o : Oper} {listed : Array Bool} {tm : Array Value} {ds : List Deferred} {w : World} (hi : ops[i]? = some o) (hd : o.dst = some t)
  (h3 : (Region.noSelect ops && Region.free md ops listed i && (Region.ready md ops listed).contains i) = true)
  (hQ2 : ∀ c a w, Q (.panic c) (a.put o.dst v) w → Q (.panic c) a w) (hy : YieldsIf P ops S o v ⟨tm, ds⟩) (hS : S w)
  (h : wpAnyH P md ops Q S fuel (listed.setIfInBounds i true) ⟨tm.setIfInBounds t v, ds⟩ w) : wpAnyH P md ops Q S (fuel + 1) listed ⟨tm, ds⟩ w := by
 simp only [Bool.and_eq_true] at h3
 exact held_take hi hd h3.1.1 h3.1.2 h3.2 hQ2 hy hS h
/-- One operation alone is ready, and is a call (or another that turns the world). -/
theorem held_call {i : Nat} {o : Oper} {fuel : Nat} {listed : Array Bool} {a : Act} {w : World} (hi : ops[i]? = some o) (hr : Region.ready md ops listed = [i]) (hw : Region.wanted o (yielded ops a.tmps) = true)
  (h : o.wp P a w (fun a' w' => S w' ∧ wpAnyH P md ops Q S fuel (listed.setIfInBounds i true) a' w') Q) : wpAnyH P md ops Q S (fuel + 1) listed a w :=
 wpAnyH_all hr (by simp) (fun j hj => by
  obtain rfl : j = i := by simpa using hj
  unfold wpOp
  simp only [hi]
  rw [if_pos hw]
  exact .inl h)
end
end Go.Proofs.YtclcabdekeegdaaGreat
/- A region that draws its order, taken by hand: what is held of the world is held till one last operation, a store. -/
namespace Go.Proofs.YtclcabdekeegdaaGreat
open Go
section
variable {P : Program} {ops : Array Oper} {Q : Exit → Act → World → Prop} {md : Region.Mode} {S : World → Prop} {z : Nat}
end
end Go.Proofs.YtclcabdekeegdaaGreat
/- A region that draws its order, in a round of a range over a function: taken by hand as outside of rounds. No program is named here. -/
namespace Go.Proofs.YtclcabdekeegdaaGreat
open Go Go.RowKit
section
variable {P : Program} {ops : Array Oper} {Q : Exit → Act → World → Prop} {md : Region.Mode} {l n : Nat}
theorem rows_round {r : String} {args : Array Value} {w : World} {R : Value → World → Prop} (h : Rows P r args w R) : RowsIn (Fence.wide.inRound l) n P r args w R :=
 fun c cs _ => let ⟨v, w', hr, s⟩ := h c cs; ⟨v, w', hr, stepsIn_wide.2 s⟩
theorem oper_round {o : Oper} {a : Act} {w : World} {K : Act → World → Prop} (hd : ∀ c, o.op ≠ .defer c) (h : o.wp P a w K Q) : o.wpIn (Fence.wide.inRound l) n P a w K Q := by
 refine ⟨fun f _ => trivial, ?_⟩
 rw [Oper.semAt_eq _ _ _ hd]
 unfold Oper.wp at h
 generalize (execOp a.eval o).run P w = r at h ⊢
 cases r with
 | ok x w' =>
  cases x with
  | value v => exact h
  | skip => exact h
  | defer d => exact h
  | enter f args => exact ⟨(fun h => (by cases h)), CallsIn.inRound l (callsIn_wide.2 h)⟩
  | row r args => exact ⟨(fun h => (by cases h)), rows_round h⟩
  | _ => exact h.elim
 | halt x w' =>
  cases x with
  | panic v => exact h
  | _ => exact h.elim
theorem any_round (hd : ∀ (i : Nat) (o : Oper), ops[i]? = some o → ∀ c, o.op ≠ .defer c) (hL : ¬ LetsOut Q) : ∀ (fuel : Nat) (listed : Array Bool) (a : Act) (w : World), wpAny P md ops Q fuel listed a w → wpAnyIn (Fence.wide.inRound l) n P md ops Q fuel listed a w
 | 0, _, _, _, h => h
 | fuel + 1, listed, a, w, h => ⟨h.1, fun i hi => by
  have h2 := h.2 i hi
  unfold wpOp at h2
  unfold wpOpIn
  cases ho : ops[i]? with
  | none => rw [ho] at h2; exact any_round hd hL fuel _ _ _ h2
  | some o =>
   rw [ho] at h2
   dsimp only at h2 ⊢
   by_cases hw : Region.wanted o (yielded ops a.tmps) = true
   ·rw [if_pos hw] at h2 ⊢
    rcases h2 with h2 | h2
    ·exact Oper.wpIn_mono (fun a' w' h3 => any_round hd hL fuel _ _ _ h3) (oper_round (hd i o ho) h2)
    ·exact absurd h2.2 hL
   ·rw [if_neg hw] at h2 ⊢
    exact ⟨fun f _ => trivial, any_round hd hL fuel _ _ _ h2⟩⟩
/-- In a round, too: held_begin. -/
theorem held_round {id : Nat} {a : Act} {w : World} (k : Nat) (S : World → Prop) (hn : ops.size = k) (hm : P.follows .mixedOrders = true) (hd : ∀ o ∈ ops, ∀ c, o.op ≠ .defer c) (hL : ¬ LetsOut Q)
  (h : wpAnyH P .any ops Q S k (Array.replicate k false) a w.drew) : (Code.region id ops true).wpIn (Fence.wide.inRound l) n P Q a w := by
 subst hn
 exact wpIn_region_any hm (any_round (fun i o ho => hd o (Array.mem_of_getElem? ho)) hL _ _ _ _ (wpAny_of_held _ _ _ _ h))
end
end Go.Proofs.YtclcabdekeegdaaGreat
/- A region that draws its order, taken by hand: what is held of the world may fall with one operation, a store; others may come behind it. -/
namespace Go.Proofs.YtclcabdekeegdaaGreat
open Go
section
variable {P : Program} {ops : Array Oper} {Q : Exit → Act → World → Prop} {md : Region.Mode} {S : World → Prop} {z : Nat}
end
end Go.Proofs.YtclcabdekeegdaaGreat
