/- What a seat needs of several texts. -/
import Derived.Test.YtjgbpbjgcniieaaRows
import Derived.WalkKit
import Derived.WalkLawsBesides
import Derived.WalkSpells
import Derived.ProofKit
import Derived.Below
import Derived.Outline
import Derived.Lib.Hide
import Derived.BigQuiet
import Derived.Deep.QuietTactic
import Derived.Deep.RegionWith
import Derived.Deep.RegionHeld3
import Derived.LoopTactic
import Derived.Maps.AppendAt
import Derived.Deep.AppendLies
import Derived.Deep.Onto
import Derived.OwnWalk
import Derived.RangeFuncBox
import Derived.RangeFuncNested
import Derived.RangeFuncBound
import Derived.RangeFuncCalls
import Derived.RangeFuncLeaves
import Derived.Sort.QuietTacIn
import Derived.LoopNIn
import Derived.OrdersHeld
import Derived.KernelRfl
import Derived.OrdersIn
import Derived.OwnWalkIn
/- From Mem. -/
namespace Go.Proofs.Ytjgbpbjgcniieaa
open Go.ChangeShapes Go.WideShapes Go.ChangeAt Go.RowKit
open Go.Lib (byteCells byteCells_length byteCells_append strCells)
set_option linter.unusedVariables false
theorem add_at (b off j : Nat) : (⟨b, off, none⟩ : Addr).add j = ⟨b, off + j, none⟩ := by unfold Addr.add; split <;> simp_all
theorem own_below {w w' : World} {base : Nat} {e : TypeId} {size : Nat} {v : Value} {n : Nat} {xs : List Value} (h : w.ownsRow base e size v n xs) (hb : Below w.heap.size w w') : w'.ownsRow base e size v n xs := by
  refine ⟨h.1, ?_⟩
  rcases h.2 with ⟨rfl, h0⟩ | ⟨g, cap, cur, rfl, hg, hh, rest⟩
  · exact .inl ⟨rfl, h0⟩
  · exact .inr ⟨g, cap, cur, rfl, hg, (hb.block g (Array.getElem?_eq_some_iff.1 hh).1).trans hh, rest⟩
theorem own_slice {w : World} {base : Nat} {e : TypeId} {size : Nat} {v : Value} {n : Nat} {xs : List Value} (h : w.ownsRow base e size v n xs) : ∃ A c, v = .slice A n c := by
  rcases h.2 with ⟨rfl, rfl⟩ | ⟨g, cap, cur, rfl, _⟩
  · exact ⟨none, 0, rfl⟩
  · exact ⟨_, cap, rfl⟩
theorem new_cells (w : World) (l : List Value) (t : TypeId) : ∀ j u, l[j]? = some u → (w.alloc (.cells l.toArray t)).cell? ((⟨w.heap.size, 0, none⟩ : Addr).add j) = some u := by
  intro j u hj
  have e : (⟨w.heap.size, 0, none⟩ : Addr).add j = ⟨w.heap.size, j, none⟩ := by unfold Addr.add; split <;> simp_all
  rw [e, World.cell?_alloc_mark]
  simpa using hj
theorem below_drewN (w : World) (k : Nat) : Below w.heap.size w (w.drewN k) := ⟨rfl, rfl, rfl, Nat.le_refl _, fun _ _ => rfl⟩
theorem below_more {B : Nat} {w w1 : World} (h : Below B w w1) (k : Nat) : Below B w (w1.drewN k) := ⟨h.os, h.tape, h.output, h.size, h.block⟩
section
variable {α : Type} {f : α → List Value} {sz : Nat}
/-- The items l lie side by side from A on, below block B. -/
def RowC (f : α → List Value) (sz : Nat) (w : World) (B : Nat) (A : Option Addr) (l : List α) : Prop :=
  ∀ (j : Nat) (h : j < l.length), ∃ b off, A = some ⟨b, off, none⟩ ∧ b < B ∧ ∀ i v, (f l[j])[i]? = some v → w.cell? ⟨b, off + j * sz + i, none⟩ = some v
theorem RowC.below {w w' : World} {B : Nat} {A : Option Addr} {l : List α} (h : RowC f sz w B A l) (hb : Below B w w') : RowC f sz w' B A l := by
  intro j hj
  obtain ⟨b, off, e, hlt, h0⟩ := h j hj
  exact ⟨b, off, e, hlt, fun i v hv => (hb.cell (p := ⟨b, _, none⟩) hlt).trans (h0 i v hv)⟩
theorem RowC.more {w : World} {B B' : Nat} {A : Option Addr} {l : List α} (h : RowC f sz w B A l) (hb : B ≤ B') : RowC f sz w B' A l := by
  intro j hj
  obtain ⟨b, off, e, hlt, h0⟩ := h j hj
  exact ⟨b, off, e, by omega, h0⟩
theorem flat_at (hl : ∀ a, (f a).length = sz) : ∀ (l : List α) (q : Nat) (h : q < l.length) (i : Nat) (u : Value), (f l[q])[i]? = some u → (l.flatMap f)[q * sz + i]? = some u
  | [], q, h, i, u, hu => by simp at h
  | a :: l, 0, h, i, u, hu => by
    rw [List.flatMap_cons, Nat.zero_mul, Nat.zero_add]
    have hu' : (f a)[i]? = some u := hu
    have hi : i < (f a).length := (List.getElem?_eq_some_iff.1 hu').1
    rw [List.getElem?_append_left hi]
    exact hu'
  | a :: l, q + 1, h, i, u, hu => by
    have ih := flat_at hl l q (by simpa using h) i u (by simpa using hu)
    rw [List.flatMap_cons, List.getElem?_append_right (by rw [hl, Nat.add_mul, Nat.one_mul]; omega), hl]
    rw [show (q + 1) * sz + i - sz = q * sz + i by rw [Nat.add_mul, Nat.one_mul]; omega]
    exact ih
theorem flat_length (hl : ∀ a, (f a).length = sz) (l : List α) : (l.flatMap f).length = l.length * sz := by
  induction l with
  | nil => simp
  | cons a l ih => rw [List.flatMap_cons, List.length_append, hl, ih, List.length_cons, Nat.add_mul, Nat.one_mul, Nat.add_comm]
theorem RowC.own {w : World} {base : Nat} {E : TypeId} {A : Option Addr} {n c : Nat} {l : List α} (hl : ∀ a, (f a).length = sz) (hs : 0 < sz) (h : w.ownsRow base E sz (.slice A n c) n (l.flatMap f)) : n = l.length ∧ RowC f sz w w.heap.size A l := by
  have h1 := h.1
  rw [flat_length hl] at h1
  have hn : n = l.length := (Nat.eq_of_mul_eq_mul_right hs h1).symm
  refine ⟨hn, fun j hj => ?_⟩
  obtain ⟨g, cap, hv, _, hlt⟩ := h.form (by omega)
  have hc := h.cells (g := g) (by rw [hv]; rfl)
  injection hv with h1 _ _
  subst h1
  refine ⟨g, 0, rfl, hlt, fun i v hv => ?_⟩
  have := hc _ _ (flat_at hl l j hj i v hv)
  rw [add_at] at this
  rw [Nat.add_assoc]
  exact this
theorem RowC.nil (w : World) (B : Nat) (A : Option Addr) : RowC f sz w B A [] := fun j hj => by simp at hj
theorem flat_one (h1 : ∀ a, ∀ u ∈ f a, u.oneCell' = true) (l : List α) : ∀ u ∈ l.flatMap f, u.oneCell' = true := by
  intro u hu
  rw [List.mem_flatMap] at hu
  obtain ⟨a, _, ha⟩ := hu
  exact h1 a u ha
end
/-- 'l = append(l, v)' of one item that has just been laid. -/
theorem append_item {α : Type} {f : α → List Value} {sz bytes : Nat} {T E : TypeId} {z : Value} (hT : Try.prog.underlying T = some (.slice E)) (hinfo : (Try.prog.info? E).map (fun i => (i.zero, i.size, i.bytes)) = some (some z, sz, bytes)) (hz : z.cells.size = sz) (hsz : 0 < sz)
    (hl : ∀ a, (f a).length = sz) (h1 : ∀ a, ∀ u ∈ f a, u.oneCell' = true)
    {ops : Array Oper} {rest : List Oper} {o : Oper} {a : Act} {Q : Exit → Act → World → Prop} (hgd : o.guard = none) (s x : Operand)
    (ho : o.op = .call { callee := .builtin .append, args := #[s, x], argTypes := #[T, T] })
    (B : Nat) (A : Option Addr) (n c : Nat) (l : List α) (hs : a.eval s = .slice A n c) (w0 : World) (v : α) (hb : w0.ownsRow B E sz (.slice A n c) n (l.flatMap f)) (hB : B ≤ w0.heap.size)
    (L : Nat) (hx : a.eval x = .slice (some ⟨L, 0, none⟩) 1 1) (hL : L = w0.heap.size) (hlen : (n + 1) * bytes ≤ 140737488355328) (hn : n + 1 ≤ maxLen) (cells : List Value) (hcells : cells = f v)
    (h : ∀ A' n' c' w', n' = n + 1 → w'.ownsRow B E sz (.slice A' n' c') n' ((l ++ [v]).flatMap f) → Below B w0 w' → (w0.alloc (.cells cells.toArray E)).grownBy w' (Value.ownBlock (.slice A n c)) → wpList Try.prog ops Q rest (a.put o.dst (.slice A' n' c')) w') :
    wpList Try.prog ops Q (o :: rest) a (w0.alloc (.cells cells.toArray E)) := by
  subst hL
  subst hcells
  obtain ⟨i0, hi, hz0, hz1, hz2⟩ := info_parts hinfo
  have hb1 := hb.alloc (.cells (f v).toArray E)
  refine wpList_append_own_at _ hgd s x T ho B E i0 _ sz bytes hT hi hz0 hz1 hz2 hz hsz (.slice A n c) n (l.flatMap f) hs hb1 ⟨w0.heap.size, 0, none⟩ 1 1 (f v) hx (by rw [hl, Nat.one_mul])
    (new_cells w0 _ _) (h1 v) hn hlen (by simp; omega) ?_
  intro v' w' hown hg _ _
  obtain ⟨A', c', rfl⟩ := own_slice hown
  refine h A' (n + 1) c' w' rfl (by rw [List.flatMap_append]; simpa using hown) ?_ hg
  exact ((Below.refl B w0).alloc hB _).grown hg (by simp; omega) (fun k e => (hb.lt k e).1)
end Go.Proofs.Ytjgbpbjgcniieaa
/- From RegAll. -/
namespace Go.Proofs.Ytjgbpbjgcniieaa
open Go Go.RowKit
set_option linter.unusedVariables false
/-- The loop's record and the block of the rounds' deferred calls lie where they were laid. -/
structure Book (B : Nat) (r : Loop) (W : World) : Prop where
  rcd : W.heap[B + 1]? = some (.loop r)
  dfr : W.heap[B]? = some (.deferred (some []))
theorem Book.lt {B : Nat} {r : Loop} {W : World} (h : Book B r W) : B + 1 < W.heap.size := (Array.getElem?_eq_some_iff.1 h.rcd).1
theorem Book.grow {B : Nat} {r : Loop} {U V : World} (h : Book B r U) (hg : U.grownBy V none) : Book B r V :=
  ⟨(hg.block _ h.lt (by simp)).trans h.rcd, (hg.block _ (Nat.lt_of_succ_lt h.lt) (by simp)).trans h.dfr⟩
theorem Book.put {B : Nat} {r r' : Loop} {U : World} (h : Book B r U) : Book B r' (U.putObj (B + 1) (.loop r')) :=
  ⟨World.putObj_heap_same h.lt, (World.putObj_heap_other (Nat.ne_of_lt (Nat.lt_succ_self B))).trans h.dfr⟩
variable {F : Fence} {n : Nat} {P : Program}
end Go.Proofs.Ytjgbpbjgcniieaa
namespace Go.Proofs.Ytjgbpbjgcniieaa
open Go Go.RowKit
set_option linter.unusedVariables false
def BookKept (B : Nat) (U V : World) : Prop := V.heap[B]? = U.heap[B]? ∧ V.heap[B + 1]? = U.heap[B + 1]?
theorem Book.kept {B : Nat} {r : Loop} {U V : World} (h : Book B r U) (hk : BookKept B U V) : Book B r V := ⟨hk.2.trans h.rcd, hk.1.trans h.dfr⟩
variable {F : Fence} {n : Nat} {P : Program}
end Go.Proofs.Ytjgbpbjgcniieaa
namespace Go.Proofs.Ytjgbpbjgcniieaa
attribute [local go_sem] Oper.semAt_some
open Go Go.RowKit
set_option linter.unusedVariables false
section
variable {F : Fence} {n : Nat} {P : Program} {ops : Array Oper} {md : Region.Mode} {C : World → Prop}
/-- In a round, too, a region that only reads is walked once. -/
theorem any_of_quiet {Q : Act → Prop} {Q' : Exit → Act → World → Prop} (hnd : ∀ (i : Nat) (o : Oper), ops[i]? = some o → ∀ c, o.op ≠ .defer c) (hQ : ∀ a w, C w → Q a → Q' .normal a w) : ∀ (fuel : Nat) (listed : Array Bool) (a : Act) (w : World), C w →
    wpAnyQIn F n P md ops C Q fuel listed a → wpAnyIn F n P md ops Q' fuel listed a w
  | 0, _, _, _, hw, h => ⟨h.1, hQ _ _ hw h.2⟩
  | fuel + 1, listed, a, w, hw, h => by
    refine ⟨fun h0 => hQ _ _ hw (h.1 h0), fun i hi => ?_⟩
    have h2 := h.2 i hi
    have ih := fun l2 a2 w2 => any_of_quiet hnd hQ fuel l2 a2 w2
    unfold qOpIn at h2
    unfold wpOpIn
    cases ho : ops[i]? with
    | none => rw [ho] at h2; exact ih _ _ _ hw h2
    | some o =>
      rw [ho] at h2
      dsimp only at h2 ⊢
      obtain ⟨hask, h3⟩ := h2
      by_cases hwt : Region.wanted o (yielded ops a.tmps) = true
      · rw [if_pos hwt] at h3 ⊢
        obtain ⟨v, hv, hK⟩ := h3
        have hv1 := hv w hw
        unfold Oper.quietAtIn at hv1
        refine ⟨hask w hw, ?_⟩
        rw [Oper.semAt_eq _ _ _ (hnd i o ho)]
        revert hv1
        generalize (execOp a.eval o).run P w = r
        intro hv1
        cases r with
        | halt x w' => exact hv1.elim
        | ok x w' =>
          cases x <;> try exact hv1.elim
          · obtain ⟨e1, e2⟩ := hv1
            subst e1 e2
            exact ih _ _ _ hw hK
          · obtain ⟨e1, e2⟩ := hv1
            subst e1 e2
            exact ih _ _ _ hw hK
          · obtain ⟨e1, hd, hc⟩ := hv1
            subst e1
            refine ⟨hd, hc.mono ?_⟩
            rintro e w2 ⟨rfl, hw2⟩
            exact ih _ _ _ hw2 hK
      · rw [if_neg hwt] at h3 ⊢
        exact ⟨hask w hw, ih _ _ _ hw h3⟩
theorem region_quiet {id : Nat} {Q : Exit → Act → World → Prop} {a : Act} {w : World} {l : List Oper} (hnd : ∀ o ∈ l, ∀ c, o.op ≠ .defer c) (hm : P.follows .mixedOrders = true) (hB : Region.lexB .any l.toArray = true)
    (h : wpQuietIn F n P l.toArray (fun w' => ∃ n, w' = w.drewN n) (fun a' => ∀ w', (∃ n, w' = w.drewN n) → Q .normal a' w') l a) : (Code.region id l.toArray true).wpIn F n P Q a w := by
  simp only [Region.lexB, Bool.and_eq_true] at hB
  refine wpIn_region_any hm (any_of_quiet (C := fun w' => ∃ n, w' = w.drewN n) (Q := fun a' => ∀ w', (∃ n, w' = w.drewN n) → Q .normal a' w') (fun i o h => hnd o (List.mem_of_getElem? (by simpa using h))) (fun _ w' hw' h => h w' hw') _ _ _ _ ⟨1, rfl⟩ ?_)
  have := wpAnyQIn_lex (F := F) (n := n) (P := P) (C := fun w' => ∃ n, w' = w.drewN n) (Q := fun a' => ∀ w', (∃ n, w' = w.drewN n) → Q .normal a' w') (md := .any) hB.1 l 0 (Array.replicate l.toArray.size false) a (by simp) (by simpa using hB.2) h
  simpa using this
end
end Go.Proofs.Ytjgbpbjgcniieaa
namespace Go.Proofs.Ytjgbpbjgcniieaa
open Go Go.RowKit
set_option linter.unusedVariables false
variable {F : Fence} {n : Nat} {P : Program}
end Go.Proofs.Ytjgbpbjgcniieaa
namespace Go.Proofs.Ytjgbpbjgcniieaa
open Go Go.RowKit
set_option linter.unusedVariables false
/-- A loop's record, or what it keeps of deferred calls. -/
def bookish : Obj → Prop
  | .loop _ => True
  | .deferred _ => True
  | _ => False
/-- It abides while memory grows, and while the record of a loop from B on turns. -/
def LoopOwn {β : Type} (B : Nat) (I : β → World → Prop) : Prop := ∀ s W W' row, I s W → W.grownBy W' row → (∀ r, row = some r → B ≤ r ∧ ∃ o, W.heap[r]? = some o ∧ bookish o) → I s W'
theorem LoopOwn.grow {β : Type} {B : Nat} {I : β → World → Prop} (h : LoopOwn B I) {s : β} {U V : World} (hs : I s U) (hg : U.grownBy V none) : I s V := h s U V none hs hg (fun r e => by cases e)
theorem grown_put (U : World) (q : Nat) (o : Obj) : U.grownBy (U.putObj q o) (some q) :=
  ⟨rfl, rfl, rfl, by simp [World.putObj], fun k hk hn => World.putObj_heap_other (fun e => hn (by rw [e]))⟩
theorem LoopOwn.put {β : Type} {B : Nat} {I : β → World → Prop} (h : LoopOwn B I) {s : β} {U : World} {q : Nat} {r r' : Loop} (hs : I s U) (hq : B ≤ q) (hl : U.heap[q]? = some (.loop r)) : I s (U.putObj q (.loop r')) :=
  h s U _ (some q) hs (grown_put U q _) (fun _ e => by cases e; exact ⟨hq, _, hl, trivial⟩)
theorem LoopOwn.done {β : Type} {B : Nat} {I : β → World → Prop} (h : LoopOwn B I) {s : β} {U : World} {q : Nat} {o' : Obj} (hs : I s U) (hq : B ≤ q) (hl : U.heap[q]? = some o') (o : Obj) (hb : bookish o' := by trivial) : I s (U.putObj q o) :=
  h s U _ (some q) hs (grown_put U q _) (fun _ e => by cases e; exact ⟨hq, _, hl, hb⟩)
theorem LoopOwn.mono {β : Type} {B B' : Nat} {I : β → World → Prop} (h : LoopOwn B I) (hB : B ≤ B') : LoopOwn B' I := fun s W W' row hs hg hr => h s W W' row hs hg (fun r e => ⟨Nat.le_trans hB (hr r e).1, (hr r e).2⟩)
theorem Book.away {B : Nat} {r : Loop} {U V : World} {row : Option Nat} (h : Book B r U) (hg : U.grownBy V row) (hr : ∀ q, row = some q → B + 2 ≤ q) : Book B r V :=
  ⟨(hg.block _ h.lt (fun e => by have := hr _ e.symm; omega)).trans h.rcd, (hg.block _ (Nat.lt_of_succ_lt h.lt) (fun e => by have := hr _ e.symm; omega)).trans h.dfr⟩
/-- What an iterator answers, called in the world W: what comes, 'Y pre x U'; 'Kp': what a round must leave to the iterator. -/
def SeqAt {α : Type} (F : Fence) (n : Nat) (P : Program) (g : Nat) (lb : Array Value) (encs : α → Array Value) (Y : List α → α → World → Prop) (Kp : World → World → Prop) (done : List α → Prop) (W : World) : Prop :=
  ∀ (l : Nat) (J Jx : List α → World → Prop), LoopOwn W.heap.size J → LoopOwn W.heap.size Jx →
    (∀ pre x U, J pre U → Y pre x U → YieldAt F (n - 1) P l (encs x) U fun e V => (e = .returned (.bool true) ∧ J (pre ++ [x]) V ∧ Kp U V) ∨ (e = .returned (.bool false) ∧ Jx (pre ++ [x]) V ∧ Kp U V)) →
    J [] W → CallsIn F n P g (#[.func (.yield l) #[] #[]] ++ lb) W fun e V => (∃ v, e = .returned v) ∧ ((∃ xs, done xs ∧ J xs V) ∨ ∃ pre, Jx pre V)
/-- What a round leaves, for the iterator too. -/
def nestPost {α : Type} (B : Nat) (Kp : World → World → Prop) (I : List α → World → Prop) (Ix : Code → List α → World → Prop) (xs : List α) (W : World) : Exit → Act → World → Prop
  | .normal, _, V => BookKept B W V ∧ Kp W V ∧ I xs V
  | .ret, _, V => BookKept B W V ∧ Kp W V ∧ Ix .ret xs V
  | .exit id, _, V => BookKept B W V ∧ Kp W V ∧ Ix (.exit id) xs V
  | .goto t, _, V => BookKept B W V ∧ Kp W V ∧ Ix (.goto t) xs V
  | .panic _, _, _ => False
  | .outgrown, _, _ => False
variable {F : Fence} {n : Nat} {P : Program}
theorem round_nests {α : Type} {l : Nat} {R : Ending → World → Prop} {B : Nat} {Kp : World → World → Prop} {I : List α → World → Prop} {Ix : Code → List α → World → Prop} {xs : List α} {W : World}
    (go : ∀ V, BookKept B W V → Kp W V → I xs V → ∃ v V', (Instr.endRound l none).run P V = .ok v V' ∧ R (.returned v) V')
    (leave : ∀ c V, BookKept B W V → Kp W V → Ix c xs V → ∃ v V', (Instr.endRound l (some c)).run P V = .ok v V' ∧ R (.returned v) V') :
    ∀ (e : Exit) (a : Act) (V : World), nestPost B Kp I Ix xs W e a V → roundPost P l R e a V
  | .normal, _, V, h => go V h.1 h.2.1 h.2.2
  | .ret, _, V, h => leave .ret V h.1 h.2.1 h.2.2
  | .exit id, _, V, h => leave (.exit id) V h.1 h.2.1 h.2.2
  | .goto t, _, V, h => leave (.goto t) V h.1 h.2.1 h.2.2
  | .panic _, _, _, h => h
  | .outgrown, _, _, h => h
theorem range_nest {α : Type} {g : Operand} {ps : Array Tmp} {assign body : Code} {Q : Exit → Act → World → Prop} {a : Act} {w : World}
    (hro : F.round = none) (h1 : 1 ≤ n) {gf : Nat} {lb : Array Value} (hg : a.eval g = .func (.func gf) #[] lb) (hFg : F.fn gf) (eg : ∀ args w, (callFunc gf args).run P w = .ok (.enter gf args) w)
    {encs : α → Array Value} {Y : List α → α → World → Prop} {Kp : World → World → Prop} {done : List α → Prop} (hseq : ∀ W1, w.grownBy W1 none → W1.heap.size = w.heap.size + 2 → SeqAt F (n - 1) P gf lb encs Y Kp done W1) (hps : ∀ x, (encs x).size = ps.size)
    (hKt : ∀ {A B C : World}, Kp A B → Kp B C → Kp A C) (hKg : ∀ {A B : World}, A.grownBy B none → Kp A B) (hKr : ∀ (A : World) (o : Obj), Kp A (A.putObj (w.heap.size + 1) o))
    (I : List α → World → Prop) (Ix : Code → List α → World → Prop) (hI : LoopOwn w.heap.size I) (hIx : ∀ c, LoopOwn w.heap.size (Ix c)) (hY : ∀ pre, LoopOwn w.heap.size (Y pre)) (h0 : ∀ W1, w.grownBy W1 none → W1.heap.size = w.heap.size + 2 → I [] W1) (V₁ : α → World → World) (hV : ∀ (x : α) (W : World), W.grownBy (V₁ x W) none) (At : α → World → World → Prop) (hAt : ∀ x W r r', Book w.heap.size r W → At x W ((V₁ x W).putObj (w.heap.size + 1) (.loop r'))) (a₁ : α → World → Act)
    (hassign : ∀ (l : Nat) (x : α) (W : World) (K : Act → World → Prop), K (a₁ x W) (V₁ x W) →
      assign.wpIn (F.inRound l) (n - 1 - 1) P (Exit.then K (fun _ _ _ => False)) { tmps := (ps.zip (encs x)).foldl (fun t (p, v) => t.setIfInBounds p v) a.tmps, defers := [] } W)
    (hbody : ∀ (l : Nat) (pre : List α) (x : α) (U W : World), I pre W → Y pre x W → At x U W → body.wpIn (F.inRound l) (n - 1 - 1) P (nestPost w.heap.size Kp I Ix (pre ++ [x]) W) (a₁ x U) W)
    (hdone : ∀ (xs : List α) (W : World), done xs → I xs W → W.heap[w.heap.size]? = some (.deferred (some [])) → Q .normal { a with defers := { target := .collected w.heap.size, args := #[] } :: a.defers } W)
    (hstop : ∀ (c : Code) (pre : List α) (W : World), Ix c pre W → W.heap[w.heap.size]? = some (.deferred (some [])) → c.wpIn F n P Q { a with defers := { target := .collected w.heap.size, args := #[] } :: a.defers } W) :
    (Code.rangeFunc g ps assign body).wpIn F n P Q a w := by
  refine wpIn_rangeFunc fun fn hfn => ?_
  let rc : LoopState → Option Code → Loop := fun st pe => { state := st, pending := pe, fn, tmps := a.tmps, params := ps, assign, body, defers := w.heap.size }
  let W1 := (w.alloc (.deferred (some []))).alloc (.loop (rc .ready none))
  have hgrow : w.grownBy W1 none := by
    have g1 := World.grownBy_alloc w (.deferred (some [])) none
    have g2 := World.grownBy_alloc (w.alloc (.deferred (some []))) (.loop (rc .ready none)) none
    exact ⟨g2.os.trans g1.os, g2.tape.trans g1.tape, g2.output.trans g1.output, Nat.le_trans g1.size g2.size, fun k hk hn => (g2.block k (Nat.lt_of_lt_of_le hk g1.size) hn).trans (g1.block k hk hn)⟩
  have hbook : Book w.heap.size (rc .ready none) W1 := by
    constructor
    · have := World.alloc_heap_new (w.alloc (.deferred (some []))) (.loop (rc .ready none))
      rwa [World.size_alloc] at this
    · exact (Below.heap_alloc _ _ _ (by simp)).trans (World.alloc_heap_new w _)
  refine ⟨w.heap.size + 1, [{ target := .collected w.heap.size, args := #[] }], W1, { target := .fn (.func gf) lb, args := #[.func (.yield (w.heap.size + 1)) #[] #[]] }, W1, gf,
    #[.func (.yield (w.heap.size + 1)) #[] #[]] ++ lb, W1, ?_, ?_, ?_, ?_, fun _ => h1, ?_⟩
  · rw [hro]; exact run_enterLoop_outer _ _ _ _ _
  · simp only [resolve, hg]; simp [go_sem]
  · intro f' hf'; simp [Target.leads] at hf'; subst hf'; exact hFg
  · simp [invoke, go_sem, eg]
  have hw1 : W1.heap.size = w.heap.size + 2 := by simp [W1]
  refine (hseq W1 hgrow hw1 (w.heap.size + 1) (fun pre W => I pre W ∧ Book w.heap.size (rc .ready none) W) (fun pre W => ∃ c, Ix c pre W ∧ Book w.heap.size (rc .done (some c)) W)
    (fun s U V row h hg hr => ⟨hI s U V row h.1 hg (fun r e => ⟨by have := (hr r e).1; omega, (hr r e).2⟩), h.2.away hg (fun r e => by have := (hr r e).1; omega)⟩)
    (fun s U V row h hg hr => by obtain ⟨c, h1, h2⟩ := h; exact ⟨c, hIx c s U V row h1 hg (fun r e => ⟨by have := (hr r e).1; omega, (hr r e).2⟩), h2.away hg (fun r e => by have := (hr r e).1; omega)⟩)
    ?_ ⟨h0 W1 hgrow hw1, hbook⟩).mono ?_
  · -- one round
    rintro pre x W ⟨hi, hb⟩ hy
    have hg := hV x W
    have hbV : Book w.heap.size (rc .ready none) (V₁ x W) := hb.grow hg
    refine ⟨fn, _, assign, body, run_yield hb.rcd (hps x), roundIn_of_wpIn hfn (hassign _ x W _ ⟨_, run_beginRound hbV.rcd rfl, ?_⟩)⟩
    have hb2 : Book w.heap.size (rc .busy none) ((V₁ x W).putObj (w.heap.size + 1) (.loop (rc .busy none))) := hbV.put
    refine wpIn_mono (hbody _ pre x W _ (hI.put (hI.grow hi hg) (Nat.le_succ _) hbV.rcd) ((hY pre).put ((hY pre).grow hy hg) (Nat.le_succ _) hbV.rcd) (hAt _ _ _ _ hb)) (round_nests ?_ ?_)
    · intro V hkf hkp hiv
      have hb3 := hb2.kept hkf
      have hkk := hKt (hKr (V₁ x W) _) hkp
      exact ⟨_, _, run_endRound none hb3.rcd, .inl ⟨rfl, ⟨hI.put hiv (Nat.le_succ _) hb3.rcd, hb3.put⟩, hKt (hKg hg) (hKt hkk (hKr V _))⟩⟩
    · intro c V hkf hkp hiv
      have hb3 := hb2.kept hkf
      have hkk := hKt (hKr (V₁ x W) _) hkp
      exact ⟨_, _, run_endRound (some c) hb3.rcd, .inr ⟨rfl, ⟨c, (hIx c).put hiv (Nat.le_succ _) hb3.rcd, hb3.put⟩, hKt (hKg hg) (hKt hkk (hKr V _))⟩⟩
  · -- behind the iterator
    rintro e W2 ⟨⟨v, rfl⟩, (⟨xs, hd, hi, hb⟩ | ⟨pre, c, hi, hb⟩)⟩
    · exact ⟨none, _, run_endLoop hb.rcd (by simp [rc]), hdone xs _ hd (hI.put hi (Nat.le_succ _) hb.rcd) (hb.put (r' := { rc .ready none with state := .exhausted })).dfr⟩
    · exact ⟨some c, _, run_endLoop hb.rcd (by simp [rc]), hstop c pre _ ((hIx c).put hi (Nat.le_succ _) hb.rcd) (hb.put (r' := { rc .done (some c) with state := .exhausted })).dfr⟩
end Go.Proofs.Ytjgbpbjgcniieaa
namespace Go.Proofs.Ytjgbpbjgcniieaa
open Go
section
variable {P : Program} {ops : Array Oper} {Q : Exit → Act → World → Prop} {md : Region.Mode} {S S' : World → Prop}
theorem held_begin {id : Nat} {a : Act} {w : World} (n : Nat) (S : World → Prop) (hn : ops.size = n) (hm : P.follows .mixedOrders = true)
    (h : wpAnyH P .any ops Q S n (Array.replicate n false) a w.drew) : (Code.region id ops true).wp P Q a w := by
  subst hn
  exact wp_region_held hm h
/-- An operation that yields v in each world of S is taken first. -/
theorem held_take {i t : Nat} {o : Oper} {v : Value} {fuel : Nat} {listed : Array Bool} {tm : Array Value} {ds : List Deferred} {w : World} (hi : ops[i]? = some o) (hd : o.dst = some t)
    (hs : Region.noSelect ops = true) (hf : Region.free md ops listed i = true) (hr : (Region.ready md ops listed).contains i = true)
    (hQ2 : ∀ c a w, Q (.panic c) (a.put o.dst v) w → Q (.panic c) a w) (hy : YieldsIf P ops S o v ⟨tm, ds⟩) (hS : S w)
    (h : wpAnyH P md ops Q S fuel (listed.setIfInBounds i true) ⟨tm.setIfInBounds t v, ds⟩ w) : wpAnyH P md ops Q S (fuel + 1) listed ⟨tm, ds⟩ w := by
  refine wpAnyH_take hi hs hf hr hQ2 hy hS ?_
  rw [hd]
  exact h
/-- One operation alone is ready, and is a call (or another that turns the world). -/
theorem held_call {i : Nat} {o : Oper} {fuel : Nat} {listed : Array Bool} {a : Act} {w : World} (hi : ops[i]? = some o) (hr : Region.ready md ops listed = [i]) (hw : Region.wanted o (yielded ops a.tmps) = true)
    (h : o.wp P a w (fun a' w' => S w' ∧ wpAnyH P md ops Q S fuel (listed.setIfInBounds i true) a' w') Q) : wpAnyH P md ops Q S (fuel + 1) listed a w :=
  wpAnyH_all hr (by simp) (fun j hj => by
    obtain rfl : j = i := by simpa using hj
    unfold wpOp
    simp only [hi]
    rw [if_pos hw]
    exact .inl h)
end
end Go.Proofs.Ytjgbpbjgcniieaa
namespace Go.Proofs.Ytjgbpbjgcniieaa
open Go
end Go.Proofs.Ytjgbpbjgcniieaa
namespace Go.Proofs.Ytjgbpbjgcniieaa
open Go Go.RowKit
section
variable {P : Program} {ops : Array Oper} {Q : Exit → Act → World → Prop} {md : Region.Mode} {l n : Nat}
theorem rows_round {r : String} {args : Array Value} {w : World} {R : Value → World → Prop} (h : Rows P r args w R) : RowsIn (Fence.wide.inRound l) n P r args w R :=
  fun c cs _ => let ⟨v, w', hr, s⟩ := h c cs; ⟨v, w', hr, stepsIn_wide.2 s⟩
theorem oper_round {o : Oper} {a : Act} {w : World} {K : Act → World → Prop} (hd : ∀ c, o.op ≠ .defer c) (h : o.wp P a w K Q) : o.wpIn (Fence.wide.inRound l) n P a w K Q := by
  refine ⟨fun f _ => trivial, ?_⟩
  rw [Oper.semAt_eq _ _ _ hd]
  unfold Oper.wp at h
  generalize (execOp a.eval o).run P w = r at h ⊢
  cases r with
  | ok x w' =>
    cases x with
    | value v => exact h
    | skip => exact h
    | defer d => exact h
    | enter f args => exact ⟨(fun h => (by cases h)), CallsIn.inRound l (callsIn_wide.2 h)⟩
    | row r args => exact ⟨(fun h => (by cases h)), rows_round h⟩
    | _ => exact h.elim
  | halt x w' =>
    cases x with
    | panic v => exact h
    | _ => exact h.elim
theorem any_round (hd : ∀ (i : Nat) (o : Oper), ops[i]? = some o → ∀ c, o.op ≠ .defer c) (hL : ¬ LetsOut Q) : ∀ (fuel : Nat) (listed : Array Bool) (a : Act) (w : World), wpAny P md ops Q fuel listed a w → wpAnyIn (Fence.wide.inRound l) n P md ops Q fuel listed a w
  | 0, _, _, _, h => h
  | fuel + 1, listed, a, w, h => ⟨h.1, fun i hi => by
    have h2 := h.2 i hi
    unfold wpOp at h2
    unfold wpOpIn
    cases ho : ops[i]? with
    | none => rw [ho] at h2; exact any_round hd hL fuel _ _ _ h2
    | some o =>
      rw [ho] at h2
      dsimp only at h2 ⊢
      by_cases hw : Region.wanted o (yielded ops a.tmps) = true
      · rw [if_pos hw] at h2 ⊢
        rcases h2 with h2 | h2
        · exact Oper.wpIn_mono (fun a' w' h3 => any_round hd hL fuel _ _ _ h3) (oper_round (hd i o ho) h2)
        · exact absurd h2.2 hL
      · rw [if_neg hw] at h2 ⊢
        exact ⟨fun f _ => trivial, any_round hd hL fuel _ _ _ h2⟩⟩
/-- In a round, too: held_begin. -/
theorem held_round {id : Nat} {a : Act} {w : World} (k : Nat) (S : World → Prop) (hn : ops.size = k) (hm : P.follows .mixedOrders = true) (hd : ∀ o ∈ ops, ∀ c, o.op ≠ .defer c) (hL : ¬ LetsOut Q)
    (h : wpAnyH P .any ops Q S k (Array.replicate k false) a w.drew) : (Code.region id ops true).wpIn (Fence.wide.inRound l) n P Q a w := by
  subst hn
  exact wpIn_region_any hm (any_round (fun i o ho => hd o (Array.mem_of_getElem? ho)) hL _ _ _ _ (wpAny_of_held _ _ _ _ h))
end
end Go.Proofs.Ytjgbpbjgcniieaa
namespace Go.Proofs.Ytjgbpbjgcniieaa
open Go
end Go.Proofs.Ytjgbpbjgcniieaa
/- From ExWX. -/
namespace Go.Proofs.Ytjgbpbjgcniieaa
attribute [local go_sem] Oper.semAt_some
open Go Go.ChangeShapes Go.WideShapes Go.ChangeAt Go.RowKit
set_option linter.unusedVariables false
theorem grown_of_below {u v : World} (h : Below u.heap.size u v) : u.grownBy v none := ⟨h.os, h.tape, h.output, h.size, fun k hk _ => h.block k hk⟩
theorem below_of_grown {u v : World} {B : Nat} {row : Option Nat} (h : u.grownBy v row) (hr : ∀ r, row = some r → B ≤ r) (hB : B ≤ u.heap.size) : Below B u v :=
  ⟨h.os, h.tape, h.output, h.size, fun k hk => h.block k (by omega) (by intro e; have := hr k e.symm; omega)⟩
theorem room_wide (k : Nat) : Fence.wide.room k := fun d h => by cases h
theorem RoundIn.deep {m m' : Nat} {P : Program} {l : Nat} {f : FuncId} {tmps : Array Value} {assign body : Code} {w : World} {R : Ending → World → Prop} (h : RoundIn Fence.wide m P l f tmps assign body w R) : RoundIn Fence.wide m' P l f tmps assign body w R := ⟨h.1, fun c cs _ => h.2 c cs (room_wide _)⟩
theorem YieldAt.deep {m m' : Nat} {P : Program} {l : Nat} {args : Array Value} {w : World} {R : Ending → World → Prop} (h : YieldAt Fence.wide m P l args w R) : YieldAt Fence.wide m' P l args w R := by
  obtain ⟨fn, tmps, assign, body, h1, h2⟩ := h
  exact ⟨fn, tmps, assign, body, h1, RoundIn.deep h2⟩
theorem SeqAt.deep {α : Type} {n n' : Nat} {P : Program} {g : Nat} {lb : Array Value} {encs : α → Array Value} {Y : List α → α → World → Prop} {Kp : World → World → Prop} {done : List α → Prop} {W : World}
    (h : SeqAt Fence.wide n P g lb encs Y Kp done W) : SeqAt Fence.wide n' P g lb encs Y Kp done W := fun l J Jx hJ hJx hY h0 =>
  callsIn_wide.2 (callsIn_wide.1 (h l J Jx hJ hJx (fun pre x U h1 h2 => YieldAt.deep (hY pre x U h1 h2)) h0))
theorem two_ways {e : Ending} {A B : Prop} (h : (e = .returned (.bool true) ∧ A) ∨ (e = .returned (.bool false) ∧ B)) : ∃ hv, e = .returned (.bool hv) ∧ ((hv = true ∧ A) ∨ (hv = false ∧ B)) :=
  h.elim (fun ⟨a, b⟩ => ⟨true, a, .inl ⟨rfl, b⟩⟩) (fun ⟨a, b⟩ => ⟨false, a, .inr ⟨rfl, b⟩⟩)
section
variable {F : Fence} {n : Nat} {P : Program}
/-- As range_nest; a round is told that the loop's own two blocks lie there. -/
theorem range_nest2 {α : Type} {g : Operand} {ps : Array Tmp} {assign body : Code} {Q : Exit → Act → World → Prop} {a : Act} {w : World}
    (hro : F.round = none) (h1 : 1 ≤ n) {gf : Nat} {lb : Array Value} (hg : a.eval g = .func (.func gf) #[] lb) (hFg : F.fn gf) (eg : ∀ args w, (callFunc gf args).run P w = .ok (.enter gf args) w)
    {encs : α → Array Value} {Y : List α → α → World → Prop} {Kp : World → World → Prop} {done : List α → Prop} (hseq : ∀ W1, w.grownBy W1 none → W1.heap.size = w.heap.size + 2 → SeqAt F (n - 1) P gf lb encs Y Kp done W1) (hps : ∀ x, (encs x).size = ps.size)
    (hKt : ∀ {A B C : World}, Kp A B → Kp B C → Kp A C) (hKg : ∀ {A B : World}, A.grownBy B none → Kp A B) (hKr : ∀ (A : World) (o : Obj), Kp A (A.putObj (w.heap.size + 1) o))
    (I : List α → World → Prop) (Ix : Code → List α → World → Prop) (hI : LoopOwn w.heap.size I) (hIx : ∀ c, LoopOwn w.heap.size (Ix c)) (hY : ∀ pre, LoopOwn w.heap.size (Y pre)) (h0 : ∀ W1, w.grownBy W1 none → W1.heap.size = w.heap.size + 2 → I [] W1) (V₁ : α → World → World) (hV : ∀ (x : α) (W : World), W.grownBy (V₁ x W) none) (At : α → World → World → Prop) (hAt : ∀ x W r r', Book w.heap.size r W → At x W ((V₁ x W).putObj (w.heap.size + 1) (.loop r'))) (a₁ : α → World → Act)
    (hassign : ∀ (l : Nat) (x : α) (W : World) (K : Act → World → Prop), K (a₁ x W) (V₁ x W) →
      assign.wpIn (F.inRound l) (n - 1 - 1) P (Exit.then K (fun _ _ _ => False)) { tmps := (ps.zip (encs x)).foldl (fun t (p, v) => t.setIfInBounds p v) a.tmps, defers := [] } W)
    (hbody : ∀ (l : Nat) (pre : List α) (x : α) (U W : World), I pre W → Y pre x W → At x U W → (∃ r, Book w.heap.size r W) → body.wpIn (F.inRound l) (n - 1 - 1) P (nestPost w.heap.size Kp I Ix (pre ++ [x]) W) (a₁ x U) W)
    (hdone : ∀ (xs : List α) (W : World), done xs → I xs W → W.heap[w.heap.size]? = some (.deferred (some [])) → Q .normal { a with defers := { target := .collected w.heap.size, args := #[] } :: a.defers } W)
    (hstop : ∀ (c : Code) (pre : List α) (W : World), Ix c pre W → W.heap[w.heap.size]? = some (.deferred (some [])) → c.wpIn F n P Q { a with defers := { target := .collected w.heap.size, args := #[] } :: a.defers } W) :
    (Code.rangeFunc g ps assign body).wpIn F n P Q a w := by
  refine wpIn_rangeFunc fun fn hfn => ?_
  let rc : LoopState → Option Code → Loop := fun st pe => { state := st, pending := pe, fn, tmps := a.tmps, params := ps, assign, body, defers := w.heap.size }
  let W1 := (w.alloc (.deferred (some []))).alloc (.loop (rc .ready none))
  have hgrow : w.grownBy W1 none := by
    have g1 := World.grownBy_alloc w (.deferred (some [])) none
    have g2 := World.grownBy_alloc (w.alloc (.deferred (some []))) (.loop (rc .ready none)) none
    exact ⟨g2.os.trans g1.os, g2.tape.trans g1.tape, g2.output.trans g1.output, Nat.le_trans g1.size g2.size, fun k hk hn => (g2.block k (Nat.lt_of_lt_of_le hk g1.size) hn).trans (g1.block k hk hn)⟩
  have hbook : Book w.heap.size (rc .ready none) W1 := by
    constructor
    · have := World.alloc_heap_new (w.alloc (.deferred (some []))) (.loop (rc .ready none))
      rwa [World.size_alloc] at this
    · exact (Below.heap_alloc _ _ _ (by simp)).trans (World.alloc_heap_new w _)
  refine ⟨w.heap.size + 1, [{ target := .collected w.heap.size, args := #[] }], W1, { target := .fn (.func gf) lb, args := #[.func (.yield (w.heap.size + 1)) #[] #[]] }, W1, gf,
    #[.func (.yield (w.heap.size + 1)) #[] #[]] ++ lb, W1, ?_, ?_, ?_, ?_, fun _ => h1, ?_⟩
  · rw [hro]; exact run_enterLoop_outer _ _ _ _ _
  · simp only [resolve, hg]; simp [go_sem]
  · intro f' hf'; simp [Target.leads] at hf'; subst hf'; exact hFg
  · simp [invoke, go_sem, eg]
  have hw1 : W1.heap.size = w.heap.size + 2 := by simp [W1]
  refine (hseq W1 hgrow hw1 (w.heap.size + 1) (fun pre W => I pre W ∧ Book w.heap.size (rc .ready none) W) (fun pre W => ∃ c, Ix c pre W ∧ Book w.heap.size (rc .done (some c)) W)
    (fun s U V row h hg hr => ⟨hI s U V row h.1 hg (fun r e => ⟨by have := (hr r e).1; omega, (hr r e).2⟩), h.2.away hg (fun r e => by have := (hr r e).1; omega)⟩)
    (fun s U V row h hg hr => by obtain ⟨c, h1, h2⟩ := h; exact ⟨c, hIx c s U V row h1 hg (fun r e => ⟨by have := (hr r e).1; omega, (hr r e).2⟩), h2.away hg (fun r e => by have := (hr r e).1; omega)⟩)
    ?_ ⟨h0 W1 hgrow hw1, hbook⟩).mono ?_
  · -- one round
    rintro pre x W ⟨hi, hb⟩ hy
    have hg := hV x W
    have hbV : Book w.heap.size (rc .ready none) (V₁ x W) := hb.grow hg
    refine ⟨fn, _, assign, body, run_yield hb.rcd (hps x), roundIn_of_wpIn hfn (hassign _ x W _ ⟨_, run_beginRound hbV.rcd rfl, ?_⟩)⟩
    have hb2 : Book w.heap.size (rc .busy none) ((V₁ x W).putObj (w.heap.size + 1) (.loop (rc .busy none))) := hbV.put
    refine wpIn_mono (hbody _ pre x W _ (hI.put (hI.grow hi hg) (Nat.le_succ _) hbV.rcd) ((hY pre).put ((hY pre).grow hy hg) (Nat.le_succ _) hbV.rcd) (hAt _ _ _ _ hb) ⟨_, hb2⟩) (round_nests ?_ ?_)
    · intro V hkf hkp hiv
      have hb3 := hb2.kept hkf
      have hkk := hKt (hKr (V₁ x W) _) hkp
      exact ⟨_, _, run_endRound none hb3.rcd, .inl ⟨rfl, ⟨hI.put hiv (Nat.le_succ _) hb3.rcd, hb3.put⟩, hKt (hKg hg) (hKt hkk (hKr V _))⟩⟩
    · intro c V hkf hkp hiv
      have hb3 := hb2.kept hkf
      have hkk := hKt (hKr (V₁ x W) _) hkp
      exact ⟨_, _, run_endRound (some c) hb3.rcd, .inr ⟨rfl, ⟨c, (hIx c).put hiv (Nat.le_succ _) hb3.rcd, hb3.put⟩, hKt (hKg hg) (hKt hkk (hKr V _))⟩⟩
  · -- behind the iterator
    rintro e W2 ⟨⟨v, rfl⟩, (⟨xs, hd, hi, hb⟩ | ⟨pre, c, hi, hb⟩)⟩
    · exact ⟨none, _, run_endLoop hb.rcd (by simp [rc]), hdone xs _ hd (hI.put hi (Nat.le_succ _) hb.rcd) (hb.put (r' := { rc .ready none with state := .exhausted })).dfr⟩
    · exact ⟨some c, _, run_endLoop hb.rcd (by simp [rc]), hstop c pre _ ((hIx c).put hi (Nat.le_succ _) hb.rcd) (hb.put (r' := { rc .done (some c) with state := .exhausted })).dfr⟩
end
end Go.Proofs.Ytjgbpbjgcniieaa
namespace Go.Proofs.Ytjgbpbjgcniieaa
attribute [local go_sem] Oper.semAt_some
open Go Go.ChangeShapes Go.WideShapes Go.ChangeAt Go.RowKit
set_option linter.unusedVariables false
set_option linter.unusedSimpArgs false
theorem LoopOwn.and {β : Type} {B : Nat} {I K : β → World → Prop} (h : LoopOwn B I) (k : LoopOwn B K) : LoopOwn B (fun s U => I s U ∧ K s U) := fun s W W' row hs hg hr => ⟨h s W W' row hs.1 hg hr, k s W W' row hs.2 hg hr⟩
theorem LoopOwn.map {β γ : Type} {B : Nat} {I : γ → World → Prop} (h : LoopOwn B I) (g : β → γ) : LoopOwn B (fun s U => I (g s) U) := fun s W W' row hs hg hr => h (g s) W W' row hs hg hr
theorem LoopOwn.size_ {β : Type} {B m : Nat} : LoopOwn B (fun (_ : β) (U : World) => m ≤ U.heap.size) := fun _ _ _ _ h hg _ => Nat.le_trans h hg.size
theorem LoopOwn.blk {β : Type} {B q : Nat} {x : Obj} (hq : q < B) : LoopOwn B (fun (_ : β) (U : World) => U.heap[q]? = some x) := fun _ U V row h hg hr => by
  have hlt := (Array.getElem?_eq_some_iff.1 h).1
  exact (hg.block q hlt (fun e => by have := (hr q e.symm).1; omega)).trans h
theorem LoopOwn.ex {β γ : Type} {B : Nat} {I : γ → World → Prop} (h : LoopOwn B I) : LoopOwn B (fun (_ : β) U => ∃ s, I s U) := fun _ U V row ⟨s, h1⟩ hg hr => ⟨s, h s U V row h1 hg hr⟩
theorem LoopOwn.pure_ {β : Type} {B : Nat} (p : β → Prop) : LoopOwn B (fun s (_ : World) => p s) := fun _ _ _ _ h _ _ => h
end Go.Proofs.Ytjgbpbjgcniieaa
namespace Go.Proofs.Ytjgbpbjgcniieaa
attribute [local go_sem] Oper.semAt_some
open Go Go.ChangeShapes Go.WideShapes Go.ChangeAt Go.RowKit
set_option linter.unusedVariables false
theorem LoopOwn.below {β : Type} {B s0 : Nat} {W : World} (hs : s0 ≤ B) (hW : s0 ≤ W.heap.size) : LoopOwn B (fun (_ : β) U => Below s0 W U) := fun _ U V row h hg hr =>
  h.trans (below_of_grown hg (fun r e => Nat.le_trans hs (hr r e).1) (Nat.le_trans hW h.size))
theorem LoopOwn.cell {β : Type} {B q i : Nat} {f : β → Value} (hq : q < B) : LoopOwn B (fun (s : β) (U : World) => U.cell? ⟨q, i, none⟩ = some (f s)) := fun s U V row h hg hr =>
  (World.cell?_of_block (w := U) (a := ⟨q, i, none⟩) (hg.block q (World.block_lt_of_cell? U _ h) (fun e => by have := (hr q e.symm).1; omega))).trans h
/-- One cell that may be written. -/
structure Cell1 (q : Nat) (v : Value) (U : World) : Prop where
  c : U.cell? ⟨q, 0, none⟩ = some v
  f : U.frozen? ⟨q, 0, none⟩ = false
theorem Cell1.lt {q : Nat} {v : Value} {U : World} (h : Cell1 q v U) : q < U.heap.size := World.block_lt_of_cell? U _ h.c
theorem Cell1.blk {q : Nat} {v : Value} {U V : World} (h : Cell1 q v U) (e : V.heap[q]? = U.heap[q]?) : Cell1 q v V := ⟨(World.cell?_of_block (w := U) (a := ⟨q, 0, none⟩) e).trans h.c, (World.frozen?_of_block (w := U) (a := ⟨q, 0, none⟩) e).trans h.f⟩
theorem Cell1.set {q : Nat} {v : Value} {U : World} (h : Cell1 q v U) (x : Value) : Cell1 q x (U.setCell ⟨q, 0, none⟩ x) := ⟨World.cell?_setCell_same _ _ _ h.c, (World.frozen?_setCell _ _ _ _).trans h.f⟩
theorem Cell1.own {β : Type} {B q : Nat} {f : β → Value} (hq : q < B) : LoopOwn B (fun (s : β) (U : World) => Cell1 q (f s) U) := fun s U V row h hg hr =>
  h.blk (hg.block q h.lt (fun e => by have := (hr q e.symm).1; omega))
theorem BookKept.set {D : Nat} {U : World} {q i : Nat} (hq : q < D) (v : Value) : BookKept D U (U.setCell ⟨q, i, none⟩ v) :=
  ⟨Below.heap_setCell _ _ _ _ (Nat.ne_of_gt hq), Below.heap_setCell _ _ _ _ (Nat.ne_of_gt (Nat.lt_succ_of_lt hq))⟩
theorem below_put {s0 : Nat} {W V : World} (h : Below s0 W V) (hW : s0 ≤ W.heap.size) {q : Nat} (hq : s0 ≤ q) (o : Obj) : Below s0 W (V.putObj q o) :=
  h.trans (below_of_grown (grown_put V q o) (fun r e => by cases e; exact hq) (Nat.le_trans hW h.size))
end Go.Proofs.Ytjgbpbjgcniieaa
/- From ExKS. -/
namespace Go.Proofs.Ytjgbpbjgcniieaa
open Go.ChangeShapes Go.WideShapes Go.ChangeAt Go.RowKit
set_option linter.unusedVariables false
theorem two_boxes (w : World) (a b : Obj) : Below w.heap.size w ((w.alloc a).alloc b) := ((Below.refl _ w).alloc (Nat.le_refl _) _).alloc (by simp) _
end Go.Proofs.Ytjgbpbjgcniieaa
namespace Go.Proofs.Ytjgbpbjgcniieaa
open Go.ChangeShapes Go.WideShapes Go.ChangeAt Go.RowKit
set_option linter.unusedVariables false
set_option linter.unusedSimpArgs false
end Go.Proofs.Ytjgbpbjgcniieaa
namespace Go.Proofs.Ytjgbpbjgcniieaa
open Go.ChangeShapes Go.WideShapes Go.ChangeAt Go.RowKit
set_option linter.unusedVariables false
set_option linter.unusedSimpArgs false
end Go.Proofs.Ytjgbpbjgcniieaa
/- From ExQa. -/
namespace Go.Proofs.Ytjgbpbjgcniieaa
open Go.ChangeShapes Go.WideShapes Go.ChangeAt Go.RowKit
set_option linter.unusedVariables false
set_option linter.unusedSimpArgs false
end Go.Proofs.Ytjgbpbjgcniieaa
namespace Go.Proofs.Ytjgbpbjgcniieaa
open Go.ChangeShapes Go.WideShapes Go.ChangeAt Go.RowKit
set_option linter.unusedVariables false
set_option linter.unusedSimpArgs false
end Go.Proofs.Ytjgbpbjgcniieaa
namespace Go.Proofs.Ytjgbpbjgcniieaa
open Go.ChangeShapes Go.WideShapes Go.ChangeAt Go.RowKit
set_option linter.unusedVariables false
set_option linter.unusedSimpArgs false
end Go.Proofs.Ytjgbpbjgcniieaa
namespace Go.Proofs.Ytjgbpbjgcniieaa
open Go.ChangeShapes Go.WideShapes Go.ChangeAt Go.RowKit
set_option linter.unusedVariables false
set_option linter.unusedSimpArgs false
theorem lt_of_heap {W : World} {b : Nat} {o : Obj} (h : W.heap[b]? = some o) : b < W.heap.size := (Array.getElem?_eq_some_iff.1 h).1
end Go.Proofs.Ytjgbpbjgcniieaa
/- From DecW3. -/
namespace Go.Proofs.Ytjgbpbjgcniieaa
open Go.ChangeShapes Go.WideShapes Go.ChangeAt Go.RowKit
set_option linter.unusedVariables false
theorem hop0 {w a b : World} (h : Below w.heap.size w a) (h2 : Below a.heap.size a b) : Below w.heap.size w b := h.trans (h2.mono h.size)
theorem later_cell {w w' : World} {a : Addr} {v : Value} (hb : Below w.heap.size w w') (h : w.cell? a = some v) : w'.cell? a = some v := (hb.cell (World.block_lt_of_cell? w a h)).trans h
end Go.Proofs.Ytjgbpbjgcniieaa
/- From ExY3. -/
namespace Go.Proofs.Ytjgbpbjgcniieaa
attribute [local go_sem] Oper.semAt_some
open Go Go.ChangeShapes Go.WideShapes Go.ChangeAt Go.RowKit
set_option linter.unusedVariables false
set_option linter.unusedSimpArgs false
theorem row_not_book {W : World} {base : Nat} {e : TypeId} {size k : Nat} {v : Value} {xs : List Value} (h : W.ownsRow base e size v k xs) {r : Nat} {o : Obj} (ho : W.heap[r]? = some o) (hb : bookish o) : v.ownBlock = none ∨ v.ownBlock ≠ some r := by
  rcases h.2 with ⟨rfl, _⟩ | ⟨g, cap, cur, rfl, _, hgb, _⟩
  · exact .inl rfl
  · refine .inr fun e' => ?_
    obtain rfl : g = r := by simpa [Value.ownBlock] using e'
    rw [hgb] at ho
    cases ho
    exact hb
theorem RowC.put {α : Type} {f : α → List Value} {sz : Nat} {w : World} {B D : Nat} {A : Option Addr} {l : List α} {o : Obj} (h : RowC f sz w B A l) (hd : w.heap[D]? = some o) (ho : bookish o) (o' : Obj) (hf : ∀ a, (f a).length = sz) (hs : 0 < sz) : RowC f sz (w.putObj D o') B A l := by
  intro j hj
  obtain ⟨b, off, h1, h2, h3⟩ := h j hj
  refine ⟨b, off, h1, h2, fun i v hv => ?_⟩
  have h4 := h3 i v hv
  by_cases hb : b = D
  · subst hb
    cases o <;> simp_all [bookish, World.cell?]
  · exact (World.cell?_of_block (w := w) (a := ⟨b, _, none⟩) (World.putObj_heap_other hb)).trans h4
end Go.Proofs.Ytjgbpbjgcniieaa
