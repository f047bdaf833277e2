/- A slice that grows in a box, in rounds; an append in a round; the nodes of a tree. -/
import Derived.Test.YtmeoednndfgffaaTbQ
import Derived.OwnWalkIn
import Derived.Maps.OwnIn
namespace Go.Proofs.Ytmeoednndfgffaa
attribute [local go_sem] Oper.semAt_some
open Go Go.ChangeShapes Go.WideShapes Go.ChangeAt Go.RowKit
set_option linter.unusedVariables false
set_option linter.unusedSimpArgs false
/-- 'l = append(l, v)' of one item that has just been laid, in a fenced walk. -/
theorem append_item_in {F : Fence} {nF : Nat} {α : Type} {f : α → List Value} {sz bytes : Nat} {T E : TypeId} {z : Value} (hT : Try.prog.underlying T = some (.slice E)) (hinfo : (Try.prog.info? E).map (fun i => (i.zero, i.size, i.bytes)) = some (some z, sz, bytes)) (hz : z.cells.size = sz) (hsz : 0 < sz)
    (hl : ∀ a, (f a).length = sz) (h1 : ∀ a, ∀ u ∈ f a, u.oneCell' = true)
    {ops : Array Oper} {rest : List Oper} {o : Oper} {a : Act} {Q : Exit → Act → World → Prop} (hgd : o.guard = none) (s x : Operand)
    (ho : o.op = .call { callee := .builtin .append, args := #[s, x], argTypes := #[T, T] })
    (B : Nat) (A : Option Addr) (n c : Nat) (l : List α) (hs : a.eval s = .slice A n c) (w0 : World) (v : α) (hb : w0.ownsRow B E sz (.slice A n c) n (l.flatMap f)) (hB : B ≤ w0.heap.size)
    (L : Nat) (hx : a.eval x = .slice (some ⟨L, 0, none⟩) 1 1) (hL : L = w0.heap.size) (hlen : (n + 1) * bytes ≤ 140737488355328) (hn : n + 1 ≤ maxLen) (cells : List Value) (hcells : cells = f v)
    (h : ∀ A' n' c' w', n' = n + 1 → w'.ownsRow B E sz (.slice A' n' c') n' ((l ++ [v]).flatMap f) → (w0.alloc (.cells cells.toArray E)).grownBy w' (Value.ownBlock (.slice A n c)) → wpListIn F nF Try.prog ops Q rest (a.put o.dst (.slice A' n' c')) w') :
    wpListIn F nF Try.prog ops Q (o :: rest) a (w0.alloc (.cells cells.toArray E)) := by
  subst hL
  subst hcells
  obtain ⟨i0, hi, hz0, hz1, hz2⟩ := info_parts hinfo
  have hb1 := hb.alloc (.cells (f v).toArray E)
  refine wpListIn_append_own_at _ hgd s x T ho B E i0 _ sz bytes hT hi hz0 hz1 hz2 hz hsz (.slice A n c) n (l.flatMap f) hs hb1 ⟨w0.heap.size, 0, none⟩ 1 1 (f v) hx (by rw [hl, Nat.one_mul])
    (new_cells w0 _ _) (h1 v) hn hlen (by simp; omega) ?_
  intro v' w' hown hg _ _
  obtain ⟨A', c', rfl⟩ := own_slice hown
  exact h A' (n + 1) c' w' rfl (by rw [List.flatMap_append]; simpa using hown) hg
section
variable {B E Tsl sz q n n' c c' : Nat} {A A' : Option Addr} {xs xs' : List Value} {U V V2 w1 : World}
/-- A slice in a box, its row from B on. -/
structure Gro (B E Tsl sz q : Nat) (A : Option Addr) (n c : Nat) (xs : List Value) (U : World) : Prop where
  box : U.heap[q]? = some (.cells #[.slice A n c] Tsl)
  own : U.ownsRow B E sz (.slice A n c) n xs
theorem Gro.cell (h : Gro B E Tsl sz q A n c xs U) : U.cell? ⟨q, 0, none⟩ = some (.slice A n c) := by simp [World.cell?, h.box]
theorem Gro.frozen (h : Gro B E Tsl sz q A n c xs U) : U.frozen? ⟨q, 0, none⟩ = false := by simp [World.frozen?, h.box]
theorem Gro.lt (h : Gro B E Tsl sz q A n c xs U) : q < U.heap.size := lt_blk h.box
theorem own_stay {w w' : World} {v : Value} (h : w.ownsRow B E sz v n xs) (hk : ∀ g, v.ownBlock = some g → w'.heap[g]? = w.heap[g]?) : w'.ownsRow B E sz v n xs := by
  refine ⟨h.1, ?_⟩
  rcases h.2 with ⟨h1, h0⟩ | ⟨g, cap, cur, rfl, hg, hh, rest⟩
  · exact .inl ⟨h1, h0⟩
  · exact .inr ⟨g, cap, cur, rfl, hg, (hk g rfl).trans hh, rest⟩
theorem own_ne {w : World} {v : Value} {k : Nat} {o : Obj} (h : w.ownsRow B E sz v n xs) (hk : w.heap[k]? = some o) (ho : ∀ cur, o ≠ .cells cur E (0, 0)) : v.ownBlock ≠ some k := by
  rcases h.2 with ⟨rfl, h0⟩ | ⟨g, cap, cur, rfl, hg, hh, rest⟩
  · intro e; cases e
  · intro e
    have e2 : g = k := by simpa [Value.ownBlock] using e
    subst e2
    rw [hh] at hk
    injection hk with hk
    exact ho cur hk.symm
theorem own_ge {w : World} {v : Value} {k : Nat} (h : w.ownsRow B E sz v n xs) (hk : v.ownBlock = some k) : B ≤ k := by
  rcases h.2 with ⟨rfl, h0⟩ | ⟨g, cap, cur, rfl, hg, hh, rest⟩
  · cases hk
  · have e2 : g = k := by simpa [Value.ownBlock] using hk
    rw [← e2]
    exact hg
theorem Gro.stay (h : Gro B E Tsl sz q A n c xs U) (hk : ∀ (k : Nat) (o : Obj), U.heap[k]? = some o → (∃ cs t, o = Obj.cells cs t (0, 0)) → V.heap[k]? = some o) : Gro B E Tsl sz q A n c xs V := by
  refine ⟨hk _ _ h.box ⟨_, _, rfl⟩, ?_⟩
  refine ⟨h.own.1, ?_⟩
  rcases h.own.2 with ⟨h1, h0⟩ | ⟨g, cap, cur, h1, hg, hh, rest⟩
  · exact .inl ⟨h1, h0⟩
  · exact .inr ⟨g, cap, cur, h1, hg, hk _ _ hh ⟨_, _, rfl⟩, rest⟩
/-- Cells lie on where a loop's records turn. -/
theorem turn_cells {D : Nat} {row : Option Nat} (hg : U.grownBy V row) (hr : ∀ r, row = some r → D ≤ r ∧ ∃ o, U.heap[r]? = some o ∧ bookish o) : ∀ (k : Nat) (o : Obj), U.heap[k]? = some o → (∃ cs t, o = Obj.cells cs t (0, 0)) → V.heap[k]? = some o := by
  rintro k o hk ⟨cs, t, rfl⟩
  refine (hg.block k (lt_blk hk) (fun e => ?_)).trans hk
  obtain ⟨_, o', ho', hb⟩ := hr k e.symm
  rw [hk] at ho'
  injection ho' with ho'
  subst ho'
  exact hb
theorem Gro.own_ {β : Type} {D : Nat} {n : β → Nat} {xs : β → List Value} : LoopOwn D (fun s U => ∃ A c, Gro B E Tsl sz q A (n s) c (xs s) U) := by
  rintro s U V row ⟨A, c, h⟩ hg hr
  exact ⟨A, c, h.stay (turn_cells hg hr)⟩
/-- What an append to it, and the store into its box, leave. -/
structure GroTo (B E Tsl sz q : Nat) (A : Option Addr) (n c : Nat) (A' : Option Addr) (n' c' : Nat) (xs' : List Value) (V2 w1 : World) : Prop where
  cell : w1.cell? ⟨q, 0, none⟩ = some (.slice A n c)
  frozen : w1.frozen? ⟨q, 0, none⟩ = false
  lt : q < w1.heap.size
  gro : Gro B E Tsl sz q A' n' c' xs' (w1.setCell ⟨q, 0, none⟩ (.slice A' n' c'))
  keep : ∀ (k : Nat) (o : Obj), V2.heap[k]? = some o → (∀ cur, o ≠ .cells cur E (0, 0)) → w1.heap[k]? = some o
  rest : ∀ (k : Nat) (o : Obj), V2.heap[k]? = some o → k ≠ q → (∀ cur, o ≠ .cells cur E (0, 0)) → (w1.setCell ⟨q, 0, none⟩ (.slice A' n' c')).heap[k]? = some o
  bel : ∀ B0, B0 ≤ B → B0 ≤ q → B0 ≤ V2.heap.size → Below B0 V2 (w1.setCell ⟨q, 0, none⟩ (.slice A' n' c'))
  size : V2.heap.size ≤ (w1.setCell ⟨q, 0, none⟩ (.slice A' n' c')).heap.size
theorem heap_setG {U : World} {q : Nat} {x y : Value} {t : TypeId} (h : U.heap[q]? = some (.cells #[x] t)) : (U.setCell ⟨q, 0, none⟩ y).heap[q]? = some (.cells #[y] t) := by
  have hl := lt_blk h
  have h2 : U.heap[q] = .cells #[x] t := by rw [Array.getElem?_eq_getElem hl] at h; exact Option.some.inj h
  have h3 : q < (U.setCell ⟨q, 0, none⟩ y).heap.size := by simpa [World.setCell] using hl
  rw [Array.getElem?_eq_getElem h3]
  simp only [World.setCell, Array.getElem_modify, if_true, h2]
  simp
theorem Gro.to (h : Gro B E Tsl sz q A n c xs V2) (hE : Tsl ≠ E) {W0 : World} (hw : V2.grownBy W0 none) (ho : w1.ownsRow B E sz (.slice A' n' c') n' xs') (hg : W0.grownBy w1 (Value.ownBlock (.slice A n c))) : GroTo B E Tsl sz q A n c A' n' c' xs' V2 w1 := by
  have hK : ∀ k, k < V2.heap.size → Value.ownBlock (.slice A n c) ≠ some k → w1.heap[k]? = V2.heap[k]? := fun k hk hn => (hg.block k (Nat.lt_of_lt_of_le hk hw.size) (fun e => hn e.symm)).trans (hw.block k hk (by simp))
  have hq : Value.ownBlock (.slice A n c) ≠ some q := own_ne h.own h.box (fun cur e => by injection e with _ e _; exact hE e)
  have hb : w1.heap[q]? = some (.cells #[.slice A n c] Tsl) := (hK q h.lt hq).trans h.box
  have hq2 : Value.ownBlock (.slice A' n' c') ≠ some q := own_ne ho hb (fun cur e => by injection e with _ e _; exact hE e)
  have hsz : (w1.setCell ⟨q, 0, none⟩ (.slice A' n' c')).heap.size = w1.heap.size := by simp [World.setCell]
  refine ⟨by simp [World.cell?, hb], by simp [World.frozen?, hb], lt_blk hb, ⟨heap_setG hb, own_stay ho fun g e => Below.heap_setCell _ _ _ _ (fun e2 => hq2 (by rw [e, e2]))⟩, fun k o hk hne => (hK k (lt_blk hk) (own_ne h.own hk hne)).trans hk, fun k o hk hkq hne => ?_, fun B0 h1 h2 h3 => ?_, by rw [hsz]; exact Nat.le_trans hw.size hg.size⟩
  · exact (Below.heap_setCell _ _ _ _ hkq).trans ((hK k (lt_blk hk) (own_ne h.own hk hne)).trans hk)
  · refine Below.setCell ⟨hg.os.trans hw.os, hg.tape.trans hw.tape, hg.output.trans hw.output, Nat.le_trans hw.size hg.size, fun k hk => hK k (Nat.lt_of_lt_of_le hk h3) (fun e => ?_)⟩ h2 _
    have := own_ge h.own e
    omega
/-- An append among operations whose order is drawn. -/
theorem op_append_gro {α : Type} {f : α → List Value} {sz bytes : Nat} {T E : TypeId} {z : Value} (hT : Try.prog.underlying T = some (.slice E)) (hinfo : (Try.prog.info? E).map (fun i => (i.zero, i.size, i.bytes)) = some (some z, sz, bytes)) (hz : z.cells.size = sz) (hsz : 0 < sz)
    (hl : ∀ a, (f a).length = sz) (h1 : ∀ a, ∀ u ∈ f a, u.oneCell' = true) (w : World)
    {o : Oper} {a : Act} {K : Act → World → Prop} {Q : Exit → Act → World → Prop} (s x : Operand)
    (ho : o.op = .call { callee := .builtin .append, args := #[s, x], argTypes := #[T, T] })
    (B : Nat) (A : Option Addr) (n c : Nat) (l : List α) (hs : a.eval s = .slice A n c) (v : α) (hb : w.ownsRow B E sz (.slice A n c) n (l.flatMap f)) (hB : B ≤ w.heap.size)
    (ad : Addr) (c2 : Nat) (hx : a.eval x = .slice (some ad) 1 c2) (hnews : ∀ j u, (f v)[j]? = some u → w.cell? (ad.add j) = some u) (hlen : (n + 1) * bytes ≤ 140737488355328) (hn : n + 1 ≤ maxLen)
    (h : ∀ A' c' w', w'.ownsRow B E sz (.slice A' (n + 1) c') (n + 1) ((l ++ [v]).flatMap f) → w.grownBy w' (Value.ownBlock (.slice A n c)) → K (a.put o.dst (.slice A' (n + 1) c')) w') :
    Oper.wp Try.prog o a w K Q := by
  obtain ⟨i0, hi, hz0, hz1, hz2⟩ := info_parts hinfo
  obtain ⟨v', w', hr, h2, h3, _, h5⟩ := run_append_own_at (P := Try.prog) w B T o.type E i0 _ sz bytes hT hi hz0 hz1 hz2 hz hsz (.slice A n c) n (l.flatMap f) hb ad 1 c2 (f v) (by rw [hl, Nat.one_mul]) hnews
    (h1 v) hn hlen hB
  obtain ⟨A', c', rfl⟩ := own_slice h2
  unfold Oper.wp execOp
  simp only [ho, resolve, invoke, builtin, Sem.run_bind, Sem.run_pure, Result.andThen_ok, List.map_toArray, List.map_cons, List.map_nil, hs, hx, hr]
  exact h A' c' w' (by rw [List.flatMap_append]; simpa using h2) h3
/-- Nothing yet: a made slice of capacity n. -/
theorem own_made {w : World} {E sz n : Nat} {M : Array Value} (hn : n ≤ maxLen) (hM : M.size = n * sz) : (w.alloc (.cells M E)).ownsRow w.heap.size E sz (.slice (some ⟨w.heap.size, 0, none⟩) 0 n) 0 [] :=
  ⟨by simp, .inr ⟨w.heap.size, n, M, rfl, Nat.le_refl _, World.alloc_heap_new w _, Nat.zero_le _, hn, hM, by simp⟩⟩
end
/-- The blocks of a tree are its nodes. -/
def Nodes (S : Nat → Prop) (ty : TypeId) (w : World) (k : Nat) : Prop := S k ∧ ∃ cs, w.heap[k]? = some (.cells cs ty (0, 0))
theorem TrAt.nodes {α : Type} {ty : TypeId} {enc : α → Value} {S : Nat → Prop} {w : World} {v : Value} {l : List (KV α)} (h : TrAt ty enc S w v l) : TrAt ty enc (Nodes S ty w) w v l := by
  induction h with
  | nil => exact .nil
  | node hS hb _ _ iha ihc => exact .node ⟨hS, _, hb⟩ hb iha ihc
theorem Ks.own_ {β : Type} {S : Nat → Prop} {W : World} {D : Nat} (hD : ∀ k, S k → k < W.heap.size → k < D) : LoopOwn D (fun (_ : β) U => Ks S W U) := fun _ U V row h hg hr =>
  ⟨Nat.le_trans h.1 hg.size, fun k hs hk => (hg.block k (Nat.lt_of_lt_of_le hk h.1) (fun e => by have := (hr k e.symm).1; have := hD k hs hk; omega)).trans (h.2 k hs hk)⟩
end Go.Proofs.Ytmeoednndfgffaa
