/- What a seat needs of several texts. -/
import Derived.Test.YtkcnmajjfljilaaGreatDoorFsMem
import Derived.Test.YtkcnmajjfljilaaGreatDoorRegAll
import Derived.Test.YtkcnmajjfljilaaGreatDoorPlIter
import Derived.Test.YtkcnmajjfljilaaGreatDoorHexA
import Derived.Test.YtkcnmajjfljilaaGreatDoorPlC
import Derived.Test.YtkcnmajjfljilaaGreatDoorMem
import Derived.Test.YtkcnmajjfljilaaGreatDoorFraB
import Derived.Test.YtkcnmajjfljilaaGreatDoorFraFA
import Derived.Lib.Bytealg
import Derived.Lib.Small
import Derived.Lib.Replace
import Derived.Lib.UnsafeStr
import Derived.Scope
import Derived.WalkMore
import Derived.Test.YtkcnmajjfljilaaGreatDoorRows
import Derived.WalkKit
import Derived.WalkLawsBesides
import Derived.WalkSpells
import Derived.ProofKit
import Derived.Below
import Derived.Outline
import Derived.Lib.Hide
import Derived.BigQuiet
import Derived.Deep.QuietTactic
import Derived.Deep.RegionWith
import Derived.Deep.RegionHeld3
import Derived.LoopTactic
import Derived.Lib.BufferMore
import Derived.Deep.AppendLies
import Derived.Maps.AppendAt
import Derived.Deep.Onto
import Derived.Lib.AppendStr
import Derived.OwnWalk
import Derived.Laws.IdiomStrings
import Derived.RangeFuncBox
import Derived.Deep.RegionLaw
import Derived.Recover
import Derived.Laws.OwnMore
import Derived.BigRegion
import Derived.Test.YtkcnmajjfljilaaGreatDoorPlShelf
import Derived.Maps.OwnIn
import Derived.OwnWalkIn
import Derived.Test.YtkcnmajjfljilaaGreatDoorPwOn
/- From MlAB. -/
namespace Go.Proofs.YtkcnmajjfljilaaGreatDoor
open Go.ChangeShapes Go.WideShapes Go.ChangeAt Go.RowKit
set_option linter.unusedVariables false
/-- A row of a table: a number, bytes, whether they are in the greatest fold or a single; and where the bytes lie. -/
structure Mr where
  id : Int
  b : List UInt8
  fo : Bool
  si : Bool
  A : Option Addr
  c : Nat
end Go.Proofs.YtkcnmajjfljilaaGreatDoor
namespace Go.Proofs.YtkcnmajjfljilaaGreatDoor
open Go.ChangeShapes Go.WideShapes Go.ChangeAt Go.RowKit
set_option linter.unusedVariables false
theorem chb {w0 w1 : World} (hb : Below w0.heap.size w0 w1) : Ch (fun _ => False) w0 w1 := Ch.below (Ch.refl (fun _ => False) w0) hb (fun k h1 h2 => absurd h1 (by omega))
end Go.Proofs.YtkcnmajjfljilaaGreatDoor
/- From MlDE. -/
namespace Go.Proofs.YtkcnmajjfljilaaGreatDoor
open Go Go.ChangeShapes Go.WideShapes Go.ChangeAt Go.RowKit
set_option linter.unusedVariables false
end Go.Proofs.YtkcnmajjfljilaaGreatDoor
namespace Go.Proofs.YtkcnmajjfljilaaGreatDoor
open Go Go.ChangeShapes Go.WideShapes Go.ChangeAt Go.RowKit
set_option linter.unusedVariables false
end Go.Proofs.YtkcnmajjfljilaaGreatDoor
/- From MlF. -/
namespace Go.Proofs.YtkcnmajjfljilaaGreatDoor
attribute [local go_sem] Oper.semAt_some
open Go Go.ChangeShapes Go.WideShapes Go.ChangeAt Go.RowKit
set_option linter.unusedVariables false
theorem LoopOwn.kept {β : Type} {S : Nat → Prop} {W0 : World} {B : Nat} (hB : W0.heap.size ≤ B) : LoopOwn B (fun (_ : β) U => Kept S W0 U) :=
  fun _ _ _ row h hg hr => Ch.grown h hg (fun k e => .inr (Nat.le_trans hB (hr k e).1))
theorem LoopOwn.map {β γ : Type} {B : Nat} {I : γ → World → Prop} (h : LoopOwn B I) (g : β → γ) : LoopOwn B (fun s U => I (g s) U) := fun s W W' row hs hg hr => h (g s) W W' row hs hg hr
theorem below_undrew {V w : World} (h : Below V.drew.heap.size V.drew w) : Below V.heap.size V w := ⟨h.os, h.tape, h.output, h.size, h.block⟩
end Go.Proofs.YtkcnmajjfljilaaGreatDoor
/- From MlG. -/
namespace Go.Proofs.YtkcnmajjfljilaaGreatDoor
attribute [local go_sem] Oper.semAt_some
open Go Go.ChangeShapes Go.WideShapes Go.ChangeAt Go.RowKit Go.ChangeMaps Go.MapKept
set_option linter.unusedVariables false
theorem bookish_cells {w : World} {k : Nat} {o : Obj} {c : Array Value} {t : TypeId} (h : w.heap[k]? = some o) (hb : bookish o) (hc : Cells w k c t) : False := by
  have e := Option.some.inj (h.symm.trans hc)
  subst e
  exact hb
theorem ch_of_grown {w w' : World} {row : Option Nat} (h : w.grownBy w' row) : Ch (fun k => row = some k) w w' := ⟨h.os, h.tape, h.output, h.size, fun k hk hn => h.block k hk (fun e => hn e.symm)⟩
section
variable {B l p1 p2 p3 q : Nat} {S : Nat → Prop} {rs : List Mr} {fs : List Int} {rA fA : Option Addr} {rc fc : Nat} {N : Int} {w : World}
theorem none_below {S : Nat → Prop} {a : Nat} {U V : World} (h : Kept S U V) (ha : a ≤ U.heap.size) (hS : ∀ k, k < a → S k := by intro k hk; first | exact hk | trivial) : Below a U V :=
  ⟨h.os, h.tape, h.output, h.size, fun k hk => h.block k (Nat.lt_of_lt_of_le hk ha) (fun hn => hn (hS k hk))⟩
theorem below_put {a q : Nat} {V : World} (hq : a ≤ q) (o : Obj) : Below a V (V.putObj q o) := ⟨rfl, rfl, rfl, by simp [World.putObj], fun k hk => World.putObj_heap_other (by omega)⟩
end
end Go.Proofs.YtkcnmajjfljilaaGreatDoor
/- From MlH. -/
namespace Go.Proofs.YtkcnmajjfljilaaGreatDoor
attribute [local go_sem] Oper.semAt_some
open Go Go.ChangeShapes Go.WideShapes Go.ChangeAt Go.RowKit Go.ChangeMaps Go.MapKept
set_option linter.unusedVariables false
set_option linter.unusedSimpArgs false
section
variable {K : Nat → Prop} {B f l a hi D : Nat} {dir : Nm} {s : Fs} {w U V : World} {pre : List Nm} {row : Option Nat}
theorem cells_books {k : Nat} {c : Array Value} {t : TypeId} (h : Cells U k c t) (hg : U.grownBy V row) (hr : ∀ r, row = some r → D ≤ r ∧ ∃ o, U.heap[r]? = some o ∧ bookish o) : Cells V k c t :=
  h.ch (ch_of_grown hg) (fun e => by obtain ⟨_, o, ho, hb⟩ := hr k e; exact bookish_cells ho hb h)
end
end Go.Proofs.YtkcnmajjfljilaaGreatDoor
/- From MlCs. -/
namespace Go.Proofs.YtkcnmajjfljilaaGreatDoor
set_option linter.unusedVariables false
def be (n : Nat) : Nat → List UInt8
  | 0 => []
  | m + 1 => UInt8.ofNat (n / 256 ^ m % 256) :: be n m
end Go.Proofs.YtkcnmajjfljilaaGreatDoor
namespace Go.Proofs.YtkcnmajjfljilaaGreatDoor
open Go.Lib
set_option linter.unusedVariables false
end Go.Proofs.YtkcnmajjfljilaaGreatDoor
namespace Go.Proofs.YtkcnmajjfljilaaGreatDoor
set_option linter.unusedVariables false
end Go.Proofs.YtkcnmajjfljilaaGreatDoor
namespace Go.Proofs.YtkcnmajjfljilaaGreatDoor
open Go
end Go.Proofs.YtkcnmajjfljilaaGreatDoor
namespace Go.Proofs.YtkcnmajjfljilaaGreatDoor
open Go.ChangeShapes Go.WideShapes Go.ChangeAt Go.RowKit
set_option linter.unusedVariables false
end Go.Proofs.YtkcnmajjfljilaaGreatDoor
namespace Go.Proofs.YtkcnmajjfljilaaGreatDoor
open Go.ChangeShapes Go.WideShapes Go.ChangeAt Go.RowKit
open Go.Lib (byteCells byteCells_length byteCells_append strCells)
set_option linter.unusedVariables false
end Go.Proofs.YtkcnmajjfljilaaGreatDoor
namespace Go.Proofs.YtkcnmajjfljilaaGreatDoor
open Go.ChangeShapes Go.WideShapes Go.ChangeAt Go.RowKit
open Go.Lib (byteCells byteCells_length byteCells_append strCells)
set_option linter.unusedVariables false
end Go.Proofs.YtkcnmajjfljilaaGreatDoor
namespace Go.Proofs.YtkcnmajjfljilaaGreatDoor
open Go.ChangeShapes Go.WideShapes Go.ChangeAt Go.RowKit
open Go.Lib (byteCells byteCells_length byteCells_append strCells)
set_option linter.unusedVariables false
end Go.Proofs.YtkcnmajjfljilaaGreatDoor
namespace Go.Proofs.YtkcnmajjfljilaaGreatDoor
open Go.ChangeShapes Go.WideShapes Go.ChangeAt Go.RowKit
open Go.Lib (byteCells byteCells_length byteCells_append strCells)
set_option linter.unusedVariables false
end Go.Proofs.YtkcnmajjfljilaaGreatDoor
namespace Go.Proofs.YtkcnmajjfljilaaGreatDoor
open Go.ChangeShapes Go.WideShapes Go.ChangeAt Go.RowKit
open Go.Lib (byteCells byteCells_length byteCells_append strCells)
set_option linter.unusedVariables false
theorem Buf.cells {B : Nat} {A : Option Addr} {n c : Nat} {bs : List UInt8} {w : World} (h : Buf B A n c bs w) (hp : 0 < bs.length) : ∃ g cap, A = some ⟨g, 0, none⟩ ∧ B ≤ g ∧ g < w.heap.size ∧ c = cap ∧ ∀ j u, (byteCells bs)[j]? = some u → w.cell? ((⟨g, 0, none⟩ : Addr).add j) = some u := by
  obtain ⟨g, cap, hv, hg, hlt⟩ := h.2.2.form (by have := h.1; omega)
  have hcs := h.2.2.cells (g := g) (by rw [hv]; rfl)
  injection hv with h1 h2 h3
  exact ⟨g, cap, h1, hg, hlt, h3, hcs⟩
end Go.Proofs.YtkcnmajjfljilaaGreatDoor
namespace Go.Proofs.YtkcnmajjfljilaaGreatDoor
open Go.ChangeShapes Go.WideShapes Go.ChangeAt Go.RowKit
open Go.Lib (byteCells byteCells_length byteCells_append strCells)
set_option linter.unusedVariables false
end Go.Proofs.YtkcnmajjfljilaaGreatDoor
namespace Go.Proofs.YtkcnmajjfljilaaGreatDoor
open Go.ChangeShapes Go.WideShapes Go.ChangeAt Go.RowKit
open Go.Lib (byteCells byteCells_length byteCells_append strCells)
set_option linter.unusedVariables false
end Go.Proofs.YtkcnmajjfljilaaGreatDoor
namespace Go.Proofs.YtkcnmajjfljilaaGreatDoor
open Go.ChangeShapes Go.WideShapes Go.ChangeAt Go.RowKit
open Go.Lib (byteCells byteCells_length byteCells_append strCells)
set_option linter.unusedVariables false
end Go.Proofs.YtkcnmajjfljilaaGreatDoor
namespace Go.Proofs.YtkcnmajjfljilaaGreatDoor
open Go.ChangeShapes Go.WideShapes Go.ChangeAt Go.RowKit
open Go.Lib (byteCells byteCells_length byteCells_append strCells)
set_option linter.unusedVariables false
end Go.Proofs.YtkcnmajjfljilaaGreatDoor
namespace Go.Proofs.YtkcnmajjfljilaaGreatDoor
open Go.ChangeShapes Go.WideShapes Go.ChangeAt Go.RowKit
open Go.Lib (byteCells byteCells_length byteCells_append strCells)
set_option linter.unusedVariables false
end Go.Proofs.YtkcnmajjfljilaaGreatDoor
namespace Go.Proofs.YtkcnmajjfljilaaGreatDoor
open Go.ChangeShapes Go.WideShapes Go.ChangeAt Go.RowKit
open Go.Lib (byteCells byteCells_length byteCells_append strCells)
set_option linter.unusedVariables false
end Go.Proofs.YtkcnmajjfljilaaGreatDoor
namespace Go.Proofs.YtkcnmajjfljilaaGreatDoor
open Go.ChangeShapes Go.WideShapes Go.ChangeAt Go.RowKit
open Go.Lib (byteCells byteCells_length byteCells_append strCells)
set_option linter.unusedVariables false
end Go.Proofs.YtkcnmajjfljilaaGreatDoor
namespace Go.Proofs.YtkcnmajjfljilaaGreatDoor
open Go.ChangeShapes Go.WideShapes Go.ChangeAt Go.RowKit
open Go.Lib (byteCells byteCells_length byteCells_append strCells)
set_option linter.unusedVariables false
end Go.Proofs.YtkcnmajjfljilaaGreatDoor
namespace Go.Proofs.YtkcnmajjfljilaaGreatDoor
open Go.ChangeShapes Go.WideShapes Go.ChangeAt Go.RowKit
open Go.Lib (byteCells byteCells_length byteCells_append strCells)
set_option linter.unusedVariables false
end Go.Proofs.YtkcnmajjfljilaaGreatDoor
namespace Go.Proofs.YtkcnmajjfljilaaGreatDoor
open Go.ChangeShapes Go.WideShapes Go.ChangeAt Go.RowKit
open Go.Lib (byteCells byteCells_length byteCells_append strCells)
set_option linter.unusedVariables false
end Go.Proofs.YtkcnmajjfljilaaGreatDoor
namespace Go.Proofs.YtkcnmajjfljilaaGreatDoor
open Go.ChangeShapes Go.WideShapes Go.ChangeAt Go.RowKit
open Go.Lib (byteCells byteCells_length byteCells_append strCells)
set_option linter.unusedVariables false
end Go.Proofs.YtkcnmajjfljilaaGreatDoor
/- From MlIK. -/
namespace Go.Proofs.YtkcnmajjfljilaaGreatDoor
attribute [local go_sem] Oper.semAt_some
open Go Go.ChangeShapes Go.WideShapes Go.ChangeAt Go.RowKit Go.ChangeMaps Go.MapKept
set_option linter.unusedVariables false
set_option linter.unusedSimpArgs false
theorem own_books {U V : World} {base D n sz : Nat} {E : TypeId} {v : Value} {xs : List Value} {row : Option Nat} (h : U.ownsRow base E sz v n xs) (hg : U.grownBy V row) (hr : ∀ r, row = some r → D ≤ r ∧ ∃ o, U.heap[r]? = some o ∧ bookish o) : V.ownsRow base E sz v n xs := by
  refine ⟨h.1, ?_⟩
  rcases h.2 with ⟨rfl, h0⟩ | ⟨g, cap, cur, rfl, hg', hh, rest⟩
  · exact .inl ⟨rfl, h0⟩
  · exact .inr ⟨g, cap, cur, rfl, hg', (cells_books (k := g) (show Cells U g _ _ from hh) hg hr), rest⟩
theorem below_of_grown {a : Nat} {U V : World} (hg : U.grownBy V none) (ha : a ≤ U.heap.size) : Below a U V := ⟨hg.os, hg.tape, hg.output, hg.size, fun k hk => hg.block k (Nat.lt_of_lt_of_le hk ha) (by simp)⟩
theorem ml_bytes {w W : World} {A : Option Addr} {b : List UInt8} (h : BytesAt w w.heap.size A b) (hb : Below w.heap.size w W) : BytesAt W W.heap.size A b := (h.below hb).more hb.size
theorem ml_away {w w' : World} {B sz n m k : Nat} {E t : TypeId} {A : Option Addr} {c : Nat} {xs : List Value} {cs : Array Value} (h : w.ownsRow B E sz (.slice A n c) m xs) (hg : w.grownBy w' (Value.ownBlock (.slice A n c))) (hc : Cells w k cs t) (hne : t ≠ E) : Cells w' k cs t :=
  hc.ch (ch_of_grown hg) (fun e => by obtain ⟨d, hd, _⟩ := own_cells h e; exact (hc.ne hd hne) rfl)
theorem ml_below {w w' w0 : World} {B sz n m : Nat} {E : TypeId} {A : Option Addr} {c : Nat} {xs : List Value} {a : Nat} (h : w.ownsRow B E sz (.slice A n c) m xs) (hg : w.grownBy w' (Value.ownBlock (.slice A n c))) (ha : a ≤ B) (haw : a ≤ w.heap.size) (hb : Below a w0 w) : Below a w0 w' :=
  ⟨hg.os.trans hb.os, hg.tape.trans hb.tape, hg.output.trans hb.output, Nat.le_trans hb.size hg.size, fun k hk =>
    (hg.block k (Nat.lt_of_lt_of_le hk haw) (fun e => by obtain ⟨d, hd, hB⟩ := own_cells h e.symm; omega)).trans (hb.block k hk)⟩
theorem kept_of_belows {a : Nat} {w V V2 : World} (h1 : Below a w V) (h2 : Below a w V2) (hs : V.heap.size ≤ V2.heap.size) : Kept (fun k => k < a) V V2 :=
  ⟨h2.os.trans h1.os.symm, h2.tape.trans h1.tape.symm, h2.output.trans h1.output.symm, hs, fun k _ hn => by
    have hk : k < a := Classical.not_not.1 hn
    exact (h2.block k hk).trans (h1.block k hk).symm⟩
/-- 'append(l, v)' of an item whose cells lie somewhere. -/
theorem app_ml {α : Type} {f : α → List Value} {sz bytes : Nat} {T E : TypeId} {z : Value} (hT : Tryz.prog.underlying T = some (.slice E)) (hinfo : (Tryz.prog.info? E).map (fun i => (i.zero, i.size, i.bytes)) = some (some z, sz, bytes)) (hz : z.cells.size = sz) (hsz : 0 < sz)
    (hl : ∀ a, (f a).length = sz) (h1 : ∀ a, ∀ u ∈ f a, u.oneCell' = true) (w : World)
    {o : Oper} {a : Act} {K : Act → World → Prop} {Q : Exit → Act → World → Prop} (s x : Operand)
    (ho : o.op = .call { callee := .builtin .append, args := #[s, x], argTypes := #[T, T] })
    (B : Nat) (hB : B ≤ w.heap.size) (A : Option Addr) (n c : Nat) (l : List α) (hs : a.eval s = .slice A n c) (hb : w.ownsRow B E sz (.slice A n c) n (l.flatMap f)) (v : α)
    (ad : Addr) (c2 : Nat) (hx : a.eval x = .slice (some ad) 1 c2) (hnews : ∀ j u, (f v)[j]? = some u → w.cell? (ad.add j) = some u) (hlen : (n + 1) * bytes ≤ 140737488355328) (hn : n + 1 ≤ maxLen)
    (h : ∀ A' c' w', w'.ownsRow B E sz (.slice A' (n + 1) c') (n + 1) ((l ++ [v]).flatMap f) → w.grownBy w' (Value.ownBlock (.slice A n c)) → K (a.put o.dst (.slice A' (n + 1) c')) w') :
    Oper.wp Tryz.prog o a w K Q := by
  obtain ⟨i0, hi, hz0, hz1, hz2⟩ := info_parts hinfo
  obtain ⟨v', w', hr, h2, h3, _, h5⟩ := run_append_own_at (P := Tryz.prog) w B T o.type E i0 _ sz bytes hT hi hz0 hz1 hz2 hz hsz (.slice A n c) n (l.flatMap f) hb ad 1 c2 (f v) (by rw [hl, Nat.one_mul]) hnews
    (h1 v) hn hlen hB
  obtain ⟨A', c', rfl⟩ := own_slice h2
  unfold Oper.wp execOp
  simp only [ho, resolve, invoke, builtin, Sem.run_bind, Sem.run_pure, Result.andThen_ok, List.map_toArray, List.map_cons, List.map_nil, hs, hx, hr]
  exact h A' c' w' (by rw [List.flatMap_append, List.flatMap_cons, List.flatMap_nil, List.append_nil]; exact h2) h3
theorem cells_of_block {w : World} {b : Nat} {l : List Value} {T : TypeId} (h : w.heap[b]? = some (.cells l.toArray T)) : ∀ j u, l[j]? = some u → w.cell? ((⟨b, 0, none⟩ : Addr).add j) = some u := by
  intro j u hu
  rw [add_at, Nat.zero_add]
  simp [World.cell?, h, hu]
end Go.Proofs.YtkcnmajjfljilaaGreatDoor
namespace Go.Proofs.YtkcnmajjfljilaaGreatDoor
open Go Go.ChangeShapes Go.WideShapes Go.ChangeAt Go.RowKit Go.ChangeMaps Go.MapKept
set_option linter.unusedVariables false
set_option linter.unusedSimpArgs false
end Go.Proofs.YtkcnmajjfljilaaGreatDoor
namespace Go.Proofs.YtkcnmajjfljilaaGreatDoor
open Go Go.ChangeShapes Go.WideShapes Go.ChangeAt Go.RowKit Go.ChangeMaps Go.MapKept
set_option linter.unusedVariables false
set_option linter.unusedSimpArgs false
end Go.Proofs.YtkcnmajjfljilaaGreatDoor
/- From MlLN. -/
namespace Go.Proofs.YtkcnmajjfljilaaGreatDoor
open Go Go.ChangeShapes Go.WideShapes Go.ChangeAt Go.RowKit Go.ChangeMaps Go.MapKept
set_option linter.unusedVariables false
set_option linter.unusedSimpArgs false
theorem BytesAt.chK {S P : Nat → Prop} {w w' : World} {A : Option Addr} {b : List UInt8} (h : BytesAt w w.heap.size A b) (hP : ∀ a, A = some a → P a.block) (k : Ch S w w') (hS : ∀ i, P i → ¬ S i) : BytesAt w' w'.heap.size A b := by
  intro j hj
  obtain ⟨g, off, e, hlt, hc⟩ := h j hj
  refine ⟨g, off, e, Nat.lt_of_lt_of_le hlt k.size, ?_⟩
  exact (World.cell?_of_block (a := ⟨g, off + j, none⟩) (k.block g hlt (hS _ (hP _ e)))).trans hc
end Go.Proofs.YtkcnmajjfljilaaGreatDoor
namespace Go.Proofs.YtkcnmajjfljilaaGreatDoor
open Go Go.ChangeShapes Go.WideShapes Go.ChangeAt Go.RowKit Go.ChangeMaps Go.MapKept
set_option linter.unusedVariables false
set_option linter.unusedSimpArgs false
end Go.Proofs.YtkcnmajjfljilaaGreatDoor
namespace Go.Proofs.YtkcnmajjfljilaaGreatDoor
open Go Go.ChangeShapes Go.WideShapes Go.ChangeAt Go.RowKit Go.ChangeMaps Go.MapKept
set_option linter.unusedVariables false
set_option linter.unusedSimpArgs false
/-- A file system lies on while kept blocks turn; new blocks may be kept from now on. -/
theorem Rep.kept_more {K Kq S : Nat → Prop} {B f : Nat} {s : Fs} {w w' : World} (h : Rep K B f s w) (k : Ch S w w') (hS : ∀ i, S i → Kq i) (hq : ∀ i, Kq i → K i ∨ (w.heap.size ≤ i ∧ i < w'.heap.size)) : Rep Kq B f s w' := by
  obtain ⟨V, hV⟩ : ∃ V : World, V = { w' with heap := w.heap ++ w'.heap.extract w.heap.size w'.heap.size } := ⟨_, rfl⟩
  have hsz : V.heap.size = w'.heap.size := by
    have := k.size
    rw [hV]
    simp only [Array.size_append, Array.size_extract, Nat.min_self]
    omega
  have hlo : ∀ i, i < w.heap.size → V.heap[i]? = w.heap[i]? := fun i hi => by rw [hV]; exact Array.getElem?_append_left hi
  have hhi : ∀ i, w.heap.size ≤ i → V.heap[i]? = w'.heap[i]? := fun i hi => by
    rw [hV]
    show (w.heap ++ w'.heap.extract w.heap.size w'.heap.size)[i]? = _
    rw [Array.getElem?_append_right hi, Array.getElem?_extract]
    have e : w.heap.size + (i - w.heap.size) = i := by omega
    split
    · rw [e]
    · rename_i hn
      rw [Nat.min_self] at hn
      exact (Array.getElem?_eq_none (by omega)).symm
  have k1 : Ch (fun _ => False) w V := ⟨by rw [hV]; exact k.os, by rw [hV]; exact k.tape, by rw [hV]; exact k.output, by rw [hsz]; exact k.size, fun i hi _ => hlo i hi⟩
  have k2 : Ch S V w' := ⟨by rw [hV], by rw [hV], by rw [hV], by rw [hsz]; exact Nat.le_refl _, fun i hi hn => by
    by_cases hw : i < w.heap.size
    · rw [hlo i hw]; exact k.block i hw hn
    · rw [hhi i (by omega)]⟩
  exact (h.more k1 (fun i hi => by rw [hsz]; exact hq i hi)).kept k2 (fun i _ hi => hS i hi)
theorem BytesAt.slice {w : World} {B : Nat} {a : Addr} {b : List UInt8} (h : BytesAt w B (some a) b) : True := trivial
end Go.Proofs.YtkcnmajjfljilaaGreatDoor
/- From MlOS. -/
namespace Go.Proofs.YtkcnmajjfljilaaGreatDoor
attribute [local go_sem] Oper.semAt_some
open Go Go.ChangeShapes Go.WideShapes Go.ChangeAt Go.RowKit Go.ChangeMaps Go.MapKept
set_option linter.unusedVariables false
set_option linter.unusedSimpArgs false
end Go.Proofs.YtkcnmajjfljilaaGreatDoor
namespace Go.Proofs.YtkcnmajjfljilaaGreatDoor
open Go Go.ChangeShapes Go.WideShapes Go.ChangeAt Go.RowKit Go.ChangeMaps Go.MapKept
set_option linter.unusedVariables false
set_option linter.unusedSimpArgs false
end Go.Proofs.YtkcnmajjfljilaaGreatDoor
namespace Go.Proofs.YtkcnmajjfljilaaGreatDoor
open Go Go.ChangeShapes Go.WideShapes Go.ChangeAt Go.RowKit Go.ChangeMaps Go.MapKept
set_option linter.unusedVariables false
set_option linter.unusedSimpArgs false
end Go.Proofs.YtkcnmajjfljilaaGreatDoor
namespace Go.Proofs.YtkcnmajjfljilaaGreatDoor
open Go Go.ChangeShapes Go.WideShapes Go.ChangeAt Go.RowKit Go.ChangeMaps Go.MapKept
set_option linter.unusedVariables false
set_option linter.unusedSimpArgs false
end Go.Proofs.YtkcnmajjfljilaaGreatDoor
namespace Go.Proofs.YtkcnmajjfljilaaGreatDoor
open Go Go.ChangeShapes Go.WideShapes Go.ChangeAt Go.RowKit Go.ChangeMaps Go.MapKept
set_option linter.unusedVariables false
set_option linter.unusedSimpArgs false
end Go.Proofs.YtkcnmajjfljilaaGreatDoor
/- From MlVW. -/
namespace Go.Proofs.YtkcnmajjfljilaaGreatDoor
open Go.RowKit
set_option linter.unusedVariables false
set_option linter.unusedSimpArgs false
theorem okc_hd (d : Nat) (h : d < 16) : okc (hd d) = true := by
  have : ∀ d : Fin 16, okc (hd d.1) = true := by decide
  exact this ⟨d, h⟩
theorem okc_lowd (k u : Nat) : (lowd k u).all okc = true := by
  induction k with
  | zero => rfl
  | succ k ih => rw [lowd, List.all_cons, ih, okc_hd _ (Nat.mod_lt _ (by omega))]; rfl
theorem right_pre {p : Nm} (hp : p.all okc = true) (h1 : 1 ≤ p.length) (h2 : p.length ≤ 16) (n : Int) : right (p ++ hexL n) = true := by
  unfold right
  rw [List.all_append, hp, List.length_append, hexL_length]
  have h3 : (hexL n).all okc = true := okc_lowd 16 _
  rw [h3]
  simp
  omega
end Go.Proofs.YtkcnmajjfljilaaGreatDoor
namespace Go.Proofs.YtkcnmajjfljilaaGreatDoor
open Go.RowKit
set_option linter.unusedVariables false
set_option linter.unusedSimpArgs false
end Go.Proofs.YtkcnmajjfljilaaGreatDoor
