/- Memory of a file system: which blocks turn, maps of names to blocks, cells of structs. Of no package's own functions. -/
import Derived.Test.YtkcnmajjfljilaaGreatDoorFsPlain
import Derived.Test.YtkcnmajjfljilaaGreatDoorMem
import Derived.Maps.OwnSet
import Derived.Sort.MapsRangeIn
namespace Go.Proofs.YtkcnmajjfljilaaGreatDoor
open Go.ChangeMaps Go.MapKept Go.RowKit
open Go.Maps (Keyed string_keyed)
open Go.WideElems (Fit)
set_option linter.unusedVariables false

/-- Nothing has turned but blocks in S, and new ones. -/
structure Ch (S : Nat → Prop) (w w' : World) : Prop where
  os : w'.os = w.os
  tape : w'.tape = w.tape
  output : w'.output = w.output
  size : w.heap.size ≤ w'.heap.size
  block : ∀ k, k < w.heap.size → ¬ S k → w'.heap[k]? = w.heap[k]?
theorem Ch.refl (S : Nat → Prop) (w : World) : Ch S w w := ⟨rfl, rfl, rfl, Nat.le_refl _, fun _ _ _ => rfl⟩
theorem Ch.trans {S : Nat → Prop} {a b c : World} (h : Ch S a b) (k : Ch S b c) : Ch S a c :=
  ⟨k.os.trans h.os, k.tape.trans h.tape, k.output.trans h.output, Nat.le_trans h.size k.size, fun i hi hs => (k.block i (Nat.lt_of_lt_of_le hi h.size) hs).trans (h.block i hi hs)⟩
theorem Ch.mono {S T : Nat → Prop} {a b : World} (h : Ch S a b) (hs : ∀ k, k < a.heap.size → S k → T k) : Ch T a b :=
  ⟨h.os, h.tape, h.output, h.size, fun i hi ht => h.block i hi (fun hk => ht (hs i hi hk))⟩
theorem Ch.alloc {S : Nat → Prop} {a w : World} (h : Ch S a w) (o : Obj) : Ch S a (w.alloc o) :=
  h.trans ⟨rfl, rfl, rfl, by simp, fun k hk _ => Below.heap_alloc w o k hk⟩
theorem Ch.drew {S : Nat → Prop} {a w : World} (h : Ch S a w) : Ch S a w.drew := ⟨h.os, h.tape, h.output, h.size, h.block⟩
theorem Ch.drewN {S : Nat → Prop} {a w : World} (h : Ch S a w) (n : Nat) : Ch S a (w.drewN n) := ⟨h.os, h.tape, h.output, h.size, h.block⟩
theorem Ch.set {S : Nat → Prop} {a w : World} (h : Ch S a w) {p : Addr} (hp : S p.block ∨ a.heap.size ≤ p.block) (u : Value) : Ch S a (w.setCell p u) :=
  ⟨h.os, h.tape, h.output, by have := h.size; simp [World.setCell]; omega, fun k hk hs => by
    have hne : k ≠ p.block := by
      rintro rfl
      rcases hp with hp | hp
      · exact hs hp
      · omega
    exact (Below.heap_setCell _ _ _ _ hne).trans (h.block k hk hs)⟩
theorem Ch.grown {S : Nat → Prop} {a w w' : World} {row : Option Nat} (h : Ch S a w) (hg : w.grownBy w' row) (hr : ∀ k, row = some k → S k ∨ a.heap.size ≤ k) : Ch S a w' :=
  ⟨hg.os.trans h.os, hg.tape.trans h.tape, hg.output.trans h.output, Nat.le_trans h.size hg.size, fun k hk hs => by
    refine (hg.block k (Nat.lt_of_lt_of_le hk h.size) (fun e => ?_)).trans (h.block k hk hs)
    rcases hr k e.symm with h1 | h1
    · exact hs h1
    · omega⟩
theorem Ch.turned {S : Nat → Prop} {a w w' : World} {b : Nat} (h : Ch S a w) (ht : w.mapTurned w' b) (hb : S b ∨ a.heap.size ≤ b) : Ch S a w' :=
  h.grown ht.grown fun k e => by cases e; exact hb
theorem Ch.then_ {S T : Nat → Prop} {a b c : World} (h : Ch S a b) (k : Ch T b c) (hT : ∀ i, i < a.heap.size → T i → S i) : Ch S a c :=
  ⟨k.os.trans h.os, k.tape.trans h.tape, k.output.trans h.output, Nat.le_trans h.size k.size, fun i hi hs => (k.block i (Nat.lt_of_lt_of_le hi h.size) (fun ht => hs (hT i hi ht))).trans (h.block i hi hs)⟩
theorem Ch.below {S : Nat → Prop} {a w w' : World} {B : Nat} (h : Ch S a w) (hb : Below B w w') (hB : ∀ k, k < a.heap.size → B ≤ k → S k) : Ch S a w' :=
  h.then_ (T := fun k => B ≤ k) ⟨hb.os, hb.tape, hb.output, hb.size, fun k hk hs => hb.block k (Nat.lt_of_not_le hs)⟩ hB
theorem Ch.toBelow {S : Nat → Prop} {a w : World} {B : Nat} (h : Ch S a w) (hB : ∀ k, k < a.heap.size → S k → B ≤ k) (hBs : B ≤ a.heap.size) : Below B a w :=
  ⟨h.os, h.tape, h.output, h.size, fun k hk => h.block k (by omega) (fun hs => by have := hB k (by omega) hs; omega)⟩

/-! ### cells of a struct -/
def Cells (w : World) (b : Nat) (c : Array Value) (t : TypeId) : Prop := w.heap[b]? = some (.cells c t (0, 0))
theorem Cells.lt {w : World} {b : Nat} {c : Array Value} {t : TypeId} (h : Cells w b c t) : b < w.heap.size := (Array.getElem?_eq_some_iff.1 h).1
theorem Cells.ch {S : Nat → Prop} {w w' : World} {b : Nat} {c : Array Value} {t : TypeId} (h : Cells w b c t) (k : Ch S w w') (hs : ¬ S b) : Cells w' b c t := (k.block b h.lt hs).trans h
theorem Cells.cell {w : World} {b : Nat} {c : Array Value} {t : TypeId} (h : Cells w b c t) (i : Nat) : w.cell? ⟨b, i, none⟩ = c[i]? := by
  have h' : w.heap[b]? = some (.cells c t (0, 0)) := h
  simp [World.cell?, h']
theorem Cells.frozen {w : World} {b : Nat} {c : Array Value} {t : TypeId} (h : Cells w b c t) (i : Nat) : w.frozen? ⟨b, i, none⟩ = false := by
  have h' : w.heap[b]? = some (.cells c t (0, 0)) := h
  simp [World.frozen?, h']
theorem Cells.set {w : World} {b : Nat} {c : Array Value} {t : TypeId} (h : Cells w b c t) (i : Nat) (v : Value) : Cells (w.setCell ⟨b, i, none⟩ v) b (c.setIfInBounds i v) t := by
  have h' : w.heap[b]? = some (.cells c t (0, 0)) := h
  unfold Cells World.setCell
  simp [Array.getElem?_modify, h']
theorem Cells.set_other {w : World} {b : Nat} {c : Array Value} {t : TypeId} (h : Cells w b c t) {p : Addr} (hne : b ≠ p.block) (v : Value) : Cells (w.setCell p v) b c t :=
  (Below.heap_setCell _ _ _ _ hne).trans h
theorem Cells.alloc {w : World} {b : Nat} {c : Array Value} {t : TypeId} (h : Cells w b c t) (o : Obj) : Cells (w.alloc o) b c t := (Below.heap_alloc w o b h.lt).trans h
theorem Cells.new (w : World) (c : Array Value) (t : TypeId) : Cells (w.alloc (.cells c t)) w.heap.size c t := by
  unfold Cells World.alloc
  simp
theorem Cells.ne {w : World} {a b : Nat} {c d : Array Value} {s t : TypeId} (h : Cells w a c s) (k : Cells w b d t) (ht : s ≠ t) : a ≠ b := by
  rintro rfl
  have := Option.some.inj (h.symm.trans k)
  injection this with _ e
  exact ht e

open Go.Lib (byteCells byteCells_length byteCells_append strCells)
theorem BytesAt.some_ {w : World} {B : Nat} {a : Addr} {l : List UInt8} (h : BytesAt w B (some a) l) : ∀ j u, (byteCells l)[j]? = some u → w.cell? (a.add j) = some u := by
  intro j u hu
  have hj : j < l.length := by rw [← byteCells_length l]; exact (List.getElem?_eq_some_iff.1 hu).1
  obtain ⟨b, off, e, _, hc⟩ := h j hj
  injection e with e
  subst e
  simp only [byteCells, List.getElem?_map, List.getElem?_eq_getElem hj, Option.map_some, Option.some.injEq] at hu
  rw [add_at, hc, ← hu]

/-! ### maps of names to blocks -/
def ptrOf : Option Nat → Value
  | some b => .pointer (some ⟨b, 0, none⟩)
  | none => .pointer none
theorem ptrOf_some (b : Nat) : ptrOf (some b) = .pointer (some ⟨b, 0, none⟩) := rfl
theorem ptrOf_none : ptrOf none = .pointer none := rfl
def ptrElem : Value → Option (DataW Unit × List MemPlace)
  | .pointer (some ⟨b, 0, none⟩) => some (blk b, [])
  | .pointer none => some (.nil, [])
  | _ => none
theorem ptrElem_inv {v : Value} {b : Nat} {ps : List MemPlace} (h : ptrElem v = some (blk b, ps)) : v = ptrOf (some b) := by
  unfold ptrElem at h
  split at h
  · simp [blk] at h; obtain ⟨h, _⟩ := h; obtain rfl := Int.ofNat.inj h; rfl
  · simp [blk] at h
  · cases h
theorem ptrElem_nil {v : Value} {ps : List MemPlace} (h : ptrElem v = some (.nil, ps)) : v = ptrOf none := by
  unfold ptrElem at h
  split at h
  · simp [blk] at h
  · rfl
  · cases h

/-- The map in block b has just these. -/
def MapAt (w : World) (b : Nat) (l : List (Nm × Nat)) : Prop := w.ownsMap Tryz.prog 9 ptrElem b l.length (ents l)
theorem own_tight {w : World} {b n : Nat} {l : List (Nm × Nat)} (h : w.ownsMap Tryz.prog 9 ptrElem b n (ents l)) : MapAt w b l := by
  obtain ⟨es, clock, hb, F, hs, hD⟩ := h
  refine ⟨es, clock, hb, F, ?_, hD⟩
  have h1 : Maps.size (ents l) = es.size := by rw [hD]; simp [Maps.size, length_sorted]
  rw [size_ents] at h1
  omega
theorem MapAt.lt {w : World} {b : Nat} {l : List (Nm × Nat)} (h : MapAt w b l) : b < w.heap.size := World.ownsMap.lt h
theorem MapAt.ch {S : Nat → Prop} {w w' : World} {b : Nat} {l : List (Nm × Nat)} (h : MapAt w b l) (k : Ch S w w') (hs : ¬ S b) : MapAt w' b l := by
  have hlt := h.lt
  obtain ⟨es, clock, hb, r⟩ := h
  exact ⟨es, clock, (k.block b hlt hs).trans hb, r⟩
theorem MapAt.ne {w : World} {a b : Nat} {c : Array Value} {l : List (Nm × Nat)} {t : TypeId} (h : MapAt w a l) (k : Cells w b c t) : a ≠ b := by
  rintro rfl
  obtain ⟨es, clock, hb, r⟩ := h
  exact absurd (Option.some.inj (hb.symm.trans k)) (by simp)
theorem MapAt.made (w : World) : MapAt (w.alloc (.map #[] 0)) w.heap.size [] := World.ownsMap_made w _ _ _
theorem key_nm (k : Nm) (hk : k.length ≤ maxLen) : keyOf Tryz.prog 9 (.string (txt k)) = some (.string k) := by
  have := Go.WideMaps.keyOf_string_mk Tryz.underlying9 (s := txt k) (by rw [txt_size]; exact hk)
  rwa [txt_list] at this
theorem key_law : Keyed Tryz.prog 9 := string_keyed Tryz.underlying9
/-- What is at a name. -/
theorem MapAt.look {w : World} {b : Nat} {l : List (Nm × Nat)} (h : MapAt w b l) {t e e' : TypeId} (ht : Tryz.prog.underlying t = some (.map 9 e)) (hz : ∀ w, (zeroValue e).run Tryz.prog w = .ok (.pointer none) w) (k : Nm) (hk : k.length ≤ maxLen) :
    (Instr.lookup t (.map (some b)) (.string (txt k)) true).run Tryz.prog w = .ok (.tuple #[ptrOf (mget l k), .bool (mget l k).isSome]) w := by
  obtain ⟨v, ps, hrun, hv⟩ := World.ownsMap.look_ok h key_law ht (hz w) (zd := .nil) (zp := []) rfl (key_nm k hk)
  rw [hrun, has_ents]
  rw [at_ents] at hv
  cases hg : mget l k with
  | none => rw [hg] at hv; rw [ptrElem_nil hv]
  | some c => rw [hg] at hv; rw [ptrElem_inv hv]
theorem MapAt.look1 {w : World} {b : Nat} {l : List (Nm × Nat)} (h : MapAt w b l) {t e : TypeId} (ht : Tryz.prog.underlying t = some (.map 9 e)) (hz : ∀ w, (zeroValue e).run Tryz.prog w = .ok (.pointer none) w) (k : Nm) (hk : k.length ≤ maxLen) :
    (Instr.lookup t (.map (some b)) (.string (txt k)) false).run Tryz.prog w = .ok (ptrOf (mget l k)) w := by
  obtain ⟨v, ps, hrun, hv⟩ := World.ownsMap.lookup h key_law ht (hz w) (zd := .nil) (zp := []) rfl (key_nm k hk)
  rw [hrun]
  rw [at_ents] at hv
  cases hg : mget l k with
  | none => rw [hg] at hv; rw [ptrElem_nil hv]
  | some c => rw [hg] at hv; rw [ptrElem_inv hv]
theorem MapAt.len {w : World} {b : Nat} {l : List (Nm × Nat)} (h : MapAt w b l) {t e : TypeId} (ht : Tryz.prog.underlying t = some (.map 9 e)) (ty : TypeId) :
    (Builtin.len_ #[t] ty #[.map (some b)]).run Tryz.prog w = .ok (.int .i64 l.length) w := by
  have := World.ownsMap.len h ht ty
  rwa [size_ents] at this
section
variable (w : World) {ops : Array Oper} {rest : List Oper} {o : Oper} {a : Act} {Q : Exit → Act → World → Prop}
/-- 'm[k] = p'. -/
theorem put_ptr (hg : o.guard = none) (m x v : Operand) (t : TypeId) (hop : o.op = Op.mapUpdate t m x v) (e : TypeId) (ht : Tryz.prog.underlying t = some (.map 9 e)) (b : Nat) (l : List (Nm × Nat))
    (hm : a.eval m = .map (some b)) (h : MapAt w b l) (hn : l.length < maxLen) (k : Nm) (hk : k.length ≤ maxLen) (c : Nat) (hx : a.eval x = .string (txt k)) (hv : a.eval v = .pointer (some ⟨c, 0, none⟩))
    (hK : ∀ w', MapAt w' b (mset l k c) → w.mapTurned w' b → wpList Tryz.prog ops Q rest (a.put o.dst undef) w') : wpList Tryz.prog ops Q (o :: rest) a w :=
  wpList_mapUpdate_in w hg m x v t hop 9 e key_law ht ptrElem b l.length (ents l) hm h hn _ _ _ hx hv (key_nm k hk) (blk c) [] rfl
    fun w' h1 h2 => hK w' (by rw [put_ents] at h1; exact own_tight h1) h2
/-- 'delete(m, k)'. -/
theorem del_ptr (hg : o.guard = none) (m x : Operand) (t : TypeId) (hop : o.op = Op.call { callee := Callee.builtin Builtin.delete, args := #[m, x], argTypes := #[t, 9] }) (e : TypeId) (ht : Tryz.prog.underlying t = some (.map 9 e)) (b : Nat) (l : List (Nm × Nat))
    (hm : a.eval m = .map (some b)) (h : MapAt w b l) (k : Nm) (hk : k.length ≤ maxLen) (hx : a.eval x = .string (txt k))
    (hK : ∀ w', MapAt w' b (mdel l k) → w.mapTurned w' b → wpList Tryz.prog ops Q rest (a.put o.dst (.tuple #[])) w') : wpList Tryz.prog ops Q (o :: rest) a w :=
  wpList_delete_own w hg m x t 9 hop e key_law ht ptrElem b l.length (ents l) hm h _ _ hx (key_nm k hk)
    fun w' h1 h2 => hK w' (by rw [del_ents] at h1; exact own_tight h1) h2
end
end Go.Proofs.YtkcnmajjfljilaaGreatDoor
