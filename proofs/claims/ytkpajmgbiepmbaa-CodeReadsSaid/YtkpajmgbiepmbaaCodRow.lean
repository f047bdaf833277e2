/- Rows of whatever items: how they lie, and what an append onto one leaves. -/
import Derived.Test.YtkpajmgbiepmbaaCodW2
namespace Go.Proofs.Ytkpajmgbiepmbaa
open Go.ChangeShapes Go.WideShapes Go.ChangeAt Go.RowKit
open Go.Lib (byteCells byteCells_length byteCells_append strCells)
set_option linter.unusedVariables false

section
variable {α : Type} {f : α → List Value} {sz : Nat}
/-- The items l lie side by side from A on, below block B. -/
def RowC (f : α → List Value) (sz : Nat) (w : World) (B : Nat) (A : Option Addr) (l : List α) : Prop :=
  ∀ (j : Nat) (h : j < l.length), ∃ b off, A = some ⟨b, off, none⟩ ∧ b < B ∧ ∀ i v, (f l[j])[i]? = some v → w.cell? ⟨b, off + j * sz + i, none⟩ = some v
theorem RowC.below {w w' : World} {B : Nat} {A : Option Addr} {l : List α} (h : RowC f sz w B A l) (hb : Below B w w') : RowC f sz w' B A l := by
  intro j hj
  obtain ⟨b, off, e, hlt, h0⟩ := h j hj
  exact ⟨b, off, e, hlt, fun i v hv => (hb.cell (p := ⟨b, _, none⟩) hlt).trans (h0 i v hv)⟩
theorem RowC.more {w : World} {B B' : Nat} {A : Option Addr} {l : List α} (h : RowC f sz w B A l) (hb : B ≤ B') : RowC f sz w B' A l := by
  intro j hj
  obtain ⟨b, off, e, hlt, h0⟩ := h j hj
  exact ⟨b, off, e, by omega, h0⟩
theorem flat_at (hl : ∀ a, (f a).length = sz) : ∀ (l : List α) (q : Nat) (h : q < l.length) (i : Nat) (u : Value), (f l[q])[i]? = some u → (l.flatMap f)[q * sz + i]? = some u
  | [], q, h, i, u, hu => by simp at h
  | a :: l, 0, h, i, u, hu => by
    rw [List.flatMap_cons, Nat.zero_mul, Nat.zero_add]
    have hu' : (f a)[i]? = some u := hu
    have hi : i < (f a).length := (List.getElem?_eq_some_iff.1 hu').1
    rw [List.getElem?_append_left hi]
    exact hu'
  | a :: l, q + 1, h, i, u, hu => by
    have ih := flat_at hl l q (by simpa using h) i u (by simpa using hu)
    rw [List.flatMap_cons, List.getElem?_append_right (by rw [hl, Nat.add_mul, Nat.one_mul]; omega), hl]
    rw [show (q + 1) * sz + i - sz = q * sz + i by rw [Nat.add_mul, Nat.one_mul]; omega]
    exact ih
theorem flat_length (hl : ∀ a, (f a).length = sz) (l : List α) : (l.flatMap f).length = l.length * sz := by
  induction l with
  | nil => simp
  | cons a l ih => rw [List.flatMap_cons, List.length_append, hl, ih, List.length_cons, Nat.add_mul, Nat.one_mul, Nat.add_comm]
theorem RowC.own {w : World} {base : Nat} {E : TypeId} {A : Option Addr} {n c : Nat} {l : List α} (hl : ∀ a, (f a).length = sz) (hs : 0 < sz) (h : w.ownsRow base E sz (.slice A n c) n (l.flatMap f)) : n = l.length ∧ RowC f sz w w.heap.size A l := by
  have h1 := h.1
  rw [flat_length hl] at h1
  have hn : n = l.length := (Nat.eq_of_mul_eq_mul_right hs h1).symm
  refine ⟨hn, fun j hj => ?_⟩
  obtain ⟨g, cap, hv, _, hlt⟩ := h.form (by omega)
  have hc := h.cells (g := g) (by rw [hv]; rfl)
  injection hv with h1 _ _
  subst h1
  refine ⟨g, 0, rfl, hlt, fun i v hv => ?_⟩
  have := hc _ _ (flat_at hl l j hj i v hv)
  rw [add_at] at this
  rw [Nat.add_assoc]
  exact this
theorem RowC.nil (w : World) (B : Nat) (A : Option Addr) : RowC f sz w B A [] := fun j hj => by simp at hj
theorem flat_one (h1 : ∀ a, ∀ u ∈ f a, u.oneCell' = true) (l : List α) : ∀ u ∈ l.flatMap f, u.oneCell' = true := by
  intro u hu
  rw [List.mem_flatMap] at hu
  obtain ⟨a, _, ha⟩ := hu
  exact h1 a u ha
end

theorem Row3.c {w : World} {B : Nat} {A : Option Addr} {l : List V} (h : Row3 w B A l) : RowC V.cells 3 w B A l := by
  intro j hj
  obtain ⟨b, off, e, hlt, h0, h1, h2⟩ := h j hj
  refine ⟨b, off, e, hlt, fun i v hv => ?_⟩
  match i, hv with
  | 0, hv => injection hv with hv; subst hv; exact h0
  | 1, hv => injection hv with hv; subst hv; exact h1
  | 2, hv => injection hv with hv; subst hv; exact h2
theorem RowC.v {w : World} {B : Nat} {A : Option Addr} {l : List V} (h : RowC V.cells 3 w B A l) : Row3 w B A l := by
  intro j hj
  obtain ⟨b, off, e, hlt, h0⟩ := h j hj
  exact ⟨b, off, e, hlt, h0 0 _ rfl, h0 1 _ rfl, h0 2 _ rfl⟩

/-- A row as a value: its address, its capacity, its values. -/
structure Rw where
  a : Option Addr
  c : Nat
  l : List V
def Rw.val (r : Rw) : Value := .slice r.a r.l.length r.c
def rwL (r : Rw) : List UInt8 := rowL r.l
def iCells (n : Int) : List Value := [.int .i64 n]
def rCells (r : Rw) : List Value := [r.val]
def cCells (c : Co) : List Value := [.string c.s, .int .i64 c.k]
def pCells (p : Pa) : List Value := [.string p.s, .string p.t]
def sCells (s : ByteArray) : List Value := [.string s]
theorem iCells_length (n : Int) : (iCells n).length = 1 := rfl
theorem rCells_length (n : Rw) : (rCells n).length = 1 := rfl
theorem cCells_length (n : Co) : (cCells n).length = 2 := rfl
theorem pCells_length (n : Pa) : (pCells n).length = 2 := rfl
theorem vCells_length (n : V) : (V.cells n).length = 3 := rfl
theorem sCells_length (n : ByteArray) : (sCells n).length = 1 := rfl
theorem iCells_one (n : Int) : ∀ u ∈ iCells n, u.oneCell' = true := by simp [iCells, Value.oneCell']
theorem rCells_one (n : Rw) : ∀ u ∈ rCells n, u.oneCell' = true := by simp [rCells, Rw.val, Value.oneCell']
theorem cCells_one (n : Co) : ∀ u ∈ cCells n, u.oneCell' = true := by simp [cCells, Value.oneCell']
theorem pCells_one (n : Pa) : ∀ u ∈ pCells n, u.oneCell' = true := by simp [pCells, Value.oneCell']
theorem vCells_one (n : V) : ∀ u ∈ V.cells n, u.oneCell' = true := by simp [V.cells, Value.oneCell']
theorem sCells_one (n : ByteArray) : ∀ u ∈ sCells n, u.oneCell' = true := by simp [sCells, Value.oneCell']

/-- What the list's bytes come to, up to place k. -/
def upTo {α : Type} (enc : α → List UInt8) (l : List α) (k : Nat) : List UInt8 := numL l.length ++ (l.take k).flatMap enc
section
variable {α : Type} {enc : α → List UInt8} {l : List α} {k : Nat}
theorem upTo_zero : upTo enc l 0 = numL l.length := by simp [upTo]
theorem upTo_next (h : k < l.length) : upTo enc l (k + 1) = upTo enc l k ++ enc l[k] := by
  unfold upTo
  rw [List.take_succ_eq_append_getElem h, List.flatMap_append]
  simp only [List.flatMap_cons, List.flatMap_nil, List.append_nil, List.append_assoc]
theorem upTo_all (h : l.length ≤ k) : upTo enc l k = listL enc l := by
  unfold upTo listL
  rw [List.take_of_length_le h]
theorem upTo_le (k : Nat) : (upTo enc l k).length ≤ (listL enc l).length := by
  have h : l.flatMap enc = (l.take k).flatMap enc ++ (l.drop k).flatMap enc := by rw [← List.flatMap_append, List.take_append_drop]
  unfold upTo listL
  rw [h]
  simp only [List.length_append]
  omega
end
end Go.Proofs.Ytkpajmgbiepmbaa
