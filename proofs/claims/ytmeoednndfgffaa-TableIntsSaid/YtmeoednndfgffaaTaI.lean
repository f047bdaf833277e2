/- Layer 17: what tables of bytes are asked; the law TableInts, walked. -/
import Derived.Test.YtmeoednndfgffaaTaA
namespace Go.Proofs.Ytmeoednndfgffaa
attribute [local go_sem] Oper.semAt_some
open Go Go.ChangeShapes Go.WideShapes Go.ChangeAt Go.RowKit
set_option linter.unusedVariables false
set_option linter.unusedSimpArgs false
abbrev Ku := KV Int
def encU (x : Int) : Value := .int .u8 x
/-- A table of bytes: D the blocks that its calls write, R those that it is read from. -/
structure TabU (TabSU : Blks → Blks → World → Value → List Ku → Prop) : Prop where
  rise : ∀ {D R w v l}, TabSU D R w v l → RiseK l
  wr : ∀ {D R w v l}, TabSU D R w v l → ∀ k, D k → R k
  lt : ∀ {D R w v l}, TabSU D R w v l → ∀ k, R k → k < w.heap.size
  ch : ∀ {D R S w w' v l}, TabSU D R w v l → Ch S w w' → (∀ k, S k → ¬ R k) → TabSU D R w' v l
  new : ∀ (w : World), Calls Try.prog 27 #[.slice none 0 0] w fun e w' => ∃ D R v, e = .returned v ∧ TabSU D R w' v [] ∧ (∀ k, R k → w.heap.size ≤ k) ∧ Below w.heap.size w w'
  get : ∀ {D R w v l} (k : ByteArray), TabSU D R w v l → l.length ≤ 1000 → Calls Try.prog 31 #[v, .string k] w fun e w' => e = .returned (.tuple #[.int .u8 ((getK l k).getD 0), .bool (getK l k).isSome]) ∧ Below w.heap.size w w'
  put : ∀ {D R w v l} (k : ByteArray) (x : Int), TabSU D R w v l → l.length ≤ 1000 → Calls Try.prog 28 #[v, .string k, .int .u8 x] w fun e w' => ∃ D' R', e = .returned (.tuple #[]) ∧ TabSU D' R' w' v (setK l k x) ∧ (∀ k, D' k → D k ∨ w.heap.size ≤ k) ∧ (∀ k, R' k → R k ∨ w.heap.size ≤ k) ∧ Ch D w w'
  len : ∀ {D R w v l}, TabSU D R w v l → l.length ≤ 1000 → Calls Try.prog 32 #[v] w fun e w' => e = .returned (.int .i64 l.length) ∧ Below w.heap.size w w'
  diff : ∀ {D R D' R' w v v' l m}, TabSU D R w v l → TabSU D' R' w v' m → l.length + m.length ≤ 2000 → Calls Try.prog 30 #[v, v'] w fun e w' => ∃ A c, e = .returned (.slice A (diffK 0 l m).length c) ∧ CRowG encU w' w'.heap.size A (diffK 0 l m) ∧ Below w.heap.size w w'
  apply : ∀ {D R w v l A c} (cs : List (KC Int)), TabSU D R w v l → l.length + cs.length ≤ 2000 → CRowG encU w w.heap.size A cs → Calls Try.prog 29 #[v, .slice A cs.length c] w fun e w' => ∃ D' R' v', e = .returned v' ∧ TabSU D' R' w' v' (applyK l cs) ∧ (∀ k, D' k → w.heap.size ≤ k) ∧ (∀ k, R' k → R k ∧ ¬ D k ∨ w.heap.size ≤ k) ∧ Below w.heap.size w w'
/-- The law's two tables. -/
structure Ui (TabSU : Blks → Blks → World → Value → List Ku → Prop) (w : World) (v1 v2 : Value) (l1 l2 : List Ku) (U : World) : Prop where
  ex : ∃ D1 R1 D2 R2, TabSU D1 R1 U v1 l1 ∧ TabSU D2 R2 U v2 l2 ∧ (∀ k, D1 k → w.heap.size ≤ k ∧ ¬ R2 k) ∧ (∀ k, D2 k → w.heap.size ≤ k ∧ ¬ R1 k)
  bel : Below w.heap.size w U
section
variable {TabSU : Blks → Blks → World → Value → List Ku → Prop} {w U V : World} {v1 v2 : Value} {l1 l2 : List Ku}
theorem setU_len : ∀ (l : List Ku) (k : ByteArray) (v : Int), (setK l k v).length ≤ l.length + 1
  | [], _, _ => Nat.le_refl _
  | c :: r, k, v => by
    simp only [setK]
    have := setU_len r k v
    split
    · simp only [List.length_cons]; omega
    · split <;> simp only [List.length_cons] <;> omega
theorem diffU_len : ∀ (l m : List Ku), (diffK 0 l m).length ≤ l.length + m.length
  | [], [] => by simp [diffK]
  | a :: l, [] => by
    rw [diffK]
    have := diffU_len l []
    simp only [List.length_cons, List.length_nil] at *
    omega
  | [], b :: m => by
    rw [diffK]
    have := diffU_len [] m
    simp only [List.length_cons, List.length_nil] at *
    omega
  | a :: l, b :: m => by
    rw [diffK]
    have h1 := diffU_len l (b :: m)
    have h2 := diffU_len (a :: l) m
    have h3 := diffU_len l m
    simp only [List.length_cons] at *
    split
    · simp only [List.length_cons]; omega
    · split
      · simp only [List.length_cons]; omega
      · split
        · simp only [List.length_cons]; omega
        · omega
  termination_by l m => l.length + m.length
theorem Ui.on (HU : TabU TabSU) (h : Ui TabSU w v1 v2 l1 l2 U) (hb : Below U.heap.size U V) : Ui TabSU w v1 v2 l1 l2 V := by
  obtain ⟨D1, R1, D2, R2, t1, t2, h1, h2⟩ := h.ex
  exact ⟨⟨D1, R1, D2, R2, HU.ch t1 (ch_of (S := fun _ => False) hb) (fun _ h => h.elim), HU.ch t2 (ch_of (S := fun _ => False) hb) (fun _ h => h.elim), h1, h2⟩, hop0 h.bel hb⟩
theorem Ui.swap (h : Ui TabSU w v1 v2 l1 l2 U) : Ui TabSU w v2 v1 l2 l1 U := by
  obtain ⟨D1, R1, D2, R2, t1, t2, h1, h2⟩ := h.ex
  exact ⟨⟨D2, R2, D1, R1, t2, t1, h2, h1⟩, h.bel⟩
theorem Ui.put (HU : TabU TabSU) (h : Ui TabSU w v1 v2 l1 l2 U) (hl : l1.length ≤ 1000) (k : ByteArray) (x : Int) :
    Calls Try.prog 28 #[v1, .string k, .int .u8 x] U fun e V => e = .returned (.tuple #[]) ∧ Ui TabSU w v1 v2 (setK l1 k x) l2 V := by
  obtain ⟨D1, R1, D2, R2, t1, t2, h1, h2⟩ := h.ex
  refine (HU.put k x t1 hl).mono ?_
  rintro e V ⟨D', R', rfl, t1', hd, hr, hc⟩
  have hl2 := HU.lt t2
  have hw2 := HU.wr t2
  refine ⟨rfl, ⟨D', R', D2, R2, t1', HU.ch t2 hc (fun k hk => (h1 k hk).2), fun k hk => ?_, fun k hk => ⟨(h2 k hk).1, fun hk2 => (hr k hk2).elim (h2 k hk).2 (fun h3 => ?_)⟩⟩, h.bel.trans (hc.toBelow (fun k _ hk => (h1 k hk).1) h.bel.size)⟩
  · rcases hd k hk with h3 | h3
    · exact h1 k h3
    · exact ⟨Nat.le_trans h.bel.size h3, fun h4 => by have := hl2 k h4; omega⟩
  · have := hl2 k (hw2 k hk)
    omega
theorem Ui.diff (HU : TabU TabSU) (h : Ui TabSU w v1 v2 l1 l2 U) (hl : l1.length + l2.length ≤ 2000) :
    Calls Try.prog 30 #[v1, v2] U fun e V => ∃ A c, e = .returned (.slice A (diffK 0 l1 l2).length c) ∧ CRowG encU V V.heap.size A (diffK 0 l1 l2) ∧ Below U.heap.size U V := by
  obtain ⟨D1, R1, D2, R2, t1, t2, h1, h2⟩ := h.ex
  exact HU.diff t1 t2 hl
/-- What came of it, and the second table: they have the same. -/
structure Uj (TabSU : Blks → Blks → World → Value → List Ku → Prop) (w : World) (v1 v2 : Value) (l : List Ku) (U : World) : Prop where
  ex : ∃ D1 R1 D2 R2, TabSU D1 R1 U v1 l ∧ TabSU D2 R2 U v2 l
  bel : Below w.heap.size w U
theorem Uj.on (HU : TabU TabSU) {l : List Ku} (h : Uj TabSU w v1 v2 l U) (hb : Below U.heap.size U V) : Uj TabSU w v1 v2 l V := by
  obtain ⟨D1, R1, D2, R2, t1, t2⟩ := h.ex
  exact ⟨⟨D1, R1, D2, R2, HU.ch t1 (ch_of (S := fun _ => False) hb) (fun _ h => h.elim), HU.ch t2 (ch_of (S := fun _ => False) hb) (fun _ h => h.elim)⟩, hop0 h.bel hb⟩
theorem Ui.apply (HU : TabU TabSU) (h : Ui TabSU w v1 v2 l1 l2 U) (hl : l1.length + (l1.length + l2.length) ≤ 2000) {A : Option Addr} {c : Nat} (hc : CRowG encU U U.heap.size A (diffK 0 l1 l2)) :
    Calls Try.prog 29 #[v1, .slice A (diffK 0 l1 l2).length c] U fun e V => ∃ v', e = .returned v' ∧ Uj TabSU w v' v2 l2 V := by
  obtain ⟨D1, R1, D2, R2, t1, t2, h1, h2⟩ := h.ex
  refine (HU.apply _ t1 (by have := diffU_len l1 l2; omega) hc).mono ?_
  rintro e V ⟨D', R', v', rfl, t3, _, _, hb⟩
  rw [apply_diff (HU.rise t1) (HU.rise t2)] at t3
  exact ⟨v', rfl, ⟨D', R', D2, R2, t3, HU.ch t2 (ch_of (S := fun _ => False) hb) (fun _ h => h.elim)⟩, hop0 h.bel hb⟩
theorem Uj.get1 (HU : TabU TabSU) {l : List Ku} (h : Uj TabSU w v1 v2 l U) (hl : l.length ≤ 1000) (k : ByteArray) :
    Calls Try.prog 31 #[v1, .string k] U fun e V => e = .returned (.tuple #[.int .u8 ((getK l k).getD 0), .bool (getK l k).isSome]) ∧ Below U.heap.size U V := by
  obtain ⟨D1, R1, D2, R2, t1, t2⟩ := h.ex
  exact HU.get k t1 hl
theorem Uj.get2 (HU : TabU TabSU) {l : List Ku} (h : Uj TabSU w v1 v2 l U) (hl : l.length ≤ 1000) (k : ByteArray) :
    Calls Try.prog 31 #[v2, .string k] U fun e V => e = .returned (.tuple #[.int .u8 ((getK l k).getD 0), .bool (getK l k).isSome]) ∧ Below U.heap.size U V := by
  obtain ⟨D1, R1, D2, R2, t1, t2⟩ := h.ex
  exact HU.get k t2 hl
theorem Uj.len1 (HU : TabU TabSU) {l : List Ku} (h : Uj TabSU w v1 v2 l U) (hl : l.length ≤ 1000) :
    Calls Try.prog 32 #[v1] U fun e V => e = .returned (.int .i64 l.length) ∧ Below U.heap.size U V := by
  obtain ⟨D1, R1, D2, R2, t1, t2⟩ := h.ex
  exact HU.len t1 hl
theorem Uj.len2 (HU : TabU TabSU) {l : List Ku} (h : Uj TabSU w v1 v2 l U) (hl : l.length ≤ 1000) :
    Calls Try.prog 32 #[v2] U fun e V => e = .returned (.int .i64 l.length) ∧ Below U.heap.size U V := by
  obtain ⟨D1, R1, D2, R2, t1, t2⟩ := h.ex
  exact HU.len t2 hl
theorem ui_start (HU : TabU TabSU) {w1 w2 w3 : World} {D1 R1 D2 R2 : Blks} (h1 : TabSU D1 R1 w2 v1 l1) (f1 : ∀ k, R1 k → w1.heap.size ≤ k) (b1 : Below w.heap.size w w1) (b2 : Below w1.heap.size w1 w2) (h2 : TabSU D2 R2 w3 v2 l2) (f2 : ∀ k, R2 k → w2.heap.size ≤ k) (b3 : Below w2.heap.size w2 w3) : Ui TabSU w v1 v2 l1 l2 w3 := by
  have hl := HU.lt h1
  refine ⟨⟨D1, R1, D2, R2, HU.ch h1 (ch_of (S := fun _ => False) b3) (fun _ h => h.elim), h2, fun k hk => ⟨Nat.le_trans b1.size (f1 k (HU.wr h1 k hk)), fun hk2 => ?_⟩, fun k hk => ⟨Nat.le_trans (Nat.le_trans b1.size b2.size) (f2 k (HU.wr h2 k hk)), fun hk1 => ?_⟩⟩, hop0 (hop0 b1 b2) b3⟩
  · have h3 := hl k (HU.wr h1 k hk)
    have h4 := f2 k hk2
    omega
  · have h3 := hl k hk1
    have h4 := f2 k (HU.wr h2 k hk)
    omega
end
end Go.Proofs.Ytmeoednndfgffaa
