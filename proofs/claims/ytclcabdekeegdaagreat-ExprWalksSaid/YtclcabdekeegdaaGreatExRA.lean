/- Several texts in one: ExR, ExF, ExU, ExA. -/
import Derived.Test.YtclcabdekeegdaaGreatExM
import Derived.Test.YtclcabdekeegdaaGreatExCmp
import Derived.Laws.Tables
import Derived.Laws.Rows
import Derived.Deep.WholeRow
import Derived.Shelf.Abstract
/- Layer 13, walked: what each Op asks of a Name, a V; the rules. -/
namespace Go.Proofs.YtclcabdekeegdaaGreat
open Go.ChangeShapes Go.WideShapes Go.ChangeAt Go.RowKit
set_option linter.unusedVariables false

theorem beq_dec (a b : List UInt8) : (a == b) = decide (a = b) := by
  by_cases h : a = b
  · rw [h]; simp
  · rw [decide_eq_false h, beq_eq_false_iff_ne]; exact h
theorem toList_data_ (s : ByteArray) : s.toList = s.data.toList := Lib.toList_data s
theorem word_cases (s : ByteArray) : (s.data.toList = [105, 110, 116] ∧ wordK s.data.toList = 1) ∨ (s.data.toList ≠ [105, 110, 116] ∧ s.data.toList = [98, 111, 111, 108] ∧ wordK s.data.toList = 2) ∨
    (s.data.toList ≠ [105, 110, 116] ∧ s.data.toList ≠ [98, 111, 111, 108] ∧ s.data.toList = [116, 101, 120, 116] ∧ wordK s.data.toList = 3) ∨
    (s.data.toList ≠ [105, 110, 116] ∧ s.data.toList ≠ [98, 111, 111, 108] ∧ s.data.toList ≠ [116, 101, 120, 116] ∧ wordK s.data.toList = 0) := by
  unfold wordK
  by_cases h1 : s.data.toList = [105, 110, 116]
  · exact .inl ⟨h1, by rw [if_pos h1]⟩
  · by_cases h2 : s.data.toList = [98, 111, 111, 108]
    · exact .inr (.inl ⟨h1, h2, by rw [if_neg h1, if_pos h2]⟩)
    · by_cases h3 : s.data.toList = [116, 101, 120, 116]
      · exact .inr (.inr (.inl ⟨h1, h2, h3, by rw [if_neg h1, if_neg h2, if_pos h3]⟩))
      · exact .inr (.inr (.inr ⟨h1, h2, h3, by rw [if_neg h1, if_neg h2, if_neg h3]⟩))
theorem lit_eq (s : ByteArray) (l : List UInt8) : (s.toList == l) = decide (s.data.toList = l) := by rw [Lib.toList_data, beq_dec]
set_option maxRecDepth 20000 in
theorem named_any (s : ByteArray) (w : World) : Calls Tryz.prog 105 #[.string s] w fun e w' => e = .returned (.int .i64 (wordK s.data.toList)) ∧ w = w' := by
  have l1 : (s.toList == [105, 110, 116]) = decide (s.data.toList = [105, 110, 116]) := lit_eq _ _
  have l2 : (s.toList == [98, 111, 111, 108]) = decide (s.data.toList = [98, 111, 111, 108]) := lit_eq _ _
  have l3 : (s.toList == [116, 101, 120, 116]) = decide (s.data.toList = [116, 101, 120, 116]) := lit_eq _ _
  rcases word_cases s with ⟨h1, h⟩ | ⟨h1, h2, h⟩ | ⟨h1, h2, h3, h⟩ | ⟨h1, h2, h3, h⟩
  · rw [h]
    rw [decide_eq_true h1] at l1
    clear h h1 l2 l3
    go_enter Tryz.func105, Tryz.ntmps105
    go_wp2
    go_ret
    exact ⟨rfl, rfl⟩
  · rw [h]
    rw [decide_eq_false h1] at l1
    rw [decide_eq_true h2] at l2
    clear h h1 h2 l3
    go_enter Tryz.func105, Tryz.ntmps105
    go_wp2
    go_ret
    exact ⟨rfl, rfl⟩
  · rw [h]
    rw [decide_eq_false h1] at l1
    rw [decide_eq_false h2] at l2
    rw [decide_eq_true h3] at l3
    clear h h1 h2 h3
    go_enter Tryz.func105, Tryz.ntmps105
    go_wp2
    go_ret
    exact ⟨rfl, rfl⟩
  · rw [h]
    rw [decide_eq_false h1] at l1
    rw [decide_eq_false h2] at l2
    rw [decide_eq_false h3] at l3
    clear h h1 h2 h3
    go_enter Tryz.func105, Tryz.ntmps105
    go_wp2
    go_ret
    exact ⟨rfl, rfl⟩
set_option maxRecDepth 20000 in
theorem word_any (s : ByteArray) (w : World) : Calls Tryz.prog 91 #[.string s] w fun e w' => e = .returned (.int .i64 (wordK s.data.toList)) ∧ w = w' := by
  have l1 : (s.toList == [105, 110, 116]) = decide (s.data.toList = [105, 110, 116]) := lit_eq _ _
  have l2 : (s.toList == [98, 111, 111, 108]) = decide (s.data.toList = [98, 111, 111, 108]) := lit_eq _ _
  have l3 : (s.toList == [116, 101, 120, 116]) = decide (s.data.toList = [116, 101, 120, 116]) := lit_eq _ _
  rcases word_cases s with ⟨h1, h⟩ | ⟨h1, h2, h⟩ | ⟨h1, h2, h3, h⟩ | ⟨h1, h2, h3, h⟩
  · rw [h]
    rw [decide_eq_true h1] at l1
    clear h h1 l2 l3
    go_enter Tryz.func91, Tryz.ntmps91
    go_wp2
    go_ret
    exact ⟨rfl, rfl⟩
  · rw [h]
    rw [decide_eq_false h1] at l1
    rw [decide_eq_true h2] at l2
    clear h h1 h2 l3
    go_enter Tryz.func91, Tryz.ntmps91
    go_wp2
    go_ret
    exact ⟨rfl, rfl⟩
  · rw [h]
    rw [decide_eq_false h1] at l1
    rw [decide_eq_false h2] at l2
    rw [decide_eq_true h3] at l3
    clear h h1 h2 h3
    go_enter Tryz.func91, Tryz.ntmps91
    go_wp2
    go_ret
    exact ⟨rfl, rfl⟩
  · rw [h]
    rw [decide_eq_false h1] at l1
    rw [decide_eq_false h2] at l2
    rw [decide_eq_false h3] at l3
    clear h h1 h2 h3
    go_enter Tryz.func91, Tryz.ntmps91
    go_wp2
    go_ret
    exact ⟨rfl, rfl⟩
end Go.Proofs.YtclcabdekeegdaaGreat

/- Layer 13, walked: what each Op asks of an expression itself. -/
namespace Go.Proofs.YtclcabdekeegdaaGreat
open Go.ChangeShapes Go.WideShapes Go.ChangeAt Go.RowKit
set_option linter.unusedVariables false

theorem must_ok (f : Int) (w : World) : Calls Tryz.prog 104 #[.bool true, .int .i64 f] w fun en w' => en = .returned (.tuple #[]) ∧ w = w' := by
  go_enter Tryz.func104, Tryz.ntmps104
  go_wp2
  go_end0
  exact ⟨rfl, rfl⟩
def gaveUp (f : Int) : PanicEntry := { v := .iface 29 (.int .i64 f), recovered := false }
theorem must_no (f : Int) (w : World) : Calls Tryz.prog 104 #[.bool false, .int .i64 f] w fun en w' => en = .panicked [gaveUp f] ∧ w = w' := by
  go_enter Tryz.func104, Tryz.ntmps104
  go_wp2
  exact ⟨rfl, rfl, rfl⟩
theorem zeroV_no {v : V} (h : v.k ≠ 0 ∨ v.n ≠ 0 ∨ v.s.size ≠ 0) : zeroV v = false := by
  unfold zeroV
  rcases h with h | h | h <;> simp [h]
theorem zeroV_yes {v : V} (h1 : v.k = 0) (h2 : v.n = 0) (h3 : v.s.size = 0) : zeroV v = true := by unfold zeroV; simp [h1, h2, h3]
def bareB (n : ByteArray) (v : V) : Bool := decide (n.size = 0) && zeroV v
def colB (n : ByteArray) (v : V) : Bool := nameB n.data.toList && zeroV v
def nullB (n : ByteArray) (v : V) : Bool := decide (wordK n.data.toList ≠ 0) && zeroV v
def litB (n : ByteArray) (v : V) : Bool := decide (n.size = 0) && decide (v.k ≠ 0) && decide (chk v = 0)
/-- An expression as a value, its parts plainly. -/
def eV (o : Int) (n : ByteArray) (v : V) (l : Nat) (A : Option Addr) (c : Nat) : Value := .agg #[.int .i64 o, .string n, .int .i64 v.k, .int .i64 v.n, .string v.s, .slice A l c]
theorem eV_of (e : X) (A : Option Addr) (c : Nat) : e.val A c = eV e.op e.nm e.v e.ks.length A c := rfl
section
variable {n : ByteArray} {v : V}
theorem bareB_yes (h : n.size = 0) (h1 : v.k = 0) (h2 : v.n = 0) (h3 : v.s.size = 0) : bareB n v = true := by unfold bareB; rw [zeroV_yes h1 h2 h3]; simp [h]
theorem bareB_no (h : n.size ≠ 0) : bareB n v = false := by unfold bareB; simp [h]
theorem bareB_no2 (h : v.k ≠ 0 ∨ v.n ≠ 0 ∨ v.s.size ≠ 0) : bareB n v = false := by unfold bareB; rw [zeroV_no h]; simp
theorem colB_yes (h : nameB n.data.toList = true) (h1 : v.k = 0) (h2 : v.n = 0) (h3 : v.s.size = 0) : colB n v = true := by unfold colB; rw [zeroV_yes h1 h2 h3]; simp [h]
theorem colB_no (h : nameB n.data.toList = false) : colB n v = false := by unfold colB; simp [h]
theorem colB_no2 (h : v.k ≠ 0 ∨ v.n ≠ 0 ∨ v.s.size ≠ 0) : colB n v = false := by unfold colB; rw [zeroV_no h]; simp
theorem nullB_yes (h : wordK n.data.toList ≠ 0) (h1 : v.k = 0) (h2 : v.n = 0) (h3 : v.s.size = 0) : nullB n v = true := by unfold nullB; rw [zeroV_yes h1 h2 h3]; simp [h]
theorem nullB_no (h : wordK n.data.toList = 0) : nullB n v = false := by unfold nullB; simp [h]
theorem nullB_no2 (h : v.k ≠ 0 ∨ v.n ≠ 0 ∨ v.s.size ≠ 0) : nullB n v = false := by unfold nullB; rw [zeroV_no h]; simp
theorem litB_yes (h : n.size = 0) (h1 : v.k ≠ 0) (h2 : chk v = 0) : litB n v = true := by unfold litB; simp [h, h1, h2]
theorem litB_no (h : n.size ≠ 0) : litB n v = false := by unfold litB; simp [h]
theorem litB_no2 (h : chk v ≠ 0) : litB n v = false := by unfold litB; simp [h]
theorem litB_no3 (h : v.k = 0) : litB n v = false := by unfold litB; simp [h]
end
theorem bare_any (o : Int) (n : ByteArray) (v : V) (l : Nat) (A : Option Addr) (c : Nat) (w : World) : Calls Tryz.prog 66 #[eV o n v l A c] w fun en w' => en = .returned (.bool (bareB n v)) ∧ Below w.heap.size w w' := by
  unfold eV
  obtain ⟨z, hz⟩ : ∃ z, bareB n v = z := ⟨_, rfl⟩
  rw [hz]
  have HT := Lib.hid (fun h h1 h2 h3 => hz.symm.trans (bareB_yes (n := n) (v := v) h h1 h2 h3))
  have HN := Lib.hid (fun h => hz.symm.trans (bareB_no (n := n) (v := v) h))
  have HF := Lib.hid (fun h => hz.symm.trans (bareB_no2 (n := n) (v := v) h))
  clear hz
  obtain ⟨k, m, s⟩ := v
  dsimp only at HT HF ⊢
  by_cases h : n.size = 0
  · have he : n.toList.isEmpty = true := by rw [isEmpty_size]; exact decide_eq_true h
    have HT := Lib.hid (HT.out h)
    clear h
    by_cases h1 : k = 0
    · by_cases h2 : m = 0
      · by_cases h3 : s.size = 0
        · have hq : s.toList = [] := by rw [toList_nil]; exact h3
          have HX := Lib.hid (HT.out h1 h2 h3)
          clear h3
          go_enter Tryz.func66, Tryz.ntmps66
          go_wp2
          go_ret
          rw [HX.out]
          exact ⟨rfl, (Below.refl _ w).alloc (Nat.le_refl _) _⟩
        · have hq : ¬ s.toList = [] := by rw [toList_nil]; exact h3
          have HX := Lib.hid (HF.out (.inr (.inr h3)))
          clear h3
          go_enter Tryz.func66, Tryz.ntmps66
          go_wp2
          go_ret
          rw [HX.out]
          exact ⟨rfl, (Below.refl _ w).alloc (Nat.le_refl _) _⟩
      · have HX := Lib.hid (HF.out (.inr (.inl h2)))
        go_enter Tryz.func66, Tryz.ntmps66
        go_wp2
        go_ret
        rw [HX.out]
        exact ⟨rfl, (Below.refl _ w).alloc (Nat.le_refl _) _⟩
    · have HX := Lib.hid (HF.out (.inl h1))
      go_enter Tryz.func66, Tryz.ntmps66
      go_wp2
      go_ret
      rw [HX.out]
      exact ⟨rfl, (Below.refl _ w).alloc (Nat.le_refl _) _⟩
  · have he : n.toList.isEmpty = false := by rw [isEmpty_size]; exact decide_eq_false h
    have HX := Lib.hid (HN.out h)
    clear h
    go_enter Tryz.func66, Tryz.ntmps66
    go_wp2
    go_ret
    rw [HX.out]
    exact ⟨rfl, (Below.refl _ w).alloc (Nat.le_refl _) _⟩
theorem column_any (o : Int) (n : ByteArray) (v : V) (hn : n.size ≤ 9223372036854775807) (l : Nat) (A : Option Addr) (c : Nat) (w : World) : Calls Tryz.prog 57 #[eV o n v l A c] w fun en w' => en = .returned (.bool (colB n v)) ∧ Below w.heap.size w w' := by
  unfold eV
  obtain ⟨z, hz⟩ : ∃ z, colB n v = z := ⟨_, rfl⟩
  rw [hz]
  have HT := Lib.hid (fun h h1 h2 h3 => hz.symm.trans (colB_yes (n := n) (v := v) h h1 h2 h3))
  have HN := Lib.hid (fun h => hz.symm.trans (colB_no (n := n) (v := v) h))
  have HF := Lib.hid (fun h => hz.symm.trans (colB_no2 (n := n) (v := v) h))
  have HNM := Lib.hid (name_any n hn)
  clear hz hn
  obtain ⟨y, hy⟩ : ∃ y, nameB n.data.toList = y := ⟨_, rfl⟩
  rw [hy] at HT HN HNM
  clear hy
  obtain ⟨k, m, s⟩ := v
  dsimp only at HT HF ⊢
  cases y
  · have HX := Lib.hid (HN.out rfl)
    go_enter Tryz.func57, Tryz.ntmps57
    go_wp2_with (go_at_call 93; refine (HNM.out _).mono ?_; rintro e w' ⟨rfl, rfl⟩)
    go_ret
    rw [HX.out]
    exact ⟨rfl, (Below.refl _ w).alloc (Nat.le_refl _) _⟩
  · have HT := Lib.hid (HT.out rfl)
    by_cases h1 : k = 0
    · by_cases h2 : m = 0
      · by_cases h3 : s.size = 0
        · have hq : s.toList = [] := by rw [toList_nil]; exact h3
          have HX := Lib.hid (HT.out h1 h2 h3)
          clear h3
          go_enter Tryz.func57, Tryz.ntmps57
          go_wp2_with (go_at_call 93; refine (HNM.out _).mono ?_; rintro e w' ⟨rfl, rfl⟩)
          go_ret
          rw [HX.out]
          exact ⟨rfl, (Below.refl _ w).alloc (Nat.le_refl _) _⟩
        · have hq : ¬ s.toList = [] := by rw [toList_nil]; exact h3
          have HX := Lib.hid (HF.out (.inr (.inr h3)))
          clear h3
          go_enter Tryz.func57, Tryz.ntmps57
          go_wp2_with (go_at_call 93; refine (HNM.out _).mono ?_; rintro e w' ⟨rfl, rfl⟩)
          go_ret
          rw [HX.out]
          exact ⟨rfl, (Below.refl _ w).alloc (Nat.le_refl _) _⟩
      · have HX := Lib.hid (HF.out (.inr (.inl h2)))
        go_enter Tryz.func57, Tryz.ntmps57
        go_wp2_with (go_at_call 93; refine (HNM.out _).mono ?_; rintro e w' ⟨rfl, rfl⟩)
        go_ret
        rw [HX.out]
        exact ⟨rfl, (Below.refl _ w).alloc (Nat.le_refl _) _⟩
    · have HX := Lib.hid (HF.out (.inl h1))
      go_enter Tryz.func57, Tryz.ntmps57
      go_wp2_with (go_at_call 93; refine (HNM.out _).mono ?_; rintro e w' ⟨rfl, rfl⟩)
      go_ret
      rw [HX.out]
      exact ⟨rfl, (Below.refl _ w).alloc (Nat.le_refl _) _⟩
theorem null_any (o : Int) (n : ByteArray) (v : V) (l : Nat) (A : Option Addr) (c : Nat) (w : World) : Calls Tryz.prog 63 #[eV o n v l A c] w fun en w' => en = .returned (.bool (nullB n v)) ∧ Below w.heap.size w w' := by
  unfold eV
  obtain ⟨z, hz⟩ : ∃ z, nullB n v = z := ⟨_, rfl⟩
  rw [hz]
  have HT := Lib.hid (fun h h1 h2 h3 => hz.symm.trans (nullB_yes (n := n) (v := v) h h1 h2 h3))
  have HN := Lib.hid (fun h => hz.symm.trans (nullB_no (n := n) (v := v) h))
  have HF := Lib.hid (fun h => hz.symm.trans (nullB_no2 (n := n) (v := v) h))
  have HNM := Lib.hid (named_any n)
  clear hz
  obtain ⟨y, hy⟩ : ∃ y, wordK n.data.toList = y := ⟨_, rfl⟩
  rw [hy] at HT HN HNM
  clear hy
  obtain ⟨k, m, s⟩ := v
  dsimp only at HT HF ⊢
  by_cases hy0 : y = 0
  · have HX := Lib.hid (HN.out hy0)
    have hne : (y != 0) = false := by simpa using hy0
    clear hy0
    go_enter Tryz.func63, Tryz.ntmps63
    go_wp2_with (go_at_call 105; refine (HNM.out _).mono ?_; rintro e w' ⟨rfl, rfl⟩)
    go_ret
    rw [HX.out]
    exact ⟨rfl, (Below.refl _ w).alloc (Nat.le_refl _) _⟩
  · have HT := Lib.hid (HT.out hy0)
    have hne : (y != 0) = true := by simpa using hy0
    clear hy0
    by_cases h1 : k = 0
    · by_cases h2 : m = 0
      · by_cases h3 : s.size = 0
        · have hq : s.toList = [] := by rw [toList_nil]; exact h3
          have HX := Lib.hid (HT.out h1 h2 h3)
          clear h3
          go_enter Tryz.func63, Tryz.ntmps63
          go_wp2_with (go_at_call 105; refine (HNM.out _).mono ?_; rintro e w' ⟨rfl, rfl⟩)
          go_ret
          rw [HX.out]
          exact ⟨rfl, (Below.refl _ w).alloc (Nat.le_refl _) _⟩
        · have hq : ¬ s.toList = [] := by rw [toList_nil]; exact h3
          have HX := Lib.hid (HF.out (.inr (.inr h3)))
          clear h3
          go_enter Tryz.func63, Tryz.ntmps63
          go_wp2_with (go_at_call 105; refine (HNM.out _).mono ?_; rintro e w' ⟨rfl, rfl⟩)
          go_ret
          rw [HX.out]
          exact ⟨rfl, (Below.refl _ w).alloc (Nat.le_refl _) _⟩
      · have HX := Lib.hid (HF.out (.inr (.inl h2)))
        go_enter Tryz.func63, Tryz.ntmps63
        go_wp2_with (go_at_call 105; refine (HNM.out _).mono ?_; rintro e w' ⟨rfl, rfl⟩)
        go_ret
        rw [HX.out]
        exact ⟨rfl, (Below.refl _ w).alloc (Nat.le_refl _) _⟩
    · have HX := Lib.hid (HF.out (.inl h1))
      go_enter Tryz.func63, Tryz.ntmps63
      go_wp2_with (go_at_call 105; refine (HNM.out _).mono ?_; rintro e w' ⟨rfl, rfl⟩)
      go_ret
      rw [HX.out]
      exact ⟨rfl, (Below.refl _ w).alloc (Nat.le_refl _) _⟩
theorem literal_any (o : Int) (n : ByteArray) (v : V) (hv : v.wf) (l : Nat) (A : Option Addr) (c : Nat) (w : World) : Calls Tryz.prog 60 #[eV o n v l A c] w fun en w' => en = .returned (.bool (litB n v)) ∧ Below w.heap.size w w' := by
  unfold eV
  obtain ⟨z, hz⟩ : ∃ z, litB n v = z := ⟨_, rfl⟩
  rw [hz]
  have HT := Lib.hid (fun h h1 h2 => hz.symm.trans (litB_yes (n := n) (v := v) h h1 h2))
  have HN := Lib.hid (fun h => hz.symm.trans (litB_no (n := n) (v := v) h))
  have HF := Lib.hid (fun h => hz.symm.trans (litB_no2 (n := n) (v := v) h))
  have HF3 := Lib.hid (fun h => hz.symm.trans (litB_no3 (n := n) (v := v) h))
  have HC := Lib.hid (check_any v hv)
  clear hz hv
  obtain ⟨x, hx⟩ : ∃ x, chk v = x := ⟨_, rfl⟩
  rw [hx] at HT HF HC
  clear hx
  unfold V.val at HC
  obtain ⟨k, m, s⟩ := v
  dsimp only at HT HF3 HC ⊢
  by_cases h : n.size = 0
  · have he : n.toList.isEmpty = true := by rw [isEmpty_size]; exact decide_eq_true h
    have HT := Lib.hid (HT.out h)
    clear h
    by_cases h0 : x = 0
    · have q0 : (x == 0) = true := by simpa using h0
      by_cases h1 : k = 0
      · have q1 : (k != 0) = false := by simpa using h1
        have HX := Lib.hid (HF3.out h1)
        clear h0 q1
        subst h1
        go_enter Tryz.func60, Tryz.ntmps60
        go_wp2_with (go_at_call 96; refine (HC.out _).mono ?_; rintro e w' ⟨rfl, hb⟩; have c2 := later_cell hb (show World.cell? (w.alloc (.cells #[.int .i64 o, .string n, .int .i64 0, .int .i64 m, .string s, .slice A l c] 26)) ⟨w.heap.size, 2, none⟩ = some (.int .i64 0) from by rw [World.cell?_alloc_mark]; rfl))
        go_ret
        rw [HX.out]
        exact ⟨rfl, hop0 ((Below.refl _ w).alloc (Nat.le_refl _) _) hb⟩
      · have q1 : (k != 0) = true := by simpa using h1
        have HX := Lib.hid (HT.out h1 h0)
        clear h0
        go_enter Tryz.func60, Tryz.ntmps60
        go_wp2_with (go_at_call 96; refine (HC.out _).mono ?_; rintro e w' ⟨rfl, hb⟩; have c2 := later_cell hb (show World.cell? (w.alloc (.cells #[.int .i64 o, .string n, .int .i64 k, .int .i64 m, .string s, .slice A l c] 26)) ⟨w.heap.size, 2, none⟩ = some (.int .i64 k) from by rw [World.cell?_alloc_mark]; rfl))
        go_ret
        rw [HX.out]
        exact ⟨rfl, hop0 ((Below.refl _ w).alloc (Nat.le_refl _) _) hb⟩
    · have q0 : (x == 0) = false := by simpa using h0
      have HX := Lib.hid (HF.out h0)
      clear h0
      go_enter Tryz.func60, Tryz.ntmps60
      go_wp2_with (go_at_call 96; refine (HC.out _).mono ?_; rintro e w' ⟨rfl, hb⟩)
      go_ret
      rw [HX.out]
      exact ⟨rfl, hop0 ((Below.refl _ w).alloc (Nat.le_refl _) _) hb⟩
  · have he : n.toList.isEmpty = false := by rw [isEmpty_size]; exact decide_eq_false h
    have HX := Lib.hid (HN.out h)
    clear h
    go_enter Tryz.func60, Tryz.ntmps60
    go_wp2
    go_ret
    rw [HX.out]
    exact ⟨rfl, (Below.refl _ w).alloc (Nat.le_refl _) _⟩
end Go.Proofs.YtclcabdekeegdaaGreat

/- Layer 13, walked: the table of rules. -/
namespace Go.Proofs.YtclcabdekeegdaaGreat
open Go.ChangeShapes Go.WideShapes Go.ChangeAt Go.RowKit
set_option linter.unusedVariables false

def formF (o : Int) : Nat := if o = 1 then 57 else if o = 2 then 60 else if o = 3 then 63 else 66
def kindF (o : Int) : Nat :=
  if o = 1 then 58 else if o = 2 then 61 else if o = 3 then 64 else if o ≤ 8 then 67 else if o = 9 then 69
  else if o ≤ 13 then 71 else if o ≤ 15 then 76 else if o = 16 then 79 else if o = 17 then 81 else if o = 18 then 83
  else if o = 19 then 85 else 87
def worthF (o : Int) : Nat :=
  if o = 1 then 59 else if o = 2 then 62 else if o = 3 then 65 else if o ≤ 8 then 68 else if o = 9 then 70
  else if o = 10 then 72 else if o = 11 then 73 else if o = 12 then 74 else if o = 13 then 75 else if o = 14 then 77 else if o = 15 then 78
  else if o = 16 then 80 else if o = 17 then 82 else if o = 18 then 84 else if o = 19 then 86 else 88
def fnV (f : Nat) : Value := .func (.func f) #[] #[]
def ruleL (o : Int) : List Value := [.int .i64 (kidsN o), fnV (formF o), fnV (kindF o), fnV (worthF o)]
def rulesL : List Value := [.int .i64 0, .nilFunc, .nilFunc, .nilFunc] ++ ([1, 2, 3, 4, 5, 6, 7, 8, 9, 10, 11, 12, 13, 14, 15, 16, 17, 18, 19, 20] : List Int).flatMap ruleL
def rulesV : Value := .agg rulesL.toArray
theorem wpList_build_lit {P : Program} {ops : Array Oper} {rest : List Oper} {o : Oper} {a : Act} {w : World} {Q : Exit → Act → World → Prop} (hg : o.guard = none) (t : TypeId) (parts : Array (Nat × Operand)) (ho : o.op = .build t parts)
    (cells : Array Value) (hc : P.built t (parts.map fun (i, x) => (i, a.eval x)).toList = some cells)
    (h : wpList P ops Q rest (a.put o.dst (.agg cells)) w) : wpList P ops Q (o :: rest) a w := by
  refine wpList_build hg t parts ho (by rw [hc]; rfl) ?_
  rw [hc]
  exact h
theorem rulesL_size : rulesL.toArray.size = 84 := by decide +kernel
theorem rulesL_one : rulesL.toArray.all (·.oneCell') = true := by decide +kernel
set_option maxHeartbeats 8000000 in
set_option maxRecDepth 100000 in
theorem rules_any (w : World) : Calls Tryz.prog 33 #[] w fun en w' => en = .returned rulesV ∧ Below w.heap.size w w' := by
  go_enter Tryz.func33, Tryz.ntmps33
  go_wp2_with (first
    | (refine wpList_store_row (by rfl) _ _ _ (by rfl) w.heap.size rulesL.toArray (by rfl) (by rfl) 66 _ (World.alloc_heap_new w _) (by kernel_rfl) (by kernel_rfl) rulesL_one ?_)
    | (refine wpList_build_lit (by rfl) 66 _ (by rfl) rulesL.toArray (by kernel_rfl) ?_))
  rw [World.setRow_alloc_new]
  refine bodyPost_ret (results_cell_row rfl _ _ w.heap.size 66 rulesL.toArray (0, 0) _ (by rfl) (World.alloc_heap_new w _) Tryz.underlying66 rfl (by kernel_rfl)) rfl ?_
  exact ⟨rfl, (Below.refl _ w).alloc (Nat.le_refl _) _⟩
end Go.Proofs.YtclcabdekeegdaaGreat

/- Layer 13, walked: what a rule allows. -/
namespace Go.Proofs.YtclcabdekeegdaaGreat
open Go.ChangeShapes Go.WideShapes Go.ChangeAt Go.RowKit
set_option linter.unusedVariables false

theorem formF_enters (o : Int) : ∀ args W, (callFunc (formF o) args).run Tryz.prog W = .ok (.enter (formF o) args) W := by
  intro args W
  unfold formF
  split
  · exact enters_of Tryz.func57 (by kernel_rfl) rfl args W
  · split
    · exact enters_of Tryz.func60 (by kernel_rfl) rfl args W
    · split
      · exact enters_of Tryz.func63 (by kernel_rfl) rfl args W
      · exact enters_of Tryz.func66 (by kernel_rfl) rfl args W
theorem form_any (o q : Int) (n : ByteArray) (v : V) (hn : n.size ≤ 9223372036854775807) (hv : v.wf) (l : Nat) (A : Option Addr) (c : Nat) (w : World) :
    Calls Tryz.prog (formF o) #[eV q n v l A c] w fun en w' => en = .returned (.bool (headB o n v)) ∧ Below w.heap.size w w' := by
  unfold formF headB
  split
  · exact column_any q n v hn l A c w
  · split
    · exact literal_any q n v hv l A c w
    · split
      · exact null_any q n v l A c w
      · exact bare_any q n v l A c w
theorem nil_is (W : World) : (binOp .neq 32 .nilFunc .nilFunc).run Tryz.prog W = .ok (.bool false) W := by kernel_rfl
theorem nil_not (f : Nat) (W : World) : (binOp .neq 32 (.func (.func f) #[] #[]) .nilFunc).run Tryz.prog W = .ok (.bool true) W := by kernel_rfl
set_option maxRecDepth 20000 in
theorem allows_zero (q : Int) (n : ByteArray) (v : V) (l : Nat) (A : Option Addr) (c : Nat) (w : World) :
    Calls Tryz.prog 35 #[.agg #[.int .i64 0, .nilFunc, .nilFunc, .nilFunc], eV q n v l A c] w fun en w' => en = .returned (.bool false) ∧ Below w.heap.size w w' := by
  unfold eV
  have hni := nil_is
  go_enter Tryz.func35, Tryz.ntmps35
  go_wp2
  go_ret
  exact ⟨rfl, ((Below.refl _ w).alloc (Nat.le_refl _) _).alloc (by simp) _⟩
set_option maxHeartbeats 1000000 in
set_option maxRecDepth 20000 in
theorem allows_any (K : Int) (f g h : Nat) (B : Bool) (q : Int) (n : ByteArray) (v : V) (l : Nat) (A : Option Addr) (c : Nat) (w : World) (eg : ∀ args W, (callFunc f args).run Tryz.prog W = .ok (.enter f args) W)
    (hf : ∀ W, Calls Tryz.prog f #[eV q n v l A c] W fun en w' => en = .returned (.bool B) ∧ Below W.heap.size W w') :
    Calls Tryz.prog 35 #[.agg #[.int .i64 K, fnV f, fnV g, fnV h], eV q n v l A c] w fun en w' => en = .returned (.bool (decide ((l : Int) = K) && B)) ∧ Below w.heap.size w w' := by
  have HF := Lib.hid hf
  clear hf
  unfold eV at HF ⊢
  unfold fnV
  have hni := nil_not f
  by_cases hl : (l : Int) = K
  · have q1 : ((l : Int) == K) = true := by simpa using hl
    rw [decide_eq_true hl, Bool.true_and]
    clear hl
    go_enter Tryz.func35, Tryz.ntmps35
    go_wp2_with (go_at_fn f; refine (HF.out _).mono ?_; rintro e w' ⟨rfl, hb⟩)
    go_ret
    exact ⟨rfl, hop0 (((Below.refl _ w).alloc (Nat.le_refl _) _).alloc (by simp) _) hb⟩
  · have q1 : ((l : Int) == K) = false := by simpa using hl
    rw [decide_eq_false hl, Bool.false_and]
    clear hl
    go_enter Tryz.func35, Tryz.ntmps35
    go_wp2
    go_ret
    exact ⟨rfl, ((Below.refl _ w).alloc (Nat.le_refl _) _).alloc (by simp) _⟩
end Go.Proofs.YtclcabdekeegdaaGreat
