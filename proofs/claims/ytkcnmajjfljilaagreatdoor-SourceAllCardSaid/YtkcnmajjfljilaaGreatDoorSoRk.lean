/- What a seat needs of several texts. -/
import Derived.Test.YtkcnmajjfljilaaGreatDoorMem
import Derived.Test.YtkcnmajjfljilaaGreatDoorSoOE
import Derived.Test.YtkcnmajjfljilaaGreatDoorSoXN
import Derived.BigQuiet
import Derived.Laws.OwnMore
import Derived.BigRegion
/- From OffA. -/
namespace Go.Proofs.YtkcnmajjfljilaaGreatDoor
open Go.ChangeShapes Go.WideShapes Go.ChangeAt Go.RowKit
set_option linter.unusedVariables false
end Go.Proofs.YtkcnmajjfljilaaGreatDoor
/- From OffA2. -/
namespace Go.Proofs.YtkcnmajjfljilaaGreatDoor
open Go.ChangeShapes Go.WideShapes Go.ChangeAt Go.RowKit
set_option linter.unusedVariables false
end Go.Proofs.YtkcnmajjfljilaaGreatDoor
/- From OffB. -/
namespace Go.Proofs.YtkcnmajjfljilaaGreatDoor
open Go.ChangeShapes Go.WideShapes Go.ChangeAt Go.RowKit
set_option linter.unusedVariables false
end Go.Proofs.YtkcnmajjfljilaaGreatDoor
/- From OffP. -/
namespace Go.Proofs.YtkcnmajjfljilaaGreatDoor
open Go.ChangeShapes Go.WideShapes Go.ChangeAt Go.RowKit
open Go.Lib (byteCells byteCells_length byteCells_append strCells)
set_option linter.unusedVariables false
end Go.Proofs.YtkcnmajjfljilaaGreatDoor
/- From OffQ. -/
namespace Go.Proofs.YtkcnmajjfljilaaGreatDoor
open Go.ChangeShapes Go.WideShapes Go.ChangeAt Go.RowKit
open Go.Lib (byteCells byteCells_length byteCells_append strCells)
set_option linter.unusedVariables false
/-- The ranges that are laid, up to the k-th. -/
def rgK (l : List Rg) (k : Nat) : List Rg := l.take k ++ List.replicate (l.length - k) noRg
theorem rgK_zero (l : List Rg) : rgK l 0 = List.replicate l.length noRg := by simp [rgK]
theorem rgK_all {l : List Rg} {k : Nat} (h : l.length ≤ k) : rgK l k = l := by
  unfold rgK
  rw [List.take_of_length_le h, show l.length - k = 0 by omega]
  simp
theorem rgK_len {l : List Rg} {k : Nat} (h : k ≤ l.length) : (rgK l k).length = l.length := by
  unfold rgK
  rw [List.length_append, List.length_take, List.length_replicate]
  omega
theorem set_at {α : Type} (a c : List α) (x u : α) (m : Nat) (hm : m = a.length) : (a ++ x :: c).set m u = a ++ u :: c := by
  subst hm
  induction a with
  | nil => rfl
  | cons z a ih => simp only [List.cons_append, List.length_cons, List.set_cons_succ, ih]
theorem rgK_next {l : List Rg} {k : Nat} (h : k < l.length) : (rgK l k).set k l[k] = rgK l (k + 1) := by
  unfold rgK
  obtain ⟨m, hm⟩ : ∃ m, l.length - k = m + 1 := ⟨l.length - k - 1, by omega⟩
  have h3 : l.length - (k + 1) = m := by omega
  rw [hm, h3, List.replicate_succ, set_at _ _ _ _ _ (by rw [List.length_take]; omega), List.take_succ_eq_append_getElem h]
  simp only [List.append_assoc, List.cons_append, List.nil_append]
theorem rgflat_set : ∀ (l : List Rg) (k : Nat) (r : Rg), ((l.flatMap rgCells).set (2 * k) (.int .i64 r.f)).set (2 * k + 1) (.int .i64 r.t) = (l.set k r).flatMap rgCells
  | [], k, r => by simp
  | a :: l, 0, r => by simp [rgCells]
  | a :: l, k + 1, r => by
    have := rgflat_set l k r
    rw [List.flatMap_cons, List.set_cons_succ, List.flatMap_cons, ← this]
    simp only [rgCells, List.cons_append, List.nil_append, Nat.mul_add, Nat.mul_one, List.set_cons_succ]
theorem made_rgs (h : Nat) : (madeCells #[.int .i64 0, .int .i64 0] (h * 2)).toList = (List.replicate h noRg).flatMap rgCells := by
  apply List.ext_getElem?
  intro j
  have hl := flat_length rgCells_length (List.replicate h noRg)
  rw [List.length_replicate] at hl
  by_cases hj : j < h * 2
  · have h1 : (List.replicate h noRg)[j / 2]'(by simp; omega) = noRg := by simp
    have h2 := flat_at rgCells_length (List.replicate h noRg) (j / 2) (by simp; omega) (j % 2) (.int .i64 0) (by
      rw [h1]
      rcases Nat.mod_two_eq_zero_or_one j with e | e <;> rw [e] <;> rfl)
    rw [show j / 2 * 2 + j % 2 = j by omega] at h2
    rw [h2]
    rcases Nat.mod_two_eq_zero_or_one j with e | e <;> simp [madeCells, hj, e]
  · rw [List.getElem?_eq_none (by simp [size_madeCells]; omega), List.getElem?_eq_none (by omega)]
end Go.Proofs.YtkcnmajjfljilaaGreatDoor
