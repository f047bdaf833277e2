/- Plain facts on lists of numbers, and what a walk is told of a slice of integers. -/
import Derived.Test.YtnfffkppgfokcaaNumPlain
import Derived.Below
namespace Go.Proofs.Ytnfffkppgfokcaa
open Go.RowKit

theorem take_snoc (l : List Int) (k : Nat) (h : k < l.length) : l.take (k + 1) = l.take k ++ [l.getD k 0] := by
  rw [List.take_succ_eq_append_getElem h]
  simp [List.getD, List.getElem?_eq_getElem h]

/-- The least one of a and all of l. -/
def leastOf (a : Int) (l : List Int) : Int := l.foldl (fun m b => if b < m then b else m) a
theorem leastOf_snoc (a : Int) (l : List Int) (b : Int) : leastOf a (l ++ [b]) = if b < leastOf a l then b else leastOf a l := by
  unfold leastOf; rw [List.foldl_append]; rfl
theorem leastOf_le (a : Int) (l : List Int) : leastOf a l ≤ a := by
  induction l generalizing a with
  | nil => exact Int.le_refl _
  | cons b l ih =>
    show leastOf (if b < a then b else a) l ≤ a
    have := ih (if b < a then b else a)
    split at this <;> rename_i h
    · rw [if_pos h]; omega
    · rw [if_neg h]; omega
theorem leastOf_le_mem (a : Int) (l : List Int) : ∀ b ∈ l, leastOf a l ≤ b := by
  induction l generalizing a with
  | nil => intro b hb; cases hb
  | cons c l ih =>
    intro b hb
    show leastOf (if c < a then c else a) l ≤ b
    rcases List.mem_cons.1 hb with rfl | hb
    · have := leastOf_le (if b < a then b else a) l
      split at this <;> rename_i h
      · rw [if_pos h]; omega
      · rw [if_neg h]; omega
    · exact ih _ b hb
theorem leastOf_mem (a : Int) (l : List Int) : leastOf a l = a ∨ leastOf a l ∈ l := by
  induction l generalizing a with
  | nil => exact .inl rfl
  | cons c l ih =>
    have h1 : leastOf a (c :: l) = leastOf (if c < a then c else a) l := rfl
    rw [h1]
    rcases ih (if c < a then c else a) with h | h
    · by_cases hc : c < a
      · rw [if_pos hc] at h ⊢; right; rw [h]; exact List.mem_cons_self
      · rw [if_neg hc] at h ⊢; exact .inl h
    · exact .inr (List.mem_cons_of_mem _ h)

/-- Is a number among the first of a list? -/
def among (n : Int) (l : List Int) : Bool := l.any (fun b => b == n)
theorem among_snoc (n : Int) (l : List Int) (b : Int) : among n (l ++ [b]) = (among n l || b == n) := by
  unfold among; simp [List.any_append]
theorem among_mem {n : Int} {l : List Int} (h : n ∈ l) : among n l = true := by
  unfold among; rw [List.any_eq_true]; exact ⟨n, h, by simp⟩

/-- A slice of integers of the kind k, of len elements at a: the first len of the numbers zs. -/
structure IntsAt (k : IntKind) (w : World) (b off len : Nat) (zs : List Int) : Prop where
  le : len ≤ zs.length
  max : len ≤ 9223372036854775807
  cell : ∀ j, j < zs.length → w.cell? ⟨b, off + j, none⟩ = some (.int k (zs.getD j 0))
end Go.Proofs.Ytnfffkppgfokcaa
