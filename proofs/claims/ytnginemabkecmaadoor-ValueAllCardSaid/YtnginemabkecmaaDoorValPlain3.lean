/- Replacing each byte 0 by two is the escape of the keys. -/
import Derived.Test.YtnginemabkecmaaDoorValPlain2
import Derived.Lib.SplitLaws
namespace Go.Proofs.YtnginemabkecmaaDoor
open Go.Lib
theorem replaceK_esc : ∀ s : List UInt8, replaceK [0] [0, 255] (count s [0]) s = esc s
  | [] => by
    rw [show count ([] : List UInt8) [0] = 0 by decide]
    rfl
  | c :: r => by
    have ih := replaceK_esc r
    by_cases hc : c = 0
    · subst hc
      have h0 : index (0 :: r) [0] = ((0 : Nat) : Int) := by unfold index; simp
      rw [count_cons_eq, Nat.add_comm, replaceK_hit _ _ _ _ 0 h0]
      simp only [List.take_zero, List.nil_append, Nat.zero_add, List.length_cons, List.length_nil, List.drop_succ_cons, List.drop_zero, ih]
      rw [esc, if_pos rfl]
      rfl
    · rw [count_cons_ne _ _ _ hc, esc, if_neg hc]
      cases hk : count r [0] with
      | zero =>
        rw [hk] at ih
        rw [replaceK] at ih ⊢
        rw [← ih]
      | succ k =>
        obtain ⟨i, hi⟩ := index_of_count (s := r) (old := [0]) (by omega)
        have hi2 : index (c :: r) [0] = ((i + 1 : Nat) : Int) := by
          have hne : (0 == c) = false := by simpa using fun e => hc e.symm
          have hm : (index r [0] == -1) = false := by rw [hi]; simp
          unfold index
          simp only [List.isPrefixOf, hne, Bool.false_and, Bool.false_eq_true, if_false, hm]
          rw [hi]
          rfl
        rw [hk, replaceK_hit _ _ _ _ i hi] at ih
        rw [replaceK_hit _ _ _ _ (i + 1) hi2]
        rw [← ih]
        simp
theorem replaceAll_esc (s : List UInt8) : replaceAll s [0] [0, 255] = esc s := by
  unfold replaceAll replace
  rw [if_neg (by decide)]
  unfold replaceNum
  rw [if_pos (by omega), replaceK_esc]
theorem countB_zero_le (s : ByteArray) : countB s ⟨#[0]⟩ ≤ s.size := by
  have := countB_le ⟨#[0]⟩ (by decide) s.size s (Nat.le_refl _)
  exact this
end Go.Proofs.YtnginemabkecmaaDoor
