/- Layer 13, walked: kids, form, Check (the reference). -/
import Derived.Test.YtclcabdekeegdaaGreatExQ5
namespace Go.Proofs.YtclcabdekeegdaaGreat
open Go.ChangeShapes Go.WideShapes Go.ChangeAt Go.RowKit
set_option linter.unusedVariables false
set_option linter.unusedSimpArgs false
set_option maxHeartbeats 4000000 in
set_option maxRecDepth 20000 in
theorem rkids_any (o : Int) (w : World) : Calls Tryz.prog 90 #[.int .i64 o] w fun en w' => en = .returned (.int .i64 (kidsN o)) ∧ w = w' := by
  by_cases hr : 1 ≤ o ∧ o ≤ 20
  · have : o = 1 ∨ o = 2 ∨ o = 3 ∨ o = 4 ∨ o = 5 ∨ o = 6 ∨ o = 7 ∨ o = 8 ∨ o = 9 ∨ o = 10 ∨ o = 11 ∨ o = 12 ∨ o = 13 ∨ o = 14 ∨ o = 15 ∨ o = 16 ∨ o = 17 ∨ o = 18 ∨ o = 19 ∨ o = 20 := by omega
    clear hr
    rcases this with rfl | rfl | rfl | rfl | rfl | rfl | rfl | rfl | rfl | rfl | rfl | rfl | rfl | rfl | rfl | rfl | rfl | rfl | rfl | rfl
    all_goals (go_enter Tryz.func90, Tryz.ntmps90)
    all_goals go_wp2
    all_goals go_ret
    all_goals exact ⟨rfl, rfl⟩
  · have hX : kidsN o = -1 := by unfold kidsN; rw [if_neg (by omega), if_neg (by omega), if_neg (by omega), if_neg (by omega)]
    rw [hX]
    by_cases h1 : 1 ≤ o
    · have i1 : ¬ o ≤ 3 := by omega
      have i2 : 4 ≤ o := by omega
      have i3 : ¬ o ≤ 8 := by omega
      have i4 : 10 ≤ o := by omega
      have i5 : ¬ o ≤ 15 := by omega
      have q1 : (o == 19) = false := by simp; omega
      have q2 : (o == 9) = false := by simp; omega
      have q3 : (o == 16) = false := by simp; omega
      have q4 : (o == 17) = false := by simp; omega
      have q5 : (o == 20) = false := by simp; omega
      have q6 : (o == 18) = false := by simp; omega
      clear hr
      go_enter Tryz.func90, Tryz.ntmps90
      go_wp2
      go_ret
      exact ⟨rfl, rfl⟩
    · have i2 : ¬ 4 ≤ o := by omega
      have i4 : ¬ 10 ≤ o := by omega
      have q1 : (o == 19) = false := by simp; omega
      have q2 : (o == 9) = false := by simp; omega
      have q3 : (o == 16) = false := by simp; omega
      have q4 : (o == 17) = false := by simp; omega
      have q5 : (o == 20) = false := by simp; omega
      have q6 : (o == 18) = false := by simp; omega
      clear hr
      go_enter Tryz.func90, Tryz.ntmps90
      go_wp2
      go_ret
      exact ⟨rfl, rfl⟩
end Go.Proofs.YtclcabdekeegdaaGreat
