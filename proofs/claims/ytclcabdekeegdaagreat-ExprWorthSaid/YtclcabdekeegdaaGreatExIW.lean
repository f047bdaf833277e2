/- Layer 13: the law Forms, walked. -/
import Derived.Test.YtclcabdekeegdaaGreatExQ8W
namespace Go.Proofs.YtclcabdekeegdaaGreat
open Go.ChangeShapes Go.WideShapes Go.ChangeAt Go.RowKit
set_option linter.unusedVariables false
set_option linter.unusedSimpArgs false
theorem far_forms {e : X} {cs : List C} {row : List V} (h : farX e cs row = false) : hugeX e = false := by
 unfold farX at h
 simp only [Bool.or_eq_false_iff] at h
 exact h.1.1
end Go.Proofs.YtclcabdekeegdaaGreat
