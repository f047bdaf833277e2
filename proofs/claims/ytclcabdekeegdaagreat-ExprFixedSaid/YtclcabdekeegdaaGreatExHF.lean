/- Layer 13: the law Holds, walked. -/
import Derived.Test.YtclcabdekeegdaaGreatExQ5F
namespace Go.Proofs.YtclcabdekeegdaaGreat
open Go.ChangeShapes Go.WideShapes Go.ChangeAt Go.RowKit
set_option linter.unusedVariables false
set_option linter.unusedSimpArgs false
theorem kindE_ok {e : X} {cs : List C} (h : (kindE e cs).2 = 0) : rightB cs = true ∧ checkX e = 0 ∧ kindE e cs = kindX cs e := by
 unfold kindE at h ⊢
 split at h
 ·cases h
 ·rename_i h1
  split at h
  ·rename_i h2; exact absurd h h2
  ·rename_i h2
   rw [if_neg h1, if_neg h2]
   exact ⟨by simpa using h1, by simpa using h2, rfl⟩
end Go.Proofs.YtclcabdekeegdaaGreat
