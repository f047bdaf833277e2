/- Layer 13, walked: Check (the reference); the law Forms. -/
import Derived.Test.YtclcabdekeegdaaGreatExQ7F
namespace Go.Proofs.YtclcabdekeegdaaGreat
open Go.ChangeShapes Go.WideShapes Go.ChangeAt Go.RowKit
set_option linter.unusedVariables false
set_option linter.unusedSimpArgs false
end Go.Proofs.YtclcabdekeegdaaGreat
