/- Layer 13, walked: kids, form, Check (the reference). -/
import Derived.Test.YtclcabdekeegdaaGreatExQ5F
namespace Go.Proofs.YtclcabdekeegdaaGreat
open Go.ChangeShapes Go.WideShapes Go.ChangeAt Go.RowKit
set_option linter.unusedVariables false
set_option linter.unusedSimpArgs false
end Go.Proofs.YtclcabdekeegdaaGreat
