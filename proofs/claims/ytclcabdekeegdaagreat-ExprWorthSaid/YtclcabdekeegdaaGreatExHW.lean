/- Layer 13: the law Holds, walked. -/
import Derived.Test.YtclcabdekeegdaaGreatExQ5W
namespace Go.Proofs.YtclcabdekeegdaaGreat
open Go.ChangeShapes Go.WideShapes Go.ChangeAt Go.RowKit
set_option linter.unusedVariables false
set_option linter.unusedSimpArgs false
end Go.Proofs.YtclcabdekeegdaaGreat
