/- Layer 13, walked: Kind (the reference); the law Kinds. -/
import Derived.Test.YtclcabdekeegdaaGreatExQ9F
import Derived.Test.YtclcabdekeegdaaGreatExIF
namespace Go.Proofs.YtclcabdekeegdaaGreat
open Go.ChangeShapes Go.WideShapes Go.ChangeAt Go.RowKit
set_option linter.unusedVariables false
set_option linter.unusedSimpArgs false
end Go.Proofs.YtclcabdekeegdaaGreat
