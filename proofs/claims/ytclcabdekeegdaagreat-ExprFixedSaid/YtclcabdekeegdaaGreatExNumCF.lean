/- What a seat needs of several texts. -/
import Derived.Test.YtclcabdekeegdaaGreatExNumBF
import Derived.RegionTactic
import Derived.BigRegion
/- From LimbWalks2. -/
namespace Go.Proofs.YtclcabdekeegdaaGreat
open Go.ChangeShapes Go.WideShapes Go.ChangeAt Go.RowKit
end Go.Proofs.YtclcabdekeegdaaGreat
/- From NumDoes. -/
namespace Go.Proofs.YtclcabdekeegdaaGreat
open Go.ChangeShapes Go.WideShapes Go.ChangeAt Go.RowKit
end Go.Proofs.YtclcabdekeegdaaGreat
/- From NumDoes2. -/
namespace Go.Proofs.YtclcabdekeegdaaGreat
open Go.ChangeShapes Go.WideShapes Go.ChangeAt Go.RowKit
end Go.Proofs.YtclcabdekeegdaaGreat
/- From NumDoes3. -/
namespace Go.Proofs.YtclcabdekeegdaaGreat
open Go.ChangeShapes Go.WideShapes Go.ChangeAt Go.RowKit
end Go.Proofs.YtclcabdekeegdaaGreat
