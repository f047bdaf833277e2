/- What a seat needs of several texts. -/
import Derived.Test.YtclcabdekeegdaaGreatExNumAF
import Derived.LoopTactic
/- From NumLaws. -/
namespace Go.Proofs.YtclcabdekeegdaaGreat
open Go.ChangeShapes Go.WideShapes Go.ChangeAt Go.RowKit
end Go.Proofs.YtclcabdekeegdaaGreat
/- From LimbPlain. -/
namespace Go.Proofs.YtclcabdekeegdaaGreat
open Go.RowKit
end Go.Proofs.YtclcabdekeegdaaGreat
/- From LimbWalks. -/
namespace Go.Proofs.YtclcabdekeegdaaGreat
open Go.ChangeShapes Go.WideShapes Go.ChangeAt Go.RowKit
end Go.Proofs.YtclcabdekeegdaaGreat
