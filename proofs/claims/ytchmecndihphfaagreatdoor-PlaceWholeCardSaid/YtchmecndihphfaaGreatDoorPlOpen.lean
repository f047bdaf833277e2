/- place: arguments that are lists of numbers, opened. -/
import Derived.Test.YtchmecndihphfaaGreatDoorPlWhole
import Derived.Test.YtchmecndihphfaaGreatDoorOpen
namespace Go.Proofs.YtchmecndihphfaaGreatDoor
open Go Go.ChangeShapes Go.WideShapes Go.Deep Go.RowKit Go.Joins
set_option linter.unusedVariables false
section
variable {H : Type} {enc : TypeId × Value → H} {w : World} {base : Nat} {spare : Nat → Bool} {held : Bool}
theorem iCells_length (a : Int) : (iCells a).length = 1 := rfl
theorem trod_i {m : Nat} {cs : List Value} {x : DataW H × List MemPlace} (h : DataW.trod enc Tryz.prog w base spare held m 3 cs = some x) : ∃ a, in64 a ∧ cs = iCells a := by
  obtain ⟨k, e0, _, w0⟩ := DataW.trod_int Tryz.underlying3 h
  exact ⟨k, in64_wf w0, e0⟩
end
end Go.Proofs.YtchmecndihphfaaGreatDoor
