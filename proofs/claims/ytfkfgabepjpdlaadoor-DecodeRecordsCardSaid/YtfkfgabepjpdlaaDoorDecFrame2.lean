/- The frame of stage 12's rows whose program replaces in texts, too: how long a text may be. -/
import Derived.Test.YtfkfgabepjpdlaaDoorDecFrame
import Derived.Test.YtfkfgabepjpdlaaDoorDecS1
namespace Go.Proofs.YtfkfgabepjpdlaaDoor
open Go
set_option linter.unusedVariables false

theorem env2_of {w : World} {l : List (String × DataW Unit)} (h : laidMet Tryd.prog l w) (h2 : errX 2 ∈ l) (h3 : errX 3 ∈ l) (h4 : errX 4 ∈ l) (hsh : w.ShapedOpen Tryd.prog) : Env2 w.heap.size w := by
  have hM : ∃ m : Int, w.cell? ⟨3, 0, none⟩ = some (.int .i64 m) :=
    cell_of_shapedOpen_int (zero := #[.int .i64 0]) (t := 3) hsh (of_decide_eq_true (by kernel_rfl)) (by kernel_rfl) rfl (by kernel_rfl) (by kernel_rfl) Tryd.underlying3
  obtain ⟨m, hm⟩ := hM
  exact ⟨env_of h h2 h3 h4, cell_lt hm, m, hm⟩
end Go.Proofs.YtfkfgabepjpdlaaDoor
