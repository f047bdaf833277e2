/-
  No cell of these rows narrows 'for every input' (looked for: loops, veiled, ifaces, maps, wideKeys, modest, calm, conditions, laid).
  DERIVED. THE GIVEN ROWS OF THIS SEAT. 4 by the template 'for every input the law returns true; each argument reads behind the call as it read before'; 0 by the template 'total and deterministic' (their statements: YtlmkhieojgpgcaaTotals.lean).
  GIVEN WITH THE SEED: the statements are not yours to turn. If you find one false, say at which input.
  Laid BY PROGRAM, IN A SANDBOX (cutbox-rows.mjs): the forced cells as the released guide's own fill.sh prints them over the translation 76e2343520e0fa46… (all of the seat's roots in one cut). By AI agents, Wed Nov 11 2026. No macro, syntax, notation, axiom, sorry.
-/
import Derived.Test.YtlmkhieojgpgcaaChecked
import GoSem.Claim
import GoSem.ClaimJoined
import GoSem.ClaimMapViews
import Derived.JoinedTies
import Derived.KernelRfl
namespace Go.Proofs.Ytlmkhieojgpgcaa
/- THE CELL 'sum', in the pinned program and in every row, IS THE sha256 OF THE DUMP (.gsa) THAT YtlmkhieojgpgcaaProg.lean LOADS. Nothing in Lean hashes anything: it is a label: what it is worth is what the hold of that sum in a sandbox is worth. -/
noncomputable def Try.pinned : Pinned := { name := "ytlmkhieojgpgcaa", sum := "76e2343520e0fa46eca3e2d304fd39f64653dcd5f7efe86566c811e2dc486904", checked := Try.checked }
namespace Rows
def none {H : Type} : Left H := { results := [], args := [] }

/-- 'headgatelaw06.FsSafe': WHATEVER THE INPUT: true; the input reads as it did. -/
def fsSafeSpec : ChangeSpec := { name := "fsSafe", fn := fun _ => fun
  | [d1, d2, d3, d4] => { results := [.lit (.bool true)], args := [d1, d2, d3, d4] }
  | _ => none }
def fsSafeRow : OpenClaim := { program := "ytlmkhieojgpgcaa", sum := "76e2343520e0fa46eca3e2d304fd39f64653dcd5f7efe86566c811e2dc486904", func := "headgate/headgatelaw06.FsSafe", spec := "fsSafe", inPlace := ["maps.clone"], unfollowed := true, recurses := true, apart := false }
def FsSafeSaid : Prop := fsSafeRow.holds Try.pinned (OpenSpec.ofChange fsSafeSpec)

/-- ITS FALSE NEIGHBOUR: 'it returns false'. Refute it at one input. -/
def fsSafeWrong : ChangeSpec := { name := "fsSafe", fn := fun _ => fun
  | [d1, d2, d3, d4] => { results := [.lit (.bool false)], args := [d1, d2, d3, d4] }
  | _ => none }
def FsSafeWrongFalsely : Prop := fsSafeRow.holds Try.pinned (OpenSpec.ofChange fsSafeWrong)

/-- 'headgatelaw06.FsRenames': WHATEVER THE INPUT: true; the input reads as it did. -/
def fsRenamesSpec : ChangeSpec := { name := "fsRenames", fn := fun _ => fun
  | [d1, d2, d3, d4] => { results := [.lit (.bool true)], args := [d1, d2, d3, d4] }
  | _ => none }
def fsRenamesRow : OpenClaim := { program := "ytlmkhieojgpgcaa", sum := "76e2343520e0fa46eca3e2d304fd39f64653dcd5f7efe86566c811e2dc486904", func := "headgate/headgatelaw06.FsRenames", spec := "fsRenames", inPlace := ["maps.clone"], unfollowed := true, recurses := true, apart := false }
def FsRenamesSaid : Prop := fsRenamesRow.holds Try.pinned (OpenSpec.ofChange fsRenamesSpec)

/-- ITS FALSE NEIGHBOUR: 'it returns false'. Refute it at one input. -/
def fsRenamesWrong : ChangeSpec := { name := "fsRenames", fn := fun _ => fun
  | [d1, d2, d3, d4] => { results := [.lit (.bool false)], args := [d1, d2, d3, d4] }
  | _ => none }
def FsRenamesWrongFalsely : Prop := fsRenamesRow.holds Try.pinned (OpenSpec.ofChange fsRenamesWrong)

/-- 'headgatelaw06.FsNil': WHATEVER THE INPUT: true; the input reads as it did. -/
def fsNilSpec : ChangeSpec := { name := "fsNil", fn := fun _ => fun
  | [d] => { results := [.lit (.bool true)], args := [d] }
  | _ => none }
def fsNilRow : OpenClaim := { program := "ytlmkhieojgpgcaa", sum := "76e2343520e0fa46eca3e2d304fd39f64653dcd5f7efe86566c811e2dc486904", func := "headgate/headgatelaw06.FsNil", spec := "fsNil", inPlace := ["maps.clone"], unfollowed := true, recurses := true, apart := false }
def FsNilSaid : Prop := fsNilRow.holds Try.pinned (OpenSpec.ofChange fsNilSpec)

/-- ITS FALSE NEIGHBOUR: 'it returns false'. Refute it at one input. -/
def fsNilWrong : ChangeSpec := { name := "fsNil", fn := fun _ => fun
  | [d] => { results := [.lit (.bool false)], args := [d] }
  | _ => none }
def FsNilWrongFalsely : Prop := fsNilRow.holds Try.pinned (OpenSpec.ofChange fsNilWrong)

/-- 'headgatelaw06.FsPlain': WHATEVER THE INPUT: true; the input reads as it did. -/
def fsPlainSpec : ChangeSpec := { name := "fsPlain", fn := fun _ => fun
  | [d] => { results := [.lit (.bool true)], args := [d] }
  | _ => none }
def fsPlainRow : OpenClaim := { program := "ytlmkhieojgpgcaa", sum := "76e2343520e0fa46eca3e2d304fd39f64653dcd5f7efe86566c811e2dc486904", func := "headgate/headgatelaw06.FsPlain", spec := "fsPlain", inPlace := ["maps.clone"], unfollowed := true, recurses := true, apart := false }
def FsPlainSaid : Prop := fsPlainRow.holds Try.pinned (OpenSpec.ofChange fsPlainSpec)

/-- ITS FALSE NEIGHBOUR: 'it returns false'. Refute it at one input. -/
def fsPlainWrong : ChangeSpec := { name := "fsPlain", fn := fun _ => fun
  | [d] => { results := [.lit (.bool false)], args := [d] }
  | _ => none }
def FsPlainWrongFalsely : Prop := fsPlainRow.holds Try.pinned (OpenSpec.ofChange fsPlainWrong)

/- THE SECOND FORM. 'bulk': how many values and letters a reading holds, each counted each time it is reached (what is shared counts as often as it is met; a slice's spare places count too). A statement '..UptoSaid' is the law's where the arguments, and the package variables that the reading takes, are together of bulk at most 1048576: NARROWER than '..Said'. Prove '..Said' where nothing that the law and all that it calls make is longer than what came in: it says more and counts as full. Else prove '..UptoSaid'. A law counts once. -/
mutual
def uptoBulk {H : Type} : DataW H → Nat
  | .lit (.string bytes) => bytes.length + 1
  | .lit _ => 1
  | .nil => 1
  | .ptr d => uptoBulk d + 1
  | .slice elems spare => uptoBulkAll elems + uptoBulkAll spare + 1
  | .agg parts => uptoBulkAll parts + 1
  | .iface _ d => uptoBulk d + 1
  | .map entries => uptoBulkEntries entries + 1
  | .held _ => 1
def uptoBulkAll {H : Type} : List (DataW H) → Nat
  | [] => 0
  | d :: r => uptoBulk d + uptoBulkAll r
def uptoBulkEntries {H : Type} : List (Lit × DataW H) → Nat
  | [] => 0
  | x :: r => uptoBulkEntry x + uptoBulkEntries r
def uptoBulkEntry {H : Type} : Lit × DataW H → Nat
  | (.string bytes, d) => bytes.length + uptoBulk d + 1
  | (_, d) => uptoBulk d + 1
 end
def uptoSmall : (H : Type) → List (DataW H) → Bool := fun _ ds => decide (uptoBulkAll ds ≤ 1048576)
def OpenSpec.upto (s : _root_.Go.ChangeSpec) : _root_.Go.OpenSpec := { _root_.Go.OpenSpec.ofChange s with cond := some uptoSmall }

/-- 'headgatelaw06.FsSafe', WHERE WHAT IT READS IS OF BULK AT MOST 1048576: true; the input reads as it did. -/
def fsSafeUptoRow : OpenClaim := { program := "ytlmkhieojgpgcaa", sum := "76e2343520e0fa46eca3e2d304fd39f64653dcd5f7efe86566c811e2dc486904", func := "headgate/headgatelaw06.FsSafe", spec := "fsSafe", inPlace := ["maps.clone"], unfollowed := true, recurses := true, apart := false, narrowed := true }
def FsSafeUptoSaid : Prop := fsSafeUptoRow.holds Try.pinned (OpenSpec.upto fsSafeSpec)

/-- 'headgatelaw06.FsRenames', WHERE WHAT IT READS IS OF BULK AT MOST 1048576: true; the input reads as it did. -/
def fsRenamesUptoRow : OpenClaim := { program := "ytlmkhieojgpgcaa", sum := "76e2343520e0fa46eca3e2d304fd39f64653dcd5f7efe86566c811e2dc486904", func := "headgate/headgatelaw06.FsRenames", spec := "fsRenames", inPlace := ["maps.clone"], unfollowed := true, recurses := true, apart := false, narrowed := true }
def FsRenamesUptoSaid : Prop := fsRenamesUptoRow.holds Try.pinned (OpenSpec.upto fsRenamesSpec)

/-- 'headgatelaw06.FsNil', WHERE WHAT IT READS IS OF BULK AT MOST 1048576: true; the input reads as it did. -/
def fsNilUptoRow : OpenClaim := { program := "ytlmkhieojgpgcaa", sum := "76e2343520e0fa46eca3e2d304fd39f64653dcd5f7efe86566c811e2dc486904", func := "headgate/headgatelaw06.FsNil", spec := "fsNil", inPlace := ["maps.clone"], unfollowed := true, recurses := true, apart := false, narrowed := true }
def FsNilUptoSaid : Prop := fsNilUptoRow.holds Try.pinned (OpenSpec.upto fsNilSpec)

/-- 'headgatelaw06.FsPlain', WHERE WHAT IT READS IS OF BULK AT MOST 1048576: true; the input reads as it did. -/
def fsPlainUptoRow : OpenClaim := { program := "ytlmkhieojgpgcaa", sum := "76e2343520e0fa46eca3e2d304fd39f64653dcd5f7efe86566c811e2dc486904", func := "headgate/headgatelaw06.FsPlain", spec := "fsPlain", inPlace := ["maps.clone"], unfollowed := true, recurses := true, apart := false, narrowed := true }
def FsPlainUptoSaid : Prop := fsPlainUptoRow.holds Try.pinned (OpenSpec.upto fsPlainSpec)

end Rows
end Go.Proofs.Ytlmkhieojgpgcaa
