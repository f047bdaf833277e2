/- Layer 17: what a caller's rounds leave. -/
import Derived.Test.YtmeoednndfgffaaTaC
import Derived.Test.YtmeoednndfgffaaTbM
import Derived.Test.YtmeoednndfgffaaRegI
namespace Go.Proofs.Ytmeoednndfgffaa
open Go Go.ChangeShapes Go.WideShapes Go.ChangeAt Go.RowKit
set_option linter.unusedVariables false
theorem grown_below {U V : World} (h : Below U.heap.size U V) : U.grownBy V none := ⟨h.os, h.tape, h.output, h.size, fun k hk _ => h.block k hk⟩
/-- The next pair. -/
def NextT {α : Type} (l : List (KV α)) (pre : List (KV α)) (x : KV α) (_ : World) : Prop := l[pre.length]? = some x
/-- A tree has been gone over, or the caller has left. -/
def WkPost {α : Type} (J Jx : List (KV α) → World → Prop) (T : Nat → Prop) (pre l : List (KV α)) (U : World) (e : Ending) (V : World) : Prop :=
  (e = .returned (.bool true) ∧ J (pre ++ l) V ∧ Ks T U V) ∨ (e = .returned (.bool false) ∧ (∃ p, Jx p V) ∧ Ks T U V)
theorem TrAt.ks {α : Type} {ty : TypeId} {enc : α → Value} {T : Nat → Prop} {U V : World} {v : Value} {l : List (KV α)} (h : TrAt ty enc T U v l) (hk : Ks T U V) : TrAt ty enc T V v l := h.stay fun k hs hl => hk.2 k hs hl
theorem NextT.at_ {α : Type} {l pre post : List (KV α)} {x : KV α} {U : World} (h : l = pre ++ x :: post) : NextT l pre x U := by
  unfold NextT
  rw [h, List.getElem?_append_right (Nat.le_refl _), Nat.sub_self]
  rfl
end Go.Proofs.Ytmeoednndfgffaa
