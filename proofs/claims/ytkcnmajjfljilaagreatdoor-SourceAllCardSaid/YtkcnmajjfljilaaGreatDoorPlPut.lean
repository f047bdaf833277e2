/- What a seat needs of several texts. -/
import Derived.Test.YtkcnmajjfljilaaGreatDoorPlB
/- From PlPut. -/
namespace Go.Proofs.YtkcnmajjfljilaaGreatDoor
open Go.ChangeShapes Go.WideShapes Go.ChangeAt Go.RowKit Go.ChangeMaps Go.MapKept
open Go.Lib (byteCells byteCells_length byteCells_append strCells)
set_option linter.unusedVariables false
theorem own_caps {w : World} {B n c sz : Nat} {t : TypeId} {A : Option Addr} {xs : List Value} (h : w.ownsRow B t sz (.slice A n c) n xs) : n ≤ c ∧ c ≤ maxLen := by
  rcases h.2 with ⟨hx, hy⟩ | ⟨g, cap, cur, hx, _, _, h1, h2, _⟩
  · injection hx with _ h1 h2
    subst h1; subst h2
    exact ⟨Nat.le_refl _, by decide⟩
  · injection hx with _ _ h3
    subst h3
    exact ⟨h1, h2⟩
/-- Bytes in new memory, which is kept from now on. -/
theorem Buf.turn {Kp : Nat → Prop} {B B0 n c : Nat} {A : Option Addr} {bs : List UInt8} {w W : World} (h : Buf B0 A n c bs w) (k : Turn (With Kp B0 w.heap.size) B w W) : Buf B0 A n c bs W :=
  ⟨h.1, Nat.le_trans h.2.1 k.size, own_ch h.2.2 k.ch fun b hb hn => by
    obtain ⟨d, hd, hB⟩ := own_cells h.2.2 hb
    exact hn (.inr ⟨hB, hd.lt⟩)⟩
section
variable {Kp : Nat → Prop} {B f : Nat} {s : Fs} {w : World}
def oneB (l : List UInt8) : Option (List UInt8) := match fst l with | some x => if 8 + x.length = l.length then some x else none | none => none
def oneE : Option (List UInt8) → Int
  | some _ => 0
  | none => 70
def oneL : Option (List UInt8) → List UInt8
  | some x => x
  | none => []
def getE (s : Fs) (dir name : Nm) : Int := if lfE s dir name [] = 0 then oneE (oneB (readB s dir name)) else lfE s dir name []
def getB (s : Fs) (dir name : Nm) : List UInt8 := if lfE s dir name [] = 0 then oneL (oneB (readB s dir name)) else []
theorem readB_len {K : Nat} (wf : WfK K s) (dir name : Nm) : (readB s dir name).length ≤ 16777216 := by
  unfold readB
  split
  · exact (wf.bytes _).1
  · simp
theorem OnePost.ways {l : List UInt8} {w w' : World} {e : Ending} (h : OnePost l w e w') : Below w.heap.size w w' ∧ ((∃ x A c, oneB l = some x ∧ e = .returned (.tuple #[.slice A x.length c, .int .i64 0]) ∧ Buf w.heap.size A x.length c x w') ∨ (oneB l = none ∧ e = .returned (.tuple #[.slice none 0 0, .int .i64 52]))) := by
  obtain ⟨hb, ⟨x, A, c, h1, h2, h3, h4⟩ | ⟨h1, h2⟩⟩ := h
  · exact ⟨hb, .inl ⟨x, A, c, by unfold oneB; rw [h1]; simp [h2], h3, h4⟩⟩
  · refine ⟨hb, .inr ⟨?_, h2⟩⟩
    unfold oneB
    cases hf : fst l with
    | none => rfl
    | some x => simp [h1 x hf]
end
end Go.Proofs.YtkcnmajjfljilaaGreatDoor
