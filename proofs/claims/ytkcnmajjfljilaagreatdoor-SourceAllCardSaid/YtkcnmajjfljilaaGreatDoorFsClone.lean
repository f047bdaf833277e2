/- bytes.Clone. -/
import Derived.Test.YtkcnmajjfljilaaGreatDoorFsMem
import Derived.Lib.SmallJoins
namespace Go.Proofs.YtkcnmajjfljilaaGreatDoor
open Go.ChangeShapes Go.WideShapes Go.ChangeAt Go.RowKit
open Go.Lib (byteCells byteCells_length byteCells_append strCells)
set_option linter.unusedVariables false
theorem BytesAt.none_ {w : World} {B : Nat} {l : List UInt8} (h : BytesAt w B none l) : l = [] := by
  cases l with
  | nil => rfl
  | cons v l => obtain ⟨b, off, e, _⟩ := h 0 (by simp); cases e
/-- Bytes in new memory, or none at all. -/
def ClonePost (l : List UInt8) (w : World) (e : Ending) (w' : World) : Prop :=
  ∃ A c, e = .returned (.slice A l.length c) ∧ Buf w.heap.size A l.length c l w' ∧ Below w.heap.size w w'
set_option maxHeartbeats 1000000 in
theorem clone_any (l : List UInt8) (len c : Nat) (A : Option Addr) (w : World) (hl : len = l.length) (hm : len ≤ 1099511627776) (B : Nat) (hB : B ≤ w.heap.size) (hr : BytesAt w B A l) :
    Calls Tryz.prog 106 #[.slice A len c] w (ClonePost l w) := by
  replace hr := hr.more hB
  cases A with
  | none =>
    obtain rfl : l = [] := hr.none_
    obtain rfl : len = 0 := hl
    clear hr
    have hnil : ∀ W, (binOp .eql 30 (.slice none 0 c) (.slice none 0 0)).run Tryz.prog W = .ok (.bool true) W := fun W => Lib.run_eql_slice_nil_nil W _ _ Tryz.underlying30
    go_enter Tryz.func106, Tryz.ntmps106
    go_wp2
    go_ret
    exact ⟨none, 0, rfl, Buf.nil _ _ (Nat.le_refl _), Below.refl _ _⟩
  | some a =>
    have HL := Lib.hid hl
    have HR := Lib.hid hr
    clear hr hl
    obtain ⟨i0, hi, hz0, hz1, hz2⟩ := info_parts infoByte
    have HI := Lib.hid hi
    have HZ0 := Lib.hid hz0
    have HZ1 := Lib.hid hz1
    have HZ2 := Lib.hid hz2
    clear hi hz0 hz1 hz2
    have hnil : ∀ W, (binOp .eql 30 (.slice (some a) len c) (.slice none 0 0)).run Tryz.prog W = .ok (.bool false) W := fun W => Lib.run_eql_slice_some_nil W _ _ _ Tryz.underlying30
    go_enter Tryz.func106, Tryz.ntmps106
    go_wp2_with (at_builtin; go_loud (refine wpList_append_own_at _ rfl _ _ 30 rfl w.heap.size 5 i0 _ 1 1 Tryz.underlying30 HI.out HZ0.out HZ1.out HZ2.out rfl (by decide) _ 0 [] rfl (World.ownsRow_made w #[] 0 (Nat.le_refl _) (by decide) rfl) a len c (byteCells l) rfl (by rw [byteCells_length, HL.out, Nat.mul_one]) ((HR.out.below ((Below.refl _ w).alloc (Nat.le_refl _) _)).some_) (byte_one _) (by unfold maxLen; omega) (by omega) (by simp) ?_); intro v1 w1 hown hg _ _; have HO := Lib.hid hown; have HG := Lib.hid hg; clear hown hg)
    go_ret
    have hn := HL.out
    subst hn
    obtain ⟨A', c', rfl⟩ := own_slice HO.out
    have hbel := ((Below.refl _ w).alloc (Nat.le_refl _) (.cells #[] 5)).grown HG.out (by simp) (fun k e => by cases e; exact Nat.le_refl _)
    refine ⟨A', c', by simp, ⟨rfl, hbel.size, by simpa using HO.out⟩, hbel⟩
end Go.Proofs.YtkcnmajjfljilaaGreatDoor
