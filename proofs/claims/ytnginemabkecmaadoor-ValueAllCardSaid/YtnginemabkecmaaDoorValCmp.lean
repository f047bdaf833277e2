/- The walks of comparing rows. -/
import Derived.Test.YtnginemabkecmaaDoorValRows
namespace Go.Proofs.YtnginemabkecmaaDoor
open Go.ChangeShapes Go.WideShapes Go.ChangeAt Go.RowKit
set_option linter.unusedVariables false

theorem less_iff : ∀ a b : List UInt8, Op.bytesLess a b = (Lib.compareBytes a b == -1)
  | [], [] => rfl
  | [], _ :: _ => rfl
  | _ :: _, [] => rfl
  | c :: a, d :: b => by
    have ih := less_iff a b
    rw [Op.bytesLess, Lib.compareBytes]
    by_cases h1 : c < d
    · simp [h1]
    · by_cases h2 : d < c
      · have h3 : (c == d) = false := by
          rw [beq_eq_false_iff_ne]
          rintro rfl
          exact h1 h2
        simp [h1, h2, h3]
      · have h3 : c = d := by
          rw [UInt8.lt_iff_toNat_lt] at h1 h2
          exact UInt8.toNat_inj.1 (by omega)
        subst h3
        simp [h1, ih]
theorem three_bytes : ∀ a b : List UInt8, Lib.compareBytes a b = -1 ∨ Lib.compareBytes a b = 0 ∨ Lib.compareBytes a b = 1
  | [], [] => .inr (.inl rfl)
  | [], _ :: _ => .inl rfl
  | _ :: _, [] => .inr (.inr rfl)
  | c :: a, d :: b => by
    rw [Lib.compareBytes]
    split
    · exact .inl rfl
    · split
      · exact .inr (.inr rfl)
      · exact three_bytes a b
theorem zero_bytes (a b : List UInt8) : (a = b) = (Lib.compareBytes a b = 0) :=
  propext ⟨fun h => by rw [h, compareBytes_self], compareBytes_zero⟩
theorem rcmp_any (a b : V) (ha : a.wf) (hb : b.wf) (w : World) :
    Calls Tryd.prog 19 #[a.val, b.val] w fun e w' => e = .returned (.int .i64 (cmpV a b)) ∧ Below w.heap.size w w' := by
  obtain ⟨k, n, s⟩ := a
  obtain ⟨k', n', s'⟩ := b
  unfold V.val
  dsimp only
  have e : cmpV ⟨k, n, s⟩ ⟨k', n', s'⟩ = first3 (Lib.compareInt k k') (Lib.compareInt n n') (Lib.compareBytes s.data.toList s'.data.toList) := rfl
  rw [e]
  clear e
  generalize hx : Lib.compareInt k k' = x
  generalize hy : Lib.compareInt n n' = y
  generalize hz : Lib.compareBytes s.data.toList s'.data.toList = z
  have HX := Lib.hid hx
  have HY := Lib.hid hy
  have HZ := Lib.hid hz
  clear hx hy hz
  go_enter Tryd.func19, Tryd.ntmps19
  go_wp2
  all_goals go_ret
  all_goals refine ⟨ret_int ?_, ((Below.refl _ _).alloc (Nat.le_refl _) _).alloc (by simp) _⟩
  all_goals
    have h3 := three_bytes s.data.toList s'.data.toList
    rw [← HX.out, ← HY.out, ← HZ.out]
    clear HX HY HZ
    try simp only [Lib.toList_data, less_iff, zero_bytes, beq_iff_eq, beq_eq_false_iff_ne, ne_eq] at *
    generalize Lib.compareBytes s.data.toList s'.data.toList = q at *
    unfold first3 Lib.compareInt
    repeat' split
  all_goals omega
end Go.Proofs.YtnginemabkecmaaDoor
