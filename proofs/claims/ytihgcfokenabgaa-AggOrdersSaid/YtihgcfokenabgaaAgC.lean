/- What a seat needs of several texts. -/
import Derived.Test.YtihgcfokenabgaaDecVal
import Derived.Shelf.Small.Strs
import Derived.Test.YtihgcfokenabgaaProg
/- From DecW1. -/
namespace Go.Proofs.Ytihgcfokenabgaa
open Go.ChangeShapes Go.WideShapes Go.ChangeAt Go.RowKit
set_option linter.unusedVariables false
end Go.Proofs.Ytihgcfokenabgaa
/- From ExShelf. -/
namespace Go.Proofs
open Go.Shelf
def Try.lays106_ren : Go.Shelf.Ren := ⟨fun | 106 => 56 | 213 => 59 | 265 => 60 | n => n, fun | 9 => 9 | 3 => 3 | n => n, fun | n => n⟩
theorem Try.lays106 : Go.Proofs.Lays.n106 Try.prog Try.lays106_ren := {
  mixed := by kernel_rfl
  f106 := Try.func56.trans (congrArg some (by kernel_rfl))
  f213 := Try.func59.trans (congrArg some (by kernel_rfl))
  f265 := Try.func60.trans (congrArg some (by kernel_rfl))
  t3 := Try.underlying3
  a3 := Try.isAgg3
  z3 := Try.sizeOf3
  v3 := Try.zeroValue3
  t9 := Try.underlying9
  a9 := Try.isAgg9
  z9 := Try.sizeOf9
  v9 := Try.zeroValue9 }
open Go.RowKit in
theorem Try.strings_Compare (a b : ByteArray) (w : World) :
    Calls Try.prog 56 #[.string a, .string b] w fun e w' => e = .returned (.int .i64 (Lib.compareBytes a.data.toList b.data.toList)) ∧ w' = w := Any.strings_Compare Try.lays106 a b w
end Go.Proofs
/- From ExCmp. -/
namespace Go.Proofs.Ytihgcfokenabgaa
open Go.ChangeShapes Go.WideShapes Go.ChangeAt Go.RowKit
set_option linter.unusedVariables false
theorem isNaN64_any (x : Int) (w : World) : Calls Try.prog 58 #[.int .i64 x] w fun e w' => e = .returned (.bool false) ∧ w = w' := by
  have h1 : (x == x) = true := by simp
  have h2 : (x != x) = false := by simp
  go_enter Try.func58, Try.ntmps58
  go_wp2
  go_ret
  exact ⟨rfl, rfl⟩
theorem cmp64_any (x y : Int) (w : World) : Calls Try.prog 55 #[.int .i64 x, .int .i64 y] w fun e w' => e = .returned (.int .i64 (Lib.compareInt x y)) ∧ w = w' := by
  rcases Int.lt_trichotomy x y with h | h | h
  · have e : Lib.compareInt x y = -1 := if_pos h
    rw [e]
    have h1 : decide (x < y) = true := decide_eq_true h
    go_enter Try.func55, Try.ntmps55
    go_wp2_with (go_at_call 58; refine (isNaN64_any _ _).mono ?_; rintro e w' ⟨rfl, rfl⟩)
    go_ret
    exact ⟨rfl, rfl⟩
  · subst h
    have e : Lib.compareInt x x = 0 := by simp [Lib.compareInt]
    rw [e]
    have h1 : decide (x < x) = false := decide_eq_false (by omega)
    go_enter Try.func55, Try.ntmps55
    go_wp2_with (go_at_call 58; refine (isNaN64_any _ _).mono ?_; rintro e w' ⟨rfl, rfl⟩)
    go_ret
    exact ⟨rfl, rfl⟩
  · have e : Lib.compareInt x y = 1 := by unfold Lib.compareInt; rw [if_neg (by omega), if_pos h]
    rw [e]
    have h1 : decide (x < y) = false := decide_eq_false (by omega)
    have h2 : decide (y < x) = true := decide_eq_true h
    go_enter Try.func55, Try.ntmps55
    go_wp2_with (go_at_call 58; refine (isNaN64_any _ _).mono ?_; rintro e w' ⟨rfl, rfl⟩)
    go_ret
    exact ⟨rfl, rfl⟩
theorem isNaN_any (x : Int) (w : World) : Calls Try.prog 57 #[.int .i64 x] w fun e w' => e = .returned (.bool false) ∧ w = w' := by
  have h1 : (x == x) = true := by simp
  have h2 : (x != x) = false := by simp
  go_enter Try.func57, Try.ntmps57
  go_wp2
  go_ret
  exact ⟨rfl, rfl⟩
theorem cmpint_any (x y : Int) (w : World) : Calls Try.prog 54 #[.int .i64 x, .int .i64 y] w fun e w' => e = .returned (.int .i64 (Lib.compareInt x y)) ∧ w = w' := by
  rcases Int.lt_trichotomy x y with h | h | h
  · have e : Lib.compareInt x y = -1 := if_pos h
    rw [e]
    have h1 : decide (x < y) = true := decide_eq_true h
    go_enter Try.func54, Try.ntmps54
    go_wp2_with (go_at_call 57; refine (isNaN_any _ _).mono ?_; rintro e w' ⟨rfl, rfl⟩)
    go_ret
    exact ⟨rfl, rfl⟩
  · subst h
    have e : Lib.compareInt x x = 0 := by simp [Lib.compareInt]
    rw [e]
    have h1 : decide (x < x) = false := decide_eq_false (by omega)
    go_enter Try.func54, Try.ntmps54
    go_wp2_with (go_at_call 57; refine (isNaN_any _ _).mono ?_; rintro e w' ⟨rfl, rfl⟩)
    go_ret
    exact ⟨rfl, rfl⟩
  · have e : Lib.compareInt x y = 1 := by unfold Lib.compareInt; rw [if_neg (by omega), if_pos h]
    rw [e]
    have h1 : decide (x < y) = false := decide_eq_false (by omega)
    have h2 : decide (y < x) = true := decide_eq_true h
    go_enter Try.func54, Try.ntmps54
    go_wp2_with (go_at_call 57; refine (isNaN_any _ _).mono ?_; rintro e w' ⟨rfl, rfl⟩)
    go_ret
    exact ⟨rfl, rfl⟩
theorem strcmp_any (a b : ByteArray) (w : World) : Calls Try.prog 56 #[.string a, .string b] w fun e w' => e = .returned (.int .i64 (Lib.compareBytes a.data.toList b.data.toList)) ∧ w = w' :=
  (Try.strings_Compare a b w).mono fun e w' ⟨h1, h2⟩ => ⟨h1, h2.symm⟩
theorem or_any (a b c : Int) (g off cap : Nat) (w : World) (h0 : w.cell? ⟨g, off, none⟩ = some (.int .i64 a)) (h1 : w.cell? ⟨g, off + 1, none⟩ = some (.int .i64 b)) (h2 : w.cell? ⟨g, off + 2, none⟩ = some (.int .i64 c)) :
    Calls Try.prog 53 #[.slice (some ⟨g, off, none⟩) 3 cap] w fun e w' => e = .returned (.int .i64 (first3 a b c)) ∧ w = w' := by
  by_cases ha : a = 0
  · have e1 : (a != 0) = false := by simp [ha]
    have e2 : (a == 0) = true := by simp [ha]
    by_cases hb : b = 0
    · have e3 : (b != 0) = false := by simp [hb]
      have e4 : (b == 0) = true := by simp [hb]
      have e : first3 a b c = c := by unfold first3; rw [if_neg (by simpa using ha), if_neg (by simpa using hb)]
      rw [e]
      clear ha hb e
      by_cases hc : c = 0
      · subst hc
        go_enter Try.func53, Try.ntmps53
        go_wp2
        refine wp_loop_rounds 4 ?_
        iterate 3 (rw [rounds_succ]; go_wp2)
        rw [rounds_succ]
        go_wp2
        go_ret
        exact ⟨rfl, rfl⟩
      · have e5 : (c != 0) = true := by simpa using hc
        have e6 : (c == 0) = false := by simpa using hc
        go_enter Try.func53, Try.ntmps53
        go_wp2
        refine wp_loop_rounds 4 ?_
        iterate 3 (rw [rounds_succ]; go_wp2)
        go_ret
        exact ⟨rfl, rfl⟩
    · have e3 : (b != 0) = true := by simpa using hb
      have e4 : (b == 0) = false := by simpa using hb
      have e : first3 a b c = b := by unfold first3; rw [if_neg (by simpa using ha), if_pos hb]
      rw [e]
      clear ha e
      go_enter Try.func53, Try.ntmps53
      go_wp2
      refine wp_loop_rounds 4 ?_
      iterate 2 (rw [rounds_succ]; go_wp2)
      go_ret
      exact ⟨rfl, rfl⟩
  · have e1 : (a != 0) = true := by simpa using ha
    have e2 : (a == 0) = false := by simpa using ha
    have e : first3 a b c = a := if_pos ha
    rw [e]
    clear e
    go_enter Try.func53, Try.ntmps53
    go_wp2
    refine wp_loop_rounds 4 ?_
    rw [rounds_succ]
    go_wp2
    go_ret
    exact ⟨rfl, rfl⟩
set_option maxHeartbeats 2000000 in
theorem cmp_any (a b : V) (ha : a.wf) (hb : b.wf) (w : World) :
    Calls Try.prog 52 #[a.val, b.val] w fun e w' => e = .returned (.int .i64 (cmpV a b)) ∧ Below w.heap.size w w' := by
  obtain ⟨k, n, s⟩ := a
  obtain ⟨k', n', s'⟩ := b
  unfold V.val
  dsimp only
  have e : cmpV ⟨k, n, s⟩ ⟨k', n', s'⟩ = first3 (Lib.compareInt k k') (Lib.compareInt n n') (Lib.compareBytes s.data.toList s'.data.toList) := rfl
  rw [e]
  clear e
  generalize hx : Lib.compareInt k k' = x
  generalize hy : Lib.compareInt n n' = y
  generalize hz : Lib.compareBytes s.data.toList s'.data.toList = z
  have HX := Lib.hid hx
  have HY := Lib.hid hy
  have HZ := Lib.hid hz
  clear hx hy hz
  go_enter Try.func52, Try.ntmps52
  go_wp2_with fail
  go_region_held3 (fun w' => w'.cell? ⟨w.heap.size, 0, none⟩ = some (.int .i64 k) ∧ w'.cell? ⟨w.heap.size, 1, none⟩ = some (.int .i64 n) ∧ w'.cell? ⟨w.heap.size, 2, none⟩ = some (.string s) ∧
      w'.cell? ⟨w.heap.size + 1, 0, none⟩ = some (.int .i64 k') ∧ w'.cell? ⟨w.heap.size + 1, 1, none⟩ = some (.int .i64 n') ∧ w'.cell? ⟨w.heap.size + 1, 2, none⟩ = some (.string s')) (go_keep)
    (first | (go_at_call 54; refine (cmpint_any _ _ _).mono ?_; rintro e w' ⟨rfl, rfl⟩; rw [HX.out]) | (go_at_call 55; refine (cmp64_any _ _ _).mono ?_; rintro e w' ⟨rfl, rfl⟩; rw [HY.out]) | (go_at_call 56; refine (strcmp_any _ _ _).mono ?_; rintro e w' ⟨rfl, rfl⟩; rw [HZ.out]) | (go_at_call 53; refine (or_any x y z _ 0 3 _ (by simp [go_sem]) (by simp [go_sem]) (by simp [go_sem])).mono ?_; rintro e w' ⟨rfl, rfl⟩))
  go_wp2
  go_ret
  exact ⟨rfl, ((((Below.refl _ _).alloc (Nat.le_refl _) _).alloc (by simp) _).alloc (by simp; omega) _).drew⟩
end Go.Proofs.Ytihgcfokenabgaa
