/- The walks of package num: the chapter's examples; the statements of layer one but those that ask the document's own answers. -/
import Derived.Test.YtnfffkppgfokcaaRows
import Derived.Test.YtnfffkppgfokcaaNumWalks5
import Derived.Lib.Mul64
import Derived.Laws.Bits64b
import Derived.WalkKit
import Derived.WalkLawsBesides
import Derived.WalkSpells
import Derived.ProofKit
import Derived.Below
import Derived.Outline
import Derived.Lib.Hide
import Derived.Laws.Externs
import Derived.BigQuiet
import Derived.Deep.QuietTactic
import Derived.Deep.RegionWith
import Derived.Deep.RegionHeld3
namespace Go.Proofs.Ytnfffkppgfokcaa
open Go.ChangeShapes Go.WideShapes Go.ChangeAt Go.RowKit





theorem sum_top : (Value.agg #[.int .i64 0, .int .u64 9223372036854775807]) = SumV 9223372036854775807 := by
  unfold SumV hiZ loZ
  rw [IntKind.wrap_i64]
  rfl
theorem alive_any (w : World) :
    Calls Try.prog 10 #[] w fun e w' => e = .returned (.bool true) ∧ Below w.heap.size w w' := by
  go_enter Try.func10, Try.ntmps10
  go_wp2_with fail
  refine (do_div (-7) 2 (by unfold In64; omega) (by omega) (by omega) _).mono ?_
  rintro e w1 ⟨rfl, rfl⟩
  go_wp2_with fail
  refine (floor_any (-7) 2 (by unfold In64; omega) (by omega) _).mono ?_
  rintro e w1 ⟨rfl, rfl⟩
  go_wp2_with fail
  rw [sum_top]
  refine (add_any 9223372036854775807 1 (by unfold In64; omega) _).mono ?_
  rintro e w1 ⟨rfl, hb⟩
  go_wp2_with fail
  refine (int_no 9223372036854775808 (by unfold In128; omega) (by unfold In64; omega) _).mono ?_
  rintro e w2 ⟨rfl, hb2⟩
  go_wp2
  go_ret
  exact ⟨rfl, hb.trans (hb2.mono hb.size)⟩

theorem rest_walk (a b : Int) (ha : In64 a) (hb64 : In64 b) (w : World) :
    Calls Try.prog 5 #[.int .i64 a, .int .i64 b] w fun e w' => e = .returned (.bool true) ∧ Below w.heap.size w w' := by
  by_cases h : b < 1
  · go_enter Try.func5, Try.ntmps5
    go_wp2_with fail
    refine (alive_any _).mono ?_
    rintro e w1 ⟨rfl, hb⟩
    go_wp2_with fail
    refine (floor_arg a b h _).mono ?_
    rintro e w2 ⟨rfl, rfl⟩
    go_wp2
    go_ret
    exact ⟨rfl, hb⟩
  · have F := Lib.hid (fun W => floor_any a b ha (by omega) W)
    have R := Lib.hid (rest_lt (a := a) (b := b) (by omega) hb64)
    go_enter Try.func5, Try.ntmps5
    go_wp2_with fail
    refine (alive_any _).mono ?_
    rintro e w1 ⟨rfl, hb⟩
    go_wp2_with fail
    refine (F.out _).mono ?_
    rintro e w2 ⟨rfl, rfl⟩
    go_wp2
    go_ret
    exact ⟨by simp [R.out], hb⟩

theorem do_add_yes (a b c : Int) (ha : In64 a) (hb : In64 b) (hc : a + b = c) (h : In64 c) (w : World) :
    Calls Try.prog 11 #[.int .i64 4, .int .i64 a, .int .i64 b] w fun e w' => e = .returned (.tuple #[.int .i64 c, .int .i64 0]) ∧ Below w.heap.size w w' := by
  subst hc
  have := do_add a b ha hb w
  rwa [wholeN_yes h, wholeE_yes h] at this
theorem do_add_no (a b : Int) (ha : In64 a) (hb : In64 b) (h : ¬ In64 (a + b)) (w : World) :
    Calls Try.prog 11 #[.int .i64 4, .int .i64 a, .int .i64 b] w fun e w' => e = .returned (.tuple #[.int .i64 0, .int .i64 10]) ∧ Below w.heap.size w w' := by
  have := do_add a b ha hb w
  rwa [wholeN_no h, wholeE_no h] at this
theorem do_sub_yes (a b c : Int) (ha : In64 a) (hb : In64 b) (hc : a - b = c) (h : In64 c) (w : World) :
    Calls Try.prog 11 #[.int .i64 5, .int .i64 a, .int .i64 b] w fun e w' => e = .returned (.tuple #[.int .i64 c, .int .i64 0]) ∧ Below w.heap.size w w' := by
  subst hc
  have := do_sub a b ha hb w
  rwa [wholeN_yes h, wholeE_yes h] at this
theorem do_mul_yes (a b c : Int) (ha : In64 a) (hb : In64 b) (hc : a * b = c) (h : In64 c) (w : World) :
    Calls Try.prog 11 #[.int .i64 6, .int .i64 a, .int .i64 b] w fun e w' => e = .returned (.tuple #[.int .i64 c, .int .i64 0]) ∧ Below w.heap.size w w' := by
  subst hc
  have := do_mul a b ha hb w
  rwa [wholeN_yes h, wholeE_yes h] at this

set_option maxHeartbeats 1000000 in
theorem back_yes0 (a c : Int) 
    (A1 : Hid (∀ W, Calls Try.prog 11 #[.int .i64 4, .int .i64 a, .int .i64 0] W fun e w' => e = .returned (.tuple #[.int .i64 c, .int .i64 0]) ∧ Below W.heap.size W w'))
    (A2 : Hid (∀ W, Calls Try.prog 11 #[.int .i64 5, .int .i64 c, .int .i64 0] W fun e w' => e = .returned (.tuple #[.int .i64 a, .int .i64 0]) ∧ Below W.heap.size W w')) (w : World) :
    Calls Try.prog 6 #[.int .i64 a, .int .i64 0] w fun e w' => e = .returned (.bool true) ∧ Below w.heap.size w w' := by
  go_enter Try.func6, Try.ntmps6
  go_wp2_with fail
  refine (alive_any _).mono ?_
  rintro e w1 ⟨rfl, hb1⟩
  go_wp2_with fail
  refine (A1.out _).mono ?_
  rintro e w2 ⟨rfl, hb2⟩
  go_wp2_with fail
  refine (A2.out _).mono ?_
  rintro e w3 ⟨rfl, hb3⟩
  have H3 : Below w.heap.size w w3 := (hb1.trans (hb2.mono hb1.size)).trans (hb3.mono (Nat.le_trans hb1.size hb2.size))
  clear hb1 hb2 hb3
  go_wp2_with fail
  refine (do_div0 _ _).mono ?_
  rintro e w4 ⟨rfl, rfl⟩
  go_wp2_with fail
  refine (do_rem0 _ _).mono ?_
  rintro e w4 ⟨rfl, rfl⟩
  go_wp2
  go_ret
  exact ⟨rfl, H3⟩

set_option maxHeartbeats 1000000 in
theorem back_yes (a b c : Int) 
    (A1 : Hid (∀ W, Calls Try.prog 11 #[.int .i64 4, .int .i64 a, .int .i64 b] W fun e w' => e = .returned (.tuple #[.int .i64 c, .int .i64 0]) ∧ Below W.heap.size W w'))
    (A2 : Hid (∀ W, Calls Try.prog 11 #[.int .i64 5, .int .i64 c, .int .i64 b] W fun e w' => e = .returned (.tuple #[.int .i64 a, .int .i64 0]) ∧ Below W.heap.size W w')) (q r m : Int)
    (D : Hid (∀ W, Calls Try.prog 11 #[.int .i64 7, .int .i64 a, .int .i64 b] W fun e w' => e = .returned (.tuple #[.int .i64 q, .int .i64 0]) ∧ W = w'))
    (R : Hid (∀ W, Calls Try.prog 11 #[.int .i64 8, .int .i64 a, .int .i64 b] W fun e w' => e = .returned (.tuple #[.int .i64 r, .int .i64 0]) ∧ W = w'))
    (M : Hid (∀ W, Calls Try.prog 11 #[.int .i64 6, .int .i64 q, .int .i64 b] W fun e w' => e = .returned (.tuple #[.int .i64 m, .int .i64 0]) ∧ Below W.heap.size W w'))
    (A3 : Hid (∀ W, Calls Try.prog 11 #[.int .i64 4, .int .i64 m, .int .i64 r] W fun e w' => e = .returned (.tuple #[.int .i64 a, .int .i64 0]) ∧ Below W.heap.size W w'))
    (hr : r ≠ 0 → (r < 0 ↔ a < 0)) (w : World) :
    Calls Try.prog 6 #[.int .i64 a, .int .i64 b] w fun e w' => e = .returned (.bool true) ∧ Below w.heap.size w w' := by
  have hz : (r == 0) = true ∨ ((r == 0) = false ∧ ((decide (r < 0) = true ∧ decide (a < 0) = true) ∨ (decide (r < 0) = false ∧ decide (a < 0) = false))) := by
    by_cases h : r = 0
    · left; simp [h]
    · right; refine ⟨by simp [h], ?_⟩; have := hr h; by_cases h2 : r < 0
      · left; simp [h2, this.1 h2]
      · right; simp; exact ⟨by omega, by omega⟩
  clear hr
  rcases hz with g | ⟨g, ⟨g1, g2⟩ | ⟨g1, g2⟩⟩
  · skip
    go_enter Try.func6, Try.ntmps6
    go_wp2_with fail
    refine (alive_any _).mono ?_
    rintro e w1 ⟨rfl, hb1⟩
    go_wp2_with fail
    refine (A1.out _).mono ?_
    rintro e w2 ⟨rfl, hb2⟩
    go_wp2_with fail
    refine (A2.out _).mono ?_
    rintro e w3 ⟨rfl, hb3⟩
    have H3 : Below w.heap.size w w3 := (hb1.trans (hb2.mono hb1.size)).trans (hb3.mono (Nat.le_trans hb1.size hb2.size))
    clear hb1 hb2 hb3
    go_wp2_with fail
    refine (D.out _).mono ?_
    rintro e w4 ⟨rfl, rfl⟩
    go_wp2_with fail
    refine (R.out _).mono ?_
    rintro e w4 ⟨rfl, rfl⟩
    go_wp2_with fail
    refine (M.out _).mono ?_
    rintro e w5 ⟨rfl, hb5⟩
    go_wp2_with fail
    refine (A3.out _).mono ?_
    rintro e w6 ⟨rfl, hb6⟩
    have H6 := (H3.trans (hb5.mono H3.size)).trans (hb6.mono (Nat.le_trans H3.size hb5.size))
    clear H3 hb5 hb6
    go_wp2
    all_goals (go_ret; exact ⟨by simp [*], H6⟩)
  · skip
    go_enter Try.func6, Try.ntmps6
    go_wp2_with fail
    refine (alive_any _).mono ?_
    rintro e w1 ⟨rfl, hb1⟩
    go_wp2_with fail
    refine (A1.out _).mono ?_
    rintro e w2 ⟨rfl, hb2⟩
    go_wp2_with fail
    refine (A2.out _).mono ?_
    rintro e w3 ⟨rfl, hb3⟩
    have H3 : Below w.heap.size w w3 := (hb1.trans (hb2.mono hb1.size)).trans (hb3.mono (Nat.le_trans hb1.size hb2.size))
    clear hb1 hb2 hb3
    go_wp2_with fail
    refine (D.out _).mono ?_
    rintro e w4 ⟨rfl, rfl⟩
    go_wp2_with fail
    refine (R.out _).mono ?_
    rintro e w4 ⟨rfl, rfl⟩
    go_wp2_with fail
    refine (M.out _).mono ?_
    rintro e w5 ⟨rfl, hb5⟩
    go_wp2_with fail
    refine (A3.out _).mono ?_
    rintro e w6 ⟨rfl, hb6⟩
    have H6 := (H3.trans (hb5.mono H3.size)).trans (hb6.mono (Nat.le_trans H3.size hb5.size))
    clear H3 hb5 hb6
    go_wp2
    all_goals (go_ret; exact ⟨by simp [*], H6⟩)
  · skip
    go_enter Try.func6, Try.ntmps6
    go_wp2_with fail
    refine (alive_any _).mono ?_
    rintro e w1 ⟨rfl, hb1⟩
    go_wp2_with fail
    refine (A1.out _).mono ?_
    rintro e w2 ⟨rfl, hb2⟩
    go_wp2_with fail
    refine (A2.out _).mono ?_
    rintro e w3 ⟨rfl, hb3⟩
    have H3 : Below w.heap.size w w3 := (hb1.trans (hb2.mono hb1.size)).trans (hb3.mono (Nat.le_trans hb1.size hb2.size))
    clear hb1 hb2 hb3
    go_wp2_with fail
    refine (D.out _).mono ?_
    rintro e w4 ⟨rfl, rfl⟩
    go_wp2_with fail
    refine (R.out _).mono ?_
    rintro e w4 ⟨rfl, rfl⟩
    go_wp2_with fail
    refine (M.out _).mono ?_
    rintro e w5 ⟨rfl, hb5⟩
    go_wp2_with fail
    refine (A3.out _).mono ?_
    rintro e w6 ⟨rfl, hb6⟩
    have H6 := (H3.trans (hb5.mono H3.size)).trans (hb6.mono (Nat.le_trans H3.size hb5.size))
    clear H3 hb5 hb6
    go_wp2
    all_goals (go_ret; exact ⟨by simp [*], H6⟩)

set_option maxHeartbeats 1000000 in
theorem back_no0 (a : Int) 
    (A1 : Hid (∀ W, Calls Try.prog 11 #[.int .i64 4, .int .i64 a, .int .i64 0] W fun e w' => e = .returned (.tuple #[.int .i64 0, .int .i64 10]) ∧ Below W.heap.size W w')) (w : World) :
    Calls Try.prog 6 #[.int .i64 a, .int .i64 0] w fun e w' => e = .returned (.bool true) ∧ Below w.heap.size w w' := by
  go_enter Try.func6, Try.ntmps6
  go_wp2_with fail
  refine (alive_any _).mono ?_
  rintro e w1 ⟨rfl, hb1⟩
  go_wp2_with fail
  refine (A1.out _).mono ?_
  rintro e w3 ⟨rfl, hb2⟩
  have H3 : Below w.heap.size w w3 := (hb1.trans (hb2.mono hb1.size))
  clear hb1 hb2
  go_wp2_with fail
  refine (do_div0 _ _).mono ?_
  rintro e w4 ⟨rfl, rfl⟩
  go_wp2_with fail
  refine (do_rem0 _ _).mono ?_
  rintro e w4 ⟨rfl, rfl⟩
  go_wp2
  go_ret
  exact ⟨rfl, H3⟩

set_option maxHeartbeats 1000000 in
theorem back_noL 
    (A1 : Hid (∀ W, Calls Try.prog 11 #[.int .i64 4, .int .i64 (-9223372036854775808), .int .i64 (-1)] W fun e w' => e = .returned (.tuple #[.int .i64 0, .int .i64 10]) ∧ Below W.heap.size W w')) (w : World) :
    Calls Try.prog 6 #[.int .i64 (-9223372036854775808), .int .i64 (-1)] w fun e w' => e = .returned (.bool true) ∧ Below w.heap.size w w' := by
  go_enter Try.func6, Try.ntmps6
  go_wp2_with fail
  refine (alive_any _).mono ?_
  rintro e w1 ⟨rfl, hb1⟩
  go_wp2_with fail
  refine (A1.out _).mono ?_
  rintro e w3 ⟨rfl, hb2⟩
  have H3 : Below w.heap.size w w3 := (hb1.trans (hb2.mono hb1.size))
  clear hb1 hb2
  go_wp2_with fail
  refine (do_divL _).mono ?_
  rintro e w4 ⟨rfl, rfl⟩
  go_wp2_with fail
  refine (do_rem _ _ (by decide) _).mono ?_
  rintro e w4 ⟨rfl, rfl⟩
  go_wp2
  go_ret
  exact ⟨rfl, H3⟩

set_option maxHeartbeats 1000000 in
theorem back_no (a b : Int) 
    (A1 : Hid (∀ W, Calls Try.prog 11 #[.int .i64 4, .int .i64 a, .int .i64 b] W fun e w' => e = .returned (.tuple #[.int .i64 0, .int .i64 10]) ∧ Below W.heap.size W w')) (q r m : Int)
    (D : Hid (∀ W, Calls Try.prog 11 #[.int .i64 7, .int .i64 a, .int .i64 b] W fun e w' => e = .returned (.tuple #[.int .i64 q, .int .i64 0]) ∧ W = w'))
    (R : Hid (∀ W, Calls Try.prog 11 #[.int .i64 8, .int .i64 a, .int .i64 b] W fun e w' => e = .returned (.tuple #[.int .i64 r, .int .i64 0]) ∧ W = w'))
    (M : Hid (∀ W, Calls Try.prog 11 #[.int .i64 6, .int .i64 q, .int .i64 b] W fun e w' => e = .returned (.tuple #[.int .i64 m, .int .i64 0]) ∧ Below W.heap.size W w'))
    (A3 : Hid (∀ W, Calls Try.prog 11 #[.int .i64 4, .int .i64 m, .int .i64 r] W fun e w' => e = .returned (.tuple #[.int .i64 a, .int .i64 0]) ∧ Below W.heap.size W w'))
    (hr : r ≠ 0 → (r < 0 ↔ a < 0)) (w : World) :
    Calls Try.prog 6 #[.int .i64 a, .int .i64 b] w fun e w' => e = .returned (.bool true) ∧ Below w.heap.size w w' := by
  have hz : (r == 0) = true ∨ ((r == 0) = false ∧ ((decide (r < 0) = true ∧ decide (a < 0) = true) ∨ (decide (r < 0) = false ∧ decide (a < 0) = false))) := by
    by_cases h : r = 0
    · left; simp [h]
    · right; refine ⟨by simp [h], ?_⟩; have := hr h; by_cases h2 : r < 0
      · left; simp [h2, this.1 h2]
      · right; simp; exact ⟨by omega, by omega⟩
  clear hr
  rcases hz with g | ⟨g, ⟨g1, g2⟩ | ⟨g1, g2⟩⟩
  · skip
    go_enter Try.func6, Try.ntmps6
    go_wp2_with fail
    refine (alive_any _).mono ?_
    rintro e w1 ⟨rfl, hb1⟩
    go_wp2_with fail
    refine (A1.out _).mono ?_
    rintro e w3 ⟨rfl, hb2⟩
    have H3 : Below w.heap.size w w3 := (hb1.trans (hb2.mono hb1.size))
    clear hb1 hb2
    go_wp2_with fail
    refine (D.out _).mono ?_
    rintro e w4 ⟨rfl, rfl⟩
    go_wp2_with fail
    refine (R.out _).mono ?_
    rintro e w4 ⟨rfl, rfl⟩
    go_wp2_with fail
    refine (M.out _).mono ?_
    rintro e w5 ⟨rfl, hb5⟩
    go_wp2_with fail
    refine (A3.out _).mono ?_
    rintro e w6 ⟨rfl, hb6⟩
    have H6 := (H3.trans (hb5.mono H3.size)).trans (hb6.mono (Nat.le_trans H3.size hb5.size))
    clear H3 hb5 hb6
    go_wp2
    all_goals (go_ret; exact ⟨by simp [*], H6⟩)
  · skip
    go_enter Try.func6, Try.ntmps6
    go_wp2_with fail
    refine (alive_any _).mono ?_
    rintro e w1 ⟨rfl, hb1⟩
    go_wp2_with fail
    refine (A1.out _).mono ?_
    rintro e w3 ⟨rfl, hb2⟩
    have H3 : Below w.heap.size w w3 := (hb1.trans (hb2.mono hb1.size))
    clear hb1 hb2
    go_wp2_with fail
    refine (D.out _).mono ?_
    rintro e w4 ⟨rfl, rfl⟩
    go_wp2_with fail
    refine (R.out _).mono ?_
    rintro e w4 ⟨rfl, rfl⟩
    go_wp2_with fail
    refine (M.out _).mono ?_
    rintro e w5 ⟨rfl, hb5⟩
    go_wp2_with fail
    refine (A3.out _).mono ?_
    rintro e w6 ⟨rfl, hb6⟩
    have H6 := (H3.trans (hb5.mono H3.size)).trans (hb6.mono (Nat.le_trans H3.size hb5.size))
    clear H3 hb5 hb6
    go_wp2
    all_goals (go_ret; exact ⟨by simp [*], H6⟩)
  · skip
    go_enter Try.func6, Try.ntmps6
    go_wp2_with fail
    refine (alive_any _).mono ?_
    rintro e w1 ⟨rfl, hb1⟩
    go_wp2_with fail
    refine (A1.out _).mono ?_
    rintro e w3 ⟨rfl, hb2⟩
    have H3 : Below w.heap.size w w3 := (hb1.trans (hb2.mono hb1.size))
    clear hb1 hb2
    go_wp2_with fail
    refine (D.out _).mono ?_
    rintro e w4 ⟨rfl, rfl⟩
    go_wp2_with fail
    refine (R.out _).mono ?_
    rintro e w4 ⟨rfl, rfl⟩
    go_wp2_with fail
    refine (M.out _).mono ?_
    rintro e w5 ⟨rfl, hb5⟩
    go_wp2_with fail
    refine (A3.out _).mono ?_
    rintro e w6 ⟨rfl, hb6⟩
    have H6 := (H3.trans (hb5.mono H3.size)).trans (hb6.mono (Nat.le_trans H3.size hb5.size))
    clear H3 hb5 hb6
    go_wp2
    all_goals (go_ret; exact ⟨by simp [*], H6⟩)

theorem back_walk (a b : Int) (ha : In64 a) (hb : In64 b) (w : World) :
    Calls Try.prog 6 #[.int .i64 a, .int .i64 b] w fun e w' => e = .returned (.bool true) ∧ Below w.heap.size w w' := by
  by_cases h0 : b = 0
  · subst h0
    exact back_yes0 a (a + 0) (Lib.hid fun W => do_add_yes a 0 _ ha hb rfl (by rwa [Int.add_zero]) W) (Lib.hid fun W => do_sub_yes (a + 0) 0 a (by rwa [Int.add_zero]) hb (by omega) ha W) w
  by_cases hl : a = -9223372036854775808 ∧ b = -1
  · obtain ⟨rfl, rfl⟩ := hl
    exact back_noL (Lib.hid fun W => do_add_no _ _ ha hb (by unfold In64; omega) W) w
  have hq := tdiv_in ha hl
  have hr := tmod_in (b := b) ha
  have D := Lib.hid (fun W => do_div a b ha h0 hl W)
  have R := Lib.hid (fun W => do_rem a b h0 W)
  have M := Lib.hid (fun W => do_mul_yes (a.tdiv b) b _ hq hb rfl (quo_mul_in ha) W)
  have A3 := Lib.hid (fun W => do_add_yes (a.tdiv b * b) (a.tmod b) a (quo_mul_in ha) hr (quo_rem a b) ha W)
  by_cases hs : In64 (a + b)
  · exact back_yes a b (a + b) (Lib.hid fun W => do_add_yes a b _ ha hb rfl hs W) (Lib.hid fun W => do_sub_yes (a + b) b a hs hb (by omega) ha W) _ _ _ D R M A3 rem_sign w
  · exact back_no a b (Lib.hid fun W => do_add_no a b ha hb hs W) _ _ _ D R M A3 rem_sign w
end Go.Proofs.Ytnfffkppgfokcaa
