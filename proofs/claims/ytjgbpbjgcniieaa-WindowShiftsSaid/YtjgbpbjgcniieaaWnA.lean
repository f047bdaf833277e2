/- What a seat needs of several texts. -/
import Derived.RowKit
import Derived.IntWalk
import Derived.OpenShut
import Derived.Laws.Bits64
import Derived.Laws.BitsAllLaws
import Derived.Test.YtjgbpbjgcniieaaRows
import Derived.WalkKit
import Derived.WalkLawsBesides
import Derived.WalkSpells
import Derived.ProofKit
import Derived.Below
import Derived.Outline
import Derived.Lib.Hide
import Derived.Laws.Externs
import Derived.BigQuiet
import Derived.Deep.QuietTactic
import Derived.Deep.RegionWith
import Derived.Deep.RegionHeld3
/- From NumPlain. -/
namespace Go.Proofs.Ytjgbpbjgcniieaa
open Go.RowKit
/-- A number of 64 bits with a sign. -/
def In64 (n : Int) : Prop := -9223372036854775808 ≤ n ∧ n ≤ 9223372036854775807
theorem in64_of_wf {n : Int} (h : (Lit.int .i64 n).wf = true) : In64 n := by
  exact bounds_i64 h
theorem abs_tdiv (a b : Int) : (a.tdiv b).natAbs = a.natAbs / b.natAbs := Int.natAbs_tdiv a b
theorem tdiv_in {a b : Int} (ha : In64 a) (h : ¬ (a = -9223372036854775808 ∧ b = -1)) : In64 (a.tdiv b) := by
  have h1 := abs_tdiv a b
  have h2 := Nat.div_le_self a.natAbs b.natAbs
  unfold In64 at *
  by_cases hb : b.natAbs ≤ 1
  · have : b = 0 ∨ b = 1 ∨ b = -1 := by omega
    rcases this with rfl | rfl | rfl
    · simp
    · simp; exact ha
    · rw [show (-1 : Int) = -(1 : Int) from rfl, Int.tdiv_neg, Int.tdiv_one]; omega
  · have h3 : a.natAbs / b.natAbs ≤ a.natAbs / 2 := Nat.div_le_div_left (by omega) (by omega)
    omega
/-- Rounded down. -/
theorem floor_lt {a b : Int} (hb : 1 ≤ b) (h : a.tmod b < 0) : a.tdiv b - 1 = a / b := by
  have h1 := Int.tdiv_eq_ediv (a := a) (b := b)
  have h2 := Int.tmod_eq_emod (a := a) (b := b)
  have h3 := Int.emod_nonneg a (b := b) (by omega)
  split at h1
  · rename_i hc
    rw [if_pos hc] at h2
    omega
  · rename_i hc
    rw [Int.sign_eq_one_of_pos (by omega)] at h1
    omega
theorem floor_ge {a b : Int} (hb : 1 ≤ b) (h : ¬ a.tmod b < 0) : a.tdiv b = a / b := by
  have h1 := Int.tdiv_eq_ediv (a := a) (b := b)
  have h2 := Int.tmod_eq_emod (a := a) (b := b)
  have h3 := Int.emod_nonneg a (b := b) (by omega)
  have h4 := Int.emod_lt_of_pos a (b := b) (by omega)
  split at h1
  · omega
  · rename_i hc
    rw [if_neg hc] at h2
    omega
theorem floor_in {a b : Int} (ha : In64 a) (hb : 1 ≤ b) : In64 (a / b) := by
  have ht := tdiv_in (a := a) (b := b) ha (by omega)
  have h1 : a / b ≤ a.tdiv b := by
    by_cases h : a.tmod b < 0
    · have := floor_lt hb h; omega
    · have := floor_ge hb h; omega
  unfold In64 at *
  have h2 : (-9223372036854775808 : Int) ≤ a / b := by
    rw [Int.le_ediv_iff_mul_le (by omega)]
    have : (-9223372036854775808 : Int) * b ≤ -9223372036854775808 * 1 := Int.mul_le_mul_of_nonpos_left (by omega) (by omega)
    omega
  omega
theorem quo_rem (a b : Int) : a.tdiv b * b + a.tmod b = a := by
  have := Int.tmod_add_mul_tdiv a b
  rw [Int.mul_comm] at this
  omega
theorem rem_sign {a b : Int} (h : a.tmod b ≠ 0) : (a.tmod b < 0) ↔ (a < 0) := by
  constructor
  · intro h1
    by_cases h2 : 0 ≤ a
    · have := Int.tmod_nonneg b h2; omega
    · omega
  · intro h1
    have := Int.tmod_nonneg b (a := -a) (by omega)
    rw [Int.neg_tmod] at this
    omega
theorem quo_mul_in {a b : Int} (ha : In64 a) : In64 (a.tdiv b * b) := by
  have h := quo_rem a b
  have h1 : (a.tmod b).natAbs = a.natAbs % b.natAbs := Int.natAbs_tmod a b
  have h2 := Nat.mod_le a.natAbs b.natAbs
  unfold In64 at *
  by_cases h0 : a.tmod b = 0
  · omega
  · have h3 := rem_sign h0
    generalize a.tdiv b * b = m at *
    omega
end Go.Proofs.Ytjgbpbjgcniieaa
/- From NumWalks. -/
namespace Go.Proofs.Ytjgbpbjgcniieaa
open Go.ChangeShapes Go.WideShapes Go.ChangeAt Go.RowKit
end Go.Proofs.Ytjgbpbjgcniieaa
/- From NumWalks2. -/
namespace Go.Proofs.Ytjgbpbjgcniieaa
open Go.ChangeShapes Go.WideShapes Go.ChangeAt Go.RowKit
end Go.Proofs.Ytjgbpbjgcniieaa
/- From NumWalks3. -/
namespace Go.Proofs.Ytjgbpbjgcniieaa
open Go.ChangeShapes Go.WideShapes Go.ChangeAt Go.RowKit
namespace Mul64
end Mul64
end Go.Proofs.Ytjgbpbjgcniieaa
/- From NumWalks4. -/
namespace Go.Proofs.Ytjgbpbjgcniieaa
open Go.ChangeShapes Go.WideShapes Go.ChangeAt Go.RowKit
theorem floor_arg (a b : Int) (hb : b < 1) (w : World) :
    Calls Try.prog 19 #[.int .i64 a, .int .i64 b] w fun e w' => e = .returned (.tuple #[.int .i64 0, .int .i64 2]) ∧ w = w' := by
  go_enter Try.func19, Try.ntmps19
  go_wp2
  go_ret2
  exact ⟨rfl, rfl⟩
theorem floor_any (a b : Int) (ha : In64 a) (hb : 1 ≤ b) (w : World) :
    Calls Try.prog 19 #[.int .i64 a, .int .i64 b] w fun e w' => e = .returned (.tuple #[.int .i64 (a / b), .int .i64 0]) ∧ w = w' := by
  have h0 : (b == 0) = false := by simp; omega
  have ht := tdiv_in (a := a) (b := b) ha (by omega)
  have hq := floor_in ha hb
  unfold In64 at ht
  obtain ⟨t0, t1⟩ := ht
  by_cases h : a.tmod b < 0
  · have H := Lib.hid (floor_lt hb h)
    go_enter Try.func19, Try.ntmps19
    go_wp2
    go_ret2
    exact ⟨by simp [H.out, IntWalk.wrap64_in _ hq], rfl⟩
  · have H := Lib.hid (floor_ge hb h)
    go_enter Try.func19, Try.ntmps19
    go_wp2
    go_ret2
    exact ⟨by simp [H.out], rfl⟩
end Go.Proofs.Ytjgbpbjgcniieaa
/- From NumFloors. -/
namespace Go.Proofs.Ytjgbpbjgcniieaa
open Go.ChangeShapes Go.WideShapes Go.ChangeAt Go.RowKit
theorem reffloor_arg (a b : Int) (hb : b < 1) (w : World) :
    Calls Try.prog 16 #[.int .i64 a, .int .i64 b] w fun e w' => e = .returned (.tuple #[.int .i64 0, .int .i64 2]) ∧ w = w' := by
  go_enter Try.func16, Try.ntmps16
  go_wp2
  go_ret2
  exact ⟨rfl, rfl⟩
theorem reffloor_any (a b : Int) (ha : In64 a) (hb : 1 ≤ b) (w : World) :
    Calls Try.prog 16 #[.int .i64 a, .int .i64 b] w fun e w' => e = .returned (.tuple #[.int .i64 (a / b), .int .i64 0]) ∧ w = w' := by
  have h0 : (b == 0) = false := by simp; omega
  have ht := tdiv_in (a := a) (b := b) ha (by omega)
  have hm := quo_mul_in (a := a) (b := b) ha
  have hq := quo_rem a b
  unfold In64 at ht hm
  obtain ⟨t0, t1⟩ := ht
  obtain ⟨m0, m1⟩ := hm
  have t2 := IntWalk.i64_in _ ⟨t0, t1⟩
  have m2 := IntWalk.i64_in _ ⟨m0, m1⟩
  by_cases h : a.tmod b < 0
  · have H := Lib.hid (floor_lt hb h)
    have g : decide (a.tdiv b * b > a) = true := by simp; omega
    have g2 : decide (a < a.tdiv b * b) = true := by simp; omega
    have hi := floor_in ha hb
    clear hq h
    go_enter Try.func16, Try.ntmps16
    go_wp2
    go_ret2
    exact ⟨by simp [H.out, IntWalk.wrap64_in _ hi], rfl⟩
  · have H := Lib.hid (floor_ge hb h)
    have g : decide (a.tdiv b * b > a) = false := by simp; omega
    have g2 : decide (a < a.tdiv b * b) = false := by simp; omega
    clear hq h
    go_enter Try.func16, Try.ntmps16
    go_wp2
    go_ret2
    exact ⟨by simp [H.out], rfl⟩
end Go.Proofs.Ytjgbpbjgcniieaa
