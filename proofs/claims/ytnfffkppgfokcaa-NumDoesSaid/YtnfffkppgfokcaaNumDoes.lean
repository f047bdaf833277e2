/- The statement NumDoes: the walks. -/
import Derived.Test.YtnfffkppgfokcaaLimbWalks2
namespace Go.Proofs.Ytnfffkppgfokcaa
open Go.ChangeShapes Go.WideShapes Go.ChangeAt Go.RowKit

theorem product_zero (a b : Int) (h : a = 0 ∨ b = 0) (w : World) :
    Calls Try.prog 30 #[.int .i64 a, .int .i64 b] w fun e w' => e = .returned (.tuple #[.int .i64 0, .bool true]) ∧ w = w' := by
  by_cases h0 : a = 0
  · subst h0
    go_enter Try.func30, Try.ntmps30
    go_wp2
    go_ret2
    exact ⟨rfl, rfl⟩
  · have g : (a == 0) = false := by simp [h0]
    obtain rfl : b = 0 := by omega
    clear h
    go_enter Try.func30, Try.ntmps30
    go_wp2
    go_ret2
    exact ⟨rfl, rfl⟩

theorem abs_rule {n : Int} (h : In64 n) : (n < 0 ∧ IntKind.u64.wrap (-IntKind.u64.wrap n) = absZ n) ∨ (¬ n < 0 ∧ IntKind.u64.wrap n = absZ n) := by
  by_cases h0 : n < 0
  · exact .inl ⟨h0, abs_neg h h0⟩
  · exact .inr ⟨h0, abs_pos h (by omega)⟩

set_option maxHeartbeats 1000000 in
theorem product_over (a b : Int) (ha : In64 a) (hb : In64 b) (h0 : a ≠ 0) (h1 : b ≠ 0) (hq : 18446744073709551615 / absZ a < absZ b) (w : World) :
    Calls Try.prog 30 #[.int .i64 a, .int .i64 b] w fun e w' => e = .returned (.tuple #[.int .i64 0, .bool false]) ∧ w = w' := by
  have g0 : (a == 0) = false := by simp [h0]
  have g1 : (b == 0) = false := by simp [h1]
  have p0 : 1 ≤ absZ a := by unfold absZ; split <;> omega
  have p1 := (absZ_bd ha).2
  have p2 : (absZ a == 0) = false := by simp; omega
  have q : IntKind.u64.wrap ((18446744073709551615 : Int).tdiv (absZ a)) = 18446744073709551615 / absZ a := IntWalk.u64_quo _ _ ⟨by omega, by omega, p0⟩
  have gq : decide (18446744073709551615 / absZ a < absZ b) = true := by simpa using hq
  rcases abs_rule ha with ⟨s1, r1⟩ | ⟨s1, r1⟩ <;> rcases abs_rule hb with ⟨s2, r2⟩ | ⟨s2, r2⟩
  all_goals
    clear h0 h1 ha hb hq
    go_enter Try.func30, Try.ntmps30
    go_wp2
    go_ret2
    exact ⟨rfl, rfl⟩

/-- The two ways in which a product is told. -/
def prodN (a b p : Int) : Int := if (a < 0 ↔ b < 0) then wrap64 p else wrap64 (-wrap64 p)
def prodB (a b p : Int) : Bool := if (a < 0 ↔ b < 0) then decide (p < 9223372036854775808) else decide (p ≤ 9223372036854775808)

set_option maxHeartbeats 2000000 in
theorem product_in (a b p : Int) (ha : In64 a) (hb : In64 b) (h0 : a ≠ 0) (h1 : b ≠ 0) (hp : absZ a * absZ b = p) (hq : ¬ 18446744073709551615 / absZ a < absZ b) (w : World) :
    Calls Try.prog 30 #[.int .i64 a, .int .i64 b] w fun e w' => e = .returned (.tuple #[.int .i64 (prodN a b p), .bool (prodB a b p)]) ∧ w = w' := by
  have g0 : (a == 0) = false := by simp [h0]
  have g1 : (b == 0) = false := by simp [h1]
  have p0 : 1 ≤ absZ a := by unfold absZ; split <;> omega
  have p1 := (absZ_bd ha).2
  have p2 : (absZ a == 0) = false := by simp; omega
  have q : IntKind.u64.wrap ((18446744073709551615 : Int).tdiv (absZ a)) = 18446744073709551615 / absZ a := IntWalk.u64_quo _ _ ⟨by omega, by omega, p0⟩
  have gq : decide (18446744073709551615 / absZ a < absZ b) = false := by simpa using hq
  have hle : absZ b * absZ a ≤ 18446744073709551615 := (Int.le_ediv_iff_mul_le (by omega)).1 (by omega)
  have hp0 := (absZ_mul ha hb).1
  rw [Int.mul_comm] at hle
  have m : IntKind.u64.wrap (absZ a * absZ b) = p := by rw [← hp]; exact IntWalk.u64_in _ ⟨hp0, hle⟩
  rw [hp] at hp0 hle
  rcases abs_rule ha with ⟨s1, r1⟩ | ⟨s1, r1⟩ <;> rcases abs_rule hb with ⟨s2, r2⟩ | ⟨s2, r2⟩
  · have e1 : prodN a b p = wrap64 p := if_pos ⟨fun _ => s2, fun _ => s1⟩
    have e2 : prodB a b p = decide (p < 9223372036854775808) := if_pos ⟨fun _ => s2, fun _ => s1⟩
    rw [e1, e2]
    have k1 : decide (a < 0) = true := by simpa using s1
    have k2 : decide (b < 0) = true := by simpa using s2
    clear h0 h1 ha hb hq hp e1 e2
    go_enter Try.func30, Try.ntmps30
    go_wp2
    go_ret2
    exact ⟨rfl, rfl⟩
  · have e1 : prodN a b p = wrap64 (-wrap64 p) := if_neg (fun h => s2 (h.1 s1))
    have e2 : prodB a b p = decide (p ≤ 9223372036854775808) := if_neg (fun h => s2 (h.1 s1))
    rw [e1, e2]
    have k1 : decide (a < 0) = true := by simpa using s1
    have k2 : decide (b < 0) = false := by simpa using s2
    clear h0 h1 ha hb hq hp e1 e2
    go_enter Try.func30, Try.ntmps30
    go_wp2
    go_ret2
    exact ⟨rfl, rfl⟩
  · have e1 : prodN a b p = wrap64 (-wrap64 p) := if_neg (fun h => s1 (h.2 s2))
    have e2 : prodB a b p = decide (p ≤ 9223372036854775808) := if_neg (fun h => s1 (h.2 s2))
    rw [e1, e2]
    have k1 : decide (a < 0) = false := by simpa using s1
    have k2 : decide (b < 0) = true := by simpa using s2
    clear h0 h1 ha hb hq hp e1 e2
    go_enter Try.func30, Try.ntmps30
    go_wp2
    go_ret2
    exact ⟨rfl, rfl⟩
  · have e1 : prodN a b p = wrap64 p := if_pos ⟨fun h => absurd h s1, fun h => absurd h s2⟩
    have e2 : prodB a b p = decide (p < 9223372036854775808) := if_pos ⟨fun h => absurd h s1, fun h => absurd h s2⟩
    rw [e1, e2]
    have k1 : decide (a < 0) = false := by simpa using s1
    have k2 : decide (b < 0) = false := by simpa using s2
    clear h0 h1 ha hb hq hp e1 e2
    go_enter Try.func30, Try.ntmps30
    go_wp2
    go_ret2
    exact ⟨rfl, rfl⟩

/-- A product: whether 64 bits hold it, and then itself. -/
theorem product_any (a b : Int) (ha : In64 a) (hb : In64 b) : ∃ n, (In64 (a * b) → n = a * b) ∧ ∀ w : World,
    Calls Try.prog 30 #[.int .i64 a, .int .i64 b] w fun e w' => e = .returned (.tuple #[.int .i64 n, .bool (inB (a * b))]) ∧ w = w' := by
  by_cases h : a = 0 ∨ b = 0
  · have e : a * b = 0 := by rcases h with rfl | rfl <;> simp
    rw [e]
    exact ⟨0, fun _ => rfl, fun w => product_zero a b h w⟩
  have h0 : a ≠ 0 := fun e => h (.inl e)
  have h1 : b ≠ 0 := fun e => h (.inr e)
  by_cases hq : 18446744073709551615 / absZ a < absZ b
  · have hno : ¬ In64 (a * b) := by
      have p0 : 1 ≤ absZ a := by unfold absZ; split <;> omega
      have hgt : ¬ absZ b * absZ a ≤ 18446744073709551615 := fun h => by
        have := (Int.le_ediv_iff_mul_le (a := absZ b) (b := 18446744073709551615) (show 0 < absZ a by omega)).2 h
        omega
      rw [Int.mul_comm] at hgt
      unfold In64
      by_cases c : (a < 0 ↔ b < 0)
      · rw [← mul_same c]; omega
      · rw [← mul_other c]; omega
    rw [inB_no hno]
    exact ⟨0, fun h => absurd h hno, fun w => product_over a b ha hb h0 h1 hq w⟩
  · have hp0 := (absZ_mul ha hb).1
    refine ⟨prodN a b (absZ a * absZ b), ?_, fun w => ?_⟩
    rotate_left
    · have hB : inB (a * b) = prodB a b (absZ a * absZ b) := by
        unfold inB prodB
        by_cases c : (a < 0 ↔ b < 0)
        · rw [if_pos c, ← mul_same c]; exact decide_eq_decide.2 (by omega)
        · rw [if_neg c, ← mul_other c]; exact decide_eq_decide.2 (by omega)
      rw [hB]
      exact product_in a b _ ha hb h0 h1 rfl hq w
    · intro hin
      unfold prodN
      unfold In64 at hin
      by_cases c : (a < 0 ↔ b < 0)
      · rw [if_pos c]; rw [← mul_same c] at hin ⊢; exact IntWalk.wrap64_in _ hin
      · rw [if_neg c]; rw [← mul_other c] at hin ⊢; unfold wrap64; omega
end Go.Proofs.Ytnfffkppgfokcaa
