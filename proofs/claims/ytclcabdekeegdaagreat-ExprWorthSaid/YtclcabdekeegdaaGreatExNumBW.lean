/- What a seat needs of several texts. -/
import Derived.Test.YtclcabdekeegdaaGreatExNumAW
import Derived.LoopTactic
/- From NumLaws. -/
namespace Go.Proofs.YtclcabdekeegdaaGreat
open Go.ChangeShapes Go.WideShapes Go.ChangeAt Go.RowKit
end Go.Proofs.YtclcabdekeegdaaGreat
/- From LimbPlain. -/
namespace Go.Proofs.YtclcabdekeegdaaGreat
open Go.RowKit
/-- Two to the power of sixteen times i. -/
def p16 : Nat → Int
 | 0 => 1
 | 1 => 65536
 | 2 => 4294967296
 | 3 => 281474976710656
 | 4 => 18446744073709551616
 | 5 => 1208925819614629174706176
 | 6 => 79228162514264337593543950336
 | 7 => 5192296858534827628530496329220096
 | _ => 340282366920938463463374607431768211456
/-- Part i of the whole number x. -/
def lim (x : Int) (i : Nat) : Int := x / p16 i % 65536
/-- What is carried into part i of a sum. -/
def cr (x y : Int) (i : Nat) : Int := (x % p16 i + y % p16 i) / p16 i
/-- The array of a sum's parts. -/
abbrev LimV (x : Int) : Value := .agg #[.int .u32 (lim x 0), .int .u32 (lim x 1), .int .u32 (lim x 2), .int .u32 (lim x 3), .int .u32 (lim x 4), .int .u32 (lim x 5), .int .u32 (lim x 6), .int .u32 (lim x 7)]
theorem lim_nonneg (x : Int) (i : Nat) : 0 ≤ lim x i := by unfold lim; omega
theorem lim_le (x : Int) (i : Nat) : lim x i ≤ 65535 := by unfold lim; omega
theorem cr_zero (x y : Int) : cr x y 0 = 0 := by unfold cr; simp only [p16]; omega
theorem mask16 (a : Int) (h0 : 0 ≤ a) (h1 : a < 4294967296) : bits .and .u32 a 65535 = a % 65536 := by
 obtain ⟨n, rfl⟩ := Int.eq_ofNat_of_zero_le h0
 have h := u32_and_nat n 65535 (by omega) (by omega)
 have e : n &&& 65535 = n % 65536 := Nat.and_two_pow_sub_one_eq_mod n 16
 rw [e] at h
 exact h
theorem wrap_hi (x : Int) : IntKind.u64.wrap (hiZ x) = x / 18446744073709551616 % 18446744073709551616 := by
 unfold hiZ; rw [IntKind.wrap_u64, IntKind.wrap_i64]; omega
theorem lim_lo0 (x : Int) : bits .and .u32 (loZ x % 4294967296) 65535 = lim x 0 := by
 rw [mask16 _ (by omega) (by omega)]; unfold loZ lim; simp only [p16]; omega
theorem lim_hi0 (x : Int) : bits .and .u32 (IntKind.u64.wrap (hiZ x) % 4294967296) 65535 = lim x 4 := by
 rw [mask16 _ (by omega) (by omega), wrap_hi]; unfold lim; simp only [p16]; omega
theorem lim_lo1 (x : Int) : bits .and .u32 (loZ x / 65536 % 4294967296) 65535 = lim x 1 := by
 rw [mask16 _ (by omega) (by omega)]; unfold loZ lim; simp only [p16]; omega
theorem lim_hi1 (x : Int) : bits .and .u32 (IntKind.u64.wrap (hiZ x) / 65536 % 4294967296) 65535 = lim x 5 := by
 rw [mask16 _ (by omega) (by omega), wrap_hi]; unfold lim; simp only [p16]; omega
theorem lim_lo2 (x : Int) : bits .and .u32 (loZ x / 4294967296 % 4294967296) 65535 = lim x 2 := by
 rw [mask16 _ (by omega) (by omega)]; unfold loZ lim; simp only [p16]; omega
theorem lim_hi2 (x : Int) : bits .and .u32 (IntKind.u64.wrap (hiZ x) / 4294967296 % 4294967296) 65535 = lim x 6 := by
 rw [mask16 _ (by omega) (by omega), wrap_hi]; unfold lim; simp only [p16]; omega
theorem lim_lo3 (x : Int) : bits .and .u32 (loZ x / 281474976710656 % 4294967296) 65535 = lim x 3 := by
 rw [mask16 _ (by omega) (by omega)]; unfold loZ lim; simp only [p16]; omega
theorem lim_hi3 (x : Int) : bits .and .u32 (IntKind.u64.wrap (hiZ x) / 281474976710656 % 4294967296) 65535 = lim x 7 := by
 rw [mask16 _ (by omega) (by omega), wrap_hi]; unfold lim; simp only [p16]; omega
theorem both_lim0 (x y : Int) : (lim x 0 + lim y 0 + cr x y 0) % 65536 = lim (x + y) 0 := by unfold lim cr; simp only [p16]; omega
theorem both_cr0 (x y : Int) : (lim x 0 + lim y 0 + cr x y 0) / 65536 = cr x y 1 := by unfold lim cr; simp only [p16]; omega
theorem not_lim0 (x : Int) : 65535 - lim x 0 = lim (-x - 1) 0 := by unfold lim; simp only [p16]; omega
theorem both_lim1 (x y : Int) : (lim x 1 + lim y 1 + cr x y 1) % 65536 = lim (x + y) 1 := by unfold lim cr; simp only [p16]; omega
theorem both_cr1 (x y : Int) : (lim x 1 + lim y 1 + cr x y 1) / 65536 = cr x y 2 := by unfold lim cr; simp only [p16]; omega
theorem not_lim1 (x : Int) : 65535 - lim x 1 = lim (-x - 1) 1 := by unfold lim; simp only [p16]; omega
theorem both_lim2 (x y : Int) : (lim x 2 + lim y 2 + cr x y 2) % 65536 = lim (x + y) 2 := by unfold lim cr; simp only [p16]; omega
theorem both_cr2 (x y : Int) : (lim x 2 + lim y 2 + cr x y 2) / 65536 = cr x y 3 := by unfold lim cr; simp only [p16]; omega
theorem not_lim2 (x : Int) : 65535 - lim x 2 = lim (-x - 1) 2 := by unfold lim; simp only [p16]; omega
theorem both_lim3 (x y : Int) : (lim x 3 + lim y 3 + cr x y 3) % 65536 = lim (x + y) 3 := by unfold lim cr; simp only [p16]; omega
theorem both_cr3 (x y : Int) : (lim x 3 + lim y 3 + cr x y 3) / 65536 = cr x y 4 := by unfold lim cr; simp only [p16]; omega
theorem not_lim3 (x : Int) : 65535 - lim x 3 = lim (-x - 1) 3 := by unfold lim; simp only [p16]; omega
theorem both_lim4 (x y : Int) : (lim x 4 + lim y 4 + cr x y 4) % 65536 = lim (x + y) 4 := by unfold lim cr; simp only [p16]; omega
theorem both_cr4 (x y : Int) : (lim x 4 + lim y 4 + cr x y 4) / 65536 = cr x y 5 := by unfold lim cr; simp only [p16]; omega
theorem not_lim4 (x : Int) : 65535 - lim x 4 = lim (-x - 1) 4 := by unfold lim; simp only [p16]; omega
theorem both_lim5 (x y : Int) : (lim x 5 + lim y 5 + cr x y 5) % 65536 = lim (x + y) 5 := by unfold lim cr; simp only [p16]; omega
theorem both_cr5 (x y : Int) : (lim x 5 + lim y 5 + cr x y 5) / 65536 = cr x y 6 := by unfold lim cr; simp only [p16]; omega
theorem not_lim5 (x : Int) : 65535 - lim x 5 = lim (-x - 1) 5 := by unfold lim; simp only [p16]; omega
theorem both_lim6 (x y : Int) : (lim x 6 + lim y 6 + cr x y 6) % 65536 = lim (x + y) 6 := by unfold lim cr; simp only [p16]; omega
theorem both_cr6 (x y : Int) : (lim x 6 + lim y 6 + cr x y 6) / 65536 = cr x y 7 := by unfold lim cr; simp only [p16]; omega
theorem not_lim6 (x : Int) : 65535 - lim x 6 = lim (-x - 1) 6 := by unfold lim; simp only [p16]; omega
theorem both_lim7 (x y : Int) : (lim x 7 + lim y 7 + cr x y 7) % 65536 = lim (x + y) 7 := by unfold lim cr; simp only [p16]; omega
theorem both_cr7 (x y : Int) : (lim x 7 + lim y 7 + cr x y 7) / 65536 = cr x y 8 := by unfold lim cr; simp only [p16]; omega
theorem not_lim7 (x : Int) : 65535 - lim x 7 = lim (-x - 1) 7 := by unfold lim; simp only [p16]; omega
theorem cr_in (x y : Int) (i : Nat) (h : i < 9) : 0 ≤ cr x y i ∧ cr x y i ≤ 1 := by
 have : i = 0 ∨ i = 1 ∨ i = 2 ∨ i = 3 ∨ i = 4 ∨ i = 5 ∨ i = 6 ∨ i = 7 ∨ i = 8 := by omega
 rcases this with rfl | rfl | rfl | rfl | rfl | rfl | rfl | rfl | rfl <;> (unfold cr; simp only [p16]; omega)
/-- The upper parts of a half, from part i on. -/
def loU (x : Int) (i : Nat) : Int := x % 18446744073709551616 / p16 i
def hiU (x : Int) (i : Nat) : Int := x / 18446744073709551616 % 18446744073709551616 / p16 i
theorem or16 (a b : Int) (h0 : 0 ≤ a) (h1 : a < 281474976710656) (b0 : 0 ≤ b) (b1 : b < 65536) : bits .or .u64 (a * 65536) b = a * 65536 + b := by
 obtain ⟨n, rfl⟩ := Int.eq_ofNat_of_zero_le h0
 obtain ⟨m, rfl⟩ := Int.eq_ofNat_of_zero_le b0
 have e : ((n : Int) * 65536) = ((n * 65536 : Nat) : Int) := by omega
 rw [e, u64_or_nat (n * 65536) m (by omega) (by omega)]
 have := Nat.two_pow_add_eq_or_of_lt (i := 16) (b := m) (by omega) n
 rw [show n * 65536 = 2 ^ 16 * n by omega, ← this]
 omega
theorem lo_top (x : Int) : bits .or .u64 0 (IntKind.u64.wrap (lim x 3)) = loU x 3 := by
 have h := or16 0 (lim x 3) (by omega) (by omega) (lim_nonneg _ _) (by have := lim_le x 3; omega)
 have h2 := lim_nonneg x 3; have h3 := lim_le x 3
 rw [IntWalk.u64_in _ (by omega)]
 simp at h
 rw [h]; unfold loU lim; simp only [p16]; omega
theorem hi_top (x : Int) : bits .or .u64 0 (IntKind.u64.wrap (lim x 7)) = hiU x 3 := by
 have h := or16 0 (lim x 7) (by omega) (by omega) (lim_nonneg _ _) (by have := lim_le x 7; omega)
 have h2 := lim_nonneg x 7; have h3 := lim_le x 7
 rw [IntWalk.u64_in _ (by omega)]
 simp at h
 rw [h]; unfold hiU lim; simp only [p16]; omega
theorem lo_step0 (x : Int) : bits .or .u64 (IntKind.u64.wrap (loU x 1 * 65536)) (IntKind.u64.wrap (lim x 0)) = loU x 0 := by
 have h2 := lim_nonneg x 0; have h3 := lim_le x 0
 have h4 : 0 ≤ loU x 1 := by unfold loU; simp only [p16]; omega
 have h5 : loU x 1 < 281474976710656 := by unfold loU; simp only [p16]; omega
 rw [IntWalk.u64_in (lim x 0) (by omega), IntWalk.u64_in _ (by omega), or16 _ _ h4 h5 h2 (by omega)]
 unfold loU lim; simp only [p16]; omega
theorem hi_step0 (x : Int) : bits .or .u64 (IntKind.u64.wrap (hiU x 1 * 65536)) (IntKind.u64.wrap (lim x 4)) = hiU x 0 := by
 have h2 := lim_nonneg x 4; have h3 := lim_le x 4
 have h4 : 0 ≤ hiU x 1 := by unfold hiU; simp only [p16]; omega
 have h5 : hiU x 1 < 281474976710656 := by unfold hiU; simp only [p16]; omega
 rw [IntWalk.u64_in (lim x 4) (by omega), IntWalk.u64_in _ (by omega), or16 _ _ h4 h5 h2 (by omega)]
 unfold hiU lim; simp only [p16]; omega
theorem lo_step1 (x : Int) : bits .or .u64 (IntKind.u64.wrap (loU x 2 * 65536)) (IntKind.u64.wrap (lim x 1)) = loU x 1 := by
 have h2 := lim_nonneg x 1; have h3 := lim_le x 1
 have h4 : 0 ≤ loU x 2 := by unfold loU; simp only [p16]; omega
 have h5 : loU x 2 < 281474976710656 := by unfold loU; simp only [p16]; omega
 rw [IntWalk.u64_in (lim x 1) (by omega), IntWalk.u64_in _ (by omega), or16 _ _ h4 h5 h2 (by omega)]
 unfold loU lim; simp only [p16]; omega
theorem hi_step1 (x : Int) : bits .or .u64 (IntKind.u64.wrap (hiU x 2 * 65536)) (IntKind.u64.wrap (lim x 5)) = hiU x 1 := by
 have h2 := lim_nonneg x 5; have h3 := lim_le x 5
 have h4 : 0 ≤ hiU x 2 := by unfold hiU; simp only [p16]; omega
 have h5 : hiU x 2 < 281474976710656 := by unfold hiU; simp only [p16]; omega
 rw [IntWalk.u64_in (lim x 5) (by omega), IntWalk.u64_in _ (by omega), or16 _ _ h4 h5 h2 (by omega)]
 unfold hiU lim; simp only [p16]; omega
theorem lo_step2 (x : Int) : bits .or .u64 (IntKind.u64.wrap (loU x 3 * 65536)) (IntKind.u64.wrap (lim x 2)) = loU x 2 := by
 have h2 := lim_nonneg x 2; have h3 := lim_le x 2
 have h4 : 0 ≤ loU x 3 := by unfold loU; simp only [p16]; omega
 have h5 : loU x 3 < 281474976710656 := by unfold loU; simp only [p16]; omega
 rw [IntWalk.u64_in (lim x 2) (by omega), IntWalk.u64_in _ (by omega), or16 _ _ h4 h5 h2 (by omega)]
 unfold loU lim; simp only [p16]; omega
theorem hi_step2 (x : Int) : bits .or .u64 (IntKind.u64.wrap (hiU x 3 * 65536)) (IntKind.u64.wrap (lim x 6)) = hiU x 2 := by
 have h2 := lim_nonneg x 6; have h3 := lim_le x 6
 have h4 : 0 ≤ hiU x 3 := by unfold hiU; simp only [p16]; omega
 have h5 : hiU x 3 < 281474976710656 := by unfold hiU; simp only [p16]; omega
 rw [IntWalk.u64_in (lim x 6) (by omega), IntWalk.u64_in _ (by omega), or16 _ _ h4 h5 h2 (by omega)]
 unfold hiU lim; simp only [p16]; omega
theorem lo_end (x : Int) : loU x 0 = loZ x := by unfold loU loZ; simp only [p16]; omega
theorem hi_end (x : Int) : wrap64 (hiU x 0) = hiZ x := by unfold hiU hiZ wrap64; rw [IntKind.wrap_i64]; simp only [p16]; omega
theorem both_mask0 (x y : Int) : bits .and .u32 (lim x 0 + lim y 0) 65535 = lim (x + y) 0 := by
 have h0 := lim_nonneg x 0; have h1 := lim_le x 0; have h2 := lim_nonneg y 0; have h3 := lim_le y 0; have h4 := cr_in x y 0 (by omega)
 have h5 := both_lim0 x y
 rw [cr_zero, Int.add_zero] at h5
 rw [mask16 _ (by omega) (by omega), h5]
theorem both_next0 (x y : Int) : (lim x 0 + lim y 0) / 65536 = cr x y 1 := by
 have h5 := both_cr0 x y
 rw [cr_zero, Int.add_zero] at h5
 exact h5
theorem both_in0 (x y : Int) : (lim x 0 + lim y 0) % 4294967296 = lim x 0 + lim y 0 := by
 have h0 := lim_nonneg x 0; have h1 := lim_le x 0; have h2 := lim_nonneg y 0; have h3 := lim_le y 0
 omega
theorem both_mask1 (x y : Int) : bits .and .u32 (lim x 1 + lim y 1 + cr x y 1) 65535 = lim (x + y) 1 := by
 have h0 := lim_nonneg x 1; have h1 := lim_le x 1; have h2 := lim_nonneg y 1; have h3 := lim_le y 1; have h4 := cr_in x y 1 (by omega)
 have h5 := both_lim1 x y
 skip
 rw [mask16 _ (by omega) (by omega), h5]
theorem both_next1 (x y : Int) : (lim x 1 + lim y 1 + cr x y 1) / 65536 = cr x y 2 := by
 have h5 := both_cr1 x y
 skip
 exact h5
theorem both_in1 (x y : Int) : (lim x 1 + lim y 1) % 4294967296 = lim x 1 + lim y 1 := by
 have h0 := lim_nonneg x 1; have h1 := lim_le x 1; have h2 := lim_nonneg y 1; have h3 := lim_le y 1
 omega
theorem both_inc1 (x y : Int) : (lim x 1 + lim y 1 + cr x y 1) % 4294967296 = lim x 1 + lim y 1 + cr x y 1 := by
 have h0 := lim_nonneg x 1; have h1 := lim_le x 1; have h2 := lim_nonneg y 1; have h3 := lim_le y 1; have h4 := cr_in x y 1 (by omega)
 omega
theorem both_mask2 (x y : Int) : bits .and .u32 (lim x 2 + lim y 2 + cr x y 2) 65535 = lim (x + y) 2 := by
 have h0 := lim_nonneg x 2; have h1 := lim_le x 2; have h2 := lim_nonneg y 2; have h3 := lim_le y 2; have h4 := cr_in x y 2 (by omega)
 have h5 := both_lim2 x y
 skip
 rw [mask16 _ (by omega) (by omega), h5]
theorem both_next2 (x y : Int) : (lim x 2 + lim y 2 + cr x y 2) / 65536 = cr x y 3 := by
 have h5 := both_cr2 x y
 skip
 exact h5
theorem both_in2 (x y : Int) : (lim x 2 + lim y 2) % 4294967296 = lim x 2 + lim y 2 := by
 have h0 := lim_nonneg x 2; have h1 := lim_le x 2; have h2 := lim_nonneg y 2; have h3 := lim_le y 2
 omega
theorem both_inc2 (x y : Int) : (lim x 2 + lim y 2 + cr x y 2) % 4294967296 = lim x 2 + lim y 2 + cr x y 2 := by
 have h0 := lim_nonneg x 2; have h1 := lim_le x 2; have h2 := lim_nonneg y 2; have h3 := lim_le y 2; have h4 := cr_in x y 2 (by omega)
 omega
theorem both_mask3 (x y : Int) : bits .and .u32 (lim x 3 + lim y 3 + cr x y 3) 65535 = lim (x + y) 3 := by
 have h0 := lim_nonneg x 3; have h1 := lim_le x 3; have h2 := lim_nonneg y 3; have h3 := lim_le y 3; have h4 := cr_in x y 3 (by omega)
 have h5 := both_lim3 x y
 skip
 rw [mask16 _ (by omega) (by omega), h5]
theorem both_next3 (x y : Int) : (lim x 3 + lim y 3 + cr x y 3) / 65536 = cr x y 4 := by
 have h5 := both_cr3 x y
 skip
 exact h5
theorem both_in3 (x y : Int) : (lim x 3 + lim y 3) % 4294967296 = lim x 3 + lim y 3 := by
 have h0 := lim_nonneg x 3; have h1 := lim_le x 3; have h2 := lim_nonneg y 3; have h3 := lim_le y 3
 omega
theorem both_inc3 (x y : Int) : (lim x 3 + lim y 3 + cr x y 3) % 4294967296 = lim x 3 + lim y 3 + cr x y 3 := by
 have h0 := lim_nonneg x 3; have h1 := lim_le x 3; have h2 := lim_nonneg y 3; have h3 := lim_le y 3; have h4 := cr_in x y 3 (by omega)
 omega
theorem both_mask4 (x y : Int) : bits .and .u32 (lim x 4 + lim y 4 + cr x y 4) 65535 = lim (x + y) 4 := by
 have h0 := lim_nonneg x 4; have h1 := lim_le x 4; have h2 := lim_nonneg y 4; have h3 := lim_le y 4; have h4 := cr_in x y 4 (by omega)
 have h5 := both_lim4 x y
 skip
 rw [mask16 _ (by omega) (by omega), h5]
theorem both_next4 (x y : Int) : (lim x 4 + lim y 4 + cr x y 4) / 65536 = cr x y 5 := by
 have h5 := both_cr4 x y
 skip
 exact h5
theorem both_in4 (x y : Int) : (lim x 4 + lim y 4) % 4294967296 = lim x 4 + lim y 4 := by
 have h0 := lim_nonneg x 4; have h1 := lim_le x 4; have h2 := lim_nonneg y 4; have h3 := lim_le y 4
 omega
theorem both_inc4 (x y : Int) : (lim x 4 + lim y 4 + cr x y 4) % 4294967296 = lim x 4 + lim y 4 + cr x y 4 := by
 have h0 := lim_nonneg x 4; have h1 := lim_le x 4; have h2 := lim_nonneg y 4; have h3 := lim_le y 4; have h4 := cr_in x y 4 (by omega)
 omega
theorem both_mask5 (x y : Int) : bits .and .u32 (lim x 5 + lim y 5 + cr x y 5) 65535 = lim (x + y) 5 := by
 have h0 := lim_nonneg x 5; have h1 := lim_le x 5; have h2 := lim_nonneg y 5; have h3 := lim_le y 5; have h4 := cr_in x y 5 (by omega)
 have h5 := both_lim5 x y
 skip
 rw [mask16 _ (by omega) (by omega), h5]
theorem both_next5 (x y : Int) : (lim x 5 + lim y 5 + cr x y 5) / 65536 = cr x y 6 := by
 have h5 := both_cr5 x y
 skip
 exact h5
theorem both_in5 (x y : Int) : (lim x 5 + lim y 5) % 4294967296 = lim x 5 + lim y 5 := by
 have h0 := lim_nonneg x 5; have h1 := lim_le x 5; have h2 := lim_nonneg y 5; have h3 := lim_le y 5
 omega
theorem both_inc5 (x y : Int) : (lim x 5 + lim y 5 + cr x y 5) % 4294967296 = lim x 5 + lim y 5 + cr x y 5 := by
 have h0 := lim_nonneg x 5; have h1 := lim_le x 5; have h2 := lim_nonneg y 5; have h3 := lim_le y 5; have h4 := cr_in x y 5 (by omega)
 omega
theorem both_mask6 (x y : Int) : bits .and .u32 (lim x 6 + lim y 6 + cr x y 6) 65535 = lim (x + y) 6 := by
 have h0 := lim_nonneg x 6; have h1 := lim_le x 6; have h2 := lim_nonneg y 6; have h3 := lim_le y 6; have h4 := cr_in x y 6 (by omega)
 have h5 := both_lim6 x y
 skip
 rw [mask16 _ (by omega) (by omega), h5]
theorem both_next6 (x y : Int) : (lim x 6 + lim y 6 + cr x y 6) / 65536 = cr x y 7 := by
 have h5 := both_cr6 x y
 skip
 exact h5
theorem both_in6 (x y : Int) : (lim x 6 + lim y 6) % 4294967296 = lim x 6 + lim y 6 := by
 have h0 := lim_nonneg x 6; have h1 := lim_le x 6; have h2 := lim_nonneg y 6; have h3 := lim_le y 6
 omega
theorem both_inc6 (x y : Int) : (lim x 6 + lim y 6 + cr x y 6) % 4294967296 = lim x 6 + lim y 6 + cr x y 6 := by
 have h0 := lim_nonneg x 6; have h1 := lim_le x 6; have h2 := lim_nonneg y 6; have h3 := lim_le y 6; have h4 := cr_in x y 6 (by omega)
 omega
theorem both_mask7 (x y : Int) : bits .and .u32 (lim x 7 + lim y 7 + cr x y 7) 65535 = lim (x + y) 7 := by
 have h0 := lim_nonneg x 7; have h1 := lim_le x 7; have h2 := lim_nonneg y 7; have h3 := lim_le y 7; have h4 := cr_in x y 7 (by omega)
 have h5 := both_lim7 x y
 skip
 rw [mask16 _ (by omega) (by omega), h5]
theorem both_next7 (x y : Int) : (lim x 7 + lim y 7 + cr x y 7) / 65536 = cr x y 8 := by
 have h5 := both_cr7 x y
 skip
 exact h5
theorem both_in7 (x y : Int) : (lim x 7 + lim y 7) % 4294967296 = lim x 7 + lim y 7 := by
 have h0 := lim_nonneg x 7; have h1 := lim_le x 7; have h2 := lim_nonneg y 7; have h3 := lim_le y 7
 omega
theorem both_inc7 (x y : Int) : (lim x 7 + lim y 7 + cr x y 7) % 4294967296 = lim x 7 + lim y 7 + cr x y 7 := by
 have h0 := lim_nonneg x 7; have h1 := lim_le x 7; have h2 := lim_nonneg y 7; have h3 := lim_le y 7; have h4 := cr_in x y 7 (by omega)
 omega
end Go.Proofs.YtclcabdekeegdaaGreat
/- From LimbWalks. -/
namespace Go.Proofs.YtclcabdekeegdaaGreat
open Go.ChangeShapes Go.WideShapes Go.ChangeAt Go.RowKit
theorem wide_any (n : Int) (hn : In64 n) (w : World) :
  Calls Tryz.prog 139 #[.int .i64 n] w fun e w' => e = .returned (SumV n) ∧ Below w.heap.size w w' := by
 have H2 := Lib.hid (lo_of n)
 by_cases h : n < 0
 ·have H := Lib.hid (show (-1 : Int) = hiZ n by unfold hiZ In64 at *; rw [IntKind.wrap_i64]; omega)
  go_enter Tryz.func139, Tryz.ntmps139
  go_wp2
  rw [H2.out, H.out]
  exact bodyPost_ret (v := SumV n) (by simp [results, Tryz.results139, go_sem]) rfl ⟨rfl, (Below.refl _ _).alloc (Nat.le_refl _) _⟩
 ·have H := Lib.hid (show (0 : Int) = hiZ n by unfold hiZ In64 at *; rw [IntKind.wrap_i64]; omega)
  go_enter Tryz.func139, Tryz.ntmps139
  go_wp2
  rw [H2.out]
  rw [H.out]
  exact bodyPost_ret (v := SumV n) (by simp [results, Tryz.results139, go_sem]) rfl ⟨rfl, (Below.refl _ _).alloc (Nat.le_refl _) _⟩
set_option maxRecDepth 100000 in
set_option maxHeartbeats 1000000 in
theorem limbs_any (x : Int) (w : World) :
  Calls Tryz.prog 140 #[SumV x] w fun e w' => e = .returned (LimV x) ∧ Below w.heap.size w w' := by
 have h0 := lim_lo0 x; have h1 := lim_lo1 x; have h2 := lim_lo2 x; have h3 := lim_lo3 x
 have h4 := lim_hi0 x; have h5 := lim_hi1 x; have h6 := lim_hi2 x; have h7 := lim_hi3 x
 go_enter Tryz.func140, Tryz.ntmps140
 go_wp2
 refine wp_loop_rounds 5 ?_
 iterate 5 (rw [rounds_succ]; go_wp2)
 exact bodyPost_ret (v := LimV x) (by simp [results, Tryz.results140, go_sem]) rfl ⟨rfl, (((Below.refl _ _).alloc (Nat.le_refl _) _).alloc (by simp) _).alloc (by simp; omega) _⟩
set_option maxRecDepth 100000 in
set_option maxHeartbeats 1000000 in
theorem of_limbs (x : Int) (w : World) :
  Calls Tryz.prog 141 #[LimV x] w fun e w' => e = .returned (SumV x) ∧ Below w.heap.size w w' := by
 have t0 := lo_top x; have t1 := hi_top x
 have l0 := lo_step0 x; have l1 := lo_step1 x; have l2 := lo_step2 x
 have k0 := hi_step0 x; have k1 := hi_step1 x; have k2 := hi_step2 x
 have z0 := lo_end x; have z1 := hi_end x
 go_enter Tryz.func141, Tryz.ntmps141
 go_wp2
 refine wp_loop_rounds 5 ?_
 iterate 5 (rw [rounds_succ]; go_wp2)
 exact bodyPost_ret (v := SumV x) (by simp [results, Tryz.results141, go_sem]) rfl ⟨rfl, ((Below.refl _ _).alloc (Nat.le_refl _) _).alloc (by simp) _⟩
end Go.Proofs.YtclcabdekeegdaaGreat
