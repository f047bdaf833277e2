/- Plain arithmetic of sums modulo two to the power of 128: no program is named here. -/
import Derived.RowKit
import Derived.IntWalk
import Derived.OpenShut
import Derived.Laws.Bits64
import Derived.Laws.BitsAllLaws
namespace Go.Proofs.Ytihgcfokenabgaa
open Go.RowKit

/-- The upper part of a whole number that stands for a sum. -/
def hiZ (x : Int) : Int := IntKind.i64.wrap (x / 18446744073709551616)
/-- The lower part. -/
def loZ (x : Int) : Int := x % 18446744073709551616
/-- The value of package api's type Sum that stands for x modulo two to the power of 128. -/
abbrev SumV (x : Int) : Value := .agg #[.int .i64 (hiZ x), .int .u64 (loZ x)]
/-- A number of 64 bits with a sign. -/
def In64 (n : Int) : Prop := -9223372036854775808 ≤ n ∧ n ≤ 9223372036854775807
/-- A sum's number, from its parts. -/
def ofParts (h l : Int) : Int := h * 18446744073709551616 + l

theorem in64_of_wf {n : Int} (h : (Lit.int .i64 n).wf = true) : In64 n := by
  exact bounds_i64 h
theorem u64_of_wf {n : Int} (h : (Lit.int .u64 n).wf = true) : 0 ≤ n ∧ n ≤ 18446744073709551615 := by
  exact bounds_u64 h
theorem loZ_nonneg (x : Int) : 0 ≤ loZ x := by unfold loZ; omega
theorem loZ_le (x : Int) : loZ x ≤ 18446744073709551615 := by unfold loZ; omega
theorem hiZ_in (x : Int) : In64 (hiZ x) := by unfold hiZ In64; rw [IntKind.wrap_i64]; omega
theorem hi_parts {h l : Int} (h0 : In64 h) (h1 : 0 ≤ l) (h2 : l ≤ 18446744073709551615) : hiZ (ofParts h l) = h := by
  unfold hiZ ofParts In64 at *; rw [IntKind.wrap_i64]; omega
theorem lo_parts {h l : Int} (h1 : 0 ≤ l) (h2 : l ≤ 18446744073709551615) : loZ (ofParts h l) = l := by
  unfold loZ ofParts at *; omega
theorem hi_of {n : Int} (h : In64 n) : n / 9223372036854775808 = hiZ n := by
  unfold hiZ In64 at *; rw [IntKind.wrap_i64]; omega
theorem lo_of (n : Int) : IntKind.u64.wrap n = loZ n := by unfold loZ; rw [IntKind.wrap_u64]

/-- What the sum of two lower parts leaves, and what it carries. -/
def loA (x y : Int) : Int := (x + y) % 18446744073709551616
def cyA (x y : Int) : Int := (x + y) / 18446744073709551616
theorem cy_in (x y : Int) : 0 ≤ cyA (loZ x) (loZ y) ∧ cyA (loZ x) (loZ y) ≤ 1 := by
  have := loZ_nonneg x; have := loZ_nonneg y; have := loZ_le x; have := loZ_le y
  unfold cyA; omega
theorem lo_both (x y : Int) : loA (loZ x) (loZ y) = loZ (x + y) := by unfold loA loZ; omega
theorem hi_both (x y : Int) : wrap64 (wrap64 (hiZ x + hiZ y) + cyA (loZ x) (loZ y)) = hiZ (x + y) := by
  unfold wrap64 hiZ cyA loZ; simp only [IntKind.wrap_i64]; omega
theorem hi_both' (x y : Int) : wrap64 (wrap64 (hiZ x + hiZ y) + wrap64 (cyA (loZ x) (loZ y))) = hiZ (x + y) := by
  unfold wrap64 hiZ cyA loZ; simp only [IntKind.wrap_i64]; omega
/-- The complement: of all bits. -/
theorem hi_not (x : Int) : -hiZ x - 1 = hiZ (-x - 1) := by unfold hiZ; simp only [IntKind.wrap_i64]; omega
theorem lo_not (x : Int) : 18446744073709551615 - loZ x = loZ (-x - 1) := by unfold loZ; omega

/-- Sums are the same just where their numbers are, modulo two to the power of 128. -/
def Same (x y : Int) : Prop := hiZ x = hiZ y ∧ loZ x = loZ y
theorem same_iff (x y : Int) : Same x y ↔ (x - y) % 340282366920938463463374607431768211456 = 0 := by
  unfold Same hiZ loZ; simp only [IntKind.wrap_i64]; omega
/-- The number of a lower part, read with a sign: what stands for a number of 64 bits. -/
theorem int_lo {n : Int} (h : In64 n) : IntKind.i64.wrap (loZ n) = n := by
  unfold loZ In64 at *; rw [IntKind.wrap_i64]; omega
theorem wrap_lo_in (x : Int) : In64 (wrap64 (loZ x)) := by unfold In64 wrap64; omega
/-- x from -2^127 on, below 2^127. -/
def In128 (x : Int) : Prop := -170141183460469231731687303715884105728 ≤ x ∧ x ≤ 170141183460469231731687303715884105727
theorem in128_parts {h l : Int} (h0 : In64 h) (h1 : 0 ≤ l) (h2 : l ≤ 18446744073709551615) : In128 (ofParts h l) := by
  unfold In128 ofParts In64 at *; omega
/-- A sum is the one of its lower part's number just where it stands for a number of 64 bits. -/
theorem same_lo {x : Int} (h : In128 x) : (hiZ (wrap64 (loZ x)) = hiZ x ∧ loZ (wrap64 (loZ x)) = loZ x) ↔ In64 x := by
  unfold In128 at h; unfold In64 hiZ loZ wrap64; simp only [IntKind.wrap_i64]; omega
theorem lo_is {x : Int} (h : In64 x) : wrap64 (loZ x) = x := by unfold In64 at h; unfold wrap64 loZ; omega

/-- How far a number is from nought. -/
def absZ (n : Int) : Int := if n < 0 then -n else n
theorem absZ_bd {n : Int} (h : In64 n) : 0 ≤ absZ n ∧ absZ n ≤ 9223372036854775808 := by unfold absZ; unfold In64 at h; split <;> omega
theorem abs_neg {n : Int} (h : In64 n) (hn : n < 0) : IntKind.u64.wrap (-IntKind.u64.wrap n) = absZ n := by
  unfold absZ; unfold In64 at h; rw [if_pos hn]; simp only [IntKind.wrap_u64]; omega
theorem abs_pos {n : Int} (h : In64 n) (hn : 0 ≤ n) : IntKind.u64.wrap n = absZ n := by
  unfold absZ; unfold In64 at h; rw [if_neg (by omega)]; simp only [IntKind.wrap_u64]; omega
theorem absZ_mul {a b : Int} (ha : In64 a) (hb : In64 b) : 0 ≤ absZ a * absZ b ∧ absZ a * absZ b ≤ 85070591730234615865843651857942052864 := by
  have h1 := absZ_bd ha; have h2 := absZ_bd hb
  refine ⟨Int.mul_nonneg h1.1 h2.1, ?_⟩
  calc absZ a * absZ b ≤ 9223372036854775808 * 9223372036854775808 := Int.mul_le_mul h1.2 h2.2 h2.1 (by omega)
    _ = _ := by decide
theorem mul_same {a b : Int} (h : (a < 0 ↔ b < 0)) : absZ a * absZ b = a * b := by
  unfold absZ
  by_cases ha : a < 0
  · rw [if_pos ha, if_pos (h.1 ha), Int.neg_mul_neg]
  · rw [if_neg ha, if_neg (fun hb => ha (h.2 hb))]
theorem mul_other {a b : Int} (h : ¬ (a < 0 ↔ b < 0)) : -(absZ a * absZ b) = a * b := by
  unfold absZ
  by_cases ha : a < 0
  · by_cases hb : b < 0
    · exact absurd ⟨fun _ => hb, fun _ => ha⟩ h
    · rw [if_pos ha, if_neg hb, Int.neg_mul, Int.neg_neg]
  · by_cases hb : b < 0
    · rw [if_neg ha, if_pos hb, Int.mul_neg, Int.neg_neg]
    · exact absurd ⟨fun h => absurd h ha, fun h => absurd h hb⟩ h
theorem mul_in {a b : Int} (ha : In64 a) (hb : In64 b) : In128 (a * b) := by
  have h := absZ_mul ha hb
  unfold In128
  by_cases c : (a < 0 ↔ b < 0)
  · rw [← mul_same c]; omega
  · rw [← mul_other c]; omega
theorem hi_abs {p : Int} (h0 : 0 ≤ p) (h1 : p ≤ 85070591730234615865843651857942052864) : p / 18446744073709551616 = hiZ p := by
  unfold hiZ; rw [IntKind.wrap_i64]; omega
theorem hi_abs_le {p : Int} (h1 : p ≤ 85070591730234615865843651857942052864) : p / 18446744073709551616 ≤ 9223372036854775807 := by omega

/-- The complement of all bits, as the walk has it. -/
theorem not_i64 {h : Int} (h0 : In64 h) : bits .xor .i64 (-1) h = -h - 1 := by
  unfold In64 at h0
  show IntKind.i64.wrap ((BitVec.ofInt 64 (-1) ^^^ BitVec.ofInt 64 h).toNat : Int) = _
  have h1 : BitVec.ofInt 64 (-1) = BitVec.allOnes 64 := by decide
  rw [h1, BitVec.allOnes_xor, BitVec.toNat_not, BitVec.toNat_ofInt, IntKind.wrap_i64]
  omega
theorem not_u64 {l : Int} (h1 : 0 ≤ l) (h2 : l ≤ 18446744073709551615) : bits .xor .u64 IntKind.u64.max l = 18446744073709551615 - l := by
  show IntKind.u64.wrap ((BitVec.ofInt 64 IntKind.u64.max ^^^ BitVec.ofInt 64 l).toNat : Int) = _
  have h3 : BitVec.ofInt 64 IntKind.u64.max = BitVec.allOnes 64 := by decide
  rw [h3, BitVec.allOnes_xor, BitVec.toNat_not, BitVec.toNat_ofInt, IntKind.wrap_u64]
  omega
theorem not_hi (x : Int) : bits .xor .i64 (-1) (hiZ x) = hiZ (-x - 1) := by rw [not_i64 (hiZ_in x), hi_not]
theorem not_lo (x : Int) : bits .xor .u64 IntKind.u64.max (loZ x) = loZ (-x - 1) := by rw [not_u64 (loZ_nonneg x) (loZ_le x), lo_not]

theorem lo_lo (x : Int) : loZ (wrap64 (loZ x)) = loZ x := by unfold loZ wrap64; omega
theorem hi_no {x : Int} (h : In128 x) (hn : ¬ In64 x) : (hiZ (wrap64 (loZ x)) == hiZ x) = false := by
  rw [beq_eq_false_iff_ne]
  intro e
  exact hn ((same_lo h).1 ⟨e, lo_lo x⟩)

/-- What is told of a whole number: itself if 64 bits hold it, else the error ten. -/
def wholeN (x : Int) : Int := if -9223372036854775808 ≤ x ∧ x ≤ 9223372036854775807 then x else 0
def wholeE (x : Int) : Int := if -9223372036854775808 ≤ x ∧ x ≤ 9223372036854775807 then 0 else 10
theorem wholeN_yes {x : Int} (h : In64 x) : wholeN x = x := by unfold wholeN; exact if_pos h
theorem wholeE_yes {x : Int} (h : In64 x) : wholeE x = 0 := by unfold wholeE; exact if_pos h
theorem wholeN_no {x : Int} (h : ¬ In64 x) : wholeN x = 0 := by unfold wholeN; exact if_neg h
theorem wholeE_no {x : Int} (h : ¬ In64 x) : wholeE x = 10 := by unfold wholeE; exact if_neg h
/-- What the operation op makes of two numbers, and the error beside it. -/
def doN (op a b : Int) : Int :=
  if op = 4 then wholeN (a + b) else if op = 5 then wholeN (a - b) else if op = 6 then wholeN (a * b)
  else if op = 7 then (if b = 0 then 0 else wholeN (a.tdiv b)) else if op = 8 then (if b = 0 then 0 else a.tmod b) else 0
def doE (op a b : Int) : Int :=
  if op = 4 then wholeE (a + b) else if op = 5 then wholeE (a - b) else if op = 6 then wholeE (a * b)
  else if op = 7 then (if b = 0 then 11 else wholeE (a.tdiv b)) else if op = 8 then (if b = 0 then 11 else 0) else 2
theorem abs_tdiv (a b : Int) : (a.tdiv b).natAbs = a.natAbs / b.natAbs := Int.natAbs_tdiv a b
theorem tdiv_in {a b : Int} (ha : In64 a) (h : ¬ (a = -9223372036854775808 ∧ b = -1)) : In64 (a.tdiv b) := by
  have h1 := abs_tdiv a b
  have h2 := Nat.div_le_self a.natAbs b.natAbs
  unfold In64 at *
  by_cases hb : b.natAbs ≤ 1
  · have : b = 0 ∨ b = 1 ∨ b = -1 := by omega
    rcases this with rfl | rfl | rfl
    · simp
    · simp; exact ha
    · rw [show (-1 : Int) = -(1 : Int) from rfl, Int.tdiv_neg, Int.tdiv_one]; omega
  · have h3 : a.natAbs / b.natAbs ≤ a.natAbs / 2 := Nat.div_le_div_left (by omega) (by omega)
    omega
theorem tdiv_least : ((-9223372036854775808 : Int).tdiv (-1)) = 9223372036854775808 := by decide
theorem tmod_in {a b : Int} (ha : In64 a) : In64 (a.tmod b) := by
  have h1 : (a.tmod b).natAbs = a.natAbs % b.natAbs := Int.natAbs_tmod a b
  have h2 := Nat.mod_le a.natAbs b.natAbs
  unfold In64 at *
  have h3 : a.tmod b ≤ 0 ∨ 0 ≤ a := by
    by_cases h : 0 ≤ a
    · exact .inr h
    · left
      have := Int.tmod_nonneg b (a := -a) (by omega)
      rw [Int.neg_tmod] at this
      omega
  omega
/-- Rounded down. -/
theorem floor_lt {a b : Int} (hb : 1 ≤ b) (h : a.tmod b < 0) : a.tdiv b - 1 = a / b := by
  have h1 := Int.tdiv_eq_ediv (a := a) (b := b)
  have h2 := Int.tmod_eq_emod (a := a) (b := b)
  have h3 := Int.emod_nonneg a (b := b) (by omega)
  split at h1
  · rename_i hc
    rw [if_pos hc] at h2
    omega
  · rename_i hc
    rw [Int.sign_eq_one_of_pos (by omega)] at h1
    omega
theorem floor_ge {a b : Int} (hb : 1 ≤ b) (h : ¬ a.tmod b < 0) : a.tdiv b = a / b := by
  have h1 := Int.tdiv_eq_ediv (a := a) (b := b)
  have h2 := Int.tmod_eq_emod (a := a) (b := b)
  have h3 := Int.emod_nonneg a (b := b) (by omega)
  have h4 := Int.emod_lt_of_pos a (b := b) (by omega)
  split at h1
  · omega
  · rename_i hc
    rw [if_neg hc] at h2
    omega
theorem floor_in {a b : Int} (ha : In64 a) (hb : 1 ≤ b) : In64 (a / b) := by
  have ht := tdiv_in (a := a) (b := b) ha (by omega)
  have h1 : a / b ≤ a.tdiv b := by
    by_cases h : a.tmod b < 0
    · have := floor_lt hb h; omega
    · have := floor_ge hb h; omega
  unfold In64 at *
  have h2 : (-9223372036854775808 : Int) ≤ a / b := by
    rw [Int.le_ediv_iff_mul_le (by omega)]
    have : (-9223372036854775808 : Int) * b ≤ -9223372036854775808 * 1 := Int.mul_le_mul_of_nonpos_left (by omega) (by omega)
    omega
  omega
theorem rest_lt {a b : Int} (hb : 1 ≤ b) (h : In64 b) :
    decide (IntKind.u64.wrap (IntKind.u64.wrap a - IntKind.u64.wrap (IntKind.u64.wrap (a / b) * IntKind.u64.wrap b)) < IntKind.u64.wrap b) = true := by
  simp only [IntKind.wrap_u64, decide_eq_true_eq]
  rw [← Int.mul_emod]
  have h1 := Int.emod_def a b
  have h2 := Int.emod_nonneg a (b := b) (by omega)
  have h3 := Int.emod_lt_of_pos a (b := b) (by omega)
  rw [Int.mul_comm] at h1
  generalize a / b * b = m at *
  unfold In64 at h
  omega
theorem quo_rem (a b : Int) : a.tdiv b * b + a.tmod b = a := by
  have := Int.tmod_add_mul_tdiv a b
  rw [Int.mul_comm] at this
  omega
theorem rem_sign {a b : Int} (h : a.tmod b ≠ 0) : (a.tmod b < 0) ↔ (a < 0) := by
  constructor
  · intro h1
    by_cases h2 : 0 ≤ a
    · have := Int.tmod_nonneg b h2; omega
    · omega
  · intro h1
    have := Int.tmod_nonneg b (a := -a) (by omega)
    rw [Int.neg_tmod] at this
    omega
theorem quo_mul_in {a b : Int} (ha : In64 a) : In64 (a.tdiv b * b) := by
  have h := quo_rem a b
  have h1 : (a.tmod b).natAbs = a.natAbs % b.natAbs := Int.natAbs_tmod a b
  have h2 := Nat.mod_le a.natAbs b.natAbs
  unfold In64 at *
  by_cases h0 : a.tmod b = 0
  · omega
  · have h3 := rem_sign h0
    generalize a.tdiv b * b = m at *
    omega
end Go.Proofs.Ytihgcfokenabgaa
