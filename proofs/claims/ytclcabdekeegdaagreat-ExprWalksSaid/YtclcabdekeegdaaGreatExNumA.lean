/- What a seat needs of several texts. -/
import Derived.Test.YtclcabdekeegdaaGreatNumPlain
import Derived.Test.YtclcabdekeegdaaGreatRows
import Derived.Test.YtclcabdekeegdaaGreatNumPlain
import Derived.WalkKit
import Derived.WalkLawsBesides
import Derived.WalkSpells
import Derived.ProofKit
import Derived.Below
import Derived.Outline
import Derived.Lib.Hide
import Derived.Laws.Externs
import Derived.BigQuiet
import Derived.Deep.QuietTactic
import Derived.Deep.RegionWith
import Derived.Deep.RegionHeld3
import Derived.Lib.Mul64
import Derived.Laws.Bits64b
/- From NumWalks. -/
namespace Go.Proofs.YtclcabdekeegdaaGreat
open Go.ChangeShapes Go.WideShapes Go.ChangeAt Go.RowKit
theorem of_any (n : Int) (hn : In64 n) (w : World) :
    Calls Tryz.prog 151 #[.int .i64 n] w fun e w' => e = .returned (SumV n) ∧ Below w.heap.size w w' := by
  have H := Lib.hid (hi_of hn)
  have H2 := Lib.hid (lo_of n)
  go_enter Tryz.func151, Tryz.ntmps151
  go_wp2
  rw [H.out, H2.out]
  exact bodyPost_ret (v := SumV n) (by simp [results, Tryz.results151, go_sem]) rfl ⟨rfl, (Below.refl _ _).alloc (Nat.le_refl _) _⟩
theorem add64_0 (x y : Int) (hx : 0 ≤ x) (hy : 0 ≤ y) (w : World) :
    (callFunc 163 #[.int .u64 x, .int .u64 y, .int .u64 0]).run Tryz.prog w = .ok (.value (.tuple #[.int .u64 (loA x y), .int .u64 (cyA x y)])) w := by
  rw [run_callFunc_extern Tryz.func163 (by kernel_rfl) (by kernel_rfl) (by kernel_rfl) (e := add64Entry) (by kernel_rfl), run_add64 x y 0 hx hy (by omega) (by omega)]
  simp only [Result.andThen, loA, cyA, Int.add_zero]
theorem both_any (x y : Int) (w : World) :
    Calls Tryz.prog 152 #[SumV x, SumV y] w fun e w' => e = .returned (SumV (x + y)) ∧ Below w.heap.size w w' := by
  have h := fun W => add64_0 (loZ x) (loZ y) (loZ_nonneg x) (loZ_nonneg y) W
  go_enter Tryz.func152, Tryz.ntmps152
  go_wp2
  clear h
  rw [hi_both', lo_both]
  exact bodyPost_ret (v := SumV (x + y)) (by simp [results, Tryz.results152, go_sem]) rfl ⟨rfl, (((Below.refl _ _).alloc (Nat.le_refl _) _).alloc (by simp) _).alloc (by simp; omega) _⟩
theorem frozen_later {w wx : World} {a : Addr} {v : Value} (hb : Below w.heap.size w wx) (h : w.cell? a = some v) (hf : w.frozen? a = false) : wx.frozen? a = false :=
  (hb.frozen (World.block_lt_of_cell? _ _ h)).trans hf
theorem add_any (x n : Int) (hn : In64 n) (w : World) :
    Calls Tryz.prog 150 #[SumV x, .int .i64 n] w fun e w' => e = .returned (SumV (x + n)) ∧ Below w.heap.size w w' := by
  go_enter Tryz.func150, Tryz.ntmps150
  go_wp2
  go_region_with ((first | (go_at_call 151; refine (of_any n hn _).mono ?_; rintro e w1 ⟨rfl, hb⟩; have c0 : w1.cell? ⟨w.heap.size, 0, none⟩ = some (.int .i64 (hiZ x)) := cell_later hb (by simp [go_sem]); have c1 : w1.cell? ⟨w.heap.size, 1, none⟩ = some (.int .u64 (loZ x)) := cell_later hb (by simp [go_sem]); have d0 : w1.cell? ⟨w.heap.size + 1, 0, none⟩ = some (.int .i64 0) := cell_later hb (by simp [go_sem]); have d1 : w1.cell? ⟨w.heap.size + 1, 1, none⟩ = some (.int .u64 0) := cell_later hb (by simp [go_sem]); have f0 : w1.frozen? ⟨w.heap.size + 1, 0, none⟩ = false := frozen_later (v := .int .i64 0) hb (by simp [go_sem]) (by simp [go_sem]); have f1 : w1.frozen? ⟨w.heap.size + 1, 1, none⟩ = false := frozen_later (v := .int .u64 0) hb (by simp [go_sem]) (by simp [go_sem])) | (go_at_call 152; refine (both_any x n _).mono ?_; rintro e w2 ⟨rfl, hb2⟩; have d2 := cell_later hb2 d0; have d3 := cell_later hb2 d1; have f2 := frozen_later hb2 d0 f0; have f3 := frozen_later hb2 d1 f1)))
  all_goals
    go_wp2
    have hA : Below w.heap.size w w2 := (((((Below.refl _ _).alloc (Nat.le_refl _) _).alloc (by simp) _).drew).trans (hb.mono (by simp; omega))).trans (hb2.mono (by have := hb.size; simp at this; omega))
    exact bodyPost_ret (v := SumV (x + n)) (by simp [results, Tryz.results150, go_sem, d2, d3]) rfl ⟨rfl, (hA.setCell (by simp) _).setCell (by simp) _⟩
theorem negative_any (x : Int) (w : World) :
    Calls Tryz.prog 153 #[SumV x] w fun e w' => e = .returned (SumV (-x)) ∧ Below w.heap.size w w' := by
  have H := not_hi x
  have H2 := not_lo x
  have s1 : IntKind.i64.signed = true := rfl
  have s2 : IntKind.u64.signed = false := rfl
  have e1 : -x - 1 + 1 = -x := by omega
  have E1 := Lib.hid e1
  clear e1
  go_enter Tryz.func153, Tryz.ntmps153
  go_wp2_with (go_at_call 150; refine (add_any (-x - 1) 1 (by unfold In64; omega) _).mono ?_; rw [E1.out]; rintro e w1 ⟨rfl, hb⟩; have d0 : w1.cell? ⟨w.heap.size + 1, 0, none⟩ = some (.int .i64 0) := cell_later hb (by simp [go_sem]); have d1 : w1.cell? ⟨w.heap.size + 1, 1, none⟩ = some (.int .u64 0) := cell_later hb (by simp [go_sem]); have f0 : w1.frozen? ⟨w.heap.size + 1, 0, none⟩ = false := frozen_later (v := .int .i64 0) hb (by simp [go_sem]) (by simp [go_sem]); have f1 : w1.frozen? ⟨w.heap.size + 1, 1, none⟩ = false := frozen_later (v := .int .u64 0) hb (by simp [go_sem]) (by simp [go_sem]))
  have hA : Below w.heap.size w w1 := ((((Below.refl _ _).alloc (Nat.le_refl _) _).alloc (by simp) _)).trans (hb.mono (by simp; omega))
  exact bodyPost_ret (v := SumV (-x)) (by simp [results, Tryz.results153, go_sem, d0, d1]) rfl ⟨rfl, (hA.setCell (by simp) _).setCell (by simp) _⟩
end Go.Proofs.YtclcabdekeegdaaGreat
/- From NumWalks2. -/
namespace Go.Proofs.YtclcabdekeegdaaGreat
open Go.ChangeShapes Go.WideShapes Go.ChangeAt Go.RowKit
/-- Package num's Int at a sum that stands for a number of 64 bits. -/
theorem int_yes (x : Int) (hx : In64 x) (w : World) :
    Calls Tryz.prog 162 #[SumV x] w fun e w' => e = .returned (.tuple #[.int .i64 x, .bool true]) ∧ Below w.heap.size w w' := by
  have hlo := lo_is hx
  go_enter Tryz.func162, Tryz.ntmps162
  go_wp2_with fail
  go_region_with (go_at_call 151; refine (of_any x hx _).mono ?_; rintro e w1 ⟨rfl, hb⟩; have c0 : w1.cell? ⟨w.heap.size, 0, none⟩ = some (.int .i64 (hiZ x)) := cell_later hb (by simp [go_sem]); have c1 : w1.cell? ⟨w.heap.size, 1, none⟩ = some (.int .u64 (loZ x)) := cell_later hb (by simp [go_sem]))
  all_goals
    go_wp2
    go_ret2
    exact ⟨rfl, ((((Below.refl _ _).alloc (Nat.le_refl _) _)).drew).trans (hb.mono (by simp))⟩
theorem int_no (x : Int) (h8 : In128 x) (hx : ¬ In64 x) (w : World) :
    Calls Tryz.prog 162 #[SumV x] w fun e w' => e = .returned (.tuple #[.int .i64 0, .bool false]) ∧ Below w.heap.size w w' := by
  have hlo := lo_lo x
  have hhi := hi_no h8 hx
  have hin := wrap_lo_in x
  clear h8 hx
  go_enter Tryz.func162, Tryz.ntmps162
  go_wp2_with fail
  go_region_with (go_at_call 151; refine (of_any (wrap64 (loZ x)) hin _).mono ?_; rintro e w1 ⟨rfl, hb⟩; have c0 : w1.cell? ⟨w.heap.size, 0, none⟩ = some (.int .i64 (hiZ x)) := cell_later hb (by simp [go_sem]); have c1 : w1.cell? ⟨w.heap.size, 1, none⟩ = some (.int .u64 (loZ x)) := cell_later hb (by simp [go_sem]))
  all_goals
    go_wp2
    go_ret2
    exact ⟨rfl, ((((Below.refl _ _).alloc (Nat.le_refl _) _)).drew).trans (hb.mono (by simp))⟩
theorem whole_yes (x : Int) (hx : In64 x) (w : World) :
    Calls Tryz.prog 149 #[SumV x] w fun e w' => e = .returned (.tuple #[.int .i64 x, .int .i64 0]) ∧ Below w.heap.size w w' := by
  go_enter Tryz.func149, Tryz.ntmps149
  go_wp2_with (go_at_call 162; refine (int_yes x hx _).mono ?_; rintro e w1 ⟨rfl, hb⟩)
  go_ret2
  exact ⟨rfl, ((((Below.refl _ _).alloc (Nat.le_refl _) _))).trans (hb.mono (by simp))⟩
theorem whole_no (x : Int) (h8 : In128 x) (hx : ¬ In64 x) (w : World) :
    Calls Tryz.prog 149 #[SumV x] w fun e w' => e = .returned (.tuple #[.int .i64 0, .int .i64 10]) ∧ Below w.heap.size w w' := by
  go_enter Tryz.func149, Tryz.ntmps149
  go_wp2_with (go_at_call 162; refine (int_no x h8 hx _).mono ?_; rintro e w1 ⟨rfl, hb⟩)
  go_ret2
  exact ⟨rfl, ((((Below.refl _ _).alloc (Nat.le_refl _) _))).trans (hb.mono (by simp))⟩
theorem size_any (n : Int) (hn : In64 n) (w : World) :
    Calls Tryz.prog 165 #[.int .i64 n] w fun e w' => e = .returned (.int .u64 (absZ n)) ∧ w = w' := by
  by_cases h : n < 0
  · have H := Lib.hid (abs_neg hn h)
    go_enter Tryz.func165, Tryz.ntmps165
    go_wp2
    go_ret
    exact ⟨by simp [H.out], rfl⟩
  · have H := Lib.hid (abs_pos hn (by omega))
    go_enter Tryz.func165, Tryz.ntmps165
    go_wp2
    go_ret
    exact ⟨by simp [H.out], rfl⟩
end Go.Proofs.YtclcabdekeegdaaGreat
/- From NumWalks3. -/
namespace Go.Proofs.YtclcabdekeegdaaGreat
open Go.ChangeShapes Go.WideShapes Go.ChangeAt Go.RowKit
namespace Mul64
theorem maskN (a : Nat) (ha : a < 18446744073709551616) : bits .and .u64 (a : Int) 4294967295 = ((a % 4294967296 : Nat) : Int) := by
  have h := bits_and_u64_nat a 4294967295 ha (by omega)
  have e : a &&& 4294967295 = a % 4294967296 := Nat.and_two_pow_sub_one_eq_mod a 32
  rw [e] at h
  exact h
theorem divN (a : Nat) : (a : Int) / 4294967296 = ((a / 4294967296 : Nat) : Int) := by omega
theorem mulN (a b : Nat) : (a : Int) * (b : Int) = ((a * b : Nat) : Int) := (Int.natCast_mul a b).symm
theorem addN (a b : Nat) : (a : Int) + (b : Int) = ((a + b : Nat) : Int) := (Int.natCast_add a b).symm
theorem wrapN (a : Nat) (ha : a < 18446744073709551616) : IntKind.u64.wrap (a : Int) = (a : Int) := by rw [IntKind.wrap_u64]; omega
theorem wrapM (a : Nat) : IntKind.u64.wrap (a : Int) = ((a % 18446744073709551616 : Nat) : Int) := by rw [IntKind.wrap_u64]; omega
end Mul64
set_option maxHeartbeats 1000000 in
theorem mul64_nat (x y : Nat) (hx : x < 18446744073709551616) (hy : y < 18446744073709551616) (w : World) :
    Calls Tryz.prog 164 #[.int .u64 x, .int .u64 y] w fun e w' => e = .returned (.tuple #[.int .u64 ((x * y / 18446744073709551616 : Nat) : Int), .int .u64 ((x * y % 18446744073709551616 : Nat) : Int)]) ∧ w = w' := by
  obtain ⟨bd, bt, bw, hhi⟩ := Lib.mul64_hi x y hx hy
  have ba := Lib.half_mul_le (a := x / 4294967296) (b := y / 4294967296) (by omega) (by omega)
  have bb := Lib.half_mul_le (a := x / 4294967296) (b := y % 4294967296) (by omega) (by omega)
  have bc := Lib.half_mul_le (a := x % 4294967296) (b := y / 4294967296) (by omega) (by omega)
  have ba' : x / 4294967296 * (y / 4294967296) < 18446744073709551616 := by omega
  have bb' : x / 4294967296 * (y % 4294967296) < 18446744073709551616 := by omega
  have bc' : x % 4294967296 * (y / 4294967296) < 18446744073709551616 := by omega
  have bh1 : x / 4294967296 * (y / 4294967296) + (x / 4294967296 * (y % 4294967296) + x % 4294967296 * (y % 4294967296) / 4294967296) / 4294967296 < 18446744073709551616 := by omega
  have bh : x / 4294967296 * (y / 4294967296) + (x / 4294967296 * (y % 4294967296) + x % 4294967296 * (y % 4294967296) / 4294967296) / 4294967296 + ((x / 4294967296 * (y % 4294967296) + x % 4294967296 * (y % 4294967296) / 4294967296) % 4294967296 + x % 4294967296 * (y / 4294967296)) / 4294967296 < 18446744073709551616 := by omega
  have Hhi := Lib.hid hhi
  clear hhi
  go_enter Tryz.func164, Tryz.ntmps164
  go_wp2
  simp only [Mul64.maskN x hx, Mul64.maskN y hy, Mul64.divN, Mul64.mulN, Mul64.addN, Mul64.wrapN _ bd, Mul64.wrapN _ bb', Mul64.wrapN _ bt, Mul64.maskN _ bt, Mul64.wrapN _ bc', Mul64.wrapN _ bw, Mul64.wrapN _ ba', Mul64.wrapN _ bh1, Mul64.wrapN _ bh, Mul64.wrapM (x * y)]
  rw [Hhi.out]
  go_ret2
  exact ⟨rfl, rfl⟩
theorem mul64_any (a b : Int) (a0 : 0 ≤ a) (a1 : a ≤ 9223372036854775808) (b0 : 0 ≤ b) (b1 : b ≤ 9223372036854775808) (p : Int) (hp : a * b = p) (p0 : 0 ≤ p) (p1 : p ≤ 85070591730234615865843651857942052864) (w : World) :
    Calls Tryz.prog 164 #[.int .u64 a, .int .u64 b] w fun e w' => e = .returned (.tuple #[.int .u64 (hiZ p), .int .u64 (loZ p)]) ∧ w = w' := by
  obtain ⟨x, rfl⟩ := Int.eq_ofNat_of_zero_le a0
  obtain ⟨y, rfl⟩ := Int.eq_ofNat_of_zero_le b0
  refine (mul64_nat x y (by omega) (by omega) w).mono fun e w' ⟨he, hw⟩ => ⟨?_, hw⟩
  rw [he]
  have e1 : ((x * y / 18446744073709551616 : Nat) : Int) = hiZ p := by rw [← hi_abs p0 p1, ← hp, ← Int.natCast_mul]; omega
  have e2 : ((x * y % 18446744073709551616 : Nat) : Int) = loZ p := by unfold loZ; rw [← hp, ← Int.natCast_mul]; omega
  rw [e1, e2]
end Go.Proofs.YtclcabdekeegdaaGreat
/- From NumWalks4. -/
namespace Go.Proofs.YtclcabdekeegdaaGreat
open Go.ChangeShapes Go.WideShapes Go.ChangeAt Go.RowKit
theorem whole_any (x : Int) (h8 : In128 x) (w : World) :
    Calls Tryz.prog 149 #[SumV x] w fun e w' => e = .returned (.tuple #[.int .i64 (wholeN x), .int .i64 (wholeE x)]) ∧ Below w.heap.size w w' := by
  by_cases hx : In64 x
  · rw [wholeN_yes hx, wholeE_yes hx]; exact whole_yes x hx w
  · rw [wholeN_no hx, wholeE_no hx]; exact whole_no x h8 hx w
set_option maxHeartbeats 800000 in
theorem times_any (a b : Int) (ha : In64 a) (hb : In64 b) (w : World) :
    Calls Tryz.prog 154 #[.int .i64 a, .int .i64 b] w fun e w' => e = .returned (.tuple #[.int .i64 (wholeN (a * b)), .int .i64 (wholeE (a * b))]) ∧ Below w.heap.size w w' := by
  have sa := fun W => size_any a ha W
  have sb := fun W => size_any b hb W
  have Ha := absZ_bd ha; have Hb := absZ_bd hb
  obtain ⟨p, hp⟩ : ∃ p, absZ a * absZ b = p := ⟨_, rfl⟩
  have pb := absZ_mul ha hb
  rw [hp] at pb
  have mm := fun W => mul64_any (absZ a) (absZ b) Ha.1 Ha.2 Hb.1 Hb.2 p hp pb.1 pb.2 W
  have h8 := mul_in ha hb
  have wh := fun W => whole_any (a * b) h8 W
  have hh := hiZ_in p
  unfold In64 at hh
  have hh0 := hh.1
  have hh1 := hh.2
  have SA := Lib.hid sa; have SB := Lib.hid sb; have MM := Lib.hid mm; have WH := Lib.hid wh
  clear sa sb mm wh Ha Hb pb hh h8
  by_cases c1 : a < 0 <;> by_cases c2 : b < 0
  · have g1 : decide (a < 0) = true := by simpa using c1
    have g2 : decide (b < 0) = true := by simpa using c2
    have e1 : p = a * b := by rw [← hp]; exact mul_same (by simp [c1, c2])
    have E1 := Lib.hid e1
    clear e1 hp
    go_enter Tryz.func154, Tryz.ntmps154
    go_wp2_with fail
    refine (SA.out _).mono ?_
    rintro e w1 ⟨rfl, rfl⟩
    go_wp2_with fail
    refine (SB.out _).mono ?_
    rintro e w1 ⟨rfl, rfl⟩
    go_wp2_with fail
    refine (MM.out _).mono ?_
    rintro e w1 ⟨rfl, rfl⟩
    go_wp2_with fail
    rw [E1.out]
    refine (WH.out _).mono ?_
    rintro e w1 ⟨rfl, hb⟩
    go_wp2
    go_ret2
    exact ⟨rfl, ((Below.refl _ _).alloc (Nat.le_refl _) _).trans (hb.mono (by simp))⟩
  · have g1 : decide (a < 0) = true := by simpa using c1
    have g2 : decide (b < 0) = false := by simpa using c2
    have e1 : -p = a * b := by rw [← hp]; exact mul_other (by simp [c1, c2])
    have E1 := Lib.hid e1
    clear e1 hp
    go_enter Tryz.func154, Tryz.ntmps154
    go_wp2_with fail
    refine (SA.out _).mono ?_
    rintro e w1 ⟨rfl, rfl⟩
    go_wp2_with fail
    refine (SB.out _).mono ?_
    rintro e w1 ⟨rfl, rfl⟩
    go_wp2_with fail
    refine (MM.out _).mono ?_
    rintro e w1 ⟨rfl, rfl⟩
    go_wp2_with fail
    refine (negative_any p _).mono ?_
    rintro e w1 ⟨rfl, hb⟩
    rw [E1.out]
    have d0 : w1.cell? ⟨w.heap.size, 0, none⟩ = some (.int .i64 (hiZ p)) := cell_later hb (by simp [go_sem])
    have d1 : w1.cell? ⟨w.heap.size, 1, none⟩ = some (.int .u64 (loZ p)) := cell_later hb (by simp [go_sem])
    have f0 : w1.frozen? ⟨w.heap.size, 0, none⟩ = false := frozen_later (v := .int .i64 (hiZ p)) hb (by simp [go_sem]) (by simp [go_sem])
    have f1 : w1.frozen? ⟨w.heap.size, 1, none⟩ = false := frozen_later (v := .int .u64 (loZ p)) hb (by simp [go_sem]) (by simp [go_sem])
    go_wp2_with fail
    refine (WH.out _).mono ?_
    rintro e w2 ⟨rfl, hb2⟩
    go_wp2
    go_ret2
    refine ⟨rfl, (((((Below.refl _ _).alloc (Nat.le_refl _) _).trans (hb.mono (by simp))).setCell (by simp) _).setCell (by simp) _).trans (hb2.mono ?_)⟩
    have := hb.size
    simp at this ⊢
    omega
  · have g1 : decide (a < 0) = false := by simpa using c1
    have g2 : decide (b < 0) = true := by simpa using c2
    have e1 : -p = a * b := by rw [← hp]; exact mul_other (by simp [c1, c2])
    have E1 := Lib.hid e1
    clear e1 hp
    go_enter Tryz.func154, Tryz.ntmps154
    go_wp2_with fail
    refine (SA.out _).mono ?_
    rintro e w1 ⟨rfl, rfl⟩
    go_wp2_with fail
    refine (SB.out _).mono ?_
    rintro e w1 ⟨rfl, rfl⟩
    go_wp2_with fail
    refine (MM.out _).mono ?_
    rintro e w1 ⟨rfl, rfl⟩
    go_wp2_with fail
    refine (negative_any p _).mono ?_
    rintro e w1 ⟨rfl, hb⟩
    rw [E1.out]
    have d0 : w1.cell? ⟨w.heap.size, 0, none⟩ = some (.int .i64 (hiZ p)) := cell_later hb (by simp [go_sem])
    have d1 : w1.cell? ⟨w.heap.size, 1, none⟩ = some (.int .u64 (loZ p)) := cell_later hb (by simp [go_sem])
    have f0 : w1.frozen? ⟨w.heap.size, 0, none⟩ = false := frozen_later (v := .int .i64 (hiZ p)) hb (by simp [go_sem]) (by simp [go_sem])
    have f1 : w1.frozen? ⟨w.heap.size, 1, none⟩ = false := frozen_later (v := .int .u64 (loZ p)) hb (by simp [go_sem]) (by simp [go_sem])
    go_wp2_with fail
    refine (WH.out _).mono ?_
    rintro e w2 ⟨rfl, hb2⟩
    go_wp2
    go_ret2
    refine ⟨rfl, (((((Below.refl _ _).alloc (Nat.le_refl _) _).trans (hb.mono (by simp))).setCell (by simp) _).setCell (by simp) _).trans (hb2.mono ?_)⟩
    have := hb.size
    simp at this ⊢
    omega
  · have g1 : decide (a < 0) = false := by simpa using c1
    have g2 : decide (b < 0) = false := by simpa using c2
    have e1 : p = a * b := by rw [← hp]; exact mul_same (by simp [c1, c2])
    have E1 := Lib.hid e1
    clear e1 hp
    go_enter Tryz.func154, Tryz.ntmps154
    go_wp2_with fail
    refine (SA.out _).mono ?_
    rintro e w1 ⟨rfl, rfl⟩
    go_wp2_with fail
    refine (SB.out _).mono ?_
    rintro e w1 ⟨rfl, rfl⟩
    go_wp2_with fail
    refine (MM.out _).mono ?_
    rintro e w1 ⟨rfl, rfl⟩
    go_wp2_with fail
    rw [E1.out]
    refine (WH.out _).mono ?_
    rintro e w1 ⟨rfl, hb⟩
    go_wp2
    go_ret2
    exact ⟨rfl, ((Below.refl _ _).alloc (Nat.le_refl _) _).trans (hb.mono (by simp))⟩
theorem quotient_zero (a : Int) (w : World) :
    Calls Tryz.prog 155 #[.int .i64 a, .int .i64 0] w fun e w' => e = .returned (.tuple #[.int .i64 0, .int .i64 11]) ∧ w = w' := by
  go_enter Tryz.func155, Tryz.ntmps155
  go_wp2
  go_ret2
  exact ⟨rfl, rfl⟩
theorem quotient_least (w : World) :
    Calls Tryz.prog 155 #[.int .i64 (-9223372036854775808), .int .i64 (-1)] w fun e w' => e = .returned (.tuple #[.int .i64 0, .int .i64 10]) ∧ w = w' := by
  go_enter Tryz.func155, Tryz.ntmps155
  go_wp2
  go_ret2
  exact ⟨rfl, rfl⟩
theorem quotient_any (a b : Int) (ha : In64 a) (h0 : b ≠ 0) (h : ¬ (a = -9223372036854775808 ∧ b = -1)) (w : World) :
    Calls Tryz.prog 155 #[.int .i64 a, .int .i64 b] w fun e w' => e = .returned (.tuple #[.int .i64 (a.tdiv b), .int .i64 0]) ∧ w = w' := by
  have ht := tdiv_in ha h
  unfold In64 at ht
  have hi := IntWalk.i64_in _ ht
  have hb : (b == 0) = false := by simp [h0]
  obtain ⟨t0, t1⟩ := ht
  by_cases h1 : a = -9223372036854775808
  · have h2 : (b == -1) = false := by rw [beq_eq_false_iff_ne]; exact fun e => h ⟨h1, e⟩
    have g1 : (a == -9223372036854775808) = true := by simp [h1]
    clear h h1
    go_enter Tryz.func155, Tryz.ntmps155
    go_wp2
    go_ret2
    exact ⟨rfl, rfl⟩
  · have h2 : (a == -9223372036854775808) = false := by simp [h1]
    clear h h1
    go_enter Tryz.func155, Tryz.ntmps155
    go_wp2
    go_ret2
    exact ⟨rfl, rfl⟩
theorem remainder_zero (a : Int) (w : World) :
    Calls Tryz.prog 156 #[.int .i64 a, .int .i64 0] w fun e w' => e = .returned (.tuple #[.int .i64 0, .int .i64 11]) ∧ w = w' := by
  go_enter Tryz.func156, Tryz.ntmps156
  go_wp2
  go_ret2
  exact ⟨rfl, rfl⟩
theorem remainder_any (a b : Int) (h0 : b ≠ 0) (w : World) :
    Calls Tryz.prog 156 #[.int .i64 a, .int .i64 b] w fun e w' => e = .returned (.tuple #[.int .i64 (a.tmod b), .int .i64 0]) ∧ w = w' := by
  have hb : (b == 0) = false := by simp [h0]
  go_enter Tryz.func156, Tryz.ntmps156
  go_wp2
  go_ret2
  exact ⟨rfl, rfl⟩
end Go.Proofs.YtclcabdekeegdaaGreat
/- From NumWalks5. -/
namespace Go.Proofs.YtclcabdekeegdaaGreat
open Go.ChangeShapes Go.WideShapes Go.ChangeAt Go.RowKit
theorem in128_of {x : Int} (h0 : -36893488147419103232 ≤ x) (h1 : x ≤ 36893488147419103232) : In128 x := by unfold In128; omega
theorem do_add (a b : Int) (ha : In64 a) (hb : In64 b) (w : World) :
    Calls Tryz.prog 134 #[.int .i64 4, .int .i64 a, .int .i64 b] w fun e w' => e = .returned (.tuple #[.int .i64 (wholeN (a + b)), .int .i64 (wholeE (a + b))]) ∧ Below w.heap.size w w' := by
  have h8 : In128 (a + b) := by unfold In64 at ha hb; exact in128_of (by omega) (by omega)
  go_enter Tryz.func134, Tryz.ntmps134
  go_wp2_with fail
  refine (of_any a ha _).mono ?_
  rintro e w1 ⟨rfl, hb1⟩
  go_wp2_with fail
  refine (add_any a b hb _).mono ?_
  rintro e w2 ⟨rfl, hb2⟩
  go_wp2_with fail
  refine (whole_any (a + b) h8 _).mono ?_
  rintro e w3 ⟨rfl, hb3⟩
  go_wp2
  go_ret2
  exact ⟨rfl, (hb1.trans (hb2.mono hb1.size)).trans (hb3.mono (Nat.le_trans hb1.size hb2.size))⟩
theorem do_sub (a b : Int) (ha : In64 a) (hb : In64 b) (w : World) :
    Calls Tryz.prog 134 #[.int .i64 5, .int .i64 a, .int .i64 b] w fun e w' => e = .returned (.tuple #[.int .i64 (wholeN (a - b)), .int .i64 (wholeE (a - b))]) ∧ Below w.heap.size w w' := by
  have h8 : In128 (a - b) := by unfold In64 at ha hb; exact in128_of (by omega) (by omega)
  have E1 := Lib.hid (show a + -b = a - b by omega)
  go_enter Tryz.func134, Tryz.ntmps134
  go_wp2_with fail
  refine (of_any a ha _).mono ?_
  rintro e w1 ⟨rfl, hb1⟩
  go_wp2_with fail
  refine (of_any b hb _).mono ?_
  rintro e w2 ⟨rfl, hb2⟩
  go_wp2_with fail
  refine (negative_any b _).mono ?_
  rintro e w3 ⟨rfl, hb3⟩
  go_wp2_with fail
  refine (both_any a (-b) _).mono ?_
  rintro e w4 ⟨rfl, hb4⟩
  rw [E1.out]
  go_wp2_with fail
  refine (whole_any (a - b) h8 _).mono ?_
  rintro e w5 ⟨rfl, hb5⟩
  go_wp2
  go_ret2
  have s1 := hb1.size; have s2 := hb2.size; have s3 := hb3.size; have s4 := hb4.size
  exact ⟨rfl, (((hb1.trans (hb2.mono (by omega))).trans (hb3.mono (by omega))).trans (hb4.mono (by omega))).trans (hb5.mono (by omega))⟩
theorem do_mul (a b : Int) (ha : In64 a) (hb : In64 b) (w : World) :
    Calls Tryz.prog 134 #[.int .i64 6, .int .i64 a, .int .i64 b] w fun e w' => e = .returned (.tuple #[.int .i64 (wholeN (a * b)), .int .i64 (wholeE (a * b))]) ∧ Below w.heap.size w w' := by
  go_enter Tryz.func134, Tryz.ntmps134
  go_wp2_with fail
  refine (times_any a b ha hb _).mono ?_
  rintro e w1 ⟨rfl, hb1⟩
  go_wp2
  go_ret2
  exact ⟨rfl, hb1⟩
theorem do_div0 (a : Int) (w : World) :
    Calls Tryz.prog 134 #[.int .i64 7, .int .i64 a, .int .i64 0] w fun e w' => e = .returned (.tuple #[.int .i64 0, .int .i64 11]) ∧ w = w' := by
  go_enter Tryz.func134, Tryz.ntmps134
  go_wp2_with fail
  refine (quotient_zero a _).mono ?_
  rintro e w1 ⟨rfl, rfl⟩
  go_wp2
  go_ret2
  exact ⟨rfl, rfl⟩
theorem do_divL (w : World) :
    Calls Tryz.prog 134 #[.int .i64 7, .int .i64 (-9223372036854775808), .int .i64 (-1)] w fun e w' => e = .returned (.tuple #[.int .i64 0, .int .i64 10]) ∧ w = w' := by
  go_enter Tryz.func134, Tryz.ntmps134
  go_wp2_with fail
  refine (quotient_least _).mono ?_
  rintro e w1 ⟨rfl, rfl⟩
  go_wp2
  go_ret2
  exact ⟨rfl, rfl⟩
theorem do_div (a b : Int) (ha : In64 a) (h0 : b ≠ 0) (h : ¬ (a = -9223372036854775808 ∧ b = -1)) (w : World) :
    Calls Tryz.prog 134 #[.int .i64 7, .int .i64 a, .int .i64 b] w fun e w' => e = .returned (.tuple #[.int .i64 (a.tdiv b), .int .i64 0]) ∧ w = w' := by
  have H := Lib.hid (fun W => quotient_any a b ha h0 h W)
  clear ha h0 h
  go_enter Tryz.func134, Tryz.ntmps134
  go_wp2_with fail
  refine (H.out _).mono ?_
  rintro e w1 ⟨rfl, rfl⟩
  go_wp2
  go_ret2
  exact ⟨rfl, rfl⟩
theorem do_rem0 (a : Int) (w : World) :
    Calls Tryz.prog 134 #[.int .i64 8, .int .i64 a, .int .i64 0] w fun e w' => e = .returned (.tuple #[.int .i64 0, .int .i64 11]) ∧ w = w' := by
  go_enter Tryz.func134, Tryz.ntmps134
  go_wp2_with fail
  refine (remainder_zero a _).mono ?_
  rintro e w1 ⟨rfl, rfl⟩
  go_wp2
  go_ret2
  exact ⟨rfl, rfl⟩
theorem do_rem (a b : Int) (h0 : b ≠ 0) (w : World) :
    Calls Tryz.prog 134 #[.int .i64 8, .int .i64 a, .int .i64 b] w fun e w' => e = .returned (.tuple #[.int .i64 (a.tmod b), .int .i64 0]) ∧ w = w' := by
  have H := Lib.hid (fun W => remainder_any a b h0 W)
  clear h0
  go_enter Tryz.func134, Tryz.ntmps134
  go_wp2_with fail
  refine (H.out _).mono ?_
  rintro e w1 ⟨rfl, rfl⟩
  go_wp2
  go_ret2
  exact ⟨rfl, rfl⟩
theorem do_arg (op a b : Int) (h4 : op ≠ 4) (h5 : op ≠ 5) (h6 : op ≠ 6) (h7 : op ≠ 7) (h8 : op ≠ 8) (w : World) :
    Calls Tryz.prog 134 #[.int .i64 op, .int .i64 a, .int .i64 b] w fun e w' => e = .returned (.tuple #[.int .i64 0, .int .i64 2]) ∧ w = w' := by
  have g4 : (op == 4) = false := by simp [h4]
  have g5 : (op == 5) = false := by simp [h5]
  have g6 : (op == 6) = false := by simp [h6]
  have g7 : (op == 7) = false := by simp [h7]
  have g8 : (op == 8) = false := by simp [h8]
  clear h4 h5 h6 h7 h8
  go_enter Tryz.func134, Tryz.ntmps134
  go_wp2
  go_ret2
  exact ⟨rfl, rfl⟩
/-- Do, whatever it is given. -/
theorem do_any (op a b : Int) (ha : In64 a) (hb : In64 b) (w : World) :
    Calls Tryz.prog 134 #[.int .i64 op, .int .i64 a, .int .i64 b] w fun e w' => e = .returned (.tuple #[.int .i64 (doN op a b), .int .i64 (doE op a b)]) ∧ Below w.heap.size w w' := by
  by_cases h4 : op = 4
  · subst h4; exact do_add a b ha hb w
  by_cases h5 : op = 5
  · subst h5; exact do_sub a b ha hb w
  by_cases h6 : op = 6
  · subst h6; exact do_mul a b ha hb w
  by_cases h7 : op = 7
  · subst h7
    by_cases h0 : b = 0
    · subst h0; exact (do_div0 a w).mono fun e w' ⟨h, hw⟩ => ⟨h, hw ▸ Below.refl _ _⟩
    · by_cases hl : a = -9223372036854775808 ∧ b = -1
      · obtain ⟨rfl, rfl⟩ := hl
        exact (do_divL w).mono fun e w' ⟨h, hw⟩ => ⟨by rw [h]; simp [doN, doE, wholeN, wholeE], hw ▸ Below.refl _ _⟩
      · have ht := tdiv_in ha hl
        exact (do_div a b ha h0 hl w).mono fun e w' ⟨h, hw⟩ => ⟨by rw [h]; simp [doN, doE, h0, wholeN_yes ht, wholeE_yes ht], hw ▸ Below.refl _ _⟩
  by_cases h8 : op = 8
  · subst h8
    by_cases h0 : b = 0
    · subst h0; exact (do_rem0 a w).mono fun e w' ⟨h, hw⟩ => ⟨h, hw ▸ Below.refl _ _⟩
    · exact (do_rem a b h0 w).mono fun e w' ⟨h, hw⟩ => ⟨by rw [h]; simp [doN, doE, h0], hw ▸ Below.refl _ _⟩
  exact (do_arg op a b h4 h5 h6 h7 h8 w).mono fun e w' ⟨h, hw⟩ => ⟨by rw [h]; simp [doN, doE, h4, h5, h6, h7, h8], hw ▸ Below.refl _ _⟩
end Go.Proofs.YtclcabdekeegdaaGreat
