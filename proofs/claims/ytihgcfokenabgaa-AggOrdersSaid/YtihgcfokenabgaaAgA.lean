/- What a seat needs of several texts. -/
import Derived.Test.YtihgcfokenabgaaNumPlain
import Derived.Test.YtihgcfokenabgaaRows
import Derived.WalkKit
import Derived.WalkLawsBesides
import Derived.WalkSpells
import Derived.ProofKit
import Derived.Below
import Derived.Outline
import Derived.Lib.Hide
import Derived.Laws.Externs
import Derived.BigQuiet
import Derived.Deep.QuietTactic
import Derived.Deep.RegionWith
import Derived.Deep.RegionHeld3
import Derived.Lib.Mul64
import Derived.Laws.Bits64b
import Derived.LoopTactic
import Derived.RegionTactic
import Derived.BigRegion
/- From ExNumA. -/
namespace Go.Proofs.Ytihgcfokenabgaa
open Go.ChangeShapes Go.WideShapes Go.ChangeAt Go.RowKit
theorem of_any (n : Int) (hn : In64 n) (w : World) :
    Calls Try.prog 39 #[.int .i64 n] w fun e w' => e = .returned (SumV n) ∧ Below w.heap.size w w' := by
  have H := Lib.hid (hi_of hn)
  have H2 := Lib.hid (lo_of n)
  go_enter Try.func39, Try.ntmps39
  go_wp2
  rw [H.out, H2.out]
  exact bodyPost_ret (v := SumV n) (by simp [results, Try.results39, go_sem]) rfl ⟨rfl, (Below.refl _ _).alloc (Nat.le_refl _) _⟩
theorem add64_0 (x y : Int) (hx : 0 ≤ x) (hy : 0 ≤ y) (w : World) :
    (callFunc 49 #[.int .u64 x, .int .u64 y, .int .u64 0]).run Try.prog w = .ok (.value (.tuple #[.int .u64 (loA x y), .int .u64 (cyA x y)])) w := by
  rw [run_callFunc_extern Try.func49 (by kernel_rfl) (by kernel_rfl) (by kernel_rfl) (e := add64Entry) (by kernel_rfl), run_add64 x y 0 hx hy (by omega) (by omega)]
  simp only [Result.andThen, loA, cyA, Int.add_zero]
theorem both_any (x y : Int) (w : World) :
    Calls Try.prog 38 #[SumV x, SumV y] w fun e w' => e = .returned (SumV (x + y)) ∧ Below w.heap.size w w' := by
  have h := fun W => add64_0 (loZ x) (loZ y) (loZ_nonneg x) (loZ_nonneg y) W
  go_enter Try.func38, Try.ntmps38
  go_wp2
  clear h
  rw [hi_both', lo_both]
  exact bodyPost_ret (v := SumV (x + y)) (by simp [results, Try.results38, go_sem]) rfl ⟨rfl, (((Below.refl _ _).alloc (Nat.le_refl _) _).alloc (by simp) _).alloc (by simp; omega) _⟩
theorem frozen_later {w wx : World} {a : Addr} {v : Value} (hb : Below w.heap.size w wx) (h : w.cell? a = some v) (hf : w.frozen? a = false) : wx.frozen? a = false :=
  (hb.frozen (World.block_lt_of_cell? _ _ h)).trans hf
theorem add_any (x n : Int) (hn : In64 n) (w : World) :
    Calls Try.prog 28 #[SumV x, .int .i64 n] w fun e w' => e = .returned (SumV (x + n)) ∧ Below w.heap.size w w' := by
  go_enter Try.func28, Try.ntmps28
  go_wp2
  go_region_with ((first | (go_at_call 39; refine (of_any n hn _).mono ?_; rintro e w1 ⟨rfl, hb⟩; have c0 : w1.cell? ⟨w.heap.size, 0, none⟩ = some (.int .i64 (hiZ x)) := cell_later hb (by simp [go_sem]); have c1 : w1.cell? ⟨w.heap.size, 1, none⟩ = some (.int .u64 (loZ x)) := cell_later hb (by simp [go_sem]); have d0 : w1.cell? ⟨w.heap.size + 1, 0, none⟩ = some (.int .i64 0) := cell_later hb (by simp [go_sem]); have d1 : w1.cell? ⟨w.heap.size + 1, 1, none⟩ = some (.int .u64 0) := cell_later hb (by simp [go_sem]); have f0 : w1.frozen? ⟨w.heap.size + 1, 0, none⟩ = false := frozen_later (v := .int .i64 0) hb (by simp [go_sem]) (by simp [go_sem]); have f1 : w1.frozen? ⟨w.heap.size + 1, 1, none⟩ = false := frozen_later (v := .int .u64 0) hb (by simp [go_sem]) (by simp [go_sem])) | (go_at_call 38; refine (both_any x n _).mono ?_; rintro e w2 ⟨rfl, hb2⟩; have d2 := cell_later hb2 d0; have d3 := cell_later hb2 d1; have f2 := frozen_later hb2 d0 f0; have f3 := frozen_later hb2 d1 f1)))
  all_goals
    go_wp2
    have hA : Below w.heap.size w w2 := (((((Below.refl _ _).alloc (Nat.le_refl _) _).alloc (by simp) _).drew).trans (hb.mono (by simp; omega))).trans (hb2.mono (by have := hb.size; simp at this; omega))
    exact bodyPost_ret (v := SumV (x + n)) (by simp [results, Try.results28, go_sem, d2, d3]) rfl ⟨rfl, (hA.setCell (by simp) _).setCell (by simp) _⟩
end Go.Proofs.Ytihgcfokenabgaa
namespace Go.Proofs.Ytihgcfokenabgaa
open Go.ChangeShapes Go.WideShapes Go.ChangeAt Go.RowKit
/-- Package num's Int at a sum that stands for a number of 64 bits. -/
theorem int_yes (x : Int) (hx : In64 x) (w : World) :
    Calls Try.prog 51 #[SumV x] w fun e w' => e = .returned (.tuple #[.int .i64 x, .bool true]) ∧ Below w.heap.size w w' := by
  have hlo := lo_is hx
  go_enter Try.func51, Try.ntmps51
  go_wp2_with fail
  go_region_with (go_at_call 39; refine (of_any x hx _).mono ?_; rintro e w1 ⟨rfl, hb⟩; have c0 : w1.cell? ⟨w.heap.size, 0, none⟩ = some (.int .i64 (hiZ x)) := cell_later hb (by simp [go_sem]); have c1 : w1.cell? ⟨w.heap.size, 1, none⟩ = some (.int .u64 (loZ x)) := cell_later hb (by simp [go_sem]))
  all_goals
    go_wp2
    go_ret2
    exact ⟨rfl, ((((Below.refl _ _).alloc (Nat.le_refl _) _)).drew).trans (hb.mono (by simp))⟩
theorem int_no (x : Int) (h8 : In128 x) (hx : ¬ In64 x) (w : World) :
    Calls Try.prog 51 #[SumV x] w fun e w' => e = .returned (.tuple #[.int .i64 0, .bool false]) ∧ Below w.heap.size w w' := by
  have hlo := lo_lo x
  have hhi := hi_no h8 hx
  have hin := wrap_lo_in x
  clear h8 hx
  go_enter Try.func51, Try.ntmps51
  go_wp2_with fail
  go_region_with (go_at_call 39; refine (of_any (wrap64 (loZ x)) hin _).mono ?_; rintro e w1 ⟨rfl, hb⟩; have c0 : w1.cell? ⟨w.heap.size, 0, none⟩ = some (.int .i64 (hiZ x)) := cell_later hb (by simp [go_sem]); have c1 : w1.cell? ⟨w.heap.size, 1, none⟩ = some (.int .u64 (loZ x)) := cell_later hb (by simp [go_sem]))
  all_goals
    go_wp2
    go_ret2
    exact ⟨rfl, ((((Below.refl _ _).alloc (Nat.le_refl _) _)).drew).trans (hb.mono (by simp))⟩
end Go.Proofs.Ytihgcfokenabgaa
namespace Go.Proofs.Ytihgcfokenabgaa
open Go.ChangeShapes Go.WideShapes Go.ChangeAt Go.RowKit
namespace Mul64
end Mul64
end Go.Proofs.Ytihgcfokenabgaa
namespace Go.Proofs.Ytihgcfokenabgaa
open Go.ChangeShapes Go.WideShapes Go.ChangeAt Go.RowKit
end Go.Proofs.Ytihgcfokenabgaa
namespace Go.Proofs.Ytihgcfokenabgaa
open Go.ChangeShapes Go.WideShapes Go.ChangeAt Go.RowKit
end Go.Proofs.Ytihgcfokenabgaa
/- From ExNumB. -/
namespace Go.Proofs.Ytihgcfokenabgaa
open Go.ChangeShapes Go.WideShapes Go.ChangeAt Go.RowKit
end Go.Proofs.Ytihgcfokenabgaa
namespace Go.Proofs.Ytihgcfokenabgaa
open Go.RowKit
/-- Two to the power of sixteen times i. -/
def p16 : Nat → Int
  | 0 => 1
  | 1 => 65536
  | 2 => 4294967296
  | 3 => 281474976710656
  | 4 => 18446744073709551616
  | 5 => 1208925819614629174706176
  | 6 => 79228162514264337593543950336
  | 7 => 5192296858534827628530496329220096
  | _ => 340282366920938463463374607431768211456
/-- Part i of the whole number x. -/
def lim (x : Int) (i : Nat) : Int := x / p16 i % 65536
/-- What is carried into part i of a sum. -/
def cr (x y : Int) (i : Nat) : Int := (x % p16 i + y % p16 i) / p16 i
/-- The array of a sum's parts. -/
abbrev LimV (x : Int) : Value := .agg #[.int .u32 (lim x 0), .int .u32 (lim x 1), .int .u32 (lim x 2), .int .u32 (lim x 3), .int .u32 (lim x 4), .int .u32 (lim x 5), .int .u32 (lim x 6), .int .u32 (lim x 7)]
theorem lim_nonneg (x : Int) (i : Nat) : 0 ≤ lim x i := by unfold lim; omega
theorem lim_le (x : Int) (i : Nat) : lim x i ≤ 65535 := by unfold lim; omega
theorem cr_zero (x y : Int) : cr x y 0 = 0 := by unfold cr; simp only [p16]; omega
theorem mask16 (a : Int) (h0 : 0 ≤ a) (h1 : a < 4294967296) : bits .and .u32 a 65535 = a % 65536 := by
  obtain ⟨n, rfl⟩ := Int.eq_ofNat_of_zero_le h0
  have h := u32_and_nat n 65535 (by omega) (by omega)
  have e : n &&& 65535 = n % 65536 := Nat.and_two_pow_sub_one_eq_mod n 16
  rw [e] at h
  exact h
theorem wrap_hi (x : Int) : IntKind.u64.wrap (hiZ x) = x / 18446744073709551616 % 18446744073709551616 := by
  unfold hiZ; rw [IntKind.wrap_u64, IntKind.wrap_i64]; omega
theorem lim_lo0 (x : Int) : bits .and .u32 (loZ x % 4294967296) 65535 = lim x 0 := by
  rw [mask16 _ (by omega) (by omega)]; unfold loZ lim; simp only [p16]; omega
theorem lim_hi0 (x : Int) : bits .and .u32 (IntKind.u64.wrap (hiZ x) % 4294967296) 65535 = lim x 4 := by
  rw [mask16 _ (by omega) (by omega), wrap_hi]; unfold lim; simp only [p16]; omega
theorem lim_lo1 (x : Int) : bits .and .u32 (loZ x / 65536 % 4294967296) 65535 = lim x 1 := by
  rw [mask16 _ (by omega) (by omega)]; unfold loZ lim; simp only [p16]; omega
theorem lim_hi1 (x : Int) : bits .and .u32 (IntKind.u64.wrap (hiZ x) / 65536 % 4294967296) 65535 = lim x 5 := by
  rw [mask16 _ (by omega) (by omega), wrap_hi]; unfold lim; simp only [p16]; omega
theorem lim_lo2 (x : Int) : bits .and .u32 (loZ x / 4294967296 % 4294967296) 65535 = lim x 2 := by
  rw [mask16 _ (by omega) (by omega)]; unfold loZ lim; simp only [p16]; omega
theorem lim_hi2 (x : Int) : bits .and .u32 (IntKind.u64.wrap (hiZ x) / 4294967296 % 4294967296) 65535 = lim x 6 := by
  rw [mask16 _ (by omega) (by omega), wrap_hi]; unfold lim; simp only [p16]; omega
theorem lim_lo3 (x : Int) : bits .and .u32 (loZ x / 281474976710656 % 4294967296) 65535 = lim x 3 := by
  rw [mask16 _ (by omega) (by omega)]; unfold loZ lim; simp only [p16]; omega
theorem lim_hi3 (x : Int) : bits .and .u32 (IntKind.u64.wrap (hiZ x) / 281474976710656 % 4294967296) 65535 = lim x 7 := by
  rw [mask16 _ (by omega) (by omega), wrap_hi]; unfold lim; simp only [p16]; omega
theorem both_lim0 (x y : Int) : (lim x 0 + lim y 0 + cr x y 0) % 65536 = lim (x + y) 0 := by unfold lim cr; simp only [p16]; omega
theorem both_cr0 (x y : Int) : (lim x 0 + lim y 0 + cr x y 0) / 65536 = cr x y 1 := by unfold lim cr; simp only [p16]; omega
theorem both_lim1 (x y : Int) : (lim x 1 + lim y 1 + cr x y 1) % 65536 = lim (x + y) 1 := by unfold lim cr; simp only [p16]; omega
theorem both_cr1 (x y : Int) : (lim x 1 + lim y 1 + cr x y 1) / 65536 = cr x y 2 := by unfold lim cr; simp only [p16]; omega
theorem both_lim2 (x y : Int) : (lim x 2 + lim y 2 + cr x y 2) % 65536 = lim (x + y) 2 := by unfold lim cr; simp only [p16]; omega
theorem both_cr2 (x y : Int) : (lim x 2 + lim y 2 + cr x y 2) / 65536 = cr x y 3 := by unfold lim cr; simp only [p16]; omega
theorem both_lim3 (x y : Int) : (lim x 3 + lim y 3 + cr x y 3) % 65536 = lim (x + y) 3 := by unfold lim cr; simp only [p16]; omega
theorem both_cr3 (x y : Int) : (lim x 3 + lim y 3 + cr x y 3) / 65536 = cr x y 4 := by unfold lim cr; simp only [p16]; omega
theorem both_lim4 (x y : Int) : (lim x 4 + lim y 4 + cr x y 4) % 65536 = lim (x + y) 4 := by unfold lim cr; simp only [p16]; omega
theorem both_cr4 (x y : Int) : (lim x 4 + lim y 4 + cr x y 4) / 65536 = cr x y 5 := by unfold lim cr; simp only [p16]; omega
theorem both_lim5 (x y : Int) : (lim x 5 + lim y 5 + cr x y 5) % 65536 = lim (x + y) 5 := by unfold lim cr; simp only [p16]; omega
theorem both_cr5 (x y : Int) : (lim x 5 + lim y 5 + cr x y 5) / 65536 = cr x y 6 := by unfold lim cr; simp only [p16]; omega
theorem both_lim6 (x y : Int) : (lim x 6 + lim y 6 + cr x y 6) % 65536 = lim (x + y) 6 := by unfold lim cr; simp only [p16]; omega
theorem both_cr6 (x y : Int) : (lim x 6 + lim y 6 + cr x y 6) / 65536 = cr x y 7 := by unfold lim cr; simp only [p16]; omega
theorem both_lim7 (x y : Int) : (lim x 7 + lim y 7 + cr x y 7) % 65536 = lim (x + y) 7 := by unfold lim cr; simp only [p16]; omega
theorem both_cr7 (x y : Int) : (lim x 7 + lim y 7 + cr x y 7) / 65536 = cr x y 8 := by unfold lim cr; simp only [p16]; omega
theorem cr_in (x y : Int) (i : Nat) (h : i < 9) : 0 ≤ cr x y i ∧ cr x y i ≤ 1 := by
  have : i = 0 ∨ i = 1 ∨ i = 2 ∨ i = 3 ∨ i = 4 ∨ i = 5 ∨ i = 6 ∨ i = 7 ∨ i = 8 := by omega
  rcases this with rfl | rfl | rfl | rfl | rfl | rfl | rfl | rfl | rfl <;> (unfold cr; simp only [p16]; omega)
/-- The upper parts of a half, from part i on. -/
def loU (x : Int) (i : Nat) : Int := x % 18446744073709551616 / p16 i
def hiU (x : Int) (i : Nat) : Int := x / 18446744073709551616 % 18446744073709551616 / p16 i
theorem or16 (a b : Int) (h0 : 0 ≤ a) (h1 : a < 281474976710656) (b0 : 0 ≤ b) (b1 : b < 65536) : bits .or .u64 (a * 65536) b = a * 65536 + b := by
  obtain ⟨n, rfl⟩ := Int.eq_ofNat_of_zero_le h0
  obtain ⟨m, rfl⟩ := Int.eq_ofNat_of_zero_le b0
  have e : ((n : Int) * 65536) = ((n * 65536 : Nat) : Int) := by omega
  rw [e, u64_or_nat (n * 65536) m (by omega) (by omega)]
  have := Nat.two_pow_add_eq_or_of_lt (i := 16) (b := m) (by omega) n
  rw [show n * 65536 = 2 ^ 16 * n by omega, ← this]
  omega
theorem lo_top (x : Int) : bits .or .u64 0 (IntKind.u64.wrap (lim x 3)) = loU x 3 := by
  have h := or16 0 (lim x 3) (by omega) (by omega) (lim_nonneg _ _) (by have := lim_le x 3; omega)
  have h2 := lim_nonneg x 3; have h3 := lim_le x 3
  rw [IntWalk.u64_in _ (by omega)]
  simp at h
  rw [h]; unfold loU lim; simp only [p16]; omega
theorem hi_top (x : Int) : bits .or .u64 0 (IntKind.u64.wrap (lim x 7)) = hiU x 3 := by
  have h := or16 0 (lim x 7) (by omega) (by omega) (lim_nonneg _ _) (by have := lim_le x 7; omega)
  have h2 := lim_nonneg x 7; have h3 := lim_le x 7
  rw [IntWalk.u64_in _ (by omega)]
  simp at h
  rw [h]; unfold hiU lim; simp only [p16]; omega
theorem lo_step0 (x : Int) : bits .or .u64 (IntKind.u64.wrap (loU x 1 * 65536)) (IntKind.u64.wrap (lim x 0)) = loU x 0 := by
  have h2 := lim_nonneg x 0; have h3 := lim_le x 0
  have h4 : 0 ≤ loU x 1 := by unfold loU; simp only [p16]; omega
  have h5 : loU x 1 < 281474976710656 := by unfold loU; simp only [p16]; omega
  rw [IntWalk.u64_in (lim x 0) (by omega), IntWalk.u64_in _ (by omega), or16 _ _ h4 h5 h2 (by omega)]
  unfold loU lim; simp only [p16]; omega
theorem hi_step0 (x : Int) : bits .or .u64 (IntKind.u64.wrap (hiU x 1 * 65536)) (IntKind.u64.wrap (lim x 4)) = hiU x 0 := by
  have h2 := lim_nonneg x 4; have h3 := lim_le x 4
  have h4 : 0 ≤ hiU x 1 := by unfold hiU; simp only [p16]; omega
  have h5 : hiU x 1 < 281474976710656 := by unfold hiU; simp only [p16]; omega
  rw [IntWalk.u64_in (lim x 4) (by omega), IntWalk.u64_in _ (by omega), or16 _ _ h4 h5 h2 (by omega)]
  unfold hiU lim; simp only [p16]; omega
theorem lo_step1 (x : Int) : bits .or .u64 (IntKind.u64.wrap (loU x 2 * 65536)) (IntKind.u64.wrap (lim x 1)) = loU x 1 := by
  have h2 := lim_nonneg x 1; have h3 := lim_le x 1
  have h4 : 0 ≤ loU x 2 := by unfold loU; simp only [p16]; omega
  have h5 : loU x 2 < 281474976710656 := by unfold loU; simp only [p16]; omega
  rw [IntWalk.u64_in (lim x 1) (by omega), IntWalk.u64_in _ (by omega), or16 _ _ h4 h5 h2 (by omega)]
  unfold loU lim; simp only [p16]; omega
theorem hi_step1 (x : Int) : bits .or .u64 (IntKind.u64.wrap (hiU x 2 * 65536)) (IntKind.u64.wrap (lim x 5)) = hiU x 1 := by
  have h2 := lim_nonneg x 5; have h3 := lim_le x 5
  have h4 : 0 ≤ hiU x 2 := by unfold hiU; simp only [p16]; omega
  have h5 : hiU x 2 < 281474976710656 := by unfold hiU; simp only [p16]; omega
  rw [IntWalk.u64_in (lim x 5) (by omega), IntWalk.u64_in _ (by omega), or16 _ _ h4 h5 h2 (by omega)]
  unfold hiU lim; simp only [p16]; omega
theorem lo_step2 (x : Int) : bits .or .u64 (IntKind.u64.wrap (loU x 3 * 65536)) (IntKind.u64.wrap (lim x 2)) = loU x 2 := by
  have h2 := lim_nonneg x 2; have h3 := lim_le x 2
  have h4 : 0 ≤ loU x 3 := by unfold loU; simp only [p16]; omega
  have h5 : loU x 3 < 281474976710656 := by unfold loU; simp only [p16]; omega
  rw [IntWalk.u64_in (lim x 2) (by omega), IntWalk.u64_in _ (by omega), or16 _ _ h4 h5 h2 (by omega)]
  unfold loU lim; simp only [p16]; omega
theorem hi_step2 (x : Int) : bits .or .u64 (IntKind.u64.wrap (hiU x 3 * 65536)) (IntKind.u64.wrap (lim x 6)) = hiU x 2 := by
  have h2 := lim_nonneg x 6; have h3 := lim_le x 6
  have h4 : 0 ≤ hiU x 3 := by unfold hiU; simp only [p16]; omega
  have h5 : hiU x 3 < 281474976710656 := by unfold hiU; simp only [p16]; omega
  rw [IntWalk.u64_in (lim x 6) (by omega), IntWalk.u64_in _ (by omega), or16 _ _ h4 h5 h2 (by omega)]
  unfold hiU lim; simp only [p16]; omega
theorem lo_end (x : Int) : loU x 0 = loZ x := by unfold loU loZ; simp only [p16]; omega
theorem hi_end (x : Int) : wrap64 (hiU x 0) = hiZ x := by unfold hiU hiZ wrap64; rw [IntKind.wrap_i64]; simp only [p16]; omega
theorem both_mask0 (x y : Int) : bits .and .u32 (lim x 0 + lim y 0) 65535 = lim (x + y) 0 := by
  have h0 := lim_nonneg x 0; have h1 := lim_le x 0; have h2 := lim_nonneg y 0; have h3 := lim_le y 0; have h4 := cr_in x y 0 (by omega)
  have h5 := both_lim0 x y
  rw [cr_zero, Int.add_zero] at h5
  rw [mask16 _ (by omega) (by omega), h5]
theorem both_next0 (x y : Int) : (lim x 0 + lim y 0) / 65536 = cr x y 1 := by
  have h5 := both_cr0 x y
  rw [cr_zero, Int.add_zero] at h5
  exact h5
theorem both_in0 (x y : Int) : (lim x 0 + lim y 0) % 4294967296 = lim x 0 + lim y 0 := by
  have h0 := lim_nonneg x 0; have h1 := lim_le x 0; have h2 := lim_nonneg y 0; have h3 := lim_le y 0
  omega
theorem both_mask1 (x y : Int) : bits .and .u32 (lim x 1 + lim y 1 + cr x y 1) 65535 = lim (x + y) 1 := by
  have h0 := lim_nonneg x 1; have h1 := lim_le x 1; have h2 := lim_nonneg y 1; have h3 := lim_le y 1; have h4 := cr_in x y 1 (by omega)
  have h5 := both_lim1 x y
  skip
  rw [mask16 _ (by omega) (by omega), h5]
theorem both_next1 (x y : Int) : (lim x 1 + lim y 1 + cr x y 1) / 65536 = cr x y 2 := by
  have h5 := both_cr1 x y
  skip
  exact h5
theorem both_in1 (x y : Int) : (lim x 1 + lim y 1) % 4294967296 = lim x 1 + lim y 1 := by
  have h0 := lim_nonneg x 1; have h1 := lim_le x 1; have h2 := lim_nonneg y 1; have h3 := lim_le y 1
  omega
theorem both_inc1 (x y : Int) : (lim x 1 + lim y 1 + cr x y 1) % 4294967296 = lim x 1 + lim y 1 + cr x y 1 := by
  have h0 := lim_nonneg x 1; have h1 := lim_le x 1; have h2 := lim_nonneg y 1; have h3 := lim_le y 1; have h4 := cr_in x y 1 (by omega)
  omega
theorem both_mask2 (x y : Int) : bits .and .u32 (lim x 2 + lim y 2 + cr x y 2) 65535 = lim (x + y) 2 := by
  have h0 := lim_nonneg x 2; have h1 := lim_le x 2; have h2 := lim_nonneg y 2; have h3 := lim_le y 2; have h4 := cr_in x y 2 (by omega)
  have h5 := both_lim2 x y
  skip
  rw [mask16 _ (by omega) (by omega), h5]
theorem both_next2 (x y : Int) : (lim x 2 + lim y 2 + cr x y 2) / 65536 = cr x y 3 := by
  have h5 := both_cr2 x y
  skip
  exact h5
theorem both_in2 (x y : Int) : (lim x 2 + lim y 2) % 4294967296 = lim x 2 + lim y 2 := by
  have h0 := lim_nonneg x 2; have h1 := lim_le x 2; have h2 := lim_nonneg y 2; have h3 := lim_le y 2
  omega
theorem both_inc2 (x y : Int) : (lim x 2 + lim y 2 + cr x y 2) % 4294967296 = lim x 2 + lim y 2 + cr x y 2 := by
  have h0 := lim_nonneg x 2; have h1 := lim_le x 2; have h2 := lim_nonneg y 2; have h3 := lim_le y 2; have h4 := cr_in x y 2 (by omega)
  omega
theorem both_mask3 (x y : Int) : bits .and .u32 (lim x 3 + lim y 3 + cr x y 3) 65535 = lim (x + y) 3 := by
  have h0 := lim_nonneg x 3; have h1 := lim_le x 3; have h2 := lim_nonneg y 3; have h3 := lim_le y 3; have h4 := cr_in x y 3 (by omega)
  have h5 := both_lim3 x y
  skip
  rw [mask16 _ (by omega) (by omega), h5]
theorem both_next3 (x y : Int) : (lim x 3 + lim y 3 + cr x y 3) / 65536 = cr x y 4 := by
  have h5 := both_cr3 x y
  skip
  exact h5
theorem both_in3 (x y : Int) : (lim x 3 + lim y 3) % 4294967296 = lim x 3 + lim y 3 := by
  have h0 := lim_nonneg x 3; have h1 := lim_le x 3; have h2 := lim_nonneg y 3; have h3 := lim_le y 3
  omega
theorem both_inc3 (x y : Int) : (lim x 3 + lim y 3 + cr x y 3) % 4294967296 = lim x 3 + lim y 3 + cr x y 3 := by
  have h0 := lim_nonneg x 3; have h1 := lim_le x 3; have h2 := lim_nonneg y 3; have h3 := lim_le y 3; have h4 := cr_in x y 3 (by omega)
  omega
theorem both_mask4 (x y : Int) : bits .and .u32 (lim x 4 + lim y 4 + cr x y 4) 65535 = lim (x + y) 4 := by
  have h0 := lim_nonneg x 4; have h1 := lim_le x 4; have h2 := lim_nonneg y 4; have h3 := lim_le y 4; have h4 := cr_in x y 4 (by omega)
  have h5 := both_lim4 x y
  skip
  rw [mask16 _ (by omega) (by omega), h5]
theorem both_next4 (x y : Int) : (lim x 4 + lim y 4 + cr x y 4) / 65536 = cr x y 5 := by
  have h5 := both_cr4 x y
  skip
  exact h5
theorem both_in4 (x y : Int) : (lim x 4 + lim y 4) % 4294967296 = lim x 4 + lim y 4 := by
  have h0 := lim_nonneg x 4; have h1 := lim_le x 4; have h2 := lim_nonneg y 4; have h3 := lim_le y 4
  omega
theorem both_inc4 (x y : Int) : (lim x 4 + lim y 4 + cr x y 4) % 4294967296 = lim x 4 + lim y 4 + cr x y 4 := by
  have h0 := lim_nonneg x 4; have h1 := lim_le x 4; have h2 := lim_nonneg y 4; have h3 := lim_le y 4; have h4 := cr_in x y 4 (by omega)
  omega
theorem both_mask5 (x y : Int) : bits .and .u32 (lim x 5 + lim y 5 + cr x y 5) 65535 = lim (x + y) 5 := by
  have h0 := lim_nonneg x 5; have h1 := lim_le x 5; have h2 := lim_nonneg y 5; have h3 := lim_le y 5; have h4 := cr_in x y 5 (by omega)
  have h5 := both_lim5 x y
  skip
  rw [mask16 _ (by omega) (by omega), h5]
theorem both_next5 (x y : Int) : (lim x 5 + lim y 5 + cr x y 5) / 65536 = cr x y 6 := by
  have h5 := both_cr5 x y
  skip
  exact h5
theorem both_in5 (x y : Int) : (lim x 5 + lim y 5) % 4294967296 = lim x 5 + lim y 5 := by
  have h0 := lim_nonneg x 5; have h1 := lim_le x 5; have h2 := lim_nonneg y 5; have h3 := lim_le y 5
  omega
theorem both_inc5 (x y : Int) : (lim x 5 + lim y 5 + cr x y 5) % 4294967296 = lim x 5 + lim y 5 + cr x y 5 := by
  have h0 := lim_nonneg x 5; have h1 := lim_le x 5; have h2 := lim_nonneg y 5; have h3 := lim_le y 5; have h4 := cr_in x y 5 (by omega)
  omega
theorem both_mask6 (x y : Int) : bits .and .u32 (lim x 6 + lim y 6 + cr x y 6) 65535 = lim (x + y) 6 := by
  have h0 := lim_nonneg x 6; have h1 := lim_le x 6; have h2 := lim_nonneg y 6; have h3 := lim_le y 6; have h4 := cr_in x y 6 (by omega)
  have h5 := both_lim6 x y
  skip
  rw [mask16 _ (by omega) (by omega), h5]
theorem both_next6 (x y : Int) : (lim x 6 + lim y 6 + cr x y 6) / 65536 = cr x y 7 := by
  have h5 := both_cr6 x y
  skip
  exact h5
theorem both_in6 (x y : Int) : (lim x 6 + lim y 6) % 4294967296 = lim x 6 + lim y 6 := by
  have h0 := lim_nonneg x 6; have h1 := lim_le x 6; have h2 := lim_nonneg y 6; have h3 := lim_le y 6
  omega
theorem both_inc6 (x y : Int) : (lim x 6 + lim y 6 + cr x y 6) % 4294967296 = lim x 6 + lim y 6 + cr x y 6 := by
  have h0 := lim_nonneg x 6; have h1 := lim_le x 6; have h2 := lim_nonneg y 6; have h3 := lim_le y 6; have h4 := cr_in x y 6 (by omega)
  omega
theorem both_mask7 (x y : Int) : bits .and .u32 (lim x 7 + lim y 7 + cr x y 7) 65535 = lim (x + y) 7 := by
  have h0 := lim_nonneg x 7; have h1 := lim_le x 7; have h2 := lim_nonneg y 7; have h3 := lim_le y 7; have h4 := cr_in x y 7 (by omega)
  have h5 := both_lim7 x y
  skip
  rw [mask16 _ (by omega) (by omega), h5]
theorem both_next7 (x y : Int) : (lim x 7 + lim y 7 + cr x y 7) / 65536 = cr x y 8 := by
  have h5 := both_cr7 x y
  skip
  exact h5
theorem both_in7 (x y : Int) : (lim x 7 + lim y 7) % 4294967296 = lim x 7 + lim y 7 := by
  have h0 := lim_nonneg x 7; have h1 := lim_le x 7; have h2 := lim_nonneg y 7; have h3 := lim_le y 7
  omega
theorem both_inc7 (x y : Int) : (lim x 7 + lim y 7 + cr x y 7) % 4294967296 = lim x 7 + lim y 7 + cr x y 7 := by
  have h0 := lim_nonneg x 7; have h1 := lim_le x 7; have h2 := lim_nonneg y 7; have h3 := lim_le y 7; have h4 := cr_in x y 7 (by omega)
  omega
end Go.Proofs.Ytihgcfokenabgaa
namespace Go.Proofs.Ytihgcfokenabgaa
open Go.ChangeShapes Go.WideShapes Go.ChangeAt Go.RowKit
theorem wide_any (n : Int) (hn : In64 n) (w : World) :
    Calls Try.prog 30 #[.int .i64 n] w fun e w' => e = .returned (SumV n) ∧ Below w.heap.size w w' := by
  have H2 := Lib.hid (lo_of n)
  by_cases h : n < 0
  · have H := Lib.hid (show (-1 : Int) = hiZ n by unfold hiZ In64 at *; rw [IntKind.wrap_i64]; omega)
    go_enter Try.func30, Try.ntmps30
    go_wp2
    rw [H2.out, H.out]
    exact bodyPost_ret (v := SumV n) (by simp [results, Try.results30, go_sem]) rfl ⟨rfl, (Below.refl _ _).alloc (Nat.le_refl _) _⟩
  · have H := Lib.hid (show (0 : Int) = hiZ n by unfold hiZ In64 at *; rw [IntKind.wrap_i64]; omega)
    go_enter Try.func30, Try.ntmps30
    go_wp2
    rw [H2.out]
    rw [H.out]
    exact bodyPost_ret (v := SumV n) (by simp [results, Try.results30, go_sem]) rfl ⟨rfl, (Below.refl _ _).alloc (Nat.le_refl _) _⟩
set_option maxRecDepth 100000 in
set_option maxHeartbeats 1000000 in
theorem limbs_any (x : Int) (w : World) :
    Calls Try.prog 40 #[SumV x] w fun e w' => e = .returned (LimV x) ∧ Below w.heap.size w w' := by
  have h0 := lim_lo0 x; have h1 := lim_lo1 x; have h2 := lim_lo2 x; have h3 := lim_lo3 x
  have h4 := lim_hi0 x; have h5 := lim_hi1 x; have h6 := lim_hi2 x; have h7 := lim_hi3 x
  go_enter Try.func40, Try.ntmps40
  go_wp2
  refine wp_loop_rounds 5 ?_
  iterate 5 (rw [rounds_succ]; go_wp2)
  exact bodyPost_ret (v := LimV x) (by simp [results, Try.results40, go_sem]) rfl ⟨rfl, (((Below.refl _ _).alloc (Nat.le_refl _) _).alloc (by simp) _).alloc (by simp; omega) _⟩
set_option maxRecDepth 100000 in
set_option maxHeartbeats 1000000 in
theorem of_limbs (x : Int) (w : World) :
    Calls Try.prog 41 #[LimV x] w fun e w' => e = .returned (SumV x) ∧ Below w.heap.size w w' := by
  have t0 := lo_top x; have t1 := hi_top x
  have l0 := lo_step0 x; have l1 := lo_step1 x; have l2 := lo_step2 x
  have k0 := hi_step0 x; have k1 := hi_step1 x; have k2 := hi_step2 x
  have z0 := lo_end x; have z1 := hi_end x
  go_enter Try.func41, Try.ntmps41
  go_wp2
  refine wp_loop_rounds 5 ?_
  iterate 5 (rw [rounds_succ]; go_wp2)
  exact bodyPost_ret (v := SumV x) (by simp [results, Try.results41, go_sem]) rfl ⟨rfl, ((Below.refl _ _).alloc (Nat.le_refl _) _).alloc (by simp) _⟩
end Go.Proofs.Ytihgcfokenabgaa
/- From ExNumC. -/
namespace Go.Proofs.Ytihgcfokenabgaa
open Go.ChangeShapes Go.WideShapes Go.ChangeAt Go.RowKit
set_option maxRecDepth 100000 in
set_option maxHeartbeats 4000000 in
theorem refboth_any (x y : Int) (w : World) :
    Calls Try.prog 29 #[SumV x, SumV y] w fun e w' => e = .returned (SumV (x + y)) ∧ Below w.heap.size w w' := by
  go_enter Try.func29, Try.ntmps29
  go_wp2_with fail
  refine (limbs_any x _).mono ?_
  rintro e w1 ⟨rfl, hb1⟩
  have c0 : w1.cell? ⟨w.heap.size + 1, 0, none⟩ = some (.int .i64 (hiZ y)) := cell_later hb1 (by simp [go_sem])
  have c1 : w1.cell? ⟨w.heap.size + 1, 1, none⟩ = some (.int .u64 (loZ y)) := cell_later hb1 (by simp [go_sem])
  have d0 : w1.cell? ⟨w.heap.size + 1 + 1, 0, none⟩ = some (.int .i64 0) := cell_later hb1 (by simp [go_sem])
  have d1 : w1.cell? ⟨w.heap.size + 1 + 1, 1, none⟩ = some (.int .u64 0) := cell_later hb1 (by simp [go_sem])
  have f0 : w1.frozen? ⟨w.heap.size + 1 + 1, 0, none⟩ = false := frozen_later (v := .int .i64 0) hb1 (by simp [go_sem]) (by simp [go_sem])
  have f1 : w1.frozen? ⟨w.heap.size + 1 + 1, 1, none⟩ = false := frozen_later (v := .int .u64 0) hb1 (by simp [go_sem]) (by simp [go_sem])
  have s1 : w.heap.size + 1 + 1 < w1.heap.size := by have := hb1.size; simp at this; omega
  have s0 : w.heap.size + 1 < w1.heap.size := by omega
  have B1 : Below w.heap.size w w1 := (((Below.refl _ _).alloc (Nat.le_refl _) _).alloc (by simp) _ |>.alloc (by simp; omega) _).trans (hb1.mono (by simp; omega))
  have hne : w1.heap.size ≠ w.heap.size + 1 := by omega
  have hne2 : w1.heap.size ≠ w.heap.size + 1 + 1 := by omega
  clear hb1
  go_wp2_with fail
  refine (limbs_any y _).mono ?_
  rintro e w2 ⟨rfl, hb2⟩
  have d2 : w2.cell? ⟨w.heap.size + 1 + 1, 0, none⟩ = some (.int .i64 0) := cell_later hb2 (by rw [World.cell?_alloc_past _ _ _ (by omega)]; exact d0)
  have d3 : w2.cell? ⟨w.heap.size + 1 + 1, 1, none⟩ = some (.int .u64 0) := cell_later hb2 (by rw [World.cell?_alloc_past _ _ _ (by omega)]; exact d1)
  have f2 : w2.frozen? ⟨w.heap.size + 1 + 1, 0, none⟩ = false := frozen_later (v := .int .i64 0) hb2 (by rw [World.cell?_alloc_past _ _ _ (by omega)]; exact d0) (by rw [frozen?_alloc_cells]; exact f0)
  have f3 : w2.frozen? ⟨w.heap.size + 1 + 1, 1, none⟩ = false := frozen_later (v := .int .u64 0) hb2 (by rw [World.cell?_alloc_past _ _ _ (by omega)]; exact d1) (by rw [frozen?_alloc_cells]; exact f1)
  have a0 : w2.cell? ⟨w1.heap.size, 0, none⟩ = some (.int .u32 (lim x 0)) := cell_later hb2 (by simp [go_sem])
  have g0 : w2.frozen? ⟨w1.heap.size, 0, none⟩ = false := frozen_later (v := .int .u32 (lim x 0)) hb2 (by simp [go_sem]) (by simp [go_sem])
  have a1 : w2.cell? ⟨w1.heap.size, 1, none⟩ = some (.int .u32 (lim x 1)) := cell_later hb2 (by simp [go_sem])
  have g1 : w2.frozen? ⟨w1.heap.size, 1, none⟩ = false := frozen_later (v := .int .u32 (lim x 1)) hb2 (by simp [go_sem]) (by simp [go_sem])
  have a2 : w2.cell? ⟨w1.heap.size, 2, none⟩ = some (.int .u32 (lim x 2)) := cell_later hb2 (by simp [go_sem])
  have g2 : w2.frozen? ⟨w1.heap.size, 2, none⟩ = false := frozen_later (v := .int .u32 (lim x 2)) hb2 (by simp [go_sem]) (by simp [go_sem])
  have a3 : w2.cell? ⟨w1.heap.size, 3, none⟩ = some (.int .u32 (lim x 3)) := cell_later hb2 (by simp [go_sem])
  have g3 : w2.frozen? ⟨w1.heap.size, 3, none⟩ = false := frozen_later (v := .int .u32 (lim x 3)) hb2 (by simp [go_sem]) (by simp [go_sem])
  have a4 : w2.cell? ⟨w1.heap.size, 4, none⟩ = some (.int .u32 (lim x 4)) := cell_later hb2 (by simp [go_sem])
  have g4 : w2.frozen? ⟨w1.heap.size, 4, none⟩ = false := frozen_later (v := .int .u32 (lim x 4)) hb2 (by simp [go_sem]) (by simp [go_sem])
  have a5 : w2.cell? ⟨w1.heap.size, 5, none⟩ = some (.int .u32 (lim x 5)) := cell_later hb2 (by simp [go_sem])
  have g5 : w2.frozen? ⟨w1.heap.size, 5, none⟩ = false := frozen_later (v := .int .u32 (lim x 5)) hb2 (by simp [go_sem]) (by simp [go_sem])
  have a6 : w2.cell? ⟨w1.heap.size, 6, none⟩ = some (.int .u32 (lim x 6)) := cell_later hb2 (by simp [go_sem])
  have g6 : w2.frozen? ⟨w1.heap.size, 6, none⟩ = false := frozen_later (v := .int .u32 (lim x 6)) hb2 (by simp [go_sem]) (by simp [go_sem])
  have a7 : w2.cell? ⟨w1.heap.size, 7, none⟩ = some (.int .u32 (lim x 7)) := cell_later hb2 (by simp [go_sem])
  have g7 : w2.frozen? ⟨w1.heap.size, 7, none⟩ = false := frozen_later (v := .int .u32 (lim x 7)) hb2 (by simp [go_sem]) (by simp [go_sem])
  have s2 : w1.heap.size < w2.heap.size := by have := hb2.size; simp at this; omega
  have B2 : Below w.heap.size w w2 := (B1.alloc (by omega) _).trans (hb2.mono (by simp; omega))
  have s3 : w.heap.size + 1 + 1 < w2.heap.size := by omega
  clear c0 c1 hb2
  go_wp2_with fail
  have m0 := both_mask0 x y; have n0 := both_next0 x y; have i0 := both_in0 x y
  have m1 := both_mask1 x y; have n1 := both_next1 x y; have i1 := both_in1 x y; have j1 := both_inc1 x y
  have m2 := both_mask2 x y; have n2 := both_next2 x y; have i2 := both_in2 x y; have j2 := both_inc2 x y
  have m3 := both_mask3 x y; have n3 := both_next3 x y; have i3 := both_in3 x y; have j3 := both_inc3 x y
  have m4 := both_mask4 x y; have n4 := both_next4 x y; have i4 := both_in4 x y; have j4 := both_inc4 x y
  have m5 := both_mask5 x y; have n5 := both_next5 x y; have i5 := both_in5 x y; have j5 := both_inc5 x y
  have m6 := both_mask6 x y; have n6 := both_next6 x y; have i6 := both_in6 x y; have j6 := both_inc6 x y
  have m7 := both_mask7 x y; have n7 := both_next7 x y; have i7 := both_in7 x y; have j7 := both_inc7 x y
  refine wp_loop_rounds 9 ?_
  iterate 8 (rw [rounds_succ]; go_wp2_with fail; go_region; go_wp2_with fail)
  rw [rounds_succ]
  go_wp2_with fail
  refine (of_limbs (x + y) _).mono ?_
  rintro e w3 ⟨rfl, hb3⟩
  have E0 := cell_later (a := ⟨w.heap.size + 1 + 1, 0, none⟩) (v := .int .i64 0) hb3 (by simp [go_sem, World.cell?_setCell_far, hne2, d2, s3])
  have E1 := cell_later (a := ⟨w.heap.size + 1 + 1, 1, none⟩) (v := .int .u64 0) hb3 (by simp [go_sem, World.cell?_setCell_far, hne2, d3, s3])
  have F0 := frozen_later (a := ⟨w.heap.size + 1 + 1, 0, none⟩) (v := .int .i64 0) hb3 (by simp [go_sem, World.cell?_setCell_far, hne2, d2, s3]) (by simp [go_sem, frozen?_alloc_cells, f2])
  have F1 := frozen_later (a := ⟨w.heap.size + 1 + 1, 1, none⟩) (v := .int .u64 0) hb3 (by simp [go_sem, World.cell?_setCell_far, hne2, d3, s3]) (by simp [go_sem, frozen?_alloc_cells, f3])
  have B3 : Below w.heap.size w w3 := by
    refine Below.trans ?_ (hb3.mono (by simp; omega))
    iterate 8 (refine Below.drew ?_)
    refine Below.alloc ?_ (by simp; omega) _
    iterate 8 (refine Below.setCell ?_ (by simp; omega) _)
    exact B2
  clear hb3
  go_wp2
  exact bodyPost_ret (v := SumV (x + y)) (by simp [results, Try.results29, go_sem, E0, E1]) rfl ⟨rfl, (B3.setCell (by simp; omega) _).setCell (by simp; omega) _⟩
set_option maxRecDepth 100000 in
set_option maxHeartbeats 4000000 in
theorem refint_neg (x : Int) (hs : 32768 ≤ lim x 3) (r : Int) (t : Bool)
    (hyes : lim x 4 = 65535 ∧ lim x 5 = 65535 ∧ lim x 6 = 65535 ∧ lim x 7 = 65535 → r = wrap64 (loZ x) ∧ t = true)
    (hno : ¬ (lim x 4 = 65535 ∧ lim x 5 = 65535 ∧ lim x 6 = 65535 ∧ lim x 7 = 65535) → r = 0 ∧ t = false) (w : World) :
    Calls Try.prog 34 #[SumV x] w fun e w' => e = .returned (.tuple #[.int .i64 r, .bool t]) ∧ Below w.heap.size w w' := by
  have HY := Lib.hid hyes
  have HN := Lib.hid hno
  clear hyes hno
  go_enter Try.func34, Try.ntmps34
  go_wp2_with fail
  refine (limbs_any x _).mono ?_
  rintro e w1 ⟨rfl, hb1⟩
  have c1 : w1.cell? ⟨w.heap.size, 1, none⟩ = some (.int .u64 (loZ x)) := cell_later hb1 (by simp [go_sem])
  have s0 : w.heap.size < w1.heap.size := by have := hb1.size; simp at this; omega
  go_wp2
  refine wp_loop_rounds 5 ?_
  by_cases e4 : lim x 4 = 65535
  · have g4 : (lim x 4 == 65535) = true := by simp [e4]
    have k4 : (lim x 4 != 65535) = false := by simp [e4]
    rw [rounds_succ]
    have H4 := Lib.hid e4
    clear e4
    go_wp2
    have e4 := H4.out
    clear g4 k4
    by_cases e5 : lim x 5 = 65535
    · have g5 : (lim x 5 == 65535) = true := by simp [e5]
      have k5 : (lim x 5 != 65535) = false := by simp [e5]
      rw [rounds_succ]
      have H5 := Lib.hid e5
      clear e5
      go_wp2
      have e5 := H5.out
      clear g5 k5
      by_cases e6 : lim x 6 = 65535
      · have g6 : (lim x 6 == 65535) = true := by simp [e6]
        have k6 : (lim x 6 != 65535) = false := by simp [e6]
        rw [rounds_succ]
        have H6 := Lib.hid e6
        clear e6
        go_wp2
        have e6 := H6.out
        clear g6 k6
        by_cases e7 : lim x 7 = 65535
        · have g7 : (lim x 7 == 65535) = true := by simp [e7]
          have k7 : (lim x 7 != 65535) = false := by simp [e7]
          rw [rounds_succ]
          have H7 := Lib.hid e7
          clear e7
          go_wp2
          have e7 := H7.out
          clear g7 k7
          obtain ⟨hr, ht⟩ := HY.out ⟨e4, e5, e6, e7⟩
          subst hr ht
          rw [rounds_succ]
          go_wp2
          go_ret2
          exact ⟨rfl, ((((Below.refl _ _).alloc (Nat.le_refl _) _).trans (hb1.mono (by simp))).alloc (by have := hb1.size; simp at this; omega) _)⟩
        · have g7 : (lim x 7 == 65535) = false := by simp [e7]
          have k7 : (lim x 7 != 65535) = true := by simp [e7]
          obtain ⟨hr, ht⟩ := HN.out (fun h => e7 h.2.2.2)
          subst hr ht
          clear e7
          rw [rounds_succ]
          go_wp2
          go_ret2
          exact ⟨rfl, ((((Below.refl _ _).alloc (Nat.le_refl _) _).trans (hb1.mono (by simp))).alloc (by have := hb1.size; simp at this; omega) _)⟩
      · have g6 : (lim x 6 == 65535) = false := by simp [e6]
        have k6 : (lim x 6 != 65535) = true := by simp [e6]
        obtain ⟨hr, ht⟩ := HN.out (fun h => e6 h.2.2.1)
        subst hr ht
        clear e6
        rw [rounds_succ]
        go_wp2
        go_ret2
        exact ⟨rfl, ((((Below.refl _ _).alloc (Nat.le_refl _) _).trans (hb1.mono (by simp))).alloc (by have := hb1.size; simp at this; omega) _)⟩
    · have g5 : (lim x 5 == 65535) = false := by simp [e5]
      have k5 : (lim x 5 != 65535) = true := by simp [e5]
      obtain ⟨hr, ht⟩ := HN.out (fun h => e5 h.2.1)
      subst hr ht
      clear e5
      rw [rounds_succ]
      go_wp2
      go_ret2
      exact ⟨rfl, ((((Below.refl _ _).alloc (Nat.le_refl _) _).trans (hb1.mono (by simp))).alloc (by have := hb1.size; simp at this; omega) _)⟩
  · have g4 : (lim x 4 == 65535) = false := by simp [e4]
    have k4 : (lim x 4 != 65535) = true := by simp [e4]
    obtain ⟨hr, ht⟩ := HN.out (fun h => e4 h.1)
    subst hr ht
    clear e4
    rw [rounds_succ]
    go_wp2
    go_ret2
    exact ⟨rfl, ((((Below.refl _ _).alloc (Nat.le_refl _) _).trans (hb1.mono (by simp))).alloc (by have := hb1.size; simp at this; omega) _)⟩
set_option maxRecDepth 100000 in
set_option maxHeartbeats 4000000 in
theorem refint_pos (x : Int) (hs : lim x 3 < 32768) (r : Int) (t : Bool)
    (hyes : lim x 4 = 0 ∧ lim x 5 = 0 ∧ lim x 6 = 0 ∧ lim x 7 = 0 → r = wrap64 (loZ x) ∧ t = true)
    (hno : ¬ (lim x 4 = 0 ∧ lim x 5 = 0 ∧ lim x 6 = 0 ∧ lim x 7 = 0) → r = 0 ∧ t = false) (w : World) :
    Calls Try.prog 34 #[SumV x] w fun e w' => e = .returned (.tuple #[.int .i64 r, .bool t]) ∧ Below w.heap.size w w' := by
  have HY := Lib.hid hyes
  have HN := Lib.hid hno
  clear hyes hno
  go_enter Try.func34, Try.ntmps34
  go_wp2_with fail
  refine (limbs_any x _).mono ?_
  rintro e w1 ⟨rfl, hb1⟩
  have c1 : w1.cell? ⟨w.heap.size, 1, none⟩ = some (.int .u64 (loZ x)) := cell_later hb1 (by simp [go_sem])
  have s0 : w.heap.size < w1.heap.size := by have := hb1.size; simp at this; omega
  go_wp2
  refine wp_loop_rounds 5 ?_
  by_cases e4 : lim x 4 = 0
  · have g4 : (lim x 4 == 0) = true := by simp [e4]
    have k4 : (lim x 4 != 0) = false := by simp [e4]
    rw [rounds_succ]
    have H4 := Lib.hid e4
    clear e4
    go_wp2
    have e4 := H4.out
    clear g4 k4
    by_cases e5 : lim x 5 = 0
    · have g5 : (lim x 5 == 0) = true := by simp [e5]
      have k5 : (lim x 5 != 0) = false := by simp [e5]
      rw [rounds_succ]
      have H5 := Lib.hid e5
      clear e5
      go_wp2
      have e5 := H5.out
      clear g5 k5
      by_cases e6 : lim x 6 = 0
      · have g6 : (lim x 6 == 0) = true := by simp [e6]
        have k6 : (lim x 6 != 0) = false := by simp [e6]
        rw [rounds_succ]
        have H6 := Lib.hid e6
        clear e6
        go_wp2
        have e6 := H6.out
        clear g6 k6
        by_cases e7 : lim x 7 = 0
        · have g7 : (lim x 7 == 0) = true := by simp [e7]
          have k7 : (lim x 7 != 0) = false := by simp [e7]
          rw [rounds_succ]
          have H7 := Lib.hid e7
          clear e7
          go_wp2
          have e7 := H7.out
          clear g7 k7
          obtain ⟨hr, ht⟩ := HY.out ⟨e4, e5, e6, e7⟩
          subst hr ht
          rw [rounds_succ]
          go_wp2
          go_ret2
          exact ⟨rfl, ((((Below.refl _ _).alloc (Nat.le_refl _) _).trans (hb1.mono (by simp))).alloc (by have := hb1.size; simp at this; omega) _)⟩
        · have g7 : (lim x 7 == 0) = false := by simp [e7]
          have k7 : (lim x 7 != 0) = true := by simp [e7]
          obtain ⟨hr, ht⟩ := HN.out (fun h => e7 h.2.2.2)
          subst hr ht
          clear e7
          rw [rounds_succ]
          go_wp2
          go_ret2
          exact ⟨rfl, ((((Below.refl _ _).alloc (Nat.le_refl _) _).trans (hb1.mono (by simp))).alloc (by have := hb1.size; simp at this; omega) _)⟩
      · have g6 : (lim x 6 == 0) = false := by simp [e6]
        have k6 : (lim x 6 != 0) = true := by simp [e6]
        obtain ⟨hr, ht⟩ := HN.out (fun h => e6 h.2.2.1)
        subst hr ht
        clear e6
        rw [rounds_succ]
        go_wp2
        go_ret2
        exact ⟨rfl, ((((Below.refl _ _).alloc (Nat.le_refl _) _).trans (hb1.mono (by simp))).alloc (by have := hb1.size; simp at this; omega) _)⟩
    · have g5 : (lim x 5 == 0) = false := by simp [e5]
      have k5 : (lim x 5 != 0) = true := by simp [e5]
      obtain ⟨hr, ht⟩ := HN.out (fun h => e5 h.2.1)
      subst hr ht
      clear e5
      rw [rounds_succ]
      go_wp2
      go_ret2
      exact ⟨rfl, ((((Below.refl _ _).alloc (Nat.le_refl _) _).trans (hb1.mono (by simp))).alloc (by have := hb1.size; simp at this; omega) _)⟩
  · have g4 : (lim x 4 == 0) = false := by simp [e4]
    have k4 : (lim x 4 != 0) = true := by simp [e4]
    obtain ⟨hr, ht⟩ := HN.out (fun h => e4 h.1)
    subst hr ht
    clear e4
    rw [rounds_succ]
    go_wp2
    go_ret2
    exact ⟨rfl, ((((Below.refl _ _).alloc (Nat.le_refl _) _).trans (hb1.mono (by simp))).alloc (by have := hb1.size; simp at this; omega) _)⟩
/-- Is it a number of 64 bits? -/
def inB (x : Int) : Bool := decide (-9223372036854775808 ≤ x ∧ x ≤ 9223372036854775807)
theorem inB_yes {x : Int} (h : In64 x) : inB x = true := by unfold inB; exact decide_eq_true h
theorem inB_no {x : Int} (h : ¬ In64 x) : inB x = false := by unfold inB; exact decide_eq_false h
theorem limbs_in_neg {x : Int} (h : In128 x) (hs : 32768 ≤ lim x 3) : (lim x 4 = 65535 ∧ lim x 5 = 65535 ∧ lim x 6 = 65535 ∧ lim x 7 = 65535) ↔ In64 x := by
  unfold lim In64 at *; simp only [p16] at *; unfold In128 at h; omega
theorem limbs_in_pos {x : Int} (h : In128 x) (hs : lim x 3 < 32768) : (lim x 4 = 0 ∧ lim x 5 = 0 ∧ lim x 6 = 0 ∧ lim x 7 = 0) ↔ In64 x := by
  unfold lim In64 at *; simp only [p16] at *; unfold In128 at h; omega
theorem refint_any (x : Int) (h8 : In128 x) (w : World) :
    Calls Try.prog 34 #[SumV x] w fun e w' => e = .returned (.tuple #[.int .i64 (wholeN x), .bool (inB x)]) ∧ Below w.heap.size w w' := by
  by_cases hs : 32768 ≤ lim x 3
  · refine refint_neg x hs _ _ (fun h => ?_) (fun h => ?_) w
    · have h' := (limbs_in_neg h8 hs).1 h; exact ⟨by rw [wholeN_yes h', lo_is h'], inB_yes h'⟩
    · have h' := fun g => h ((limbs_in_neg h8 hs).2 g); exact ⟨wholeN_no h', inB_no h'⟩
  · refine refint_pos x (by omega) _ _ (fun h => ?_) (fun h => ?_) w
    · have h' := (limbs_in_pos h8 (by omega)).1 h; exact ⟨by rw [wholeN_yes h', lo_is h'], inB_yes h'⟩
    · have h' := fun g => h ((limbs_in_pos h8 (by omega)).2 g); exact ⟨wholeN_no h', inB_no h'⟩
end Go.Proofs.Ytihgcfokenabgaa
namespace Go.Proofs.Ytihgcfokenabgaa
open Go.ChangeShapes Go.WideShapes Go.ChangeAt Go.RowKit
end Go.Proofs.Ytihgcfokenabgaa
namespace Go.Proofs.Ytihgcfokenabgaa
open Go.ChangeShapes Go.WideShapes Go.ChangeAt Go.RowKit
end Go.Proofs.Ytihgcfokenabgaa
namespace Go.Proofs.Ytihgcfokenabgaa
open Go.ChangeShapes Go.WideShapes Go.ChangeAt Go.RowKit
end Go.Proofs.Ytihgcfokenabgaa
