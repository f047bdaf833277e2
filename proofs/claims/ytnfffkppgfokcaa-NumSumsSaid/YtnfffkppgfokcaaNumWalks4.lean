/- The walks of package num: products, quotients, and what is made of two numbers. -/
import Derived.Test.YtnfffkppgfokcaaRows
import Derived.Test.YtnfffkppgfokcaaNumWalks3
import Derived.Lib.Mul64
import Derived.Laws.Bits64b
import Derived.WalkKit
import Derived.WalkLawsBesides
import Derived.WalkSpells
import Derived.ProofKit
import Derived.Below
import Derived.Outline
import Derived.Lib.Hide
import Derived.Laws.Externs
import Derived.BigQuiet
import Derived.Deep.QuietTactic
import Derived.Deep.RegionWith
import Derived.Deep.RegionHeld3
namespace Go.Proofs.Ytnfffkppgfokcaa
open Go.ChangeShapes Go.WideShapes Go.ChangeAt Go.RowKit



theorem whole_any (x : Int) (h8 : In128 x) (w : World) :
    Calls Try.prog 22 #[SumV x] w fun e w' => e = .returned (.tuple #[.int .i64 (wholeN x), .int .i64 (wholeE x)]) ∧ Below w.heap.size w w' := by
  by_cases hx : In64 x
  · rw [wholeN_yes hx, wholeE_yes hx]; exact whole_yes x hx w
  · rw [wholeN_no hx, wholeE_no hx]; exact whole_no x h8 hx w

set_option maxHeartbeats 800000 in
theorem times_any (a b : Int) (ha : In64 a) (hb : In64 b) (w : World) :
    Calls Try.prog 25 #[.int .i64 a, .int .i64 b] w fun e w' => e = .returned (.tuple #[.int .i64 (wholeN (a * b)), .int .i64 (wholeE (a * b))]) ∧ Below w.heap.size w w' := by
  have sa := fun W => size_any a ha W
  have sb := fun W => size_any b hb W
  have Ha := absZ_bd ha; have Hb := absZ_bd hb
  obtain ⟨p, hp⟩ : ∃ p, absZ a * absZ b = p := ⟨_, rfl⟩
  have pb := absZ_mul ha hb
  rw [hp] at pb
  have mm := fun W => mul64_any (absZ a) (absZ b) Ha.1 Ha.2 Hb.1 Hb.2 p hp pb.1 pb.2 W
  have h8 := mul_in ha hb
  have wh := fun W => whole_any (a * b) h8 W
  have hh := hiZ_in p
  unfold In64 at hh
  have hh0 := hh.1
  have hh1 := hh.2
  have SA := Lib.hid sa; have SB := Lib.hid sb; have MM := Lib.hid mm; have WH := Lib.hid wh
  clear sa sb mm wh Ha Hb pb hh h8
  by_cases c1 : a < 0 <;> by_cases c2 : b < 0
  · have g1 : decide (a < 0) = true := by simpa using c1
    have g2 : decide (b < 0) = true := by simpa using c2
    have e1 : p = a * b := by rw [← hp]; exact mul_same (by simp [c1, c2])
    have E1 := Lib.hid e1
    clear e1 hp
    go_enter Try.func25, Try.ntmps25
    go_wp2_with fail
    refine (SA.out _).mono ?_
    rintro e w1 ⟨rfl, rfl⟩
    go_wp2_with fail
    refine (SB.out _).mono ?_
    rintro e w1 ⟨rfl, rfl⟩
    go_wp2_with fail
    refine (MM.out _).mono ?_
    rintro e w1 ⟨rfl, rfl⟩
    go_wp2_with fail
    rw [E1.out]
    refine (WH.out _).mono ?_
    rintro e w1 ⟨rfl, hb⟩
    go_wp2
    go_ret2
    exact ⟨rfl, ((Below.refl _ _).alloc (Nat.le_refl _) _).trans (hb.mono (by simp))⟩
  · have g1 : decide (a < 0) = true := by simpa using c1
    have g2 : decide (b < 0) = false := by simpa using c2
    have e1 : -p = a * b := by rw [← hp]; exact mul_other (by simp [c1, c2])
    have E1 := Lib.hid e1
    clear e1 hp
    go_enter Try.func25, Try.ntmps25
    go_wp2_with fail
    refine (SA.out _).mono ?_
    rintro e w1 ⟨rfl, rfl⟩
    go_wp2_with fail
    refine (SB.out _).mono ?_
    rintro e w1 ⟨rfl, rfl⟩
    go_wp2_with fail
    refine (MM.out _).mono ?_
    rintro e w1 ⟨rfl, rfl⟩
    go_wp2_with fail
    refine (negative_any p _).mono ?_
    rintro e w1 ⟨rfl, hb⟩
    rw [E1.out]
    have d0 : w1.cell? ⟨w.heap.size, 0, none⟩ = some (.int .i64 (hiZ p)) := cell_later hb (by simp [go_sem])
    have d1 : w1.cell? ⟨w.heap.size, 1, none⟩ = some (.int .u64 (loZ p)) := cell_later hb (by simp [go_sem])
    have f0 : w1.frozen? ⟨w.heap.size, 0, none⟩ = false := frozen_later (v := .int .i64 (hiZ p)) hb (by simp [go_sem]) (by simp [go_sem])
    have f1 : w1.frozen? ⟨w.heap.size, 1, none⟩ = false := frozen_later (v := .int .u64 (loZ p)) hb (by simp [go_sem]) (by simp [go_sem])
    go_wp2_with fail
    refine (WH.out _).mono ?_
    rintro e w2 ⟨rfl, hb2⟩
    go_wp2
    go_ret2
    refine ⟨rfl, (((((Below.refl _ _).alloc (Nat.le_refl _) _).trans (hb.mono (by simp))).setCell (by simp) _).setCell (by simp) _).trans (hb2.mono ?_)⟩
    have := hb.size
    simp at this ⊢
    omega
  · have g1 : decide (a < 0) = false := by simpa using c1
    have g2 : decide (b < 0) = true := by simpa using c2
    have e1 : -p = a * b := by rw [← hp]; exact mul_other (by simp [c1, c2])
    have E1 := Lib.hid e1
    clear e1 hp
    go_enter Try.func25, Try.ntmps25
    go_wp2_with fail
    refine (SA.out _).mono ?_
    rintro e w1 ⟨rfl, rfl⟩
    go_wp2_with fail
    refine (SB.out _).mono ?_
    rintro e w1 ⟨rfl, rfl⟩
    go_wp2_with fail
    refine (MM.out _).mono ?_
    rintro e w1 ⟨rfl, rfl⟩
    go_wp2_with fail
    refine (negative_any p _).mono ?_
    rintro e w1 ⟨rfl, hb⟩
    rw [E1.out]
    have d0 : w1.cell? ⟨w.heap.size, 0, none⟩ = some (.int .i64 (hiZ p)) := cell_later hb (by simp [go_sem])
    have d1 : w1.cell? ⟨w.heap.size, 1, none⟩ = some (.int .u64 (loZ p)) := cell_later hb (by simp [go_sem])
    have f0 : w1.frozen? ⟨w.heap.size, 0, none⟩ = false := frozen_later (v := .int .i64 (hiZ p)) hb (by simp [go_sem]) (by simp [go_sem])
    have f1 : w1.frozen? ⟨w.heap.size, 1, none⟩ = false := frozen_later (v := .int .u64 (loZ p)) hb (by simp [go_sem]) (by simp [go_sem])
    go_wp2_with fail
    refine (WH.out _).mono ?_
    rintro e w2 ⟨rfl, hb2⟩
    go_wp2
    go_ret2
    refine ⟨rfl, (((((Below.refl _ _).alloc (Nat.le_refl _) _).trans (hb.mono (by simp))).setCell (by simp) _).setCell (by simp) _).trans (hb2.mono ?_)⟩
    have := hb.size
    simp at this ⊢
    omega
  · have g1 : decide (a < 0) = false := by simpa using c1
    have g2 : decide (b < 0) = false := by simpa using c2
    have e1 : p = a * b := by rw [← hp]; exact mul_same (by simp [c1, c2])
    have E1 := Lib.hid e1
    clear e1 hp
    go_enter Try.func25, Try.ntmps25
    go_wp2_with fail
    refine (SA.out _).mono ?_
    rintro e w1 ⟨rfl, rfl⟩
    go_wp2_with fail
    refine (SB.out _).mono ?_
    rintro e w1 ⟨rfl, rfl⟩
    go_wp2_with fail
    refine (MM.out _).mono ?_
    rintro e w1 ⟨rfl, rfl⟩
    go_wp2_with fail
    rw [E1.out]
    refine (WH.out _).mono ?_
    rintro e w1 ⟨rfl, hb⟩
    go_wp2
    go_ret2
    exact ⟨rfl, ((Below.refl _ _).alloc (Nat.le_refl _) _).trans (hb.mono (by simp))⟩

theorem quotient_zero (a : Int) (w : World) :
    Calls Try.prog 26 #[.int .i64 a, .int .i64 0] w fun e w' => e = .returned (.tuple #[.int .i64 0, .int .i64 11]) ∧ w = w' := by
  go_enter Try.func26, Try.ntmps26
  go_wp2
  go_ret2
  exact ⟨rfl, rfl⟩
theorem quotient_least (w : World) :
    Calls Try.prog 26 #[.int .i64 (-9223372036854775808), .int .i64 (-1)] w fun e w' => e = .returned (.tuple #[.int .i64 0, .int .i64 10]) ∧ w = w' := by
  go_enter Try.func26, Try.ntmps26
  go_wp2
  go_ret2
  exact ⟨rfl, rfl⟩
theorem quotient_any (a b : Int) (ha : In64 a) (h0 : b ≠ 0) (h : ¬ (a = -9223372036854775808 ∧ b = -1)) (w : World) :
    Calls Try.prog 26 #[.int .i64 a, .int .i64 b] w fun e w' => e = .returned (.tuple #[.int .i64 (a.tdiv b), .int .i64 0]) ∧ w = w' := by
  have ht := tdiv_in ha h
  unfold In64 at ht
  have hi := IntWalk.i64_in _ ht
  have hb : (b == 0) = false := by simp [h0]
  obtain ⟨t0, t1⟩ := ht
  by_cases h1 : a = -9223372036854775808
  · have h2 : (b == -1) = false := by rw [beq_eq_false_iff_ne]; exact fun e => h ⟨h1, e⟩
    have g1 : (a == -9223372036854775808) = true := by simp [h1]
    clear h h1
    go_enter Try.func26, Try.ntmps26
    go_wp2
    go_ret2
    exact ⟨rfl, rfl⟩
  · have h2 : (a == -9223372036854775808) = false := by simp [h1]
    clear h h1
    go_enter Try.func26, Try.ntmps26
    go_wp2
    go_ret2
    exact ⟨rfl, rfl⟩
theorem remainder_zero (a : Int) (w : World) :
    Calls Try.prog 27 #[.int .i64 a, .int .i64 0] w fun e w' => e = .returned (.tuple #[.int .i64 0, .int .i64 11]) ∧ w = w' := by
  go_enter Try.func27, Try.ntmps27
  go_wp2
  go_ret2
  exact ⟨rfl, rfl⟩
theorem remainder_any (a b : Int) (h0 : b ≠ 0) (w : World) :
    Calls Try.prog 27 #[.int .i64 a, .int .i64 b] w fun e w' => e = .returned (.tuple #[.int .i64 (a.tmod b), .int .i64 0]) ∧ w = w' := by
  have hb : (b == 0) = false := by simp [h0]
  go_enter Try.func27, Try.ntmps27
  go_wp2
  go_ret2
  exact ⟨rfl, rfl⟩

theorem floor_arg (a b : Int) (hb : b < 1) (w : World) :
    Calls Try.prog 13 #[.int .i64 a, .int .i64 b] w fun e w' => e = .returned (.tuple #[.int .i64 0, .int .i64 2]) ∧ w = w' := by
  go_enter Try.func13, Try.ntmps13
  go_wp2
  go_ret2
  exact ⟨rfl, rfl⟩
theorem floor_any (a b : Int) (ha : In64 a) (hb : 1 ≤ b) (w : World) :
    Calls Try.prog 13 #[.int .i64 a, .int .i64 b] w fun e w' => e = .returned (.tuple #[.int .i64 (a / b), .int .i64 0]) ∧ w = w' := by
  have h0 : (b == 0) = false := by simp; omega
  have ht := tdiv_in (a := a) (b := b) ha (by omega)
  have hq := floor_in ha hb
  unfold In64 at ht
  obtain ⟨t0, t1⟩ := ht
  by_cases h : a.tmod b < 0
  · have H := Lib.hid (floor_lt hb h)
    go_enter Try.func13, Try.ntmps13
    go_wp2
    go_ret2
    exact ⟨by simp [H.out, IntWalk.wrap64_in _ hq], rfl⟩
  · have H := Lib.hid (floor_ge hb h)
    go_enter Try.func13, Try.ntmps13
    go_wp2
    go_ret2
    exact ⟨by simp [H.out], rfl⟩
end Go.Proofs.Ytnfffkppgfokcaa
