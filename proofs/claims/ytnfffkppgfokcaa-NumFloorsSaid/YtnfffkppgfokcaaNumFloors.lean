/- The statement NumFloors: the walks. -/
import Derived.Test.YtnfffkppgfokcaaNumLaws
namespace Go.Proofs.Ytnfffkppgfokcaa
open Go.ChangeShapes Go.WideShapes Go.ChangeAt Go.RowKit

theorem reffloor_arg (a b : Int) (hb : b < 1) (w : World) :
    Calls Try.prog 14 #[.int .i64 a, .int .i64 b] w fun e w' => e = .returned (.tuple #[.int .i64 0, .int .i64 2]) ∧ w = w' := by
  go_enter Try.func14, Try.ntmps14
  go_wp2
  go_ret2
  exact ⟨rfl, rfl⟩
theorem reffloor_any (a b : Int) (ha : In64 a) (hb : 1 ≤ b) (w : World) :
    Calls Try.prog 14 #[.int .i64 a, .int .i64 b] w fun e w' => e = .returned (.tuple #[.int .i64 (a / b), .int .i64 0]) ∧ w = w' := by
  have h0 : (b == 0) = false := by simp; omega
  have ht := tdiv_in (a := a) (b := b) ha (by omega)
  have hm := quo_mul_in (a := a) (b := b) ha
  have hq := quo_rem a b
  unfold In64 at ht hm
  obtain ⟨t0, t1⟩ := ht
  obtain ⟨m0, m1⟩ := hm
  have t2 := IntWalk.i64_in _ ⟨t0, t1⟩
  have m2 := IntWalk.i64_in _ ⟨m0, m1⟩
  by_cases h : a.tmod b < 0
  · have H := Lib.hid (floor_lt hb h)
    have g : decide (a.tdiv b * b > a) = true := by simp; omega
    have g2 : decide (a < a.tdiv b * b) = true := by simp; omega
    have hi := floor_in ha hb
    clear hq h
    go_enter Try.func14, Try.ntmps14
    go_wp2
    go_ret2
    exact ⟨by simp [H.out, IntWalk.wrap64_in _ hi], rfl⟩
  · have H := Lib.hid (floor_ge hb h)
    have g : decide (a.tdiv b * b > a) = false := by simp; omega
    have g2 : decide (a < a.tdiv b * b) = false := by simp; omega
    clear hq h
    go_enter Try.func14, Try.ntmps14
    go_wp2
    go_ret2
    exact ⟨by simp [H.out], rfl⟩

theorem floors_walk (a b : Int) (ha : In64 a) (w : World) :
    Calls Try.prog 4 #[.int .i64 a, .int .i64 b] w fun e w' => e = .returned (.bool true) ∧ Below w.heap.size w w' := by
  obtain ⟨n, e, F, R⟩ : ∃ n e : Int, Hid (∀ W, Calls Try.prog 13 #[.int .i64 a, .int .i64 b] W fun r w' => r = .returned (.tuple #[.int .i64 n, .int .i64 e]) ∧ W = w') ∧
      Hid (∀ W, Calls Try.prog 14 #[.int .i64 a, .int .i64 b] W fun r w' => r = .returned (.tuple #[.int .i64 n, .int .i64 e]) ∧ W = w') := by
    by_cases h : b < 1
    · exact ⟨_, _, Lib.hid (fun W => floor_arg a b h W), Lib.hid (fun W => reffloor_arg a b h W)⟩
    · exact ⟨_, _, Lib.hid (fun W => floor_any a b ha (by omega) W), Lib.hid (fun W => reffloor_any a b ha (by omega) W)⟩
  go_enter Try.func4, Try.ntmps4
  go_wp2_with fail
  refine (alive_any _).mono ?_
  rintro r w1 ⟨rfl, hb⟩
  go_wp2_with fail
  refine (F.out _).mono ?_
  rintro r w2 ⟨rfl, rfl⟩
  go_wp2_with fail
  refine (R.out _).mono ?_
  rintro r w2 ⟨rfl, rfl⟩
  go_wp2
  go_ret
  exact ⟨by simp, hb⟩
end Go.Proofs.Ytnfffkppgfokcaa
