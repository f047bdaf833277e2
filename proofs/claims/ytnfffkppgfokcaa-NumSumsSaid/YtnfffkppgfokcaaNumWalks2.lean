/- The walks of package num: numbers out of sums, products, quotients. -/
import Derived.Test.YtnfffkppgfokcaaRows
import Derived.Test.YtnfffkppgfokcaaNumWalks
import Derived.WalkKit
import Derived.WalkLawsBesides
import Derived.WalkSpells
import Derived.ProofKit
import Derived.Below
import Derived.Outline
import Derived.Lib.Hide
import Derived.Laws.Externs
import Derived.BigQuiet
import Derived.Deep.QuietTactic
import Derived.Deep.RegionWith
import Derived.Deep.RegionHeld3
namespace Go.Proofs.Ytnfffkppgfokcaa
open Go.ChangeShapes Go.WideShapes Go.ChangeAt Go.RowKit

/-- Package num's Int at a sum that stands for a number of 64 bits. -/
theorem int_yes (x : Int) (hx : In64 x) (w : World) :
    Calls Try.prog 15 #[SumV x] w fun e w' => e = .returned (.tuple #[.int .i64 x, .bool true]) ∧ Below w.heap.size w w' := by
  have hlo := lo_is hx
  go_enter Try.func15, Try.ntmps15
  go_wp2_with fail
  go_region_with (go_at_call 23; refine (of_any x hx _).mono ?_; rintro e w1 ⟨rfl, hb⟩; have c0 : w1.cell? ⟨w.heap.size, 0, none⟩ = some (.int .i64 (hiZ x)) := cell_later hb (by simp [go_sem]); have c1 : w1.cell? ⟨w.heap.size, 1, none⟩ = some (.int .u64 (loZ x)) := cell_later hb (by simp [go_sem]))
  all_goals
    go_wp2
    go_ret2
    exact ⟨rfl, ((((Below.refl _ _).alloc (Nat.le_refl _) _)).drew).trans (hb.mono (by simp))⟩
theorem int_no (x : Int) (h8 : In128 x) (hx : ¬ In64 x) (w : World) :
    Calls Try.prog 15 #[SumV x] w fun e w' => e = .returned (.tuple #[.int .i64 0, .bool false]) ∧ Below w.heap.size w w' := by
  have hlo := lo_lo x
  have hhi := hi_no h8 hx
  have hin := wrap_lo_in x
  clear h8 hx
  go_enter Try.func15, Try.ntmps15
  go_wp2_with fail
  go_region_with (go_at_call 23; refine (of_any (wrap64 (loZ x)) hin _).mono ?_; rintro e w1 ⟨rfl, hb⟩; have c0 : w1.cell? ⟨w.heap.size, 0, none⟩ = some (.int .i64 (hiZ x)) := cell_later hb (by simp [go_sem]); have c1 : w1.cell? ⟨w.heap.size, 1, none⟩ = some (.int .u64 (loZ x)) := cell_later hb (by simp [go_sem]))
  all_goals
    go_wp2
    go_ret2
    exact ⟨rfl, ((((Below.refl _ _).alloc (Nat.le_refl _) _)).drew).trans (hb.mono (by simp))⟩

theorem whole_yes (x : Int) (hx : In64 x) (w : World) :
    Calls Try.prog 22 #[SumV x] w fun e w' => e = .returned (.tuple #[.int .i64 x, .int .i64 0]) ∧ Below w.heap.size w w' := by
  go_enter Try.func22, Try.ntmps22
  go_wp2_with (go_at_call 15; refine (int_yes x hx _).mono ?_; rintro e w1 ⟨rfl, hb⟩)
  go_ret2
  exact ⟨rfl, ((((Below.refl _ _).alloc (Nat.le_refl _) _))).trans (hb.mono (by simp))⟩
theorem whole_no (x : Int) (h8 : In128 x) (hx : ¬ In64 x) (w : World) :
    Calls Try.prog 22 #[SumV x] w fun e w' => e = .returned (.tuple #[.int .i64 0, .int .i64 10]) ∧ Below w.heap.size w w' := by
  go_enter Try.func22, Try.ntmps22
  go_wp2_with (go_at_call 15; refine (int_no x h8 hx _).mono ?_; rintro e w1 ⟨rfl, hb⟩)
  go_ret2
  exact ⟨rfl, ((((Below.refl _ _).alloc (Nat.le_refl _) _))).trans (hb.mono (by simp))⟩

theorem size_any (n : Int) (hn : In64 n) (w : World) :
    Calls Try.prog 33 #[.int .i64 n] w fun e w' => e = .returned (.int .u64 (absZ n)) ∧ w = w' := by
  by_cases h : n < 0
  · have H := Lib.hid (abs_neg hn h)
    go_enter Try.func33, Try.ntmps33
    go_wp2
    go_ret
    exact ⟨by simp [H.out], rfl⟩
  · have H := Lib.hid (abs_pos hn (by omega))
    go_enter Try.func33, Try.ntmps33
    go_wp2
    go_ret
    exact ⟨by simp [H.out], rfl⟩
end Go.Proofs.Ytnfffkppgfokcaa
