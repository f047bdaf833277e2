/- The statement NumSums: the walk. -/
import Derived.Test.YtnfffkppgfokcaaLimbWalks2
namespace Go.Proofs.Ytnfffkppgfokcaa
open Go.ChangeShapes Go.WideShapes Go.ChangeAt Go.RowKit

set_option maxRecDepth 100000 in
set_option maxHeartbeats 4000000 in
theorem sums_walk (x y n : Int) (hx : In128 x) (hn : In64 n) (w : World) :
    Calls Try.prog 7 #[SumV x, SumV y, .int .i64 n] w fun e w' => e = .returned (.bool true) ∧ Below w.heap.size w w' := by
  go_enter Try.func7, Try.ntmps7
  go_wp2_with fail
  refine (alive_any _).mono ?_
  rintro e w1 ⟨rfl, hb1⟩
  have c0 : w1.cell? ⟨w.heap.size, 0, none⟩ = some (.int .i64 (hiZ x)) := cell_later hb1 (by simp [go_sem])
  have c1 : w1.cell? ⟨w.heap.size, 1, none⟩ = some (.int .u64 (loZ x)) := cell_later hb1 (by simp [go_sem])
  have d0 : w1.cell? ⟨w.heap.size + 1, 0, none⟩ = some (.int .i64 (hiZ y)) := cell_later hb1 (by simp [go_sem])
  have d1 : w1.cell? ⟨w.heap.size + 1, 1, none⟩ = some (.int .u64 (loZ y)) := cell_later hb1 (by simp [go_sem])
  have B1 : Below w.heap.size w w1 := (((Below.refl _ _).alloc (Nat.le_refl _) _).alloc (by simp) _).trans (hb1.mono (by simp; omega))
  clear hb1
  go_wp2_with fail
  refine (int_any x hx _).mono ?_
  rintro e w2 ⟨rfl, hb2⟩
  have c2 := cell_later hb2 c0; have c3 := cell_later hb2 c1; have d2 := cell_later hb2 d0; have d3 := cell_later hb2 d1
  have B2 := B1.trans (hb2.mono B1.size)
  clear hb2 c0 c1 d0 d1 B1
  go_wp2_with fail
  refine (refint_any x hx _).mono ?_
  rintro e w3 ⟨rfl, hb3⟩
  have c4 := cell_later hb3 c2; have c5 := cell_later hb3 c3; have d4 := cell_later hb3 d2; have d5 := cell_later hb3 d3
  have B3 := B2.trans (hb3.mono B2.size)
  clear hb3 c2 c3 d2 d3 B2
  generalize wholeN x = r
  generalize inB x = t
  go_wp2_with fail
  go_region_held3 (fun w' => Below w.heap.size w w' ∧ w'.cell? ⟨w.heap.size, 0, none⟩ = some (.int .i64 (hiZ x)) ∧ w'.cell? ⟨w.heap.size, 1, none⟩ = some (.int .u64 (loZ x)) ∧
      w'.cell? ⟨w.heap.size + 1, 0, none⟩ = some (.int .i64 (hiZ y)) ∧ w'.cell? ⟨w.heap.size + 1, 1, none⟩ = some (.int .u64 (loZ y)))
    (first | exact ⟨B3.drew, c4, c5, d4, d5⟩ | (go_split_ands; refine ⟨Below.trans ‹Below w.heap.size w _› (hb.mono (Below.size ‹Below w.heap.size w _›)), cell_later hb ?_, cell_later hb ?_, cell_later hb ?_, cell_later hb ?_⟩ <;> assumption))
    ((first | (go_at_call 17; refine (both_any x y _).mono ?_; rintro e w4 ⟨rfl, hb⟩) | (go_at_call 18; (with_reducible refine (refboth_any x y _).mono ?_); rintro e w4 ⟨rfl, hb⟩) | (go_at_call 19; refine (add_any x n hn _).mono ?_; rintro e w4 ⟨rfl, hb⟩) | (go_at_call 20; refine (wide_any n hn _).mono ?_; rintro e w4 ⟨rfl, hb⟩) | (go_at_call 18; (with_reducible refine (refboth_any x n _).mono ?_); rintro e w4 ⟨rfl, hb⟩)))
  go_wp2
  go_ret
  go_split_ands
  exact ⟨by simp, ‹Below w.heap.size w _›⟩
end Go.Proofs.Ytnfffkppgfokcaa
