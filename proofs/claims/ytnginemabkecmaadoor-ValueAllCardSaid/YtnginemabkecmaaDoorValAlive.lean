/- The walk of the examples, and of ValueMade. -/
import Derived.Test.YtnginemabkecmaaDoorValUnkey
namespace Go.Proofs.YtnginemabkecmaaDoor
open Go.ChangeShapes Go.WideShapes Go.ChangeAt Go.RowKit
set_option linter.unusedVariables false

theorem later_cell {w w' : World} {a : Addr} {v : Value} (hb : Below w.heap.size w w') (h : w.cell? a = some v) : w'.cell? a = some v := (hb.cell (World.block_lt_of_cell? w a h)).trans h
theorem int_agg (n : Int) (w : World) :
    Calls Tryd.prog 15 #[.int .i64 n] w fun e w' => e = .returned (.agg #[.int .i64 1, .int .i64 n, .string ⟨#[]⟩]) ∧ Below w.heap.size w w' := int_any n w
theorem bool_agg (b : Bool) (w : World) :
    Calls Tryd.prog 16 #[.bool b] w fun e w' => e = .returned (.agg #[.int .i64 2, .int .i64 (if b then 1 else 0), .string ⟨#[]⟩]) ∧ Below w.heap.size w w' := bool_any b w

theorem one_key (w : World) (g : Nat) (c : Nat) (hM : MaxAt w) (hg : w.heap[g]? = some (.cells #[.int .i64 1, .int .i64 (-1), .string ⟨#[]⟩] 23 (0, 0))) :
    Calls Tryd.prog 23 #[.slice (some ⟨g, 0, none⟩) 1 c] w fun e w' => e = .returned (.tuple #[.string ⟨#[2, 127, 255, 255, 255, 255, 255, 255, 255]⟩, .int .i64 0]) ∧ Below w.heap.size w w' := by
  have hb : Box w g ⟨1, -1, mt⟩ := hg
  have h := key_right [⟨1, -1, mt⟩] (by simp [V.wf, in64, mt_size]) 1 c (some ⟨g, 0, none⟩) w rfl (by decide) (by
    intro j hj
    simp at hj
    subst hj
    exact ⟨g, 0, rfl, hb.lt, hb.k, hb.n, hb.s⟩) hM (by decide)
  rw [show txt (keyL [⟨1, -1, mt⟩]) = ⟨#[2, 127, 255, 255, 255, 255, 255, 255, 255]⟩ by decide] at h
  exact h

theorem one_unkey (w : World) :
    Calls Tryd.prog 25 #[.string ⟨#[4, 97, 0, 0]⟩] w fun e w' => ∃ g c, e = .returned (.tuple #[.slice (some ⟨g, 0, none⟩) 1 c, .int .i64 0]) ∧ w.heap.size ≤ g ∧ w'.cell? ⟨g, 0, none⟩ = some (.int .i64 3) ∧ w'.cell? ⟨g, 1, none⟩ = some (.int .i64 0) ∧ w'.cell? ⟨g, 2, none⟩ = some (.string ⟨#[97]⟩) ∧ Below w.heap.size w w' := by
  have hu : unkeyG 12 (ByteArray.mk #[4, 97, 0, 0]).data.toList = some [⟨3, 0, ⟨#[97]⟩⟩] := by
    have h := unkey_key 12 [⟨3, 0, ⟨#[97]⟩⟩] (by decide) (by decide) (by simp [V.wf, in64]; decide)
    exact h
  have h := unkey_any ⟨#[4, 97, 0, 0]⟩ (by decide) w
  rw [hu] at h
  refine h.mono ?_
  rintro e w' ⟨A, c, rfl, ho, hb⟩
  obtain ⟨g, cap, hv, hg, _⟩ := ho.form (by decide)
  injection hv with h1 h2 h3
  subst h1
  have hc := ho.cells (g := g) rfl
  have c0 := hc 0 (.int .i64 3) rfl
  have c1 := hc 1 (.int .i64 0) rfl
  have c2 := hc 2 (.string ⟨#[97]⟩) rfl
  rw [add_at] at c0 c1 c2
  exact ⟨g, c, rfl, hg, c0, c1, c2, hb⟩

set_option maxHeartbeats 1000000 in
theorem alive_any (w : World) (hM : MaxAt w) :
    Calls Tryd.prog 10 #[] w fun e w' => e = .returned (.bool true) ∧ Below w.heap.size w w' := by
  have HM := Lib.hid hM
  clear hM
  go_enter Tryd.func10, Tryd.ntmps10
  go_wp2_with (first | (go_at_call 15; refine (int_agg (-1) _).mono ?_; rintro e w1 ⟨rfl, hb1⟩; have HB1 := Lib.hid hb1; clear hb1) | (go_at_call 23; refine (one_key _ w1.heap.size _ ((HM.out.later HB1.out).later ((Below.refl _ _).alloc (Nat.le_refl _) _)) (World.alloc_heap_new _ _)).mono ?_; rintro e w2 ⟨rfl, hb2⟩; have HB2 := Lib.hid ((HB1.out.alloc HB1.out.size _).trans (hb2.mono (by have := HB1.out.size; simp; omega))); clear hb2) | (go_at_call 25; refine (one_unkey _).mono ?_; rintro e w3 ⟨g, c, rfl, hg, c0, c1, c2, hb3⟩; have HB3 := Lib.hid (HB2.out.trans (hb3.mono HB2.out.size)); clear hb3))
  go_region_held3 (fun w' => Below w.heap.size w w' ∧ w'.cell? ⟨g, 0, none⟩ = some (.int .i64 3) ∧ w'.cell? ⟨g, 1, none⟩ = some (.int .i64 0) ∧ w'.cell? ⟨g, 2, none⟩ = some (.string ⟨#[97]⟩))
    (first | exact ⟨HB3.out, c0, c1, c2⟩ | exact ⟨HB3.out.drew, c0, c1, c2⟩ | (go_split_ands; refine ⟨Below.trans ‹Below w.heap.size w _› (hb.mono (Below.size ‹Below w.heap.size w _›)), later_cell hb ?_, later_cell hb ?_, later_cell hb ?_⟩ <;> assumption))
    (first | (go_at_call 17; refine (text_agg ⟨#[97]⟩ _).mono ?_; rintro e w4 ⟨rfl, hb⟩))
  all_goals
    go_wp2
    go_ret
    go_split_ands
    exact ⟨rfl, ‹Below w.heap.size w _›⟩

set_option maxHeartbeats 1000000 in
theorem made_walk (n : Int) (b : Bool) (s : ByteArray) (w : World) (hM : MaxAt w) :
    Calls Tryd.prog 4 #[.int .i64 n, .bool b, .string s] w fun e w' => e = .returned (.bool true) ∧ Below w.heap.size w w' := by
  have HM := Lib.hid hM
  clear hM
  cases b
  all_goals
    go_enter Tryd.func4, Tryd.ntmps4
    go_wp2_with (first | (go_at_call 10; refine (alive_any _ HM.out).mono ?_; rintro e w1 ⟨rfl, hb1⟩; have HB1 := Lib.hid hb1; clear hb1) | (go_at_call 15; refine (int_agg n _).mono ?_; rintro e w2 ⟨rfl, hb2⟩; have HB2 := Lib.hid (HB1.out.trans (hb2.mono HB1.out.size)); clear hb2) | (go_at_call 16; refine (bool_agg _ _).mono ?_; rintro e w3 ⟨rfl, hb3⟩; have HB3 := Lib.hid (HB2.out.trans (hb3.mono HB2.out.size)); clear hb3) | (go_at_call 17; refine (text_agg s _).mono ?_; rintro e w4 ⟨rfl, hb4⟩; have HB4 := Lib.hid (HB3.out.trans (hb4.mono HB3.out.size)); clear hb4))
    go_ret
    exact ⟨rfl, HB4.out⟩
end Go.Proofs.YtnginemabkecmaaDoor
