/- segment: calls of no log; the walk of SegmentNil. -/
import Derived.Test.YtcdgiplgkffomaaGreatDoorSgN
namespace Go.Proofs.YtcdgiplgkffomaaGreatDoor
open Go Go.ChangeShapes Go.WideShapes Go.ChangeAt Go.RowKit Go.ChangeMaps Go.MapKept
set_option linter.unusedVariables false
set_option linter.unusedSimpArgs false

theorem append_no (v : Value) (w : World) : Calls Tryz.prog 8 #[.pointer none, v] w fun e w' => e = .returned (.tuple #[.int .i64 0, .int .i64 1]) ∧ w = w' := by
  go_enter Tryz.func8, Tryz.ntmps8
  go_wp2
  go_ret2
  exact ⟨rfl, rfl⟩
theorem read_no (a b : Int) (w : World) : Calls Tryz.prog 9 #[.pointer none, .int .i64 a, .int .i64 b] w fun e w' => e = .returned (.tuple #[.slice none 0 0, .int .i64 1]) ∧ w = w' := by
  go_enter Tryz.func9, Tryz.ntmps9
  go_wp2
  go_ret2
  exact ⟨rfl, rfl⟩
theorem sync_no (w : World) : Calls Tryz.prog 10 #[.pointer none] w fun e w' => e = .returned (.int .i64 1) ∧ w = w' := by
  go_enter Tryz.func10, Tryz.ntmps10
  go_wp2
  go_ret
  exact ⟨rfl, rfl⟩
theorem end_no (w : World) : Calls Tryz.prog 11 #[.pointer none] w fun e w' => e = .returned (.int .i64 0) ∧ w = w' := by
  go_enter Tryz.func11, Tryz.ntmps11
  go_wp2
  go_ret
  exact ⟨rfl, rfl⟩
theorem durable_no (w : World) : Calls Tryz.prog 12 #[.pointer none] w fun e w' => e = .returned (.int .i64 0) ∧ w = w' := by
  go_enter Tryz.func12, Tryz.ntmps12
  go_wp2
  go_ret
  exact ⟨rfl, rfl⟩
theorem segments_no (w : World) : Calls Tryz.prog 13 #[.pointer none] w fun e w' => e = .returned (.int .i64 0) ∧ w = w' := by
  go_enter Tryz.func13, Tryz.ntmps13
  go_wp2
  go_ret
  exact ⟨rfl, rfl⟩
theorem open_arg (v : Value) (d : ByteArray) (size : Int) (h : size < 1 ∨ (¬ size < 1 ∧ 16777216 < size)) (w : World) : Calls Tryz.prog 7 #[v, .string d, .int .i64 size] w fun e w' => e = .returned (.tuple #[.pointer none, .int .i64 2]) ∧ w = w' := by
  rcases h with h | ⟨h, h2⟩
  all_goals go_enter Tryz.func7, Tryz.ntmps7
  all_goals go_wp2
  all_goals go_ret2
  all_goals exact ⟨rfl, rfl⟩
theorem open_no (d : ByteArray) (size : Int) (h : ¬ size < 1) (h2 : ¬ 16777216 < size) (w : World) : Calls Tryz.prog 7 #[.pointer none, .string d, .int .i64 size] w fun e w' => e = .returned (.tuple #[.pointer none, .int .i64 1]) ∧ Below w.heap.size w w' := by
  go_enter Tryz.func7, Tryz.ntmps7
  go_wp2_with (go_at_call 15; go_loud (refine (ready_nil _ _).mono ?_; rintro e w1 ⟨rfl, hb⟩; have HB := Lib.hid hb; clear hb))
  go_ret2
  exact ⟨rfl, HB.out⟩
theorem nil_big (size a b : Int) (s : ByteArray) (hs : 4000 < s.size) (hs2 : s.size ≤ 140737488351232) (w : World) (hT : Tab w.heap.size w) : Calls Tryz.prog 4 #[.int .i64 size, .int .i64 a, .int .i64 b, .string s] w fun e w' => e = .returned (.bool true) ∧ Below w.heap.size w w' := by
  have HA := Lib.hid (alive_sg w hT)
  have d0 : decide ((4000 : Int) < (s.size : Int)) = true := decide_eq_true (by omega)
  clear hT
  go_enter Tryz.func4, Tryz.ntmps4
  go_wp2_with (go_at_call 5; refine HA.out.mono ?_; rintro e w1 ⟨rfl, h1⟩; have HB1 := Lib.hid h1; clear h1)
  go_ret
  exact ⟨rfl, HB1.out⟩
set_option maxHeartbeats 2000000 in
set_option maxRecDepth 20000 in
theorem nil_arg (size a b : Int) (h : size < 1 ∨ (¬ size < 1 ∧ 16777216 < size)) (s : ByteArray) (hs : ¬ 4000 < s.size) (w : World) (hT : Tab w.heap.size w) : Calls Tryz.prog 4 #[.int .i64 size, .int .i64 a, .int .i64 b, .string s] w fun e w' => e = .returned (.bool true) ∧ Below w.heap.size w w' := by
  have HA := Lib.hid (alive_sg w hT)
  have HH := Lib.hid (fun W => open_arg (.pointer none) ⟨#[112]⟩ size h W)
  have d0 : decide ((4000 : Int) < (s.size : Int)) = false := decide_eq_false (by omega)
  have hcv := fun W => run_bytes_of_string (P := Tryz.prog) W 9 33 5 s Tryz.underlying9 Tryz.underlying33 Tryz.underlying5
  clear hT
  rcases h with h | ⟨h, h2⟩
  all_goals go_enter Tryz.func4, Tryz.ntmps4
  all_goals go_wp2_with (first
    | (go_at_call 5; refine HA.out.mono ?_; rintro e w1 ⟨rfl, h1⟩; have HB1 := Lib.hid h1; clear h1)
    | (go_at_call 8; go_loud (refine (append_no _ _).mono ?_; rintro e w2 ⟨rfl, rfl⟩))
    | (go_at_call 9; go_loud (refine (read_no _ _ _).mono ?_; rintro e w2 ⟨rfl, rfl⟩))
    | (go_at_call 7; go_loud (refine (HH.out _).mono ?_; rintro e w2 ⟨rfl, rfl⟩))
    | (go_at_call 10; go_loud (refine (sync_no _).mono ?_; rintro e w2 ⟨rfl, rfl⟩))
    | (go_at_call 11; go_loud (refine (end_no _).mono ?_; rintro e w2 ⟨rfl, rfl⟩))
    | (go_at_call 12; go_loud (refine (durable_no _).mono ?_; rintro e w2 ⟨rfl, rfl⟩))
    | (go_at_call 13; go_loud (refine (segments_no _).mono ?_; rintro e w2 ⟨rfl, rfl⟩)))
  all_goals go_ret
  all_goals exact ⟨rfl, (HB1.out.alloc HB1.out.size _).drew⟩
set_option maxHeartbeats 2000000 in
set_option maxRecDepth 20000 in
theorem nil_ok (size a b : Int) (h : ¬ size < 1) (h2 : ¬ 16777216 < size) (s : ByteArray) (hs : ¬ 4000 < s.size) (w : World) (hT : Tab w.heap.size w) : Calls Tryz.prog 4 #[.int .i64 size, .int .i64 a, .int .i64 b, .string s] w fun e w' => e = .returned (.bool true) ∧ Below w.heap.size w w' := by
  have HA := Lib.hid (alive_sg w hT)
  have d0 : decide ((4000 : Int) < (s.size : Int)) = false := decide_eq_false (by omega)
  have hcv := fun W => run_bytes_of_string (P := Tryz.prog) W 9 33 5 s Tryz.underlying9 Tryz.underlying33 Tryz.underlying5
  have HH := Lib.hid (fun W => open_no ⟨#[112]⟩ size h h2 W)
  clear hT
  go_enter Tryz.func4, Tryz.ntmps4
  go_wp2_with (first
    | (go_at_call 5; refine HA.out.mono ?_; rintro e w1 ⟨rfl, h1⟩; have HB1 := Lib.hid h1; clear h1)
    | (go_at_call 8; go_loud (refine (append_no _ _).mono ?_; rintro e w2 ⟨rfl, rfl⟩))
    | (go_at_call 9; go_loud (refine (read_no _ _ _).mono ?_; rintro e w2 ⟨rfl, rfl⟩))
    | (go_at_call 7; go_loud (refine (HH.out _).mono ?_; rintro e w3 ⟨rfl, h3⟩; have HB3 := Lib.hid h3; clear h3))
    | (go_at_call 10; go_loud (refine (sync_no _).mono ?_; rintro e w2 ⟨rfl, rfl⟩))
    | (go_at_call 11; go_loud (refine (end_no _).mono ?_; rintro e w2 ⟨rfl, rfl⟩))
    | (go_at_call 12; go_loud (refine (durable_no _).mono ?_; rintro e w2 ⟨rfl, rfl⟩))
    | (go_at_call 13; go_loud (refine (segments_no _).mono ?_; rintro e w2 ⟨rfl, rfl⟩)))
  go_ret
  exact ⟨rfl, ((HB1.out.alloc HB1.out.size _).drew).trans (HB3.out.mono (Nat.le_trans HB1.out.size (by simp)))⟩
theorem nil_sg (size a b : Int) (s : ByteArray) (hs : s.size ≤ 140737488351232) (w : World) (hT : Tab w.heap.size w) : Calls Tryz.prog 4 #[.int .i64 size, .int .i64 a, .int .i64 b, .string s] w fun e w' => e = .returned (.bool true) ∧ Below w.heap.size w w' := by
  by_cases h0 : 4000 < s.size
  · exact nil_big size a b s h0 hs w hT
  · by_cases h1 : size < 1
    · exact nil_arg size a b (.inl h1) s h0 w hT
    · by_cases h2 : 16777216 < size
      · exact nil_arg size a b (.inr ⟨h1, h2⟩) s h0 w hT
      · exact nil_ok size a b h1 h2 s h0 w hT
end Go.Proofs.YtcdgiplgkffomaaGreatDoor
