/- The statement NumDoes: the document's own answer, and the walk. -/
import Derived.Test.YtnfffkppgfokcaaNumDoes
namespace Go.Proofs.Ytnfffkppgfokcaa
open Go.ChangeShapes Go.WideShapes Go.ChangeAt Go.RowKit

theorem not_in0 (b : Int) : (65535 - lim b 0) % 4294967296 = lim (-b - 1) 0 := by
  have := lim_nonneg b 0; have := lim_le b 0; have := not_lim0 b
  omega
theorem not_in1 (b : Int) : (65535 - lim b 1) % 4294967296 = lim (-b - 1) 1 := by
  have := lim_nonneg b 1; have := lim_le b 1; have := not_lim1 b
  omega
theorem not_in2 (b : Int) : (65535 - lim b 2) % 4294967296 = lim (-b - 1) 2 := by
  have := lim_nonneg b 2; have := lim_le b 2; have := not_lim2 b
  omega
theorem not_in3 (b : Int) : (65535 - lim b 3) % 4294967296 = lim (-b - 1) 3 := by
  have := lim_nonneg b 3; have := lim_le b 3; have := not_lim3 b
  omega
theorem not_in4 (b : Int) : (65535 - lim b 4) % 4294967296 = lim (-b - 1) 4 := by
  have := lim_nonneg b 4; have := lim_le b 4; have := not_lim4 b
  omega
theorem not_in5 (b : Int) : (65535 - lim b 5) % 4294967296 = lim (-b - 1) 5 := by
  have := lim_nonneg b 5; have := lim_le b 5; have := not_lim5 b
  omega
theorem not_in6 (b : Int) : (65535 - lim b 6) % 4294967296 = lim (-b - 1) 6 := by
  have := lim_nonneg b 6; have := lim_le b 6; have := not_lim6 b
  omega
theorem not_in7 (b : Int) : (65535 - lim b 7) % 4294967296 = lim (-b - 1) 7 := by
  have := lim_nonneg b 7; have := lim_le b 7; have := not_lim7 b
  omega
theorem refdo_add_yes (a b : Int) (ha : In64 a) (hb : In64 b) (h : In64 (a + b)) (w : World) :
    Calls Try.prog 12 #[.int .i64 4, .int .i64 a, .int .i64 b] w fun e w' => e = .returned (.tuple #[.int .i64 (a + b), .int .i64 0]) ∧ Below w.heap.size w w' := by
  have R := Lib.hid (fun W => refint_any (a + b) (by unfold In64 at ha hb; exact in128_of (by omega) (by omega)) W)
  rw [wholeN_yes h, inB_yes h] at R
  clear h
  go_enter Try.func12, Try.ntmps12
  go_wp2_with fail
  refine (wide_any a ha _).mono ?_
  rintro e w1 ⟨rfl, hb1⟩
  go_wp2_with fail
  refine (wide_any b hb _).mono ?_
  rintro e w2 ⟨rfl, hb2⟩
  go_wp2_with fail
  refine (refboth_any a b _).mono ?_
  rintro e w3 ⟨rfl, hb3⟩
  go_wp2_with fail
  refine (R.out _).mono ?_
  rintro e w4 ⟨rfl, hb4⟩
  go_wp2
  go_ret2
  have s1 := hb1.size; have s2 := hb2.size; have s3 := hb3.size
  exact ⟨rfl, ((hb1.trans (hb2.mono (by omega))).trans (hb3.mono (by omega))).trans (hb4.mono (by omega))⟩
theorem refdo_add_no (a b : Int) (ha : In64 a) (hb : In64 b) (h : ¬ In64 (a + b)) (w : World) :
    Calls Try.prog 12 #[.int .i64 4, .int .i64 a, .int .i64 b] w fun e w' => e = .returned (.tuple #[.int .i64 0, .int .i64 10]) ∧ Below w.heap.size w w' := by
  have R := Lib.hid (fun W => refint_any (a + b) (by unfold In64 at ha hb; exact in128_of (by omega) (by omega)) W)
  rw [wholeN_no h, inB_no h] at R
  clear h
  go_enter Try.func12, Try.ntmps12
  go_wp2_with fail
  refine (wide_any a ha _).mono ?_
  rintro e w1 ⟨rfl, hb1⟩
  go_wp2_with fail
  refine (wide_any b hb _).mono ?_
  rintro e w2 ⟨rfl, hb2⟩
  go_wp2_with fail
  refine (refboth_any a b _).mono ?_
  rintro e w3 ⟨rfl, hb3⟩
  go_wp2_with fail
  refine (R.out _).mono ?_
  rintro e w4 ⟨rfl, hb4⟩
  go_wp2
  go_ret2
  have s1 := hb1.size; have s2 := hb2.size; have s3 := hb3.size
  exact ⟨rfl, ((hb1.trans (hb2.mono (by omega))).trans (hb3.mono (by omega))).trans (hb4.mono (by omega))⟩
set_option maxRecDepth 100000 in
set_option maxHeartbeats 4000000 in
theorem refdo_sub_yes (a b : Int) (ha : In64 a) (hb : In64 b) (h : In64 (a - b)) (w : World) :
    Calls Try.prog 12 #[.int .i64 5, .int .i64 a, .int .i64 b] w fun e w' => e = .returned (.tuple #[.int .i64 (a - b), .int .i64 0]) ∧ Below w.heap.size w w' := by
  have R := Lib.hid (fun W => refint_any (a - b) (by unfold In64 at ha hb; exact in128_of (by omega) (by omega)) W)
  rw [wholeN_yes h, inB_yes h] at R
  have E1 := Lib.hid (show a + (-b - 1) + 1 = a - b by omega)
  clear h
  have q0 := not_in0 b
  have q1 := not_in1 b
  have q2 := not_in2 b
  have q3 := not_in3 b
  have q4 := not_in4 b
  have q5 := not_in5 b
  have q6 := not_in6 b
  have q7 := not_in7 b
  go_enter Try.func12, Try.ntmps12
  go_wp2_with fail
  refine (wide_any b hb _).mono ?_
  rintro e w1 ⟨rfl, hb1⟩
  go_wp2_with fail
  refine (limbs_any b _).mono ?_
  rintro e w2 ⟨rfl, hb2⟩
  have B2 : Below w.heap.size w w2 := hb1.trans (hb2.mono hb1.size)
  have s2 := B2.size
  clear hb1 hb2
  go_wp2_with fail
  refine wp_loop_rounds 9 ?_
  iterate 9 (rw [rounds_succ]; go_wp2_with fail)
  go_region_held3 (fun w' => Below w.heap.size w w' ∧ w'.cell? ⟨w2.heap.size, 0, none⟩ = some (.int .u32 (lim (-b - 1) 0)) ∧ w'.cell? ⟨w2.heap.size, 1, none⟩ = some (.int .u32 (lim (-b - 1) 1)) ∧ w'.cell? ⟨w2.heap.size, 2, none⟩ = some (.int .u32 (lim (-b - 1) 2)) ∧ w'.cell? ⟨w2.heap.size, 3, none⟩ = some (.int .u32 (lim (-b - 1) 3)) ∧ w'.cell? ⟨w2.heap.size, 4, none⟩ = some (.int .u32 (lim (-b - 1) 4)) ∧ w'.cell? ⟨w2.heap.size, 5, none⟩ = some (.int .u32 (lim (-b - 1) 5)) ∧ w'.cell? ⟨w2.heap.size, 6, none⟩ = some (.int .u32 (lim (-b - 1) 6)) ∧ w'.cell? ⟨w2.heap.size, 7, none⟩ = some (.int .u32 (lim (-b - 1) 7)))
    (first | (go_split_ands; refine ⟨Below.trans ‹Below w.heap.size w _› (hb9.mono (Below.size ‹Below w.heap.size w _›)), cell_later hb9 ?_, cell_later hb9 ?_, cell_later hb9 ?_, cell_later hb9 ?_, cell_later hb9 ?_, cell_later hb9 ?_, cell_later hb9 ?_, cell_later hb9 ?_⟩ <;> assumption) | (refine ⟨(B2.alloc (by omega) _).drew, ?_, ?_, ?_, ?_, ?_, ?_, ?_, ?_⟩ <;> simp [go_sem]))
    ((first | (go_at_call 20; (with_reducible refine (wide_any a ha _).mono ?_); rintro e w4 ⟨rfl, hb9⟩) | (go_at_call 29; refine (of_limbs (-b - 1) _).mono ?_; rintro e w4 ⟨rfl, hb9⟩) | (go_at_call 18; (with_reducible refine (refboth_any a (-b - 1) _).mono ?_); rintro e w4 ⟨rfl, hb9⟩) | (go_at_call 20; (with_reducible refine (wide_any 1 (by unfold In64; omega) _).mono ?_); rintro e w4 ⟨rfl, hb9⟩) | (go_at_call 18; (with_reducible refine (refboth_any (a + (-b - 1)) 1 _).mono ?_); rw [E1.out]; rintro e w4 ⟨rfl, hb9⟩) | (go_at_call 16; refine (R.out _).mono ?_; rintro e w4 ⟨rfl, hb9⟩)))
  go_wp2
  go_ret2
  go_split_ands
  exact ⟨rfl, ‹Below w.heap.size w _›⟩
set_option maxRecDepth 100000 in
set_option maxHeartbeats 4000000 in
theorem refdo_sub_no (a b : Int) (ha : In64 a) (hb : In64 b) (h : ¬ In64 (a - b)) (w : World) :
    Calls Try.prog 12 #[.int .i64 5, .int .i64 a, .int .i64 b] w fun e w' => e = .returned (.tuple #[.int .i64 0, .int .i64 10]) ∧ Below w.heap.size w w' := by
  have R := Lib.hid (fun W => refint_any (a - b) (by unfold In64 at ha hb; exact in128_of (by omega) (by omega)) W)
  rw [wholeN_no h, inB_no h] at R
  have E1 := Lib.hid (show a + (-b - 1) + 1 = a - b by omega)
  clear h
  have q0 := not_in0 b
  have q1 := not_in1 b
  have q2 := not_in2 b
  have q3 := not_in3 b
  have q4 := not_in4 b
  have q5 := not_in5 b
  have q6 := not_in6 b
  have q7 := not_in7 b
  go_enter Try.func12, Try.ntmps12
  go_wp2_with fail
  refine (wide_any b hb _).mono ?_
  rintro e w1 ⟨rfl, hb1⟩
  go_wp2_with fail
  refine (limbs_any b _).mono ?_
  rintro e w2 ⟨rfl, hb2⟩
  have B2 : Below w.heap.size w w2 := hb1.trans (hb2.mono hb1.size)
  have s2 := B2.size
  clear hb1 hb2
  go_wp2_with fail
  refine wp_loop_rounds 9 ?_
  iterate 9 (rw [rounds_succ]; go_wp2_with fail)
  go_region_held3 (fun w' => Below w.heap.size w w' ∧ w'.cell? ⟨w2.heap.size, 0, none⟩ = some (.int .u32 (lim (-b - 1) 0)) ∧ w'.cell? ⟨w2.heap.size, 1, none⟩ = some (.int .u32 (lim (-b - 1) 1)) ∧ w'.cell? ⟨w2.heap.size, 2, none⟩ = some (.int .u32 (lim (-b - 1) 2)) ∧ w'.cell? ⟨w2.heap.size, 3, none⟩ = some (.int .u32 (lim (-b - 1) 3)) ∧ w'.cell? ⟨w2.heap.size, 4, none⟩ = some (.int .u32 (lim (-b - 1) 4)) ∧ w'.cell? ⟨w2.heap.size, 5, none⟩ = some (.int .u32 (lim (-b - 1) 5)) ∧ w'.cell? ⟨w2.heap.size, 6, none⟩ = some (.int .u32 (lim (-b - 1) 6)) ∧ w'.cell? ⟨w2.heap.size, 7, none⟩ = some (.int .u32 (lim (-b - 1) 7)))
    (first | (go_split_ands; refine ⟨Below.trans ‹Below w.heap.size w _› (hb9.mono (Below.size ‹Below w.heap.size w _›)), cell_later hb9 ?_, cell_later hb9 ?_, cell_later hb9 ?_, cell_later hb9 ?_, cell_later hb9 ?_, cell_later hb9 ?_, cell_later hb9 ?_, cell_later hb9 ?_⟩ <;> assumption) | (refine ⟨(B2.alloc (by omega) _).drew, ?_, ?_, ?_, ?_, ?_, ?_, ?_, ?_⟩ <;> simp [go_sem]))
    ((first | (go_at_call 20; (with_reducible refine (wide_any a ha _).mono ?_); rintro e w4 ⟨rfl, hb9⟩) | (go_at_call 29; refine (of_limbs (-b - 1) _).mono ?_; rintro e w4 ⟨rfl, hb9⟩) | (go_at_call 18; (with_reducible refine (refboth_any a (-b - 1) _).mono ?_); rintro e w4 ⟨rfl, hb9⟩) | (go_at_call 20; (with_reducible refine (wide_any 1 (by unfold In64; omega) _).mono ?_); rintro e w4 ⟨rfl, hb9⟩) | (go_at_call 18; (with_reducible refine (refboth_any (a + (-b - 1)) 1 _).mono ?_); rw [E1.out]; rintro e w4 ⟨rfl, hb9⟩) | (go_at_call 16; refine (R.out _).mono ?_; rintro e w4 ⟨rfl, hb9⟩)))
  go_wp2
  go_ret2
  go_split_ands
  exact ⟨rfl, ‹Below w.heap.size w _›⟩
end Go.Proofs.Ytnfffkppgfokcaa
