/- The walks of package num: what is made of two numbers; the chapter's examples. -/
import Derived.Test.YtnfffkppgfokcaaRows
import Derived.Test.YtnfffkppgfokcaaNumWalks4
import Derived.Lib.Mul64
import Derived.Laws.Bits64b
import Derived.WalkKit
import Derived.WalkLawsBesides
import Derived.WalkSpells
import Derived.ProofKit
import Derived.Below
import Derived.Outline
import Derived.Lib.Hide
import Derived.Laws.Externs
import Derived.BigQuiet
import Derived.Deep.QuietTactic
import Derived.Deep.RegionWith
import Derived.Deep.RegionHeld3
namespace Go.Proofs.Ytnfffkppgfokcaa
open Go.ChangeShapes Go.WideShapes Go.ChangeAt Go.RowKit




theorem in128_of {x : Int} (h0 : -36893488147419103232 ≤ x) (h1 : x ≤ 36893488147419103232) : In128 x := by unfold In128; omega

theorem do_add (a b : Int) (ha : In64 a) (hb : In64 b) (w : World) :
    Calls Try.prog 11 #[.int .i64 4, .int .i64 a, .int .i64 b] w fun e w' => e = .returned (.tuple #[.int .i64 (wholeN (a + b)), .int .i64 (wholeE (a + b))]) ∧ Below w.heap.size w w' := by
  have h8 : In128 (a + b) := by unfold In64 at ha hb; exact in128_of (by omega) (by omega)
  go_enter Try.func11, Try.ntmps11
  go_wp2_with fail
  refine (of_any a ha _).mono ?_
  rintro e w1 ⟨rfl, hb1⟩
  go_wp2_with fail
  refine (add_any a b hb _).mono ?_
  rintro e w2 ⟨rfl, hb2⟩
  go_wp2_with fail
  refine (whole_any (a + b) h8 _).mono ?_
  rintro e w3 ⟨rfl, hb3⟩
  go_wp2
  go_ret2
  exact ⟨rfl, (hb1.trans (hb2.mono hb1.size)).trans (hb3.mono (Nat.le_trans hb1.size hb2.size))⟩
theorem do_sub (a b : Int) (ha : In64 a) (hb : In64 b) (w : World) :
    Calls Try.prog 11 #[.int .i64 5, .int .i64 a, .int .i64 b] w fun e w' => e = .returned (.tuple #[.int .i64 (wholeN (a - b)), .int .i64 (wholeE (a - b))]) ∧ Below w.heap.size w w' := by
  have h8 : In128 (a - b) := by unfold In64 at ha hb; exact in128_of (by omega) (by omega)
  have E1 := Lib.hid (show a + -b = a - b by omega)
  go_enter Try.func11, Try.ntmps11
  go_wp2_with fail
  refine (of_any a ha _).mono ?_
  rintro e w1 ⟨rfl, hb1⟩
  go_wp2_with fail
  refine (of_any b hb _).mono ?_
  rintro e w2 ⟨rfl, hb2⟩
  go_wp2_with fail
  refine (negative_any b _).mono ?_
  rintro e w3 ⟨rfl, hb3⟩
  go_wp2_with fail
  refine (both_any a (-b) _).mono ?_
  rintro e w4 ⟨rfl, hb4⟩
  rw [E1.out]
  go_wp2_with fail
  refine (whole_any (a - b) h8 _).mono ?_
  rintro e w5 ⟨rfl, hb5⟩
  go_wp2
  go_ret2
  have s1 := hb1.size; have s2 := hb2.size; have s3 := hb3.size; have s4 := hb4.size
  exact ⟨rfl, (((hb1.trans (hb2.mono (by omega))).trans (hb3.mono (by omega))).trans (hb4.mono (by omega))).trans (hb5.mono (by omega))⟩
theorem do_mul (a b : Int) (ha : In64 a) (hb : In64 b) (w : World) :
    Calls Try.prog 11 #[.int .i64 6, .int .i64 a, .int .i64 b] w fun e w' => e = .returned (.tuple #[.int .i64 (wholeN (a * b)), .int .i64 (wholeE (a * b))]) ∧ Below w.heap.size w w' := by
  go_enter Try.func11, Try.ntmps11
  go_wp2_with fail
  refine (times_any a b ha hb _).mono ?_
  rintro e w1 ⟨rfl, hb1⟩
  go_wp2
  go_ret2
  exact ⟨rfl, hb1⟩
theorem do_div0 (a : Int) (w : World) :
    Calls Try.prog 11 #[.int .i64 7, .int .i64 a, .int .i64 0] w fun e w' => e = .returned (.tuple #[.int .i64 0, .int .i64 11]) ∧ w = w' := by
  go_enter Try.func11, Try.ntmps11
  go_wp2_with fail
  refine (quotient_zero a _).mono ?_
  rintro e w1 ⟨rfl, rfl⟩
  go_wp2
  go_ret2
  exact ⟨rfl, rfl⟩
theorem do_divL (w : World) :
    Calls Try.prog 11 #[.int .i64 7, .int .i64 (-9223372036854775808), .int .i64 (-1)] w fun e w' => e = .returned (.tuple #[.int .i64 0, .int .i64 10]) ∧ w = w' := by
  go_enter Try.func11, Try.ntmps11
  go_wp2_with fail
  refine (quotient_least _).mono ?_
  rintro e w1 ⟨rfl, rfl⟩
  go_wp2
  go_ret2
  exact ⟨rfl, rfl⟩
theorem do_div (a b : Int) (ha : In64 a) (h0 : b ≠ 0) (h : ¬ (a = -9223372036854775808 ∧ b = -1)) (w : World) :
    Calls Try.prog 11 #[.int .i64 7, .int .i64 a, .int .i64 b] w fun e w' => e = .returned (.tuple #[.int .i64 (a.tdiv b), .int .i64 0]) ∧ w = w' := by
  have H := Lib.hid (fun W => quotient_any a b ha h0 h W)
  clear ha h0 h
  go_enter Try.func11, Try.ntmps11
  go_wp2_with fail
  refine (H.out _).mono ?_
  rintro e w1 ⟨rfl, rfl⟩
  go_wp2
  go_ret2
  exact ⟨rfl, rfl⟩
theorem do_rem0 (a : Int) (w : World) :
    Calls Try.prog 11 #[.int .i64 8, .int .i64 a, .int .i64 0] w fun e w' => e = .returned (.tuple #[.int .i64 0, .int .i64 11]) ∧ w = w' := by
  go_enter Try.func11, Try.ntmps11
  go_wp2_with fail
  refine (remainder_zero a _).mono ?_
  rintro e w1 ⟨rfl, rfl⟩
  go_wp2
  go_ret2
  exact ⟨rfl, rfl⟩
theorem do_rem (a b : Int) (h0 : b ≠ 0) (w : World) :
    Calls Try.prog 11 #[.int .i64 8, .int .i64 a, .int .i64 b] w fun e w' => e = .returned (.tuple #[.int .i64 (a.tmod b), .int .i64 0]) ∧ w = w' := by
  have H := Lib.hid (fun W => remainder_any a b h0 W)
  clear h0
  go_enter Try.func11, Try.ntmps11
  go_wp2_with fail
  refine (H.out _).mono ?_
  rintro e w1 ⟨rfl, rfl⟩
  go_wp2
  go_ret2
  exact ⟨rfl, rfl⟩
theorem do_arg (op a b : Int) (h4 : op ≠ 4) (h5 : op ≠ 5) (h6 : op ≠ 6) (h7 : op ≠ 7) (h8 : op ≠ 8) (w : World) :
    Calls Try.prog 11 #[.int .i64 op, .int .i64 a, .int .i64 b] w fun e w' => e = .returned (.tuple #[.int .i64 0, .int .i64 2]) ∧ w = w' := by
  have g4 : (op == 4) = false := by simp [h4]
  have g5 : (op == 5) = false := by simp [h5]
  have g6 : (op == 6) = false := by simp [h6]
  have g7 : (op == 7) = false := by simp [h7]
  have g8 : (op == 8) = false := by simp [h8]
  clear h4 h5 h6 h7 h8
  go_enter Try.func11, Try.ntmps11
  go_wp2
  go_ret2
  exact ⟨rfl, rfl⟩

/-- Do, whatever it is given. -/
theorem do_any (op a b : Int) (ha : In64 a) (hb : In64 b) (w : World) :
    Calls Try.prog 11 #[.int .i64 op, .int .i64 a, .int .i64 b] w fun e w' => e = .returned (.tuple #[.int .i64 (doN op a b), .int .i64 (doE op a b)]) ∧ Below w.heap.size w w' := by
  by_cases h4 : op = 4
  · subst h4; exact do_add a b ha hb w
  by_cases h5 : op = 5
  · subst h5; exact do_sub a b ha hb w
  by_cases h6 : op = 6
  · subst h6; exact do_mul a b ha hb w
  by_cases h7 : op = 7
  · subst h7
    by_cases h0 : b = 0
    · subst h0; exact (do_div0 a w).mono fun e w' ⟨h, hw⟩ => ⟨h, hw ▸ Below.refl _ _⟩
    · by_cases hl : a = -9223372036854775808 ∧ b = -1
      · obtain ⟨rfl, rfl⟩ := hl
        exact (do_divL w).mono fun e w' ⟨h, hw⟩ => ⟨by rw [h]; simp [doN, doE, wholeN, wholeE], hw ▸ Below.refl _ _⟩
      · have ht := tdiv_in ha hl
        exact (do_div a b ha h0 hl w).mono fun e w' ⟨h, hw⟩ => ⟨by rw [h]; simp [doN, doE, h0, wholeN_yes ht, wholeE_yes ht], hw ▸ Below.refl _ _⟩
  by_cases h8 : op = 8
  · subst h8
    by_cases h0 : b = 0
    · subst h0; exact (do_rem0 a w).mono fun e w' ⟨h, hw⟩ => ⟨h, hw ▸ Below.refl _ _⟩
    · exact (do_rem a b h0 w).mono fun e w' ⟨h, hw⟩ => ⟨by rw [h]; simp [doN, doE, h0], hw ▸ Below.refl _ _⟩
  exact (do_arg op a b h4 h5 h6 h7 h8 w).mono fun e w' ⟨h, hw⟩ => ⟨by rw [h]; simp [doN, doE, h4, h5, h6, h7, h8], hw ▸ Below.refl _ _⟩
end Go.Proofs.Ytnfffkppgfokcaa
