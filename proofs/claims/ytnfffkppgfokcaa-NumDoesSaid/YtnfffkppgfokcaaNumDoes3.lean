/- The statement NumDoes: the document's own answer for products and quotients, and the walk. -/
import Derived.Test.YtnfffkppgfokcaaNumDoes2
namespace Go.Proofs.Ytnfffkppgfokcaa
open Go.ChangeShapes Go.WideShapes Go.ChangeAt Go.RowKit

theorem refdo_mul_yes (a b : Int) (ha : In64 a) (hb : In64 b) (h : In64 (a * b)) (w : World) :
    Calls Try.prog 12 #[.int .i64 6, .int .i64 a, .int .i64 b] w fun e w' => e = .returned (.tuple #[.int .i64 (a * b), .int .i64 0]) ∧ w = w' := by
  obtain ⟨n, hn, hc⟩ := product_any a b ha hb
  obtain rfl := hn h
  have R := Lib.hid hc
  rw [inB_yes h] at R
  clear h hc
  go_enter Try.func12, Try.ntmps12
  go_wp2_with fail
  refine (R.out _).mono ?_
  rintro e w1 ⟨rfl, rfl⟩
  go_wp2
  go_ret2
  exact ⟨rfl, rfl⟩
theorem refdo_mul_no (a b : Int) (ha : In64 a) (hb : In64 b) (h : ¬ In64 (a * b)) (w : World) :
    Calls Try.prog 12 #[.int .i64 6, .int .i64 a, .int .i64 b] w fun e w' => e = .returned (.tuple #[.int .i64 0, .int .i64 10]) ∧ w = w' := by
  obtain ⟨n, hn, hc⟩ := product_any a b ha hb
  clear hn
  have R := Lib.hid hc
  rw [inB_no h] at R
  clear h hc
  go_enter Try.func12, Try.ntmps12
  go_wp2_with fail
  refine (R.out _).mono ?_
  rintro e w1 ⟨rfl, rfl⟩
  go_wp2
  go_ret2
  exact ⟨rfl, rfl⟩
theorem refdo_div0 (a : Int) (w : World) :
    Calls Try.prog 12 #[.int .i64 7, .int .i64 a, .int .i64 0] w fun e w' => e = .returned (.tuple #[.int .i64 0, .int .i64 11]) ∧ w = w' := by
  go_enter Try.func12, Try.ntmps12
  go_wp2
  go_ret2
  exact ⟨rfl, rfl⟩
theorem refdo_rem0 (a : Int) (w : World) :
    Calls Try.prog 12 #[.int .i64 8, .int .i64 a, .int .i64 0] w fun e w' => e = .returned (.tuple #[.int .i64 0, .int .i64 11]) ∧ w = w' := by
  go_enter Try.func12, Try.ntmps12
  go_wp2
  go_ret2
  exact ⟨rfl, rfl⟩
theorem refdo_rem1 (a : Int) (w : World) :
    Calls Try.prog 12 #[.int .i64 8, .int .i64 a, .int .i64 (-1)] w fun e w' => e = .returned (.tuple #[.int .i64 0, .int .i64 0]) ∧ w = w' := by
  go_enter Try.func12, Try.ntmps12
  go_wp2
  go_ret2
  exact ⟨rfl, rfl⟩
theorem refdo_divL (w : World) :
    Calls Try.prog 12 #[.int .i64 7, .int .i64 (-9223372036854775808), .int .i64 (-1)] w fun e w' => e = .returned (.tuple #[.int .i64 0, .int .i64 10]) ∧ w = w' := by
  go_enter Try.func12, Try.ntmps12
  go_wp2
  go_ret2
  exact ⟨rfl, rfl⟩
theorem refdo_div1 (a : Int) (ha : In64 a) (h : a ≠ -9223372036854775808) (w : World) :
    Calls Try.prog 12 #[.int .i64 7, .int .i64 a, .int .i64 (-1)] w fun e w' => e = .returned (.tuple #[.int .i64 (-a), .int .i64 0]) ∧ w = w' := by
  have hu : (IntKind.u64.wrap a == 9223372036854775808) = false := by
    rw [IntKind.wrap_u64, beq_eq_false_iff_ne]; unfold In64 at ha; omega
  have hi := IntWalk.i64_in (-a) (by unfold In64 at ha; omega)
  have h0 : -9223372036854775807 ≤ a := by unfold In64 at ha; omega
  have h1 : a ≤ 9223372036854775807 := ha.2
  clear ha h
  go_enter Try.func12, Try.ntmps12
  go_wp2
  go_ret2
  exact ⟨rfl, rfl⟩
theorem refdo_div (a b : Int) (ha : In64 a) (h0 : b ≠ 0) (h1 : b ≠ -1) (w : World) :
    Calls Try.prog 12 #[.int .i64 7, .int .i64 a, .int .i64 b] w fun e w' => e = .returned (.tuple #[.int .i64 (a.tdiv b), .int .i64 0]) ∧ w = w' := by
  have ht := tdiv_in (a := a) (b := b) ha (by omega)
  unfold In64 at ht
  have hi := IntWalk.i64_in _ ht
  obtain ⟨t0, t1⟩ := ht
  have g0 : (b == 0) = false := by simp [h0]
  have g1 : (b == -1) = false := by rw [beq_eq_false_iff_ne]; exact h1
  clear h1
  go_enter Try.func12, Try.ntmps12
  go_wp2
  go_ret2
  exact ⟨rfl, rfl⟩
theorem refdo_rem (a b : Int) (ha : In64 a) (h0 : b ≠ 0) (h1 : b ≠ -1) (w : World) :
    Calls Try.prog 12 #[.int .i64 8, .int .i64 a, .int .i64 b] w fun e w' => e = .returned (.tuple #[.int .i64 (a.tmod b), .int .i64 0]) ∧ w = w' := by
  have ht := tdiv_in (a := a) (b := b) ha (by omega)
  have hm := quo_mul_in (a := a) (b := b) ha
  have hr := tmod_in (b := b) ha
  have hqr := quo_rem a b
  unfold In64 at ht hm hr
  have hi := IntWalk.i64_in _ ht
  have hj := IntWalk.i64_in _ hm
  have he : a - a.tdiv b * b = a.tmod b := by omega
  have hk := IntWalk.i64_in _ hr
  obtain ⟨t0, t1⟩ := ht
  obtain ⟨m0, m1⟩ := hm
  obtain ⟨r0, r1⟩ := hr
  have g0 : (b == 0) = false := by simp [h0]
  have g1 : (b == -1) = false := by rw [beq_eq_false_iff_ne]; exact h1
  clear h1 hqr
  go_enter Try.func12, Try.ntmps12
  go_wp2
  go_ret2
  exact ⟨rfl, rfl⟩
theorem refdo_arg (op a b : Int) (h4 : op ≠ 4) (h5 : op ≠ 5) (h6 : op ≠ 6) (h7 : op ≠ 7) (h8 : op ≠ 8) (w : World) :
    Calls Try.prog 12 #[.int .i64 op, .int .i64 a, .int .i64 b] w fun e w' => e = .returned (.tuple #[.int .i64 0, .int .i64 2]) ∧ w = w' := by
  have g4 : (op == 4) = false := by simp [h4]
  have g5 : (op == 5) = false := by simp [h5]
  have g6 : (op == 6) = false := by simp [h6]
  have g7 : (op == 7) = false := by simp [h7]
  have g8 : (op == 8) = false := by simp [h8]
  clear h4 h5 h6 h7 h8
  go_enter Try.func12, Try.ntmps12
  go_wp2
  go_ret2
  exact ⟨rfl, rfl⟩

theorem refdo_any (op a b : Int) (ha : In64 a) (hb : In64 b) (w : World) :
    Calls Try.prog 12 #[.int .i64 op, .int .i64 a, .int .i64 b] w fun e w' => e = .returned (.tuple #[.int .i64 (doN op a b), .int .i64 (doE op a b)]) ∧ Below w.heap.size w w' := by
  by_cases h4 : op = 4
  · subst h4
    by_cases h : In64 (a + b)
    · exact (refdo_add_yes a b ha hb h w).mono fun e w' ⟨he, hw⟩ => ⟨by rw [he]; simp [doN, doE, wholeN_yes h, wholeE_yes h], hw⟩
    · exact (refdo_add_no a b ha hb h w).mono fun e w' ⟨he, hw⟩ => ⟨by rw [he]; simp [doN, doE, wholeN_no h, wholeE_no h], hw⟩
  by_cases h5 : op = 5
  · subst h5
    by_cases h : In64 (a - b)
    · exact (refdo_sub_yes a b ha hb h w).mono fun e w' ⟨he, hw⟩ => ⟨by rw [he]; simp [doN, doE, wholeN_yes h, wholeE_yes h], hw⟩
    · exact (refdo_sub_no a b ha hb h w).mono fun e w' ⟨he, hw⟩ => ⟨by rw [he]; simp [doN, doE, wholeN_no h, wholeE_no h], hw⟩
  by_cases h6 : op = 6
  · subst h6
    by_cases h : In64 (a * b)
    · exact (refdo_mul_yes a b ha hb h w).mono fun e w' ⟨he, hw⟩ => ⟨by rw [he]; simp [doN, doE, wholeN_yes h, wholeE_yes h], hw ▸ Below.refl _ _⟩
    · exact (refdo_mul_no a b ha hb h w).mono fun e w' ⟨he, hw⟩ => ⟨by rw [he]; simp [doN, doE, wholeN_no h, wholeE_no h], hw ▸ Below.refl _ _⟩
  by_cases h7 : op = 7
  · subst h7
    by_cases h0 : b = 0
    · subst h0; exact (refdo_div0 a w).mono fun e w' ⟨h, hw⟩ => ⟨h, hw ▸ Below.refl _ _⟩
    by_cases h1 : b = -1
    · subst h1
      by_cases hl : a = -9223372036854775808
      · subst hl
        exact (refdo_divL w).mono fun e w' ⟨h, hw⟩ => ⟨by rw [h]; simp [doN, doE, wholeN, wholeE], hw ▸ Below.refl _ _⟩
      · have ht : a.tdiv (-1) = -a := by rw [Int.tdiv_neg, Int.tdiv_one]
        have hin : In64 (-a) := by unfold In64 at *; omega
        exact (refdo_div1 a ha hl w).mono fun e w' ⟨h, hw⟩ => ⟨by rw [h]; simp [doN, doE, ht, wholeN_yes hin, wholeE_yes hin], hw ▸ Below.refl _ _⟩
    · have ht := tdiv_in (a := a) (b := b) ha (by omega)
      exact (refdo_div a b ha h0 h1 w).mono fun e w' ⟨h, hw⟩ => ⟨by rw [h]; simp [doN, doE, h0, wholeN_yes ht, wholeE_yes ht], hw ▸ Below.refl _ _⟩
  by_cases h8 : op = 8
  · subst h8
    by_cases h0 : b = 0
    · subst h0; exact (refdo_rem0 a w).mono fun e w' ⟨h, hw⟩ => ⟨h, hw ▸ Below.refl _ _⟩
    by_cases h1 : b = -1
    · subst h1
      have ht : a.tmod (-1) = 0 := by rw [Int.tmod_neg, Int.tmod_one]
      exact (refdo_rem1 a w).mono fun e w' ⟨h, hw⟩ => ⟨by rw [h]; simp [doN, doE, ht], hw ▸ Below.refl _ _⟩
    · exact (refdo_rem a b ha h0 h1 w).mono fun e w' ⟨h, hw⟩ => ⟨by rw [h]; simp [doN, doE, h0], hw ▸ Below.refl _ _⟩
  exact (refdo_arg op a b h4 h5 h6 h7 h8 w).mono fun e w' ⟨h, hw⟩ => ⟨by rw [h]; simp [doN, doE, h4, h5, h6, h7, h8], hw ▸ Below.refl _ _⟩

theorem does_walk (op a b : Int) (ha : In64 a) (hb : In64 b) (w : World) :
    Calls Try.prog 3 #[.int .i64 op, .int .i64 a, .int .i64 b] w fun e w' => e = .returned (.bool true) ∧ Below w.heap.size w w' := by
  have F := Lib.hid (fun W => do_any op a b ha hb W)
  have R := Lib.hid (fun W => refdo_any op a b ha hb W)
  generalize doN op a b = n at F R
  generalize doE op a b = d at F R
  go_enter Try.func3, Try.ntmps3
  go_wp2_with fail
  refine (alive_any _).mono ?_
  rintro r w1 ⟨rfl, hb1⟩
  go_wp2_with fail
  refine (F.out _).mono ?_
  rintro r w2 ⟨rfl, hb2⟩
  go_wp2_with fail
  refine (R.out _).mono ?_
  rintro r w3 ⟨rfl, hb3⟩
  go_wp2
  go_ret
  exact ⟨by simp, (hb1.trans (hb2.mono hb1.size)).trans (hb3.mono (Nat.le_trans hb1.size hb2.size))⟩
end Go.Proofs.Ytnfffkppgfokcaa
