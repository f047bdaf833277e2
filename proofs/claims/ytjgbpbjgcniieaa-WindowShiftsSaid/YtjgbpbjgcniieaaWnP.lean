/- Layer 14, plainly: the windows that have a time. -/
import Derived.Test.YtjgbpbjgcniieaaProg
namespace Go.Proofs.Ytjgbpbjgcniieaa
set_option linter.unusedVariables false
set_option linter.unusedSimpArgs false
/-- Are windows right? -/
def rightW (size slide : Int) : Bool := decide (1 ≤ slide) && decide (slide ≤ size) && decide (size ≤ 72057594037927936) && decide (size ≤ 64 * slide)
theorem rightW_iff {size slide : Int} : rightW size slide = true ↔ 1 ≤ slide ∧ slide ≤ size ∧ size ≤ 72057594037927936 ∧ size ≤ 64 * slide := by
  unfold rightW
  simp only [Bool.and_eq_true, decide_eq_true_eq]
  constructor
  · rintro ⟨⟨⟨h1, h2⟩, h3⟩, h4⟩; exact ⟨h1, h2, h3, h4⟩
  · rintro ⟨h1, h2, h3, h4⟩; exact ⟨⟨⟨h1, h2⟩, h3⟩, h4⟩
/-- A time. -/
def isTime (t : Int) : Bool := decide (-72057594037927936 ≤ t) && decide (t ≤ 72057594037927936)
/-- How many begin ahead of the last one. -/
def winJ (t size slide : Int) : Nat := ((size - 1 - t % slide) / slide).toNat
/-- Where the i-th begins. -/
def winS (t size slide : Int) (i : Nat) : Int := (t / slide - (winJ t size slide : Int) + i) * slide
def winL (t size slide : Int) : List Int := (List.range (winJ t size slide + 1)).map (winS t size slide)
def winE (t size slide : Int) : Int := if rightW size slide = false then 140 else if isTime t = false then 2 else 0
/-- What Of answers. -/
def winO (t size slide : Int) : List Int := if winE t size slide ≠ 0 then [] else winL t size slide
def hasW (s size t : Int) : Bool := decide (s ≤ t) && decide (t - s < size)
section
variable {t size slide : Int}
theorem win_rest (h : 1 ≤ slide) : 0 ≤ t % slide ∧ t % slide < slide ∧ t / slide * slide + t % slide = t := by
  refine ⟨Int.emod_nonneg _ (by omega), Int.emod_lt_of_pos _ (by omega), ?_⟩
  have := Int.mul_ediv_add_emod t slide
  rw [Int.mul_comm] at this
  exact this
/-- The count: so many slides fit. -/
theorem winJ_is (h1 : 1 ≤ slide) (h2 : slide ≤ size) : (winJ t size slide : Int) * slide ≤ size - 1 - t % slide ∧ size - 1 - t % slide < ((winJ t size slide : Int) + 1) * slide := by
  obtain ⟨a, b, c⟩ := win_rest (t := t) h1
  have hn : 0 ≤ (size - 1 - t % slide) / slide := Int.ediv_nonneg (by omega) (by omega)
  have e : (winJ t size slide : Int) = (size - 1 - t % slide) / slide := by unfold winJ; omega
  rw [e]
  refine ⟨Int.ediv_mul_le _ (by omega), ?_⟩
  have := Int.lt_ediv_add_one_mul_self (size - 1 - t % slide) (show 0 < slide by omega)
  exact this
theorem winS_last (t size slide : Int) : winS t size slide (winJ t size slide) = t / slide * slide := by
  unfold winS
  rw [Int.sub_add_cancel]
theorem winS_next (t size slide : Int) (i : Nat) : winS t size slide (i + 1) = winS t size slide i + slide := by
  unfold winS
  rw [show ((i + 1 : Nat) : Int) = (i : Int) + 1 by omega, ← Int.add_assoc, Int.add_mul _ 1, Int.one_mul]
theorem winS_lin (t size slide : Int) (i : Nat) : winS t size slide i = winS t size slide 0 + i * slide := by
  induction i with
  | zero => simp
  | succ i ih => rw [winS_next, ih, show ((i + 1 : Nat) : Int) = (i : Int) + 1 by omega, Int.add_mul, Int.one_mul]; omega
theorem winS_back (t size slide : Int) : winS t size slide 0 + winJ t size slide * slide = t / slide * slide := by
  rw [← winS_lin, winS_last]
theorem winJ_lt (h : rightW size slide = true) : winJ t size slide < 64 := by
  obtain ⟨h1, h2, h3, h4⟩ := rightW_iff.1 h
  obtain ⟨a, b⟩ := winJ_is (t := t) h1 h2
  obtain ⟨r0, _, _⟩ := win_rest (t := t) h1
  have hlt : (winJ t size slide : Int) * slide < 64 * slide := by omega
  have := Int.lt_of_mul_lt_mul_right hlt (by omega)
  omega
/-- Each has the time. -/
theorem winS_has (h1 : 1 ≤ slide) (h2 : slide ≤ size) {i : Nat} (hi : i ≤ winJ t size slide) : hasW (winS t size slide i) size t = true := by
  obtain ⟨a, b⟩ := winJ_is (t := t) h1 h2
  obtain ⟨r0, r1, r2⟩ := win_rest (t := t) h1
  have hb := winS_back t size slide
  have hl := winS_lin t size slide i
  have h5 : (i : Int) * slide ≤ (winJ t size slide : Int) * slide := Int.mul_le_mul_of_nonneg_right (by omega) (by omega)
  have h6 : 0 ≤ (i : Int) * slide := Int.mul_nonneg (by omega) (by omega)
  unfold hasW
  rw [Bool.and_eq_true, decide_eq_true_eq, decide_eq_true_eq]
  omega
/-- Those beside don't. -/
theorem winS_first (h1 : 1 ≤ slide) (h2 : slide ≤ size) : hasW (winS t size slide 0 - slide) size t = false := by
  obtain ⟨a, b⟩ := winJ_is (t := t) h1 h2
  obtain ⟨r0, r1, r2⟩ := win_rest (t := t) h1
  have hb := winS_back t size slide
  rw [Int.add_mul, Int.one_mul] at b
  unfold hasW
  rw [Bool.and_eq_false_iff]
  refine .inr (decide_eq_false ?_)
  omega
theorem winS_end (h1 : 1 ≤ slide) (h2 : slide ≤ size) : hasW (winS t size slide (winJ t size slide) + slide) size t = false := by
  obtain ⟨r0, r1, r2⟩ := win_rest (t := t) h1
  rw [winS_last]
  unfold hasW
  rw [Bool.and_eq_false_iff]
  refine .inl (decide_eq_false ?_)
  omega
theorem winS_mod (t size slide : Int) (i : Nat) : winS t size slide i % slide = 0 := by unfold winS; exact Int.mul_emod_left _ _
theorem winJ_one (h1 : 1 ≤ slide) (h2 : size = slide) : winJ t size slide = 0 := by
  obtain ⟨a, b⟩ := winJ_is (t := t) (size := size) h1 (by omega)
  obtain ⟨r0, _, _⟩ := win_rest (t := t) h1
  have hlt : (winJ t size slide : Int) * slide < 1 * slide := by omega
  have := Int.lt_of_mul_lt_mul_right hlt (by omega)
  omega
/-- So many slides later, so many windows later. -/
theorem winJ_shift (h1 : 1 ≤ slide) (n : Int) : winJ (t + n * slide) size slide = winJ t size slide := by
  unfold winJ
  rw [Int.add_mul_emod_self_right]
theorem winS_shift (h1 : 1 ≤ slide) (n : Int) (i : Nat) : winS (t + n * slide) size slide i = winS t size slide i + n * slide := by
  unfold winS
  rw [winJ_shift h1, Int.add_mul_ediv_right _ _ (by omega)]
  rw [show t / slide + n - (winJ t size slide : Int) + (i : Int) = (t / slide - (winJ t size slide : Int) + (i : Int)) + n by omega, Int.add_mul]
theorem winL_len (t size slide : Int) : (winL t size slide).length = winJ t size slide + 1 := by simp [winL]
theorem winL_at {i : Nat} (h : i < (winL t size slide).length) : (winL t size slide)[i] = winS t size slide i := by simp [winL]
end
end Go.Proofs.Ytjgbpbjgcniieaa
