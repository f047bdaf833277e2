/- Layer 14, walked: Check, fits, multiple, All's closure, Has; the document's Right, Has. -/
import Derived.Test.YtjgbpbjgcniieaaWnP
import Derived.Test.YtjgbpbjgcniieaaWnA
import Derived.Test.YtjgbpbjgcniieaaWnB
namespace Go.Proofs.Ytjgbpbjgcniieaa
open Go Go.ChangeShapes Go.WideShapes Go.ChangeAt Go.RowKit
set_option linter.unusedVariables false
set_option linter.unusedSimpArgs false
section
variable {t size slide : Int}
theorem winS_zero (h1 : 1 ≤ slide) (h2 : slide ≤ size) : (t - size) / slide * slide + slide = winS t size slide 0 := by
  have e1 : winS t size slide 0 = (t / slide - (winJ t size slide : Int)) * slide := by unfold winS; simp
  obtain ⟨k, hk⟩ : ∃ k, t / slide - (winJ t size slide : Int) = k := ⟨_, rfl⟩
  have a := winS_has (t := t) h1 h2 (i := 0) (Nat.zero_le _)
  have b := winS_first (t := t) h1 h2
  obtain ⟨c0, c1, c2⟩ := win_rest (t := t - size) h1
  unfold hasW at a b
  rw [Bool.and_eq_true, decide_eq_true_eq, decide_eq_true_eq] at a
  rw [Bool.and_eq_false_iff, decide_eq_false_iff_not, decide_eq_false_iff_not] at b
  rw [e1, hk] at a b ⊢
  obtain ⟨q, hq⟩ : ∃ q, (t - size) / slide = q := ⟨_, rfl⟩
  rw [hq] at c2 ⊢
  have d1 : q * slide < k * slide := by omega
  have d2 : k * slide < (q + 2) * slide := by rw [Int.add_mul]; omega
  have e2 := Int.lt_of_mul_lt_mul_right d1 (by omega)
  have e3 := Int.lt_of_mul_lt_mul_right d2 (by omega)
  have : k = q + 1 := by omega
  rw [this, Int.add_mul, Int.one_mul]
theorem winL_le {i j : Nat} (h1 : 1 ≤ slide) (h : i ≤ j) : winS t size slide i + (j - i : Nat) * slide = winS t size slide j := by
  rw [winS_lin t size slide i, winS_lin t size slide j, show ((j - i : Nat) : Int) = (j : Int) - i by omega, Int.sub_mul]; omega
theorem winS_bd (h : rightW size slide = true) (ht : isTime t = true) {i : Nat} (hi : i ≤ winJ t size slide) : -144115188075855872 ≤ winS t size slide i ∧ winS t size slide i ≤ 72057594037927936 := by
  obtain ⟨h1, h2, h3, h4⟩ := rightW_iff.1 h
  have a := winS_has (t := t) h1 h2 hi
  unfold hasW at a
  unfold isTime at ht
  rw [Bool.and_eq_true, decide_eq_true_eq, decide_eq_true_eq] at a ht
  omega
theorem winE_zero : winE t size slide = 0 ↔ rightW size slide = true ∧ isTime t = true := by
  unfold winE
  cases rightW size slide <;> cases isTime t <;> simp
/-- How many there are. -/
def winN (t size slide : Int) : Nat := if winE t size slide = 0 then winJ t size slide + 1 else 0
theorem winO_len (t size slide : Int) : (winO t size slide).length = winN t size slide := by
  unfold winO winN
  by_cases h : winE t size slide = 0
  · rw [if_neg (by simp [h]), if_pos h, winL_len]
  · rw [if_pos h, if_neg h]; rfl
theorem winO_at {i : Nat} (h : i < (winO t size slide).length) : (winO t size slide)[i] = winS t size slide i := by
  unfold winO at h ⊢
  by_cases h0 : winE t size slide = 0
  · simp only [h0, ne_eq, not_true_eq_false, if_false] at h ⊢
    exact winL_at h
  · simp [h0] at h
theorem winO_is (t size slide : Int) : winO t size slide = (List.range (winN t size slide)).map (winS t size slide) := by
  unfold winO winN
  by_cases h : winE t size slide = 0
  · rw [if_neg (by simp [h]), if_pos h]; rfl
  · rw [if_pos h, if_neg h]; rfl
theorem winN_le (t size slide : Int) : winN t size slide ≤ 64 := by
  unfold winN
  split
  · next h => have := winJ_lt (t := t) (winE_zero.1 h).1; omega
  · omega
theorem div_bd {n : Int} (h1 : 1 ≤ slide) (h2 : slide ≤ 72057594037927936) (a : -144115188075855872 ≤ n) (b : n ≤ 144115188075855872) : In64 (n / slide * slide) ∧ n - slide < n / slide * slide ∧ n / slide * slide ≤ n := by
  obtain ⟨c0, c1, c2⟩ := win_rest (t := n) h1
  unfold In64
  omega
end
/-- What Check answers. -/
def checkW (size slide : Int) : Int := if rightW size slide = true then 0 else 140
theorem checkW_yes {size slide : Int} (h : rightW size slide = true) : checkW size slide = 0 := if_pos h
theorem checkW_no {size slide : Int} (h : ¬ rightW size slide = true) : checkW size slide = 140 := if_neg h
theorem check_any (size slide : Int) (hz : In64 size) (hs : In64 slide) (w : World) :
    Calls Try.prog 10 #[.int .i64 size, .int .i64 slide] w fun e w' => e = .returned (.int .i64 (checkW size slide)) ∧ w = w' := by
  unfold In64 at hz hs
  by_cases h1 : 1 ≤ slide
  · by_cases h2 : slide ≤ size
    · by_cases h3 : size ≤ 72057594037927936
      · have g : wrap64 (64 * slide) = 64 * slide := IntWalk.wrap64_in _ (by omega)
        by_cases h4 : size ≤ 64 * slide
        · have H := Lib.hid (checkW_yes <| show rightW size slide = true from rightW_iff.2 ⟨h1, h2, h3, h4⟩)
          go_enter Try.func10, Try.ntmps10
          go_wp2
          go_ret
          exact ⟨by simp [H.out], rfl⟩
        · have H := Lib.hid (checkW_no <| show ¬ rightW size slide = true from fun h => h4 (rightW_iff.1 h).2.2.2)
          go_enter Try.func10, Try.ntmps10
          go_wp2
          go_ret
          exact ⟨by simp [H.out], rfl⟩
      · have H := Lib.hid (checkW_no <| show ¬ rightW size slide = true from fun h => h3 (rightW_iff.1 h).2.2.1)
        go_enter Try.func10, Try.ntmps10
        go_wp2
        go_ret
        exact ⟨by simp [H.out], rfl⟩
    · have H := Lib.hid (checkW_no <| show ¬ rightW size slide = true from fun h => h2 (rightW_iff.1 h).2.1)
      go_enter Try.func10, Try.ntmps10
      go_wp2
      go_ret
      exact ⟨by simp [H.out], rfl⟩
  · have H := Lib.hid (checkW_no <| show ¬ rightW size slide = true from fun h => h1 (rightW_iff.1 h).1)
    go_enter Try.func10, Try.ntmps10
    go_wp2
    go_ret
    exact ⟨by simp [H.out], rfl⟩
theorem rright_any (size slide : Int) (hz : In64 size) (hs : In64 slide) (w : World) :
    Calls Try.prog 11 #[.int .i64 size, .int .i64 slide] w fun e w' => e = .returned (.bool (rightW size slide)) ∧ w = w' := by
  unfold In64 at hz hs
  by_cases h1 : 1 ≤ slide
  · by_cases h2 : slide ≤ size
    · by_cases h3 : size ≤ 72057594037927936
      · by_cases h5 : 1125899906842624 < slide
        · have H := Lib.hid (show rightW size slide = true from rightW_iff.2 ⟨h1, h2, h3, by omega⟩)
          go_enter Try.func11, Try.ntmps11
          go_wp2
          go_ret
          exact ⟨by simp [H.out], rfl⟩
        · have g : wrap64 (64 * slide) = 64 * slide := IntWalk.wrap64_in _ (by omega)
          have H := Lib.hid (show rightW size slide = decide (size ≤ 64 * slide) from by unfold rightW; rw [decide_eq_true h1, decide_eq_true h2, decide_eq_true h3]; rfl)
          go_enter Try.func11, Try.ntmps11
          go_wp2
          go_ret
          exact ⟨by simp [H.out], rfl⟩
      · have H := Lib.hid (show rightW size slide = false from by unfold rightW; rw [decide_eq_false h3]; simp)
        go_enter Try.func11, Try.ntmps11
        go_wp2
        go_ret
        exact ⟨by simp [H.out], rfl⟩
    · have H := Lib.hid (show rightW size slide = false from by unfold rightW; rw [decide_eq_false h2]; simp)
      go_enter Try.func11, Try.ntmps11
      go_wp2
      go_ret
      exact ⟨by simp [H.out], rfl⟩
  · have H := Lib.hid (show rightW size slide = false from by unfold rightW; rw [decide_eq_false h1]; simp)
    go_enter Try.func11, Try.ntmps11
    go_wp2
    go_ret
    exact ⟨by simp [H.out], rfl⟩
theorem fits_any (t size slide : Int) (ht : In64 t) (hz : In64 size) (hs : In64 slide) (w : World) :
    Calls Try.prog 15 #[.int .i64 t, .int .i64 size, .int .i64 slide] w fun e w' => e = .returned (.int .i64 (winE t size slide)) ∧ w = w' := by
  have HC := Lib.hid (check_any size slide hz hs w)
  unfold In64 at ht hz hs
  by_cases hr : rightW size slide = true
  · rw [checkW_yes hr] at HC
    by_cases h1 : -72057594037927936 ≤ t
    · by_cases h2 : t ≤ 72057594037927936
      · have H := Lib.hid (show winE t size slide = 0 from winE_zero.2 ⟨hr, by unfold isTime; rw [decide_eq_true h1, decide_eq_true h2]; rfl⟩)
        clear hr
        go_enter Try.func15, Try.ntmps15
        go_wp2_with (go_at_call 10; refine HC.out.mono ?_; rintro en w1 ⟨rfl, rfl⟩)
        go_ret
        exact ⟨by simp [H.out], rfl⟩
      · have H := Lib.hid (show winE t size slide = 2 from by unfold winE; rw [if_neg (by rw [hr]; simp), if_pos (by unfold isTime; rw [decide_eq_false h2]; simp)])
        clear hr
        go_enter Try.func15, Try.ntmps15
        go_wp2_with (go_at_call 10; refine HC.out.mono ?_; rintro en w1 ⟨rfl, rfl⟩)
        go_ret
        exact ⟨by simp [H.out], rfl⟩
    · have H := Lib.hid (show winE t size slide = 2 from by unfold winE; rw [if_neg (by rw [hr]; simp), if_pos (by unfold isTime; rw [decide_eq_false h1]; simp)])
      clear hr
      go_enter Try.func15, Try.ntmps15
      go_wp2_with (go_at_call 10; refine HC.out.mono ?_; rintro en w1 ⟨rfl, rfl⟩)
      go_ret
      exact ⟨by simp [H.out], rfl⟩
  · rw [checkW_no hr] at HC
    have H := Lib.hid (show winE t size slide = 140 from by unfold winE; rw [if_pos (by simpa using hr)])
    clear hr
    go_enter Try.func15, Try.ntmps15
    go_wp2_with (go_at_call 10; refine HC.out.mono ?_; rintro en w1 ⟨rfl, rfl⟩)
    go_ret
    exact ⟨by simp [H.out], rfl⟩
theorem multiple_any (t slide : Int) (ht : In64 t) (h1 : 1 ≤ slide) (hb : In64 (t / slide * slide)) (w : World) :
    Calls Try.prog 18 #[.int .i64 t, .int .i64 slide] w fun e w' => e = .returned (.int .i64 (t / slide * slide)) ∧ w = w' := by
  have HC := Lib.hid (floor_any t slide ht h1 w)
  have H := Lib.hid (IntWalk.wrap64_in _ (by unfold In64 at hb; exact hb) : wrap64 (t / slide * slide) = t / slide * slide)
  obtain ⟨q, hq⟩ : ∃ q, t / slide = q := ⟨_, rfl⟩
  rw [hq] at HC H
  rw [hq]
  clear hq hb ht
  go_enter Try.func18, Try.ntmps18
  go_wp2_with (go_at_call 19; refine HC.out.mono ?_; rintro en w1 ⟨rfl, rfl⟩)
  go_ret
  exact ⟨by simp [H.out], rfl⟩
theorem has_any (s size t : Int) (hs : In64 s) (hz : In64 size) (ht : In64 t) (w : World) :
    Calls Try.prog 12 #[.int .i64 s, .int .i64 size, .int .i64 t] w fun e w' => e = .returned (.bool (hasW s size t)) ∧ w = w' := by
  unfold In64 at hs hz ht
  by_cases h1 : s ≤ t
  · by_cases h2 : 1 ≤ size
    · have g : IntKind.u64.wrap (IntKind.u64.wrap t - IntKind.u64.wrap s) = t - s := by simp only [IntKind.wrap_u64]; omega
      have g2 : IntKind.u64.wrap size = size := by simp only [IntKind.wrap_u64]; omega
      have H := Lib.hid (show hasW s size t = decide (t - s < size) from by unfold hasW; rw [decide_eq_true h1]; rfl)
      have G := Lib.hid g
      have G2 := Lib.hid g2
      clear g g2
      go_enter Try.func12, Try.ntmps12
      go_wp2
      go_ret
      exact ⟨by simp [H.out, G.out, G2.out], rfl⟩
    · have H := Lib.hid (show hasW s size t = false from by unfold hasW; rw [decide_eq_false (show ¬ t - s < size by omega)]; simp)
      go_enter Try.func12, Try.ntmps12
      go_wp2
      go_ret
      exact ⟨by simp [H.out], rfl⟩
  · have H := Lib.hid (show hasW s size t = false from by unfold hasW; rw [decide_eq_false h1]; rfl)
    go_enter Try.func12, Try.ntmps12
    go_wp2
    go_ret
    exact ⟨by simp [H.out], rfl⟩
theorem rhas_any (s size t : Int) (hs : In64 s) (hz : In64 size) (ht : In64 t) (w : World) :
    Calls Try.prog 13 #[.int .i64 s, .int .i64 size, .int .i64 t] w fun e w' => e = .returned (.bool (hasW s size t)) ∧ w = w' := by
  unfold In64 at hs hz ht
  by_cases h1 : s ≤ t
  · by_cases h2 : 1 ≤ size
    · have g : IntKind.u64.wrap (IntKind.u64.wrap t - IntKind.u64.wrap s) = t - s := by simp only [IntKind.wrap_u64]; omega
      have g2 : IntKind.u64.wrap (size - 1) = size - 1 := by simp only [IntKind.wrap_u64]; omega
      have H := Lib.hid (show hasW s size t = decide (t - s ≤ size - 1) from by
        unfold hasW
        rw [decide_eq_true h1, Bool.true_and]
        exact decide_eq_decide.2 (by omega))
      have G := Lib.hid g
      have G2 := Lib.hid g2
      clear g g2
      go_enter Try.func13, Try.ntmps13
      go_wp2
      go_ret
      exact ⟨by simp [H.out, G.out, G2.out], rfl⟩
    · have H := Lib.hid (show hasW s size t = false from by unfold hasW; rw [decide_eq_false (show ¬ t - s < size by omega)]; simp)
      go_enter Try.func13, Try.ntmps13
      go_wp2
      go_ret
      exact ⟨by simp [H.out], rfl⟩
  · have H := Lib.hid (show hasW s size t = false from by unfold hasW; rw [decide_eq_false h1]; rfl)
    go_enter Try.func13, Try.ntmps13
    go_wp2
    go_ret
    exact ⟨by simp [H.out], rfl⟩
end Go.Proofs.Ytjgbpbjgcniieaa
