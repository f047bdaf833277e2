/- Layer 14: the law WindowShifts, walked. -/
import Derived.Test.YtjgbpbjgcniieaaWnJ
namespace Go.Proofs.Ytjgbpbjgcniieaa
open Go Go.ChangeShapes Go.WideShapes Go.ChangeAt Go.RowKit
set_option linter.unusedVariables false
set_option linter.unusedSimpArgs false
theorem mul_bd {b slide : Int} (h1 : 1 ≤ slide) (h2 : slide ≤ 1099511627776) (b1 : -32768 ≤ b) (b2 : b ≤ 32767) : -36028797018963968 ≤ b * slide ∧ b * slide ≤ 36028797018963968 := by
  have h3 : (-32768) * slide ≤ b * slide := Int.mul_le_mul_of_nonneg_right (by omega) (by omega)
  have h4 : b * slide ≤ 32767 * slide := Int.mul_le_mul_of_nonneg_right (by omega) (by omega)
  omega
theorem winN_shift {t size slide : Int} (h1 : 1 ≤ slide) (n : Int) (h : isTime t = true) (h2 : isTime (t + n * slide) = true) : winN (t + n * slide) size slide = winN t size slide := by
  unfold winN winE
  rw [winJ_shift h1, h, h2]
set_option maxRecDepth 100000 in
set_option maxHeartbeats 4000000 in
theorem shifts_walk (t size slide b : Int) (ht : -2147483648 ≤ t ∧ t ≤ 2147483647) (hz : In64 size) (hs : In64 slide) (hb : -32768 ≤ b ∧ b ≤ 32767) (w : World) :
    Calls Try.prog 6 #[.int .i32 t, .int .i64 size, .int .i64 slide, .int .i16 b] w fun e w' => e = .returned (.bool true) ∧ Below w.heap.size w w' := by
  obtain ⟨t1, t2⟩ := ht
  obtain ⟨bb1, bb2⟩ := hb
  have HO := Lib.hid (fun W => of_any t size slide (by unfold In64; omega) hz hs W)
  have HC := Lib.hid (fun W => check_any size slide hz hs W)
  have hti : isTime t = true := by unfold isTime; rw [decide_eq_true (by omega), decide_eq_true (by omega)]; rfl
  unfold OfPost at HO
  by_cases hbig : 1099511627776 < size
  · clear HO HC hti hz hs
    go_enter Try.func6, Try.ntmps6
    go_wp2_with (go_at_call 7; go_loud (refine (alive_any _).mono ?_; rintro en w1 ⟨rfl, hb1⟩; have HB1 := Lib.hid hb1; clear hb1))
    go_ret
    exact ⟨by simp, HB1.out⟩
  · by_cases he : winE t size slide = 0
    · obtain ⟨hr, _⟩ := winE_zero.1 he
      obtain ⟨r1, r2, r3, r4⟩ := rightW_iff.1 hr
      obtain ⟨m1, m2⟩ := mul_bd r1 (by omega) bb1 bb2
      have hti2 : isTime (t + b * slide) = true := by unfold isTime; rw [decide_eq_true (by omega), decide_eq_true (by omega)]; rfl
      have he2 : winE (t + b * slide) size slide = 0 := winE_zero.2 ⟨hr, hti2⟩
      have HO2 := Lib.hid (fun W => of_any (t + b * slide) size slide (by unfold In64; omega) hz hs W)
      unfold OfPost at HO2
      simp only [he, he2, winN_shift r1 b hti hti2] at HO HO2
      have HN64 := Lib.hid (show winN t size slide ≤ lim64 from winN_le t size slide)
      have HL := Lib.hid (winO_len t size slide)
      have HL2 := Lib.hid (show (winO (t + b * slide) size slide).length = winN t size slide by rw [winO_len, winN_shift r1 b hti hti2])
      have HSH := Lib.hid (fun i => winS_shift (t := t) (size := size) r1 b i)
      have HBD := Lib.hid (fun (i : Nat) (h : i < winN t size slide) => winS_bd hr hti (show i ≤ winJ t size slide by unfold winN at h; rw [if_pos he] at h; omega))
      obtain ⟨N, hN⟩ : ∃ N, winN t size slide = N := ⟨_, rfl⟩
      simp only [hN] at HO HO2 HN64 HL HL2 HBD
      obtain ⟨l, hl⟩ : ∃ l, winO t size slide = l := ⟨_, rfl⟩
      obtain ⟨m, hm⟩ : ∃ l, winO (t + b * slide) size slide = l := ⟨_, rfl⟩
      simp only [hl] at HO HL
      simp only [hm] at HO2 HL2
      have HAT := Lib.hid (fun (i : Nat) (h : i < l.length) => win_at hl i h)
      have HAT2 := Lib.hid (fun (i : Nat) (h : i < m.length) => win_at hm i h)
      clear hz hs hti hti2 he he2 hr r1 r2 r3 r4 HC
      go_enter Try.func6, Try.ntmps6
      go_wp2_with (first
        | (go_at_call 7; go_loud (refine (alive_any _).mono ?_; rintro en w1 ⟨rfl, hb1⟩; have HB1 := Lib.hid hb1; clear hb1))
        | (go_at_call 8; have HSEC := HFIRST; go_loud (refine (HO2.out _).mono ?_; rintro en w3 ⟨A3, c3, rfl, hr3, hb3⟩; have HR3 := Lib.hid hr3; have HQ2 := Lib.hid ((HR2.out.below hb3).more hb3.size); have HB3 := Lib.hid (hop0 HB2.out hb3); clear hb3 hr3))
        | (go_at_call 8; go_loud (refine (HO.out _).mono ?_; rintro en w2 ⟨A2, c2, rfl, hr2, hb2⟩; have HFIRST := Lib.hid True.intro; have HR2 := Lib.hid hr2; have HB2 := Lib.hid (hop0 HB1.out hb2); clear hb2 hr2)))
      go_loopw [13] (fun iv wr => ∃ i : Nat, iv = .int .i64 i ∧ i ≤ N ∧ Hid (Below w3.heap.size w3 wr)) (fun iv _ => N - (intOf iv).toNat)
      case atStart => exact ⟨0, rfl, Nat.zero_le _, Lib.hid (Below.refl _ _)⟩
      case round =>
        obtain ⟨i, rfl, hi, HB⟩ := hrel
        by_cases hlt : i < N
        · have hil : i < l.length := by rw [HL.out]; exact hlt
          have hil2 : i < m.length := by rw [HL2.out]; exact hlt
          obtain ⟨b2, off2, rfl, hb2, n2⟩ := rowI (HQ2.out.below HB.out) i hil
          obtain ⟨b3, off3, rfl, hb3, n3⟩ := rowI (HR3.out.below HB.out) i hil2
          rw [HAT.out] at n2
          rw [HAT2.out, HSH.out] at n3
          have hbd := HBD.out i hlt
          have i1 : (0 : Int) ≤ (i : Int) := by omega
          have i2 : (i : Int) < (N : Int) := by omega
          have i3 : i + 1 ≤ 9223372036854775807 := by have := HN64.out; unfold lim64 at this; omega
          obtain ⟨x, hx⟩ : ∃ x, winS t size slide i = x := ⟨_, rfl⟩
          rw [hx] at n2 n3 hbd
          clear hb2 hb3 hx hil hil2
          go_wp2
          go_quiet (fail)
          go_wp2
          go_roundw
          case rel => exact ⟨i + 1, by go_num, by omega, Lib.hid (below_more HB.out _)⟩
          case measure => simp [intOf]; omega
        · go_wp2
          go_ret
          exact ⟨by simp, hop0 HB3.out HB.out⟩
    · have q0 : (winE t size slide != 0) = true := by simpa using he
      have HN := Lib.hid (show winN t size slide = 0 by unfold winN; rw [if_neg he])
      have hce : checkW size slide = winE t size slide := by
        unfold winE
        by_cases hr : rightW size slide = true
        · exact absurd (winE_zero.2 ⟨hr, hti⟩) he
        · rw [checkW_no hr, if_pos (by simpa using hr)]
      rw [HN.out] at HO
      rw [hce] at HC
      obtain ⟨E, hE⟩ : ∃ E, winE t size slide = E := ⟨_, rfl⟩
      rw [hE] at HO q0 HC
      clear he hE hz hs HN hce hti
      go_enter Try.func6, Try.ntmps6
      go_wp2_with (first
        | (go_at_call 7; go_loud (refine (alive_any _).mono ?_; rintro en w1 ⟨rfl, hb1⟩; have HB1 := Lib.hid hb1; clear hb1))
        | (go_at_call 10; go_loud (refine (HC.out _).mono ?_; rintro en w4 ⟨rfl, rfl⟩))
        | (go_at_call 8; go_loud (refine (HO.out _).mono ?_; rintro en w2 ⟨A2, c2, rfl, hr2, hb2⟩; have HFIRST := Lib.hid True.intro; have HR2 := Lib.hid hr2; have HB2 := Lib.hid (hop0 HB1.out hb2); clear hb2 hr2)))
      go_ret
      exact ⟨by simp, HB2.out⟩
end Go.Proofs.Ytjgbpbjgcniieaa
