/- Layer 14: the law WindowOf, walked. -/
import Derived.Test.YtjgbpbjgcniieaaWnH
namespace Go.Proofs.Ytjgbpbjgcniieaa
open Go Go.ChangeShapes Go.WideShapes Go.ChangeAt Go.RowKit
set_option linter.unusedVariables false
set_option linter.unusedSimpArgs false
theorem chk_right (size slide : Int) : (checkW size slide == 0) = rightW size slide := by
  cases h : rightW size slide
  · rw [checkW_no (by simp [h])]; rfl
  · rw [checkW_yes h]; rfl
set_option maxRecDepth 100000 in
set_option maxHeartbeats 4000000 in
theorem wof_walk (t size slide : Int) (ht : In64 t) (hz : In64 size) (hs : In64 slide) (w : World) :
    Calls Try.prog 3 #[.int .i64 t, .int .i64 size, .int .i64 slide] w fun e w' => e = .returned (.bool true) ∧ Below w.heap.size w w' := by
  have HO := Lib.hid (fun W => of_any t size slide ht hz hs W)
  have HR := Lib.hid (fun W => rof_any t size slide ht hz hs W)
  have HC := Lib.hid (fun W => check_any size slide hz hs W)
  have HRR := Lib.hid (fun W => rright_any size slide hz hs W)
  have HL := Lib.hid (winO_len t size slide)
  have HN64 := Lib.hid (show winN t size slide ≤ lim64 from winN_le t size slide)
  have hcr := chk_right size slide
  unfold OfPost at HO HR
  obtain ⟨N, hN⟩ : ∃ N, winN t size slide = N := ⟨_, rfl⟩
  obtain ⟨E, hE⟩ : ∃ E, winE t size slide = E := ⟨_, rfl⟩
  obtain ⟨l, hl⟩ : ∃ l, winO t size slide = l := ⟨_, rfl⟩
  obtain ⟨c, hc⟩ : ∃ c, checkW size slide = c := ⟨_, rfl⟩
  obtain ⟨r, hr⟩ : ∃ c, rightW size slide = c := ⟨_, rfl⟩
  rw [hN] at HO HR HL HN64
  rw [hE] at HO HR
  rw [hl] at HO HR HL
  rw [hc] at HC hcr
  rw [hr] at HRR hcr
  clear hN hE hl hc hr ht hz hs
  go_enter Try.func3, Try.ntmps3
  go_wp2_with (first
    | (go_at_call 7; go_loud (refine (alive_any _).mono ?_; rintro en w1 ⟨rfl, hb1⟩; have HB1 := Lib.hid hb1; clear hb1))
    | (go_at_call 8; go_loud (refine (HO.out _).mono ?_; rintro en w2 ⟨A2, c2, rfl, hr2, hb2⟩; have HR2 := Lib.hid hr2; have HB2 := Lib.hid (hop0 HB1.out hb2); clear hb2 hr2))
    | (go_at_call 9; go_loud (refine (HR.out _).mono ?_; rintro en w3 ⟨A3, c3, rfl, hr3, hb3⟩; have HR3 := Lib.hid hr3; have HQ2 := Lib.hid ((HR2.out.below hb3).more hb3.size); have HB3 := Lib.hid (hop0 HB2.out hb3); clear hb3 hr3))
    | (go_at_call 10; go_loud (refine (HC.out _).mono ?_; rintro en w4 ⟨rfl, rfl⟩))
    | (go_at_call 11; go_loud (refine (HRR.out _).mono ?_; rintro en w4 ⟨rfl, rfl⟩)))
  go_loopw [11] (fun iv wr => ∃ i : Nat, iv = .int .i64 i ∧ i ≤ N ∧ Hid (Below w3.heap.size w3 wr)) (fun iv _ => N - (intOf iv).toNat)
  case atStart => exact ⟨0, rfl, Nat.zero_le _, Lib.hid (Below.refl _ _)⟩
  case round =>
    obtain ⟨i, rfl, hi, HB⟩ := hrel
    by_cases hlt : i < N
    · have hil : i < l.length := by rw [HL.out]; exact hlt
      obtain ⟨b2, off2, rfl, hb2, n2⟩ := rowI (HQ2.out.below HB.out) i hil
      obtain ⟨b3, off3, rfl, hb3, n3⟩ := rowI (HR3.out.below HB.out) i hil
      have i1 : (0 : Int) ≤ (i : Int) := by omega
      have i2 : (i : Int) < (N : Int) := by omega
      have i3 : i + 1 ≤ 9223372036854775807 := by have := HN64.out; unfold lim64 at this; omega
      obtain ⟨x, hx⟩ : ∃ x, l[i] = x := ⟨_, rfl⟩
      rw [hx] at n2 n3
      clear hb2 hb3 hx hil
      go_wp2
      go_quiet (fail)
      go_wp2
      go_roundw
      case rel => exact ⟨i + 1, by go_num, by omega, Lib.hid (below_more HB.out _)⟩
      case measure => simp [intOf]; omega
    · go_wp2
      go_ret
      exact ⟨by simp, hop0 HB3.out HB.out⟩
end Go.Proofs.Ytjgbpbjgcniieaa
