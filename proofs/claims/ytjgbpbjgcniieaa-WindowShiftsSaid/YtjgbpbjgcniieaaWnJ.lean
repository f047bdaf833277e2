/- Layer 14: the law WindowHas, walked. -/
import Derived.Test.YtjgbpbjgcniieaaWnI
namespace Go.Proofs.Ytjgbpbjgcniieaa
open Go Go.ChangeShapes Go.WideShapes Go.ChangeAt Go.RowKit
set_option linter.unusedVariables false
set_option linter.unusedSimpArgs false
theorem win_at {t size slide : Int} {l : List Int} (hl : winO t size slide = l) (i : Nat) (h : i < l.length) : l[i] = winS t size slide i := by subst hl; exact winO_at h
set_option maxRecDepth 100000 in
set_option maxHeartbeats 4000000 in
theorem has_walk (s t size slide : Int) (hs0 : In64 s) (ht : In64 t) (hz : In64 size) (hs : In64 slide) (w : World) :
    Calls Try.prog 4 #[.int .i64 s, .int .i64 t, .int .i64 size, .int .i64 slide] w fun e w' => e = .returned (.bool true) ∧ Below w.heap.size w w' := by
  have HO := Lib.hid (fun W => of_any t size slide ht hz hs W)
  have HH0 := Lib.hid (fun W => has_any s size t hs0 hz ht W)
  have HRH := Lib.hid (fun W => rhas_any s size t hs0 hz ht W)
  obtain ⟨h0, hh0⟩ : ∃ h0, hasW s size t = h0 := ⟨_, rfl⟩
  rw [hh0] at HH0 HRH
  unfold OfPost at HO
  clear hh0 hs0
  by_cases he : winE t size slide = 0
  · obtain ⟨hr, hti⟩ := winE_zero.1 he
    obtain ⟨r1, r2, r3, r4⟩ := rightW_iff.1 hr
    have HN := Lib.hid (show winN t size slide = winJ t size slide + 1 by unfold winN; rw [if_pos he])
    have HL := Lib.hid (winO_len t size slide)
    have HBD := Lib.hid (fun (i : Nat) (h : i ≤ winJ t size slide) => winS_bd hr hti h)
    have HHA := Lib.hid (fun (i : Nat) (h : i ≤ winJ t size slide) (W : World) => (winS_has (t := t) r1 r2 h) ▸ has_any (winS t size slide i) size t (by have := winS_bd hr hti h; unfold In64; omega) hz ht W)
    have HMD := Lib.hid (fun (i : Nat) => winS_mod t size slide i)
    have HNX := Lib.hid (fun (i : Nat) => winS_next t size slide i)
    have HFI := Lib.hid (fun (W : World) => (winS_first (t := t) r1 r2) ▸ has_any (winS t size slide 0 - slide) size t (by have := winS_bd hr hti (Nat.zero_le _); unfold In64; omega) hz ht W)
    have HLA := Lib.hid (fun (W : World) => (winS_end (t := t) r1 r2) ▸ has_any (winS t size slide (winJ t size slide) + slide) size t (by have := winS_bd hr hti (Nat.le_refl _); unfold In64; omega) hz ht W)
    have HONE := Lib.hid (fun (h : size = slide) => winJ_one (t := t) r1 h)
    have HM64 := Lib.hid (show winJ t size slide < lim64 from winJ_lt hr)
    have hs2 : slide ≤ 72057594037927936 := by omega
    have hs0 : (slide == 0) = false := by simp; omega
    rw [he, HN.out] at HO
    rw [HN.out] at HL
    obtain ⟨l, hl⟩ : ∃ l, winO t size slide = l := ⟨_, rfl⟩
    simp only [hl] at HO HL
    have HAT := Lib.hid (fun (i : Nat) (h : i < l.length) => win_at hl i h)
    obtain ⟨M, hM⟩ : ∃ M, winJ t size slide = M := ⟨_, rfl⟩
    simp only [hM] at HO HL HBD HHA HLA HONE HM64
    clear he hr hti hl hM ht hz hs HN r2 r4
    go_enter Try.func4, Try.ntmps4
    go_wp2_with (first
      | (go_at_call 7; go_loud (refine (alive_any _).mono ?_; rintro en w1 ⟨rfl, hb1⟩; have HB1 := Lib.hid hb1; clear hb1))
      | (go_at_call 12; go_loud (refine (HH0.out _).mono ?_; rintro en w4 ⟨rfl, rfl⟩))
      | (go_at_call 13; go_loud (refine (HRH.out _).mono ?_; rintro en w4 ⟨rfl, rfl⟩))
      | (go_at_call 8; go_loud (refine (HO.out _).mono ?_; rintro en w2 ⟨A2, c2, rfl, hr2, hb2⟩; have HR2 := Lib.hid hr2; have HB2 := Lib.hid (hop0 HB1.out hb2); clear hb2 hr2)))
    go_loopw [11] (fun iv wr => ∃ i : Nat, iv = .int .i64 i ∧ i ≤ M + 1 ∧ Hid (Below w2.heap.size w2 wr)) (fun iv _ => M + 1 - (intOf iv).toNat)
    case atStart => exact ⟨0, rfl, Nat.zero_le _, Lib.hid (Below.refl _ _)⟩
    case round =>
      obtain ⟨i, rfl, hi, HB⟩ := hrel
      by_cases hlt : i < M + 1
      · have hil : i < l.length := by rw [HL.out]; exact hlt
        obtain ⟨b2, off2, rfl, hb2, n2⟩ := rowI (HR2.out.below HB.out) i hil
        rw [HAT.out i hil] at n2
        have hbd := HBD.out i (by omega)
        have hmd : (winS t size slide i).tmod slide = 0 := Int.tmod_eq_zero_of_dvd (Int.dvd_of_emod_eq_zero (HMD.out i))
        have i1 : (0 : Int) ≤ (i : Int) := by omega
        have i2 : (i : Int) < (M : Int) + 1 := by omega
        have i3 : i + 1 ≤ 9223372036854775807 := by have := HM64.out; unfold lim64 at this; omega
        have HHI := Lib.hid (HHA.out i (by omega))
        cases i with
        | zero =>
          obtain ⟨x, hx⟩ : ∃ x, winS t size slide 0 = x := ⟨_, rfl⟩
          rw [hx] at n2 hbd hmd HHI
          rw [Nat.add_zero] at n2
          clear hb2 hil hx
          go_wp2
          go_quiet (first | (go_at_call 12; refine quiet_own (HHI.out _)))
          go_wp2
          go_roundw
          case rel => exact ⟨1, rfl, by omega, Lib.hid (below_more HB.out _)⟩
          case measure => simp [intOf]
        | succ k =>
          have hkl : k < l.length := by omega
          obtain ⟨b3, off3, e3, hb3, n3⟩ := rowI (HR2.out.below HB.out) k hkl
          cases e3
          rw [HAT.out k hkl] at n3
          have hbk := HBD.out k (by omega)
          have hnx := HNX.out k
          obtain ⟨x, hx⟩ : ∃ x, winS t size slide (k + 1) = x := ⟨_, rfl⟩
          obtain ⟨y, hy⟩ : ∃ x, winS t size slide k = x := ⟨_, rfl⟩
          rw [hx, hy] at hnx
          rw [hx] at n2 hbd hmd HHI
          rw [hy] at n3 hbk
          subst hnx
          have k1 : (0 : Int) ≤ (k : Int) := by omega
          have k2 : (k : Int) < (M : Int) + 1 := by omega
          clear hb2 hb3 hil hkl hx hy
          go_wp2
          go_quiet (first | (go_at_call 12; refine quiet_own (HHI.out _)))
          go_wp2
          go_roundw
          case rel => exact ⟨k + 1 + 1, by go_num, by omega, Lib.hid (below_more HB.out _)⟩
          case measure => simp [intOf]; omega
      · have hke : i = M + 1 := by omega
        subst hke
        obtain ⟨b2, off2, rfl, hb2, n0⟩ := rowI (HR2.out.below HB.out) 0 (by rw [HL.out]; omega)
        obtain ⟨b3, off3, e3, hb3, nM⟩ := rowI (HR2.out.below HB.out) M (by rw [HL.out]; omega)
        cases e3
        rw [HAT.out, Nat.add_zero] at n0
        rw [HAT.out] at nM
        have hb0 := HBD.out 0 (Nat.zero_le _)
        have hbM := HBD.out M (Nat.le_refl _)
        have i3 : M + 1 ≤ 9223372036854775807 := by have := HM64.out; unfold lim64 at this; omega
        have i1 : (0 : Int) ≤ (M : Int) := by omega
        have i2 : (M : Int) < (M : Int) + 1 := by omega
        obtain ⟨x, hx⟩ : ∃ x, winS t size slide 0 = x := ⟨_, rfl⟩
        obtain ⟨y, hy⟩ : ∃ x, winS t size slide M = x := ⟨_, rfl⟩
        rw [hx] at n0 hb0 HFI
        rw [hy] at nM hbM HLA
        have HBE := Lib.hid (hop0 HB2.out HB.out)
        clear hb2 hb3 hx hy HHA HAT HBD hi hlt
        by_cases hss : size = slide
        · have hM0 := HONE.out hss
          subst hM0
          have q1 : (size != slide) = false := by simpa using hss
          rw [Nat.add_zero, n0] at nM
          cases nM
          clear HONE hss
          go_wp2_with (first
            | (go_at_call 12; have HSEC := HFIRST; go_loud (refine (HLA.out _).mono ?_; rintro en w4 ⟨rfl, rfl⟩))
            | (go_at_call 12; go_loud (refine (HFI.out _).mono ?_; rintro en w4 ⟨rfl, rfl⟩; have HFIRST := Lib.hid True.intro)))
          go_ret
          exact ⟨by simp, HBE.out⟩
        · have q1 : (size != slide) = true := by simpa using hss
          clear HONE hss
          go_wp2_with (first
            | (go_at_call 12; have HSEC := HFIRST; go_loud (refine (HLA.out _).mono ?_; rintro en w4 ⟨rfl, rfl⟩))
            | (go_at_call 12; go_loud (refine (HFI.out _).mono ?_; rintro en w4 ⟨rfl, rfl⟩; have HFIRST := Lib.hid True.intro)))
          go_ret
          exact ⟨by simp, HBE.out⟩
  · have q0 : (winE t size slide != 0) = true := by simpa using he
    have HN := Lib.hid (show winN t size slide = 0 by unfold winN; rw [if_neg he])
    rw [HN.out] at HO
    obtain ⟨E, hE⟩ : ∃ E, winE t size slide = E := ⟨_, rfl⟩
    rw [hE] at HO q0
    clear he hE ht hz hs HN
    go_enter Try.func4, Try.ntmps4
    go_wp2_with (first
      | (go_at_call 7; go_loud (refine (alive_any _).mono ?_; rintro en w1 ⟨rfl, hb1⟩; have HB1 := Lib.hid hb1; clear hb1))
      | (go_at_call 12; go_loud (refine (HH0.out _).mono ?_; rintro en w4 ⟨rfl, rfl⟩))
      | (go_at_call 13; go_loud (refine (HRH.out _).mono ?_; rintro en w4 ⟨rfl, rfl⟩))
      | (go_at_call 8; go_loud (refine (HO.out _).mono ?_; rintro en w2 ⟨A2, c2, rfl, hr2, hb2⟩; have HR2 := Lib.hid hr2; have HB2 := Lib.hid (hop0 HB1.out hb2); clear hb2 hr2)))
    go_ret
    exact ⟨by simp, HB2.out⟩
end Go.Proofs.Ytjgbpbjgcniieaa
