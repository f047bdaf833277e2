/- What a seat needs of several texts. -/
import Derived.Test.YtclcabdekeegdaaGreatDecW3
import Derived.OneCell
/- From DecW4. -/
namespace Go.Proofs.YtclcabdekeegdaaGreat
open Go.ChangeShapes Go.WideShapes Go.ChangeAt Go.RowKit
set_option linter.unusedVariables false
theorem fM_own {l : List C} {k : Nat} (h : k < l.length) : fM l[k].s l = (findI l[k].s l : Int) := by
  have := findI_own h
  unfold fM
  rw [if_pos (by omega)]
set_option maxHeartbeats 1000000 in
set_option maxRecDepth 20000 in
theorem rright_any (l : List C) (hw : ∀ c ∈ l, c.wf) (len cap : Nat) (A : Option Addr) (w : World) (hl : len = l.length) (hm : len ≤ maxLen) (hr : Row2 w w.heap.size A l) :
    Calls Tryz.prog 26 #[.slice A len cap] w fun e w' => e = .returned (.bool (rightB l)) ∧ w = w' := by
  obtain ⟨E, hE⟩ : ∃ E, rightB l = E := ⟨_, rfl⟩
  have HE := Lib.hid hE
  rw [hE]
  clear hE
  have HL := Lib.hid hl
  have HR := Lib.hid hr
  have HW := Lib.hid hw
  have HM := Lib.hid hm
  clear hl hr hw
  unfold maxLen at hm
  by_cases h0 : len = 0
  · have HX := Lib.hid (show E = false by rw [← HE.out]; exact rightB_short (by rw [← HL.out]; omega))
    have p1 : ((len : Int) == 0) = true := by rw [h0]; rfl
    go_enter Tryz.func26, Tryz.ntmps26
    go_wp2
    go_ret
    rw [HX.out]
    exact ⟨rfl, rfl⟩
  · have p1 : ((len : Int) == 0) = false := by rw [beq_eq_false_iff_ne]; omega
    by_cases h12 : 12 < len
    · have HX := Lib.hid (show E = false by rw [← HE.out]; exact rightB_long (by rw [← HL.out]; exact h12))
      have p2 : decide ((12 : Int) < (len : Int)) = true := decide_eq_true (by omega)
      go_enter Tryz.func26, Tryz.ntmps26
      go_wp2
      go_ret
      rw [HX.out]
      exact ⟨rfl, rfl⟩
    · have p2 : decide ((12 : Int) < (len : Int)) = false := decide_eq_false (by omega)
      go_enter Tryz.func26, Tryz.ntmps26
      go_wp2
      clear p1 p2
      go_loop [3] (fun i => ∃ k : Nat, k ≤ len ∧ i = .int .i64 k ∧ Hid (∀ j, j < k → goodAt l j = true)) (fun i => len - (intOf i).toNat)
      case atStart => exact ⟨0, Nat.zero_le _, rfl, Lib.hid (fun j h => by omega)⟩
      case round =>
        obtain ⟨k, hk, rfl, HA⟩ := hrel
        by_cases hlt : k < len
        · have hkl : k < l.length := by rw [← HL.out]; exact hlt
          obtain ⟨b, off, rfl, hB, c0, c1⟩ := HR.out k hkl
          have HF := Lib.hid (rfind_any l l[k].s len cap (some ⟨b, off, none⟩) w HL.out HM.out HR.out)
          have HFO := Lib.hid (fM_own hkl)
          have HG := Lib.hid (goodAt_at hkl)
          obtain ⟨c, HV⟩ : ∃ c, Hid (l[k] = c) := ⟨_, Lib.hid rfl⟩
          rw [HV.out] at c0 c1 HG HF HFO
          have hwc : c.wf := HW.out c (by rw [← HV.out]; exact List.getElem_mem hkl)
          have HN := Lib.hid (rname_any c.s hwc.2 w)
          have hk64 := hwc.1
          unfold in64 at hk64
          clear hwc
          obtain ⟨i, hi⟩ : ∃ i : Nat, findI c.s l = i := ⟨_, rfl⟩
          obtain ⟨nm, hnm⟩ : ∃ nm, nameB c.s.data.toList = nm := ⟨_, rfl⟩
          rw [HFO.out, hi] at HF
          rw [hnm] at HN
          rw [hi, hnm] at HG
          have HBAD := Lib.hid (show goodAt l k = false → E = false from fun h => by rw [← HE.out]; exact rightB_bad hkl h)
          clear hi hnm HFO
          cases nm
          · have HX := Lib.hid (HBAD.out (by rw [HG.out, Bool.false_and, Bool.false_and]))
            go_wp2_with (go_at_call 53; refine HN.out.mono ?_; rintro e w3 ⟨rfl, rfl⟩)
            go_ret
            rw [HX.out]
            exact ⟨rfl, rfl⟩
          · by_cases hik : i = k
            · have q1 : ((i : Int) != (k : Int)) = false := by rw [bne_eq_false_iff_eq]; omega
              by_cases hk1 : c.k < 1
              · have q2 : decide (c.k < 1) = true := decide_eq_true hk1
                have HX := Lib.hid (HBAD.out (by rw [HG.out, decide_eq_false (show ¬ (1 ≤ c.k ∧ c.k ≤ 3) by omega), Bool.and_false]))
                clear hik
                go_wp2_with (first | (go_at_call 53; refine HN.out.mono ?_; rintro e w3 ⟨rfl, rfl⟩) | (go_at_call 54; refine HF.out.mono ?_; rintro e w3 ⟨rfl, rfl⟩))
                go_ret
                rw [HX.out]
                exact ⟨rfl, rfl⟩
              · have q2 : decide (c.k < 1) = false := decide_eq_false hk1
                by_cases hk3 : 3 < c.k
                · have q3 : decide ((3 : Int) < c.k) = true := decide_eq_true hk3
                  have HX := Lib.hid (HBAD.out (by rw [HG.out, decide_eq_false (show ¬ (1 ≤ c.k ∧ c.k ≤ 3) by omega), Bool.and_false]))
                  clear hik
                  go_wp2_with (first | (go_at_call 53; refine HN.out.mono ?_; rintro e w3 ⟨rfl, rfl⟩) | (go_at_call 54; refine HF.out.mono ?_; rintro e w3 ⟨rfl, rfl⟩))
                  go_ret
                  rw [HX.out]
                  exact ⟨rfl, rfl⟩
                · have q3 : decide ((3 : Int) < c.k) = false := decide_eq_false hk3
                  have HA2 := Lib.hid (show ∀ j, j < k + 1 → goodAt l j = true from fun j h => by
                    by_cases h2 : j = k
                    · subst h2; rw [HG.out, decide_eq_true hik, decide_eq_true (show 1 ≤ c.k ∧ c.k ≤ 3 by omega)]; rfl
                    · exact HA.out j (by omega))
                  clear hik
                  go_wp2_with (first | (go_at_call 53; refine HN.out.mono ?_; rintro e w3 ⟨rfl, rfl⟩) | (go_at_call 54; refine HF.out.mono ?_; rintro e w3 ⟨rfl, rfl⟩))
                  go_round
                  case rel => exact ⟨k + 1, by omega, by go_num, HA2⟩
                  case measure => simp [intOf]; omega
            · have q1 : ((i : Int) != (k : Int)) = true := by rw [bne_iff_ne]; omega
              have HX := Lib.hid (HBAD.out (by rw [HG.out, decide_eq_false hik, Bool.and_false, Bool.false_and]))
              clear hik
              go_wp2_with (first | (go_at_call 53; refine HN.out.mono ?_; rintro e w3 ⟨rfl, rfl⟩) | (go_at_call 54; refine HF.out.mono ?_; rintro e w3 ⟨rfl, rfl⟩))
              go_ret
              rw [HX.out]
              exact ⟨rfl, rfl⟩
        · have HX := Lib.hid (show E = true by rw [← HE.out]; exact rightB_good (by rw [← HL.out]; omega) (by rw [← HL.out]; omega) (fun j hj => HA.out j (by rw [HL.out] at hlt; omega)))
          go_wp2
          go_ret
          rw [HX.out]
          exact ⟨rfl, rfl⟩
def bigC (l : List C) : Bool := decide (40 < l.length) || l.any fun c => decide (200 < c.s.size)
theorem bigc_any (l : List C) (hw : ∀ c ∈ l, c.wf) (len cap : Nat) (A : Option Addr) (w : World) (hl : len = l.length) (hm : len ≤ maxLen) (hr : Row2 w w.heap.size A l) :
    Calls Tryz.prog 31 #[.slice A len cap] w fun e w' => e = .returned (.bool (bigC l)) ∧ w = w' := by
  obtain ⟨E, hE⟩ : ∃ E, bigC l = E := ⟨_, rfl⟩
  have HE := Lib.hid hE
  rw [hE]
  clear hE
  have HL := Lib.hid hl
  have HR := Lib.hid hr
  have HW := Lib.hid hw
  clear hl hr hw
  unfold maxLen at hm
  by_cases h40 : 40 < len
  · have HX := Lib.hid (show E = true by rw [← HE.out]; unfold bigC; rw [decide_eq_true (by rw [← HL.out]; exact h40), Bool.true_or])
    have hd : decide ((40 : Int) < (len : Int)) = true := decide_eq_true (by omega)
    go_enter Tryz.func31, Tryz.ntmps31
    go_wp2
    go_ret
    rw [HX.out]
    exact ⟨rfl, rfl⟩
  · have hd : decide ((40 : Int) < (len : Int)) = false := decide_eq_false (by omega)
    go_enter Tryz.func31, Tryz.ntmps31
    go_wp2
    clear hd
    go_loop [3] (fun i => ∃ k : Nat, k ≤ len ∧ i = .int .i64 k ∧ Hid ((l.take k).any (fun c => decide (200 < c.s.size)) = false)) (fun i => len - (intOf i).toNat)
    case atStart => exact ⟨0, Nat.zero_le _, rfl, Lib.hid rfl⟩
    case round =>
      obtain ⟨k, hk, rfl, HA2⟩ := hrel
      by_cases hlt : k < len
      · have hkl : k < l.length := by rw [← HL.out]; exact hlt
        obtain ⟨b, off, rfl, hB, c0, c1⟩ := HR.out k hkl
        obtain ⟨c, HV⟩ : ∃ c, Hid (l[k] = c) := ⟨_, Lib.hid rfl⟩
        rw [HV.out] at c0 c1
        have hwv : c.wf := HW.out c (by rw [← HV.out]; exact List.getElem_mem hkl)
        have hws : c.s.size ≤ 9223372036854775807 := hwv.2
        by_cases hc : 200 < c.s.size
        · have HX := Lib.hid (show E = true by
            rw [← HE.out]
            unfold bigC
            rw [show l.any (fun c => decide (200 < c.s.size)) = true by rw [List.any_eq_true]; exact ⟨l[k], List.getElem_mem hkl, by rw [HV.out]; exact decide_eq_true hc⟩, Bool.or_true])
          go_wp2
          go_ret
          rw [HX.out]
          exact ⟨rfl, rfl⟩
        · have HA3 := Lib.hid (show (l.take (k + 1)).any (fun c => decide (200 < c.s.size)) = false by
            rw [List.take_succ_eq_append_getElem hkl, List.any_append, HA2.out, HV.out]
            simp; omega)
          go_wp2
          go_round
          case rel => exact ⟨k + 1, by omega, by go_num, HA3⟩
          case measure => simp [intOf]; omega
      · have HX := Lib.hid (show E = false by
          have h2 := HA2.out
          rw [List.take_of_length_le (by rw [← HL.out]; omega)] at h2
          rw [← HE.out]
          unfold bigC
          rw [h2, decide_eq_false (by rw [← HL.out]; omega)]
          rfl)
        go_wp2
        go_ret
        rw [HX.out]
        exact ⟨rfl, rfl⟩
theorem bigC_not {l : List C} (h : bigC l = false) : l.length ≤ 40 := by
  unfold bigC at h
  rw [Bool.or_eq_false_iff, decide_eq_false_iff_not] at h
  omega
end Go.Proofs.YtclcabdekeegdaaGreat
