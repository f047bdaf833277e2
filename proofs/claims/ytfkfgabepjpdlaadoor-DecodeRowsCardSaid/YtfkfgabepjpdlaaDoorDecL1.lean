/- Layer 12: columns (the whole law). -/
import Derived.Test.YtfkfgabepjpdlaaDoorDecA
namespace Go.Proofs.YtfkfgabepjpdlaaDoor
open Go.ChangeShapes Go.WideShapes Go.ChangeAt Go.RowKit
set_option linter.unusedVariables false

set_option maxHeartbeats 1000000 in
set_option maxRecDepth 20000 in
theorem cols_law (l : List C) (hw : ∀ c ∈ l, c.wf) (len cap : Nat) (A : Option Addr) (s : ByteArray) (hs : s.size ≤ 9223372036854775807) (w : World) (hl : len = l.length) (hm : len ≤ maxLen) (hcap : len ≤ cap) (hcm : cap ≤ maxLen) (hr : Row2 w w.heap.size A l) (hE : Env w.heap.size w) :
    Calls Tryd.prog 3 #[.slice A len cap, .string s] w fun e w' => e = .returned (.bool true) ∧ Below w.heap.size w w' := by
  have HAL := Lib.hid (alive_any w hE (Nat.le_refl _))
  have HRR := Lib.hid (fun W (h : Below w.heap.size w W) => (hr.below h).more h.size)
  have HBIG := Lib.hid (fun W (h : Below w.heap.size w W) => bigc_any l hw len cap A W hl hm (HRR.out W h))
  have HRT := Lib.hid (fun W (h : Below w.heap.size w W) => rright_any l hw len cap A W hl hm (HRR.out W h))
  have HFD := Lib.hid (fun W (h : Below w.heap.size w W) => find_any l s len cap A W hl hm (HRR.out W h))
  have HRF := Lib.hid (fun W (h : Below w.heap.size w W) => rfind_any l s len cap A W hl hm (HRR.out W h))
  have HNM := Lib.hid (fun W => name_any s hs W)
  have HRN := Lib.hid (fun W => rname_any s hs W)
  have HCK0 := Lib.hid (fun W (h : Below w.heap.size w W) => check_cols l hw len cap A W hl hm hcap hcm (HRR.out W h))
  have hfi : (∃ k : Nat, k < l.length ∧ fI s l = (k : Int) ∧ fB s l = true ∧ fM s l = (k : Int)) ∨ (fI s l = 0 ∧ fB s l = false ∧ fM s l = -1) := by
    by_cases h : findI s l < l.length
    · exact .inl ⟨_, h, f_hit rfl h⟩
    · exact .inr (f_miss (by have := findI_le s l; omega))
  have hlen : l.length ≤ 9223372036854775807 := by unfold maxLen at hm; omega
  obtain ⟨nb, hnb⟩ : ∃ nb, nameB s.data.toList = nb := ⟨_, rfl⟩
  rw [hnb] at HNM HRN
  clear hl hm hcap hcm hr hE hnb HRR hw
  by_cases hbg : bigC l = true
  · rw [hbg] at HBIG
    clear hfi
    go_enter Tryd.func3, Tryd.ntmps3
    go_wp2_with (first
      | (go_at_call 8; refine HAL.out.mono ?_; rintro e w1 ⟨rfl, hb1⟩; have HB1 := Lib.hid hb1; clear hb1)
      | (go_at_call 9; refine (HBIG.out _ HB1.out).mono ?_; rintro e w2 ⟨rfl, rfl⟩)
      | (go_at_call 10; refine (HRT.out _ HB1.out).mono ?_; rintro e w3 ⟨rfl, rfl⟩)
      | (go_at_call 11; refine (HFD.out _ HB1.out).mono ?_; rintro e w4 ⟨rfl, hb4⟩; have HB4 := Lib.hid (hop0 HB1.out hb4); clear hb4)
      | (go_at_call 12; refine (HRF.out _ HB4.out).mono ?_; rintro e w5 ⟨rfl, rfl⟩)
      | (go_at_call 13; refine (HNM.out _).mono ?_; rintro e w6 ⟨rfl, rfl⟩)
      | (go_at_call 14; refine (HRN.out _).mono ?_; rintro e w7 ⟨rfl, rfl⟩)
      | (go_at_call 15; refine (HCK.out _ HB4.out).mono ?_; rintro e w8 ⟨rfl, hb8⟩; have HB8 := Lib.hid (hop0 HB4.out hb8); clear hb8))
    go_ret
    exact ⟨rfl, HB1.out⟩
  · have hbg2 : bigC l = false := by simpa using hbg
    rw [hbg2] at HBIG
    clear hbg hbg2
    by_cases h200 : 200 < s.size
    · have q1 : decide ((200 : Int) < (s.size : Int)) = true := decide_eq_true (by omega)
      clear hfi
      go_enter Tryd.func3, Tryd.ntmps3
      go_wp2_with (first
        | (go_at_call 8; refine HAL.out.mono ?_; rintro e w1 ⟨rfl, hb1⟩; have HB1 := Lib.hid hb1; clear hb1)
        | (go_at_call 9; refine (HBIG.out _ HB1.out).mono ?_; rintro e w2 ⟨rfl, rfl⟩)
        | (go_at_call 10; refine (HRT.out _ HB1.out).mono ?_; rintro e w3 ⟨rfl, rfl⟩)
        | (go_at_call 11; refine (HFD.out _ HB1.out).mono ?_; rintro e w4 ⟨rfl, hb4⟩; have HB4 := Lib.hid (hop0 HB1.out hb4); clear hb4)
        | (go_at_call 12; refine (HRF.out _ HB4.out).mono ?_; rintro e w5 ⟨rfl, rfl⟩)
        | (go_at_call 13; refine (HNM.out _).mono ?_; rintro e w6 ⟨rfl, rfl⟩)
        | (go_at_call 14; refine (HRN.out _).mono ?_; rintro e w7 ⟨rfl, rfl⟩)
        | (go_at_call 15; refine (HCK.out _ HB4.out).mono ?_; rintro e w8 ⟨rfl, hb8⟩; have HB8 := Lib.hid (hop0 HB4.out hb8); clear hb8))
      go_ret
      exact ⟨rfl, HB1.out⟩
    · have q1 : decide ((200 : Int) < (s.size : Int)) = false := decide_eq_false (by omega)
      by_cases hrb : rightB l = true
      · have HCK := Lib.hid (fun W (h : Below w.heap.size w W) => check_good (HCK0.out W h) hrb)
        rw [hrb] at HRT
        clear HCK0 hrb
        rcases hfi with ⟨k, hk, e1, e2, e3⟩ | ⟨e1, e2, e3⟩
        · rw [e1, e2] at HFD
          rw [e3] at HRF
          have m1 : max (k : Int) 0 = (k : Int) := by omega
          have m2 : decide ((0 : Int) ≤ (k : Int)) = true := decide_eq_true (by omega)
          clear e1 e2 e3
          go_enter Tryd.func3, Tryd.ntmps3
          go_wp2_with (first
            | (go_at_call 8; refine HAL.out.mono ?_; rintro e w1 ⟨rfl, hb1⟩; have HB1 := Lib.hid hb1; clear hb1)
            | (go_at_call 9; refine (HBIG.out _ HB1.out).mono ?_; rintro e w2 ⟨rfl, rfl⟩)
            | (go_at_call 10; refine (HRT.out _ HB1.out).mono ?_; rintro e w3 ⟨rfl, rfl⟩)
            | (go_at_call 11; refine (HFD.out _ HB1.out).mono ?_; rintro e w4 ⟨rfl, hb4⟩; have HB4 := Lib.hid (hop0 HB1.out hb4); clear hb4)
            | (go_at_call 12; refine (HRF.out _ HB4.out).mono ?_; rintro e w5 ⟨rfl, rfl⟩)
            | (go_at_call 13; refine (HNM.out _).mono ?_; rintro e w6 ⟨rfl, rfl⟩)
            | (go_at_call 14; refine (HRN.out _).mono ?_; rintro e w7 ⟨rfl, rfl⟩)
            | (go_at_call 15; refine (HCK.out _ HB4.out).mono ?_; rintro e w8 ⟨rfl, hb8⟩; have HB8 := Lib.hid (hop0 HB4.out hb8); clear hb8))
          go_ret
          exact ⟨rfl, HB8.out⟩
        · rw [e1, e2] at HFD
          rw [e3] at HRF
          clear e1 e2 e3
          go_enter Tryd.func3, Tryd.ntmps3
          go_wp2_with (first
            | (go_at_call 8; refine HAL.out.mono ?_; rintro e w1 ⟨rfl, hb1⟩; have HB1 := Lib.hid hb1; clear hb1)
            | (go_at_call 9; refine (HBIG.out _ HB1.out).mono ?_; rintro e w2 ⟨rfl, rfl⟩)
            | (go_at_call 10; refine (HRT.out _ HB1.out).mono ?_; rintro e w3 ⟨rfl, rfl⟩)
            | (go_at_call 11; refine (HFD.out _ HB1.out).mono ?_; rintro e w4 ⟨rfl, hb4⟩; have HB4 := Lib.hid (hop0 HB1.out hb4); clear hb4)
            | (go_at_call 12; refine (HRF.out _ HB4.out).mono ?_; rintro e w5 ⟨rfl, rfl⟩)
            | (go_at_call 13; refine (HNM.out _).mono ?_; rintro e w6 ⟨rfl, rfl⟩)
            | (go_at_call 14; refine (HRN.out _).mono ?_; rintro e w7 ⟨rfl, rfl⟩)
            | (go_at_call 15; refine (HCK.out _ HB4.out).mono ?_; rintro e w8 ⟨rfl, hb8⟩; have HB8 := Lib.hid (hop0 HB4.out hb8); clear hb8))
          go_ret
          exact ⟨rfl, HB8.out⟩
      · have hrb2 : rightB l = false := by simpa using hrb
        have HCK := Lib.hid (fun W (h : Below w.heap.size w W) => check_bad (HCK0.out W h) hrb2)
        rw [hrb2] at HRT
        clear HCK0 hrb hrb2
        rcases hfi with ⟨k, hk, e1, e2, e3⟩ | ⟨e1, e2, e3⟩
        · rw [e1, e2] at HFD
          rw [e3] at HRF
          have m1 : max (k : Int) 0 = (k : Int) := by omega
          have m2 : decide ((0 : Int) ≤ (k : Int)) = true := decide_eq_true (by omega)
          clear e1 e2 e3
          go_enter Tryd.func3, Tryd.ntmps3
          go_wp2_with (first
            | (go_at_call 8; refine HAL.out.mono ?_; rintro e w1 ⟨rfl, hb1⟩; have HB1 := Lib.hid hb1; clear hb1)
            | (go_at_call 9; refine (HBIG.out _ HB1.out).mono ?_; rintro e w2 ⟨rfl, rfl⟩)
            | (go_at_call 10; refine (HRT.out _ HB1.out).mono ?_; rintro e w3 ⟨rfl, rfl⟩)
            | (go_at_call 11; refine (HFD.out _ HB1.out).mono ?_; rintro e w4 ⟨rfl, hb4⟩; have HB4 := Lib.hid (hop0 HB1.out hb4); clear hb4)
            | (go_at_call 12; refine (HRF.out _ HB4.out).mono ?_; rintro e w5 ⟨rfl, rfl⟩)
            | (go_at_call 13; refine (HNM.out _).mono ?_; rintro e w6 ⟨rfl, rfl⟩)
            | (go_at_call 14; refine (HRN.out _).mono ?_; rintro e w7 ⟨rfl, rfl⟩)
            | (go_at_call 15; refine (HCK.out _ HB4.out).mono ?_; rintro e w8 ⟨rfl, hb8⟩; have HB8 := Lib.hid (hop0 HB4.out hb8); clear hb8))
          go_ret
          exact ⟨rfl, HB8.out⟩
        · rw [e1, e2] at HFD
          rw [e3] at HRF
          clear e1 e2 e3
          go_enter Tryd.func3, Tryd.ntmps3
          go_wp2_with (first
            | (go_at_call 8; refine HAL.out.mono ?_; rintro e w1 ⟨rfl, hb1⟩; have HB1 := Lib.hid hb1; clear hb1)
            | (go_at_call 9; refine (HBIG.out _ HB1.out).mono ?_; rintro e w2 ⟨rfl, rfl⟩)
            | (go_at_call 10; refine (HRT.out _ HB1.out).mono ?_; rintro e w3 ⟨rfl, rfl⟩)
            | (go_at_call 11; refine (HFD.out _ HB1.out).mono ?_; rintro e w4 ⟨rfl, hb4⟩; have HB4 := Lib.hid (hop0 HB1.out hb4); clear hb4)
            | (go_at_call 12; refine (HRF.out _ HB4.out).mono ?_; rintro e w5 ⟨rfl, rfl⟩)
            | (go_at_call 13; refine (HNM.out _).mono ?_; rintro e w6 ⟨rfl, rfl⟩)
            | (go_at_call 14; refine (HRN.out _).mono ?_; rintro e w7 ⟨rfl, rfl⟩)
            | (go_at_call 15; refine (HCK.out _ HB4.out).mono ?_; rintro e w8 ⟨rfl, hb8⟩; have HB8 := Lib.hid (hop0 HB4.out hb8); clear hb8))
          go_ret
          exact ⟨rfl, HB8.out⟩
end Go.Proofs.YtfkfgabepjpdlaaDoor
