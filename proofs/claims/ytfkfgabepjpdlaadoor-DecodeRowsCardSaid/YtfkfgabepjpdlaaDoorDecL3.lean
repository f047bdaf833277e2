/- Layer 12: records as rows (the whole law). -/
import Derived.Test.YtfkfgabepjpdlaaDoorDecR4
import Derived.Test.YtfkfgabepjpdlaaDoorDecL1
namespace Go.Proofs.YtfkfgabepjpdlaaDoor
open Go.ChangeShapes Go.WideShapes Go.ChangeAt Go.RowKit
set_option linter.unusedVariables false

set_option maxHeartbeats 1000000 in
set_option maxRecDepth 20000 in
theorem rows_law (l : List C) (hw : ∀ c ∈ l, c.wf) (len cap : Nat) (A : Option Addr) (s : ByteArray) (hs : s.size ≤ 9223372036854775807) (w : World) (hl : len = l.length) (hm : len ≤ maxLen) (hcap : len ≤ cap) (hcm : cap ≤ maxLen) (hr : Row2 w w.heap.size A l) (hE : Env w.heap.size w) :
    Calls Tryd.prog 4 #[.slice A len cap, .string s] w fun e w' => e = .returned (.bool true) ∧ Below w.heap.size w w' := by
  have HAL := Lib.hid (alive_any w hE (Nat.le_refl _))
  have HRR := Lib.hid (fun W (h : Below w.heap.size w W) => (hr.below h).more h.size)
  have HBIG := Lib.hid (fun W (h : Below w.heap.size w W) => bigc_any l hw len cap A W hl hm (HRR.out W h))
  by_cases hbg : bigC l = true
  · rw [hbg] at HBIG
    clear hl hm hcap hcm hr hE HRR hw
    go_enter Tryd.func4, Tryd.ntmps4
    go_wp2_with (first
      | (go_at_call 8; refine HAL.out.mono ?_; rintro e w1 ⟨rfl, hb1⟩; have HB1 := Lib.hid hb1; clear hb1)
      | (go_at_call 9; refine (HBIG.out _ HB1.out).mono ?_; rintro e w2 ⟨rfl, rfl⟩))
    go_ret
    exact ⟨rfl, HB1.out⟩
  · have hbg2 : bigC l = false := by simpa using hbg
    rw [hbg2] at HBIG
    clear hbg hbg2
    by_cases h4 : 4000 < s.size
    · have q1 : decide ((4000 : Int) < (s.size : Int)) = true := decide_eq_true (by omega)
      clear hl hm hcap hcm hr hE HRR hw
      go_enter Tryd.func4, Tryd.ntmps4
      go_wp2_with (first
        | (go_at_call 8; refine HAL.out.mono ?_; rintro e w1 ⟨rfl, hb1⟩; have HB1 := Lib.hid hb1; clear hb1)
        | (go_at_call 9; refine (HBIG.out _ HB1.out).mono ?_; rintro e w2 ⟨rfl, rfl⟩))
      go_ret
      exact ⟨rfl, HB1.out⟩
    · have q1 : decide ((4000 : Int) < (s.size : Int)) = false := decide_eq_false (by omega)
      have HLB := Lib.hid (fun W => laid_bytes s W (grownCap W s.size 0 5) 5 ((bytesRow s (grownCap W s.size 0 5)).size, (bytesRow s (grownCap W s.size 0 5)).size + 1))
      have hcv := fun W => run_bytes_of_string (P := Tryd.prog) W 9 35 5 s Tryd.underlying9 Tryd.underlying35 Tryd.underlying5
      have HROW := Lib.hid (fun W (h : Below w.heap.size w W) (cb : Nat) (fr : Nat × Nat) (hb : BytesAt (W.alloc (.cells (bytesRow s cb) 5 fr)).drew (W.alloc (.cells (bytesRow s cb) 5 fr)).drew.heap.size (some ⟨W.heap.size, 0, none⟩) s.data.toList) =>
        row_cols l hw len cap A s.data.toList s.size cb (some ⟨W.heap.size, 0, none⟩) (W.alloc (.cells (bytesRow s cb) 5 fr)).drew hl hm hcap hcm
          (HRR.out _ ((h.alloc h.size _).drew)) (size_eq s) (by omega) hb (hE.below ((h.alloc h.size _).drew)) ((h.alloc h.size _).drew).size)
      have HRRW := Lib.hid (fun W (h : Below w.heap.size w W) => rrow_cols l hw len cap A s W hl hm (HRR.out W h) (by omega))
      obtain ⟨E, hEE⟩ : ∃ E, rowE l s.data.toList = E := ⟨_, rfl⟩
      obtain ⟨R, hRR⟩ : ∃ R, rowV l s.data.toList = R := ⟨_, rfl⟩
      have HWF := Lib.hid (show ∀ v ∈ R, v.wf from fun v hv => by rw [← hRR] at hv; exact (rowV_wf v hv).1)
      have HR12 := Lib.hid (show R.length ≤ 9223372036854775807 by
        rw [← hRR]
        by_cases h : rowE l s.data.toList = 0
        · have h1 := rowE_zero h
          have h2 := (rowsV_some h1.2.2).1
          unfold maxLen at hm
          omega
        · unfold rowV; rw [if_neg h]; simp)
      rw [hEE, hRR] at HROW HRRW
      have HSAME := Lib.hid (sameB_self R)
      clear hl hm hcap hcm hr hE HRR hw hEE hRR h4
      go_enter Tryd.func4, Tryd.ntmps4
      go_wp2_with (first
        | (go_at_call 8; refine HAL.out.mono ?_; rintro e w1 ⟨rfl, hb1⟩; have HB1 := Lib.hid hb1; clear hb1)
        | (go_at_call 9; refine (HBIG.out _ HB1.out).mono ?_; rintro e w2 ⟨rfl, rfl⟩)
        | (go_at_call 16; refine (HROW.out _ HB1.out _ _ (HLB.out _)).mono ?_; rintro e w3 ⟨A3, n3, c3, rfl, hn3, ho3, hb3⟩; have HN3 := Lib.hid hn3; have HO3 := Lib.hid ho3; have HB3 := Lib.hid (show Below w1.heap.size w1 w3 from (((Below.refl _ w1).alloc (Nat.le_refl _) _).drew).trans (hb3.mono (by show _ ≤ (w1.alloc _).heap.size; simp))); clear hn3 ho3 hb3)
        | (go_at_call 17; refine (HRRW.out _ (hop0 HB1.out HB3.out)).mono ?_; rintro e w4 ⟨A4, n4, c4, rfl, hn4, ho4, hb4⟩; have HN4 := Lib.hid hn4; have HO4 := Lib.hid ho4; have HB4 := Lib.hid hb4; clear hn4 ho4 hb4; have HOS := Lib.hid (own_below HO3.out HB4.out))
        | (go_at_call 18; refine (same_any R R HWF.out HWF.out _ _ _ _ _ _ _ HN3.out HN4.out (by have := HN3.out; have := HR12.out; unfold maxLen; omega) (by have := HN4.out; have := HR12.out; unfold maxLen; omega) (row3_of_own HOS.out).2 (row3_of_own HO4.out).2).mono ?_; rw [HSAME.out]; rintro e w5 ⟨rfl, hb5⟩; have HB5 := Lib.hid hb5; clear hb5))
      go_ret
      exact ⟨rfl, hop0 HB1.out (hop0 HB3.out (hop0 HB4.out HB5.out))⟩
end Go.Proofs.YtfkfgabepjpdlaaDoor
