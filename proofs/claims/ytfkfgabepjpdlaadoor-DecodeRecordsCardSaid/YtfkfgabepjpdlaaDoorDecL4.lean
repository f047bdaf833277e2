/- Layer 12: records (the whole law). -/
import Derived.Test.YtfkfgabepjpdlaaDoorDecS4
import Derived.Test.YtfkfgabepjpdlaaDoorDecL1
namespace Go.Proofs.YtfkfgabepjpdlaaDoor
open Go.ChangeShapes Go.WideShapes Go.ChangeAt Go.RowKit
set_option linter.unusedVariables false

set_option maxHeartbeats 1000000 in
set_option maxRecDepth 20000 in
theorem records_law (l : List C) (hw : ∀ c ∈ l, c.wf) (len cap : Nat) (A : Option Addr) (vs : List V) (hwv : ∀ v ∈ vs, v.wf) (m cv : Nat) (Av : Option Addr) (w : World) (hl : len = l.length) (hm : len ≤ maxLen) (hcap : len ≤ cap) (hcm : cap ≤ maxLen) (hr : Row2 w w.heap.size A l)
    (hmv : m = vs.length) (hmm : m ≤ maxLen) (hv : Row3 w w.heap.size Av vs) (hE : Env2 w.heap.size w) :
    Calls Tryd.prog 6 #[.slice A len cap, .slice Av m cv] w fun e w' => e = .returned (.bool true) ∧ Below w.heap.size w w' := by
  have HAL := Lib.hid (alive_any w hE.env (Nat.le_refl _))
  have HRR := Lib.hid (fun W (h : Below w.heap.size w W) => (hr.below h).more h.size)
  have HRV := Lib.hid (fun W (h : Below w.heap.size w W) => (hv.below h).more h.size)
  have HBIG := Lib.hid (fun W (h : Below w.heap.size w W) => bigc_any l hw len cap A W hl hm (HRR.out W h))
  have HBROW := Lib.hid (fun W (h : Below w.heap.size w W) => big_any vs hwv m cv Av W hmv hmm (HRV.out W h))
  have HREC := Lib.hid (fun W (h : Below w.heap.size w W) => rec_cols l hw len cap A vs hwv m cv Av W hl hm hcap hcm (HRR.out W h) hmv hmm (HRV.out W h) (hE.below h) h.size)
  have HRREC := Lib.hid (fun W (h : Below w.heap.size w W) => rrec_cols l hw len cap A vs hwv m cv Av W hl hm (HRR.out W h) hmv hmm (HRV.out W h))
  obtain ⟨E, hEE⟩ : ∃ E, recE l vs = E := ⟨_, rfl⟩
  obtain ⟨R, hRR⟩ : ∃ R, recV l vs = R := ⟨_, rfl⟩
  obtain ⟨b1, hb1⟩ : ∃ b, bigC l = b := ⟨_, rfl⟩
  obtain ⟨b2, hb2⟩ : ∃ b, bigB vs = b := ⟨_, rfl⟩
  rw [hEE, hRR] at HREC HRREC
  rw [hb1] at HBIG
  rw [hb2] at HBROW
  clear hEE hRR hb1 hb2 hl hm hcap hcm hr hE HRR HRV hw hmv hmm hv hwv
  cases b1
  · cases b2
    · go_enter Tryd.func6, Tryd.ntmps6
      go_wp2_with (first
        | (go_at_call 8; refine HAL.out.mono ?_; rintro e w1 ⟨rfl, hb1⟩; have HB1 := Lib.hid hb1; clear hb1)
        | (go_at_call 9; refine (HBIG.out _ HB1.out).mono ?_; rintro e w2 ⟨rfl, rfl⟩)
        | (go_at_call 22; refine (HBROW.out _ HB1.out).mono ?_; rintro e w2 ⟨rfl, rfl⟩)
        | (go_at_call 23; refine (HREC.out _ HB1.out).mono ?_; rintro e w3 ⟨A3, n3, c3, rfl, ho3, hb3⟩; have HO3 := Lib.hid ho3; have HB3 := Lib.hid hb3; clear ho3 hb3)
        | (go_at_call 24; refine (HRREC.out _ (hop0 HB1.out HB3.out)).mono ?_; rintro e w4 ⟨rfl, hb4⟩; have HB4 := Lib.hid hb4; clear hb4; have hcs := string_of_buf (HO3.out.below HB4.out)))
      go_ret
      exact ⟨rfl, hop0 HB1.out (hop0 HB3.out HB4.out)⟩
    · skip
      go_enter Tryd.func6, Tryd.ntmps6
      go_wp2_with (first
        | (go_at_call 8; refine HAL.out.mono ?_; rintro e w1 ⟨rfl, hb1⟩; have HB1 := Lib.hid hb1; clear hb1)
        | (go_at_call 9; refine (HBIG.out _ HB1.out).mono ?_; rintro e w2 ⟨rfl, rfl⟩)
        | (go_at_call 22; refine (HBROW.out _ HB1.out).mono ?_; rintro e w2 ⟨rfl, rfl⟩))
      go_ret
      exact ⟨rfl, HB1.out⟩
  · skip
    go_enter Tryd.func6, Tryd.ntmps6
    go_wp2_with (first
      | (go_at_call 8; refine HAL.out.mono ?_; rintro e w1 ⟨rfl, hb1⟩; have HB1 := Lib.hid hb1; clear hb1)
      | (go_at_call 9; refine (HBIG.out _ HB1.out).mono ?_; rintro e w2 ⟨rfl, rfl⟩)
      | (go_at_call 22; refine (HBROW.out _ HB1.out).mono ?_; rintro e w2 ⟨rfl, rfl⟩))
    go_ret
    exact ⟨rfl, HB1.out⟩
end Go.Proofs.YtfkfgabepjpdlaaDoor
