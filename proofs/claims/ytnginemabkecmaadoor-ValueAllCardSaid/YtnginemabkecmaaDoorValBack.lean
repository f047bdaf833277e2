/- The walk of the law that rows and keys come back from one another. -/
import Derived.Test.YtnginemabkecmaaDoorValLaws
namespace Go.Proofs.YtnginemabkecmaaDoor
open Go.ChangeShapes Go.WideShapes Go.ChangeAt Go.RowKit
set_option linter.unusedVariables false

theorem unkey_no (s : ByteArray) (hs : s.size ≤ 1099511627776) (w : World) (h : unkeyG 12 s.data.toList = none) :
    Calls Tryd.prog 25 #[.string s] w fun e w' => e = .returned (.tuple #[.slice none 0 0, .int .i64 31]) ∧ Below w.heap.size w w' := by
  have := unkey_any s hs w
  rw [h] at this
  exact this
theorem unkey_yes (s : ByteArray) (hs : s.size ≤ 1099511627776) (w : World) (l : List V) (h : unkeyG 12 s.data.toList = some l) :
    Calls Tryd.prog 25 #[.string s] w fun e w' => ∃ A c, e = .returned (.tuple #[.slice A l.length c, .int .i64 0]) ∧ w'.ownsRow w.heap.size 23 3 (.slice A l.length c) l.length (cellsOf l) ∧ Below w.heap.size w w' := by
  have := unkey_any s hs w
  rw [h] at this
  exact this

set_option maxHeartbeats 1000000 in
theorem back_walk (l : List V) (hwl : ∀ u ∈ l, u.wf) (n1 c1 : Nat) (A : Option Addr) (s : ByteArray) (w : World) (hl : n1 = l.length) (h1 : n1 ≤ maxLen) (hA : Row3 w w.heap.size A l) (hM : MaxAt w) (hsz : s.size ≤ maxLen) :
    Calls Tryd.prog 8 #[.slice A n1 c1, .string s] w fun e w' => e = .returned (.bool true) ∧ Below w.heap.size w w' := by
  subst hl
  unfold maxLen at hsz
  have HWL := Lib.hid hwl
  have H1 := Lib.hid h1
  have HRA := Lib.hid hA
  have HM := Lib.hid hM
  clear hwl h1 hA hM
  by_cases hbig : bigB l = true
  · have HBG := Lib.hid hbig
    clear hbig
    go_enter Tryd.func8, Tryd.ntmps8
    go_wp2_with (first | (go_at_call 10; refine (alive_any _ HM.out).mono ?_; rintro e w1 ⟨rfl, hb1⟩; have HB1 := Lib.hid hb1; clear hb1) | (go_at_call 22; refine (big_any l HWL.out _ c1 A _ rfl H1.out ((HRA.out.below HB1.out).more HB1.out.size)).mono ?_; rw [HBG.out]; rintro e w' ⟨rfl, rfl⟩))
    go_ret
    exact ⟨rfl, HB1.out⟩
  · have HBG := Lib.hid (show bigB l = false by simpa using hbig)
    clear hbig
    by_cases h4 : 4000 < s.size
    · go_enter Tryd.func8, Tryd.ntmps8
      go_wp2_with (first | (go_at_call 10; refine (alive_any _ HM.out).mono ?_; rintro e w1 ⟨rfl, hb1⟩; have HB1 := Lib.hid hb1; clear hb1) | (go_at_call 22; refine (big_any l HWL.out _ c1 A _ rfl H1.out ((HRA.out.below HB1.out).more HB1.out.size)).mono ?_; rw [HBG.out]; rintro e w' ⟨rfl, rfl⟩))
      go_ret
      exact ⟨rfl, HB1.out⟩
    · have hss : s.size ≤ 1099511627776 := by omega
      have hd4 : decide ((4000 : Int) < (s.size : Int)) = false := decide_eq_false (by omega)
      by_cases hb1 : rowB l = true
      · have HP1 := Lib.hid hb1
        have h12 := (rowB_parts hb1).1
        have hkl := keyL_length (rowB_parts hb1).2
        have HU0 := unkey_key 12 l h12 (rowB_parts hb1).2 HWL.out
        obtain ⟨x, hx⟩ : ∃ x, txt (keyL l) = x := ⟨_, rfl⟩
        have HU1 := Lib.hid (show unkeyG 12 x.data.toList = some l by rw [← hx, txt_list]; exact HU0)
        have hxs : x.size ≤ 1099511627776 := by rw [← hx, txt_size]; omega
        have HHX := Lib.hid hx
        clear hb1 hkl HU0 hx h12 hsz h4
        rcases hU : unkeyG 12 s.data.toList with _ | L
        · have HU2 := Lib.hid hU
          clear hU
          go_enter Tryd.func8, Tryd.ntmps8
          go_wp2_with (first | (go_at_call 10; refine (alive_any _ HM.out).mono ?_; rintro e w1 ⟨rfl, hb1⟩; have HB1 := Lib.hid hb1; clear hb1) | (go_at_call 22; refine (big_any l HWL.out _ c1 A _ rfl H1.out ((HRA.out.below HB1.out).more HB1.out.size)).mono ?_; rw [HBG.out]; rintro e w' ⟨rfl, rfl⟩) | (go_at_call 23; refine (key_right l HWL.out _ c1 A _ rfl H1.out ((HRA.out.below HB1.out).more HB1.out.size) (HM.out.later HB1.out) HP1.out).mono ?_; clear HP1; rw [HHX.out]; rintro e w2 ⟨rfl, hb2⟩; have HB2 := Lib.hid (HB1.out.trans (hb2.mono HB1.out.size)); clear hb2) | (go_at_call 25; refine (unkey_yes x hxs _ l HU1.out).mono ?_; clear HU1; rintro e w3 ⟨A3, c3, rfl, ho3, hb3⟩; have HR3 := Lib.hid (row3_of_own ho3).2; have HB3 := Lib.hid (HB2.out.trans (hb3.mono HB2.out.size)); clear hb3 ho3) | (go_at_call 20; refine (cmprow_any l l HWL.out HWL.out _ c1 _ c3 A A3 _ rfl rfl H1.out H1.out ((HRA.out.below HB3.out).more HB3.out.size) HR3.out).mono ?_; rw [cmpR_zero.2 rfl]; rintro e w4 ⟨rfl, hb4⟩; have HB4 := Lib.hid (HB3.out.trans (hb4.mono HB3.out.size)); clear hb4) | (go_at_call 25; refine (unkey_no s hss _ HU2.out).mono ?_; clear HU2; rintro e w5 ⟨rfl, hb5⟩; have HB5 := Lib.hid (HB4.out.trans (hb5.mono HB4.out.size)); clear hb5))
          go_ret
          exact ⟨rfl, HB5.out⟩
        · have HU2 := Lib.hid hU
          obtain ⟨q1, q2, q3, q4⟩ := key_unkey 12 _ _ hU
          have HWL2 := Lib.hid q3
          have H2 := Lib.hid (show L.length ≤ maxLen by unfold maxLen; omega)
          have HP2 := Lib.hid (rowB_all q1 q2)
          have HK2 := Lib.hid (show txt (keyL L) = s by rw [q4, txt_data])
          clear hU q1 q2 q3 q4
          go_enter Tryd.func8, Tryd.ntmps8
          go_wp2_with (first | (go_at_call 10; refine (alive_any _ HM.out).mono ?_; rintro e w1 ⟨rfl, hb1⟩; have HB1 := Lib.hid hb1; clear hb1) | (go_at_call 22; refine (big_any l HWL.out _ c1 A _ rfl H1.out ((HRA.out.below HB1.out).more HB1.out.size)).mono ?_; rw [HBG.out]; rintro e w' ⟨rfl, rfl⟩) | (go_at_call 23; refine (key_right l HWL.out _ c1 A _ rfl H1.out ((HRA.out.below HB1.out).more HB1.out.size) (HM.out.later HB1.out) HP1.out).mono ?_; clear HP1; rw [HHX.out]; rintro e w2 ⟨rfl, hb2⟩; have HB2 := Lib.hid (HB1.out.trans (hb2.mono HB1.out.size)); clear hb2) | (go_at_call 25; refine (unkey_yes x hxs _ l HU1.out).mono ?_; clear HU1; rintro e w3 ⟨A3, c3, rfl, ho3, hb3⟩; have HR3 := Lib.hid (row3_of_own ho3).2; have HB3 := Lib.hid (HB2.out.trans (hb3.mono HB2.out.size)); clear hb3 ho3) | (go_at_call 20; refine (cmprow_any l l HWL.out HWL.out _ c1 _ c3 A A3 _ rfl rfl H1.out H1.out ((HRA.out.below HB3.out).more HB3.out.size) HR3.out).mono ?_; rw [cmpR_zero.2 rfl]; rintro e w4 ⟨rfl, hb4⟩; have HB4 := Lib.hid (HB3.out.trans (hb4.mono HB3.out.size)); clear hb4) | (go_at_call 25; refine (unkey_yes s hss _ L HU2.out).mono ?_; clear HU2; rintro e w5 ⟨A5, c5, rfl, ho5, hb5⟩; have HR5 := Lib.hid (row3_of_own ho5).2; have HB5 := Lib.hid (HB4.out.trans (hb5.mono HB4.out.size)); clear hb5 ho5) | (go_at_call 23; refine (key_right L HWL2.out _ c5 A5 _ rfl H2.out HR5.out (HM.out.later HB5.out) HP2.out).mono ?_; rw [HK2.out]; rintro e w6 ⟨rfl, hb6⟩; have HB6 := Lib.hid (HB5.out.trans (hb6.mono HB5.out.size)); clear hb6))
          go_ret
          exact ⟨rfl, HB6.out⟩
      · have HP1 := Lib.hid (show rowB l = false by simpa using hb1)
        clear hb1 hsz h4
        rcases hU : unkeyG 12 s.data.toList with _ | L
        · have HU2 := Lib.hid hU
          clear hU
          go_enter Tryd.func8, Tryd.ntmps8
          go_wp2_with (first | (go_at_call 10; refine (alive_any _ HM.out).mono ?_; rintro e w1 ⟨rfl, hb1⟩; have HB1 := Lib.hid hb1; clear hb1) | (go_at_call 22; refine (big_any l HWL.out _ c1 A _ rfl H1.out ((HRA.out.below HB1.out).more HB1.out.size)).mono ?_; rw [HBG.out]; rintro e w' ⟨rfl, rfl⟩) | (go_at_call 23; refine (key_wrong l HWL.out _ c1 A _ rfl H1.out ((HRA.out.below HB1.out).more HB1.out.size) HP1.out).mono ?_; clear HP1; rintro e w4 ⟨rfl, hb2⟩; have HB4 := Lib.hid (HB1.out.trans (hb2.mono HB1.out.size)); clear hb2) | (go_at_call 25; refine (unkey_no s hss _ HU2.out).mono ?_; clear HU2; rintro e w5 ⟨rfl, hb5⟩; have HB5 := Lib.hid (HB4.out.trans (hb5.mono HB4.out.size)); clear hb5))
          go_ret
          exact ⟨rfl, HB5.out⟩
        · have HU2 := Lib.hid hU
          obtain ⟨q1, q2, q3, q4⟩ := key_unkey 12 _ _ hU
          have HWL2 := Lib.hid q3
          have H2 := Lib.hid (show L.length ≤ maxLen by unfold maxLen; omega)
          have HP2 := Lib.hid (rowB_all q1 q2)
          have HK2 := Lib.hid (show txt (keyL L) = s by rw [q4, txt_data])
          clear hU q1 q2 q3 q4
          go_enter Tryd.func8, Tryd.ntmps8
          go_wp2_with (first | (go_at_call 10; refine (alive_any _ HM.out).mono ?_; rintro e w1 ⟨rfl, hb1⟩; have HB1 := Lib.hid hb1; clear hb1) | (go_at_call 22; refine (big_any l HWL.out _ c1 A _ rfl H1.out ((HRA.out.below HB1.out).more HB1.out.size)).mono ?_; rw [HBG.out]; rintro e w' ⟨rfl, rfl⟩) | (go_at_call 23; refine (key_wrong l HWL.out _ c1 A _ rfl H1.out ((HRA.out.below HB1.out).more HB1.out.size) HP1.out).mono ?_; clear HP1; rintro e w4 ⟨rfl, hb2⟩; have HB4 := Lib.hid (HB1.out.trans (hb2.mono HB1.out.size)); clear hb2) | (go_at_call 25; refine (unkey_yes s hss _ L HU2.out).mono ?_; clear HU2; rintro e w5 ⟨A5, c5, rfl, ho5, hb5⟩; have HR5 := Lib.hid (row3_of_own ho5).2; have HB5 := Lib.hid (HB4.out.trans (hb5.mono HB4.out.size)); clear hb5 ho5) | (go_at_call 23; refine (key_right L HWL2.out _ c5 A5 _ rfl H2.out HR5.out (HM.out.later HB5.out) HP2.out).mono ?_; rw [HK2.out]; rintro e w6 ⟨rfl, hb6⟩; have HB6 := Lib.hid (HB5.out.trans (hb6.mono HB5.out.size)); clear hb6))
          go_ret
          exact ⟨rfl, HB6.out⟩
end Go.Proofs.YtnginemabkecmaaDoor
