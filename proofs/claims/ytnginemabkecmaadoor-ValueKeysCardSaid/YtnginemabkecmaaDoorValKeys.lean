/- The walk of the law that keys are the document's. -/
import Derived.Test.YtnginemabkecmaaDoorValBack
import Derived.Test.YtnginemabkecmaaDoorValRefKey
import Derived.Test.YtnginemabkecmaaDoorValRefUnkey
namespace Go.Proofs.YtnginemabkecmaaDoor
open Go.ChangeShapes Go.WideShapes Go.ChangeAt Go.RowKit
set_option linter.unusedVariables false

theorem runkey_no (s : ByteArray) (hs : s.size ≤ 4000) (w : World) (h : unkeyG 12 s.data.toList = none) :
    Calls Tryd.prog 26 #[.string s] w fun e w' => e = .returned (.tuple #[.slice none 0 0, .bool false]) ∧ Below w.heap.size w w' := by
  have := runkey_any s hs w
  rw [h] at this
  exact this
theorem runkey_yes (s : ByteArray) (hs : s.size ≤ 4000) (w : World) (l : List V) (h : unkeyG 12 s.data.toList = some l) :
    Calls Tryd.prog 26 #[.string s] w fun e w' => ∃ A c, e = .returned (.tuple #[.slice A l.length c, .bool true]) ∧ w'.ownsRow w.heap.size 23 3 (.slice A l.length c) l.length (cellsOf l) ∧ Below w.heap.size w w' := by
  have := runkey_any s hs w
  rw [h] at this
  exact this
theorem sameB_self (l : List V) : sameB l l = true := by
  unfold sameB
  rw [cmpR_zero.2 rfl]
  simp
theorem row3_nil (w : World) (D : Nat) : Row3 w D none [] := by
  intro j hj
  exact absurd hj (by simp)

set_option maxHeartbeats 2000000 in
theorem keys_walk (l : List V) (hwl : ∀ u ∈ l, u.wf) (n1 c1 : Nat) (A : Option Addr) (s : ByteArray) (w : World) (hl : n1 = l.length) (h1 : n1 ≤ maxLen) (hA : Row3 w w.heap.size A l) (hM : MaxAt w) :
    Calls Tryd.prog 6 #[.slice A n1 c1, .string s] w fun e w' => e = .returned (.bool true) ∧ Below w.heap.size w w' := by
  subst hl
  have HWL := Lib.hid hwl
  have H1 := Lib.hid h1
  have HRA := Lib.hid hA
  have HM := Lib.hid hM
  clear hwl h1 hA hM
  by_cases hbig : bigB l = true
  · have HBG := Lib.hid hbig
    clear hbig
    go_enter Tryd.func6, Tryd.ntmps6
    go_wp2_with (first | (go_at_call 10; refine (alive_any _ HM.out).mono ?_; rintro e w1 ⟨rfl, hb1⟩; have HB1 := Lib.hid hb1; clear hb1) | (go_at_call 22; refine (big_any l HWL.out _ c1 A _ rfl H1.out ((HRA.out.below HB1.out).more HB1.out.size)).mono ?_; rw [HBG.out]; rintro e w' ⟨rfl, rfl⟩))
    go_ret
    exact ⟨rfl, HB1.out⟩
  · have HBG := Lib.hid (show bigB l = false by simpa using hbig)
    clear hbig
    by_cases h4 : 4000 < s.size
    · have hd4 : decide ((4000 : Int) < (s.size : Int)) = true := decide_eq_true (by omega)
      go_enter Tryd.func6, Tryd.ntmps6
      go_wp2_with (first | (go_at_call 10; refine (alive_any _ HM.out).mono ?_; rintro e w1 ⟨rfl, hb1⟩; have HB1 := Lib.hid hb1; clear hb1) | (go_at_call 22; refine (big_any l HWL.out _ c1 A _ rfl H1.out ((HRA.out.below HB1.out).more HB1.out.size)).mono ?_; rw [HBG.out]; rintro e w' ⟨rfl, rfl⟩))
      go_ret
      exact ⟨rfl, HB1.out⟩
    · have hss : s.size ≤ 1099511627776 := by omega
      have hs4 : s.size ≤ 4000 := by omega
      have hd4 : decide ((4000 : Int) < (s.size : Int)) = false := decide_eq_false (by omega)
      clear h4
      by_cases hb1 : rowB l = true
      · have HP1 := Lib.hid hb1
        have H12 := Lib.hid (rowB_parts hb1).1
        have HALL := Lib.hid (rowB_parts hb1).2
        obtain ⟨x, hx⟩ : ∃ x, txt (keyL l) = x := ⟨_, rfl⟩
        have HHX := Lib.hid hx
        clear hb1 hx
        rcases hU : unkeyG 12 s.data.toList with _ | L
        · have HU2 := Lib.hid hU
          clear hU
          go_enter Tryd.func6, Tryd.ntmps6
          go_wp2_with (first | (go_at_call 10; refine (alive_any _ HM.out).mono ?_; rintro e w1 ⟨rfl, hb1⟩; have HB1 := Lib.hid hb1; clear hb1) | (go_at_call 22; refine (big_any l HWL.out _ c1 A _ rfl H1.out ((HRA.out.below HB1.out).more HB1.out.size)).mono ?_; rw [HBG.out]; rintro e w' ⟨rfl, rfl⟩) | (go_at_call 23; refine (key_right l HWL.out _ c1 A _ rfl H1.out ((HRA.out.below HB1.out).more HB1.out.size) (HM.out.later HB1.out) HP1.out).mono ?_; rw [HHX.out]; rintro e w2 ⟨rfl, hb2⟩; have HB2 := Lib.hid (HB1.out.trans (hb2.mono HB1.out.size)); clear hb2) | (go_at_call 14; refine (rrow_any l HWL.out _ c1 A _ rfl H1.out ((HRA.out.below HB2.out).more HB2.out.size)).mono ?_; rw [HP1.out]; rintro e w3 ⟨rfl, hb3⟩; have HB3 := Lib.hid (HB2.out.trans (hb3.mono HB2.out.size)); clear hb3) | (go_at_call 24; refine (rkey_walk l HWL.out HALL.out _ c1 A _ rfl H12.out ((HRA.out.below HB3.out).more HB3.out.size)).mono ?_; rw [HHX.out]; rintro e w4 ⟨rfl, hb4⟩; have HB4 := Lib.hid (HB3.out.trans (hb4.mono HB3.out.size)); clear hb4) | (go_at_call 25; refine (unkey_no s hss _ HU2.out).mono ?_; rintro e w5 ⟨rfl, hb5⟩; have HB5 := Lib.hid (HB4.out.trans (hb5.mono HB4.out.size)); clear hb5) | (go_at_call 26; refine (runkey_no s hs4 _ HU2.out).mono ?_; rintro e w6 ⟨rfl, hb6⟩; have HB6 := Lib.hid (HB5.out.trans (hb6.mono HB5.out.size)); clear hb6) | (go_at_call 27; refine (same_any [] [] (by simp) (by simp) 0 0 0 0 none none _ rfl rfl (by decide) (by decide) (row3_nil _ _) (row3_nil _ _)).mono ?_; rw [sameB_self]; rintro e w7 ⟨rfl, hb7⟩; have HB7 := Lib.hid (HB6.out.trans (hb7.mono HB6.out.size)); clear hb7))
          go_ret
          exact ⟨rfl, HB7.out⟩
        · have HU2 := Lib.hid hU
          obtain ⟨q1, q2, q3, q4⟩ := key_unkey 12 _ _ hU
          have HWL2 := Lib.hid q3
          have H2 := Lib.hid (show L.length ≤ maxLen by unfold maxLen; omega)
          clear hU q1 q2 q3 q4
          go_enter Tryd.func6, Tryd.ntmps6
          go_wp2_with (first | (go_at_call 10; refine (alive_any _ HM.out).mono ?_; rintro e w1 ⟨rfl, hb1⟩; have HB1 := Lib.hid hb1; clear hb1) | (go_at_call 22; refine (big_any l HWL.out _ c1 A _ rfl H1.out ((HRA.out.below HB1.out).more HB1.out.size)).mono ?_; rw [HBG.out]; rintro e w' ⟨rfl, rfl⟩) | (go_at_call 23; refine (key_right l HWL.out _ c1 A _ rfl H1.out ((HRA.out.below HB1.out).more HB1.out.size) (HM.out.later HB1.out) HP1.out).mono ?_; rw [HHX.out]; rintro e w2 ⟨rfl, hb2⟩; have HB2 := Lib.hid (HB1.out.trans (hb2.mono HB1.out.size)); clear hb2) | (go_at_call 14; refine (rrow_any l HWL.out _ c1 A _ rfl H1.out ((HRA.out.below HB2.out).more HB2.out.size)).mono ?_; rw [HP1.out]; rintro e w3 ⟨rfl, hb3⟩; have HB3 := Lib.hid (HB2.out.trans (hb3.mono HB2.out.size)); clear hb3) | (go_at_call 24; refine (rkey_walk l HWL.out HALL.out _ c1 A _ rfl H12.out ((HRA.out.below HB3.out).more HB3.out.size)).mono ?_; rw [HHX.out]; rintro e w4 ⟨rfl, hb4⟩; have HB4 := Lib.hid (HB3.out.trans (hb4.mono HB3.out.size)); clear hb4) | (go_at_call 25; refine (unkey_yes s hss _ L HU2.out).mono ?_; rintro e w5 ⟨A5, c5, rfl, ho5, hb5⟩; have HR5 := Lib.hid (row3_of_own ho5).2; have HB5 := Lib.hid (HB4.out.trans (hb5.mono HB4.out.size)); clear hb5 ho5) | (go_at_call 26; refine (runkey_yes s hs4 _ L HU2.out).mono ?_; rintro e w6 ⟨A6, c6, rfl, ho6, hb6⟩; have HR6 := Lib.hid (row3_of_own ho6).2; have HR7 := Lib.hid ((HR5.out.below hb6).more hb6.size); have HB6 := Lib.hid (HB5.out.trans (hb6.mono HB5.out.size)); clear hb6 ho6) | (go_at_call 27; refine (same_any L L HWL2.out HWL2.out _ c5 _ c6 A5 A6 _ rfl rfl H2.out H2.out HR7.out HR6.out).mono ?_; rw [sameB_self]; rintro e w7 ⟨rfl, hb7⟩; have HB7 := Lib.hid (HB6.out.trans (hb7.mono HB6.out.size)); clear hb7))
          go_ret
          exact ⟨rfl, HB7.out⟩
      · have HP1 := Lib.hid (show rowB l = false by simpa using hb1)
        clear hb1
        rcases hU : unkeyG 12 s.data.toList with _ | L
        · have HU2 := Lib.hid hU
          clear hU
          go_enter Tryd.func6, Tryd.ntmps6
          go_wp2_with (first | (go_at_call 10; refine (alive_any _ HM.out).mono ?_; rintro e w1 ⟨rfl, hb1⟩; have HB1 := Lib.hid hb1; clear hb1) | (go_at_call 22; refine (big_any l HWL.out _ c1 A _ rfl H1.out ((HRA.out.below HB1.out).more HB1.out.size)).mono ?_; rw [HBG.out]; rintro e w' ⟨rfl, rfl⟩) | (go_at_call 23; refine (key_wrong l HWL.out _ c1 A _ rfl H1.out ((HRA.out.below HB1.out).more HB1.out.size) HP1.out).mono ?_; rintro e w2 ⟨rfl, hb2⟩; have HB2 := Lib.hid (HB1.out.trans (hb2.mono HB1.out.size)); clear hb2) | (go_at_call 14; refine (rrow_any l HWL.out _ c1 A _ rfl H1.out ((HRA.out.below HB2.out).more HB2.out.size)).mono ?_; rw [HP1.out]; rintro e w3 ⟨rfl, hb3⟩; have HB3 := Lib.hid (HB2.out.trans (hb3.mono HB2.out.size)); clear hb3) | (go_at_call 25; refine (unkey_no s hss _ HU2.out).mono ?_; rintro e w5 ⟨rfl, hb5⟩; have HB5 := Lib.hid (HB3.out.trans (hb5.mono HB3.out.size)); clear hb5) | (go_at_call 26; refine (runkey_no s hs4 _ HU2.out).mono ?_; rintro e w6 ⟨rfl, hb6⟩; have HB6 := Lib.hid (HB5.out.trans (hb6.mono HB5.out.size)); clear hb6) | (go_at_call 27; refine (same_any [] [] (by simp) (by simp) 0 0 0 0 none none _ rfl rfl (by decide) (by decide) (row3_nil _ _) (row3_nil _ _)).mono ?_; rw [sameB_self]; rintro e w7 ⟨rfl, hb7⟩; have HB7 := Lib.hid (HB6.out.trans (hb7.mono HB6.out.size)); clear hb7))
          go_ret
          exact ⟨rfl, HB7.out⟩
        · have HU2 := Lib.hid hU
          obtain ⟨q1, q2, q3, q4⟩ := key_unkey 12 _ _ hU
          have HWL2 := Lib.hid q3
          have H2 := Lib.hid (show L.length ≤ maxLen by unfold maxLen; omega)
          clear hU q1 q2 q3 q4
          go_enter Tryd.func6, Tryd.ntmps6
          go_wp2_with (first | (go_at_call 10; refine (alive_any _ HM.out).mono ?_; rintro e w1 ⟨rfl, hb1⟩; have HB1 := Lib.hid hb1; clear hb1) | (go_at_call 22; refine (big_any l HWL.out _ c1 A _ rfl H1.out ((HRA.out.below HB1.out).more HB1.out.size)).mono ?_; rw [HBG.out]; rintro e w' ⟨rfl, rfl⟩) | (go_at_call 23; refine (key_wrong l HWL.out _ c1 A _ rfl H1.out ((HRA.out.below HB1.out).more HB1.out.size) HP1.out).mono ?_; rintro e w2 ⟨rfl, hb2⟩; have HB2 := Lib.hid (HB1.out.trans (hb2.mono HB1.out.size)); clear hb2) | (go_at_call 14; refine (rrow_any l HWL.out _ c1 A _ rfl H1.out ((HRA.out.below HB2.out).more HB2.out.size)).mono ?_; rw [HP1.out]; rintro e w3 ⟨rfl, hb3⟩; have HB3 := Lib.hid (HB2.out.trans (hb3.mono HB2.out.size)); clear hb3) | (go_at_call 25; refine (unkey_yes s hss _ L HU2.out).mono ?_; rintro e w5 ⟨A5, c5, rfl, ho5, hb5⟩; have HR5 := Lib.hid (row3_of_own ho5).2; have HB5 := Lib.hid (HB3.out.trans (hb5.mono HB3.out.size)); clear hb5 ho5) | (go_at_call 26; refine (runkey_yes s hs4 _ L HU2.out).mono ?_; rintro e w6 ⟨A6, c6, rfl, ho6, hb6⟩; have HR6 := Lib.hid (row3_of_own ho6).2; have HR7 := Lib.hid ((HR5.out.below hb6).more hb6.size); have HB6 := Lib.hid (HB5.out.trans (hb6.mono HB5.out.size)); clear hb6 ho6) | (go_at_call 27; refine (same_any L L HWL2.out HWL2.out _ c5 _ c6 A5 A6 _ rfl rfl H2.out H2.out HR7.out HR6.out).mono ?_; rw [sameB_self]; rintro e w7 ⟨rfl, hb7⟩; have HB7 := Lib.hid (HB6.out.trans (hb7.mono HB6.out.size)); clear hb7))
          go_ret
          exact ⟨rfl, HB7.out⟩
end Go.Proofs.YtnginemabkecmaaDoor
