/- The walks of Unrows, Uncols, Unpairs, Unnums, and of the examples. -/
import Derived.Test.YtkpajmgbiepmbaaCodWhole
namespace Go.Proofs.Ytkpajmgbiepmbaa
open Go.ChangeShapes Go.WideShapes Go.ChangeAt Go.RowKit
open Go.Lib (byteCells byteCells_length byteCells_append strCells)
set_option linter.unusedVariables false

theorem unnums_walk (l : List UInt8) (A : Option Addr) (n c : Nat) (w : World) (hn : n = l.length) (hc : n ≤ c) (hcm : c ≤ maxLen) (hl : n ≤ 16777216) (hb : BytesAt w w.heap.size A l) :
    Calls Try.prog 27 #[.slice A n c] w (WholePost 2 1 iCells (whole rInt l) w) := by
  have H := whole_int l A n c w hn hc hcm hl hb
  cases hu : whole rInt l with
  | none =>
    rw [hu] at H
    have HH := Lib.hid H
    clear H hb hn hc hcm hl
    go_enter Try.func27, Try.ntmps27
    go_wp2_with (go_at_call 56; refine HH.out.mono ?_; rintro e w1 ⟨rfl, hb1⟩; have HB1 := Lib.hid hb1; clear hb1)
    go_ret2
    exact ⟨rfl, HB1.out⟩
  | some xs =>
    rw [hu] at H
    have HH := Lib.hid H
    clear H hb hn hc hcm hl
    go_enter Try.func27, Try.ntmps27
    go_wp2_with (go_at_call 56; refine HH.out.mono ?_; rintro e w1 ⟨A1, c1, rfl, ho1, hb1⟩; have HO1 := Lib.hid ho1; have HB1 := Lib.hid hb1; clear hb1 ho1)
    go_ret2
    exact ⟨A1, c1, rfl, HO1.out, HB1.out⟩
theorem uncols_walk (l : List UInt8) (A : Option Addr) (n c : Nat) (w : World) (hn : n = l.length) (hc : n ≤ c) (hcm : c ≤ maxLen) (hl : n ≤ 16777216) (hb : BytesAt w w.heap.size A l) :
    Calls Try.prog 25 #[.slice A n c] w (WholePost 39 2 cCells (whole rCol l) w) := by
  have H := whole_col l A n c w hn hc hcm hl hb
  cases hu : whole rCol l with
  | none =>
    rw [hu] at H
    have HH := Lib.hid H
    clear H hb hn hc hcm hl
    go_enter Try.func25, Try.ntmps25
    go_wp2_with (go_at_call 52; refine HH.out.mono ?_; rintro e w1 ⟨rfl, hb1⟩; have HB1 := Lib.hid hb1; clear hb1)
    go_ret2
    exact ⟨rfl, HB1.out⟩
  | some xs =>
    rw [hu] at H
    have HH := Lib.hid H
    clear H hb hn hc hcm hl
    go_enter Try.func25, Try.ntmps25
    go_wp2_with (go_at_call 52; refine HH.out.mono ?_; rintro e w1 ⟨A1, c1, rfl, ho1, hb1⟩; have HO1 := Lib.hid ho1; have HB1 := Lib.hid hb1; clear hb1 ho1)
    go_ret2
    exact ⟨A1, c1, rfl, HO1.out, HB1.out⟩
theorem unpairs_walk (l : List UInt8) (A : Option Addr) (n c : Nat) (w : World) (hn : n = l.length) (hc : n ≤ c) (hcm : c ≤ maxLen) (hl : n ≤ 16777216) (hb : BytesAt w w.heap.size A l) :
    Calls Try.prog 26 #[.slice A n c] w (WholePost 70 2 pCells (whole rPair l) w) := by
  have H := whole_pair l A n c w hn hc hcm hl hb
  cases hu : whole rPair l with
  | none =>
    rw [hu] at H
    have HH := Lib.hid H
    clear H hb hn hc hcm hl
    go_enter Try.func26, Try.ntmps26
    go_wp2_with (go_at_call 54; refine HH.out.mono ?_; rintro e w1 ⟨rfl, hb1⟩; have HB1 := Lib.hid hb1; clear hb1)
    go_ret2
    exact ⟨rfl, HB1.out⟩
  | some xs =>
    rw [hu] at H
    have HH := Lib.hid H
    clear H hb hn hc hcm hl
    go_enter Try.func26, Try.ntmps26
    go_wp2_with (go_at_call 54; refine HH.out.mono ?_; rintro e w1 ⟨A1, c1, rfl, ho1, hb1⟩; have HO1 := Lib.hid ho1; have HB1 := Lib.hid hb1; clear hb1 ho1)
    go_ret2
    exact ⟨A1, c1, rfl, HO1.out, HB1.out⟩
theorem unrows_walk (l : List UInt8) (A : Option Addr) (n c : Nat) (w : World) (hn : n = l.length) (hc : n ≤ c) (hcm : c ≤ maxLen) (hl : n ≤ 16777216) (hb : BytesAt w w.heap.size A l) :
    Calls Try.prog 24 #[.slice A n c] w (WholeRows (whole rRow l) w) := by
  have H := whole_row l A n c w hn hc hcm hl hb
  cases hu : whole rRow l with
  | none =>
    rw [hu] at H
    have HH := Lib.hid H
    clear H hb hn hc hcm hl
    go_enter Try.func24, Try.ntmps24
    go_wp2_with (go_at_call 50; refine HH.out.mono ?_; rintro e w1 ⟨rfl, hb1⟩; have HB1 := Lib.hid hb1; clear hb1)
    go_ret2
    exact ⟨rfl, HB1.out⟩
  | some xs =>
    rw [hu] at H
    have HH := Lib.hid H
    clear H hb hn hc hcm hl
    go_enter Try.func24, Try.ntmps24
    go_wp2_with (go_at_call 50; refine HH.out.mono ?_; rintro e w1 ⟨rs, A1, c1, hrs, rfl, ho1, hos1, hb1⟩; have HRS := Lib.hid hrs; have HO1 := Lib.hid ho1; have HOS1 := Lib.hid hos1; have HB1 := Lib.hid hb1; clear hb1 ho1 hos1 hrs)
    go_ret2
    exact ⟨rs, A1, c1, HRS.out, rfl, HO1.out, HOS1.out, HB1.out⟩

theorem RowC.new {α : Type} {f : α → List Value} {sz : Nat} (hl : ∀ a, (f a).length = sz) (w : World) (l : List α) (E : TypeId) (cs : Array Value) (hc : cs = (l.flatMap f).toArray) : RowC f sz (w.alloc (.cells cs E)) (w.alloc (.cells cs E)).heap.size (some ⟨w.heap.size, 0, none⟩) l := by
  subst hc
  intro j hj
  refine ⟨w.heap.size, 0, rfl, by simp, fun i v hv => ?_⟩
  have := new_cells w (l.flatMap f) E _ _ (flat_at hl l j hj i v hv)
  rw [add_at] at this
  rw [Nat.add_assoc]
  exact this
theorem BytesAt.new (w : World) (l : List UInt8) (cs : Array Value) (hc : cs = (byteCells l).toArray) : BytesAt (w.alloc (.cells cs 5)) (w.alloc (.cells cs 5)).heap.size (some ⟨w.heap.size, 0, none⟩) l := by
  subst hc
  intro j hj
  have := new_cells w (byteCells l) 5 j (.int .u8 (l[j].toNat : Int)) (by simp [byteCells, List.getElem?_eq_getElem hj])
  rw [add_at] at this
  exact ⟨w.heap.size, 0, rfl, by simp, this⟩

theorem ex_nums : listL intL [-1, 1] = [2, 1, 2] := by simp [listL, intL, zig, numL_small]
theorem ex_unnums : whole rInt [2, 1, 2] = some [-1, 1] := by rfl
theorem ex_300 : numL 300 = [172, 2] := by rw [numL_big (by omega), numL_small (by omega)]; rfl

set_option maxRecDepth 4000 in
set_option maxHeartbeats 2000000 in
theorem alive_any (w : World) : Calls Try.prog 9 #[] w fun e w' => e = .returned (.bool true) ∧ Below w.heap.size w w' := by
  have ht1 : (txt [172, 2]).toList = [172, 2] := by rw [Lib.toList_data]; rfl
  have ht2 : (txt [2, 1, 2]).toList = [2, 1, 2] := by rw [Lib.toList_data]; rfl
  go_enter Try.func9, Try.ntmps9
  go_wp2_with (first | (go_at_call 22; refine (nums_walk [-1, 1] (by simp [in64]) (some ⟨w.heap.size, 0, none⟩) 2 2 _ rfl (by omega) (RowC.new iCells_length w [-1, 1] _ _ rfl)).mono ?_; rw [ex_nums]; rintro e w1 ⟨A1, n1, c1, rfl, hb1, hbel1⟩; have hn1 : n1 = 3 := hb1.1; subst hn1; have HB1 := Lib.hid hb1; have HBel1 := Lib.hid (hop ((Below.refl _ w).alloc (Nat.le_refl _) _) hbel1); clear hb1 hbel1) | (go_at_call 27; refine (unnums_walk [2, 1, 2] (some ⟨w1.heap.size, 0, none⟩) 3 3 _ rfl (by omega) (by decide) (by omega) (BytesAt.new w1 [2, 1, 2] _ rfl)).mono ?_; rw [ex_unnums]; rintro e w2 ⟨A2, c2, rfl, ho2, hbel2⟩; have HO2 := Lib.hid (RowC.own iCells_length (by decide) ho2).2; have HB2 := Lib.hid ((HB1.out.alloc _).below hbel2); have HBel2 := Lib.hid (hop (HBel1.out.alloc HBel1.out.size _) hbel2); clear ho2 hbel2) | (go_at_call 12; refine (num_walk 300 (by omega) _).mono ?_; rw [ex_300]; rintro e w3 ⟨A3, n3, c3, rfl, hb3, hbel3⟩; have hn3 : n3 = 2 := hb3.1; subst hn3; have hcv3 := string_of_buf hb3; have hcv1 := string_of_buf (HB2.out.below hbel3); obtain ⟨b, off, rfl, hB, hc⟩ := (HO2.out.below hbel3) 0 (by simp); have x0 := hc 0 _ rfl; simp at x0; have HBel3 := Lib.hid (hop HBel2.out hbel3); clear hb3 hbel3 hc))
  go_ret
  exact ⟨rfl, HBel3.out⟩
end Go.Proofs.Ytkpajmgbiepmbaa
