/- The walk of Key. -/
import Derived.Test.YtnginemabkecmaaDoorValIter
import Derived.Test.YtnginemabkecmaaDoorValRows
namespace Go.Proofs.YtnginemabkecmaaDoor
attribute [local go_sem] Oper.semAt_some
open Go.ChangeShapes Go.WideShapes Go.ChangeAt Go.RowKit Go.Shelf
open Go.Lib (byteCells byteCells_length byteCells_append strCells)
set_option linter.unusedVariables false

theorem key_wrong (l : List V) (hw : ∀ v ∈ l, v.wf) (len c : Nat) (A : Option Addr) (w : World) (hl : len = l.length) (hm : len ≤ maxLen) (hr : Row3 w w.heap.size A l) (hb : rowB l = false) :
    Calls Tryd.prog 23 #[.slice A len c] w fun e w' => e = .returned (.tuple #[.string ⟨#[]⟩, .int .i64 31]) ∧ Below w.heap.size w w' := by
  have H := Lib.hid (row_any l hw len c A w hl hm hr)
  have HB := Lib.hid hb
  clear hl hr hw hm hb
  refine (callsIn_wide (n := 6)).1 ?_
  refine callsIn_of_wp_marks Tryd.func23 rfl trivial ?_ rfl
  simp only [Tryd.ntmps23, List.size_toArray, List.length_cons, List.length_nil, Nat.reduceAdd, Nat.reduceSub, Array.replicate_succ, Array.replicate_zero, List.push_toArray, List.append_toArray, List.nil_append, List.cons_append]
  gi_wp2_with (refine ⟨trivial, ?_⟩; gi_at_call 13; refine (callsIn_wide.2 H.out).mono ?_; rintro e w1 ⟨rfl, hb1⟩; have HB1 := Lib.hid hb1; clear hb1; rw [HB.out])
  exact ⟨_, results_tmp2 rfl _ _ _, rfl, HB1.out⟩

/-- A place and a right value. -/
abbrev Fit := { p : Nat × V // chk p.2 = 0 ∧ p.2.wf }
def vals (pre : List Fit) : List V := pre.map fun x => x.1.2
theorem vals_snoc (pre : List Fit) (x : Fit) : vals (pre ++ [x]) = vals pre ++ [x.1.2] := by simp [vals]
theorem vals_right (pre : List Fit) : allB (vals pre) = true := by
  unfold allB vals
  rw [List.all_eq_true]
  intro v hv
  simp only [List.mem_map] at hv
  obtain ⟨x, _, rfl⟩ := hv
  simpa using x.2.1
def fitAt (l : List V) (ha : allB l = true) (hw : ∀ v ∈ l, v.wf) (k : Nat) : Fit :=
  if h : k < l.length then ⟨(k, l[k]), by unfold allB at ha; rw [List.all_eq_true] at ha; simpa using ha l[k] (List.getElem_mem h), hw _ (List.getElem_mem h)⟩
  else ⟨(0, noV), by decide, by simp [V.wf, noV, in64, mt_size]⟩
theorem fitAt_val (l : List V) (ha : allB l = true) (hw : ∀ v ∈ l, v.wf) (k : Nat) (h : k < l.length) : (fitAt l ha hw k).1 = (k, l[k]) := by unfold fitAt; rw [dif_pos h]
theorem vals_upto (l : List V) (ha : allB l = true) (hw : ∀ v ∈ l, v.wf) : ∀ k, k ≤ l.length → vals (upto (fitAt l ha hw) k) = l.take k
  | 0, _ => by simp [upto, vals]
  | k + 1, h => by
    rw [upto_succ, vals_snoc, vals_upto l ha hw k (by omega), fitAt_val l ha hw k (by omega), List.take_succ_eq_append_getElem (by omega)]

/-- Between two rounds: the variable holds what has been written; nothing else has turned. -/
def Written (g D : Nat) (w : World) (pre : List Fit) (W : World) : Prop :=
  (∃ v, Boxed W g 57 v ∧ W.ownsRow D 5 1 v (keyL (vals pre)).length (byteCells (keyL (vals pre))) ∧ True) ∧ Spare g D w W
theorem written_own (g D : Nat) (w : World) (hg : g < D) (hD : D ≤ w.heap.size) : OwnFrom w.heap.size (Written g D w) := by
  refine OwnFrom.and (Own.from (holdsRow_own D g _ _ 1 _ _ (fun _ _ => True)) _) ?_
  intro s X Y row hs hgr hr
  refine hs.trans ⟨hgr.os, hgr.tape, hgr.output, hgr.size, fun k hk _ => ?_⟩
  exact hgr.block k (by have := hs.size; omega) (fun e => by have := (hr k e.symm).1; omega)
theorem Written.buf {g D : Nat} {w W : World} {pre : List Fit} (h : Written g D w pre W) (hD : D ≤ w.heap.size) : ∃ A n c, Boxed W g 57 (.slice A n c) ∧ Buf D A n c (keyL (vals pre)) W := by
  obtain ⟨⟨v, hv, ho, _⟩, hs⟩ := h
  obtain ⟨A, c, rfl⟩ := own_slice ho
  exact ⟨A, _, c, hv, rfl, Nat.le_trans hD hs.size, ho⟩

set_option maxRecDepth 100000 in
set_option maxHeartbeats 2000000 in
theorem key_right (l : List V) (hw : ∀ v ∈ l, v.wf) (len c : Nat) (A : Option Addr) (w : World) (hl : len = l.length) (hm : len ≤ maxLen) (hr : Row3 w w.heap.size A l) (hM : MaxAt w) (hb : rowB l = true) :
    Calls Tryd.prog 23 #[.slice A len c] w fun e w' => e = .returned (.tuple #[.string (txt (keyL l)), .int .i64 0]) ∧ Below w.heap.size w w' := by
  have H := Lib.hid (row_any l hw len c A w hl hm hr)
  have HR := Lib.hid hr
  have HL := Lib.hid hl
  have HB := Lib.hid hb
  have HW := Lib.hid hw
  have HM := Lib.hid hM
  have h12 : len ≤ 65536 := by
    unfold rowB at hb
    simp only [Bool.and_eq_true, decide_eq_true_eq] at hb
    omega
  have HA := Lib.hid (show allB l = true by
    unfold rowB at hb
    simp only [Bool.and_eq_true, decide_eq_true_eq] at hb
    exact hb.2)
  have H12 := Lib.hid (show l.length ≤ 12 by
    unfold rowB at hb
    simp only [Bool.and_eq_true, decide_eq_true_eq] at hb
    exact hb.1)
  clear hl hr hw hm hb hM
  refine (callsIn_wide (n := 6)).1 ?_
  refine callsIn_of_wp_marks Tryd.func23 rfl trivial ?_ rfl
  simp only [Tryd.ntmps23, List.size_toArray, List.length_cons, List.length_nil, Nat.reduceAdd, Nat.reduceSub, Array.replicate_succ, Array.replicate_zero, List.push_toArray, List.append_toArray, List.nil_append, List.cons_append]
  gi_wp2_with (first | (refine ⟨trivial, ?_⟩; gi_at_call 13; refine (callsIn_wide.2 H.out).mono ?_; rintro e w1 ⟨rfl, hb1⟩; have HB1 := Lib.hid hb1; clear hb1; rw [HB.out]) | (refine ⟨trivial, ?_⟩; gi_at_call 29; refine (callsIn_wide.2 (all_any l len c A _ HL.out h12 ((HR.out.below (HB1.out.alloc HB1.out.size _)).more (by have := HB1.out.size; simp; omega)))).mono ?_; rintro e w2 ⟨A2, c2, rfl, h1, h2, h3, h4, h5⟩; have H1 := Lib.hid h1; have H2 := Lib.hid h2; have H3 := Lib.hid h3; have H4 := Lib.hid h4; have H5 := Lib.hid h5; clear h1 h2 h3 h4 h5))
  have hs1 := HB1.out.size
  have hs2 := H1.out
  simp at hs2
  have hg4 : w1.heap.size < w2.heap.size := by omega
  have bT : Boxed w2 w1.heap.size 57 (.slice none 0 0) := (H5.out.block w1.heap.size (by simp)).trans (Boxed.new w1 57 (.slice none 0 0))
  have hA2 : ∀ a, A2 = some a → a.block ≠ w1.heap.size := fun a ha => by have := H4.out a ha; simp at this; omega
  have hB02 : Below w.heap.size w w2 := (HB1.out.alloc hs1 _).trans (H5.out.mono (by simp; omega))
  have hg0 : 0 < w.heap.size := by
    obtain ⟨m, hm⟩ := HM.out
    exact Nat.lt_of_le_of_lt (Nat.zero_le _) (World.block_lt_of_cell? w _ hm)
  have hM2 : MaxAt w2 := HM.out.later hB02
  refine wpIn_rangeFunc_ownH rfl (by omega) (gf := 38) (lb := #[.pointer (some ⟨w2.heap.size - 1, 0, none⟩)]) rfl trivial (enters_of Tryd.func38 (by kernel_rfl) rfl)
    (all_stops (fun x : Fit => x.1) (fitAt l HA.out HW.out) _ (by omega) (w2.heap.size - 1) w1.heap.size w2.heap.size c2 A2 l (by have := H12.out; omega) (fitAt_val l HA.out HW.out) w2 (by omega) (Nat.le_refl _) H2.out (H3.out.more (by omega)) hA2)
    Spare.trans (fun W i o o' h1 h2 h3 h4 => Spare.putObj (w := w2) W i o o' (Nat.le_refl _) h1 h2 h3 h4) (Below.refl _ _) (fun _ => rfl)
    (Written w1.heap.size w2.heap.size w2) (fun _ _ _ => False) (written_own _ _ _ hg4 (Nat.le_refl _)) (fun _ _ _ _ _ hs _ _ => hs)
    ⟨⟨_, bT, World.ownsRow_nil _ _ _ _, trivial⟩, Spare.refl _ _ _⟩
    (fun x a' W => ∃ Bx, w2.heap.size ≤ Bx ∧ Box W Bx x.1.2 ∧ a' = { tmps := #[.slice A len c, undef, .string ⟨#[]⟩, .int .i64 0, .pointer (some ⟨w1.heap.size, 0, none⟩), undef, .pointer (some ⟨Bx, 0, none⟩), .slice A len c, .bool true, .bool false, .slice A len c, .func (.func 38) #[] #[.pointer (some ⟨w2.heap.size - 1, 0, none⟩)], .int .i64 (x.1.1 : Int), .agg #[.int .i64 x.1.2.k, .int .i64 x.1.2.n, .string x.1.2.s], undef, undef, undef, undef, undef], defers := [] })
    ?hax ?assign ?body ?done ?stop
  case hax =>
    rintro x a' s X Y row ⟨Bx, h1, h2, h3⟩ hg hr
    refine ⟨Bx, h1, (hg.block Bx h2.lt (fun e => ?_)).trans h2, h3⟩
    obtain ⟨_, o, ho, hc⟩ := hr Bx e.symm
    rw [show X.heap[Bx]? = _ from h2] at ho
    cases ho
    cases hc
  case assign =>
    intro l0 pre x W K hi hK
    have hsz := hi.2.size
    gi_wp2
    obtain ⟨⟨v, hv, ho, _⟩, hs⟩ := hi
    exact hK _ _ ((KeepsOthers.alloc _ _).from _) ((Spare.refl _ _ _).alloc hsz _) ⟨⟨v, hv.alloc _, ho.alloc _, trivial⟩, hs.alloc hsz _⟩ ⟨W.heap.size, hsz, Box.new W x.1.2, rfl⟩
  case body =>
    rintro l0 pre x a' W hl0 _ hI ⟨Bx, hBx, hX, rfl⟩ hlt
    have hs := hI.2
    obtain ⟨Av, nv, cv, bV, hbuf⟩ := hI.buf (Nat.le_refl _)
    have hkl := keyL_length (vals_right pre)
    have hvl : (vals pre).length = pre.length := by simp [vals]
    have h12l := H12.out
    have hMW : MaxAt W := by
      obtain ⟨m, hm⟩ := hM2
      exact ⟨m, (World.cell?_of_block (a := ⟨_, 0, none⟩) (hs.block _ (by show 0 < _; omega) (by show 0 ≠ _; omega))).trans hm⟩
    have HWI := Lib.hid (with_any w2.heap.size Av nv cv (keyL (vals pre)) x.1.2 x.2.1 x.2.2 W hbuf (by omega) (by show 0 < _; omega) hMW)
    have HS := Lib.hid hs
    have HV := Lib.hid bV
    have v0 := bV.cell
    have v1 := bV.frozen
    have x0 := hX.k
    have x1 := hX.n
    have x2 := hX.s
    clear hI hbuf hkl hvl hM2 hMW hs bV hX bT hA2
    gi_wp2_with (refine ⟨trivial, ?_⟩; gi_at_call 35; refine (CallsIn.inRound l0 (callsIn_wide.2 HWI.out)).mono ?_; rintro e w3 ⟨A3, n3, c3, rfl, hb3, hk3⟩; have HB3 := Lib.hid hb3; have HK3 := Lib.hid hk3; have bV3 : Boxed w3 w1.heap.size 57 (.slice Av nv cv) := hk3.block _ _ HV.out (fun cur f e => by injection e with _ e2; exact absurd e2 (by decide)); have HV3 := Lib.hid bV3; have u0 := bV3.cell; have u1 := bV3.frozen; clear hb3 hk3 bV3)
    have hk3 := HK3.out
    have hb3 := HB3.out
    refine ⟨⟨by have := hk3.size; simpa [World.setCell] using this, fun k o hB ho hc => ?_⟩, (Spare.of_below hk3.below).set _, ⟨_, HV3.out.set _, ?_, trivial⟩, (HS.out.trans (Spare.of_below hk3.below)).set _⟩
    · refine (Below.heap_setCell w3 ⟨w1.heap.size, 0, none⟩ _ k (by simp; omega)).trans (hk3.block k o ho (fun cur f e => ?_))
      subst e
      cases hc
    · rw [vals_snoc, keyL_snoc]
      obtain ⟨hn3, _, ho3⟩ := hb3
      rw [hn3] at ho3 ⊢
      refine ho3.kept (grownBy_setCell' w3 w1.heap.size _) (.inr fun e => ?_)
      have := (ho3.lt _ e).1
      omega
  case done =>
    rintro D ys W hD rfl hI hK
    have hs := hI.2
    obtain ⟨Av, nv, cv, bV, hbuf⟩ := hI.buf (Nat.le_refl _)
    rw [vals_upto l HA.out HW.out _ (Nat.le_refl _), List.take_length] at hbuf
    have hcv := string_of_buf hbuf
    have v0 := bV.cell
    have HS := Lib.hid hs
    have HK := Lib.hid hK
    clear hI hbuf hs bV hK bT hA2 hM2
    gi_wp2
    refine ⟨by simp, .inl ⟨_, _, rfl, run_takeDeferred HK.out, ?_⟩⟩
    refine ⟨_, results_tmp2 rfl _ _ _, rfl, ?_⟩
    exact Spare.to_below hB02 (HS.out.trans (Spare.putObj (w := w2) W D _ _ (Nat.le_refl _) hD HK.out rfl rfl)) hs1 (by omega)
  case stop =>
    rintro D c pre W _ _ h _
    exact h.elim
end Go.Proofs.YtnginemabkecmaaDoor
