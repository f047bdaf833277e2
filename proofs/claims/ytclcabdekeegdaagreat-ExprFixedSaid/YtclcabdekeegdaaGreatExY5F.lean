/- Layer 13: the law Fixed, walked. -/
import Derived.Test.YtclcabdekeegdaaGreatExY4F
import Derived.BigQuiet
namespace Go.Proofs.YtclcabdekeegdaaGreat
open Go Go.ChangeShapes Go.WideShapes Go.ChangeAt Go.RowKit
set_option linter.unusedVariables false
set_option linter.unusedSimpArgs false
theorem vv_len (v : V) : v.cells.length = 3 := rfl
theorem vv_one (v : V) : ∀ u ∈ v.cells, u.oneCell' = true := by simp [V.cells, Value.oneCell']
theorem right_len {cs : List C} (h : rightB cs = true) : cs.length ≤ 12 := by
 unfold rightB at h
 simp only [Bool.and_eq_true, decide_eq_true_eq] at h
 exact h.1.2
set_option maxHeartbeats 16000000 in
set_option maxRecDepth 40000 in
theorem fixed_walk (e : X) (hwe : e.wf) (cs : List C) (hwc : ∀ c ∈ cs, c.wf) (ra : List V) (hwr : ∀ v ∈ ra, v.wf) (rb : List V) (hwb : ∀ v ∈ rb, v.wf) (A : Option Addr) (c : Nat) (cA : Option Addr) (cc : Nat) (rA : Option Addr) (rc : Nat) (bA : Option Addr) (bc : Nat) (w : World) (hcc : cs.length ≤ cc) (hcm : cc ≤ maxLen) (hrl : ra.length ≤ maxLen) (hbl : rb.length ≤ maxLen)
  (hk : KidsAt w w.heap.size e A c) (hc : Row2 w w.heap.size cA cs) (hr : Row3 w w.heap.size rA ra) (hb : Row3 w w.heap.size bA rb) :
  Calls Tryz.prog 8 #[e.val A c, .slice cA cs.length cc, .slice rA ra.length rc, .slice bA rb.length bc] w fun en w' => en = .returned (.bool true) ∧ Below w.heap.size w w' := by
 have hcl : cs.length ≤ maxLen := Nat.le_trans hcc hcm
 obtain ⟨W1, hW1⟩ : ∃ W1, w.alloc (e.obj A c) = W1 := ⟨_, rfl⟩
 have hb1 : Below w.heap.size w W1 := by rw [← hW1]; exact (Below.refl _ _).alloc (Nat.le_refl _) _
 have hq1 : W1.heap[w.heap.size]? = some (e.obj A c) := by rw [← hW1]; exact obj_box _ _ _ _
 have HB1 := Lib.hid hb1
 have HQ1 := Lib.hid hq1
 have HFA := Lib.hid (fun (W : World) (h : Below w.heap.size w W) => far_any e hwe cs hwc ra hwr A c cA cc rA rc W hcl hrl (KidsAt.more h.size (hk.below h)) ((hc.below h).more h.size) ((hr.below h).more h.size))
 have HBG := Lib.hid (fun (W : World) (h : Below w.heap.size w W) => big_any rb hwb rb.length bc bA W rfl hbl ((hb.below h).more h.size))
 have HRT := Lib.hid (fun (W : World) (h : Below w.heap.size w W) => rright_any cs hwc cs.length cc cA W rfl hcl ((hc.below h).more h.size))
 have HFT := Lib.hid (fun (W : World) (h : Below w.heap.size w W) => rfits_any cs ra hwr cA cc rA rc W hcl hrl ((hc.below h).more h.size) ((hr.below h).more h.size))
 have HFB := Lib.hid (fun (W : World) (h : Below w.heap.size w W) => rfits_any cs rb hwb cA cc bA bc W hcl hbl ((hc.below h).more h.size) ((hb.below h).more h.size))
 have HCO := Lib.hid (fun (W : World) (h : Below w.heap.size w W) => cols_any e hwe A c W (KidsAt.more h.size (hk.below h)))
 have HWO := Lib.hid (fun (W : World) (h : Below w.heap.size w W) => worth_pub e hwe cs hwc ra hwr A c cA cc rA rc W hcl hcc hcm hrl (KidsAt.more h.size (hk.below h)) ((hc.below h).more h.size) ((hr.below h).more h.size))
 have HWM := Lib.hid (fun (M : List V) (hM : ∀ v ∈ M, v.wf) (W : World) (h : Below w.heap.size w W) (A9 : Option Addr) (c9 k : Nat) (hl : M.length = k) (hlm : k ≤ maxLen) (hr9 : Row3 W W.heap.size A9 M) =>
  (show Calls Tryz.prog 18 #[e.val A c, .slice cA cs.length cc, .slice A9 k c9] W fun en w' => en = endV (worthX e cs M) ∧ Below W.heap.size W w' from by
   subst hl
   exact worth_pub e hwe cs hwc M hM A c cA cc A9 c9 W hcl hcc hcm hlm (KidsAt.more h.size (hk.below h)) ((hc.below h).more h.size) hr9))
 obtain ⟨nm, hnm⟩ : ∃ nm, colR e = nm := ⟨_, rfl⟩
 have HNM := Lib.hid hnm
 have HNL := Lib.hid (show nm.length ≤ limN by rw [← hnm]; exact colR_len e)
 unfold ColsPost at HCO
 simp only [hnm] at HCO
 obtain ⟨⟨⟨k2, m2, s2⟩, f2⟩, hwx⟩ : ∃ z, worthX e cs ra = z := ⟨_, rfl⟩
 have HWX := Lib.hid hwx
 simp only [hwx] at HWO
 obtain ⟨fz, hfz⟩ : ∃ z, farX e cs ra = z := ⟨_, rfl⟩
 obtain ⟨bz, hbz⟩ : ∃ z, bigB rb = z := ⟨_, rfl⟩
 obtain ⟨rz, hrz⟩ : ∃ z, rightB cs = z := ⟨_, rfl⟩
 obtain ⟨az, haz⟩ : ∃ z, fitsR cs ra = z := ⟨_, rfl⟩
 obtain ⟨yz, hyz⟩ : ∃ z, fitsR cs rb = z := ⟨_, rfl⟩
 rw [hfz] at HFA
 rw [hbz] at HBG
 rw [hrz] at HRT
 rw [haz] at HFT
 rw [hyz] at HFB
 have HRA := Lib.hid hr
 have HRB := Lib.hid hb
 have HRC := Lib.hid hc
 have HAZ := Lib.hid haz
 have HYZ := Lib.hid hyz
 have HRZ := Lib.hid hrz
 have HWA := Lib.hid (And.intro hwr hwb)
 unfold endV at HWO HWM
 unfold V.val at HWO HWM
 unfold X.val at HFA HCO HWO HWM ⊢
 obtain ⟨p0, p1, p2, p3, p4, p5⟩ := obj_cells HQ1.out
 unfold X.obj at hW1
 have HCL := Lib.hid hcl
 clear hfz hbz hrz haz hyz hk hc hr hb hcl hcc hcm hrl hbl hq1 hb1 hwr hwb hnm hwx
 cases fz with
 | true =>
  go_enter Tryz.func8, Tryz.ntmps8
  go_wp2_with (first
   | (go_at_call 10; refine (alive_any _).mono ?_; rintro en w2 ⟨rfl, hb2⟩; clear p0 p1 p2 p3 p4 p5; have HQ2 := Lib.hid ((hb2.block _ (lt_of_heap HQ1.out)).trans HQ1.out); obtain ⟨p0, p1, p2, p3, p4, p5⟩ := obj_cells HQ2.out; have HB2 := Lib.hid (hop0 HB1.out hb2); clear hb2)
   | (go_at_call 11; refine (HFA.out _ HB2.out).mono ?_; rintro en w3 ⟨rfl, hb3⟩; clear p0 p1 p2 p3 p4 p5; have HQ3 := Lib.hid ((hb3.block _ (lt_of_heap HQ2.out)).trans HQ2.out); obtain ⟨p0, p1, p2, p3, p4, p5⟩ := obj_cells HQ3.out; have HB3 := Lib.hid (hop0 HB2.out hb3); clear hb3)
   | (go_at_call 25; refine (HBG.out _ HB3.out).mono ?_; rintro en w4 ⟨rfl, rfl⟩)
   | (go_at_call 26; refine (HRT.out _ HB3.out).mono ?_; rintro en w5 ⟨rfl, rfl⟩)
   | (have HSEC := HB6; go_at_call 27; refine (HFB.out _ HB6.out).mono ?_; rintro en w7 ⟨rfl, hb7⟩; clear p0 p1 p2 p3 p4 p5; have HQ7 := Lib.hid ((hb7.block _ (lt_of_heap HQ6.out)).trans HQ6.out); obtain ⟨p0, p1, p2, p3, p4, p5⟩ := obj_cells HQ7.out; have HB7 := Lib.hid (hop0 HB6.out hb7); clear hb7)
   | (go_at_call 27; refine (HFT.out _ HB3.out).mono ?_; rintro en w6 ⟨rfl, hb6⟩; clear p0 p1 p2 p3 p4 p5; have HQ6 := Lib.hid ((hb6.block _ (lt_of_heap HQ3.out)).trans HQ3.out); obtain ⟨p0, p1, p2, p3, p4, p5⟩ := obj_cells HQ6.out; have HB6 := Lib.hid (hop0 HB3.out hb6); clear hb6)
   | (go_at_call 20; refine (HCO.out _ HB7.out).mono ?_; rintro en w8 ⟨A9, c9, rfl, hr8, hb8⟩; have HQ8 := Lib.hid ((hb8.block _ (lt_of_heap HQ7.out)).trans HQ7.out); have HR8 := Lib.hid hr8; have HB8 := Lib.hid (hop0 HB7.out hb8); clear hr8 hb8 p0 p1 p2 p3 p4 p5))
  go_ret
  exact ⟨rfl, HB3.out⟩
 | false =>
  cases bz with
  | true =>
   go_enter Tryz.func8, Tryz.ntmps8
   go_wp2_with (first
    | (go_at_call 10; refine (alive_any _).mono ?_; rintro en w2 ⟨rfl, hb2⟩; clear p0 p1 p2 p3 p4 p5; have HQ2 := Lib.hid ((hb2.block _ (lt_of_heap HQ1.out)).trans HQ1.out); obtain ⟨p0, p1, p2, p3, p4, p5⟩ := obj_cells HQ2.out; have HB2 := Lib.hid (hop0 HB1.out hb2); clear hb2)
    | (go_at_call 11; refine (HFA.out _ HB2.out).mono ?_; rintro en w3 ⟨rfl, hb3⟩; clear p0 p1 p2 p3 p4 p5; have HQ3 := Lib.hid ((hb3.block _ (lt_of_heap HQ2.out)).trans HQ2.out); obtain ⟨p0, p1, p2, p3, p4, p5⟩ := obj_cells HQ3.out; have HB3 := Lib.hid (hop0 HB2.out hb3); clear hb3)
    | (go_at_call 25; refine (HBG.out _ HB3.out).mono ?_; rintro en w4 ⟨rfl, rfl⟩)
    | (go_at_call 26; refine (HRT.out _ HB3.out).mono ?_; rintro en w5 ⟨rfl, rfl⟩)
    | (have HSEC := HB6; go_at_call 27; refine (HFB.out _ HB6.out).mono ?_; rintro en w7 ⟨rfl, hb7⟩; clear p0 p1 p2 p3 p4 p5; have HQ7 := Lib.hid ((hb7.block _ (lt_of_heap HQ6.out)).trans HQ6.out); obtain ⟨p0, p1, p2, p3, p4, p5⟩ := obj_cells HQ7.out; have HB7 := Lib.hid (hop0 HB6.out hb7); clear hb7)
    | (go_at_call 27; refine (HFT.out _ HB3.out).mono ?_; rintro en w6 ⟨rfl, hb6⟩; clear p0 p1 p2 p3 p4 p5; have HQ6 := Lib.hid ((hb6.block _ (lt_of_heap HQ3.out)).trans HQ3.out); obtain ⟨p0, p1, p2, p3, p4, p5⟩ := obj_cells HQ6.out; have HB6 := Lib.hid (hop0 HB3.out hb6); clear hb6)
    | (go_at_call 20; refine (HCO.out _ HB7.out).mono ?_; rintro en w8 ⟨A9, c9, rfl, hr8, hb8⟩; have HQ8 := Lib.hid ((hb8.block _ (lt_of_heap HQ7.out)).trans HQ7.out); have HR8 := Lib.hid hr8; have HB8 := Lib.hid (hop0 HB7.out hb8); clear hr8 hb8 p0 p1 p2 p3 p4 p5))
   go_ret
   exact ⟨rfl, HB3.out⟩
  | false =>
   cases rz with
   | false =>
    go_enter Tryz.func8, Tryz.ntmps8
    go_wp2_with (first
     | (go_at_call 10; refine (alive_any _).mono ?_; rintro en w2 ⟨rfl, hb2⟩; clear p0 p1 p2 p3 p4 p5; have HQ2 := Lib.hid ((hb2.block _ (lt_of_heap HQ1.out)).trans HQ1.out); obtain ⟨p0, p1, p2, p3, p4, p5⟩ := obj_cells HQ2.out; have HB2 := Lib.hid (hop0 HB1.out hb2); clear hb2)
     | (go_at_call 11; refine (HFA.out _ HB2.out).mono ?_; rintro en w3 ⟨rfl, hb3⟩; clear p0 p1 p2 p3 p4 p5; have HQ3 := Lib.hid ((hb3.block _ (lt_of_heap HQ2.out)).trans HQ2.out); obtain ⟨p0, p1, p2, p3, p4, p5⟩ := obj_cells HQ3.out; have HB3 := Lib.hid (hop0 HB2.out hb3); clear hb3)
     | (go_at_call 25; refine (HBG.out _ HB3.out).mono ?_; rintro en w4 ⟨rfl, rfl⟩)
     | (go_at_call 26; refine (HRT.out _ HB3.out).mono ?_; rintro en w5 ⟨rfl, rfl⟩)
     | (have HSEC := HB6; go_at_call 27; refine (HFB.out _ HB6.out).mono ?_; rintro en w7 ⟨rfl, hb7⟩; clear p0 p1 p2 p3 p4 p5; have HQ7 := Lib.hid ((hb7.block _ (lt_of_heap HQ6.out)).trans HQ6.out); obtain ⟨p0, p1, p2, p3, p4, p5⟩ := obj_cells HQ7.out; have HB7 := Lib.hid (hop0 HB6.out hb7); clear hb7)
     | (go_at_call 27; refine (HFT.out _ HB3.out).mono ?_; rintro en w6 ⟨rfl, hb6⟩; clear p0 p1 p2 p3 p4 p5; have HQ6 := Lib.hid ((hb6.block _ (lt_of_heap HQ3.out)).trans HQ3.out); obtain ⟨p0, p1, p2, p3, p4, p5⟩ := obj_cells HQ6.out; have HB6 := Lib.hid (hop0 HB3.out hb6); clear hb6)
     | (go_at_call 20; refine (HCO.out _ HB7.out).mono ?_; rintro en w8 ⟨A9, c9, rfl, hr8, hb8⟩; have HQ8 := Lib.hid ((hb8.block _ (lt_of_heap HQ7.out)).trans HQ7.out); have HR8 := Lib.hid hr8; have HB8 := Lib.hid (hop0 HB7.out hb8); clear hr8 hb8 p0 p1 p2 p3 p4 p5))
    go_ret
    exact ⟨rfl, HB3.out⟩
   | true =>
    cases az with
    | false =>
     go_enter Tryz.func8, Tryz.ntmps8
     go_wp2_with (first
      | (go_at_call 10; refine (alive_any _).mono ?_; rintro en w2 ⟨rfl, hb2⟩; clear p0 p1 p2 p3 p4 p5; have HQ2 := Lib.hid ((hb2.block _ (lt_of_heap HQ1.out)).trans HQ1.out); obtain ⟨p0, p1, p2, p3, p4, p5⟩ := obj_cells HQ2.out; have HB2 := Lib.hid (hop0 HB1.out hb2); clear hb2)
      | (go_at_call 11; refine (HFA.out _ HB2.out).mono ?_; rintro en w3 ⟨rfl, hb3⟩; clear p0 p1 p2 p3 p4 p5; have HQ3 := Lib.hid ((hb3.block _ (lt_of_heap HQ2.out)).trans HQ2.out); obtain ⟨p0, p1, p2, p3, p4, p5⟩ := obj_cells HQ3.out; have HB3 := Lib.hid (hop0 HB2.out hb3); clear hb3)
      | (go_at_call 25; refine (HBG.out _ HB3.out).mono ?_; rintro en w4 ⟨rfl, rfl⟩)
      | (go_at_call 26; refine (HRT.out _ HB3.out).mono ?_; rintro en w5 ⟨rfl, rfl⟩)
      | (have HSEC := HB6; go_at_call 27; refine (HFB.out _ HB6.out).mono ?_; rintro en w7 ⟨rfl, hb7⟩; clear p0 p1 p2 p3 p4 p5; have HQ7 := Lib.hid ((hb7.block _ (lt_of_heap HQ6.out)).trans HQ6.out); obtain ⟨p0, p1, p2, p3, p4, p5⟩ := obj_cells HQ7.out; have HB7 := Lib.hid (hop0 HB6.out hb7); clear hb7)
      | (go_at_call 27; refine (HFT.out _ HB3.out).mono ?_; rintro en w6 ⟨rfl, hb6⟩; clear p0 p1 p2 p3 p4 p5; have HQ6 := Lib.hid ((hb6.block _ (lt_of_heap HQ3.out)).trans HQ3.out); obtain ⟨p0, p1, p2, p3, p4, p5⟩ := obj_cells HQ6.out; have HB6 := Lib.hid (hop0 HB3.out hb6); clear hb6)
      | (go_at_call 20; refine (HCO.out _ HB7.out).mono ?_; rintro en w8 ⟨A9, c9, rfl, hr8, hb8⟩; have HQ8 := Lib.hid ((hb8.block _ (lt_of_heap HQ7.out)).trans HQ7.out); have HR8 := Lib.hid hr8; have HB8 := Lib.hid (hop0 HB7.out hb8); clear hr8 hb8 p0 p1 p2 p3 p4 p5))
     go_ret
     exact ⟨rfl, HB6.out⟩
    | true =>
     cases yz with
     | false =>
      go_enter Tryz.func8, Tryz.ntmps8
      go_wp2_with (first
       | (go_at_call 10; refine (alive_any _).mono ?_; rintro en w2 ⟨rfl, hb2⟩; clear p0 p1 p2 p3 p4 p5; have HQ2 := Lib.hid ((hb2.block _ (lt_of_heap HQ1.out)).trans HQ1.out); obtain ⟨p0, p1, p2, p3, p4, p5⟩ := obj_cells HQ2.out; have HB2 := Lib.hid (hop0 HB1.out hb2); clear hb2)
       | (go_at_call 11; refine (HFA.out _ HB2.out).mono ?_; rintro en w3 ⟨rfl, hb3⟩; clear p0 p1 p2 p3 p4 p5; have HQ3 := Lib.hid ((hb3.block _ (lt_of_heap HQ2.out)).trans HQ2.out); obtain ⟨p0, p1, p2, p3, p4, p5⟩ := obj_cells HQ3.out; have HB3 := Lib.hid (hop0 HB2.out hb3); clear hb3)
       | (go_at_call 25; refine (HBG.out _ HB3.out).mono ?_; rintro en w4 ⟨rfl, rfl⟩)
       | (go_at_call 26; refine (HRT.out _ HB3.out).mono ?_; rintro en w5 ⟨rfl, rfl⟩)
       | (have HSEC := HB6; go_at_call 27; refine (HFB.out _ HB6.out).mono ?_; rintro en w7 ⟨rfl, hb7⟩; clear p0 p1 p2 p3 p4 p5; have HQ7 := Lib.hid ((hb7.block _ (lt_of_heap HQ6.out)).trans HQ6.out); obtain ⟨p0, p1, p2, p3, p4, p5⟩ := obj_cells HQ7.out; have HB7 := Lib.hid (hop0 HB6.out hb7); clear hb7)
       | (go_at_call 27; refine (HFT.out _ HB3.out).mono ?_; rintro en w6 ⟨rfl, hb6⟩; clear p0 p1 p2 p3 p4 p5; have HQ6 := Lib.hid ((hb6.block _ (lt_of_heap HQ3.out)).trans HQ3.out); obtain ⟨p0, p1, p2, p3, p4, p5⟩ := obj_cells HQ6.out; have HB6 := Lib.hid (hop0 HB3.out hb6); clear hb6)
       | (go_at_call 20; refine (HCO.out _ HB7.out).mono ?_; rintro en w8 ⟨A9, c9, rfl, hr8, hb8⟩; have HQ8 := Lib.hid ((hb8.block _ (lt_of_heap HQ7.out)).trans HQ7.out); have HR8 := Lib.hid hr8; have HB8 := Lib.hid (hop0 HB7.out hb8); clear hr8 hb8 p0 p1 p2 p3 p4 p5))
      go_ret
      exact ⟨rfl, HB7.out⟩
     | true =>
      have hla := fitsR_len HAZ.out
      have hlb := fitsR_len HYZ.out
      have hmx := fixed_plain (e := e) HAZ.out HYZ.out
      have hml := mixR_len (nm := nm) hla hlb
      have hmw := mixR_wf (nm := nm) (cs := cs) HWA.out.1 HWA.out.2
      rw [HNM.out] at hmx
      obtain ⟨M, hM⟩ : ∃ M, mixR nm cs ra rb = M := ⟨_, rfl⟩
      simp only [hM] at hmx hml hmw
      have hma : ∀ k (hk : k < cs.length) (hkm : k < M.length) (hka : k < ra.length) (hkb : k < rb.length), M[k] = if cs[k].s.data.toList ∈ nm then ra[k] else rb[k] := fun k hk hkm hka hkb => by
       subst hM
       exact mixR_at hla hlb k hk
      rw [HWX.out] at hmx
      have HWM := Lib.hid (fun W h A9 c9 k hl hlm hr9 => HWM.out M hmw W h A9 c9 k hl hlm hr9)
      simp only [hmx] at HWM
      have HMA := Lib.hid hma
      have HC12 := Lib.hid (right_len HRZ.out)
      have HML := Lib.hid hml
      have HLA := Lib.hid hla
      have HLB := Lib.hid hlb
      clear hla hlb hmx hml hma hmw hM HWA HNM HWX
      go_enter Tryz.func8, Tryz.ntmps8
      go_wp2_with (first
       | (go_at_call 10; refine (alive_any _).mono ?_; rintro en w2 ⟨rfl, hb2⟩; clear p0 p1 p2 p3 p4 p5; have HQ2 := Lib.hid ((hb2.block _ (lt_of_heap HQ1.out)).trans HQ1.out); obtain ⟨p0, p1, p2, p3, p4, p5⟩ := obj_cells HQ2.out; have HB2 := Lib.hid (hop0 HB1.out hb2); clear hb2)
       | (go_at_call 11; refine (HFA.out _ HB2.out).mono ?_; rintro en w3 ⟨rfl, hb3⟩; clear p0 p1 p2 p3 p4 p5; have HQ3 := Lib.hid ((hb3.block _ (lt_of_heap HQ2.out)).trans HQ2.out); obtain ⟨p0, p1, p2, p3, p4, p5⟩ := obj_cells HQ3.out; have HB3 := Lib.hid (hop0 HB2.out hb3); clear hb3)
       | (go_at_call 25; refine (HBG.out _ HB3.out).mono ?_; rintro en w4 ⟨rfl, rfl⟩)
       | (go_at_call 26; refine (HRT.out _ HB3.out).mono ?_; rintro en w5 ⟨rfl, rfl⟩)
       | (have HSEC := HB6; go_at_call 27; refine (HFB.out _ HB6.out).mono ?_; rintro en w7 ⟨rfl, hb7⟩; clear p0 p1 p2 p3 p4 p5; have HQ7 := Lib.hid ((hb7.block _ (lt_of_heap HQ6.out)).trans HQ6.out); obtain ⟨p0, p1, p2, p3, p4, p5⟩ := obj_cells HQ7.out; have HB7 := Lib.hid (hop0 HB6.out hb7); clear hb7)
       | (go_at_call 27; refine (HFT.out _ HB3.out).mono ?_; rintro en w6 ⟨rfl, hb6⟩; clear p0 p1 p2 p3 p4 p5; have HQ6 := Lib.hid ((hb6.block _ (lt_of_heap HQ3.out)).trans HQ3.out); obtain ⟨p0, p1, p2, p3, p4, p5⟩ := obj_cells HQ6.out; have HB6 := Lib.hid (hop0 HB3.out hb6); clear hb6)
       | (go_at_call 20; refine (HCO.out _ HB7.out).mono ?_; rintro en w8 ⟨A9, c9, rfl, hr8, hb8⟩; have HQ8 := Lib.hid ((hb8.block _ (lt_of_heap HQ7.out)).trans HQ7.out); have HR8 := Lib.hid hr8; have HB8 := Lib.hid (hop0 HB7.out hb8); clear hr8 hb8 p0 p1 p2 p3 p4 p5))
      clear HFA HBG HRT HFT HFB HCO HB2 HB3 HB6 HB7 HSEC HQ1 HQ2 HQ3 HQ6 HQ7 HB1
      go_loopw [10, 11] (fun cv iv wr => ∃ (k : Nat) (A5 : Option Addr) (c5 : Nat), k ≤ cs.length ∧ iv = .int .i64 k ∧ cv = .slice A5 k c5 ∧ Hid (wr.ownsRow w8.heap.size 23 3 (.slice A5 k c5) k ((M.take k).flatMap V.cells)) ∧ Hid (Below w8.heap.size w8 wr)) (fun _ iv _ => cs.length - (intOf iv).toNat)
      case atStart => exact ⟨0, none, 0, Nat.zero_le _, rfl, rfl, Lib.hid (World.ownsRow_nil _ _ _ _), Lib.hid (Below.refl _ _)⟩
      case round =>
       obtain ⟨k, A5, c5, hk, rfl, rfl, HO, HB⟩ := hrel
       have HBW := Lib.hid (hop0 HB8.out HB.out)
       by_cases hlt : k < cs.length
       ·have hka : k < ra.length := by have := HLA.out; omega
        have hkb : k < rb.length := by have := HLB.out; omega
        have hkm : k < M.length := by have := HML.out; omega
        obtain ⟨br, orr, rfl, hbr, r0, r1, r2⟩ := (HRB.out.below HBW.out) k hkb
        obtain ⟨ar, oar, rfl, har, a0, a1, a2⟩ := (HRA.out.below HBW.out) k hka
        obtain ⟨bc_, oc, rfl, hbc, s0, s1⟩ := (HRC.out.below HBW.out) k hlt
        have HMK := Lib.hid (HMA.out k hlt hkm hka hkb)
        have HTK := Lib.hid (List.take_succ_eq_append_getElem hkm)
        obtain ⟨x, hx⟩ : ∃ x, ra[k] = x := ⟨_, rfl⟩
        obtain ⟨y, hy⟩ : ∃ y, rb[k] = y := ⟨_, rfl⟩
        obtain ⟨z, hz⟩ : ∃ z, M[k] = z := ⟨_, rfl⟩
        obtain ⟨nk, hnk⟩ : ∃ n, cs[k].s = n := ⟨_, rfl⟩
        rw [hx] at a0 a1 a2 HMK
        rw [hy] at r0 r1 r2 HMK
        rw [hz] at HMK HTK
        rw [hnk] at s0 HMK
        have i1 : (0 : Int) ≤ (k : Int) := by omega
        have i2 : (k : Int) < (cs.length : Int) := by omega
        have i3 : (k : Int) < (ra.length : Int) := by omega
        have i4 : (k : Int) < (rb.length : Int) := by omega
        have i5 : k + 1 ≤ 9223372036854775807 := by have := HCL.out; unfold maxLen at this; omega
        have HAR := Lib.hid (Nat.lt_of_lt_of_le har HBW.out.size)
        have HCR := Lib.hid (Nat.lt_of_lt_of_le hbc HBW.out.size)
        clear hx hy hz hnk s1 hka hkb hkm hbr har hbc hlt
        go_wp2
        obtain ⟨w0, rfl⟩ : ∃ x, x = wr := ⟨_, rfl⟩
        have HO0 := Lib.hid HO.out
        have hgb : w8.heap.size ≤ w0.heap.size := HB.out.size
        have HGB := Lib.hid hgb
        go_loopw [13] (fun jv wi => ∃ j : Nat, j ≤ nm.length ∧ jv = .int .i64 j ∧ Hid (Below w0.heap.size w0 wi) ∧ Hid (Box3 wi w0.heap.size (if hasN nm j nk then x else y))) (fun jv _ => nm.length - (intOf jv).toNat)
        case atStart => exact ⟨0, Nat.zero_le _, rfl, Lib.hid ((Below.refl _ _).alloc (Nat.le_refl _) _), Lib.hid (by rw [hasN_zero]; exact Box3.new w0 y)⟩
        case round =>
         obtain ⟨j, hj, rfl, HBi, HZi⟩ := hrel
         by_cases hjl : j < nm.length
         ·obtain ⟨bn, on, rfl, hbn, hn⟩ := (HR8.out.below (hop0 HB.out HBi.out)) j hjl
          have n0 := hn 0 _ rfl
          simp only [Nat.mul_one, Nat.add_zero] at n0
          have HNX := Lib.hid (hasN_next hjl nk)
          obtain ⟨q, hq⟩ : ∃ q, nm[j] = q := ⟨_, rfl⟩
          rw [hq] at n0 HNX
          have hs0 := later_cell HBi.out s0
          have t0 := later_cell HBi.out a0
          have t1 := later_cell HBi.out a1
          have t2 := later_cell HBi.out a2
          have u0 := HZi.out.c0; have u1 := HZi.out.c1; have u2 := HZi.out.c2
          have f0 := HZi.out.free 0; have f1 := HZi.out.free 1; have f2 := HZi.out.free 2
          have hzl := HZi.out.lt
          have j1 : (0 : Int) ≤ (j : Int) := by omega
          have j2 : (j : Int) < (nm.length : Int) := by omega
          have j3 : j + 1 ≤ 9223372036854775807 := by have := HNL.out; unfold limN at this; omega
          clear hn hq hbn hj hjl
          by_cases he : q = nk.data.toList
          ·have hqe : (q == nk.toList) = true := by rw [Lib.toList_data]; simpa using he
           have HN2 := Lib.hid (show hasN nm (j + 1) nk = true by rw [HNX.out, decide_eq_true he, Bool.or_true])
           clear he
           go_wp2
           go_quiet (fail)
           go_wp2
           go_roundw
           case rel => exact ⟨j + 1, by omega, by go_num, Lib.hid (set3_below (below_more HBi.out _) (Nat.le_refl _) _ _ _), Lib.hid (by rw [HN2.out, if_pos rfl]; exact Box3.set (show Box3 (World.drewN wr _) w0.heap.size _ from HZi.out) x)⟩
           case measure => simp [intOf]; omega
          ·have hqe : (q == nk.toList) = false := by rw [Lib.toList_data]; simpa using he
           have HN2 := Lib.hid (show hasN nm (j + 1) nk = hasN nm j nk by rw [HNX.out, decide_eq_false he, Bool.or_false])
           clear he
           go_wp2
           go_quiet (fail)
           go_wp2
           go_roundw
           case rel => exact ⟨j + 1, by omega, by go_num, Lib.hid (below_more HBi.out _), Lib.hid (by rw [HN2.out]; exact HZi.out)⟩
           case measure => simp [intOf]; omega
         ·have HZ := Lib.hid (show Box3 wr w0.heap.size z by
           have h := HZi.out
           rw [hasN_all (by omega)] at h
           rw [HMK.out]
           by_cases hm : nk.data.toList ∈ nm
           ·rw [if_pos hm]; rwa [decide_eq_true hm, if_pos rfl] at h
           ·rw [if_neg hm]; rwa [decide_eq_false hm, if_neg (by decide)] at h)
          have u0 := HZ.out.c0; have u1 := HZ.out.c1; have u2 := HZ.out.c2
          have hzl := HZ.out.lt
          have HO2 := Lib.hid (own_below HO.out HBi.out)
          clear hj
          go_wp2_with (at_builtin; go_loud (refine append_item Tryz.underlying39 infoVal rfl (by decide) vv_len vv_one rfl _ _ rfl w8.heap.size A5 k c5 (M.take k) rfl _ z HO2.out (by have := HGB.out; have := HBi.out.size; omega) _ rfl rfl (by have := HC12.out; omega) (by have := HC12.out; unfold maxLen; omega) [_, _, _] rfl ?_); intro A3 n3 c3 w9 hn3 ho3 hb3 _; have HO3 := Lib.hid ho3; have HB3 := Lib.hid ((hop0 HB.out HBi.out).trans hb3); clear ho3 hb3; subst hn3)
          go_roundw
          case rel => exact ⟨k + 1, A3, c3, by omega, by go_num, rfl, Lib.hid (by rw [HTK.out]; exact HO3.out), HB3⟩
          case measure => simp [intOf]; omega
       ·have hkm : M.length = k := by have := HML.out; omega
        have HR5 := Lib.hid (show Row3 wr wr.heap.size A5 M by
         have h := (row3_of_own HO.out).2
         rwa [List.take_of_length_le (by omega)] at h)
        have HW2 := Lib.hid (fun (W : World) (hb : Below wr.heap.size wr W) => HWM.out W (hop0 HBW.out hb) A5 c5 k hkm (by have := HC12.out; unfold maxLen; omega) ((HR5.out.below hb).more hb.size))
        have HW1 := Lib.hid (HWO.out wr HBW.out)
        have hq9 := (HB.out.block _ (lt_of_heap HQ8.out)).trans HQ8.out
        obtain ⟨p0, p1, p2, p3, p4, p5⟩ := obj_cells hq9
        have HQ9 := Lib.hid hq9
        have hlq := lt_of_heap hq9
        clear hkm hq9 hk HWO HWM
        go_wp2_with (first
         | (have HSEC := HQ10; go_at_call 18; refine (HW2.out _ (HB10.out.alloc HB10.out.size _)).mono ?_; rintro en w11 ⟨rfl, hb11⟩; have HZ11 := Lib.hid ((Box3.new w10 ⟨k2, m2, s2⟩).below hb11); have HB11 := Lib.hid (hop0 (HB10.out.alloc HB10.out.size _) hb11); have z0 := HZ11.out.c0; have z1 := HZ11.out.c1; have z2 := HZ11.out.c2; have hl11 := HZ11.out.lt; clear hb11)
         | (go_at_call 18; refine HW1.out.mono ?_; rintro en w10 ⟨rfl, hb10⟩; clear p0 p1 p2 p3 p4 p5; have HQ10 := Lib.hid ((hb10.block _ (lt_of_heap HQ9.out)).trans HQ9.out); obtain ⟨p0, p1, p2, p3, p4, p5⟩ := obj_cells HQ10.out; have hlq10 := lt_of_heap HQ10.out; have HB10 := Lib.hid hb10; clear hb10))
        go_ret
        exact ⟨by simp, hop0 HBW.out (HB11.out.alloc HB11.out.size _)⟩
end Go.Proofs.YtclcabdekeegdaaGreat
