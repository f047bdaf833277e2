/- Layer 13, walked: Worth (the reference); the law Worth. -/
import Derived.Test.YtclcabdekeegdaaGreatExEzW
import Derived.Test.YtclcabdekeegdaaGreatExHW
import Derived.Test.YtclcabdekeegdaaGreatExIW
namespace Go.Proofs.YtclcabdekeegdaaGreat
open Go.ChangeShapes Go.WideShapes Go.ChangeAt Go.RowKit
set_option linter.unusedVariables false
set_option linter.unusedSimpArgs false
def rworthX (e : X) (cs : List C) (row : List V) : V × Int := if (rkindX e cs).2 ≠ 0 then (nulV, (rkindX e cs).2) else if fitsR cs row = false then (nulV, 122) else evalX cs row e
theorem rworth_eq {e : X} {cs : List C} {row : List V} (h : hugeX e = false) : rworthX e cs row = worthX e cs row := by
 unfold rworthX worthX
 rw [rkind_eq h]
theorem rkind_ok {e : X} {cs : List C} (h : (rkindX e cs).2 = 0) : formX e = true ∧ (kindX cs e).2 = 0 := by
 unfold rkindX at h
 split at h
 ·cases h
 ·split at h
  ·rename_i h2; exact absurd h h2
  ·rename_i h2
   exact ⟨rcheck_form (by simpa using h2), h⟩
set_option maxHeartbeats 8000000 in
set_option maxRecDepth 40000 in
theorem rworth_any (e : X) (hwe : e.wf) (cs : List C) (hwc : ∀ c ∈ cs, c.wf) (row : List V) (hwr : ∀ v ∈ row, v.wf) (A : Option Addr) (c : Nat) (cA : Option Addr) (cc : Nat) (rA : Option Addr) (rc : Nat) (w : World) (hcl : cs.length ≤ maxLen) (hrl : row.length ≤ maxLen)
  (hk : KidsAt w w.heap.size e A c) (hc : Row2 w w.heap.size cA cs) (hr : Row3 w w.heap.size rA row) :
  Calls Tryz.prog 19 #[e.val A c, .slice cA cs.length cc, .slice rA row.length rc] w fun en w' => en = endV (rworthX e cs row) ∧ Below w.heap.size w w' := by
 obtain ⟨W1, hW1⟩ : ∃ W1, (w.alloc (e.obj A c)).alloc (.cells #[.int .i64 0, .int .i64 0, .string ⟨#[]⟩] 23) = W1 := ⟨_, rfl⟩
 have hb1 : Below w.heap.size w W1 := by rw [← hW1]; exact two_boxes _ _ _
 have hq1 : W1.heap[w.heap.size]? = some (e.obj A c) := by rw [← hW1]; exact (Below.heap_alloc _ _ _ (by simp)).trans (World.alloc_heap_new w _)
 have hz1 : Box3 W1 (w.heap.size + 1) zV := by
  rw [← hW1]
  have := Box3.new (w.alloc (e.obj A c)) zV
  rwa [World.size_alloc] at this
 have HKD := Lib.hid (rkind_any e hwe cs hwc A c cA cc W1 hcl (KidsAt.more hb1.size (hk.below hb1)) ((hc.below hb1).more hb1.size))
 have HFT := Lib.hid (fun (W : World) (hb : Below w.heap.size w W) => rfits_any cs row hwr cA cc rA rc W hcl hrl ((hc.below hb).more hb.size) ((hr.below hb).more hb.size))
 have HQ := Lib.hid hq1
 have HZ := Lib.hid hz1
 have HB1 := Lib.hid hb1
 obtain ⟨p0, p1, p2, p3, p4, p5⟩ := obj_cells hq1
 have hsz : W1.heap.size = w.heap.size + 2 := by rw [← hW1]; simp
 obtain ⟨⟨k, er⟩, hkd⟩ : ∃ z, rkindX e cs = z := ⟨_, rfl⟩
 rw [hkd] at HKD
 unfold endI at HKD
 unfold X.val at HKD ⊢
 dsimp only at HKD
 unfold X.obj at hW1
 by_cases he : er = 0
 ·subst he
  obtain ⟨hfo, hki⟩ := rkind_ok (e := e) (cs := cs) (by rw [hkd])
  by_cases hf : fitsR cs row = true
  ·rw [hf] at HFT
   have HX := Lib.hid (show rworthX e cs row = evalX cs row e by unfold rworthX; rw [hkd, if_neg (by simp), if_neg (by simp [hf])])
   have HU := Lib.hid (fun (w4 : World) (hb : Below w.heap.size w w4) => reval_any cs row cA cc rA rc hf hwr hcl e hfo hki hwe A c w4 (KidsAt.more hb.size (hk.below hb)) ((hc.below hb).more hb.size) ((hr.below hb).more hb.size))
   rw [HX.out]
   obtain ⟨⟨y, er⟩, hy⟩ : ∃ z, evalX cs row e = z := ⟨_, rfl⟩
   rw [hy] at HU ⊢
   unfold endV at HU ⊢
   dsimp only at HU ⊢
   unfold V.val X.val at HU
   clear hk hc hr hcl hrl hq1 hz1 hb1 hkd hki hfo hf hy
   go_enter Tryz.func19, Tryz.ntmps19
   go_wp2_with (first
    | (go_at_call 17; refine HKD.out.mono ?_; rintro en w2 ⟨rfl, hb2⟩; have HQ2 := Lib.hid ((hb2.block _ (lt_of_heap HQ.out)).trans HQ.out); have HZ2 := Lib.hid (HZ.out.below hb2); have HB2 := Lib.hid (hop0 HB1.out hb2); clear hb2)
    | (go_at_call 27; refine (HFT.out _ HB2.out).mono ?_; rintro en w3 ⟨rfl, hb3⟩; clear p0 p1 p2 p3 p4 p5; have HQ3 := Lib.hid ((hb3.block _ (lt_of_heap HQ2.out)).trans HQ2.out); obtain ⟨p0, p1, p2, p3, p4, p5⟩ := obj_cells HQ3.out; have HZ3 := Lib.hid (HZ2.out.below hb3); have HB3 := Lib.hid (hop0 HB2.out hb3); clear hb3)
    | (go_at_call 47; refine (HU.out _ HB3.out).mono ?_; rintro en w5 ⟨rfl, hb5⟩; have HZ5 := Lib.hid (HZ3.out.below hb5); have HB5 := Lib.hid (hop0 HB3.out hb5); have s0 := HZ5.out.c0; have s1 := HZ5.out.c1; have s2 := HZ5.out.c2; have f0 := HZ5.out.free 0; have f1 := HZ5.out.free 1; have f2 := HZ5.out.free 2; clear hb5))
   exact bodyPost_ret (ret_two rfl (by rfl) (by rfl) (HZ5.out.set y)) rfl ⟨rfl, set3_below HB5.out (Nat.le_succ _) _ _ _⟩
  ·have hf2 : fitsR cs row = false := by simpa using hf
   rw [hf2] at HFT
   have HX : rworthX e cs row = (nulV, 122) := by unfold rworthX; rw [hkd, if_neg (by simp), if_pos hf2]
   rw [HX]
   clear hk hc hr hcl hrl hq1 hz1 hb1 hkd hki hfo hf hf2 HX
   go_enter Tryz.func19, Tryz.ntmps19
   go_wp2_with (first
    | (go_at_call 17; refine HKD.out.mono ?_; rintro en w2 ⟨rfl, hb2⟩; have HZ2 := Lib.hid (HZ.out.below hb2); have HB2 := Lib.hid (hop0 HB1.out hb2); clear hb2)
    | (go_at_call 27; refine (HFT.out _ HB2.out).mono ?_; rintro en w3 ⟨rfl, hb3⟩; have HZ3 := Lib.hid (HZ2.out.below hb3); have HB3 := Lib.hid (hop0 HB2.out hb3); have s0 := HZ3.out.c0; have s1 := HZ3.out.c1; have s2 := HZ3.out.c2; have f0 := HZ3.out.free 0; have f1 := HZ3.out.free 1; have f2 := HZ3.out.free 2; clear hb3))
   exact bodyPost_ret (ret_two rfl (by rfl) (by rfl) (HZ3.out.set nulV)) rfl ⟨rfl, set3_below HB3.out (Nat.le_succ _) _ _ _⟩
 ·have HX : rworthX e cs row = (nulV, er) := by unfold rworthX; rw [hkd, if_pos he]
  rw [HX]
  have q0 : (er != 0) = true := by simpa using he
  clear hk hc hr hcl hrl hq1 hz1 hb1 hkd HX
  go_enter Tryz.func19, Tryz.ntmps19
  go_wp2_with (go_at_call 17; refine HKD.out.mono ?_; rintro en w2 ⟨rfl, hb2⟩; have HZ2 := Lib.hid (HZ.out.below hb2); have HB2 := Lib.hid (hop0 HB1.out hb2); have s0 := HZ2.out.c0; have s1 := HZ2.out.c1; have s2 := HZ2.out.c2; have f0 := HZ2.out.free 0; have f1 := HZ2.out.free 1; have f2 := HZ2.out.free 2; clear hb2)
  exact bodyPost_ret (ret_two rfl (by rfl) (by rfl) (HZ2.out.set nulV)) rfl ⟨rfl, set3_below HB2.out (Nat.le_succ _) _ _ _⟩
set_option maxHeartbeats 8000000 in
set_option maxRecDepth 40000 in
theorem worths_walk (e : X) (hwe : e.wf) (cs : List C) (hwc : ∀ c ∈ cs, c.wf) (row : List V) (hwr : ∀ v ∈ row, v.wf) (A : Option Addr) (c : Nat) (cA : Option Addr) (cc : Nat) (rA : Option Addr) (rc : Nat) (w : World) (hcc : cs.length ≤ cc) (hcm : cc ≤ maxLen) (hrl : row.length ≤ maxLen)
  (hk : KidsAt w w.heap.size e A c) (hc : Row2 w w.heap.size cA cs) (hr : Row3 w w.heap.size rA row) :
  Calls Tryz.prog 5 #[e.val A c, .slice cA cs.length cc, .slice rA row.length rc] w fun en w' => en = .returned (.bool true) ∧ Below w.heap.size w w' := by
 have hcl : cs.length ≤ maxLen := Nat.le_trans hcc hcm
 obtain ⟨W1, hW1⟩ : ∃ W1, w.alloc (e.obj A c) = W1 := ⟨_, rfl⟩
 have hb1 : Below w.heap.size w W1 := by rw [← hW1]; exact (Below.refl _ _).alloc (Nat.le_refl _) _
 have hq1 : W1.heap[w.heap.size]? = some (e.obj A c) := by rw [← hW1]; exact obj_box _ _ _ _
 have HB1 := Lib.hid hb1
 have HQ1 := Lib.hid hq1
 have HFA := Lib.hid (fun (W : World) (h : Below w.heap.size w W) => far_any e hwe cs hwc row hwr A c cA cc rA rc W hcl hrl (KidsAt.more h.size (hk.below h)) ((hc.below h).more h.size) ((hr.below h).more h.size))
 have HWO := Lib.hid (fun (W : World) (h : Below w.heap.size w W) => worth_pub e hwe cs hwc row hwr A c cA cc rA rc W hcl hcc hcm hrl (KidsAt.more h.size (hk.below h)) ((hc.below h).more h.size) ((hr.below h).more h.size))
 have HRW := Lib.hid (fun (W : World) (h : Below w.heap.size w W) => rworth_any e hwe cs hwc row hwr A c cA cc rA rc W hcl hrl (KidsAt.more h.size (hk.below h)) ((hc.below h).more h.size) ((hr.below h).more h.size))
 obtain ⟨fz, hfz⟩ : ∃ z, farX e cs row = z := ⟨_, rfl⟩
 rw [hfz] at HFA
 unfold endV V.val at HWO HRW
 unfold X.val at HFA HWO HRW ⊢
 obtain ⟨p0, p1, p2, p3, p4, p5⟩ := obj_cells HQ1.out
 unfold X.obj at hW1
 cases fz with
 | true =>
  clear hfz hk hc hr hcl hcc hcm hrl hq1 hb1
  go_enter Tryz.func5, Tryz.ntmps5
  go_wp2_with (first
   | (go_at_call 10; refine (alive_any _).mono ?_; rintro en w2 ⟨rfl, hb2⟩; clear p0 p1 p2 p3 p4 p5; have HQ2 := Lib.hid ((hb2.block _ (lt_of_heap HQ1.out)).trans HQ1.out); obtain ⟨p0, p1, p2, p3, p4, p5⟩ := obj_cells HQ2.out; have HB2 := Lib.hid (hop0 HB1.out hb2); clear hb2)
   | (go_at_call 11; refine (HFA.out _ HB2.out).mono ?_; rintro en w3 ⟨rfl, hb3⟩; have HB3 := Lib.hid (hop0 HB2.out hb3); clear hb3))
  go_ret
  exact ⟨rfl, HB3.out⟩
 | false =>
  rw [rworth_eq (far_forms hfz)] at HRW
  obtain ⟨⟨⟨k, m, s⟩, f⟩, hkf⟩ : ∃ z, worthX e cs row = z := ⟨_, rfl⟩
  rw [hkf] at HWO HRW
  dsimp only at HWO HRW
  clear hfz hk hc hr hcl hcc hcm hrl hq1 hb1 hkf
  go_enter Tryz.func5, Tryz.ntmps5
  go_wp2_with (first
   | (go_at_call 10; refine (alive_any _).mono ?_; rintro en w2 ⟨rfl, hb2⟩; clear p0 p1 p2 p3 p4 p5; have HQ2 := Lib.hid ((hb2.block _ (lt_of_heap HQ1.out)).trans HQ1.out); obtain ⟨p0, p1, p2, p3, p4, p5⟩ := obj_cells HQ2.out; have HB2 := Lib.hid (hop0 HB1.out hb2); clear hb2)
   | (go_at_call 11; refine (HFA.out _ HB2.out).mono ?_; rintro en w3 ⟨rfl, hb3⟩; clear p0 p1 p2 p3 p4 p5; have HQ3 := Lib.hid ((hb3.block _ (lt_of_heap HQ2.out)).trans HQ2.out); obtain ⟨p0, p1, p2, p3, p4, p5⟩ := obj_cells HQ3.out; have HB3 := Lib.hid (hop0 HB2.out hb3); clear hb3)
   | (go_at_call 18; refine (HWO.out _ HB3.out).mono ?_; rintro en w4 ⟨rfl, hb4⟩; clear p0 p1 p2 p3 p4 p5; have HQ4 := Lib.hid ((hb4.block _ (lt_of_heap HQ3.out)).trans HQ3.out); obtain ⟨p0, p1, p2, p3, p4, p5⟩ := obj_cells HQ4.out; have hl4 := lt_of_heap HQ4.out; have HB4 := Lib.hid (hop0 HB3.out hb4); clear hb4)
   | (go_at_call 19; refine (HRW.out _ (HB4.out.alloc (by have := HB4.out.size; omega) _)).mono ?_; rintro en w5 ⟨rfl, hb5⟩; have HZ5 := Lib.hid ((Box3.new w4 ⟨k, m, s⟩).below hb5); have HB5 := Lib.hid (hop0 (HB4.out.alloc (by have := HB4.out.size; omega) _) hb5); have s0 := HZ5.out.c0; have s1 := HZ5.out.c1; have s2 := HZ5.out.c2; have hl5 := HZ5.out.lt; clear hb5))
  go_ret
  exact ⟨by simp, HB5.out.alloc (by have := HB5.out.size; omega) _⟩
end Go.Proofs.YtclcabdekeegdaaGreat
