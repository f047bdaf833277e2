/- Layer 13, walked: Of (the reference; wip/gen/XExQ9.py). -/
import Derived.Test.YtclcabdekeegdaaGreatExQ8W
namespace Go.Proofs.YtclcabdekeegdaaGreat
open Go.ChangeShapes Go.WideShapes Go.ChangeAt Go.RowKit
set_option linter.unusedVariables false
set_option linter.unusedSimpArgs false
set_option maxHeartbeats 16000000 in
set_option maxRecDepth 40000 in
theorem rof_any (cs : List C) (cA : Option Addr) (cc : Nat) (hcl : cs.length ≤ maxLen) : ∀ (e : X), formX e = true → ∀ (A : Option Addr) (c : Nat) (w : World), KidsAt w w.heap.size e A c → Row2 w w.heap.size cA cs →
  Calls Tryz.prog 42 #[e.val A c, .slice cA cs.length cc] w fun en w' => en = endI (kindX cs e) ∧ Below w.heap.size w w' := by
 refine X.ind ?_
 intro o n v ks ih hform A c w hk hc
 simp only [formX, Bool.and_eq_true, decide_eq_true_eq] at hform
 obtain ⟨⟨hl, hh⟩, hks⟩ := hform
 have hall := formL_iff.1 hks
 have hop := op_cases hl
 obtain ⟨E, hE⟩ : ∃ E, endI (kindX cs (.mk o n v ks)) = E := ⟨_, rfl⟩
 rw [hE]
 have HE := Lib.hid hE
 have HK := Lib.hid hk
 have HCC := Lib.hid hc
 have HIH := Lib.hid (fun k hk A c w => ih k hk (hall k hk) A c w)
 have HFIND := Lib.hid (fun (W : World) (hb : Below w.heap.size w W) => rfind_any cs n cs.length cc cA W rfl hcl ((hc.below hb).more hb.size))
 have HWD := Lib.hid (word_any n)
 have HFAIL := Lib.hid (fun er (h : kindsX cs ks = .error er) => show E = endI (0, er) by rw [← HE.out, kindX, h])
 have HGOOD := Lib.hid (fun l (h : kindsX cs ks = .ok l) => show E = endI (kindO cs o n v (l.getD 0 0) (l.getD 1 0) (l.getD 2 0)) by
  rw [← HE.out, kindX, h]
  rfl)
 have hl3 : ks.length ≤ 3 := by omega
 have HOP := Lib.hid hop
 have hlen := hk.len
 unfold maxLen at hlen
 simp only [X.ks] at hlen
 unfold maxLen at hcl
 obtain ⟨W1, hW1⟩ : ∃ W1, (w.alloc ((X.mk o n v ks).obj A c)).alloc (.cells (partsA []) 3) = W1 := ⟨_, rfl⟩
 have HB1 := Lib.hid (show Below w.heap.size w W1 by rw [← hW1]; exact two_boxes _ _ _)
 have HX1 := Lib.hid (show W1.heap[w.heap.size]? = some ((X.mk o n v ks).obj A c) by rw [← hW1]; exact (Below.heap_alloc _ _ _ (by simp)).trans (World.alloc_heap_new w _))
 have HQ1 := Lib.hid (show W1.heap[w.heap.size + 1]? = some (.cells (partsA []) 3) by
  rw [← hW1]
  have := World.alloc_heap_new (w.alloc ((X.mk o n v ks).obj A c)) (.cells (partsA []) 3)
  rwa [World.size_alloc] at this)
 have HN0 := Lib.hid (show kindsX cs (ks.take 0) = .ok [] from by simp [kindsX])
 clear hE hk hc ih hall hks hl hh hop
 unfold X.obj partsA at hW1
 unfold X.val
 simp only [X.op, X.nm, X.v, X.ks, List.getD_nil] at hW1 ⊢
 go_enter Tryz.func42, Tryz.ntmps42
 go_wp2
 go_loopw [7] (fun iv wr => ∃ (k : Nat) (l : List Int), k ≤ ks.length ∧ iv = .int .i64 k ∧ Hid (kindsX cs (ks.take k) = .ok l ∧ l.length = k) ∧ Hid (wr.heap[w.heap.size + 1]? = some (.cells (partsA l) 3)) ∧ Hid (wr.heap[w.heap.size]? = some ((X.mk o n v ks).obj A c)) ∧ Below w.heap.size w wr) (fun iv _ => ks.length - (intOf iv).toNat)
 case atStart => exact ⟨0, [], Nat.zero_le _, rfl, Lib.hid ⟨HN0.out, rfl⟩, HQ1, HX1, HB1.out⟩
 case round =>
  obtain ⟨k, l, hkk, rfl, HKL, HQ2, HX2, hbel⟩ := hrel
  have HB0 := Lib.hid hbel
  obtain ⟨g0, g1, g2, g3, g4, g5⟩ := obj_cells HX2.out
  simp only [X.op, X.nm, X.v, X.ks] at g0 g1 g2 g3 g4 g5
  by_cases hlt : k < ks.length
  ·obtain ⟨bb, off, A2, c2, rfl, hbB, hk2, c0, c1, c2', c3, c4, c5⟩ := (HK.out.below hbel).at6m k hlt
   have HSN := Lib.hid (kindsX_snoc (cs := cs) hlt HKL.out.1)
   have HFL := Lib.hid (fun h => HFAIL.out _ (kindsX_fail (cs := cs) hlt HKL.out.1 h))
   have HC := Lib.hid (HIH.out ks[k] (List.getElem_mem hlt) A2 c2 wr (KidsAt.more hbel.size hk2) ((HCC.out.below hbel).more hbel.size))
   obtain ⟨x, hx⟩ : ∃ x, ks[k] = x := ⟨_, rfl⟩
   rw [hx] at hk2 c0 c1 c2' c3 c4 c5 HC HSN HFL
   clear hx
   have hqs : w.heap.size + 1 < wr.heap.size := lt_of_heap HQ2.out
   have hbw : bb < wr.heap.size := Nat.lt_of_lt_of_le hbB hbel.size
   have hk3 : k < 3 := by omega
   have i1 : (0 : Int) ≤ (k : Int) := by omega
   have i2 : (k : Int) < (ks.length : Int) := by omega
   have i3 : (k : Int) < 3 := by omega
   obtain ⟨⟨y, er⟩, hy⟩ : ∃ z, kindX cs x = z := ⟨_, rfl⟩
   rw [hy] at HC HSN HFL
   unfold endI at HC
   unfold X.val at HC
   dsimp only at HC HSN HFL
   clear hk2 hy
   by_cases hz : er = 0
   ·subst hz
    have HK2 := Lib.hid (HSN.out rfl)
    clear HSN HFL
    obtain ⟨vv, hvv⟩ : ∃ vv, (partsA l)[k]? = some vv := ⟨_, Array.getElem?_eq_getElem (by simp [partsA]; omega)⟩
    have HVV := Lib.hid hvv
    clear hvv
    go_wp2_with (go_at_call 42; go_loud (refine HC.out.mono ?_; rintro e w2 ⟨rfl, hb2⟩; have HB2 := Lib.hid (hop0 HB0.out hb2); have q0 := (hb2.block _ (lt_of_heap HQ2.out)).trans HQ2.out; have q1 := (hb2.block _ (lt_of_heap HX2.out)).trans HX2.out; have hcl2 : w2.cell? ⟨w.heap.size + 1, k, none⟩ = some vv := (by rw [← HVV.out]; simp [World.cell?, q0]); have hfz : w2.frozen? ⟨w.heap.size + 1, k, none⟩ = false := (by simp [World.frozen?, q0]); clear hb2))
    go_roundw
    case rel =>
     refine ⟨k + 1, l ++ [y], by omega, by go_num, Lib.hid ⟨HK2.out, by simp [HKL.out.2]⟩, Lib.hid ?_, Lib.hid ((Below.heap_setCell _ _ _ _ (by show w.heap.size ≠ w.heap.size + 1; omega)).trans q1), ?_⟩
     ·rw [← partsA_set HKL.out.2 hk3]
      exact heap_set q0 _
     ·exact Below.row HB2.out (Nat.le_succ _) _
    case measure => simp [intOf]; omega
   ·have HX := Lib.hid (HFL.out hz)
    have q0 : (er != 0) = true := by simpa using hz
    clear hz HSN HFL
    unfold endI at HX
    dsimp only at HX
    go_wp2_with (go_at_call 42; go_loud (refine HC.out.mono ?_; rintro e w2 ⟨rfl, hb2⟩; have HB2 := Lib.hid (hop0 HB0.out hb2); clear hb2))
    refine bodyPost_ret (by simp [results, Tryz.results42, go_sem]) rfl ⟨HX.out.symm, HB2.out⟩
  ·have hke : ks.take k = ks := List.take_of_length_le (by omega)
   have hkl : k = ks.length := by omega
   obtain ⟨hkl1, hkl2⟩ := HKL.out
   rw [hke] at hkl1
   have HG := Lib.hid (HGOOD.out l hkl1)
   have r0 : wr.cell? ⟨w.heap.size + 1, 0, none⟩ = some (.int .i64 (l.getD 0 0)) := by simp [World.cell?, HQ2.out, partsA]
   have r1 : wr.cell? ⟨w.heap.size + 1, 1, none⟩ = some (.int .i64 (l.getD 1 0)) := by simp [World.cell?, HQ2.out, partsA]
   have r2 : wr.cell? ⟨w.heap.size + 1, 2, none⟩ = some (.int .i64 (l.getD 2 0)) := by simp [World.cell?, HQ2.out, partsA]
   obtain ⟨a, ha⟩ : ∃ a, l.getD 0 0 = a := ⟨_, rfl⟩
   obtain ⟨b, hb⟩ : ∃ b, l.getD 1 0 = b := ⟨_, rfl⟩
   obtain ⟨d, hd⟩ : ∃ d, l.getD 2 0 = d := ⟨_, rfl⟩
   rw [ha] at HG r0
   rw [hb] at HG r1
   rw [hd] at HG r2
   have i1 : ¬ (k : Int) < (ks.length : Int) := by omega
   have h20 : 1 ≤ o ∧ o ≤ 20 := by have := HOP.out; omega
   have HR := Lib.hid (show wr.cell? ⟨w.heap.size + 1, 0, none⟩ = some (.int .i64 a) ∧ wr.cell? ⟨w.heap.size + 1, 1, none⟩ = some (.int .i64 b) ∧ wr.cell? ⟨w.heap.size + 1, 2, none⟩ = some (.int .i64 d) from ⟨r0, r1, r2⟩)
   clear hke hkl hkl1 hkl2 ha hb hd hl3 HKL HQ2 HX1 HQ1 HIH HFAIL HGOOD HN0 HK
   have : o = 1 ∨ o = 2 ∨ o = 3 ∨ o = 4 ∨ o = 5 ∨ o = 6 ∨ o = 7 ∨ o = 8 ∨ o = 9 ∨ o = 10 ∨ o = 11 ∨ o = 12 ∨ o = 13 ∨ o = 14 ∨ o = 15 ∨ o = 16 ∨ o = 17 ∨ o = 18 ∨ o = 19 ∨ o = 20 := by omega
   clear h20 HOP hlt
   rcases this with rfl | rfl | rfl | rfl | rfl | rfl | rfl | rfl | rfl | rfl | rfl | rfl | rfl | rfl | rfl | rfl | rfl | rfl | rfl | rfl
   ·
    by_cases hf : findI n cs < cs.length
    ·
     have HX := Lib.hid (show E = endI ((cs.getD (findI n cs) ⟨n, 0⟩).k, 0) by rw [HG.out]; simp [kindO, hf])
     have hfm := (f_hit (n := n) (l := cs) rfl hf).2.2
     rw [hfm] at HFIND
     obtain ⟨i, hi⟩ : ∃ i, findI n cs = i := ⟨_, rfl⟩
     rw [hi] at hf HFIND HX
     have hge : cs.getD i ⟨n, 0⟩ = cs[i]'hf := by simp [List.getD, List.getElem?_eq_getElem hf]
     rw [hge] at HX
     unfold endI at HX
     dsimp only at HX
     obtain ⟨bc, oc, hcA, hbc, s0, s1⟩ := (HCC.out.below hbel) i hf
     have hbcw : bc < wr.heap.size := Nat.lt_of_lt_of_le hbc hbel.size
     subst hcA
     have j1 : (0 : Int) ≤ (i : Int) := by omega
     have j2 : (i : Int) < (cs.length : Int) := by omega
     have j3 : ¬ (i : Int) < 0 := by omega
     clear hfm hi hge hbc s0
     go_wp2_with (go_at_call 54; refine (HFIND.out _ HB0.out).mono ?_; rintro en w' ⟨rfl, rfl⟩)
     refine bodyPost_ret (by simp [results, Tryz.results42, go_sem]) rfl ⟨HX.out.symm, HB0.out⟩
    ·
     have HX := Lib.hid (show E = .returned (.tuple #[.int .i64 0, .int .i64 132]) by rw [HG.out]; simp [kindO, hf, endI])
     have hfm := (f_miss (n := n) (l := cs) (by have := findI_le n cs; omega)).2.2
     rw [hfm] at HFIND
     clear hf hfm
     go_wp2_with (go_at_call 54; refine (HFIND.out _ HB0.out).mono ?_; rintro en w' ⟨rfl, rfl⟩)
     refine bodyPost_ret (by simp [results, Tryz.results42, go_sem]) rfl ⟨HX.out.symm, HB0.out⟩
   ·
    have HX := Lib.hid (show E = .returned (.tuple #[.int .i64 (v.k), .int .i64 0]) by rw [HG.out]; rfl)
    go_wp2
    refine bodyPost_ret (by simp [results, Tryz.results42, go_sem]) rfl ⟨HX.out.symm, HB0.out⟩
   ·
    have HX := Lib.hid (show E = .returned (.tuple #[.int .i64 (wordK n.data.toList), .int .i64 0]) by rw [HG.out]; rfl)
    go_wp2_with (go_at_call 91; refine (HWD.out _).mono ?_; rintro en w' ⟨rfl, rfl⟩)
    refine bodyPost_ret (by simp [results, Tryz.results42, go_sem]) rfl ⟨HX.out.symm, HB0.out⟩
   ·
    by_cases c0 : a = 1
    ·
     by_cases c1 : b = 1
     ·
      have t0 : (a == 1) = true := by simpa using c0
      have t1 : (b == 1) = true := by simpa using c1
      have HX := Lib.hid (show E = .returned (.tuple #[.int .i64 (1), .int .i64 0]) by rw [HG.out]; simp [kindO, kindOp, endI, c0, c1])
      clear c0 c1
      go_wp2
      refine bodyPost_ret (by simp [results, Tryz.results42, go_sem]) rfl ⟨HX.out.symm, HB0.out⟩
     ·
      have t0 : (a == 1) = true := by simpa using c0
      have t1 : (b == 1) = false := by simpa using c1
      have HX := Lib.hid (show E = .returned (.tuple #[.int .i64 (0), .int .i64 133]) by rw [HG.out]; simp [kindO, kindOp, endI, c1])
      clear c0 c1
      go_wp2
      refine bodyPost_ret (by simp [results, Tryz.results42, go_sem]) rfl ⟨HX.out.symm, HB0.out⟩
    ·
     have t0 : (a == 1) = false := by simpa using c0
     have HX := Lib.hid (show E = .returned (.tuple #[.int .i64 (0), .int .i64 133]) by rw [HG.out]; simp [kindO, kindOp, endI, c0])
     clear c0
     go_wp2
     refine bodyPost_ret (by simp [results, Tryz.results42, go_sem]) rfl ⟨HX.out.symm, HB0.out⟩
   ·
    by_cases c0 : a = 1
    ·
     by_cases c1 : b = 1
     ·
      have t0 : (a == 1) = true := by simpa using c0
      have t1 : (b == 1) = true := by simpa using c1
      have HX := Lib.hid (show E = .returned (.tuple #[.int .i64 (1), .int .i64 0]) by rw [HG.out]; simp [kindO, kindOp, endI, c0, c1])
      clear c0 c1
      go_wp2
      refine bodyPost_ret (by simp [results, Tryz.results42, go_sem]) rfl ⟨HX.out.symm, HB0.out⟩
     ·
      have t0 : (a == 1) = true := by simpa using c0
      have t1 : (b == 1) = false := by simpa using c1
      have HX := Lib.hid (show E = .returned (.tuple #[.int .i64 (0), .int .i64 133]) by rw [HG.out]; simp [kindO, kindOp, endI, c1])
      clear c0 c1
      go_wp2
      refine bodyPost_ret (by simp [results, Tryz.results42, go_sem]) rfl ⟨HX.out.symm, HB0.out⟩
    ·
     have t0 : (a == 1) = false := by simpa using c0
     have HX := Lib.hid (show E = .returned (.tuple #[.int .i64 (0), .int .i64 133]) by rw [HG.out]; simp [kindO, kindOp, endI, c0])
     clear c0
     go_wp2
     refine bodyPost_ret (by simp [results, Tryz.results42, go_sem]) rfl ⟨HX.out.symm, HB0.out⟩
   ·
    by_cases c0 : a = 1
    ·
     by_cases c1 : b = 1
     ·
      have t0 : (a == 1) = true := by simpa using c0
      have t1 : (b == 1) = true := by simpa using c1
      have HX := Lib.hid (show E = .returned (.tuple #[.int .i64 (1), .int .i64 0]) by rw [HG.out]; simp [kindO, kindOp, endI, c0, c1])
      clear c0 c1
      go_wp2
      refine bodyPost_ret (by simp [results, Tryz.results42, go_sem]) rfl ⟨HX.out.symm, HB0.out⟩
     ·
      have t0 : (a == 1) = true := by simpa using c0
      have t1 : (b == 1) = false := by simpa using c1
      have HX := Lib.hid (show E = .returned (.tuple #[.int .i64 (0), .int .i64 133]) by rw [HG.out]; simp [kindO, kindOp, endI, c1])
      clear c0 c1
      go_wp2
      refine bodyPost_ret (by simp [results, Tryz.results42, go_sem]) rfl ⟨HX.out.symm, HB0.out⟩
    ·
     have t0 : (a == 1) = false := by simpa using c0
     have HX := Lib.hid (show E = .returned (.tuple #[.int .i64 (0), .int .i64 133]) by rw [HG.out]; simp [kindO, kindOp, endI, c0])
     clear c0
     go_wp2
     refine bodyPost_ret (by simp [results, Tryz.results42, go_sem]) rfl ⟨HX.out.symm, HB0.out⟩
   ·
    by_cases c0 : a = 1
    ·
     by_cases c1 : b = 1
     ·
      have t0 : (a == 1) = true := by simpa using c0
      have t1 : (b == 1) = true := by simpa using c1
      have HX := Lib.hid (show E = .returned (.tuple #[.int .i64 (1), .int .i64 0]) by rw [HG.out]; simp [kindO, kindOp, endI, c0, c1])
      clear c0 c1
      go_wp2
      refine bodyPost_ret (by simp [results, Tryz.results42, go_sem]) rfl ⟨HX.out.symm, HB0.out⟩
     ·
      have t0 : (a == 1) = true := by simpa using c0
      have t1 : (b == 1) = false := by simpa using c1
      have HX := Lib.hid (show E = .returned (.tuple #[.int .i64 (0), .int .i64 133]) by rw [HG.out]; simp [kindO, kindOp, endI, c1])
      clear c0 c1
      go_wp2
      refine bodyPost_ret (by simp [results, Tryz.results42, go_sem]) rfl ⟨HX.out.symm, HB0.out⟩
    ·
     have t0 : (a == 1) = false := by simpa using c0
     have HX := Lib.hid (show E = .returned (.tuple #[.int .i64 (0), .int .i64 133]) by rw [HG.out]; simp [kindO, kindOp, endI, c0])
     clear c0
     go_wp2
     refine bodyPost_ret (by simp [results, Tryz.results42, go_sem]) rfl ⟨HX.out.symm, HB0.out⟩
   ·
    by_cases c0 : a = 1
    ·
     by_cases c1 : b = 1
     ·
      have t0 : (a == 1) = true := by simpa using c0
      have t1 : (b == 1) = true := by simpa using c1
      have HX := Lib.hid (show E = .returned (.tuple #[.int .i64 (1), .int .i64 0]) by rw [HG.out]; simp [kindO, kindOp, endI, c0, c1])
      clear c0 c1
      go_wp2
      refine bodyPost_ret (by simp [results, Tryz.results42, go_sem]) rfl ⟨HX.out.symm, HB0.out⟩
     ·
      have t0 : (a == 1) = true := by simpa using c0
      have t1 : (b == 1) = false := by simpa using c1
      have HX := Lib.hid (show E = .returned (.tuple #[.int .i64 (0), .int .i64 133]) by rw [HG.out]; simp [kindO, kindOp, endI, c1])
      clear c0 c1
      go_wp2
      refine bodyPost_ret (by simp [results, Tryz.results42, go_sem]) rfl ⟨HX.out.symm, HB0.out⟩
    ·
     have t0 : (a == 1) = false := by simpa using c0
     have HX := Lib.hid (show E = .returned (.tuple #[.int .i64 (0), .int .i64 133]) by rw [HG.out]; simp [kindO, kindOp, endI, c0])
     clear c0
     go_wp2
     refine bodyPost_ret (by simp [results, Tryz.results42, go_sem]) rfl ⟨HX.out.symm, HB0.out⟩
   ·
    by_cases c0 : a = 1
    ·
     have t0 : (a == 1) = true := by simpa using c0
     have HX := Lib.hid (show E = .returned (.tuple #[.int .i64 (1), .int .i64 0]) by rw [HG.out]; simp [kindO, kindOp, endI, c0])
     clear c0
     go_wp2
     refine bodyPost_ret (by simp [results, Tryz.results42, go_sem]) rfl ⟨HX.out.symm, HB0.out⟩
    ·
     have t0 : (a == 1) = false := by simpa using c0
     have HX := Lib.hid (show E = .returned (.tuple #[.int .i64 (0), .int .i64 133]) by rw [HG.out]; simp [kindO, kindOp, endI, c0])
     clear c0
     go_wp2
     refine bodyPost_ret (by simp [results, Tryz.results42, go_sem]) rfl ⟨HX.out.symm, HB0.out⟩
   ·
    by_cases c0 : a = b
    ·
     have t0 : (a == b) = true := by simpa using c0
     have HX := Lib.hid (show E = .returned (.tuple #[.int .i64 (2), .int .i64 0]) by rw [HG.out]; simp [kindO, kindOp, endI, c0])
     clear c0
     go_wp2_with fail
     have hS : Hid (wr.drew.cell? ⟨w.heap.size + 1, 0, none⟩ = some (.int .i64 a) ∧ wr.drew.cell? ⟨w.heap.size + 1, 1, none⟩ = some (.int .i64 b) ∧ wr.drew.cell? ⟨w.heap.size + 1, 2, none⟩ = some (.int .i64 d)) ∧ Below w.heap.size w wr.drew := ⟨Lib.hid HR.out, HB0.out.drew⟩
     refine held_begin 7 (fun W => Hid (W.cell? ⟨w.heap.size + 1, 0, none⟩ = some (.int .i64 a) ∧ W.cell? ⟨w.heap.size + 1, 1, none⟩ = some (.int .i64 b) ∧ W.cell? ⟨w.heap.size + 1, 2, none⟩ = some (.int .i64 d)) ∧ Below w.heap.size w W) rfl (by kernel_rfl) ?_
     refine tkQ 0 88 ((.slice (some ⟨w.heap.size + 1, 0, none⟩) 3 3)) 6 rfl rfl (by kernel_rfl) (fun _ _ _ h => h) (.inl ⟨rfl, fun W hW => by simp [execOp, Act.eval, go_sem]⟩) hS ?_
     simp only [nA, nB, nC]
     refine tkQ 1 89 ((.pointer (some ⟨w.heap.size + 1, 0, none⟩))) 5 rfl rfl (by kernel_rfl) (fun _ _ _ h => h) (.inl ⟨rfl, fun W hW => by simp [execOp, Act.eval, go_sem]⟩) hS ?_
     simp only [nA, nB, nC]
     refine tkQ 2 90 ((.int .i64 a)) 4 rfl rfl (by kernel_rfl) (fun _ _ _ h => h) (.inl ⟨rfl, fun W hW => by simp [execOp, Act.eval, go_sem, hW.1.out.1]⟩) hS ?_
     simp only [nA, nB, nC]
     refine tkQ 3 91 ((.slice (some ⟨w.heap.size + 1, 0, none⟩) 3 3)) 3 rfl rfl (by kernel_rfl) (fun _ _ _ h => h) (.inl ⟨rfl, fun W hW => by simp [execOp, Act.eval, go_sem]⟩) hS ?_
     simp only [nA, nB, nC]
     refine tkQ 4 92 ((.pointer (some ⟨w.heap.size + 1, 1, none⟩))) 2 rfl rfl (by kernel_rfl) (fun _ _ _ h => h) (.inl ⟨rfl, fun W hW => by simp [execOp, Act.eval, go_sem]⟩) hS ?_
     simp only [nA, nB, nC]
     refine tkQ 5 93 ((.int .i64 b)) 1 rfl rfl (by kernel_rfl) (fun _ _ _ h => h) (.inl ⟨rfl, fun W hW => by simp [execOp, Act.eval, go_sem, hW.1.out.2.1]⟩) hS ?_
     simp only [nA, nB, nC]
     refine tkQ 6 94 ((.bool true)) 0 rfl rfl (by kernel_rfl) (fun _ _ _ h => h) (.inl ⟨rfl, fun W hW => by simp [execOp, Act.eval, go_sem, t0]⟩) hS ?_
     simp only [nA, nB, nC]
     refine wpAnyH_done (by kernel_rfl) ?_ 0
     go_wp2
     refine bodyPost_ret (by simp [results, Tryz.results42, go_sem]) rfl ⟨HX.out.symm, HB0.out.drew⟩
    ·
     have t0 : (a == b) = false := by simpa using c0
     have HX := Lib.hid (show E = .returned (.tuple #[.int .i64 (0), .int .i64 133]) by rw [HG.out]; simp [kindO, kindOp, endI, c0])
     clear c0
     go_wp2_with fail
     have hS : Hid (wr.drew.cell? ⟨w.heap.size + 1, 0, none⟩ = some (.int .i64 a) ∧ wr.drew.cell? ⟨w.heap.size + 1, 1, none⟩ = some (.int .i64 b) ∧ wr.drew.cell? ⟨w.heap.size + 1, 2, none⟩ = some (.int .i64 d)) ∧ Below w.heap.size w wr.drew := ⟨Lib.hid HR.out, HB0.out.drew⟩
     refine held_begin 7 (fun W => Hid (W.cell? ⟨w.heap.size + 1, 0, none⟩ = some (.int .i64 a) ∧ W.cell? ⟨w.heap.size + 1, 1, none⟩ = some (.int .i64 b) ∧ W.cell? ⟨w.heap.size + 1, 2, none⟩ = some (.int .i64 d)) ∧ Below w.heap.size w W) rfl (by kernel_rfl) ?_
     refine tkQ 0 88 ((.slice (some ⟨w.heap.size + 1, 0, none⟩) 3 3)) 6 rfl rfl (by kernel_rfl) (fun _ _ _ h => h) (.inl ⟨rfl, fun W hW => by simp [execOp, Act.eval, go_sem]⟩) hS ?_
     simp only [nA, nB, nC]
     refine tkQ 1 89 ((.pointer (some ⟨w.heap.size + 1, 0, none⟩))) 5 rfl rfl (by kernel_rfl) (fun _ _ _ h => h) (.inl ⟨rfl, fun W hW => by simp [execOp, Act.eval, go_sem]⟩) hS ?_
     simp only [nA, nB, nC]
     refine tkQ 2 90 ((.int .i64 a)) 4 rfl rfl (by kernel_rfl) (fun _ _ _ h => h) (.inl ⟨rfl, fun W hW => by simp [execOp, Act.eval, go_sem, hW.1.out.1]⟩) hS ?_
     simp only [nA, nB, nC]
     refine tkQ 3 91 ((.slice (some ⟨w.heap.size + 1, 0, none⟩) 3 3)) 3 rfl rfl (by kernel_rfl) (fun _ _ _ h => h) (.inl ⟨rfl, fun W hW => by simp [execOp, Act.eval, go_sem]⟩) hS ?_
     simp only [nA, nB, nC]
     refine tkQ 4 92 ((.pointer (some ⟨w.heap.size + 1, 1, none⟩))) 2 rfl rfl (by kernel_rfl) (fun _ _ _ h => h) (.inl ⟨rfl, fun W hW => by simp [execOp, Act.eval, go_sem]⟩) hS ?_
     simp only [nA, nB, nC]
     refine tkQ 5 93 ((.int .i64 b)) 1 rfl rfl (by kernel_rfl) (fun _ _ _ h => h) (.inl ⟨rfl, fun W hW => by simp [execOp, Act.eval, go_sem, hW.1.out.2.1]⟩) hS ?_
     simp only [nA, nB, nC]
     refine tkQ 6 94 ((.bool false)) 0 rfl rfl (by kernel_rfl) (fun _ _ _ h => h) (.inl ⟨rfl, fun W hW => by simp [execOp, Act.eval, go_sem, t0]⟩) hS ?_
     simp only [nA, nB, nC]
     refine wpAnyH_done (by kernel_rfl) ?_ 0
     go_wp2
     refine bodyPost_ret (by simp [results, Tryz.results42, go_sem]) rfl ⟨HX.out.symm, HB0.out.drew⟩
   ·
    by_cases c0 : a = b
    ·
     have t0 : (a == b) = true := by simpa using c0
     have HX := Lib.hid (show E = .returned (.tuple #[.int .i64 (2), .int .i64 0]) by rw [HG.out]; simp [kindO, kindOp, endI, c0])
     clear c0
     go_wp2_with fail
     have hS : Hid (wr.drew.cell? ⟨w.heap.size + 1, 0, none⟩ = some (.int .i64 a) ∧ wr.drew.cell? ⟨w.heap.size + 1, 1, none⟩ = some (.int .i64 b) ∧ wr.drew.cell? ⟨w.heap.size + 1, 2, none⟩ = some (.int .i64 d)) ∧ Below w.heap.size w wr.drew := ⟨Lib.hid HR.out, HB0.out.drew⟩
     refine held_begin 7 (fun W => Hid (W.cell? ⟨w.heap.size + 1, 0, none⟩ = some (.int .i64 a) ∧ W.cell? ⟨w.heap.size + 1, 1, none⟩ = some (.int .i64 b) ∧ W.cell? ⟨w.heap.size + 1, 2, none⟩ = some (.int .i64 d)) ∧ Below w.heap.size w W) rfl (by kernel_rfl) ?_
     refine tkQ 0 88 ((.slice (some ⟨w.heap.size + 1, 0, none⟩) 3 3)) 6 rfl rfl (by kernel_rfl) (fun _ _ _ h => h) (.inl ⟨rfl, fun W hW => by simp [execOp, Act.eval, go_sem]⟩) hS ?_
     simp only [nA, nB, nC]
     refine tkQ 1 89 ((.pointer (some ⟨w.heap.size + 1, 0, none⟩))) 5 rfl rfl (by kernel_rfl) (fun _ _ _ h => h) (.inl ⟨rfl, fun W hW => by simp [execOp, Act.eval, go_sem]⟩) hS ?_
     simp only [nA, nB, nC]
     refine tkQ 2 90 ((.int .i64 a)) 4 rfl rfl (by kernel_rfl) (fun _ _ _ h => h) (.inl ⟨rfl, fun W hW => by simp [execOp, Act.eval, go_sem, hW.1.out.1]⟩) hS ?_
     simp only [nA, nB, nC]
     refine tkQ 3 91 ((.slice (some ⟨w.heap.size + 1, 0, none⟩) 3 3)) 3 rfl rfl (by kernel_rfl) (fun _ _ _ h => h) (.inl ⟨rfl, fun W hW => by simp [execOp, Act.eval, go_sem]⟩) hS ?_
     simp only [nA, nB, nC]
     refine tkQ 4 92 ((.pointer (some ⟨w.heap.size + 1, 1, none⟩))) 2 rfl rfl (by kernel_rfl) (fun _ _ _ h => h) (.inl ⟨rfl, fun W hW => by simp [execOp, Act.eval, go_sem]⟩) hS ?_
     simp only [nA, nB, nC]
     refine tkQ 5 93 ((.int .i64 b)) 1 rfl rfl (by kernel_rfl) (fun _ _ _ h => h) (.inl ⟨rfl, fun W hW => by simp [execOp, Act.eval, go_sem, hW.1.out.2.1]⟩) hS ?_
     simp only [nA, nB, nC]
     refine tkQ 6 94 ((.bool true)) 0 rfl rfl (by kernel_rfl) (fun _ _ _ h => h) (.inl ⟨rfl, fun W hW => by simp [execOp, Act.eval, go_sem, t0]⟩) hS ?_
     simp only [nA, nB, nC]
     refine wpAnyH_done (by kernel_rfl) ?_ 0
     go_wp2
     refine bodyPost_ret (by simp [results, Tryz.results42, go_sem]) rfl ⟨HX.out.symm, HB0.out.drew⟩
    ·
     have t0 : (a == b) = false := by simpa using c0
     have HX := Lib.hid (show E = .returned (.tuple #[.int .i64 (0), .int .i64 133]) by rw [HG.out]; simp [kindO, kindOp, endI, c0])
     clear c0
     go_wp2_with fail
     have hS : Hid (wr.drew.cell? ⟨w.heap.size + 1, 0, none⟩ = some (.int .i64 a) ∧ wr.drew.cell? ⟨w.heap.size + 1, 1, none⟩ = some (.int .i64 b) ∧ wr.drew.cell? ⟨w.heap.size + 1, 2, none⟩ = some (.int .i64 d)) ∧ Below w.heap.size w wr.drew := ⟨Lib.hid HR.out, HB0.out.drew⟩
     refine held_begin 7 (fun W => Hid (W.cell? ⟨w.heap.size + 1, 0, none⟩ = some (.int .i64 a) ∧ W.cell? ⟨w.heap.size + 1, 1, none⟩ = some (.int .i64 b) ∧ W.cell? ⟨w.heap.size + 1, 2, none⟩ = some (.int .i64 d)) ∧ Below w.heap.size w W) rfl (by kernel_rfl) ?_
     refine tkQ 0 88 ((.slice (some ⟨w.heap.size + 1, 0, none⟩) 3 3)) 6 rfl rfl (by kernel_rfl) (fun _ _ _ h => h) (.inl ⟨rfl, fun W hW => by simp [execOp, Act.eval, go_sem]⟩) hS ?_
     simp only [nA, nB, nC]
     refine tkQ 1 89 ((.pointer (some ⟨w.heap.size + 1, 0, none⟩))) 5 rfl rfl (by kernel_rfl) (fun _ _ _ h => h) (.inl ⟨rfl, fun W hW => by simp [execOp, Act.eval, go_sem]⟩) hS ?_
     simp only [nA, nB, nC]
     refine tkQ 2 90 ((.int .i64 a)) 4 rfl rfl (by kernel_rfl) (fun _ _ _ h => h) (.inl ⟨rfl, fun W hW => by simp [execOp, Act.eval, go_sem, hW.1.out.1]⟩) hS ?_
     simp only [nA, nB, nC]
     refine tkQ 3 91 ((.slice (some ⟨w.heap.size + 1, 0, none⟩) 3 3)) 3 rfl rfl (by kernel_rfl) (fun _ _ _ h => h) (.inl ⟨rfl, fun W hW => by simp [execOp, Act.eval, go_sem]⟩) hS ?_
     simp only [nA, nB, nC]
     refine tkQ 4 92 ((.pointer (some ⟨w.heap.size + 1, 1, none⟩))) 2 rfl rfl (by kernel_rfl) (fun _ _ _ h => h) (.inl ⟨rfl, fun W hW => by simp [execOp, Act.eval, go_sem]⟩) hS ?_
     simp only [nA, nB, nC]
     refine tkQ 5 93 ((.int .i64 b)) 1 rfl rfl (by kernel_rfl) (fun _ _ _ h => h) (.inl ⟨rfl, fun W hW => by simp [execOp, Act.eval, go_sem, hW.1.out.2.1]⟩) hS ?_
     simp only [nA, nB, nC]
     refine tkQ 6 94 ((.bool false)) 0 rfl rfl (by kernel_rfl) (fun _ _ _ h => h) (.inl ⟨rfl, fun W hW => by simp [execOp, Act.eval, go_sem, t0]⟩) hS ?_
     simp only [nA, nB, nC]
     refine wpAnyH_done (by kernel_rfl) ?_ 0
     go_wp2
     refine bodyPost_ret (by simp [results, Tryz.results42, go_sem]) rfl ⟨HX.out.symm, HB0.out.drew⟩
   ·
    by_cases c0 : a = b
    ·
     have t0 : (a == b) = true := by simpa using c0
     have HX := Lib.hid (show E = .returned (.tuple #[.int .i64 (2), .int .i64 0]) by rw [HG.out]; simp [kindO, kindOp, endI, c0])
     clear c0
     go_wp2_with fail
     have hS : Hid (wr.drew.cell? ⟨w.heap.size + 1, 0, none⟩ = some (.int .i64 a) ∧ wr.drew.cell? ⟨w.heap.size + 1, 1, none⟩ = some (.int .i64 b) ∧ wr.drew.cell? ⟨w.heap.size + 1, 2, none⟩ = some (.int .i64 d)) ∧ Below w.heap.size w wr.drew := ⟨Lib.hid HR.out, HB0.out.drew⟩
     refine held_begin 7 (fun W => Hid (W.cell? ⟨w.heap.size + 1, 0, none⟩ = some (.int .i64 a) ∧ W.cell? ⟨w.heap.size + 1, 1, none⟩ = some (.int .i64 b) ∧ W.cell? ⟨w.heap.size + 1, 2, none⟩ = some (.int .i64 d)) ∧ Below w.heap.size w W) rfl (by kernel_rfl) ?_
     refine tkQ 0 88 ((.slice (some ⟨w.heap.size + 1, 0, none⟩) 3 3)) 6 rfl rfl (by kernel_rfl) (fun _ _ _ h => h) (.inl ⟨rfl, fun W hW => by simp [execOp, Act.eval, go_sem]⟩) hS ?_
     simp only [nA, nB, nC]
     refine tkQ 1 89 ((.pointer (some ⟨w.heap.size + 1, 0, none⟩))) 5 rfl rfl (by kernel_rfl) (fun _ _ _ h => h) (.inl ⟨rfl, fun W hW => by simp [execOp, Act.eval, go_sem]⟩) hS ?_
     simp only [nA, nB, nC]
     refine tkQ 2 90 ((.int .i64 a)) 4 rfl rfl (by kernel_rfl) (fun _ _ _ h => h) (.inl ⟨rfl, fun W hW => by simp [execOp, Act.eval, go_sem, hW.1.out.1]⟩) hS ?_
     simp only [nA, nB, nC]
     refine tkQ 3 91 ((.slice (some ⟨w.heap.size + 1, 0, none⟩) 3 3)) 3 rfl rfl (by kernel_rfl) (fun _ _ _ h => h) (.inl ⟨rfl, fun W hW => by simp [execOp, Act.eval, go_sem]⟩) hS ?_
     simp only [nA, nB, nC]
     refine tkQ 4 92 ((.pointer (some ⟨w.heap.size + 1, 1, none⟩))) 2 rfl rfl (by kernel_rfl) (fun _ _ _ h => h) (.inl ⟨rfl, fun W hW => by simp [execOp, Act.eval, go_sem]⟩) hS ?_
     simp only [nA, nB, nC]
     refine tkQ 5 93 ((.int .i64 b)) 1 rfl rfl (by kernel_rfl) (fun _ _ _ h => h) (.inl ⟨rfl, fun W hW => by simp [execOp, Act.eval, go_sem, hW.1.out.2.1]⟩) hS ?_
     simp only [nA, nB, nC]
     refine tkQ 6 94 ((.bool true)) 0 rfl rfl (by kernel_rfl) (fun _ _ _ h => h) (.inl ⟨rfl, fun W hW => by simp [execOp, Act.eval, go_sem, t0]⟩) hS ?_
     simp only [nA, nB, nC]
     refine wpAnyH_done (by kernel_rfl) ?_ 0
     go_wp2
     refine bodyPost_ret (by simp [results, Tryz.results42, go_sem]) rfl ⟨HX.out.symm, HB0.out.drew⟩
    ·
     have t0 : (a == b) = false := by simpa using c0
     have HX := Lib.hid (show E = .returned (.tuple #[.int .i64 (0), .int .i64 133]) by rw [HG.out]; simp [kindO, kindOp, endI, c0])
     clear c0
     go_wp2_with fail
     have hS : Hid (wr.drew.cell? ⟨w.heap.size + 1, 0, none⟩ = some (.int .i64 a) ∧ wr.drew.cell? ⟨w.heap.size + 1, 1, none⟩ = some (.int .i64 b) ∧ wr.drew.cell? ⟨w.heap.size + 1, 2, none⟩ = some (.int .i64 d)) ∧ Below w.heap.size w wr.drew := ⟨Lib.hid HR.out, HB0.out.drew⟩
     refine held_begin 7 (fun W => Hid (W.cell? ⟨w.heap.size + 1, 0, none⟩ = some (.int .i64 a) ∧ W.cell? ⟨w.heap.size + 1, 1, none⟩ = some (.int .i64 b) ∧ W.cell? ⟨w.heap.size + 1, 2, none⟩ = some (.int .i64 d)) ∧ Below w.heap.size w W) rfl (by kernel_rfl) ?_
     refine tkQ 0 88 ((.slice (some ⟨w.heap.size + 1, 0, none⟩) 3 3)) 6 rfl rfl (by kernel_rfl) (fun _ _ _ h => h) (.inl ⟨rfl, fun W hW => by simp [execOp, Act.eval, go_sem]⟩) hS ?_
     simp only [nA, nB, nC]
     refine tkQ 1 89 ((.pointer (some ⟨w.heap.size + 1, 0, none⟩))) 5 rfl rfl (by kernel_rfl) (fun _ _ _ h => h) (.inl ⟨rfl, fun W hW => by simp [execOp, Act.eval, go_sem]⟩) hS ?_
     simp only [nA, nB, nC]
     refine tkQ 2 90 ((.int .i64 a)) 4 rfl rfl (by kernel_rfl) (fun _ _ _ h => h) (.inl ⟨rfl, fun W hW => by simp [execOp, Act.eval, go_sem, hW.1.out.1]⟩) hS ?_
     simp only [nA, nB, nC]
     refine tkQ 3 91 ((.slice (some ⟨w.heap.size + 1, 0, none⟩) 3 3)) 3 rfl rfl (by kernel_rfl) (fun _ _ _ h => h) (.inl ⟨rfl, fun W hW => by simp [execOp, Act.eval, go_sem]⟩) hS ?_
     simp only [nA, nB, nC]
     refine tkQ 4 92 ((.pointer (some ⟨w.heap.size + 1, 1, none⟩))) 2 rfl rfl (by kernel_rfl) (fun _ _ _ h => h) (.inl ⟨rfl, fun W hW => by simp [execOp, Act.eval, go_sem]⟩) hS ?_
     simp only [nA, nB, nC]
     refine tkQ 5 93 ((.int .i64 b)) 1 rfl rfl (by kernel_rfl) (fun _ _ _ h => h) (.inl ⟨rfl, fun W hW => by simp [execOp, Act.eval, go_sem, hW.1.out.2.1]⟩) hS ?_
     simp only [nA, nB, nC]
     refine tkQ 6 94 ((.bool false)) 0 rfl rfl (by kernel_rfl) (fun _ _ _ h => h) (.inl ⟨rfl, fun W hW => by simp [execOp, Act.eval, go_sem, t0]⟩) hS ?_
     simp only [nA, nB, nC]
     refine wpAnyH_done (by kernel_rfl) ?_ 0
     go_wp2
     refine bodyPost_ret (by simp [results, Tryz.results42, go_sem]) rfl ⟨HX.out.symm, HB0.out.drew⟩
   ·
    by_cases c0 : a = b
    ·
     have t0 : (a == b) = true := by simpa using c0
     have HX := Lib.hid (show E = .returned (.tuple #[.int .i64 (2), .int .i64 0]) by rw [HG.out]; simp [kindO, kindOp, endI, c0])
     clear c0
     go_wp2_with fail
     have hS : Hid (wr.drew.cell? ⟨w.heap.size + 1, 0, none⟩ = some (.int .i64 a) ∧ wr.drew.cell? ⟨w.heap.size + 1, 1, none⟩ = some (.int .i64 b) ∧ wr.drew.cell? ⟨w.heap.size + 1, 2, none⟩ = some (.int .i64 d)) ∧ Below w.heap.size w wr.drew := ⟨Lib.hid HR.out, HB0.out.drew⟩
     refine held_begin 7 (fun W => Hid (W.cell? ⟨w.heap.size + 1, 0, none⟩ = some (.int .i64 a) ∧ W.cell? ⟨w.heap.size + 1, 1, none⟩ = some (.int .i64 b) ∧ W.cell? ⟨w.heap.size + 1, 2, none⟩ = some (.int .i64 d)) ∧ Below w.heap.size w W) rfl (by kernel_rfl) ?_
     refine tkQ 0 88 ((.slice (some ⟨w.heap.size + 1, 0, none⟩) 3 3)) 6 rfl rfl (by kernel_rfl) (fun _ _ _ h => h) (.inl ⟨rfl, fun W hW => by simp [execOp, Act.eval, go_sem]⟩) hS ?_
     simp only [nA, nB, nC]
     refine tkQ 1 89 ((.pointer (some ⟨w.heap.size + 1, 0, none⟩))) 5 rfl rfl (by kernel_rfl) (fun _ _ _ h => h) (.inl ⟨rfl, fun W hW => by simp [execOp, Act.eval, go_sem]⟩) hS ?_
     simp only [nA, nB, nC]
     refine tkQ 2 90 ((.int .i64 a)) 4 rfl rfl (by kernel_rfl) (fun _ _ _ h => h) (.inl ⟨rfl, fun W hW => by simp [execOp, Act.eval, go_sem, hW.1.out.1]⟩) hS ?_
     simp only [nA, nB, nC]
     refine tkQ 3 91 ((.slice (some ⟨w.heap.size + 1, 0, none⟩) 3 3)) 3 rfl rfl (by kernel_rfl) (fun _ _ _ h => h) (.inl ⟨rfl, fun W hW => by simp [execOp, Act.eval, go_sem]⟩) hS ?_
     simp only [nA, nB, nC]
     refine tkQ 4 92 ((.pointer (some ⟨w.heap.size + 1, 1, none⟩))) 2 rfl rfl (by kernel_rfl) (fun _ _ _ h => h) (.inl ⟨rfl, fun W hW => by simp [execOp, Act.eval, go_sem]⟩) hS ?_
     simp only [nA, nB, nC]
     refine tkQ 5 93 ((.int .i64 b)) 1 rfl rfl (by kernel_rfl) (fun _ _ _ h => h) (.inl ⟨rfl, fun W hW => by simp [execOp, Act.eval, go_sem, hW.1.out.2.1]⟩) hS ?_
     simp only [nA, nB, nC]
     refine tkQ 6 94 ((.bool true)) 0 rfl rfl (by kernel_rfl) (fun _ _ _ h => h) (.inl ⟨rfl, fun W hW => by simp [execOp, Act.eval, go_sem, t0]⟩) hS ?_
     simp only [nA, nB, nC]
     refine wpAnyH_done (by kernel_rfl) ?_ 0
     go_wp2
     refine bodyPost_ret (by simp [results, Tryz.results42, go_sem]) rfl ⟨HX.out.symm, HB0.out.drew⟩
    ·
     have t0 : (a == b) = false := by simpa using c0
     have HX := Lib.hid (show E = .returned (.tuple #[.int .i64 (0), .int .i64 133]) by rw [HG.out]; simp [kindO, kindOp, endI, c0])
     clear c0
     go_wp2_with fail
     have hS : Hid (wr.drew.cell? ⟨w.heap.size + 1, 0, none⟩ = some (.int .i64 a) ∧ wr.drew.cell? ⟨w.heap.size + 1, 1, none⟩ = some (.int .i64 b) ∧ wr.drew.cell? ⟨w.heap.size + 1, 2, none⟩ = some (.int .i64 d)) ∧ Below w.heap.size w wr.drew := ⟨Lib.hid HR.out, HB0.out.drew⟩
     refine held_begin 7 (fun W => Hid (W.cell? ⟨w.heap.size + 1, 0, none⟩ = some (.int .i64 a) ∧ W.cell? ⟨w.heap.size + 1, 1, none⟩ = some (.int .i64 b) ∧ W.cell? ⟨w.heap.size + 1, 2, none⟩ = some (.int .i64 d)) ∧ Below w.heap.size w W) rfl (by kernel_rfl) ?_
     refine tkQ 0 88 ((.slice (some ⟨w.heap.size + 1, 0, none⟩) 3 3)) 6 rfl rfl (by kernel_rfl) (fun _ _ _ h => h) (.inl ⟨rfl, fun W hW => by simp [execOp, Act.eval, go_sem]⟩) hS ?_
     simp only [nA, nB, nC]
     refine tkQ 1 89 ((.pointer (some ⟨w.heap.size + 1, 0, none⟩))) 5 rfl rfl (by kernel_rfl) (fun _ _ _ h => h) (.inl ⟨rfl, fun W hW => by simp [execOp, Act.eval, go_sem]⟩) hS ?_
     simp only [nA, nB, nC]
     refine tkQ 2 90 ((.int .i64 a)) 4 rfl rfl (by kernel_rfl) (fun _ _ _ h => h) (.inl ⟨rfl, fun W hW => by simp [execOp, Act.eval, go_sem, hW.1.out.1]⟩) hS ?_
     simp only [nA, nB, nC]
     refine tkQ 3 91 ((.slice (some ⟨w.heap.size + 1, 0, none⟩) 3 3)) 3 rfl rfl (by kernel_rfl) (fun _ _ _ h => h) (.inl ⟨rfl, fun W hW => by simp [execOp, Act.eval, go_sem]⟩) hS ?_
     simp only [nA, nB, nC]
     refine tkQ 4 92 ((.pointer (some ⟨w.heap.size + 1, 1, none⟩))) 2 rfl rfl (by kernel_rfl) (fun _ _ _ h => h) (.inl ⟨rfl, fun W hW => by simp [execOp, Act.eval, go_sem]⟩) hS ?_
     simp only [nA, nB, nC]
     refine tkQ 5 93 ((.int .i64 b)) 1 rfl rfl (by kernel_rfl) (fun _ _ _ h => h) (.inl ⟨rfl, fun W hW => by simp [execOp, Act.eval, go_sem, hW.1.out.2.1]⟩) hS ?_
     simp only [nA, nB, nC]
     refine tkQ 6 94 ((.bool false)) 0 rfl rfl (by kernel_rfl) (fun _ _ _ h => h) (.inl ⟨rfl, fun W hW => by simp [execOp, Act.eval, go_sem, t0]⟩) hS ?_
     simp only [nA, nB, nC]
     refine wpAnyH_done (by kernel_rfl) ?_ 0
     go_wp2
     refine bodyPost_ret (by simp [results, Tryz.results42, go_sem]) rfl ⟨HX.out.symm, HB0.out.drew⟩
   ·
    by_cases c0 : a = 2
    ·
     by_cases c1 : b = 2
     ·
      have t0 : (a == 2) = true := by simpa using c0
      have t1 : (b == 2) = true := by simpa using c1
      have HX := Lib.hid (show E = .returned (.tuple #[.int .i64 (2), .int .i64 0]) by rw [HG.out]; simp [kindO, kindOp, endI, c0, c1])
      clear c0 c1
      go_wp2
      refine bodyPost_ret (by simp [results, Tryz.results42, go_sem]) rfl ⟨HX.out.symm, HB0.out⟩
     ·
      have t0 : (a == 2) = true := by simpa using c0
      have t1 : (b == 2) = false := by simpa using c1
      have HX := Lib.hid (show E = .returned (.tuple #[.int .i64 (0), .int .i64 133]) by rw [HG.out]; simp [kindO, kindOp, endI, c1])
      clear c0 c1
      go_wp2
      refine bodyPost_ret (by simp [results, Tryz.results42, go_sem]) rfl ⟨HX.out.symm, HB0.out⟩
    ·
     have t0 : (a == 2) = false := by simpa using c0
     have HX := Lib.hid (show E = .returned (.tuple #[.int .i64 (0), .int .i64 133]) by rw [HG.out]; simp [kindO, kindOp, endI, c0])
     clear c0
     go_wp2
     refine bodyPost_ret (by simp [results, Tryz.results42, go_sem]) rfl ⟨HX.out.symm, HB0.out⟩
   ·
    by_cases c0 : a = 2
    ·
     by_cases c1 : b = 2
     ·
      have t0 : (a == 2) = true := by simpa using c0
      have t1 : (b == 2) = true := by simpa using c1
      have HX := Lib.hid (show E = .returned (.tuple #[.int .i64 (2), .int .i64 0]) by rw [HG.out]; simp [kindO, kindOp, endI, c0, c1])
      clear c0 c1
      go_wp2
      refine bodyPost_ret (by simp [results, Tryz.results42, go_sem]) rfl ⟨HX.out.symm, HB0.out⟩
     ·
      have t0 : (a == 2) = true := by simpa using c0
      have t1 : (b == 2) = false := by simpa using c1
      have HX := Lib.hid (show E = .returned (.tuple #[.int .i64 (0), .int .i64 133]) by rw [HG.out]; simp [kindO, kindOp, endI, c1])
      clear c0 c1
      go_wp2
      refine bodyPost_ret (by simp [results, Tryz.results42, go_sem]) rfl ⟨HX.out.symm, HB0.out⟩
    ·
     have t0 : (a == 2) = false := by simpa using c0
     have HX := Lib.hid (show E = .returned (.tuple #[.int .i64 (0), .int .i64 133]) by rw [HG.out]; simp [kindO, kindOp, endI, c0])
     clear c0
     go_wp2
     refine bodyPost_ret (by simp [results, Tryz.results42, go_sem]) rfl ⟨HX.out.symm, HB0.out⟩
   ·
    by_cases c0 : a = 2
    ·
     have t0 : (a == 2) = true := by simpa using c0
     have HX := Lib.hid (show E = .returned (.tuple #[.int .i64 (2), .int .i64 0]) by rw [HG.out]; simp [kindO, kindOp, endI, c0])
     clear c0
     go_wp2
     refine bodyPost_ret (by simp [results, Tryz.results42, go_sem]) rfl ⟨HX.out.symm, HB0.out⟩
    ·
     have t0 : (a == 2) = false := by simpa using c0
     have HX := Lib.hid (show E = .returned (.tuple #[.int .i64 (0), .int .i64 133]) by rw [HG.out]; simp [kindO, kindOp, endI, c0])
     clear c0
     go_wp2
     refine bodyPost_ret (by simp [results, Tryz.results42, go_sem]) rfl ⟨HX.out.symm, HB0.out⟩
   ·
    have HX := Lib.hid (show E = .returned (.tuple #[.int .i64 (2), .int .i64 0]) by rw [HG.out]; simp [kindO, kindOp, endI])
    go_wp2
    refine bodyPost_ret (by simp [results, Tryz.results42, go_sem]) rfl ⟨HX.out.symm, HB0.out⟩
   ·
    by_cases c0 : a = 2
    ·
     by_cases c1 : b = d
     ·
      have t0 : (a == 2) = true := by simpa using c0
      have t1 : (b == d) = true := by simpa using c1
      have HX := Lib.hid (show E = .returned (.tuple #[.int .i64 (b), .int .i64 0]) by rw [HG.out]; simp [kindO, kindOp, endI, c0, c1])
      clear c0 c1
      go_wp2_with fail
      have hS : Hid (wr.drew.cell? ⟨w.heap.size + 1, 0, none⟩ = some (.int .i64 a) ∧ wr.drew.cell? ⟨w.heap.size + 1, 1, none⟩ = some (.int .i64 b) ∧ wr.drew.cell? ⟨w.heap.size + 1, 2, none⟩ = some (.int .i64 d)) ∧ Below w.heap.size w wr.drew := ⟨Lib.hid HR.out, HB0.out.drew⟩
      refine held_begin 13 (fun W => Hid (W.cell? ⟨w.heap.size + 1, 0, none⟩ = some (.int .i64 a) ∧ W.cell? ⟨w.heap.size + 1, 1, none⟩ = some (.int .i64 b) ∧ W.cell? ⟨w.heap.size + 1, 2, none⟩ = some (.int .i64 d)) ∧ Below w.heap.size w W) rfl (by kernel_rfl) ?_
      refine tkQ 0 118 ((.slice (some ⟨w.heap.size + 1, 0, none⟩) 3 3)) 12 rfl rfl (by kernel_rfl) (fun _ _ _ h => h) (.inl ⟨rfl, fun W hW => by simp [execOp, Act.eval, go_sem]⟩) hS ?_
      simp only [nA, nB, nC]
      refine tkQ 1 119 ((.pointer (some ⟨w.heap.size + 1, 0, none⟩))) 11 rfl rfl (by kernel_rfl) (fun _ _ _ h => h) (.inl ⟨rfl, fun W hW => by simp [execOp, Act.eval, go_sem]⟩) hS ?_
      simp only [nA, nB, nC]
      refine tkQ 2 120 ((.int .i64 a)) 10 rfl rfl (by kernel_rfl) (fun _ _ _ h => h) (.inl ⟨rfl, fun W hW => by simp [execOp, Act.eval, go_sem, hW.1.out.1]⟩) hS ?_
      simp only [nA, nB, nC]
      refine tkQ 3 121 ((.bool true)) 9 rfl rfl (by kernel_rfl) (fun _ _ _ h => h) (.inl ⟨rfl, fun W hW => by simp [execOp, Act.eval, go_sem, t0]⟩) hS ?_
      simp only [nA, nB, nC]
      refine tkQ 4 122 ((.bool true)) 8 rfl rfl (by kernel_rfl) (fun _ _ _ h => h) (.inl ⟨rfl, fun W hW => by simp [execOp, Act.eval, go_sem]⟩) hS ?_
      simp only [nA, nB, nC]
      refine tkQ 5 123 ((.slice (some ⟨w.heap.size + 1, 0, none⟩) 3 3)) 7 rfl rfl (by kernel_rfl) (fun _ _ _ h => h) (.inl ⟨rfl, fun W hW => by simp [execOp, Act.eval, go_sem]⟩) hS ?_
      simp only [nA, nB, nC]
      refine tkQ 6 124 ((.pointer (some ⟨w.heap.size + 1, 1, none⟩))) 6 rfl rfl (by kernel_rfl) (fun _ _ _ h => h) (.inl ⟨rfl, fun W hW => by simp [execOp, Act.eval, go_sem]⟩) hS ?_
      simp only [nA, nB, nC]
      refine tkQ 7 125 ((.int .i64 b)) 5 rfl rfl (by kernel_rfl) (fun _ _ _ h => h) (.inl ⟨rfl, fun W hW => by simp [execOp, Act.eval, go_sem, hW.1.out.2.1]⟩) hS ?_
      simp only [nA, nB, nC]
      refine tkQ 8 126 ((.slice (some ⟨w.heap.size + 1, 0, none⟩) 3 3)) 4 rfl rfl (by kernel_rfl) (fun _ _ _ h => h) (.inl ⟨rfl, fun W hW => by simp [execOp, Act.eval, go_sem]⟩) hS ?_
      simp only [nA, nB, nC]
      refine tkQ 9 127 ((.pointer (some ⟨w.heap.size + 1, 2, none⟩))) 3 rfl rfl (by kernel_rfl) (fun _ _ _ h => h) (.inl ⟨rfl, fun W hW => by simp [execOp, Act.eval, go_sem]⟩) hS ?_
      simp only [nA, nB, nC]
      refine tkQ 10 128 ((.int .i64 d)) 2 rfl rfl (by kernel_rfl) (fun _ _ _ h => h) (.inl ⟨rfl, fun W hW => by simp [execOp, Act.eval, go_sem, hW.1.out.2.2]⟩) hS ?_
      simp only [nA, nB, nC]
      refine tkQ 11 129 ((.bool true)) 1 rfl rfl (by kernel_rfl) (fun _ _ _ h => h) (.inl ⟨rfl, fun W hW => by simp [execOp, Act.eval, go_sem, t1]⟩) hS ?_
      simp only [nA, nB, nC]
      refine tkQ 12 130 ((.bool true)) 0 rfl rfl (by kernel_rfl) (fun _ _ _ h => h) (.inl ⟨rfl, fun W hW => by simp [execOp, Act.eval, go_sem]⟩) hS ?_
      simp only [nA, nB, nC]
      refine wpAnyH_done (by kernel_rfl) ?_ 0
      go_wp2
      refine bodyPost_ret (by simp [results, Tryz.results42, go_sem]) rfl ⟨HX.out.symm, HB0.out.drew⟩
     ·
      have t0 : (a == 2) = true := by simpa using c0
      have t1 : (b == d) = false := by simpa using c1
      have HX := Lib.hid (show E = .returned (.tuple #[.int .i64 (0), .int .i64 133]) by rw [HG.out]; simp [kindO, kindOp, endI, c1])
      clear c0 c1
      go_wp2_with fail
      have hS : Hid (wr.drew.cell? ⟨w.heap.size + 1, 0, none⟩ = some (.int .i64 a) ∧ wr.drew.cell? ⟨w.heap.size + 1, 1, none⟩ = some (.int .i64 b) ∧ wr.drew.cell? ⟨w.heap.size + 1, 2, none⟩ = some (.int .i64 d)) ∧ Below w.heap.size w wr.drew := ⟨Lib.hid HR.out, HB0.out.drew⟩
      refine held_begin 13 (fun W => Hid (W.cell? ⟨w.heap.size + 1, 0, none⟩ = some (.int .i64 a) ∧ W.cell? ⟨w.heap.size + 1, 1, none⟩ = some (.int .i64 b) ∧ W.cell? ⟨w.heap.size + 1, 2, none⟩ = some (.int .i64 d)) ∧ Below w.heap.size w W) rfl (by kernel_rfl) ?_
      refine tkQ 0 118 ((.slice (some ⟨w.heap.size + 1, 0, none⟩) 3 3)) 12 rfl rfl (by kernel_rfl) (fun _ _ _ h => h) (.inl ⟨rfl, fun W hW => by simp [execOp, Act.eval, go_sem]⟩) hS ?_
      simp only [nA, nB, nC]
      refine tkQ 1 119 ((.pointer (some ⟨w.heap.size + 1, 0, none⟩))) 11 rfl rfl (by kernel_rfl) (fun _ _ _ h => h) (.inl ⟨rfl, fun W hW => by simp [execOp, Act.eval, go_sem]⟩) hS ?_
      simp only [nA, nB, nC]
      refine tkQ 2 120 ((.int .i64 a)) 10 rfl rfl (by kernel_rfl) (fun _ _ _ h => h) (.inl ⟨rfl, fun W hW => by simp [execOp, Act.eval, go_sem, hW.1.out.1]⟩) hS ?_
      simp only [nA, nB, nC]
      refine tkQ 3 121 ((.bool true)) 9 rfl rfl (by kernel_rfl) (fun _ _ _ h => h) (.inl ⟨rfl, fun W hW => by simp [execOp, Act.eval, go_sem, t0]⟩) hS ?_
      simp only [nA, nB, nC]
      refine tkQ 4 122 ((.bool true)) 8 rfl rfl (by kernel_rfl) (fun _ _ _ h => h) (.inl ⟨rfl, fun W hW => by simp [execOp, Act.eval, go_sem]⟩) hS ?_
      simp only [nA, nB, nC]
      refine tkQ 5 123 ((.slice (some ⟨w.heap.size + 1, 0, none⟩) 3 3)) 7 rfl rfl (by kernel_rfl) (fun _ _ _ h => h) (.inl ⟨rfl, fun W hW => by simp [execOp, Act.eval, go_sem]⟩) hS ?_
      simp only [nA, nB, nC]
      refine tkQ 6 124 ((.pointer (some ⟨w.heap.size + 1, 1, none⟩))) 6 rfl rfl (by kernel_rfl) (fun _ _ _ h => h) (.inl ⟨rfl, fun W hW => by simp [execOp, Act.eval, go_sem]⟩) hS ?_
      simp only [nA, nB, nC]
      refine tkQ 7 125 ((.int .i64 b)) 5 rfl rfl (by kernel_rfl) (fun _ _ _ h => h) (.inl ⟨rfl, fun W hW => by simp [execOp, Act.eval, go_sem, hW.1.out.2.1]⟩) hS ?_
      simp only [nA, nB, nC]
      refine tkQ 8 126 ((.slice (some ⟨w.heap.size + 1, 0, none⟩) 3 3)) 4 rfl rfl (by kernel_rfl) (fun _ _ _ h => h) (.inl ⟨rfl, fun W hW => by simp [execOp, Act.eval, go_sem]⟩) hS ?_
      simp only [nA, nB, nC]
      refine tkQ 9 127 ((.pointer (some ⟨w.heap.size + 1, 2, none⟩))) 3 rfl rfl (by kernel_rfl) (fun _ _ _ h => h) (.inl ⟨rfl, fun W hW => by simp [execOp, Act.eval, go_sem]⟩) hS ?_
      simp only [nA, nB, nC]
      refine tkQ 10 128 ((.int .i64 d)) 2 rfl rfl (by kernel_rfl) (fun _ _ _ h => h) (.inl ⟨rfl, fun W hW => by simp [execOp, Act.eval, go_sem, hW.1.out.2.2]⟩) hS ?_
      simp only [nA, nB, nC]
      refine tkQ 11 129 ((.bool false)) 1 rfl rfl (by kernel_rfl) (fun _ _ _ h => h) (.inl ⟨rfl, fun W hW => by simp [execOp, Act.eval, go_sem, t1]⟩) hS ?_
      simp only [nA, nB, nC]
      refine tkQ 12 130 ((.bool false)) 0 rfl rfl (by kernel_rfl) (fun _ _ _ h => h) (.inl ⟨rfl, fun W hW => by simp [execOp, Act.eval, go_sem]⟩) hS ?_
      simp only [nA, nB, nC]
      refine wpAnyH_done (by kernel_rfl) ?_ 0
      go_wp2
      refine bodyPost_ret (by simp [results, Tryz.results42, go_sem]) rfl ⟨HX.out.symm, HB0.out.drew⟩
    ·
     have t0 : (a == 2) = false := by simpa using c0
     have HX := Lib.hid (show E = .returned (.tuple #[.int .i64 (0), .int .i64 133]) by rw [HG.out]; simp [kindO, kindOp, endI, c0])
     clear c0
     go_wp2_with fail
     have hS : Hid (wr.drew.cell? ⟨w.heap.size + 1, 0, none⟩ = some (.int .i64 a) ∧ wr.drew.cell? ⟨w.heap.size + 1, 1, none⟩ = some (.int .i64 b) ∧ wr.drew.cell? ⟨w.heap.size + 1, 2, none⟩ = some (.int .i64 d)) ∧ Below w.heap.size w wr.drew := ⟨Lib.hid HR.out, HB0.out.drew⟩
     refine held_begin 13 (fun W => Hid (W.cell? ⟨w.heap.size + 1, 0, none⟩ = some (.int .i64 a) ∧ W.cell? ⟨w.heap.size + 1, 1, none⟩ = some (.int .i64 b) ∧ W.cell? ⟨w.heap.size + 1, 2, none⟩ = some (.int .i64 d)) ∧ Below w.heap.size w W) rfl (by kernel_rfl) ?_
     refine tkQ 0 118 ((.slice (some ⟨w.heap.size + 1, 0, none⟩) 3 3)) 12 rfl rfl (by kernel_rfl) (fun _ _ _ h => h) (.inl ⟨rfl, fun W hW => by simp [execOp, Act.eval, go_sem]⟩) hS ?_
     simp only [nA, nB, nC]
     refine tkQ 1 119 ((.pointer (some ⟨w.heap.size + 1, 0, none⟩))) 11 rfl rfl (by kernel_rfl) (fun _ _ _ h => h) (.inl ⟨rfl, fun W hW => by simp [execOp, Act.eval, go_sem]⟩) hS ?_
     simp only [nA, nB, nC]
     refine tkQ 2 120 ((.int .i64 a)) 10 rfl rfl (by kernel_rfl) (fun _ _ _ h => h) (.inl ⟨rfl, fun W hW => by simp [execOp, Act.eval, go_sem, hW.1.out.1]⟩) hS ?_
     simp only [nA, nB, nC]
     refine tkQ 3 121 ((.bool false)) 9 rfl rfl (by kernel_rfl) (fun _ _ _ h => h) (.inl ⟨rfl, fun W hW => by simp [execOp, Act.eval, go_sem, t0]⟩) hS ?_
     simp only [nA, nB, nC]
     refine tkQ 4 122 ((.bool false)) 8 rfl rfl (by kernel_rfl) (fun _ _ _ h => h) (.inl ⟨rfl, fun W hW => by simp [execOp, Act.eval, go_sem]⟩) hS ?_
     simp only [nA, nB, nC]
     refine tkQ 5 123 (undef) 7 rfl rfl (by kernel_rfl) (fun _ _ _ h => h) (.inr ⟨rfl, rfl⟩) hS ?_
     simp only [nA, nB, nC]
     refine tkQ 6 124 (undef) 6 rfl rfl (by kernel_rfl) (fun _ _ _ h => h) (.inr ⟨rfl, rfl⟩) hS ?_
     simp only [nA, nB, nC]
     refine tkQ 7 125 (undef) 5 rfl rfl (by kernel_rfl) (fun _ _ _ h => h) (.inr ⟨rfl, rfl⟩) hS ?_
     simp only [nA, nB, nC]
     refine tkQ 8 126 (undef) 4 rfl rfl (by kernel_rfl) (fun _ _ _ h => h) (.inr ⟨rfl, rfl⟩) hS ?_
     simp only [nA, nB, nC]
     refine tkQ 9 127 (undef) 3 rfl rfl (by kernel_rfl) (fun _ _ _ h => h) (.inr ⟨rfl, rfl⟩) hS ?_
     simp only [nA, nB, nC]
     refine tkQ 10 128 (undef) 2 rfl rfl (by kernel_rfl) (fun _ _ _ h => h) (.inr ⟨rfl, rfl⟩) hS ?_
     simp only [nA, nB, nC]
     refine tkQ 11 129 (undef) 1 rfl rfl (by kernel_rfl) (fun _ _ _ h => h) (.inr ⟨rfl, rfl⟩) hS ?_
     simp only [nA, nB, nC]
     refine tkQ 12 130 ((.bool false)) 0 rfl rfl (by kernel_rfl) (fun _ _ _ h => h) (.inl ⟨rfl, fun W hW => by simp [execOp, Act.eval, go_sem]⟩) hS ?_
     simp only [nA, nB, nC]
     refine wpAnyH_done (by kernel_rfl) ?_ 0
     go_wp2
     refine bodyPost_ret (by simp [results, Tryz.results42, go_sem]) rfl ⟨HX.out.symm, HB0.out.drew⟩
   ·
    by_cases c0 : a = b
    ·
     have t0 : (a == b) = true := by simpa using c0
     have HX := Lib.hid (show E = .returned (.tuple #[.int .i64 (a), .int .i64 0]) by rw [HG.out]; simp [kindO, kindOp, endI, c0])
     clear c0
     go_wp2_with fail
     have hS : Hid (wr.drew.cell? ⟨w.heap.size + 1, 0, none⟩ = some (.int .i64 a) ∧ wr.drew.cell? ⟨w.heap.size + 1, 1, none⟩ = some (.int .i64 b) ∧ wr.drew.cell? ⟨w.heap.size + 1, 2, none⟩ = some (.int .i64 d)) ∧ Below w.heap.size w wr.drew := ⟨Lib.hid HR.out, HB0.out.drew⟩
     refine held_begin 7 (fun W => Hid (W.cell? ⟨w.heap.size + 1, 0, none⟩ = some (.int .i64 a) ∧ W.cell? ⟨w.heap.size + 1, 1, none⟩ = some (.int .i64 b) ∧ W.cell? ⟨w.heap.size + 1, 2, none⟩ = some (.int .i64 d)) ∧ Below w.heap.size w W) rfl (by kernel_rfl) ?_
     refine tkQ 0 136 ((.slice (some ⟨w.heap.size + 1, 0, none⟩) 3 3)) 6 rfl rfl (by kernel_rfl) (fun _ _ _ h => h) (.inl ⟨rfl, fun W hW => by simp [execOp, Act.eval, go_sem]⟩) hS ?_
     simp only [nA, nB, nC]
     refine tkQ 1 137 ((.pointer (some ⟨w.heap.size + 1, 0, none⟩))) 5 rfl rfl (by kernel_rfl) (fun _ _ _ h => h) (.inl ⟨rfl, fun W hW => by simp [execOp, Act.eval, go_sem]⟩) hS ?_
     simp only [nA, nB, nC]
     refine tkQ 2 138 ((.int .i64 a)) 4 rfl rfl (by kernel_rfl) (fun _ _ _ h => h) (.inl ⟨rfl, fun W hW => by simp [execOp, Act.eval, go_sem, hW.1.out.1]⟩) hS ?_
     simp only [nA, nB, nC]
     refine tkQ 3 139 ((.slice (some ⟨w.heap.size + 1, 0, none⟩) 3 3)) 3 rfl rfl (by kernel_rfl) (fun _ _ _ h => h) (.inl ⟨rfl, fun W hW => by simp [execOp, Act.eval, go_sem]⟩) hS ?_
     simp only [nA, nB, nC]
     refine tkQ 4 140 ((.pointer (some ⟨w.heap.size + 1, 1, none⟩))) 2 rfl rfl (by kernel_rfl) (fun _ _ _ h => h) (.inl ⟨rfl, fun W hW => by simp [execOp, Act.eval, go_sem]⟩) hS ?_
     simp only [nA, nB, nC]
     refine tkQ 5 141 ((.int .i64 b)) 1 rfl rfl (by kernel_rfl) (fun _ _ _ h => h) (.inl ⟨rfl, fun W hW => by simp [execOp, Act.eval, go_sem, hW.1.out.2.1]⟩) hS ?_
     simp only [nA, nB, nC]
     refine tkQ 6 142 ((.bool true)) 0 rfl rfl (by kernel_rfl) (fun _ _ _ h => h) (.inl ⟨rfl, fun W hW => by simp [execOp, Act.eval, go_sem, t0]⟩) hS ?_
     simp only [nA, nB, nC]
     refine wpAnyH_done (by kernel_rfl) ?_ 0
     go_wp2
     refine bodyPost_ret (by simp [results, Tryz.results42, go_sem]) rfl ⟨HX.out.symm, HB0.out.drew⟩
    ·
     have t0 : (a == b) = false := by simpa using c0
     have HX := Lib.hid (show E = .returned (.tuple #[.int .i64 (0), .int .i64 133]) by rw [HG.out]; simp [kindO, kindOp, endI, c0])
     clear c0
     go_wp2_with fail
     have hS : Hid (wr.drew.cell? ⟨w.heap.size + 1, 0, none⟩ = some (.int .i64 a) ∧ wr.drew.cell? ⟨w.heap.size + 1, 1, none⟩ = some (.int .i64 b) ∧ wr.drew.cell? ⟨w.heap.size + 1, 2, none⟩ = some (.int .i64 d)) ∧ Below w.heap.size w wr.drew := ⟨Lib.hid HR.out, HB0.out.drew⟩
     refine held_begin 7 (fun W => Hid (W.cell? ⟨w.heap.size + 1, 0, none⟩ = some (.int .i64 a) ∧ W.cell? ⟨w.heap.size + 1, 1, none⟩ = some (.int .i64 b) ∧ W.cell? ⟨w.heap.size + 1, 2, none⟩ = some (.int .i64 d)) ∧ Below w.heap.size w W) rfl (by kernel_rfl) ?_
     refine tkQ 0 136 ((.slice (some ⟨w.heap.size + 1, 0, none⟩) 3 3)) 6 rfl rfl (by kernel_rfl) (fun _ _ _ h => h) (.inl ⟨rfl, fun W hW => by simp [execOp, Act.eval, go_sem]⟩) hS ?_
     simp only [nA, nB, nC]
     refine tkQ 1 137 ((.pointer (some ⟨w.heap.size + 1, 0, none⟩))) 5 rfl rfl (by kernel_rfl) (fun _ _ _ h => h) (.inl ⟨rfl, fun W hW => by simp [execOp, Act.eval, go_sem]⟩) hS ?_
     simp only [nA, nB, nC]
     refine tkQ 2 138 ((.int .i64 a)) 4 rfl rfl (by kernel_rfl) (fun _ _ _ h => h) (.inl ⟨rfl, fun W hW => by simp [execOp, Act.eval, go_sem, hW.1.out.1]⟩) hS ?_
     simp only [nA, nB, nC]
     refine tkQ 3 139 ((.slice (some ⟨w.heap.size + 1, 0, none⟩) 3 3)) 3 rfl rfl (by kernel_rfl) (fun _ _ _ h => h) (.inl ⟨rfl, fun W hW => by simp [execOp, Act.eval, go_sem]⟩) hS ?_
     simp only [nA, nB, nC]
     refine tkQ 4 140 ((.pointer (some ⟨w.heap.size + 1, 1, none⟩))) 2 rfl rfl (by kernel_rfl) (fun _ _ _ h => h) (.inl ⟨rfl, fun W hW => by simp [execOp, Act.eval, go_sem]⟩) hS ?_
     simp only [nA, nB, nC]
     refine tkQ 5 141 ((.int .i64 b)) 1 rfl rfl (by kernel_rfl) (fun _ _ _ h => h) (.inl ⟨rfl, fun W hW => by simp [execOp, Act.eval, go_sem, hW.1.out.2.1]⟩) hS ?_
     simp only [nA, nB, nC]
     refine tkQ 6 142 ((.bool false)) 0 rfl rfl (by kernel_rfl) (fun _ _ _ h => h) (.inl ⟨rfl, fun W hW => by simp [execOp, Act.eval, go_sem, t0]⟩) hS ?_
     simp only [nA, nB, nC]
     refine wpAnyH_done (by kernel_rfl) ?_ 0
     go_wp2
     refine bodyPost_ret (by simp [results, Tryz.results42, go_sem]) rfl ⟨HX.out.symm, HB0.out.drew⟩
   ·
    by_cases c0 : a = 3
    ·
     have t0 : (a == 3) = true := by simpa using c0
     have HX := Lib.hid (show E = .returned (.tuple #[.int .i64 (1), .int .i64 0]) by rw [HG.out]; simp [kindO, kindOp, endI, c0])
     clear c0
     go_wp2
     refine bodyPost_ret (by simp [results, Tryz.results42, go_sem]) rfl ⟨HX.out.symm, HB0.out⟩
    ·
     have t0 : (a == 3) = false := by simpa using c0
     have HX := Lib.hid (show E = .returned (.tuple #[.int .i64 (0), .int .i64 133]) by rw [HG.out]; simp [kindO, kindOp, endI, c0])
     clear c0
     go_wp2
     refine bodyPost_ret (by simp [results, Tryz.results42, go_sem]) rfl ⟨HX.out.symm, HB0.out⟩
end Go.Proofs.YtclcabdekeegdaaGreat
