/- Layer 13, walked: Eval of columns, literals, nulls (the reference). -/
import Derived.Test.YtclcabdekeegdaaGreatExEwW
namespace Go.Proofs.YtclcabdekeegdaaGreat
open Go.ChangeShapes Go.WideShapes Go.ChangeAt Go.RowKit
set_option linter.unusedVariables false
set_option linter.unusedSimpArgs false
section
variable (cs : List C) (row : List V) (cA : Option Addr) (cc : Nat) (rA : Option Addr) (rc : Nat)
set_option maxRecDepth 40000 in
theorem ev_lit (n : ByteArray) (v : V) (ks : List X) (A : Option Addr) (c : Nat) (w : World) :
  Calls Tryz.prog 47 #[eV 2 n v ks.length A c, .slice cA cs.length cc, .slice rA row.length rc] w fun en w' => en = endV (v, 0) ∧ Below w.heap.size w w' := by
 obtain ⟨W1, hW1⟩ : ∃ W1, (w.alloc ((X.mk 2 n v ks).obj A c)).alloc (.cells #[.int .i64 0, .int .i64 0, .string ⟨#[]⟩] 23) = W1 := ⟨_, rfl⟩
 have hfr : Fr 2 n v ks A c w.heap.size (w.heap.size + 1) zV w W1 := by rw [← hW1]; exact Fr.new 2 n v ks _ c w
 have HFR := Lib.hid hfr
 obtain ⟨p0, p1, p2, p3, p4, p5⟩ := obj_cells hfr.x
 simp only [X.op, X.nm, X.v, X.ks] at p0 p1 p2 p3 p4 p5
 have s0 := hfr.r.c0; have s1 := hfr.r.c1; have s2 := hfr.r.c2; have f0 := hfr.r.free 0; have f1 := hfr.r.free 1; have f2 := hfr.r.free 2
 have hbw := hfr.b.size
 clear hfr
 unfold X.obj at hW1
 simp only [X.op, X.nm, X.v, X.ks] at hW1
 unfold eV
 rw [endV_eq]
 dsimp only
 go_enter Tryz.func47, Tryz.ntmps47
 go_wp2
 exact bodyPost_ret (ret_two rfl (by rfl) (by rfl) (HFR.out.r.set v)) rfl ⟨rfl, set3_below HFR.out.b (Nat.le_succ _) _ _ _⟩
set_option maxRecDepth 40000 in
theorem ev_nulx (n : ByteArray) (v : V) (ks : List X) (A : Option Addr) (c : Nat) (w : World) :
  Calls Tryz.prog 47 #[eV 3 n v ks.length A c, .slice cA cs.length cc, .slice rA row.length rc] w fun en w' => en = endV (nulV, 0) ∧ Below w.heap.size w w' := by
 obtain ⟨W1, hW1⟩ : ∃ W1, (w.alloc ((X.mk 3 n v ks).obj A c)).alloc (.cells #[.int .i64 0, .int .i64 0, .string ⟨#[]⟩] 23) = W1 := ⟨_, rfl⟩
 have hfr : Fr 3 n v ks A c w.heap.size (w.heap.size + 1) zV w W1 := by rw [← hW1]; exact Fr.new 3 n v ks _ c w
 have HFR := Lib.hid hfr
 obtain ⟨p0, p1, p2, p3, p4, p5⟩ := obj_cells hfr.x
 simp only [X.op, X.nm, X.v, X.ks] at p0 p1 p2 p3 p4 p5
 have s0 := hfr.r.c0; have s1 := hfr.r.c1; have s2 := hfr.r.c2; have f0 := hfr.r.free 0; have f1 := hfr.r.free 1; have f2 := hfr.r.free 2
 have hbw := hfr.b.size
 clear hfr
 unfold X.obj at hW1
 simp only [X.op, X.nm, X.v, X.ks] at hW1
 unfold eV
 rw [endV_eq]
 dsimp only
 go_enter Tryz.func47, Tryz.ntmps47
 go_wp2
 exact bodyPost_ret (ret_two rfl (by rfl) (by rfl) (HFR.out.r.set nulV)) rfl ⟨rfl, set3_below HFR.out.b (Nat.le_succ _) _ _ _⟩
set_option maxHeartbeats 4000000 in
set_option maxRecDepth 40000 in
theorem ev_col (n : ByteArray) (v : V) (ks : List X) (A : Option Addr) (c : Nat) (w : World) (hf : findI n cs < cs.length) (hrl : row.length = cs.length) (hcl : cs.length ≤ maxLen) (hc : Row2 w w.heap.size cA cs) (hr : Row3 w w.heap.size rA row) :
  Calls Tryz.prog 47 #[eV 1 n v ks.length A c, .slice cA cs.length cc, .slice rA row.length rc] w fun en w' => en = endV (row.getD (findI n cs) nulV, 0) ∧ Below w.heap.size w w' := by
 have HFI := Lib.hid (fun (W : World) (hb : Below w.heap.size w W) => rfind_any cs n cs.length cc cA W rfl hcl ((hc.below hb).more hb.size))
 have hfm := (f_hit (n := n) (l := cs) rfl hf).2.2
 have hir : findI n cs < row.length := by omega
 have hge : row.getD (findI n cs) nulV = row[findI n cs]'hir := by simp [List.getD, List.getElem?_eq_getElem hir]
 rw [hge]
 obtain ⟨br, orr, hrA, hbr, r0, r1, r2⟩ := hr _ hir
 obtain ⟨i, hi⟩ : ∃ i, findI n cs = i := ⟨_, rfl⟩
 rw [hfm] at HFI
 simp only [hi] at HFI hir r0 r1 r2 ⊢
 obtain ⟨y, hy⟩ : ∃ y, row[i]'hir = y := ⟨_, rfl⟩
 rw [hy] at r0 r1 r2 ⊢
 subst hrA
 have HL := Lib.hid hcl
 have j1 : (0 : Int) ≤ (i : Int) := by omega
 have j2 : (i : Int) < (row.length : Int) := by omega
 obtain ⟨W1, hW1⟩ : ∃ W1, (w.alloc ((X.mk 1 n v ks).obj A c)).alloc (.cells #[.int .i64 0, .int .i64 0, .string ⟨#[]⟩] 23) = W1 := ⟨_, rfl⟩
 have hfr : Fr 1 n v ks A c w.heap.size (w.heap.size + 1) zV w W1 := by rw [← hW1]; exact Fr.new 1 n v ks _ c w
 have HFR := Lib.hid hfr
 obtain ⟨p0, p1, p2, p3, p4, p5⟩ := obj_cells hfr.x
 simp only [X.op, X.nm, X.v, X.ks] at p0 p1 p2 p3 p4 p5
 have s0 := hfr.r.c0; have s1 := hfr.r.c1; have s2 := hfr.r.c2; have f0 := hfr.r.free 0; have f1 := hfr.r.free 1; have f2 := hfr.r.free 2
 have hbw := hfr.b.size
 clear hfr
 unfold X.obj at hW1
 simp only [X.op, X.nm, X.v, X.ks] at hW1
 unfold eV
 rw [endV_eq]
 dsimp only
 have r0 := later_cell HFR.out.b r0
 have r1 := later_cell HFR.out.b r1
 have r2 := later_cell HFR.out.b r2
 have hbr1 : br < W1.heap.size := by omega
 clear hfm hi hge hy hc hr
 go_enter Tryz.func47, Tryz.ntmps47
 go_wp2_with (go_at_call 54; refine (HFI.out _ HFR.out.b).mono ?_; rintro en w' ⟨rfl, rfl⟩)
 exact bodyPost_ret (ret_two rfl (by rfl) (by rfl) (HFR.out.r.set y)) rfl ⟨rfl, set3_below HFR.out.b (Nat.le_succ _) _ _ _⟩
end
end Go.Proofs.YtclcabdekeegdaaGreat
