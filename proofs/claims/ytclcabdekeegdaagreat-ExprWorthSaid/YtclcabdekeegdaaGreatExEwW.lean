/- Layer 13, walked: Eval, orders and bools (the reference; wip/gen/XExEw.py). -/
import Derived.Test.YtclcabdekeegdaaGreatExEvW
namespace Go.Proofs.YtclcabdekeegdaaGreat
open Go.ChangeShapes Go.WideShapes Go.ChangeAt Go.RowKit
set_option linter.unusedVariables false
set_option linter.unusedSimpArgs false
section
variable (cs : List C) (row : List V) (cA : Option Addr) (cc : Nat) (rA : Option Addr) (rc : Nat)
set_option maxHeartbeats 8000000 in
set_option maxRecDepth 40000 in
theorem ev_cmp (o : Int) (n : ByteArray) (v : V) (ks : List X) (hl : 2 ≤ ks.length) (A : Option Addr) (c : Nat) (w : World) (hk : KidsAt w w.heap.size (.mk o n v ks) A c)
  (r0 : V × Int) (hx0 : ∀ A2 c2, KidsAt w w.heap.size (ks[0]'(by omega)) A2 c2 → EK cs row cA cc rA rc w (ks[0]'(by omega)) A2 c2 r0)
  (r1 : V × Int) (hx1 : ∀ A2 c2, KidsAt w w.heap.size (ks[1]'(by omega)) A2 c2 → EK cs row cA cc rA rc w (ks[1]'(by omega)) A2 c2 r1)
  (ho : 10 ≤ o ∧ o ≤ 13) (he : r0.2 = 0) (he1 : r1.2 = 0) (hw : r0.1.wf) (hw1 : r1.1.wf) :
  Calls Tryz.prog 47 #[eV o n v ks.length A c, .slice cA cs.length cc, .slice rA row.length rc] w fun en w' => en = endV ((if r0.1.k = 0 ∨ r1.1.k = 0 then nulV else boolW (cmpG o (cmpV r0.1 r1.1))), 0) ∧ Below w.heap.size w w' := by
 obtain ⟨bk, off, rfl⟩ := kid_some hk (by omega)
 obtain ⟨A0, c0, hk0, kc0, hbk⟩ := kid_at hk 0 (by omega)
 have HC0 := Lib.hid (hx0 A0 c0 hk0)
 obtain ⟨x0, hxx0⟩ : ∃ x, ks[0]'(by omega) = x := ⟨_, rfl⟩
 rw [hxx0] at kc0 HC0
 have HK0 := Lib.hid (fun (W : World) (h : Below w.heap.size w W) => kc0.below h)
 unfold EK at HC0
 obtain ⟨A1, c1, hk1, kc1, hbk⟩ := kid_at hk 1 (by omega)
 have HC1 := Lib.hid (hx1 A1 c1 hk1)
 obtain ⟨x1, hxx1⟩ : ∃ x, ks[1]'(by omega) = x := ⟨_, rfl⟩
 rw [hxx1] at kc1 HC1
 have HK1 := Lib.hid (fun (W : World) (h : Below w.heap.size w W) => kc1.below h)
 unfold EK at HC1
 obtain ⟨W1, hW1⟩ : ∃ W1, (w.alloc ((X.mk o n v ks).obj (some ⟨bk, off, none⟩) c)).alloc (.cells #[.int .i64 0, .int .i64 0, .string ⟨#[]⟩] 23) = W1 := ⟨_, rfl⟩
 have hfr : Fr o n v ks (some ⟨bk, off, none⟩) c w.heap.size (w.heap.size + 1) zV w W1 := by rw [← hW1]; exact Fr.new o n v ks _ c w
 have HFR := Lib.hid hfr
 have hbw := hfr.b.size
 obtain ⟨p0, p1, p2, p3, p4, p5⟩ := obj_cells hfr.x
 simp only [X.op, X.nm, X.v, X.ks] at p0 p1 p2 p3 p4 p5
 obtain ⟨a0, a1, a2, a3, a4, a5⟩ := HK0.out _ hfr.b
 simp only [Nat.zero_mul, Nat.add_zero] at a0 a1 a2 a3 a4 a5
 have i1 : (0 : Int) < (ks.length : Int) := by omega
 have hnil : ¬ ks = [] := by rintro rfl; simp at hl
 have i2 : (1 : Int) < (ks.length : Int) := by omega
 clear hk hfr hx0 hk0 kc0 hxx0 hx1 hk1 kc1 hxx1
 unfold X.obj at hW1
 simp only [X.op, X.nm, X.v, X.ks] at hW1
 unfold eV
 rw [endV_eq]
 simp only [endV_eq] at HC0
 simp only [endV_eq] at HC1
 obtain ⟨a, er⟩ := r0
 obtain ⟨z, er1⟩ := r1
 dsimp only at HC0 HC1 he he1 hw hw1 ⊢
 subst he he1
 have b0 : ¬ o ≤ 8 := by omega
 have b1 : (o == 1) = false := by simp; omega
 have b2 : (o == 2) = false := by simp; omega
 have b3 : (o == 3) = false := by simp; omega
 have b9 : (o == 9) = false := by simp; omega
 have b14 : (o == 14) = false := by simp; omega
 have b15 : (o == 15) = false := by simp; omega
 have b16 : (o == 16) = false := by simp; omega
 have b17 : (o == 17) = false := by simp; omega
 have b18 : (o == 18) = false := by simp; omega
 have b19 : (o == 19) = false := by simp; omega
 have b20 : (o == 20) = false := by simp; omega
 by_cases hz : a.k = 0
 ·
  rw [if_pos (.inl hz)]
  have q1 : (a.k == 0) = true := by simpa using hz
  clear hz ho
  have TOK : Hid True := Lib.hid trivial
  go_enter Tryz.func47, Tryz.ntmps47
  go_wp2_with (first
   | (have T1 := TOK; clear TOK; go_at_call 47; refine (HC0.out _ HFR.out.b).mono ?_; rintro e w2 ⟨rfl, hb2⟩; have HB2 := Lib.hid (HFR.out.below hb2); have s0 := HB2.out.r.c0; have s1 := HB2.out.r.c1; have s2 := HB2.out.r.c2; have f0 := HB2.out.r.free 0; have f1 := HB2.out.r.free 1; have f2 := HB2.out.r.free 2; have hlt := HB2.out.r.lt; clear p0 p1 p2 p3 p4 p5; obtain ⟨p0, p1, p2, p3, p4, p5⟩ := obj_cells HB2.out.x; simp only [X.op, X.nm, X.v, X.ks] at p0 p1 p2 p3 p4 p5; have hlx := lt_of_heap HB2.out.x; clear hb2; obtain ⟨d0, d1, d2, d3, d4, d5⟩ := HK1.out _ HB2.out.b; simp only [Nat.one_mul, Nat.reduceMul, Nat.add_assoc, Nat.reduceAdd] at d0 d1 d2 d3 d4 d5; have hbk2 : bk < w2.heap.size := Nat.lt_of_lt_of_le hbk HB2.out.b.size)
   | (have T2 := T1; clear T1; go_at_call 47; refine (HC1.out _ (HB2.out.b.alloc HB2.out.b.size _)).mono ?_; rintro e w4 ⟨rfl, hb4⟩; have HB4 := Lib.hid ((HB2.out.below ((Below.refl _ _).alloc (Nat.le_refl _) _)).below hb4); have HA4 := Lib.hid ((Box3.new w2 a).below hb4); clear s0 s1 s2 f0 f1 f2; have s0 := HB4.out.r.c0; have s1 := HB4.out.r.c1; have s2 := HB4.out.r.c2; have f0 := HB4.out.r.free 0; have f1 := HB4.out.r.free 1; have f2 := HB4.out.r.free 2; have hlt4 := HB4.out.r.lt; clear p0 p1 p2 p3 p4 p5; obtain ⟨p0, p1, p2, p3, p4, p5⟩ := obj_cells HB4.out.x; simp only [X.op, X.nm, X.v, X.ks] at p0 p1 p2 p3 p4 p5; have hlx := lt_of_heap HB4.out.x; have e0 := HA4.out.c0; have e1 := HA4.out.c1; have e2 := HA4.out.c2; have hle := HA4.out.lt; clear hb4))
  obtain ⟨U, hU⟩ : ∃ q, w4.alloc (.cells #[.int .i64 z.k, .int .i64 z.n, .string z.s] 23) = q := ⟨_, rfl⟩
  have hZ : Box3 U w4.heap.size (z) := by rw [← hU]; exact Box3.new w4 (z)
  have hA : Box3 U w2.heap.size (a) := by rw [← hU]; exact HA4.out.below ((Below.refl _ _).alloc (Nat.le_refl _) _)
  have hF : Fr o n v ks (some ⟨bk, off, none⟩) c w.heap.size (w.heap.size + 1) zV w U := by rw [← hU]; exact HB4.out.below ((Below.refl _ _).alloc (Nat.le_refl _) _)
  rw [hU]
  clear hU p0 p1 p2 p3 p4 p5 s0 s1 s2 f0 f1 f2 e0 e1 e2
  have hS : (Box3 U.drew w2.heap.size (a) ∧ Box3 U.drew w4.heap.size (z)) ∧ Fr o n v ks (some ⟨bk, off, none⟩) c w.heap.size (w.heap.size + 1) zV w U.drew := ⟨⟨hA, hZ⟩, hF.drew⟩
  refine held_begin 18 (fun W => (Box3 W w2.heap.size (a) ∧ Box3 W w4.heap.size (z)) ∧ Fr o n v ks (some ⟨bk, off, none⟩) c w.heap.size (w.heap.size + 1) zV w W) rfl (by kernel_rfl) ?_
  obtain ⟨Ud, hUd⟩ : ∃ q, U.drew = q := ⟨_, rfl⟩
  rw [hUd] at hS ⊢
  clear hUd
  refine tkQ 0 153 ((.pointer (some ⟨w.heap.size, 0, none⟩))) 17 rfl rfl (by kernel_rfl) (fun _ _ _ h => h) (.inl ⟨rfl, fun W hW => by simp [execOp, Act.eval, go_sem]⟩) hS ?_
  simp only [nA, nB, nC]
  refine tkQ 1 154 ((.int .i64 o)) 16 rfl rfl (by kernel_rfl) (fun _ _ _ h => h) (.inl ⟨rfl, fun W hW => by simp [execOp, Act.eval, go_sem, (obj_cells hW.2.x).1, X.op]⟩) hS ?_
  simp only [nA, nB, nC]
  refine tkQ 2 155 ((.bool false)) 15 rfl rfl (by kernel_rfl) (fun _ _ _ h => h) (.inl ⟨rfl, fun W hW => by simp [execOp, Act.eval, go_sem, b14]⟩) hS ?_
  simp only [nA, nB, nC]
  refine tkQ 3 156 ((.bool false)) 14 rfl rfl (by kernel_rfl) (fun _ _ _ h => h) (.inl ⟨rfl, fun W hW => by simp [execOp, Act.eval, go_sem]⟩) hS ?_
  simp only [nA, nB, nC]
  refine tkQ 4 157 (undef) 13 rfl rfl (by kernel_rfl) (fun _ _ _ h => h) (.inr ⟨rfl, rfl⟩) hS ?_
  simp only [nA, nB, nC]
  refine tkQ 5 158 (undef) 12 rfl rfl (by kernel_rfl) (fun _ _ _ h => h) (.inr ⟨rfl, rfl⟩) hS ?_
  simp only [nA, nB, nC]
  refine tkQ 6 159 (undef) 11 rfl rfl (by kernel_rfl) (fun _ _ _ h => h) (.inr ⟨rfl, rfl⟩) hS ?_
  simp only [nA, nB, nC]
  refine tkQ 7 160 ((.bool false)) 10 rfl rfl (by kernel_rfl) (fun _ _ _ h => h) (.inl ⟨rfl, fun W hW => by simp [execOp, Act.eval, go_sem]⟩) hS ?_
  simp only [nA, nB, nC]
  refine tkQ 8 161 ((.bool false)) 9 rfl rfl (by kernel_rfl) (fun _ _ _ h => h) (.inl ⟨rfl, fun W hW => by simp [execOp, Act.eval, go_sem]⟩) hS ?_
  simp only [nA, nB, nC]
  refine tkQ 9 162 ((.pointer (some ⟨w.heap.size, 0, none⟩))) 8 rfl rfl (by kernel_rfl) (fun _ _ _ h => h) (.inl ⟨rfl, fun W hW => by simp [execOp, Act.eval, go_sem]⟩) hS ?_
  simp only [nA, nB, nC]
  refine tkQ 10 163 ((.int .i64 o)) 7 rfl rfl (by kernel_rfl) (fun _ _ _ h => h) (.inl ⟨rfl, fun W hW => by simp [execOp, Act.eval, go_sem, (obj_cells hW.2.x).1, X.op]⟩) hS ?_
  simp only [nA, nB, nC]
  refine tkQ 11 164 ((.bool false)) 6 rfl rfl (by kernel_rfl) (fun _ _ _ h => h) (.inl ⟨rfl, fun W hW => by simp [execOp, Act.eval, go_sem, b15]⟩) hS ?_
  simp only [nA, nB, nC]
  refine tkQ 12 165 ((.bool false)) 5 rfl rfl (by kernel_rfl) (fun _ _ _ h => h) (.inl ⟨rfl, fun W hW => by simp [execOp, Act.eval, go_sem]⟩) hS ?_
  simp only [nA, nB, nC]
  refine tkQ 13 166 (undef) 4 rfl rfl (by kernel_rfl) (fun _ _ _ h => h) (.inr ⟨rfl, rfl⟩) hS ?_
  simp only [nA, nB, nC]
  refine tkQ 14 167 (undef) 3 rfl rfl (by kernel_rfl) (fun _ _ _ h => h) (.inr ⟨rfl, rfl⟩) hS ?_
  simp only [nA, nB, nC]
  refine tkQ 15 168 (undef) 2 rfl rfl (by kernel_rfl) (fun _ _ _ h => h) (.inr ⟨rfl, rfl⟩) hS ?_
  simp only [nA, nB, nC]
  refine tkQ 16 169 ((.bool false)) 1 rfl rfl (by kernel_rfl) (fun _ _ _ h => h) (.inl ⟨rfl, fun W hW => by simp [execOp, Act.eval, go_sem]⟩) hS ?_
  simp only [nA, nB, nC]
  refine tkQ 17 170 ((.bool false)) 0 rfl rfl (by kernel_rfl) (fun _ _ _ h => h) (.inl ⟨rfl, fun W hW => by simp [execOp, Act.eval, go_sem]⟩) hS ?_
  simp only [nA, nB, nC]
  refine wpAnyH_done (by kernel_rfl) ?_ 0
  have HB6 := Lib.hid hS.2
  have HA6 := Lib.hid hS.1
  clear hS hA hZ hF
  have s0 := HB6.out.r.c0
  have s1 := HB6.out.r.c1
  have s2 := HB6.out.r.c2
  have f0 := HB6.out.r.free 0
  have f1 := HB6.out.r.free 1
  have f2 := HB6.out.r.free 2
  have hlt6 := HB6.out.r.lt
  obtain ⟨p0, p1, p2, p3, p4, p5⟩ := obj_cells HB6.out.x
  simp only [X.op, X.nm, X.v, X.ks] at p0 p1 p2 p3 p4 p5
  have hlx6 := lt_of_heap HB6.out.x
  have e0 := HA6.out.1.c0; have e1 := HA6.out.1.c1; have e2 := HA6.out.1.c2; have hle6 := HA6.out.1.lt
  have g0 := HA6.out.2.c0; have g1 := HA6.out.2.c1; have g2 := HA6.out.2.c2; have hlg6 := HA6.out.2.lt
  go_wp2
  exact bodyPost_ret (ret_two rfl (by rfl) (by rfl) (HB6.out.r.set nulV)) rfl ⟨rfl, set3_below HB6.out.b (Nat.le_succ _) _ _ _⟩
 ·
  have q1 : (a.k == 0) = false := by simpa using hz
  by_cases hz2 : z.k = 0
  ·
   rw [if_pos (.inr hz2)]
   have q2 : (z.k == 0) = true := by simpa using hz2
   clear hz hz2 ho
   have TOK : Hid True := Lib.hid trivial
   go_enter Tryz.func47, Tryz.ntmps47
   go_wp2_with (first
    | (have T1 := TOK; clear TOK; go_at_call 47; refine (HC0.out _ HFR.out.b).mono ?_; rintro e w2 ⟨rfl, hb2⟩; have HB2 := Lib.hid (HFR.out.below hb2); have s0 := HB2.out.r.c0; have s1 := HB2.out.r.c1; have s2 := HB2.out.r.c2; have f0 := HB2.out.r.free 0; have f1 := HB2.out.r.free 1; have f2 := HB2.out.r.free 2; have hlt := HB2.out.r.lt; clear p0 p1 p2 p3 p4 p5; obtain ⟨p0, p1, p2, p3, p4, p5⟩ := obj_cells HB2.out.x; simp only [X.op, X.nm, X.v, X.ks] at p0 p1 p2 p3 p4 p5; have hlx := lt_of_heap HB2.out.x; clear hb2; obtain ⟨d0, d1, d2, d3, d4, d5⟩ := HK1.out _ HB2.out.b; simp only [Nat.one_mul, Nat.reduceMul, Nat.add_assoc, Nat.reduceAdd] at d0 d1 d2 d3 d4 d5; have hbk2 : bk < w2.heap.size := Nat.lt_of_lt_of_le hbk HB2.out.b.size)
    | (have T2 := T1; clear T1; go_at_call 47; refine (HC1.out _ (HB2.out.b.alloc HB2.out.b.size _)).mono ?_; rintro e w4 ⟨rfl, hb4⟩; have HB4 := Lib.hid ((HB2.out.below ((Below.refl _ _).alloc (Nat.le_refl _) _)).below hb4); have HA4 := Lib.hid ((Box3.new w2 a).below hb4); clear s0 s1 s2 f0 f1 f2; have s0 := HB4.out.r.c0; have s1 := HB4.out.r.c1; have s2 := HB4.out.r.c2; have f0 := HB4.out.r.free 0; have f1 := HB4.out.r.free 1; have f2 := HB4.out.r.free 2; have hlt4 := HB4.out.r.lt; clear p0 p1 p2 p3 p4 p5; obtain ⟨p0, p1, p2, p3, p4, p5⟩ := obj_cells HB4.out.x; simp only [X.op, X.nm, X.v, X.ks] at p0 p1 p2 p3 p4 p5; have hlx := lt_of_heap HB4.out.x; have e0 := HA4.out.c0; have e1 := HA4.out.c1; have e2 := HA4.out.c2; have hle := HA4.out.lt; clear hb4))
   obtain ⟨U, hU⟩ : ∃ q, w4.alloc (.cells #[.int .i64 z.k, .int .i64 z.n, .string z.s] 23) = q := ⟨_, rfl⟩
   have hZ : Box3 U w4.heap.size (z) := by rw [← hU]; exact Box3.new w4 (z)
   have hA : Box3 U w2.heap.size (a) := by rw [← hU]; exact HA4.out.below ((Below.refl _ _).alloc (Nat.le_refl _) _)
   have hF : Fr o n v ks (some ⟨bk, off, none⟩) c w.heap.size (w.heap.size + 1) zV w U := by rw [← hU]; exact HB4.out.below ((Below.refl _ _).alloc (Nat.le_refl _) _)
   rw [hU]
   clear hU p0 p1 p2 p3 p4 p5 s0 s1 s2 f0 f1 f2 e0 e1 e2
   have hS : (Box3 U.drew w2.heap.size (a) ∧ Box3 U.drew w4.heap.size (z)) ∧ Fr o n v ks (some ⟨bk, off, none⟩) c w.heap.size (w.heap.size + 1) zV w U.drew := ⟨⟨hA, hZ⟩, hF.drew⟩
   refine held_begin 18 (fun W => (Box3 W w2.heap.size (a) ∧ Box3 W w4.heap.size (z)) ∧ Fr o n v ks (some ⟨bk, off, none⟩) c w.heap.size (w.heap.size + 1) zV w W) rfl (by kernel_rfl) ?_
   obtain ⟨Ud, hUd⟩ : ∃ q, U.drew = q := ⟨_, rfl⟩
   rw [hUd] at hS ⊢
   clear hUd
   refine tkQ 0 153 ((.pointer (some ⟨w.heap.size, 0, none⟩))) 17 rfl rfl (by kernel_rfl) (fun _ _ _ h => h) (.inl ⟨rfl, fun W hW => by simp [execOp, Act.eval, go_sem]⟩) hS ?_
   simp only [nA, nB, nC]
   refine tkQ 1 154 ((.int .i64 o)) 16 rfl rfl (by kernel_rfl) (fun _ _ _ h => h) (.inl ⟨rfl, fun W hW => by simp [execOp, Act.eval, go_sem, (obj_cells hW.2.x).1, X.op]⟩) hS ?_
   simp only [nA, nB, nC]
   refine tkQ 2 155 ((.bool false)) 15 rfl rfl (by kernel_rfl) (fun _ _ _ h => h) (.inl ⟨rfl, fun W hW => by simp [execOp, Act.eval, go_sem, b14]⟩) hS ?_
   simp only [nA, nB, nC]
   refine tkQ 3 156 ((.bool false)) 14 rfl rfl (by kernel_rfl) (fun _ _ _ h => h) (.inl ⟨rfl, fun W hW => by simp [execOp, Act.eval, go_sem]⟩) hS ?_
   simp only [nA, nB, nC]
   refine tkQ 4 157 (undef) 13 rfl rfl (by kernel_rfl) (fun _ _ _ h => h) (.inr ⟨rfl, rfl⟩) hS ?_
   simp only [nA, nB, nC]
   refine tkQ 5 158 (undef) 12 rfl rfl (by kernel_rfl) (fun _ _ _ h => h) (.inr ⟨rfl, rfl⟩) hS ?_
   simp only [nA, nB, nC]
   refine tkQ 6 159 (undef) 11 rfl rfl (by kernel_rfl) (fun _ _ _ h => h) (.inr ⟨rfl, rfl⟩) hS ?_
   simp only [nA, nB, nC]
   refine tkQ 7 160 ((.bool false)) 10 rfl rfl (by kernel_rfl) (fun _ _ _ h => h) (.inl ⟨rfl, fun W hW => by simp [execOp, Act.eval, go_sem]⟩) hS ?_
   simp only [nA, nB, nC]
   refine tkQ 8 161 ((.bool false)) 9 rfl rfl (by kernel_rfl) (fun _ _ _ h => h) (.inl ⟨rfl, fun W hW => by simp [execOp, Act.eval, go_sem]⟩) hS ?_
   simp only [nA, nB, nC]
   refine tkQ 9 162 ((.pointer (some ⟨w.heap.size, 0, none⟩))) 8 rfl rfl (by kernel_rfl) (fun _ _ _ h => h) (.inl ⟨rfl, fun W hW => by simp [execOp, Act.eval, go_sem]⟩) hS ?_
   simp only [nA, nB, nC]
   refine tkQ 10 163 ((.int .i64 o)) 7 rfl rfl (by kernel_rfl) (fun _ _ _ h => h) (.inl ⟨rfl, fun W hW => by simp [execOp, Act.eval, go_sem, (obj_cells hW.2.x).1, X.op]⟩) hS ?_
   simp only [nA, nB, nC]
   refine tkQ 11 164 ((.bool false)) 6 rfl rfl (by kernel_rfl) (fun _ _ _ h => h) (.inl ⟨rfl, fun W hW => by simp [execOp, Act.eval, go_sem, b15]⟩) hS ?_
   simp only [nA, nB, nC]
   refine tkQ 12 165 ((.bool false)) 5 rfl rfl (by kernel_rfl) (fun _ _ _ h => h) (.inl ⟨rfl, fun W hW => by simp [execOp, Act.eval, go_sem]⟩) hS ?_
   simp only [nA, nB, nC]
   refine tkQ 13 166 (undef) 4 rfl rfl (by kernel_rfl) (fun _ _ _ h => h) (.inr ⟨rfl, rfl⟩) hS ?_
   simp only [nA, nB, nC]
   refine tkQ 14 167 (undef) 3 rfl rfl (by kernel_rfl) (fun _ _ _ h => h) (.inr ⟨rfl, rfl⟩) hS ?_
   simp only [nA, nB, nC]
   refine tkQ 15 168 (undef) 2 rfl rfl (by kernel_rfl) (fun _ _ _ h => h) (.inr ⟨rfl, rfl⟩) hS ?_
   simp only [nA, nB, nC]
   refine tkQ 16 169 ((.bool false)) 1 rfl rfl (by kernel_rfl) (fun _ _ _ h => h) (.inl ⟨rfl, fun W hW => by simp [execOp, Act.eval, go_sem]⟩) hS ?_
   simp only [nA, nB, nC]
   refine tkQ 17 170 ((.bool false)) 0 rfl rfl (by kernel_rfl) (fun _ _ _ h => h) (.inl ⟨rfl, fun W hW => by simp [execOp, Act.eval, go_sem]⟩) hS ?_
   simp only [nA, nB, nC]
   refine wpAnyH_done (by kernel_rfl) ?_ 0
   have HB6 := Lib.hid hS.2
   have HA6 := Lib.hid hS.1
   clear hS hA hZ hF
   have s0 := HB6.out.r.c0
   have s1 := HB6.out.r.c1
   have s2 := HB6.out.r.c2
   have f0 := HB6.out.r.free 0
   have f1 := HB6.out.r.free 1
   have f2 := HB6.out.r.free 2
   have hlt6 := HB6.out.r.lt
   obtain ⟨p0, p1, p2, p3, p4, p5⟩ := obj_cells HB6.out.x
   simp only [X.op, X.nm, X.v, X.ks] at p0 p1 p2 p3 p4 p5
   have hlx6 := lt_of_heap HB6.out.x
   have e0 := HA6.out.1.c0; have e1 := HA6.out.1.c1; have e2 := HA6.out.1.c2; have hle6 := HA6.out.1.lt
   have g0 := HA6.out.2.c0; have g1 := HA6.out.2.c1; have g2 := HA6.out.2.c2; have hlg6 := HA6.out.2.lt
   go_wp2
   exact bodyPost_ret (ret_two rfl (by rfl) (by rfl) (HB6.out.r.set nulV)) rfl ⟨rfl, set3_below HB6.out.b (Nat.le_succ _) _ _ _⟩
  ·
   rw [if_neg (by simp [hz, hz2])]
   have q2 : (z.k == 0) = false := by simpa using hz2
   have HCM := Lib.hid (rcmp_any a z hw hw1)
   unfold V.val at HCM
   obtain ⟨x, hx⟩ : ∃ x, cmpV a z = x := ⟨_, rfl⟩
   rw [hx] at HCM
   rw [hx]
   clear hz hz2 hx
   have : o = 10 ∨ o = 11 ∨ o = 12 ∨ o = 13 := by omega
   clear ho b0 b1 b2 b3 b9 b14 b15 b16 b17 b18 b19 b20
   rcases this with rfl | rfl | rfl | rfl
   ·
    obtain ⟨t, ht⟩ : ∃ t, cmpG 10 x = t := ⟨_, rfl⟩
    have q3 : (x == 0) = t := by rw [← ht]; unfold cmpG; by_cases hx0 : x = 0 <;> simp [hx0]
    rw [ht]
    obtain ⟨N, hN, HBW, hBt⟩ := truthN t
    rw [hBt]
    clear ht hBt hN
    have TOK : Hid True := Lib.hid trivial
    go_enter Tryz.func47, Tryz.ntmps47
    go_wp2_with (first
     | (have T1 := TOK; clear TOK; go_at_call 47; refine (HC0.out _ HFR.out.b).mono ?_; rintro e w2 ⟨rfl, hb2⟩; have HB2 := Lib.hid (HFR.out.below hb2); have s0 := HB2.out.r.c0; have s1 := HB2.out.r.c1; have s2 := HB2.out.r.c2; have f0 := HB2.out.r.free 0; have f1 := HB2.out.r.free 1; have f2 := HB2.out.r.free 2; have hlt := HB2.out.r.lt; clear p0 p1 p2 p3 p4 p5; obtain ⟨p0, p1, p2, p3, p4, p5⟩ := obj_cells HB2.out.x; simp only [X.op, X.nm, X.v, X.ks] at p0 p1 p2 p3 p4 p5; have hlx := lt_of_heap HB2.out.x; clear hb2; obtain ⟨d0, d1, d2, d3, d4, d5⟩ := HK1.out _ HB2.out.b; simp only [Nat.one_mul, Nat.reduceMul, Nat.add_assoc, Nat.reduceAdd] at d0 d1 d2 d3 d4 d5; have hbk2 : bk < w2.heap.size := Nat.lt_of_lt_of_le hbk HB2.out.b.size)
     | (have T2 := T1; clear T1; go_at_call 47; refine (HC1.out _ (HB2.out.b.alloc HB2.out.b.size _)).mono ?_; rintro e w4 ⟨rfl, hb4⟩; have HB4 := Lib.hid ((HB2.out.below ((Below.refl _ _).alloc (Nat.le_refl _) _)).below hb4); have HA4 := Lib.hid ((Box3.new w2 a).below hb4); clear s0 s1 s2 f0 f1 f2; have s0 := HB4.out.r.c0; have s1 := HB4.out.r.c1; have s2 := HB4.out.r.c2; have f0 := HB4.out.r.free 0; have f1 := HB4.out.r.free 1; have f2 := HB4.out.r.free 2; have hlt4 := HB4.out.r.lt; clear p0 p1 p2 p3 p4 p5; obtain ⟨p0, p1, p2, p3, p4, p5⟩ := obj_cells HB4.out.x; simp only [X.op, X.nm, X.v, X.ks] at p0 p1 p2 p3 p4 p5; have hlx := lt_of_heap HB4.out.x; have e0 := HA4.out.c0; have e1 := HA4.out.c1; have e2 := HA4.out.c2; have hle := HA4.out.lt; clear hb4))
    obtain ⟨U, hU⟩ : ∃ q, w4.alloc (.cells #[.int .i64 z.k, .int .i64 z.n, .string z.s] 23) = q := ⟨_, rfl⟩
    have hZ : Box3 U w4.heap.size (z) := by rw [← hU]; exact Box3.new w4 (z)
    have hA : Box3 U w2.heap.size (a) := by rw [← hU]; exact HA4.out.below ((Below.refl _ _).alloc (Nat.le_refl _) _)
    have hF : Fr 10 n v ks (some ⟨bk, off, none⟩) c w.heap.size (w.heap.size + 1) zV w U := by rw [← hU]; exact HB4.out.below ((Below.refl _ _).alloc (Nat.le_refl _) _)
    rw [hU]
    clear hU p0 p1 p2 p3 p4 p5 s0 s1 s2 f0 f1 f2 e0 e1 e2
    have hS : (Box3 U.drew w2.heap.size (a) ∧ Box3 U.drew w4.heap.size (z)) ∧ Fr 10 n v ks (some ⟨bk, off, none⟩) c w.heap.size (w.heap.size + 1) zV w U.drew := ⟨⟨hA, hZ⟩, hF.drew⟩
    refine held_begin 18 (fun W => (Box3 W w2.heap.size (a) ∧ Box3 W w4.heap.size (z)) ∧ Fr 10 n v ks (some ⟨bk, off, none⟩) c w.heap.size (w.heap.size + 1) zV w W) rfl (by kernel_rfl) ?_
    obtain ⟨Ud, hUd⟩ : ∃ q, U.drew = q := ⟨_, rfl⟩
    rw [hUd] at hS ⊢
    clear hUd
    refine tkQ 0 153 ((.pointer (some ⟨w.heap.size, 0, none⟩))) 17 rfl rfl (by kernel_rfl) (fun _ _ _ h => h) (.inl ⟨rfl, fun W hW => by simp [execOp, Act.eval, go_sem]⟩) hS ?_
    simp only [nA, nB, nC]
    refine tkQ 1 154 ((.int .i64 10)) 16 rfl rfl (by kernel_rfl) (fun _ _ _ h => h) (.inl ⟨rfl, fun W hW => by simp [execOp, Act.eval, go_sem, (obj_cells hW.2.x).1, X.op]⟩) hS ?_
    simp only [nA, nB, nC]
    refine tkQ 2 155 ((.bool false)) 15 rfl rfl (by kernel_rfl) (fun _ _ _ h => h) (.inl ⟨rfl, fun W hW => by simp [execOp, Act.eval, go_sem]⟩) hS ?_
    simp only [nA, nB, nC]
    refine tkQ 3 156 ((.bool false)) 14 rfl rfl (by kernel_rfl) (fun _ _ _ h => h) (.inl ⟨rfl, fun W hW => by simp [execOp, Act.eval, go_sem]⟩) hS ?_
    simp only [nA, nB, nC]
    refine tkQ 4 157 (undef) 13 rfl rfl (by kernel_rfl) (fun _ _ _ h => h) (.inr ⟨rfl, rfl⟩) hS ?_
    simp only [nA, nB, nC]
    refine tkQ 5 158 (undef) 12 rfl rfl (by kernel_rfl) (fun _ _ _ h => h) (.inr ⟨rfl, rfl⟩) hS ?_
    simp only [nA, nB, nC]
    refine tkQ 6 159 (undef) 11 rfl rfl (by kernel_rfl) (fun _ _ _ h => h) (.inr ⟨rfl, rfl⟩) hS ?_
    simp only [nA, nB, nC]
    refine tkQ 7 160 ((.bool false)) 10 rfl rfl (by kernel_rfl) (fun _ _ _ h => h) (.inl ⟨rfl, fun W hW => by simp [execOp, Act.eval, go_sem]⟩) hS ?_
    simp only [nA, nB, nC]
    refine tkQ 8 161 ((.bool false)) 9 rfl rfl (by kernel_rfl) (fun _ _ _ h => h) (.inl ⟨rfl, fun W hW => by simp [execOp, Act.eval, go_sem]⟩) hS ?_
    simp only [nA, nB, nC]
    refine tkQ 9 162 ((.pointer (some ⟨w.heap.size, 0, none⟩))) 8 rfl rfl (by kernel_rfl) (fun _ _ _ h => h) (.inl ⟨rfl, fun W hW => by simp [execOp, Act.eval, go_sem]⟩) hS ?_
    simp only [nA, nB, nC]
    refine tkQ 10 163 ((.int .i64 10)) 7 rfl rfl (by kernel_rfl) (fun _ _ _ h => h) (.inl ⟨rfl, fun W hW => by simp [execOp, Act.eval, go_sem, (obj_cells hW.2.x).1, X.op]⟩) hS ?_
    simp only [nA, nB, nC]
    refine tkQ 11 164 ((.bool false)) 6 rfl rfl (by kernel_rfl) (fun _ _ _ h => h) (.inl ⟨rfl, fun W hW => by simp [execOp, Act.eval, go_sem]⟩) hS ?_
    simp only [nA, nB, nC]
    refine tkQ 12 165 ((.bool false)) 5 rfl rfl (by kernel_rfl) (fun _ _ _ h => h) (.inl ⟨rfl, fun W hW => by simp [execOp, Act.eval, go_sem]⟩) hS ?_
    simp only [nA, nB, nC]
    refine tkQ 13 166 (undef) 4 rfl rfl (by kernel_rfl) (fun _ _ _ h => h) (.inr ⟨rfl, rfl⟩) hS ?_
    simp only [nA, nB, nC]
    refine tkQ 14 167 (undef) 3 rfl rfl (by kernel_rfl) (fun _ _ _ h => h) (.inr ⟨rfl, rfl⟩) hS ?_
    simp only [nA, nB, nC]
    refine tkQ 15 168 (undef) 2 rfl rfl (by kernel_rfl) (fun _ _ _ h => h) (.inr ⟨rfl, rfl⟩) hS ?_
    simp only [nA, nB, nC]
    refine tkQ 16 169 ((.bool false)) 1 rfl rfl (by kernel_rfl) (fun _ _ _ h => h) (.inl ⟨rfl, fun W hW => by simp [execOp, Act.eval, go_sem]⟩) hS ?_
    simp only [nA, nB, nC]
    refine tkQ 17 170 ((.bool false)) 0 rfl rfl (by kernel_rfl) (fun _ _ _ h => h) (.inl ⟨rfl, fun W hW => by simp [execOp, Act.eval, go_sem]⟩) hS ?_
    simp only [nA, nB, nC]
    refine wpAnyH_done (by kernel_rfl) ?_ 0
    have HB6 := Lib.hid hS.2
    have HA6 := Lib.hid hS.1
    clear hS hA hZ hF
    have s0 := HB6.out.r.c0
    have s1 := HB6.out.r.c1
    have s2 := HB6.out.r.c2
    have f0 := HB6.out.r.free 0
    have f1 := HB6.out.r.free 1
    have f2 := HB6.out.r.free 2
    have hlt6 := HB6.out.r.lt
    obtain ⟨p0, p1, p2, p3, p4, p5⟩ := obj_cells HB6.out.x
    simp only [X.op, X.nm, X.v, X.ks] at p0 p1 p2 p3 p4 p5
    have hlx6 := lt_of_heap HB6.out.x
    have e0 := HA6.out.1.c0; have e1 := HA6.out.1.c1; have e2 := HA6.out.1.c2; have hle6 := HA6.out.1.lt
    have g0 := HA6.out.2.c0; have g1 := HA6.out.2.c1; have g2 := HA6.out.2.c2; have hlg6 := HA6.out.2.lt
    go_wp2_with (first
     | (go_at_call 100; refine (HCM.out _).mono ?_; rintro e w7 ⟨rfl, hb7⟩; have HB7 := Lib.hid (HB6.out.below hb7); clear s0 s1 s2 f0 f1 f2; have s0 := HB7.out.r.c0; have s1 := HB7.out.r.c1; have s2 := HB7.out.r.c2; have f0 := HB7.out.r.free 0; have f1 := HB7.out.r.free 1; have f2 := HB7.out.r.free 2; have hlt7 := HB7.out.r.lt; clear p0 p1 p2 p3 p4 p5; obtain ⟨p0, p1, p2, p3, p4, p5⟩ := obj_cells HB7.out.x; simp only [X.op, X.nm, X.v, X.ks] at p0 p1 p2 p3 p4 p5; have hlx := lt_of_heap HB7.out.x; clear hb7)
     | (go_at_call 99; refine (HBW.out _).mono ?_; rintro e w8 ⟨rfl, hb8⟩; have HB8 := Lib.hid (HB7.out.below hb8); clear s0 s1 s2 f0 f1 f2; have s0 := HB8.out.r.c0; have s1 := HB8.out.r.c1; have s2 := HB8.out.r.c2; have f0 := HB8.out.r.free 0; have f1 := HB8.out.r.free 1; have f2 := HB8.out.r.free 2; have hlt8 := HB8.out.r.lt; clear hb8))
    exact bodyPost_ret (ret_two rfl (by rfl) (by rfl) (HB8.out.r.set ⟨2, N, ⟨#[]⟩⟩)) rfl ⟨rfl, set3_below HB8.out.b (Nat.le_succ _) _ _ _⟩
   ·
    obtain ⟨t, ht⟩ : ∃ t, cmpG 11 x = t := ⟨_, rfl⟩
    have q3 : (x != 0) = t := by rw [← ht]; unfold cmpG; by_cases hx0 : x = 0 <;> simp [hx0]
    rw [ht]
    obtain ⟨N, hN, HBW, hBt⟩ := truthN t
    rw [hBt]
    clear ht hBt hN
    have TOK : Hid True := Lib.hid trivial
    go_enter Tryz.func47, Tryz.ntmps47
    go_wp2_with (first
     | (have T1 := TOK; clear TOK; go_at_call 47; refine (HC0.out _ HFR.out.b).mono ?_; rintro e w2 ⟨rfl, hb2⟩; have HB2 := Lib.hid (HFR.out.below hb2); have s0 := HB2.out.r.c0; have s1 := HB2.out.r.c1; have s2 := HB2.out.r.c2; have f0 := HB2.out.r.free 0; have f1 := HB2.out.r.free 1; have f2 := HB2.out.r.free 2; have hlt := HB2.out.r.lt; clear p0 p1 p2 p3 p4 p5; obtain ⟨p0, p1, p2, p3, p4, p5⟩ := obj_cells HB2.out.x; simp only [X.op, X.nm, X.v, X.ks] at p0 p1 p2 p3 p4 p5; have hlx := lt_of_heap HB2.out.x; clear hb2; obtain ⟨d0, d1, d2, d3, d4, d5⟩ := HK1.out _ HB2.out.b; simp only [Nat.one_mul, Nat.reduceMul, Nat.add_assoc, Nat.reduceAdd] at d0 d1 d2 d3 d4 d5; have hbk2 : bk < w2.heap.size := Nat.lt_of_lt_of_le hbk HB2.out.b.size)
     | (have T2 := T1; clear T1; go_at_call 47; refine (HC1.out _ (HB2.out.b.alloc HB2.out.b.size _)).mono ?_; rintro e w4 ⟨rfl, hb4⟩; have HB4 := Lib.hid ((HB2.out.below ((Below.refl _ _).alloc (Nat.le_refl _) _)).below hb4); have HA4 := Lib.hid ((Box3.new w2 a).below hb4); clear s0 s1 s2 f0 f1 f2; have s0 := HB4.out.r.c0; have s1 := HB4.out.r.c1; have s2 := HB4.out.r.c2; have f0 := HB4.out.r.free 0; have f1 := HB4.out.r.free 1; have f2 := HB4.out.r.free 2; have hlt4 := HB4.out.r.lt; clear p0 p1 p2 p3 p4 p5; obtain ⟨p0, p1, p2, p3, p4, p5⟩ := obj_cells HB4.out.x; simp only [X.op, X.nm, X.v, X.ks] at p0 p1 p2 p3 p4 p5; have hlx := lt_of_heap HB4.out.x; have e0 := HA4.out.c0; have e1 := HA4.out.c1; have e2 := HA4.out.c2; have hle := HA4.out.lt; clear hb4))
    obtain ⟨U, hU⟩ : ∃ q, w4.alloc (.cells #[.int .i64 z.k, .int .i64 z.n, .string z.s] 23) = q := ⟨_, rfl⟩
    have hZ : Box3 U w4.heap.size (z) := by rw [← hU]; exact Box3.new w4 (z)
    have hA : Box3 U w2.heap.size (a) := by rw [← hU]; exact HA4.out.below ((Below.refl _ _).alloc (Nat.le_refl _) _)
    have hF : Fr 11 n v ks (some ⟨bk, off, none⟩) c w.heap.size (w.heap.size + 1) zV w U := by rw [← hU]; exact HB4.out.below ((Below.refl _ _).alloc (Nat.le_refl _) _)
    rw [hU]
    clear hU p0 p1 p2 p3 p4 p5 s0 s1 s2 f0 f1 f2 e0 e1 e2
    have hS : (Box3 U.drew w2.heap.size (a) ∧ Box3 U.drew w4.heap.size (z)) ∧ Fr 11 n v ks (some ⟨bk, off, none⟩) c w.heap.size (w.heap.size + 1) zV w U.drew := ⟨⟨hA, hZ⟩, hF.drew⟩
    refine held_begin 18 (fun W => (Box3 W w2.heap.size (a) ∧ Box3 W w4.heap.size (z)) ∧ Fr 11 n v ks (some ⟨bk, off, none⟩) c w.heap.size (w.heap.size + 1) zV w W) rfl (by kernel_rfl) ?_
    obtain ⟨Ud, hUd⟩ : ∃ q, U.drew = q := ⟨_, rfl⟩
    rw [hUd] at hS ⊢
    clear hUd
    refine tkQ 0 153 ((.pointer (some ⟨w.heap.size, 0, none⟩))) 17 rfl rfl (by kernel_rfl) (fun _ _ _ h => h) (.inl ⟨rfl, fun W hW => by simp [execOp, Act.eval, go_sem]⟩) hS ?_
    simp only [nA, nB, nC]
    refine tkQ 1 154 ((.int .i64 11)) 16 rfl rfl (by kernel_rfl) (fun _ _ _ h => h) (.inl ⟨rfl, fun W hW => by simp [execOp, Act.eval, go_sem, (obj_cells hW.2.x).1, X.op]⟩) hS ?_
    simp only [nA, nB, nC]
    refine tkQ 2 155 ((.bool false)) 15 rfl rfl (by kernel_rfl) (fun _ _ _ h => h) (.inl ⟨rfl, fun W hW => by simp [execOp, Act.eval, go_sem]⟩) hS ?_
    simp only [nA, nB, nC]
    refine tkQ 3 156 ((.bool false)) 14 rfl rfl (by kernel_rfl) (fun _ _ _ h => h) (.inl ⟨rfl, fun W hW => by simp [execOp, Act.eval, go_sem]⟩) hS ?_
    simp only [nA, nB, nC]
    refine tkQ 4 157 (undef) 13 rfl rfl (by kernel_rfl) (fun _ _ _ h => h) (.inr ⟨rfl, rfl⟩) hS ?_
    simp only [nA, nB, nC]
    refine tkQ 5 158 (undef) 12 rfl rfl (by kernel_rfl) (fun _ _ _ h => h) (.inr ⟨rfl, rfl⟩) hS ?_
    simp only [nA, nB, nC]
    refine tkQ 6 159 (undef) 11 rfl rfl (by kernel_rfl) (fun _ _ _ h => h) (.inr ⟨rfl, rfl⟩) hS ?_
    simp only [nA, nB, nC]
    refine tkQ 7 160 ((.bool false)) 10 rfl rfl (by kernel_rfl) (fun _ _ _ h => h) (.inl ⟨rfl, fun W hW => by simp [execOp, Act.eval, go_sem]⟩) hS ?_
    simp only [nA, nB, nC]
    refine tkQ 8 161 ((.bool false)) 9 rfl rfl (by kernel_rfl) (fun _ _ _ h => h) (.inl ⟨rfl, fun W hW => by simp [execOp, Act.eval, go_sem]⟩) hS ?_
    simp only [nA, nB, nC]
    refine tkQ 9 162 ((.pointer (some ⟨w.heap.size, 0, none⟩))) 8 rfl rfl (by kernel_rfl) (fun _ _ _ h => h) (.inl ⟨rfl, fun W hW => by simp [execOp, Act.eval, go_sem]⟩) hS ?_
    simp only [nA, nB, nC]
    refine tkQ 10 163 ((.int .i64 11)) 7 rfl rfl (by kernel_rfl) (fun _ _ _ h => h) (.inl ⟨rfl, fun W hW => by simp [execOp, Act.eval, go_sem, (obj_cells hW.2.x).1, X.op]⟩) hS ?_
    simp only [nA, nB, nC]
    refine tkQ 11 164 ((.bool false)) 6 rfl rfl (by kernel_rfl) (fun _ _ _ h => h) (.inl ⟨rfl, fun W hW => by simp [execOp, Act.eval, go_sem]⟩) hS ?_
    simp only [nA, nB, nC]
    refine tkQ 12 165 ((.bool false)) 5 rfl rfl (by kernel_rfl) (fun _ _ _ h => h) (.inl ⟨rfl, fun W hW => by simp [execOp, Act.eval, go_sem]⟩) hS ?_
    simp only [nA, nB, nC]
    refine tkQ 13 166 (undef) 4 rfl rfl (by kernel_rfl) (fun _ _ _ h => h) (.inr ⟨rfl, rfl⟩) hS ?_
    simp only [nA, nB, nC]
    refine tkQ 14 167 (undef) 3 rfl rfl (by kernel_rfl) (fun _ _ _ h => h) (.inr ⟨rfl, rfl⟩) hS ?_
    simp only [nA, nB, nC]
    refine tkQ 15 168 (undef) 2 rfl rfl (by kernel_rfl) (fun _ _ _ h => h) (.inr ⟨rfl, rfl⟩) hS ?_
    simp only [nA, nB, nC]
    refine tkQ 16 169 ((.bool false)) 1 rfl rfl (by kernel_rfl) (fun _ _ _ h => h) (.inl ⟨rfl, fun W hW => by simp [execOp, Act.eval, go_sem]⟩) hS ?_
    simp only [nA, nB, nC]
    refine tkQ 17 170 ((.bool false)) 0 rfl rfl (by kernel_rfl) (fun _ _ _ h => h) (.inl ⟨rfl, fun W hW => by simp [execOp, Act.eval, go_sem]⟩) hS ?_
    simp only [nA, nB, nC]
    refine wpAnyH_done (by kernel_rfl) ?_ 0
    have HB6 := Lib.hid hS.2
    have HA6 := Lib.hid hS.1
    clear hS hA hZ hF
    have s0 := HB6.out.r.c0
    have s1 := HB6.out.r.c1
    have s2 := HB6.out.r.c2
    have f0 := HB6.out.r.free 0
    have f1 := HB6.out.r.free 1
    have f2 := HB6.out.r.free 2
    have hlt6 := HB6.out.r.lt
    obtain ⟨p0, p1, p2, p3, p4, p5⟩ := obj_cells HB6.out.x
    simp only [X.op, X.nm, X.v, X.ks] at p0 p1 p2 p3 p4 p5
    have hlx6 := lt_of_heap HB6.out.x
    have e0 := HA6.out.1.c0; have e1 := HA6.out.1.c1; have e2 := HA6.out.1.c2; have hle6 := HA6.out.1.lt
    have g0 := HA6.out.2.c0; have g1 := HA6.out.2.c1; have g2 := HA6.out.2.c2; have hlg6 := HA6.out.2.lt
    go_wp2_with (first
     | (go_at_call 100; refine (HCM.out _).mono ?_; rintro e w7 ⟨rfl, hb7⟩; have HB7 := Lib.hid (HB6.out.below hb7); clear s0 s1 s2 f0 f1 f2; have s0 := HB7.out.r.c0; have s1 := HB7.out.r.c1; have s2 := HB7.out.r.c2; have f0 := HB7.out.r.free 0; have f1 := HB7.out.r.free 1; have f2 := HB7.out.r.free 2; have hlt7 := HB7.out.r.lt; clear p0 p1 p2 p3 p4 p5; obtain ⟨p0, p1, p2, p3, p4, p5⟩ := obj_cells HB7.out.x; simp only [X.op, X.nm, X.v, X.ks] at p0 p1 p2 p3 p4 p5; have hlx := lt_of_heap HB7.out.x; clear hb7)
     | (go_at_call 99; refine (HBW.out _).mono ?_; rintro e w8 ⟨rfl, hb8⟩; have HB8 := Lib.hid (HB7.out.below hb8); clear s0 s1 s2 f0 f1 f2; have s0 := HB8.out.r.c0; have s1 := HB8.out.r.c1; have s2 := HB8.out.r.c2; have f0 := HB8.out.r.free 0; have f1 := HB8.out.r.free 1; have f2 := HB8.out.r.free 2; have hlt8 := HB8.out.r.lt; clear hb8))
    exact bodyPost_ret (ret_two rfl (by rfl) (by rfl) (HB8.out.r.set ⟨2, N, ⟨#[]⟩⟩)) rfl ⟨rfl, set3_below HB8.out.b (Nat.le_succ _) _ _ _⟩
   ·
    obtain ⟨t, ht⟩ : ∃ t, cmpG 12 x = t := ⟨_, rfl⟩
    have q3 : decide (x < 0) = t := by rw [← ht]; simp [cmpG]
    rw [ht]
    obtain ⟨N, hN, HBW, hBt⟩ := truthN t
    rw [hBt]
    clear ht hBt hN
    have TOK : Hid True := Lib.hid trivial
    go_enter Tryz.func47, Tryz.ntmps47
    go_wp2_with (first
     | (have T1 := TOK; clear TOK; go_at_call 47; refine (HC0.out _ HFR.out.b).mono ?_; rintro e w2 ⟨rfl, hb2⟩; have HB2 := Lib.hid (HFR.out.below hb2); have s0 := HB2.out.r.c0; have s1 := HB2.out.r.c1; have s2 := HB2.out.r.c2; have f0 := HB2.out.r.free 0; have f1 := HB2.out.r.free 1; have f2 := HB2.out.r.free 2; have hlt := HB2.out.r.lt; clear p0 p1 p2 p3 p4 p5; obtain ⟨p0, p1, p2, p3, p4, p5⟩ := obj_cells HB2.out.x; simp only [X.op, X.nm, X.v, X.ks] at p0 p1 p2 p3 p4 p5; have hlx := lt_of_heap HB2.out.x; clear hb2; obtain ⟨d0, d1, d2, d3, d4, d5⟩ := HK1.out _ HB2.out.b; simp only [Nat.one_mul, Nat.reduceMul, Nat.add_assoc, Nat.reduceAdd] at d0 d1 d2 d3 d4 d5; have hbk2 : bk < w2.heap.size := Nat.lt_of_lt_of_le hbk HB2.out.b.size)
     | (have T2 := T1; clear T1; go_at_call 47; refine (HC1.out _ (HB2.out.b.alloc HB2.out.b.size _)).mono ?_; rintro e w4 ⟨rfl, hb4⟩; have HB4 := Lib.hid ((HB2.out.below ((Below.refl _ _).alloc (Nat.le_refl _) _)).below hb4); have HA4 := Lib.hid ((Box3.new w2 a).below hb4); clear s0 s1 s2 f0 f1 f2; have s0 := HB4.out.r.c0; have s1 := HB4.out.r.c1; have s2 := HB4.out.r.c2; have f0 := HB4.out.r.free 0; have f1 := HB4.out.r.free 1; have f2 := HB4.out.r.free 2; have hlt4 := HB4.out.r.lt; clear p0 p1 p2 p3 p4 p5; obtain ⟨p0, p1, p2, p3, p4, p5⟩ := obj_cells HB4.out.x; simp only [X.op, X.nm, X.v, X.ks] at p0 p1 p2 p3 p4 p5; have hlx := lt_of_heap HB4.out.x; have e0 := HA4.out.c0; have e1 := HA4.out.c1; have e2 := HA4.out.c2; have hle := HA4.out.lt; clear hb4))
    obtain ⟨U, hU⟩ : ∃ q, w4.alloc (.cells #[.int .i64 z.k, .int .i64 z.n, .string z.s] 23) = q := ⟨_, rfl⟩
    have hZ : Box3 U w4.heap.size (z) := by rw [← hU]; exact Box3.new w4 (z)
    have hA : Box3 U w2.heap.size (a) := by rw [← hU]; exact HA4.out.below ((Below.refl _ _).alloc (Nat.le_refl _) _)
    have hF : Fr 12 n v ks (some ⟨bk, off, none⟩) c w.heap.size (w.heap.size + 1) zV w U := by rw [← hU]; exact HB4.out.below ((Below.refl _ _).alloc (Nat.le_refl _) _)
    rw [hU]
    clear hU p0 p1 p2 p3 p4 p5 s0 s1 s2 f0 f1 f2 e0 e1 e2
    have hS : (Box3 U.drew w2.heap.size (a) ∧ Box3 U.drew w4.heap.size (z)) ∧ Fr 12 n v ks (some ⟨bk, off, none⟩) c w.heap.size (w.heap.size + 1) zV w U.drew := ⟨⟨hA, hZ⟩, hF.drew⟩
    refine held_begin 18 (fun W => (Box3 W w2.heap.size (a) ∧ Box3 W w4.heap.size (z)) ∧ Fr 12 n v ks (some ⟨bk, off, none⟩) c w.heap.size (w.heap.size + 1) zV w W) rfl (by kernel_rfl) ?_
    obtain ⟨Ud, hUd⟩ : ∃ q, U.drew = q := ⟨_, rfl⟩
    rw [hUd] at hS ⊢
    clear hUd
    refine tkQ 0 153 ((.pointer (some ⟨w.heap.size, 0, none⟩))) 17 rfl rfl (by kernel_rfl) (fun _ _ _ h => h) (.inl ⟨rfl, fun W hW => by simp [execOp, Act.eval, go_sem]⟩) hS ?_
    simp only [nA, nB, nC]
    refine tkQ 1 154 ((.int .i64 12)) 16 rfl rfl (by kernel_rfl) (fun _ _ _ h => h) (.inl ⟨rfl, fun W hW => by simp [execOp, Act.eval, go_sem, (obj_cells hW.2.x).1, X.op]⟩) hS ?_
    simp only [nA, nB, nC]
    refine tkQ 2 155 ((.bool false)) 15 rfl rfl (by kernel_rfl) (fun _ _ _ h => h) (.inl ⟨rfl, fun W hW => by simp [execOp, Act.eval, go_sem]⟩) hS ?_
    simp only [nA, nB, nC]
    refine tkQ 3 156 ((.bool false)) 14 rfl rfl (by kernel_rfl) (fun _ _ _ h => h) (.inl ⟨rfl, fun W hW => by simp [execOp, Act.eval, go_sem]⟩) hS ?_
    simp only [nA, nB, nC]
    refine tkQ 4 157 (undef) 13 rfl rfl (by kernel_rfl) (fun _ _ _ h => h) (.inr ⟨rfl, rfl⟩) hS ?_
    simp only [nA, nB, nC]
    refine tkQ 5 158 (undef) 12 rfl rfl (by kernel_rfl) (fun _ _ _ h => h) (.inr ⟨rfl, rfl⟩) hS ?_
    simp only [nA, nB, nC]
    refine tkQ 6 159 (undef) 11 rfl rfl (by kernel_rfl) (fun _ _ _ h => h) (.inr ⟨rfl, rfl⟩) hS ?_
    simp only [nA, nB, nC]
    refine tkQ 7 160 ((.bool false)) 10 rfl rfl (by kernel_rfl) (fun _ _ _ h => h) (.inl ⟨rfl, fun W hW => by simp [execOp, Act.eval, go_sem]⟩) hS ?_
    simp only [nA, nB, nC]
    refine tkQ 8 161 ((.bool false)) 9 rfl rfl (by kernel_rfl) (fun _ _ _ h => h) (.inl ⟨rfl, fun W hW => by simp [execOp, Act.eval, go_sem]⟩) hS ?_
    simp only [nA, nB, nC]
    refine tkQ 9 162 ((.pointer (some ⟨w.heap.size, 0, none⟩))) 8 rfl rfl (by kernel_rfl) (fun _ _ _ h => h) (.inl ⟨rfl, fun W hW => by simp [execOp, Act.eval, go_sem]⟩) hS ?_
    simp only [nA, nB, nC]
    refine tkQ 10 163 ((.int .i64 12)) 7 rfl rfl (by kernel_rfl) (fun _ _ _ h => h) (.inl ⟨rfl, fun W hW => by simp [execOp, Act.eval, go_sem, (obj_cells hW.2.x).1, X.op]⟩) hS ?_
    simp only [nA, nB, nC]
    refine tkQ 11 164 ((.bool false)) 6 rfl rfl (by kernel_rfl) (fun _ _ _ h => h) (.inl ⟨rfl, fun W hW => by simp [execOp, Act.eval, go_sem]⟩) hS ?_
    simp only [nA, nB, nC]
    refine tkQ 12 165 ((.bool false)) 5 rfl rfl (by kernel_rfl) (fun _ _ _ h => h) (.inl ⟨rfl, fun W hW => by simp [execOp, Act.eval, go_sem]⟩) hS ?_
    simp only [nA, nB, nC]
    refine tkQ 13 166 (undef) 4 rfl rfl (by kernel_rfl) (fun _ _ _ h => h) (.inr ⟨rfl, rfl⟩) hS ?_
    simp only [nA, nB, nC]
    refine tkQ 14 167 (undef) 3 rfl rfl (by kernel_rfl) (fun _ _ _ h => h) (.inr ⟨rfl, rfl⟩) hS ?_
    simp only [nA, nB, nC]
    refine tkQ 15 168 (undef) 2 rfl rfl (by kernel_rfl) (fun _ _ _ h => h) (.inr ⟨rfl, rfl⟩) hS ?_
    simp only [nA, nB, nC]
    refine tkQ 16 169 ((.bool false)) 1 rfl rfl (by kernel_rfl) (fun _ _ _ h => h) (.inl ⟨rfl, fun W hW => by simp [execOp, Act.eval, go_sem]⟩) hS ?_
    simp only [nA, nB, nC]
    refine tkQ 17 170 ((.bool false)) 0 rfl rfl (by kernel_rfl) (fun _ _ _ h => h) (.inl ⟨rfl, fun W hW => by simp [execOp, Act.eval, go_sem]⟩) hS ?_
    simp only [nA, nB, nC]
    refine wpAnyH_done (by kernel_rfl) ?_ 0
    have HB6 := Lib.hid hS.2
    have HA6 := Lib.hid hS.1
    clear hS hA hZ hF
    have s0 := HB6.out.r.c0
    have s1 := HB6.out.r.c1
    have s2 := HB6.out.r.c2
    have f0 := HB6.out.r.free 0
    have f1 := HB6.out.r.free 1
    have f2 := HB6.out.r.free 2
    have hlt6 := HB6.out.r.lt
    obtain ⟨p0, p1, p2, p3, p4, p5⟩ := obj_cells HB6.out.x
    simp only [X.op, X.nm, X.v, X.ks] at p0 p1 p2 p3 p4 p5
    have hlx6 := lt_of_heap HB6.out.x
    have e0 := HA6.out.1.c0; have e1 := HA6.out.1.c1; have e2 := HA6.out.1.c2; have hle6 := HA6.out.1.lt
    have g0 := HA6.out.2.c0; have g1 := HA6.out.2.c1; have g2 := HA6.out.2.c2; have hlg6 := HA6.out.2.lt
    go_wp2_with (first
     | (go_at_call 100; refine (HCM.out _).mono ?_; rintro e w7 ⟨rfl, hb7⟩; have HB7 := Lib.hid (HB6.out.below hb7); clear s0 s1 s2 f0 f1 f2; have s0 := HB7.out.r.c0; have s1 := HB7.out.r.c1; have s2 := HB7.out.r.c2; have f0 := HB7.out.r.free 0; have f1 := HB7.out.r.free 1; have f2 := HB7.out.r.free 2; have hlt7 := HB7.out.r.lt; clear p0 p1 p2 p3 p4 p5; obtain ⟨p0, p1, p2, p3, p4, p5⟩ := obj_cells HB7.out.x; simp only [X.op, X.nm, X.v, X.ks] at p0 p1 p2 p3 p4 p5; have hlx := lt_of_heap HB7.out.x; clear hb7)
     | (go_at_call 99; refine (HBW.out _).mono ?_; rintro e w8 ⟨rfl, hb8⟩; have HB8 := Lib.hid (HB7.out.below hb8); clear s0 s1 s2 f0 f1 f2; have s0 := HB8.out.r.c0; have s1 := HB8.out.r.c1; have s2 := HB8.out.r.c2; have f0 := HB8.out.r.free 0; have f1 := HB8.out.r.free 1; have f2 := HB8.out.r.free 2; have hlt8 := HB8.out.r.lt; clear hb8))
    exact bodyPost_ret (ret_two rfl (by rfl) (by rfl) (HB8.out.r.set ⟨2, N, ⟨#[]⟩⟩)) rfl ⟨rfl, set3_below HB8.out.b (Nat.le_succ _) _ _ _⟩
   ·
    obtain ⟨t, ht⟩ : ∃ t, cmpG 13 x = t := ⟨_, rfl⟩
    have q3 : decide (x ≤ 0) = t := by rw [← ht]; simp [cmpG]
    rw [ht]
    obtain ⟨N, hN, HBW, hBt⟩ := truthN t
    rw [hBt]
    clear ht hBt hN
    have TOK : Hid True := Lib.hid trivial
    go_enter Tryz.func47, Tryz.ntmps47
    go_wp2_with (first
     | (have T1 := TOK; clear TOK; go_at_call 47; refine (HC0.out _ HFR.out.b).mono ?_; rintro e w2 ⟨rfl, hb2⟩; have HB2 := Lib.hid (HFR.out.below hb2); have s0 := HB2.out.r.c0; have s1 := HB2.out.r.c1; have s2 := HB2.out.r.c2; have f0 := HB2.out.r.free 0; have f1 := HB2.out.r.free 1; have f2 := HB2.out.r.free 2; have hlt := HB2.out.r.lt; clear p0 p1 p2 p3 p4 p5; obtain ⟨p0, p1, p2, p3, p4, p5⟩ := obj_cells HB2.out.x; simp only [X.op, X.nm, X.v, X.ks] at p0 p1 p2 p3 p4 p5; have hlx := lt_of_heap HB2.out.x; clear hb2; obtain ⟨d0, d1, d2, d3, d4, d5⟩ := HK1.out _ HB2.out.b; simp only [Nat.one_mul, Nat.reduceMul, Nat.add_assoc, Nat.reduceAdd] at d0 d1 d2 d3 d4 d5; have hbk2 : bk < w2.heap.size := Nat.lt_of_lt_of_le hbk HB2.out.b.size)
     | (have T2 := T1; clear T1; go_at_call 47; refine (HC1.out _ (HB2.out.b.alloc HB2.out.b.size _)).mono ?_; rintro e w4 ⟨rfl, hb4⟩; have HB4 := Lib.hid ((HB2.out.below ((Below.refl _ _).alloc (Nat.le_refl _) _)).below hb4); have HA4 := Lib.hid ((Box3.new w2 a).below hb4); clear s0 s1 s2 f0 f1 f2; have s0 := HB4.out.r.c0; have s1 := HB4.out.r.c1; have s2 := HB4.out.r.c2; have f0 := HB4.out.r.free 0; have f1 := HB4.out.r.free 1; have f2 := HB4.out.r.free 2; have hlt4 := HB4.out.r.lt; clear p0 p1 p2 p3 p4 p5; obtain ⟨p0, p1, p2, p3, p4, p5⟩ := obj_cells HB4.out.x; simp only [X.op, X.nm, X.v, X.ks] at p0 p1 p2 p3 p4 p5; have hlx := lt_of_heap HB4.out.x; have e0 := HA4.out.c0; have e1 := HA4.out.c1; have e2 := HA4.out.c2; have hle := HA4.out.lt; clear hb4))
    obtain ⟨U, hU⟩ : ∃ q, w4.alloc (.cells #[.int .i64 z.k, .int .i64 z.n, .string z.s] 23) = q := ⟨_, rfl⟩
    have hZ : Box3 U w4.heap.size (z) := by rw [← hU]; exact Box3.new w4 (z)
    have hA : Box3 U w2.heap.size (a) := by rw [← hU]; exact HA4.out.below ((Below.refl _ _).alloc (Nat.le_refl _) _)
    have hF : Fr 13 n v ks (some ⟨bk, off, none⟩) c w.heap.size (w.heap.size + 1) zV w U := by rw [← hU]; exact HB4.out.below ((Below.refl _ _).alloc (Nat.le_refl _) _)
    rw [hU]
    clear hU p0 p1 p2 p3 p4 p5 s0 s1 s2 f0 f1 f2 e0 e1 e2
    have hS : (Box3 U.drew w2.heap.size (a) ∧ Box3 U.drew w4.heap.size (z)) ∧ Fr 13 n v ks (some ⟨bk, off, none⟩) c w.heap.size (w.heap.size + 1) zV w U.drew := ⟨⟨hA, hZ⟩, hF.drew⟩
    refine held_begin 18 (fun W => (Box3 W w2.heap.size (a) ∧ Box3 W w4.heap.size (z)) ∧ Fr 13 n v ks (some ⟨bk, off, none⟩) c w.heap.size (w.heap.size + 1) zV w W) rfl (by kernel_rfl) ?_
    obtain ⟨Ud, hUd⟩ : ∃ q, U.drew = q := ⟨_, rfl⟩
    rw [hUd] at hS ⊢
    clear hUd
    refine tkQ 0 153 ((.pointer (some ⟨w.heap.size, 0, none⟩))) 17 rfl rfl (by kernel_rfl) (fun _ _ _ h => h) (.inl ⟨rfl, fun W hW => by simp [execOp, Act.eval, go_sem]⟩) hS ?_
    simp only [nA, nB, nC]
    refine tkQ 1 154 ((.int .i64 13)) 16 rfl rfl (by kernel_rfl) (fun _ _ _ h => h) (.inl ⟨rfl, fun W hW => by simp [execOp, Act.eval, go_sem, (obj_cells hW.2.x).1, X.op]⟩) hS ?_
    simp only [nA, nB, nC]
    refine tkQ 2 155 ((.bool false)) 15 rfl rfl (by kernel_rfl) (fun _ _ _ h => h) (.inl ⟨rfl, fun W hW => by simp [execOp, Act.eval, go_sem]⟩) hS ?_
    simp only [nA, nB, nC]
    refine tkQ 3 156 ((.bool false)) 14 rfl rfl (by kernel_rfl) (fun _ _ _ h => h) (.inl ⟨rfl, fun W hW => by simp [execOp, Act.eval, go_sem]⟩) hS ?_
    simp only [nA, nB, nC]
    refine tkQ 4 157 (undef) 13 rfl rfl (by kernel_rfl) (fun _ _ _ h => h) (.inr ⟨rfl, rfl⟩) hS ?_
    simp only [nA, nB, nC]
    refine tkQ 5 158 (undef) 12 rfl rfl (by kernel_rfl) (fun _ _ _ h => h) (.inr ⟨rfl, rfl⟩) hS ?_
    simp only [nA, nB, nC]
    refine tkQ 6 159 (undef) 11 rfl rfl (by kernel_rfl) (fun _ _ _ h => h) (.inr ⟨rfl, rfl⟩) hS ?_
    simp only [nA, nB, nC]
    refine tkQ 7 160 ((.bool false)) 10 rfl rfl (by kernel_rfl) (fun _ _ _ h => h) (.inl ⟨rfl, fun W hW => by simp [execOp, Act.eval, go_sem]⟩) hS ?_
    simp only [nA, nB, nC]
    refine tkQ 8 161 ((.bool false)) 9 rfl rfl (by kernel_rfl) (fun _ _ _ h => h) (.inl ⟨rfl, fun W hW => by simp [execOp, Act.eval, go_sem]⟩) hS ?_
    simp only [nA, nB, nC]
    refine tkQ 9 162 ((.pointer (some ⟨w.heap.size, 0, none⟩))) 8 rfl rfl (by kernel_rfl) (fun _ _ _ h => h) (.inl ⟨rfl, fun W hW => by simp [execOp, Act.eval, go_sem]⟩) hS ?_
    simp only [nA, nB, nC]
    refine tkQ 10 163 ((.int .i64 13)) 7 rfl rfl (by kernel_rfl) (fun _ _ _ h => h) (.inl ⟨rfl, fun W hW => by simp [execOp, Act.eval, go_sem, (obj_cells hW.2.x).1, X.op]⟩) hS ?_
    simp only [nA, nB, nC]
    refine tkQ 11 164 ((.bool false)) 6 rfl rfl (by kernel_rfl) (fun _ _ _ h => h) (.inl ⟨rfl, fun W hW => by simp [execOp, Act.eval, go_sem]⟩) hS ?_
    simp only [nA, nB, nC]
    refine tkQ 12 165 ((.bool false)) 5 rfl rfl (by kernel_rfl) (fun _ _ _ h => h) (.inl ⟨rfl, fun W hW => by simp [execOp, Act.eval, go_sem]⟩) hS ?_
    simp only [nA, nB, nC]
    refine tkQ 13 166 (undef) 4 rfl rfl (by kernel_rfl) (fun _ _ _ h => h) (.inr ⟨rfl, rfl⟩) hS ?_
    simp only [nA, nB, nC]
    refine tkQ 14 167 (undef) 3 rfl rfl (by kernel_rfl) (fun _ _ _ h => h) (.inr ⟨rfl, rfl⟩) hS ?_
    simp only [nA, nB, nC]
    refine tkQ 15 168 (undef) 2 rfl rfl (by kernel_rfl) (fun _ _ _ h => h) (.inr ⟨rfl, rfl⟩) hS ?_
    simp only [nA, nB, nC]
    refine tkQ 16 169 ((.bool false)) 1 rfl rfl (by kernel_rfl) (fun _ _ _ h => h) (.inl ⟨rfl, fun W hW => by simp [execOp, Act.eval, go_sem]⟩) hS ?_
    simp only [nA, nB, nC]
    refine tkQ 17 170 ((.bool false)) 0 rfl rfl (by kernel_rfl) (fun _ _ _ h => h) (.inl ⟨rfl, fun W hW => by simp [execOp, Act.eval, go_sem]⟩) hS ?_
    simp only [nA, nB, nC]
    refine wpAnyH_done (by kernel_rfl) ?_ 0
    have HB6 := Lib.hid hS.2
    have HA6 := Lib.hid hS.1
    clear hS hA hZ hF
    have s0 := HB6.out.r.c0
    have s1 := HB6.out.r.c1
    have s2 := HB6.out.r.c2
    have f0 := HB6.out.r.free 0
    have f1 := HB6.out.r.free 1
    have f2 := HB6.out.r.free 2
    have hlt6 := HB6.out.r.lt
    obtain ⟨p0, p1, p2, p3, p4, p5⟩ := obj_cells HB6.out.x
    simp only [X.op, X.nm, X.v, X.ks] at p0 p1 p2 p3 p4 p5
    have hlx6 := lt_of_heap HB6.out.x
    have e0 := HA6.out.1.c0; have e1 := HA6.out.1.c1; have e2 := HA6.out.1.c2; have hle6 := HA6.out.1.lt
    have g0 := HA6.out.2.c0; have g1 := HA6.out.2.c1; have g2 := HA6.out.2.c2; have hlg6 := HA6.out.2.lt
    go_wp2_with (first
     | (go_at_call 100; refine (HCM.out _).mono ?_; rintro e w7 ⟨rfl, hb7⟩; have HB7 := Lib.hid (HB6.out.below hb7); clear s0 s1 s2 f0 f1 f2; have s0 := HB7.out.r.c0; have s1 := HB7.out.r.c1; have s2 := HB7.out.r.c2; have f0 := HB7.out.r.free 0; have f1 := HB7.out.r.free 1; have f2 := HB7.out.r.free 2; have hlt7 := HB7.out.r.lt; clear p0 p1 p2 p3 p4 p5; obtain ⟨p0, p1, p2, p3, p4, p5⟩ := obj_cells HB7.out.x; simp only [X.op, X.nm, X.v, X.ks] at p0 p1 p2 p3 p4 p5; have hlx := lt_of_heap HB7.out.x; clear hb7)
     | (go_at_call 99; refine (HBW.out _).mono ?_; rintro e w8 ⟨rfl, hb8⟩; have HB8 := Lib.hid (HB7.out.below hb8); clear s0 s1 s2 f0 f1 f2; have s0 := HB8.out.r.c0; have s1 := HB8.out.r.c1; have s2 := HB8.out.r.c2; have f0 := HB8.out.r.free 0; have f1 := HB8.out.r.free 1; have f2 := HB8.out.r.free 2; have hlt8 := HB8.out.r.lt; clear hb8))
    exact bodyPost_ret (ret_two rfl (by rfl) (by rfl) (HB8.out.r.set ⟨2, N, ⟨#[]⟩⟩)) rfl ⟨rfl, set3_below HB8.out.b (Nat.le_succ _) _ _ _⟩
end
end Go.Proofs.YtclcabdekeegdaaGreat
