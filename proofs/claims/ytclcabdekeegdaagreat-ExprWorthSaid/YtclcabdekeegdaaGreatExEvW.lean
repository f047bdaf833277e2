/- Layer 13, walked: Eval (the reference; wip/gen/XExEv.py). -/
import Derived.Test.YtclcabdekeegdaaGreatExWrW
namespace Go.Proofs.YtclcabdekeegdaaGreat
open Go.ChangeShapes Go.WideShapes Go.ChangeAt Go.RowKit
set_option linter.unusedVariables false
set_option linter.unusedSimpArgs false
/-- A kid's worth by the reference, in any later world. -/
def EK (cs : List C) (row : List V) (cA : Option Addr) (cc : Nat) (rA : Option Addr) (rc : Nat) (w : World) (x : X) (A2 : Option Addr) (c2 : Nat) (r : V × Int) : Prop := ∀ V, Below w.heap.size w V →
 Calls Tryz.prog 47 #[.agg #[.int .i64 x.op, .string x.nm, .int .i64 x.v.k, .int .i64 x.v.n, .string x.v.s, .slice A2 x.ks.length c2], .slice cA cs.length cc, .slice rA row.length rc] V fun en w' => en = endV r ∧ Below V.heap.size V w'
theorem endV_eq (r : V × Int) : endV r = .returned (.tuple #[.agg #[.int .i64 r.1.k, .int .i64 r.1.n, .string r.1.s], .int .i64 r.2]) := rfl
theorem truthT (w : World) : Calls Tryz.prog 99 #[.bool true] w fun e w' => e = .returned (.agg #[.int .i64 2, .int .i64 1, .string ⟨#[]⟩]) ∧ Below w.heap.size w w' := truth_any true w
theorem truthF (w : World) : Calls Tryz.prog 99 #[.bool false] w fun e w' => e = .returned (.agg #[.int .i64 2, .int .i64 0, .string ⟨#[]⟩]) ∧ Below w.heap.size w w' := truth_any false w
theorem truthN (t : Bool) : ∃ N : Int, (if t then (1 : Int) else 0) = N ∧ Hid (∀ w, Calls Tryz.prog 99 #[.bool t] w fun e w' => e = .returned (.agg #[.int .i64 2, .int .i64 N, .string ⟨#[]⟩]) ∧ Below w.heap.size w w') ∧ boolW t = ⟨2, N, ⟨#[]⟩⟩ :=
 ⟨_, rfl, Lib.hid (fun w => truth_any t w), rfl⟩
section
variable (cs : List C) (row : List V) (cA : Option Addr) (cc : Nat) (rA : Option Addr) (rc : Nat)
set_option maxHeartbeats 8000000 in
set_option maxRecDepth 40000 in
theorem ev_err (o : Int) (n : ByteArray) (v : V) (ks : List X) (hl : 1 ≤ ks.length) (A : Option Addr) (c : Nat) (w : World) (hk : KidsAt w w.heap.size (.mk o n v ks) A c)
  (r0 : V × Int) (hx0 : ∀ A2 c2, KidsAt w w.heap.size (ks[0]'(by omega)) A2 c2 → EK cs row cA cc rA rc w (ks[0]'(by omega)) A2 c2 r0)
  (ho : 4 ≤ o) (he : r0.2 ≠ 0) (hn : r0.1 = nulV) :
  Calls Tryz.prog 47 #[eV o n v ks.length A c, .slice cA cs.length cc, .slice rA row.length rc] w fun en w' => en = endV (nulV, r0.2) ∧ Below w.heap.size w w' := by
 obtain ⟨bk, off, rfl⟩ := kid_some hk (by omega)
 obtain ⟨A0, c0, hk0, kc0, hbk⟩ := kid_at hk 0 (by omega)
 have HC0 := Lib.hid (hx0 A0 c0 hk0)
 obtain ⟨x0, hxx0⟩ : ∃ x, ks[0]'(by omega) = x := ⟨_, rfl⟩
 rw [hxx0] at kc0 HC0
 have HK0 := Lib.hid (fun (W : World) (h : Below w.heap.size w W) => kc0.below h)
 unfold EK at HC0
 obtain ⟨W1, hW1⟩ : ∃ W1, (w.alloc ((X.mk o n v ks).obj (some ⟨bk, off, none⟩) c)).alloc (.cells #[.int .i64 0, .int .i64 0, .string ⟨#[]⟩] 23) = W1 := ⟨_, rfl⟩
 have hfr : Fr o n v ks (some ⟨bk, off, none⟩) c w.heap.size (w.heap.size + 1) zV w W1 := by rw [← hW1]; exact Fr.new o n v ks _ c w
 have HFR := Lib.hid hfr
 have hbw := hfr.b.size
 obtain ⟨p0, p1, p2, p3, p4, p5⟩ := obj_cells hfr.x
 simp only [X.op, X.nm, X.v, X.ks] at p0 p1 p2 p3 p4 p5
 obtain ⟨a0, a1, a2, a3, a4, a5⟩ := HK0.out _ hfr.b
 simp only [Nat.zero_mul, Nat.add_zero] at a0 a1 a2 a3 a4 a5
 have i1 : (0 : Int) < (ks.length : Int) := by omega
 have hnil : ¬ ks = [] := by rintro rfl; simp at hl
 clear hk hfr hx0 hk0 kc0 hxx0
 unfold X.obj at hW1
 simp only [X.op, X.nm, X.v, X.ks] at hW1
 unfold eV
 rw [endV_eq]
 simp only [endV_eq] at HC0
 obtain ⟨a, er⟩ := r0
 dsimp only at HC0 he hn ⊢
 subst hn
 have q0 : (er != 0) = true := by simpa using he
 have b1 : (o == 1) = false := by simp; omega
 have b2 : (o == 2) = false := by simp; omega
 have b3 : (o == 3) = false := by simp; omega
 clear ho he
 unfold nulV at HC0 ⊢
 dsimp only at HC0 ⊢
 have TOK : Hid True := Lib.hid trivial
 go_enter Tryz.func47, Tryz.ntmps47
 go_wp2_with (first
  | (have T1 := TOK; clear TOK; go_at_call 47; refine (HC0.out _ HFR.out.b).mono ?_; rintro e w2 ⟨rfl, hb2⟩; have HB2 := Lib.hid (HFR.out.below hb2); have s0 := HB2.out.r.c0; have s1 := HB2.out.r.c1; have s2 := HB2.out.r.c2; have f0 := HB2.out.r.free 0; have f1 := HB2.out.r.free 1; have f2 := HB2.out.r.free 2; have hlt := HB2.out.r.lt; clear p0 p1 p2 p3 p4 p5; obtain ⟨p0, p1, p2, p3, p4, p5⟩ := obj_cells HB2.out.x; simp only [X.op, X.nm, X.v, X.ks] at p0 p1 p2 p3 p4 p5; have hlx := lt_of_heap HB2.out.x; clear hb2))
 exact bodyPost_ret (ret_two rfl (by rfl) (by rfl) ((HB2.out.r.set nulV).alloc _)) rfl ⟨rfl, ((set3_below HB2.out.b (Nat.le_succ _) _ _ _).alloc (by have := HB2.out.b.size; simp [World.setCell]; omega) _)⟩
set_option maxHeartbeats 8000000 in
set_option maxRecDepth 40000 in
theorem ev_neg (o : Int) (n : ByteArray) (v : V) (ks : List X) (hl : 1 ≤ ks.length) (A : Option Addr) (c : Nat) (w : World) (hk : KidsAt w w.heap.size (.mk o n v ks) A c)
  (r0 : V × Int) (hx0 : ∀ A2 c2, KidsAt w w.heap.size (ks[0]'(by omega)) A2 c2 → EK cs row cA cc rA rc w (ks[0]'(by omega)) A2 c2 r0)
  (ho : o = 9) (he : r0.2 = 0) (hw : r0.1.wf) :
  Calls Tryz.prog 47 #[eV o n v ks.length A c, .slice cA cs.length cc, .slice rA row.length rc] w fun en w' => en = endV (reckonX 5 (intW 0) r0.1) ∧ Below w.heap.size w w' := by
 obtain ⟨bk, off, rfl⟩ := kid_some hk (by omega)
 obtain ⟨A0, c0, hk0, kc0, hbk⟩ := kid_at hk 0 (by omega)
 have HC0 := Lib.hid (hx0 A0 c0 hk0)
 obtain ⟨x0, hxx0⟩ : ∃ x, ks[0]'(by omega) = x := ⟨_, rfl⟩
 rw [hxx0] at kc0 HC0
 have HK0 := Lib.hid (fun (W : World) (h : Below w.heap.size w W) => kc0.below h)
 unfold EK at HC0
 obtain ⟨W1, hW1⟩ : ∃ W1, (w.alloc ((X.mk o n v ks).obj (some ⟨bk, off, none⟩) c)).alloc (.cells #[.int .i64 0, .int .i64 0, .string ⟨#[]⟩] 23) = W1 := ⟨_, rfl⟩
 have hfr : Fr o n v ks (some ⟨bk, off, none⟩) c w.heap.size (w.heap.size + 1) zV w W1 := by rw [← hW1]; exact Fr.new o n v ks _ c w
 have HFR := Lib.hid hfr
 have hbw := hfr.b.size
 obtain ⟨p0, p1, p2, p3, p4, p5⟩ := obj_cells hfr.x
 simp only [X.op, X.nm, X.v, X.ks] at p0 p1 p2 p3 p4 p5
 obtain ⟨a0, a1, a2, a3, a4, a5⟩ := HK0.out _ hfr.b
 simp only [Nat.zero_mul, Nat.add_zero] at a0 a1 a2 a3 a4 a5
 have i1 : (0 : Int) < (ks.length : Int) := by omega
 have hnil : ¬ ks = [] := by rintro rfl; simp at hl
 clear hk hfr hx0 hk0 kc0 hxx0
 unfold X.obj at hW1
 simp only [X.op, X.nm, X.v, X.ks] at hW1
 unfold eV
 rw [endV_eq]
 simp only [endV_eq] at HC0
 subst ho
 obtain ⟨a, er⟩ := r0
 dsimp only at HC0 he hw ⊢
 subst he
 have HRK := Lib.hid (rreckon_any 5 (intW 0) a (int_wf zero_in) hw)
 simp only [endV_eq] at HRK
 obtain ⟨⟨y, e2⟩, hy⟩ : ∃ z, reckonX 5 (intW 0) a = z := ⟨_, rfl⟩
 rw [hy] at HRK ⊢
 unfold V.val intW at HRK
 dsimp only at HRK ⊢
 clear hy
 have TOK : Hid True := Lib.hid trivial
 go_enter Tryz.func47, Tryz.ntmps47
 go_wp2_with (first
  | (have T1 := TOK; clear TOK; go_at_call 47; refine (HC0.out _ HFR.out.b).mono ?_; rintro e w2 ⟨rfl, hb2⟩; have HB2 := Lib.hid (HFR.out.below hb2); have s0 := HB2.out.r.c0; have s1 := HB2.out.r.c1; have s2 := HB2.out.r.c2; have f0 := HB2.out.r.free 0; have f1 := HB2.out.r.free 1; have f2 := HB2.out.r.free 2; have hlt := HB2.out.r.lt; clear p0 p1 p2 p3 p4 p5; obtain ⟨p0, p1, p2, p3, p4, p5⟩ := obj_cells HB2.out.x; simp only [X.op, X.nm, X.v, X.ks] at p0 p1 p2 p3 p4 p5; have hlx := lt_of_heap HB2.out.x; clear hb2)
  | (go_at_call 98; refine (HRK.out _).mono ?_; rintro e w4 ⟨rfl, hb4⟩; have HB4 := Lib.hid ((HB2.out.below ((Below.refl _ _).alloc (Nat.le_refl _) _)).below hb4); clear s0 s1 s2 f0 f1 f2; have s0 := HB4.out.r.c0; have s1 := HB4.out.r.c1; have s2 := HB4.out.r.c2; have f0 := HB4.out.r.free 0; have f1 := HB4.out.r.free 1; have f2 := HB4.out.r.free 2; have hlt4 := HB4.out.r.lt; clear hb4))
 exact bodyPost_ret (ret_two rfl (by rfl) (by rfl) (HB4.out.r.set y)) rfl ⟨rfl, set3_below HB4.out.b (Nat.le_succ _) _ _ _⟩
set_option maxHeartbeats 8000000 in
set_option maxRecDepth 40000 in
theorem ev_not (o : Int) (n : ByteArray) (v : V) (ks : List X) (hl : 1 ≤ ks.length) (A : Option Addr) (c : Nat) (w : World) (hk : KidsAt w w.heap.size (.mk o n v ks) A c)
  (r0 : V × Int) (hx0 : ∀ A2 c2, KidsAt w w.heap.size (ks[0]'(by omega)) A2 c2 → EK cs row cA cc rA rc w (ks[0]'(by omega)) A2 c2 r0)
  (ho : o = 16) (he : r0.2 = 0) (hw : r0.1.wf) :
  Calls Tryz.prog 47 #[eV o n v ks.length A c, .slice cA cs.length cc, .slice rA row.length rc] w fun en w' => en = endV ((if r0.1.k = 0 then r0.1 else boolW (decide (r0.1.n = 0))), 0) ∧ Below w.heap.size w w' := by
 obtain ⟨bk, off, rfl⟩ := kid_some hk (by omega)
 obtain ⟨A0, c0, hk0, kc0, hbk⟩ := kid_at hk 0 (by omega)
 have HC0 := Lib.hid (hx0 A0 c0 hk0)
 obtain ⟨x0, hxx0⟩ : ∃ x, ks[0]'(by omega) = x := ⟨_, rfl⟩
 rw [hxx0] at kc0 HC0
 have HK0 := Lib.hid (fun (W : World) (h : Below w.heap.size w W) => kc0.below h)
 unfold EK at HC0
 obtain ⟨W1, hW1⟩ : ∃ W1, (w.alloc ((X.mk o n v ks).obj (some ⟨bk, off, none⟩) c)).alloc (.cells #[.int .i64 0, .int .i64 0, .string ⟨#[]⟩] 23) = W1 := ⟨_, rfl⟩
 have hfr : Fr o n v ks (some ⟨bk, off, none⟩) c w.heap.size (w.heap.size + 1) zV w W1 := by rw [← hW1]; exact Fr.new o n v ks _ c w
 have HFR := Lib.hid hfr
 have hbw := hfr.b.size
 obtain ⟨p0, p1, p2, p3, p4, p5⟩ := obj_cells hfr.x
 simp only [X.op, X.nm, X.v, X.ks] at p0 p1 p2 p3 p4 p5
 obtain ⟨a0, a1, a2, a3, a4, a5⟩ := HK0.out _ hfr.b
 simp only [Nat.zero_mul, Nat.add_zero] at a0 a1 a2 a3 a4 a5
 have i1 : (0 : Int) < (ks.length : Int) := by omega
 have hnil : ¬ ks = [] := by rintro rfl; simp at hl
 clear hk hfr hx0 hk0 kc0 hxx0
 unfold X.obj at hW1
 simp only [X.op, X.nm, X.v, X.ks] at hW1
 unfold eV
 rw [endV_eq]
 simp only [endV_eq] at HC0
 subst ho
 obtain ⟨a, er⟩ := r0
 dsimp only at HC0 he hw ⊢
 subst he
 by_cases hz : a.k = 0
 ·rw [if_pos hz]
  have q1 : (a.k == 0) = true := by simpa using hz
  clear hz
  have TOK : Hid True := Lib.hid trivial
  go_enter Tryz.func47, Tryz.ntmps47
  go_wp2_with (first
   | (have T1 := TOK; clear TOK; go_at_call 47; refine (HC0.out _ HFR.out.b).mono ?_; rintro e w2 ⟨rfl, hb2⟩; have HB2 := Lib.hid (HFR.out.below hb2); have s0 := HB2.out.r.c0; have s1 := HB2.out.r.c1; have s2 := HB2.out.r.c2; have f0 := HB2.out.r.free 0; have f1 := HB2.out.r.free 1; have f2 := HB2.out.r.free 2; have hlt := HB2.out.r.lt; clear p0 p1 p2 p3 p4 p5; obtain ⟨p0, p1, p2, p3, p4, p5⟩ := obj_cells HB2.out.x; simp only [X.op, X.nm, X.v, X.ks] at p0 p1 p2 p3 p4 p5; have hlx := lt_of_heap HB2.out.x; clear hb2))
  exact bodyPost_ret (ret_two rfl (by rfl) (by rfl) ((HB2.out.r.set a).alloc _)) rfl ⟨rfl, ((set3_below HB2.out.b (Nat.le_succ _) _ _ _).alloc (by have := HB2.out.b.size; simp [World.setCell]; omega) _)⟩
 ·rw [if_neg hz]
  have q1 : (a.k == 0) = false := by simpa using hz
  obtain ⟨t, ht⟩ : ∃ t, decide (a.n = 0) = t := ⟨_, rfl⟩
  have q2 : (a.n == 0) = t := by rw [← ht]; rfl
  rw [ht]
  obtain ⟨N, hN, HBW, hBt⟩ := truthN t
  rw [hBt]
  clear ht hBt hN hz
  have TOK : Hid True := Lib.hid trivial
  go_enter Tryz.func47, Tryz.ntmps47
  go_wp2_with (first
   | (have T1 := TOK; clear TOK; go_at_call 47; refine (HC0.out _ HFR.out.b).mono ?_; rintro e w2 ⟨rfl, hb2⟩; have HB2 := Lib.hid (HFR.out.below hb2); have s0 := HB2.out.r.c0; have s1 := HB2.out.r.c1; have s2 := HB2.out.r.c2; have f0 := HB2.out.r.free 0; have f1 := HB2.out.r.free 1; have f2 := HB2.out.r.free 2; have hlt := HB2.out.r.lt; clear p0 p1 p2 p3 p4 p5; obtain ⟨p0, p1, p2, p3, p4, p5⟩ := obj_cells HB2.out.x; simp only [X.op, X.nm, X.v, X.ks] at p0 p1 p2 p3 p4 p5; have hlx := lt_of_heap HB2.out.x; clear hb2)
   | (go_at_call 99; refine (HBW.out _).mono ?_; rintro e w4 ⟨rfl, hb4⟩; have HB4 := Lib.hid ((HB2.out.below ((Below.refl _ _).alloc (Nat.le_refl _) _)).below hb4); clear s0 s1 s2 f0 f1 f2; have s0 := HB4.out.r.c0; have s1 := HB4.out.r.c1; have s2 := HB4.out.r.c2; have f0 := HB4.out.r.free 0; have f1 := HB4.out.r.free 1; have f2 := HB4.out.r.free 2; have hlt4 := HB4.out.r.lt; clear hb4))
  exact bodyPost_ret (ret_two rfl (by rfl) (by rfl) (HB4.out.r.set ⟨2, N, ⟨#[]⟩⟩)) rfl ⟨rfl, set3_below HB4.out.b (Nat.le_succ _) _ _ _⟩
set_option maxHeartbeats 8000000 in
set_option maxRecDepth 40000 in
theorem ev_nul (o : Int) (n : ByteArray) (v : V) (ks : List X) (hl : 1 ≤ ks.length) (A : Option Addr) (c : Nat) (w : World) (hk : KidsAt w w.heap.size (.mk o n v ks) A c)
  (r0 : V × Int) (hx0 : ∀ A2 c2, KidsAt w w.heap.size (ks[0]'(by omega)) A2 c2 → EK cs row cA cc rA rc w (ks[0]'(by omega)) A2 c2 r0)
  (ho : o = 17) (he : r0.2 = 0) (hw : r0.1.wf) :
  Calls Tryz.prog 47 #[eV o n v ks.length A c, .slice cA cs.length cc, .slice rA row.length rc] w fun en w' => en = endV (boolW (decide (r0.1.k = 0)), 0) ∧ Below w.heap.size w w' := by
 obtain ⟨bk, off, rfl⟩ := kid_some hk (by omega)
 obtain ⟨A0, c0, hk0, kc0, hbk⟩ := kid_at hk 0 (by omega)
 have HC0 := Lib.hid (hx0 A0 c0 hk0)
 obtain ⟨x0, hxx0⟩ : ∃ x, ks[0]'(by omega) = x := ⟨_, rfl⟩
 rw [hxx0] at kc0 HC0
 have HK0 := Lib.hid (fun (W : World) (h : Below w.heap.size w W) => kc0.below h)
 unfold EK at HC0
 obtain ⟨W1, hW1⟩ : ∃ W1, (w.alloc ((X.mk o n v ks).obj (some ⟨bk, off, none⟩) c)).alloc (.cells #[.int .i64 0, .int .i64 0, .string ⟨#[]⟩] 23) = W1 := ⟨_, rfl⟩
 have hfr : Fr o n v ks (some ⟨bk, off, none⟩) c w.heap.size (w.heap.size + 1) zV w W1 := by rw [← hW1]; exact Fr.new o n v ks _ c w
 have HFR := Lib.hid hfr
 have hbw := hfr.b.size
 obtain ⟨p0, p1, p2, p3, p4, p5⟩ := obj_cells hfr.x
 simp only [X.op, X.nm, X.v, X.ks] at p0 p1 p2 p3 p4 p5
 obtain ⟨a0, a1, a2, a3, a4, a5⟩ := HK0.out _ hfr.b
 simp only [Nat.zero_mul, Nat.add_zero] at a0 a1 a2 a3 a4 a5
 have i1 : (0 : Int) < (ks.length : Int) := by omega
 have hnil : ¬ ks = [] := by rintro rfl; simp at hl
 clear hk hfr hx0 hk0 kc0 hxx0
 unfold X.obj at hW1
 simp only [X.op, X.nm, X.v, X.ks] at hW1
 unfold eV
 rw [endV_eq]
 simp only [endV_eq] at HC0
 subst ho
 obtain ⟨a, er⟩ := r0
 dsimp only at HC0 he hw ⊢
 subst he
 obtain ⟨t, ht⟩ : ∃ t, decide (a.k = 0) = t := ⟨_, rfl⟩
 have q2 : (a.k == 0) = t := by rw [← ht]; rfl
 rw [ht]
 obtain ⟨N, hN, HBW, hBt⟩ := truthN t
 rw [hBt]
 clear ht hBt hN
 have TOK : Hid True := Lib.hid trivial
 go_enter Tryz.func47, Tryz.ntmps47
 go_wp2_with (first
  | (have T1 := TOK; clear TOK; go_at_call 47; refine (HC0.out _ HFR.out.b).mono ?_; rintro e w2 ⟨rfl, hb2⟩; have HB2 := Lib.hid (HFR.out.below hb2); have s0 := HB2.out.r.c0; have s1 := HB2.out.r.c1; have s2 := HB2.out.r.c2; have f0 := HB2.out.r.free 0; have f1 := HB2.out.r.free 1; have f2 := HB2.out.r.free 2; have hlt := HB2.out.r.lt; clear p0 p1 p2 p3 p4 p5; obtain ⟨p0, p1, p2, p3, p4, p5⟩ := obj_cells HB2.out.x; simp only [X.op, X.nm, X.v, X.ks] at p0 p1 p2 p3 p4 p5; have hlx := lt_of_heap HB2.out.x; clear hb2)
  | (go_at_call 99; refine (HBW.out _).mono ?_; rintro e w4 ⟨rfl, hb4⟩; have HB4 := Lib.hid ((HB2.out.below ((Below.refl _ _).alloc (Nat.le_refl _) _)).below hb4); clear s0 s1 s2 f0 f1 f2; have s0 := HB4.out.r.c0; have s1 := HB4.out.r.c1; have s2 := HB4.out.r.c2; have f0 := HB4.out.r.free 0; have f1 := HB4.out.r.free 1; have f2 := HB4.out.r.free 2; have hlt4 := HB4.out.r.lt; clear hb4))
 exact bodyPost_ret (ret_two rfl (by rfl) (by rfl) (HB4.out.r.set ⟨2, N, ⟨#[]⟩⟩)) rfl ⟨rfl, set3_below HB4.out.b (Nat.le_succ _) _ _ _⟩
set_option maxHeartbeats 8000000 in
set_option maxRecDepth 40000 in
theorem ev_len (o : Int) (n : ByteArray) (v : V) (ks : List X) (hl : 1 ≤ ks.length) (A : Option Addr) (c : Nat) (w : World) (hk : KidsAt w w.heap.size (.mk o n v ks) A c)
  (r0 : V × Int) (hx0 : ∀ A2 c2, KidsAt w w.heap.size (ks[0]'(by omega)) A2 c2 → EK cs row cA cc rA rc w (ks[0]'(by omega)) A2 c2 r0)
  (ho : o = 20) (he : r0.2 = 0) (hw : r0.1.wf) :
  Calls Tryz.prog 47 #[eV o n v ks.length A c, .slice cA cs.length cc, .slice rA row.length rc] w fun en w' => en = endV ((if r0.1.k = 0 then r0.1 else intW r0.1.s.size), 0) ∧ Below w.heap.size w w' := by
 obtain ⟨bk, off, rfl⟩ := kid_some hk (by omega)
 obtain ⟨A0, c0, hk0, kc0, hbk⟩ := kid_at hk 0 (by omega)
 have HC0 := Lib.hid (hx0 A0 c0 hk0)
 obtain ⟨x0, hxx0⟩ : ∃ x, ks[0]'(by omega) = x := ⟨_, rfl⟩
 rw [hxx0] at kc0 HC0
 have HK0 := Lib.hid (fun (W : World) (h : Below w.heap.size w W) => kc0.below h)
 unfold EK at HC0
 obtain ⟨W1, hW1⟩ : ∃ W1, (w.alloc ((X.mk o n v ks).obj (some ⟨bk, off, none⟩) c)).alloc (.cells #[.int .i64 0, .int .i64 0, .string ⟨#[]⟩] 23) = W1 := ⟨_, rfl⟩
 have hfr : Fr o n v ks (some ⟨bk, off, none⟩) c w.heap.size (w.heap.size + 1) zV w W1 := by rw [← hW1]; exact Fr.new o n v ks _ c w
 have HFR := Lib.hid hfr
 have hbw := hfr.b.size
 obtain ⟨p0, p1, p2, p3, p4, p5⟩ := obj_cells hfr.x
 simp only [X.op, X.nm, X.v, X.ks] at p0 p1 p2 p3 p4 p5
 obtain ⟨a0, a1, a2, a3, a4, a5⟩ := HK0.out _ hfr.b
 simp only [Nat.zero_mul, Nat.add_zero] at a0 a1 a2 a3 a4 a5
 have i1 : (0 : Int) < (ks.length : Int) := by omega
 have hnil : ¬ ks = [] := by rintro rfl; simp at hl
 clear hk hfr hx0 hk0 kc0 hxx0
 unfold X.obj at hW1
 simp only [X.op, X.nm, X.v, X.ks] at hW1
 unfold eV
 rw [endV_eq]
 simp only [endV_eq] at HC0
 subst ho
 obtain ⟨a, er⟩ := r0
 dsimp only at HC0 he hw ⊢
 subst he
 by_cases hz : a.k = 0
 ·rw [if_pos hz]
  have q1 : (a.k == 0) = true := by simpa using hz
  clear hz
  have TOK : Hid True := Lib.hid trivial
  go_enter Tryz.func47, Tryz.ntmps47
  go_wp2_with (first
   | (have T1 := TOK; clear TOK; go_at_call 47; refine (HC0.out _ HFR.out.b).mono ?_; rintro e w2 ⟨rfl, hb2⟩; have HB2 := Lib.hid (HFR.out.below hb2); have s0 := HB2.out.r.c0; have s1 := HB2.out.r.c1; have s2 := HB2.out.r.c2; have f0 := HB2.out.r.free 0; have f1 := HB2.out.r.free 1; have f2 := HB2.out.r.free 2; have hlt := HB2.out.r.lt; clear p0 p1 p2 p3 p4 p5; obtain ⟨p0, p1, p2, p3, p4, p5⟩ := obj_cells HB2.out.x; simp only [X.op, X.nm, X.v, X.ks] at p0 p1 p2 p3 p4 p5; have hlx := lt_of_heap HB2.out.x; clear hb2))
  exact bodyPost_ret (ret_two rfl (by rfl) (by rfl) ((HB2.out.r.set a).alloc _)) rfl ⟨rfl, ((set3_below HB2.out.b (Nat.le_succ _) _ _ _).alloc (by have := HB2.out.b.size; simp [World.setCell]; omega) _)⟩
 ·rw [if_neg hz]
  have q1 : (a.k == 0) = false := by simpa using hz
  clear hz
  have TOK : Hid True := Lib.hid trivial
  go_enter Tryz.func47, Tryz.ntmps47
  go_wp2_with (first
   | (have T1 := TOK; clear TOK; go_at_call 47; refine (HC0.out _ HFR.out.b).mono ?_; rintro e w2 ⟨rfl, hb2⟩; have HB2 := Lib.hid (HFR.out.below hb2); have s0 := HB2.out.r.c0; have s1 := HB2.out.r.c1; have s2 := HB2.out.r.c2; have f0 := HB2.out.r.free 0; have f1 := HB2.out.r.free 1; have f2 := HB2.out.r.free 2; have hlt := HB2.out.r.lt; clear p0 p1 p2 p3 p4 p5; obtain ⟨p0, p1, p2, p3, p4, p5⟩ := obj_cells HB2.out.x; simp only [X.op, X.nm, X.v, X.ks] at p0 p1 p2 p3 p4 p5; have hlx := lt_of_heap HB2.out.x; clear hb2))
  exact bodyPost_ret (ret_two rfl (by rfl) (by rfl) ((HB2.out.r.set (intW a.s.size)).alloc _)) rfl ⟨rfl, ((set3_below HB2.out.b (Nat.le_succ _) _ _ _).alloc (by have := HB2.out.b.size; simp [World.setCell]; omega) _)⟩
set_option maxHeartbeats 8000000 in
set_option maxRecDepth 40000 in
theorem ev_else (o : Int) (n : ByteArray) (v : V) (ks : List X) (hl : 2 ≤ ks.length) (A : Option Addr) (c : Nat) (w : World) (hk : KidsAt w w.heap.size (.mk o n v ks) A c)
  (r0 : V × Int) (hx0 : ∀ A2 c2, KidsAt w w.heap.size (ks[0]'(by omega)) A2 c2 → EK cs row cA cc rA rc w (ks[0]'(by omega)) A2 c2 r0)
  (r1 : V × Int) (hx1 : ∀ A2 c2, KidsAt w w.heap.size (ks[1]'(by omega)) A2 c2 → EK cs row cA cc rA rc w (ks[1]'(by omega)) A2 c2 r1)
  (ho : o = 19) (he : r0.2 = 0) :
  Calls Tryz.prog 47 #[eV o n v ks.length A c, .slice cA cs.length cc, .slice rA row.length rc] w fun en w' => en = endV (if r0.1.k ≠ 0 then (r0.1, 0) else r1) ∧ Below w.heap.size w w' := by
 obtain ⟨bk, off, rfl⟩ := kid_some hk (by omega)
 obtain ⟨A0, c0, hk0, kc0, hbk⟩ := kid_at hk 0 (by omega)
 have HC0 := Lib.hid (hx0 A0 c0 hk0)
 obtain ⟨x0, hxx0⟩ : ∃ x, ks[0]'(by omega) = x := ⟨_, rfl⟩
 rw [hxx0] at kc0 HC0
 have HK0 := Lib.hid (fun (W : World) (h : Below w.heap.size w W) => kc0.below h)
 unfold EK at HC0
 obtain ⟨A1, c1, hk1, kc1, hbk⟩ := kid_at hk 1 (by omega)
 have HC1 := Lib.hid (hx1 A1 c1 hk1)
 obtain ⟨x1, hxx1⟩ : ∃ x, ks[1]'(by omega) = x := ⟨_, rfl⟩
 rw [hxx1] at kc1 HC1
 have HK1 := Lib.hid (fun (W : World) (h : Below w.heap.size w W) => kc1.below h)
 unfold EK at HC1
 obtain ⟨W1, hW1⟩ : ∃ W1, (w.alloc ((X.mk o n v ks).obj (some ⟨bk, off, none⟩) c)).alloc (.cells #[.int .i64 0, .int .i64 0, .string ⟨#[]⟩] 23) = W1 := ⟨_, rfl⟩
 have hfr : Fr o n v ks (some ⟨bk, off, none⟩) c w.heap.size (w.heap.size + 1) zV w W1 := by rw [← hW1]; exact Fr.new o n v ks _ c w
 have HFR := Lib.hid hfr
 have hbw := hfr.b.size
 obtain ⟨p0, p1, p2, p3, p4, p5⟩ := obj_cells hfr.x
 simp only [X.op, X.nm, X.v, X.ks] at p0 p1 p2 p3 p4 p5
 obtain ⟨a0, a1, a2, a3, a4, a5⟩ := HK0.out _ hfr.b
 simp only [Nat.zero_mul, Nat.add_zero] at a0 a1 a2 a3 a4 a5
 have i1 : (0 : Int) < (ks.length : Int) := by omega
 have hnil : ¬ ks = [] := by rintro rfl; simp at hl
 have i2 : (1 : Int) < (ks.length : Int) := by omega
 clear hk hfr hx0 hk0 kc0 hxx0 hx1 hk1 kc1 hxx1
 unfold X.obj at hW1
 simp only [X.op, X.nm, X.v, X.ks] at hW1
 unfold eV
 rw [endV_eq]
 simp only [endV_eq] at HC0
 simp only [endV_eq] at HC1
 subst ho
 obtain ⟨a, er⟩ := r0
 dsimp only at HC0 he ⊢
 subst he
 by_cases hz : a.k = 0
 ·rw [if_neg (by simp [hz])]
  have q1 : (a.k != 0) = false := by simpa using hz
  obtain ⟨y, e2⟩ := r1
  dsimp only at HC1 ⊢
  clear hz
  have TOK : Hid True := Lib.hid trivial
  go_enter Tryz.func47, Tryz.ntmps47
  go_wp2_with (first
   | (have T1 := TOK; clear TOK; go_at_call 47; refine (HC0.out _ HFR.out.b).mono ?_; rintro e w2 ⟨rfl, hb2⟩; have HB2 := Lib.hid (HFR.out.below hb2); have s0 := HB2.out.r.c0; have s1 := HB2.out.r.c1; have s2 := HB2.out.r.c2; have f0 := HB2.out.r.free 0; have f1 := HB2.out.r.free 1; have f2 := HB2.out.r.free 2; have hlt := HB2.out.r.lt; clear p0 p1 p2 p3 p4 p5; obtain ⟨p0, p1, p2, p3, p4, p5⟩ := obj_cells HB2.out.x; simp only [X.op, X.nm, X.v, X.ks] at p0 p1 p2 p3 p4 p5; have hlx := lt_of_heap HB2.out.x; clear hb2; obtain ⟨d0, d1, d2, d3, d4, d5⟩ := HK1.out _ HB2.out.b; simp only [Nat.one_mul, Nat.reduceMul, Nat.add_assoc, Nat.reduceAdd] at d0 d1 d2 d3 d4 d5; have hbk2 : bk < w2.heap.size := Nat.lt_of_lt_of_le hbk HB2.out.b.size)
   | (have T2 := T1; clear T1; go_at_call 47; refine (HC1.out _ (HB2.out.b.alloc HB2.out.b.size _)).mono ?_; rintro e w4 ⟨rfl, hb4⟩; have HB4 := Lib.hid ((HB2.out.below ((Below.refl _ _).alloc (Nat.le_refl _) _)).below hb4); have HA4 := Lib.hid ((Box3.new w2 a).below hb4); clear s0 s1 s2 f0 f1 f2; have s0 := HB4.out.r.c0; have s1 := HB4.out.r.c1; have s2 := HB4.out.r.c2; have f0 := HB4.out.r.free 0; have f1 := HB4.out.r.free 1; have f2 := HB4.out.r.free 2; have hlt4 := HB4.out.r.lt; clear p0 p1 p2 p3 p4 p5; obtain ⟨p0, p1, p2, p3, p4, p5⟩ := obj_cells HB4.out.x; simp only [X.op, X.nm, X.v, X.ks] at p0 p1 p2 p3 p4 p5; have hlx := lt_of_heap HB4.out.x; clear hb4))
  exact bodyPost_ret (ret_two rfl (by rfl) (by rfl) (HB4.out.r.set y)) rfl ⟨rfl, set3_below HB4.out.b (Nat.le_succ _) _ _ _⟩
 ·rw [if_pos (by simpa using hz)]
  have q1 : (a.k != 0) = true := by simpa using hz
  clear hz
  have TOK : Hid True := Lib.hid trivial
  go_enter Tryz.func47, Tryz.ntmps47
  go_wp2_with (first
   | (have T1 := TOK; clear TOK; go_at_call 47; refine (HC0.out _ HFR.out.b).mono ?_; rintro e w2 ⟨rfl, hb2⟩; have HB2 := Lib.hid (HFR.out.below hb2); have s0 := HB2.out.r.c0; have s1 := HB2.out.r.c1; have s2 := HB2.out.r.c2; have f0 := HB2.out.r.free 0; have f1 := HB2.out.r.free 1; have f2 := HB2.out.r.free 2; have hlt := HB2.out.r.lt; clear p0 p1 p2 p3 p4 p5; obtain ⟨p0, p1, p2, p3, p4, p5⟩ := obj_cells HB2.out.x; simp only [X.op, X.nm, X.v, X.ks] at p0 p1 p2 p3 p4 p5; have hlx := lt_of_heap HB2.out.x; clear hb2))
  exact bodyPost_ret (ret_two rfl (by rfl) (by rfl) ((HB2.out.r.set a).alloc _)) rfl ⟨rfl, ((set3_below HB2.out.b (Nat.le_succ _) _ _ _).alloc (by have := HB2.out.b.size; simp [World.setCell]; omega) _)⟩
set_option maxHeartbeats 8000000 in
set_option maxRecDepth 40000 in
theorem ev_if (o : Int) (n : ByteArray) (v : V) (ks : List X) (hl : 3 ≤ ks.length) (A : Option Addr) (c : Nat) (w : World) (hk : KidsAt w w.heap.size (.mk o n v ks) A c)
  (r0 : V × Int) (hx0 : ∀ A2 c2, KidsAt w w.heap.size (ks[0]'(by omega)) A2 c2 → EK cs row cA cc rA rc w (ks[0]'(by omega)) A2 c2 r0)
  (r1 : V × Int) (hx1 : ∀ A2 c2, KidsAt w w.heap.size (ks[1]'(by omega)) A2 c2 → EK cs row cA cc rA rc w (ks[1]'(by omega)) A2 c2 r1)
  (r2 : V × Int) (hx2 : ∀ A2 c2, KidsAt w w.heap.size (ks[2]'(by omega)) A2 c2 → EK cs row cA cc rA rc w (ks[2]'(by omega)) A2 c2 r2)
  (ho : o = 18) (hg : r0 = (nulV, 0) ∨ r0 = (boolW true, 0) ∨ r0 = (boolW false, 0)) :
  Calls Tryz.prog 47 #[eV o n v ks.length A c, .slice cA cs.length cc, .slice rA row.length rc] w fun en w' => en = endV (if r0.1 = boolW true then r1 else r2) ∧ Below w.heap.size w w' := by
 obtain ⟨bk, off, rfl⟩ := kid_some hk (by omega)
 obtain ⟨A0, c0, hk0, kc0, hbk⟩ := kid_at hk 0 (by omega)
 have HC0 := Lib.hid (hx0 A0 c0 hk0)
 obtain ⟨x0, hxx0⟩ : ∃ x, ks[0]'(by omega) = x := ⟨_, rfl⟩
 rw [hxx0] at kc0 HC0
 have HK0 := Lib.hid (fun (W : World) (h : Below w.heap.size w W) => kc0.below h)
 unfold EK at HC0
 obtain ⟨A1, c1, hk1, kc1, hbk⟩ := kid_at hk 1 (by omega)
 have HC1 := Lib.hid (hx1 A1 c1 hk1)
 obtain ⟨x1, hxx1⟩ : ∃ x, ks[1]'(by omega) = x := ⟨_, rfl⟩
 rw [hxx1] at kc1 HC1
 have HK1 := Lib.hid (fun (W : World) (h : Below w.heap.size w W) => kc1.below h)
 unfold EK at HC1
 obtain ⟨A2, c2, hk2, kc2, hbk⟩ := kid_at hk 2 (by omega)
 have HC2 := Lib.hid (hx2 A2 c2 hk2)
 obtain ⟨x2, hxx2⟩ : ∃ x, ks[2]'(by omega) = x := ⟨_, rfl⟩
 rw [hxx2] at kc2 HC2
 have HK2 := Lib.hid (fun (W : World) (h : Below w.heap.size w W) => kc2.below h)
 unfold EK at HC2
 obtain ⟨W1, hW1⟩ : ∃ W1, (w.alloc ((X.mk o n v ks).obj (some ⟨bk, off, none⟩) c)).alloc (.cells #[.int .i64 0, .int .i64 0, .string ⟨#[]⟩] 23) = W1 := ⟨_, rfl⟩
 have hfr : Fr o n v ks (some ⟨bk, off, none⟩) c w.heap.size (w.heap.size + 1) zV w W1 := by rw [← hW1]; exact Fr.new o n v ks _ c w
 have HFR := Lib.hid hfr
 have hbw := hfr.b.size
 obtain ⟨p0, p1, p2, p3, p4, p5⟩ := obj_cells hfr.x
 simp only [X.op, X.nm, X.v, X.ks] at p0 p1 p2 p3 p4 p5
 obtain ⟨a0, a1, a2, a3, a4, a5⟩ := HK0.out _ hfr.b
 simp only [Nat.zero_mul, Nat.add_zero] at a0 a1 a2 a3 a4 a5
 have i1 : (0 : Int) < (ks.length : Int) := by omega
 have hnil : ¬ ks = [] := by rintro rfl; simp at hl
 have i2 : (1 : Int) < (ks.length : Int) := by omega
 have i3 : (2 : Int) < (ks.length : Int) := by omega
 clear hk hfr hx0 hk0 kc0 hxx0 hx1 hk1 kc1 hxx1 hx2 hk2 kc2 hxx2
 unfold X.obj at hW1
 simp only [X.op, X.nm, X.v, X.ks] at hW1
 unfold eV
 rw [endV_eq]
 simp only [endV_eq] at HC0
 simp only [endV_eq] at HC1
 simp only [endV_eq] at HC2
 subst ho
 rcases hg with rfl | rfl | rfl
 ·
  rw [if_neg (by decide)]
  obtain ⟨y, er⟩ := r2
  dsimp only at HC2 ⊢
  unfold nulV at HC0
  dsimp only at HC0
  have TOK : Hid True := Lib.hid trivial
  go_enter Tryz.func47, Tryz.ntmps47
  go_wp2_with (first
   | (have T1 := TOK; clear TOK; go_at_call 47; refine (HC0.out _ HFR.out.b).mono ?_; rintro e w2 ⟨rfl, hb2⟩; have HB2 := Lib.hid (HFR.out.below hb2); have s0 := HB2.out.r.c0; have s1 := HB2.out.r.c1; have s2 := HB2.out.r.c2; have f0 := HB2.out.r.free 0; have f1 := HB2.out.r.free 1; have f2 := HB2.out.r.free 2; have hlt := HB2.out.r.lt; clear p0 p1 p2 p3 p4 p5; obtain ⟨p0, p1, p2, p3, p4, p5⟩ := obj_cells HB2.out.x; simp only [X.op, X.nm, X.v, X.ks] at p0 p1 p2 p3 p4 p5; have hlx := lt_of_heap HB2.out.x; clear hb2))
  obtain ⟨U, hU⟩ : ∃ q, w2.alloc (.cells #[.int .i64 0, .int .i64 0, .string ⟨#[]⟩] 23) = q := ⟨_, rfl⟩
  have hA : Box3 U w2.heap.size (nulV) := by rw [← hU]; exact Box3.new w2 (nulV)
  have hF : Fr 18 n v ks (some ⟨bk, off, none⟩) c w.heap.size (w.heap.size + 1) zV w U := by rw [← hU]; exact HB2.out.below ((Below.refl _ _).alloc (Nat.le_refl _) _)
  rw [hU]
  clear hU p0 p1 p2 p3 p4 p5 s0 s1 s2 f0 f1 f2
  have hS : Box3 U.drew w2.heap.size (nulV) ∧ Fr 18 n v ks (some ⟨bk, off, none⟩) c w.heap.size (w.heap.size + 1) zV w U.drew := ⟨hA, hF.drew⟩
  refine held_begin 3 (fun W => Box3 W w2.heap.size (nulV) ∧ Fr 18 n v ks (some ⟨bk, off, none⟩) c w.heap.size (w.heap.size + 1) zV w W) rfl (by kernel_rfl) ?_
  refine tkQ 0 83 ((.agg #[.int .i64 0, .int .i64 0, .string ⟨#[]⟩])) 2 rfl rfl (by kernel_rfl) (fun _ _ _ h => h) (.inl ⟨rfl, fun W hW => by simp [execOp, Act.eval, go_sem, hW.1.c0, hW.1.c1, hW.1.c2, nulV, boolW]⟩) hS ?_
  simp only [nA, nB, nC]
  refine held_call (i := 1) rfl (by kernel_rfl) (by kernel_rfl) ?_
  simp [Oper.wp, execOp, Act.eval, Act.put, go_sem]
  refine (truthT _).mono ?_
  rintro en w5 ⟨rfl, hb⟩
  have hS := And.intro (hS.1.below hb) (hS.2.below hb)
  clear hb
  refine ⟨hS, ?_⟩
  try simp only [nA, nB, nC]
  refine tkQ 2 85 ((.bool false)) 0 rfl rfl (by kernel_rfl) (fun _ _ _ h => h) (.inl ⟨rfl, fun W hW => by simp [execOp, Act.eval, go_sem]⟩) hS ?_
  simp only [nA, nB, nC]
  refine wpAnyH_done (by kernel_rfl) ?_ 0
  have HB2 := Lib.hid hS.2
  have HA5 := Lib.hid hS.1
  clear hS hA hF
  have s0 := HB2.out.r.c0
  have s1 := HB2.out.r.c1
  have s2 := HB2.out.r.c2
  have f0 := HB2.out.r.free 0
  have f1 := HB2.out.r.free 1
  have f2 := HB2.out.r.free 2
  have hlt := HB2.out.r.lt
  obtain ⟨p0, p1, p2, p3, p4, p5⟩ := obj_cells HB2.out.x
  simp only [X.op, X.nm, X.v, X.ks] at p0 p1 p2 p3 p4 p5
  have hlx := lt_of_heap HB2.out.x
  have e0 := HA5.out.c0; have e1 := HA5.out.c1; have e2 := HA5.out.c2
  have hle := HA5.out.lt
  obtain ⟨d0, d1, d2, d3, d4, d5⟩ := HK2.out _ HB2.out.b
  simp only [Nat.one_mul, Nat.reduceMul, Nat.add_assoc, Nat.reduceAdd] at d0 d1 d2 d3 d4 d5
  have hbk2 : bk < w5.heap.size := Nat.lt_of_lt_of_le hbk HB2.out.b.size
  go_wp2_with (first
   | (go_at_call 47; refine (HC2.out _ HB2.out.b).mono ?_; rintro e w4 ⟨rfl, hb4⟩; have HB4 := Lib.hid (HB2.out.below hb4); clear s0 s1 s2 f0 f1 f2; have s0 := HB4.out.r.c0; have s1 := HB4.out.r.c1; have s2 := HB4.out.r.c2; have f0 := HB4.out.r.free 0; have f1 := HB4.out.r.free 1; have f2 := HB4.out.r.free 2; have hlt4 := HB4.out.r.lt; clear hb4))
  exact bodyPost_ret (ret_two rfl (by rfl) (by rfl) (HB4.out.r.set y)) rfl ⟨rfl, set3_below HB4.out.b (Nat.le_succ _) _ _ _⟩
 ·
  rw [if_pos rfl]
  obtain ⟨y, er⟩ := r1
  dsimp only at HC1 ⊢
  unfold boolW at HC0
  dsimp only at HC0
  simp only [Bool.false_eq_true, if_false, if_true] at HC0
  have TOK : Hid True := Lib.hid trivial
  go_enter Tryz.func47, Tryz.ntmps47
  go_wp2_with (first
   | (have T1 := TOK; clear TOK; go_at_call 47; refine (HC0.out _ HFR.out.b).mono ?_; rintro e w2 ⟨rfl, hb2⟩; have HB2 := Lib.hid (HFR.out.below hb2); have s0 := HB2.out.r.c0; have s1 := HB2.out.r.c1; have s2 := HB2.out.r.c2; have f0 := HB2.out.r.free 0; have f1 := HB2.out.r.free 1; have f2 := HB2.out.r.free 2; have hlt := HB2.out.r.lt; clear p0 p1 p2 p3 p4 p5; obtain ⟨p0, p1, p2, p3, p4, p5⟩ := obj_cells HB2.out.x; simp only [X.op, X.nm, X.v, X.ks] at p0 p1 p2 p3 p4 p5; have hlx := lt_of_heap HB2.out.x; clear hb2))
  obtain ⟨U, hU⟩ : ∃ q, w2.alloc (.cells #[.int .i64 2, .int .i64 1, .string ⟨#[]⟩] 23) = q := ⟨_, rfl⟩
  have hA : Box3 U w2.heap.size (boolW true) := by rw [← hU]; exact Box3.new w2 (boolW true)
  have hF : Fr 18 n v ks (some ⟨bk, off, none⟩) c w.heap.size (w.heap.size + 1) zV w U := by rw [← hU]; exact HB2.out.below ((Below.refl _ _).alloc (Nat.le_refl _) _)
  rw [hU]
  clear hU p0 p1 p2 p3 p4 p5 s0 s1 s2 f0 f1 f2
  have hS : Box3 U.drew w2.heap.size (boolW true) ∧ Fr 18 n v ks (some ⟨bk, off, none⟩) c w.heap.size (w.heap.size + 1) zV w U.drew := ⟨hA, hF.drew⟩
  refine held_begin 3 (fun W => Box3 W w2.heap.size (boolW true) ∧ Fr 18 n v ks (some ⟨bk, off, none⟩) c w.heap.size (w.heap.size + 1) zV w W) rfl (by kernel_rfl) ?_
  refine tkQ 0 83 ((.agg #[.int .i64 2, .int .i64 1, .string ⟨#[]⟩])) 2 rfl rfl (by kernel_rfl) (fun _ _ _ h => h) (.inl ⟨rfl, fun W hW => by simp [execOp, Act.eval, go_sem, hW.1.c0, hW.1.c1, hW.1.c2, nulV, boolW]⟩) hS ?_
  simp only [nA, nB, nC]
  refine held_call (i := 1) rfl (by kernel_rfl) (by kernel_rfl) ?_
  simp [Oper.wp, execOp, Act.eval, Act.put, go_sem]
  refine (truthT _).mono ?_
  rintro en w5 ⟨rfl, hb⟩
  have hS := And.intro (hS.1.below hb) (hS.2.below hb)
  clear hb
  refine ⟨hS, ?_⟩
  try simp only [nA, nB, nC]
  refine tkQ 2 85 ((.bool true)) 0 rfl rfl (by kernel_rfl) (fun _ _ _ h => h) (.inl ⟨rfl, fun W hW => by simp [execOp, Act.eval, go_sem]⟩) hS ?_
  simp only [nA, nB, nC]
  refine wpAnyH_done (by kernel_rfl) ?_ 0
  have HB2 := Lib.hid hS.2
  have HA5 := Lib.hid hS.1
  clear hS hA hF
  have s0 := HB2.out.r.c0
  have s1 := HB2.out.r.c1
  have s2 := HB2.out.r.c2
  have f0 := HB2.out.r.free 0
  have f1 := HB2.out.r.free 1
  have f2 := HB2.out.r.free 2
  have hlt := HB2.out.r.lt
  obtain ⟨p0, p1, p2, p3, p4, p5⟩ := obj_cells HB2.out.x
  simp only [X.op, X.nm, X.v, X.ks] at p0 p1 p2 p3 p4 p5
  have hlx := lt_of_heap HB2.out.x
  have e0 := HA5.out.c0; have e1 := HA5.out.c1; have e2 := HA5.out.c2
  have hle := HA5.out.lt
  obtain ⟨d0, d1, d2, d3, d4, d5⟩ := HK1.out _ HB2.out.b
  simp only [Nat.one_mul, Nat.reduceMul, Nat.add_assoc, Nat.reduceAdd] at d0 d1 d2 d3 d4 d5
  have hbk2 : bk < w5.heap.size := Nat.lt_of_lt_of_le hbk HB2.out.b.size
  go_wp2_with (first
   | (go_at_call 47; refine (HC1.out _ HB2.out.b).mono ?_; rintro e w4 ⟨rfl, hb4⟩; have HB4 := Lib.hid (HB2.out.below hb4); clear s0 s1 s2 f0 f1 f2; have s0 := HB4.out.r.c0; have s1 := HB4.out.r.c1; have s2 := HB4.out.r.c2; have f0 := HB4.out.r.free 0; have f1 := HB4.out.r.free 1; have f2 := HB4.out.r.free 2; have hlt4 := HB4.out.r.lt; clear hb4))
  exact bodyPost_ret (ret_two rfl (by rfl) (by rfl) (HB4.out.r.set y)) rfl ⟨rfl, set3_below HB4.out.b (Nat.le_succ _) _ _ _⟩
 ·
  rw [if_neg (by decide)]
  obtain ⟨y, er⟩ := r2
  dsimp only at HC2 ⊢
  unfold boolW at HC0
  dsimp only at HC0
  simp only [Bool.false_eq_true, if_false, if_true] at HC0
  have TOK : Hid True := Lib.hid trivial
  go_enter Tryz.func47, Tryz.ntmps47
  go_wp2_with (first
   | (have T1 := TOK; clear TOK; go_at_call 47; refine (HC0.out _ HFR.out.b).mono ?_; rintro e w2 ⟨rfl, hb2⟩; have HB2 := Lib.hid (HFR.out.below hb2); have s0 := HB2.out.r.c0; have s1 := HB2.out.r.c1; have s2 := HB2.out.r.c2; have f0 := HB2.out.r.free 0; have f1 := HB2.out.r.free 1; have f2 := HB2.out.r.free 2; have hlt := HB2.out.r.lt; clear p0 p1 p2 p3 p4 p5; obtain ⟨p0, p1, p2, p3, p4, p5⟩ := obj_cells HB2.out.x; simp only [X.op, X.nm, X.v, X.ks] at p0 p1 p2 p3 p4 p5; have hlx := lt_of_heap HB2.out.x; clear hb2))
  obtain ⟨U, hU⟩ : ∃ q, w2.alloc (.cells #[.int .i64 2, .int .i64 0, .string ⟨#[]⟩] 23) = q := ⟨_, rfl⟩
  have hA : Box3 U w2.heap.size (boolW false) := by rw [← hU]; exact Box3.new w2 (boolW false)
  have hF : Fr 18 n v ks (some ⟨bk, off, none⟩) c w.heap.size (w.heap.size + 1) zV w U := by rw [← hU]; exact HB2.out.below ((Below.refl _ _).alloc (Nat.le_refl _) _)
  rw [hU]
  clear hU p0 p1 p2 p3 p4 p5 s0 s1 s2 f0 f1 f2
  have hS : Box3 U.drew w2.heap.size (boolW false) ∧ Fr 18 n v ks (some ⟨bk, off, none⟩) c w.heap.size (w.heap.size + 1) zV w U.drew := ⟨hA, hF.drew⟩
  refine held_begin 3 (fun W => Box3 W w2.heap.size (boolW false) ∧ Fr 18 n v ks (some ⟨bk, off, none⟩) c w.heap.size (w.heap.size + 1) zV w W) rfl (by kernel_rfl) ?_
  refine tkQ 0 83 ((.agg #[.int .i64 2, .int .i64 0, .string ⟨#[]⟩])) 2 rfl rfl (by kernel_rfl) (fun _ _ _ h => h) (.inl ⟨rfl, fun W hW => by simp [execOp, Act.eval, go_sem, hW.1.c0, hW.1.c1, hW.1.c2, nulV, boolW]⟩) hS ?_
  simp only [nA, nB, nC]
  refine held_call (i := 1) rfl (by kernel_rfl) (by kernel_rfl) ?_
  simp [Oper.wp, execOp, Act.eval, Act.put, go_sem]
  refine (truthT _).mono ?_
  rintro en w5 ⟨rfl, hb⟩
  have hS := And.intro (hS.1.below hb) (hS.2.below hb)
  clear hb
  refine ⟨hS, ?_⟩
  try simp only [nA, nB, nC]
  refine tkQ 2 85 ((.bool false)) 0 rfl rfl (by kernel_rfl) (fun _ _ _ h => h) (.inl ⟨rfl, fun W hW => by simp [execOp, Act.eval, go_sem]⟩) hS ?_
  simp only [nA, nB, nC]
  refine wpAnyH_done (by kernel_rfl) ?_ 0
  have HB2 := Lib.hid hS.2
  have HA5 := Lib.hid hS.1
  clear hS hA hF
  have s0 := HB2.out.r.c0
  have s1 := HB2.out.r.c1
  have s2 := HB2.out.r.c2
  have f0 := HB2.out.r.free 0
  have f1 := HB2.out.r.free 1
  have f2 := HB2.out.r.free 2
  have hlt := HB2.out.r.lt
  obtain ⟨p0, p1, p2, p3, p4, p5⟩ := obj_cells HB2.out.x
  simp only [X.op, X.nm, X.v, X.ks] at p0 p1 p2 p3 p4 p5
  have hlx := lt_of_heap HB2.out.x
  have e0 := HA5.out.c0; have e1 := HA5.out.c1; have e2 := HA5.out.c2
  have hle := HA5.out.lt
  obtain ⟨d0, d1, d2, d3, d4, d5⟩ := HK2.out _ HB2.out.b
  simp only [Nat.one_mul, Nat.reduceMul, Nat.add_assoc, Nat.reduceAdd] at d0 d1 d2 d3 d4 d5
  have hbk2 : bk < w5.heap.size := Nat.lt_of_lt_of_le hbk HB2.out.b.size
  go_wp2_with (first
   | (go_at_call 47; refine (HC2.out _ HB2.out.b).mono ?_; rintro e w4 ⟨rfl, hb4⟩; have HB4 := Lib.hid (HB2.out.below hb4); clear s0 s1 s2 f0 f1 f2; have s0 := HB4.out.r.c0; have s1 := HB4.out.r.c1; have s2 := HB4.out.r.c2; have f0 := HB4.out.r.free 0; have f1 := HB4.out.r.free 1; have f2 := HB4.out.r.free 2; have hlt4 := HB4.out.r.lt; clear hb4))
  exact bodyPost_ret (ret_two rfl (by rfl) (by rfl) (HB4.out.r.set y)) rfl ⟨rfl, set3_below HB4.out.b (Nat.le_succ _) _ _ _⟩
set_option maxHeartbeats 8000000 in
set_option maxRecDepth 40000 in
theorem ev_err2 (o : Int) (n : ByteArray) (v : V) (ks : List X) (hl : 2 ≤ ks.length) (A : Option Addr) (c : Nat) (w : World) (hk : KidsAt w w.heap.size (.mk o n v ks) A c)
  (r0 : V × Int) (hx0 : ∀ A2 c2, KidsAt w w.heap.size (ks[0]'(by omega)) A2 c2 → EK cs row cA cc rA rc w (ks[0]'(by omega)) A2 c2 r0)
  (r1 : V × Int) (hx1 : ∀ A2 c2, KidsAt w w.heap.size (ks[1]'(by omega)) A2 c2 → EK cs row cA cc rA rc w (ks[1]'(by omega)) A2 c2 r1)
  (ho : ((4 ≤ o ∧ o ≤ 8) ∨ (10 ≤ o ∧ o ≤ 13))) (he : r0.2 = 0) (he1 : r1.2 ≠ 0) (hn : r1.1 = nulV) :
  Calls Tryz.prog 47 #[eV o n v ks.length A c, .slice cA cs.length cc, .slice rA row.length rc] w fun en w' => en = endV (nulV, r1.2) ∧ Below w.heap.size w w' := by
 obtain ⟨bk, off, rfl⟩ := kid_some hk (by omega)
 obtain ⟨A0, c0, hk0, kc0, hbk⟩ := kid_at hk 0 (by omega)
 have HC0 := Lib.hid (hx0 A0 c0 hk0)
 obtain ⟨x0, hxx0⟩ : ∃ x, ks[0]'(by omega) = x := ⟨_, rfl⟩
 rw [hxx0] at kc0 HC0
 have HK0 := Lib.hid (fun (W : World) (h : Below w.heap.size w W) => kc0.below h)
 unfold EK at HC0
 obtain ⟨A1, c1, hk1, kc1, hbk⟩ := kid_at hk 1 (by omega)
 have HC1 := Lib.hid (hx1 A1 c1 hk1)
 obtain ⟨x1, hxx1⟩ : ∃ x, ks[1]'(by omega) = x := ⟨_, rfl⟩
 rw [hxx1] at kc1 HC1
 have HK1 := Lib.hid (fun (W : World) (h : Below w.heap.size w W) => kc1.below h)
 unfold EK at HC1
 obtain ⟨W1, hW1⟩ : ∃ W1, (w.alloc ((X.mk o n v ks).obj (some ⟨bk, off, none⟩) c)).alloc (.cells #[.int .i64 0, .int .i64 0, .string ⟨#[]⟩] 23) = W1 := ⟨_, rfl⟩
 have hfr : Fr o n v ks (some ⟨bk, off, none⟩) c w.heap.size (w.heap.size + 1) zV w W1 := by rw [← hW1]; exact Fr.new o n v ks _ c w
 have HFR := Lib.hid hfr
 have hbw := hfr.b.size
 obtain ⟨p0, p1, p2, p3, p4, p5⟩ := obj_cells hfr.x
 simp only [X.op, X.nm, X.v, X.ks] at p0 p1 p2 p3 p4 p5
 obtain ⟨a0, a1, a2, a3, a4, a5⟩ := HK0.out _ hfr.b
 simp only [Nat.zero_mul, Nat.add_zero] at a0 a1 a2 a3 a4 a5
 have i1 : (0 : Int) < (ks.length : Int) := by omega
 have hnil : ¬ ks = [] := by rintro rfl; simp at hl
 have i2 : (1 : Int) < (ks.length : Int) := by omega
 clear hk hfr hx0 hk0 kc0 hxx0 hx1 hk1 kc1 hxx1
 unfold X.obj at hW1
 simp only [X.op, X.nm, X.v, X.ks] at hW1
 unfold eV
 rw [endV_eq]
 simp only [endV_eq] at HC0
 simp only [endV_eq] at HC1
 obtain ⟨a, er⟩ := r0
 obtain ⟨z, er1⟩ := r1
 dsimp only at HC0 HC1 he he1 hn ⊢
 subst he hn
 have q0 : (er1 != 0) = true := by simpa using he1
 have b1 : (o == 1) = false := by simp; omega
 have b2 : (o == 2) = false := by simp; omega
 have b3 : (o == 3) = false := by simp; omega
 have b9 : (o == 9) = false := by simp; omega
 have b14 : (o == 14) = false := by simp; omega
 have b15 : (o == 15) = false := by simp; omega
 have b16 : (o == 16) = false := by simp; omega
 have b17 : (o == 17) = false := by simp; omega
 have b18 : (o == 18) = false := by simp; omega
 have b19 : (o == 19) = false := by simp; omega
 have b20 : (o == 20) = false := by simp; omega
 clear ho he1
 unfold nulV at HC1 ⊢
 dsimp only at HC1 ⊢
 have TOK : Hid True := Lib.hid trivial
 go_enter Tryz.func47, Tryz.ntmps47
 go_wp2_with (first
  | (have T1 := TOK; clear TOK; go_at_call 47; refine (HC0.out _ HFR.out.b).mono ?_; rintro e w2 ⟨rfl, hb2⟩; have HB2 := Lib.hid (HFR.out.below hb2); have s0 := HB2.out.r.c0; have s1 := HB2.out.r.c1; have s2 := HB2.out.r.c2; have f0 := HB2.out.r.free 0; have f1 := HB2.out.r.free 1; have f2 := HB2.out.r.free 2; have hlt := HB2.out.r.lt; clear p0 p1 p2 p3 p4 p5; obtain ⟨p0, p1, p2, p3, p4, p5⟩ := obj_cells HB2.out.x; simp only [X.op, X.nm, X.v, X.ks] at p0 p1 p2 p3 p4 p5; have hlx := lt_of_heap HB2.out.x; clear hb2; obtain ⟨d0, d1, d2, d3, d4, d5⟩ := HK1.out _ HB2.out.b; simp only [Nat.one_mul, Nat.reduceMul, Nat.add_assoc, Nat.reduceAdd] at d0 d1 d2 d3 d4 d5; have hbk2 : bk < w2.heap.size := Nat.lt_of_lt_of_le hbk HB2.out.b.size)
  | (have T2 := T1; clear T1; go_at_call 47; refine (HC1.out _ (HB2.out.b.alloc HB2.out.b.size _)).mono ?_; rintro e w4 ⟨rfl, hb4⟩; have HB4 := Lib.hid ((HB2.out.below ((Below.refl _ _).alloc (Nat.le_refl _) _)).below hb4); have HA4 := Lib.hid ((Box3.new w2 a).below hb4); clear s0 s1 s2 f0 f1 f2; have s0 := HB4.out.r.c0; have s1 := HB4.out.r.c1; have s2 := HB4.out.r.c2; have f0 := HB4.out.r.free 0; have f1 := HB4.out.r.free 1; have f2 := HB4.out.r.free 2; have hlt4 := HB4.out.r.lt; clear p0 p1 p2 p3 p4 p5; obtain ⟨p0, p1, p2, p3, p4, p5⟩ := obj_cells HB4.out.x; simp only [X.op, X.nm, X.v, X.ks] at p0 p1 p2 p3 p4 p5; have hlx := lt_of_heap HB4.out.x; have e0 := HA4.out.c0; have e1 := HA4.out.c1; have e2 := HA4.out.c2; have hle := HA4.out.lt; clear hb4))
 exact bodyPost_ret (ret_two rfl (by rfl) (by rfl) ((HB4.out.r.set nulV).alloc _)) rfl ⟨rfl, ((set3_below HB4.out.b (Nat.le_succ _) _ _ _).alloc (by have := HB4.out.b.size; simp [World.setCell]; omega) _)⟩
set_option maxHeartbeats 8000000 in
set_option maxRecDepth 40000 in
theorem ev_reck (o : Int) (n : ByteArray) (v : V) (ks : List X) (hl : 2 ≤ ks.length) (A : Option Addr) (c : Nat) (w : World) (hk : KidsAt w w.heap.size (.mk o n v ks) A c)
  (r0 : V × Int) (hx0 : ∀ A2 c2, KidsAt w w.heap.size (ks[0]'(by omega)) A2 c2 → EK cs row cA cc rA rc w (ks[0]'(by omega)) A2 c2 r0)
  (r1 : V × Int) (hx1 : ∀ A2 c2, KidsAt w w.heap.size (ks[1]'(by omega)) A2 c2 → EK cs row cA cc rA rc w (ks[1]'(by omega)) A2 c2 r1)
  (ho : 4 ≤ o ∧ o ≤ 8) (he : r0.2 = 0) (he1 : r1.2 = 0) (hw : r0.1.wf) (hw1 : r1.1.wf) :
  Calls Tryz.prog 47 #[eV o n v ks.length A c, .slice cA cs.length cc, .slice rA row.length rc] w fun en w' => en = endV (reckonX o r0.1 r1.1) ∧ Below w.heap.size w w' := by
 obtain ⟨bk, off, rfl⟩ := kid_some hk (by omega)
 obtain ⟨A0, c0, hk0, kc0, hbk⟩ := kid_at hk 0 (by omega)
 have HC0 := Lib.hid (hx0 A0 c0 hk0)
 obtain ⟨x0, hxx0⟩ : ∃ x, ks[0]'(by omega) = x := ⟨_, rfl⟩
 rw [hxx0] at kc0 HC0
 have HK0 := Lib.hid (fun (W : World) (h : Below w.heap.size w W) => kc0.below h)
 unfold EK at HC0
 obtain ⟨A1, c1, hk1, kc1, hbk⟩ := kid_at hk 1 (by omega)
 have HC1 := Lib.hid (hx1 A1 c1 hk1)
 obtain ⟨x1, hxx1⟩ : ∃ x, ks[1]'(by omega) = x := ⟨_, rfl⟩
 rw [hxx1] at kc1 HC1
 have HK1 := Lib.hid (fun (W : World) (h : Below w.heap.size w W) => kc1.below h)
 unfold EK at HC1
 obtain ⟨W1, hW1⟩ : ∃ W1, (w.alloc ((X.mk o n v ks).obj (some ⟨bk, off, none⟩) c)).alloc (.cells #[.int .i64 0, .int .i64 0, .string ⟨#[]⟩] 23) = W1 := ⟨_, rfl⟩
 have hfr : Fr o n v ks (some ⟨bk, off, none⟩) c w.heap.size (w.heap.size + 1) zV w W1 := by rw [← hW1]; exact Fr.new o n v ks _ c w
 have HFR := Lib.hid hfr
 have hbw := hfr.b.size
 obtain ⟨p0, p1, p2, p3, p4, p5⟩ := obj_cells hfr.x
 simp only [X.op, X.nm, X.v, X.ks] at p0 p1 p2 p3 p4 p5
 obtain ⟨a0, a1, a2, a3, a4, a5⟩ := HK0.out _ hfr.b
 simp only [Nat.zero_mul, Nat.add_zero] at a0 a1 a2 a3 a4 a5
 have i1 : (0 : Int) < (ks.length : Int) := by omega
 have hnil : ¬ ks = [] := by rintro rfl; simp at hl
 have i2 : (1 : Int) < (ks.length : Int) := by omega
 clear hk hfr hx0 hk0 kc0 hxx0 hx1 hk1 kc1 hxx1
 unfold X.obj at hW1
 simp only [X.op, X.nm, X.v, X.ks] at hW1
 unfold eV
 rw [endV_eq]
 simp only [endV_eq] at HC0
 simp only [endV_eq] at HC1
 obtain ⟨a, er⟩ := r0
 obtain ⟨z, er1⟩ := r1
 dsimp only at HC0 HC1 he he1 hw hw1 ⊢
 subst he he1
 have HRK := Lib.hid (rreckon_any o a z hw hw1)
 simp only [endV_eq] at HRK
 obtain ⟨⟨y, e2⟩, hy⟩ : ∃ x, reckonX o a z = x := ⟨_, rfl⟩
 rw [hy] at HRK ⊢
 unfold V.val at HRK
 dsimp only at HRK ⊢
 have b0 : o ≤ 8 := by omega
 have b1 : (o == 1) = false := by simp; omega
 have b2 : (o == 2) = false := by simp; omega
 have b3 : (o == 3) = false := by simp; omega
 have b9 : (o == 9) = false := by simp; omega
 have b14 : (o == 14) = false := by simp; omega
 have b15 : (o == 15) = false := by simp; omega
 have b16 : (o == 16) = false := by simp; omega
 have b17 : (o == 17) = false := by simp; omega
 have b18 : (o == 18) = false := by simp; omega
 have b19 : (o == 19) = false := by simp; omega
 have b20 : (o == 20) = false := by simp; omega
 clear hy ho
 have TOK : Hid True := Lib.hid trivial
 go_enter Tryz.func47, Tryz.ntmps47
 go_wp2_with (first
  | (have T1 := TOK; clear TOK; go_at_call 47; refine (HC0.out _ HFR.out.b).mono ?_; rintro e w2 ⟨rfl, hb2⟩; have HB2 := Lib.hid (HFR.out.below hb2); have s0 := HB2.out.r.c0; have s1 := HB2.out.r.c1; have s2 := HB2.out.r.c2; have f0 := HB2.out.r.free 0; have f1 := HB2.out.r.free 1; have f2 := HB2.out.r.free 2; have hlt := HB2.out.r.lt; clear p0 p1 p2 p3 p4 p5; obtain ⟨p0, p1, p2, p3, p4, p5⟩ := obj_cells HB2.out.x; simp only [X.op, X.nm, X.v, X.ks] at p0 p1 p2 p3 p4 p5; have hlx := lt_of_heap HB2.out.x; clear hb2; obtain ⟨d0, d1, d2, d3, d4, d5⟩ := HK1.out _ HB2.out.b; simp only [Nat.one_mul, Nat.reduceMul, Nat.add_assoc, Nat.reduceAdd] at d0 d1 d2 d3 d4 d5; have hbk2 : bk < w2.heap.size := Nat.lt_of_lt_of_le hbk HB2.out.b.size)
  | (have T2 := T1; clear T1; go_at_call 47; refine (HC1.out _ (HB2.out.b.alloc HB2.out.b.size _)).mono ?_; rintro e w4 ⟨rfl, hb4⟩; have HB4 := Lib.hid ((HB2.out.below ((Below.refl _ _).alloc (Nat.le_refl _) _)).below hb4); have HA4 := Lib.hid ((Box3.new w2 a).below hb4); clear s0 s1 s2 f0 f1 f2; have s0 := HB4.out.r.c0; have s1 := HB4.out.r.c1; have s2 := HB4.out.r.c2; have f0 := HB4.out.r.free 0; have f1 := HB4.out.r.free 1; have f2 := HB4.out.r.free 2; have hlt4 := HB4.out.r.lt; clear p0 p1 p2 p3 p4 p5; obtain ⟨p0, p1, p2, p3, p4, p5⟩ := obj_cells HB4.out.x; simp only [X.op, X.nm, X.v, X.ks] at p0 p1 p2 p3 p4 p5; have hlx := lt_of_heap HB4.out.x; have e0 := HA4.out.c0; have e1 := HA4.out.c1; have e2 := HA4.out.c2; have hle := HA4.out.lt; clear hb4)
  | (go_at_call 98; refine (HRK.out _).mono ?_; rintro e w6 ⟨rfl, hb6⟩; have HB6 := Lib.hid ((HB4.out.below ((Below.refl _ _).alloc (Nat.le_refl _) _)).below hb6); clear s0 s1 s2 f0 f1 f2; have s0 := HB6.out.r.c0; have s1 := HB6.out.r.c1; have s2 := HB6.out.r.c2; have f0 := HB6.out.r.free 0; have f1 := HB6.out.r.free 1; have f2 := HB6.out.r.free 2; have hlt6 := HB6.out.r.lt; clear hb6))
 exact bodyPost_ret (ret_two rfl (by rfl) (by rfl) (HB6.out.r.set y)) rfl ⟨rfl, set3_below HB6.out.b (Nat.le_succ _) _ _ _⟩
end
end Go.Proofs.YtclcabdekeegdaaGreat
