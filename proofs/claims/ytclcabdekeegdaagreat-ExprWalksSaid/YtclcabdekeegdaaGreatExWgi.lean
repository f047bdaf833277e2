/- Several texts in one: ExWg, ExWh, ExWi. -/
import Derived.Test.YtclcabdekeegdaaGreatExWdf
import Derived.Test.YtclcabdekeegdaaGreatExWp
/- Layer 13, walked: worths of choices, of columns (wip/gen/XExWg.py). -/
namespace Go.Proofs.YtclcabdekeegdaaGreat
open Go.ChangeShapes Go.WideShapes Go.ChangeAt Go.RowKit
set_option linter.unusedVariables false
set_option linter.unusedSimpArgs false
section
variable (cs : List C) (row : List V) (cA : Option Addr) (cc : Nat) (rA : Option Addr) (rc : Nat) (B b : Nat)
theorem field_kind (k n : Int) (s : ByteArray) (W : World) : (Instr.field 23 (.agg #[.int .i64 k, .int .i64 n, .string s]) 0).run Tryz.prog W = .ok (.int .i64 k) W := by kernel_rfl
/-- What is asked of the kids' cells in a later world. -/
structure KidC (x : X) (A2 : Option Addr) (c2 bk q : Nat) (W : World) : Prop where
  k0 : W.cell? ⟨bk, q, none⟩ = some (.int .i64 x.op)
  k1 : W.cell? ⟨bk, q + 1, none⟩ = some (.string x.nm)
  k2 : W.cell? ⟨bk, q + 2, none⟩ = some (.int .i64 x.v.k)
  k3 : W.cell? ⟨bk, q + 3, none⟩ = some (.int .i64 x.v.n)
  k4 : W.cell? ⟨bk, q + 4, none⟩ = some (.string x.v.s)
  k5 : W.cell? ⟨bk, q + 5, none⟩ = some (.slice A2 x.ks.length c2)
theorem KidC.below {x : X} {A2 : Option Addr} {c2 bk q : Nat} {W W' : World} (h : KidC x A2 c2 bk q W) (hb : Below W.heap.size W W') : KidC x A2 c2 bk q W' :=
  ⟨later_cell hb h.k0, later_cell hb h.k1, later_cell hb h.k2, later_cell hb h.k3, later_cell hb h.k4, later_cell hb h.k5⟩
theorem kid_at {w : World} {Bt : Nat} {o : Int} {n : ByteArray} {v : V} {ks : List X} {bk off : Nat} {c : Nat} (h : KidsAt w Bt (.mk o n v ks) (some ⟨bk, off, none⟩) c) (j : Nat) (hj : j < ks.length) : ∃ A2 c2, KidsAt w Bt ks[j] A2 c2 ∧ KidC ks[j] A2 c2 bk (off + j * 6) w ∧ bk < Bt := by
  obtain ⟨b', off', A2, c2, hA, hb, hk, c0, c1, c2', c3, c4, c5⟩ := h.at6m j hj
  injection hA with hA
  injection hA with hA1 hA2
  subst hA1 hA2
  exact ⟨A2, c2, hk, ⟨c0, c1, c2', c3, c4, c5⟩, hb⟩
theorem kid_some {w : World} {Bt : Nat} {o : Int} {n : ByteArray} {v : V} {ks : List X} {A : Option Addr} {c : Nat} (h : KidsAt w Bt (.mk o n v ks) A c) (hj : 0 < ks.length) : ∃ bk off, A = some ⟨bk, off, none⟩ := by
  obtain ⟨b', off', _, _, hA, _⟩ := h.at6m 0 hj
  exact ⟨b', off', hA⟩
set_option maxHeartbeats 8000000 in
set_option maxRecDepth 20000 in
theorem asked_any (o : Int) (n : ByteArray) (v : V) (ks : List X) (hl : 1 ≤ ks.length) (A : Option Addr) (c : Nat) (w : World) (hs : Sc cs row cA cc rA rc B b w) (hk : KidsAt w w.heap.size (.mk o n v ks) A c) (r0 : V × Int)
    (hx0 : WK cs row cA cc rA rc B b (ks[0]'(by omega)) r0)
     :
    Calls Tryz.prog 82 #[.pointer (some ⟨b, 0, none⟩), eV o n v ks.length A c] w fun en w' => en = endW (askR r0) ∧ Below w.heap.size w w' := by
  obtain ⟨bk, off, rfl⟩ := kid_some hk (by omega)
  obtain ⟨A0, c0, hk0, kc0, hbk⟩ := kid_at hk 0 (by omega)
  obtain ⟨x0, hxx0⟩ : ∃ x, ks[0]'(by omega) = x := ⟨_, rfl⟩
  rw [hxx0] at hx0 hk0 kc0
  obtain ⟨W1, hW1⟩ : ∃ W1, (w.alloc ((X.mk o n v ks).obj (some ⟨bk, off, none⟩) c)).alloc (.cells #[.int .i64 0, .int .i64 0, .string ⟨#[]⟩] 23) = W1 := ⟨_, rfl⟩
  have hfr : Fr o n v ks (some ⟨bk, off, none⟩) c w.heap.size (w.heap.size + 1) zV w W1 := by rw [← hW1]; exact Fr.new o n v ks _ c w
  have HC0 := Lib.hid (fun (W : World) (h : Below w.heap.size w W) => hx0 A0 c0 W (hs.below h) (KidsAt.more h.size (hk0.below h)))
  have HK0 := Lib.hid (fun (W : World) (h : Below w.heap.size w W) => kc0.below h)
  have HFR := Lib.hid hfr
  have hbw := hfr.b.size
  obtain ⟨p0, p1, p2, p3, p4, p5⟩ := obj_cells hfr.x
  simp only [X.op, X.nm, X.v, X.ks] at p0 p1 p2 p3 p4 p5
  obtain ⟨a0, a1, a2, a3, a4, a5⟩ := HK0.out _ hfr.b
  simp only [Nat.zero_mul, Nat.add_zero] at a0 a1 a2 a3 a4 a5
  have i1 : (0 : Int) < (ks.length : Int) := by omega
  have hnil : ¬ ks = [] := by rintro rfl; simp at hl
  clear hs hk hfr hx0 hk0 kc0 hxx0
  unfold X.obj at hW1
  simp only [X.op, X.nm, X.v, X.ks] at hW1
  unfold X.val at HC0
  unfold eV
  obtain ⟨a, er⟩ := r0
  by_cases he : er = 0
  · subst he
    rw [endW_ok rfl] at HC0
    dsimp only at HC0
    unfold V.val at HC0
    have hX : endW (askR (a, 0)) = .returned (boolW (decide (a.k = 0))).val := by unfold askR; rw [if_neg (by simp)]; exact endW_ok rfl
    rw [hX]
    clear hX
    obtain ⟨t, ht⟩ : ∃ t, decide (a.k = 0) = t := ⟨_, rfl⟩
    have q0 : (a.k == 0) = t := by rw [← ht]; rfl
    rw [ht]
    obtain ⟨N, hN, HBW, hBt⟩ := boolN t
    rw [hBt]
    clear ht hBt hN
    have hfd := field_kind
    go_enter Tryz.func82, Tryz.ntmps82
    go_wp2_with (first
      | (go_at_call 46; refine (HC0.out _ HFR.out.b).mono ?_; rintro e w2 ⟨rfl, hb2⟩; have HB2 := Lib.hid (HFR.out.below hb2); clear hb2)
      | (go_at_call 117; refine (HBW.out _).mono ?_; rintro e w4 ⟨rfl, hb4⟩; have HB4 := Lib.hid (HB2.out.below hb4); have s0 := HB4.out.r.c0; have s1 := HB4.out.r.c1; have s2 := HB4.out.r.c2; have f0 := HB4.out.r.free 0; have f1 := HB4.out.r.free 1; have f2 := HB4.out.r.free 2; clear hb4))
    exact bodyPost_ret (ret_row rfl (by rfl) (HB4.out.r.set ⟨2, N, ⟨#[]⟩⟩)) rfl ⟨rfl, set3_below HB4.out.b (Nat.le_succ _) _ _ _⟩
  · have hX : endW (askR (a, er)) = .panicked [gaveUp er] := by unfold askR; rw [if_pos he]; exact endW_no he
    rw [endW_no he] at HC0
    rw [hX]
    go_enter Tryz.func82, Tryz.ntmps82
    go_wp2_with (go_at_call 46; refine (HC0.out _ HFR.out.b).mono ?_; rintro e w2 ⟨rfl, hb2⟩; have HB2 := Lib.hid (HFR.out.below hb2); clear hb2)
    exact ⟨rfl, rfl, HB2.out.b⟩
set_option maxHeartbeats 8000000 in
set_option maxRecDepth 20000 in
theorem replaced_any (o : Int) (n : ByteArray) (v : V) (ks : List X) (hl : 2 ≤ ks.length) (A : Option Addr) (c : Nat) (w : World) (hs : Sc cs row cA cc rA rc B b w) (hk : KidsAt w w.heap.size (.mk o n v ks) A c) (r0 r1 : V × Int)
    (hx0 : WK cs row cA cc rA rc B b (ks[0]'(by omega)) r0)
    (hx1 : WK cs row cA cc rA rc B b (ks[1]'(by omega)) r1)
     :
    Calls Tryz.prog 86 #[.pointer (some ⟨b, 0, none⟩), eV o n v ks.length A c] w fun en w' => en = endW (repR r0 r1) ∧ Below w.heap.size w w' := by
  obtain ⟨bk, off, rfl⟩ := kid_some hk (by omega)
  obtain ⟨A0, c0, hk0, kc0, hbk⟩ := kid_at hk 0 (by omega)
  obtain ⟨x0, hxx0⟩ : ∃ x, ks[0]'(by omega) = x := ⟨_, rfl⟩
  rw [hxx0] at hx0 hk0 kc0
  obtain ⟨A1, c1, hk1, kc1, hbk⟩ := kid_at hk 1 (by omega)
  obtain ⟨x1, hxx1⟩ : ∃ x, ks[1]'(by omega) = x := ⟨_, rfl⟩
  rw [hxx1] at hx1 hk1 kc1
  obtain ⟨W1, hW1⟩ : ∃ W1, (w.alloc ((X.mk o n v ks).obj (some ⟨bk, off, none⟩) c)).alloc (.cells #[.int .i64 0, .int .i64 0, .string ⟨#[]⟩] 23) = W1 := ⟨_, rfl⟩
  have hfr : Fr o n v ks (some ⟨bk, off, none⟩) c w.heap.size (w.heap.size + 1) zV w W1 := by rw [← hW1]; exact Fr.new o n v ks _ c w
  have HC0 := Lib.hid (fun (W : World) (h : Below w.heap.size w W) => hx0 A0 c0 W (hs.below h) (KidsAt.more h.size (hk0.below h)))
  have HK0 := Lib.hid (fun (W : World) (h : Below w.heap.size w W) => kc0.below h)
  have HC1 := Lib.hid (fun (W : World) (h : Below w.heap.size w W) => hx1 A1 c1 W (hs.below h) (KidsAt.more h.size (hk1.below h)))
  have HK1 := Lib.hid (fun (W : World) (h : Below w.heap.size w W) => kc1.below h)
  have HFR := Lib.hid hfr
  have hbw := hfr.b.size
  obtain ⟨p0, p1, p2, p3, p4, p5⟩ := obj_cells hfr.x
  simp only [X.op, X.nm, X.v, X.ks] at p0 p1 p2 p3 p4 p5
  obtain ⟨a0, a1, a2, a3, a4, a5⟩ := HK0.out _ hfr.b
  simp only [Nat.zero_mul, Nat.add_zero] at a0 a1 a2 a3 a4 a5
  have i1 : (0 : Int) < (ks.length : Int) := by omega
  have hnil : ¬ ks = [] := by rintro rfl; simp at hl
  have i2 : (1 : Int) < (ks.length : Int) := by omega
  clear hs hk hfr hx0 hk0 kc0 hxx0 hx1 hk1 kc1 hxx1
  unfold X.obj at hW1
  simp only [X.op, X.nm, X.v, X.ks] at hW1
  unfold X.val at HC0 HC1
  unfold eV
  obtain ⟨a, er⟩ := r0
  by_cases he : er = 0
  · subst he
    rw [endW_ok rfl] at HC0
    dsimp only at HC0
    unfold V.val at HC0
    by_cases hz : a.k = 0
    · have q0 : (a.k == 0) = true := by simpa using hz
      have hX : repR (a, 0) r1 = r1 := by unfold repR; rw [if_neg (by simp), if_pos hz]
      rw [hX]
      obtain ⟨y, er1⟩ := r1
      clear hz hX
      by_cases he1 : er1 = 0
      · subst he1
        rw [endW_ok rfl]
        rw [endW_ok rfl] at HC1
        dsimp only at HC1
        unfold V.val at HC1
        go_enter Tryz.func86, Tryz.ntmps86
        go_wp2_with (first
          | (have HSEC := HB2; go_at_call 46; refine (HC1.out _ (HB2.out.b.alloc HB2.out.b.size _)).mono ?_; rintro e w4 ⟨rfl, hb4⟩; have HB4 := Lib.hid ((HB2.out.below ((Below.refl _ _).alloc (Nat.le_refl _) _)).below hb4); have s0 := HB4.out.r.c0; have s1 := HB4.out.r.c1; have s2 := HB4.out.r.c2; have f0 := HB4.out.r.free 0; have f1 := HB4.out.r.free 1; have f2 := HB4.out.r.free 2; clear hb4)
          | (go_at_call 46; refine (HC0.out _ HFR.out.b).mono ?_; rintro e w2 ⟨rfl, hb2⟩; have HB2 := Lib.hid (HFR.out.below hb2); clear hb2; obtain ⟨d0, d1, d2, d3, d4, d5⟩ := HK1.out _ HB2.out.b; simp only [Nat.one_mul, Nat.reduceMul, Nat.add_assoc, Nat.reduceAdd] at d0 d1 d2 d3 d4 d5; obtain ⟨e0, e1, e2, e3, e4, e5⟩ := obj_cells HB2.out.x; simp only [X.op, X.nm, X.v, X.ks] at e0 e1 e2 e3 e4 e5; have hn1 : bk < w2.heap.size := (Nat.lt_of_lt_of_le hbk HB2.out.b.size); have hn2 : w.heap.size < w2.heap.size := (by have := HB2.out.r.lt; omega)))
        exact bodyPost_ret (ret_row rfl (by rfl) (HB4.out.r.set y)) rfl ⟨rfl, set3_below HB4.out.b (Nat.le_succ _) _ _ _⟩
      · rw [endW_no he1] at HC1 ⊢
        go_enter Tryz.func86, Tryz.ntmps86
        go_wp2_with (first
          | (have HSEC := HB2; go_at_call 46; refine (HC1.out _ (HB2.out.b.alloc HB2.out.b.size _)).mono ?_; rintro e w4 ⟨rfl, hb4⟩; have HB4 := Lib.hid ((HB2.out.below ((Below.refl _ _).alloc (Nat.le_refl _) _)).below hb4); clear hb4)
          | (go_at_call 46; refine (HC0.out _ HFR.out.b).mono ?_; rintro e w2 ⟨rfl, hb2⟩; have HB2 := Lib.hid (HFR.out.below hb2); clear hb2; obtain ⟨d0, d1, d2, d3, d4, d5⟩ := HK1.out _ HB2.out.b; simp only [Nat.one_mul, Nat.reduceMul, Nat.add_assoc, Nat.reduceAdd] at d0 d1 d2 d3 d4 d5; obtain ⟨e0, e1, e2, e3, e4, e5⟩ := obj_cells HB2.out.x; simp only [X.op, X.nm, X.v, X.ks] at e0 e1 e2 e3 e4 e5; have hn1 : bk < w2.heap.size := (Nat.lt_of_lt_of_le hbk HB2.out.b.size); have hn2 : w.heap.size < w2.heap.size := (by have := HB2.out.r.lt; omega)))
        exact ⟨rfl, rfl, HB4.out.b⟩
    · have q0 : (a.k == 0) = false := by simpa using hz
      have hX : endW (repR (a, 0) r1) = .returned a.val := by unfold repR; rw [if_neg (by simp), if_neg hz]; exact endW_ok rfl
      rw [hX]
      clear hz hX
      go_enter Tryz.func86, Tryz.ntmps86
      go_wp2_with (go_at_call 46; refine (HC0.out _ HFR.out.b).mono ?_; rintro e w2 ⟨rfl, hb2⟩; have HB2 := Lib.hid (HFR.out.below hb2); clear hb2; have s0 := HB2.out.r.c0; have s1 := HB2.out.r.c1; have s2 := HB2.out.r.c2; have f0 := HB2.out.r.free 0; have f1 := HB2.out.r.free 1; have f2 := HB2.out.r.free 2; have hlt := HB2.out.r.lt)
      exact bodyPost_ret (ret_row rfl (by rfl) ((HB2.out.r.set a).alloc _)) rfl ⟨rfl, (set3_below HB2.out.b (Nat.le_succ _) _ _ _).alloc (by have := HB2.out.b.size; simp [World.setCell]; omega) _⟩
  · have hX : endW (repR (a, er) r1) = .panicked [gaveUp er] := by unfold repR; rw [if_pos he]; exact endW_no he
    rw [endW_no he] at HC0
    rw [hX]
    go_enter Tryz.func86, Tryz.ntmps86
    go_wp2_with (go_at_call 46; refine (HC0.out _ HFR.out.b).mono ?_; rintro e w2 ⟨rfl, hb2⟩; have HB2 := Lib.hid (HFR.out.below hb2); clear hb2)
    exact ⟨rfl, rfl, HB2.out.b⟩
end
end Go.Proofs.YtclcabdekeegdaaGreat

/- Layer 13, walked: worths of bools joined, of one of two (wip/gen/XExWg.py). -/
namespace Go.Proofs.YtclcabdekeegdaaGreat
open Go.ChangeShapes Go.WideShapes Go.ChangeAt Go.RowKit
set_option linter.unusedVariables false
set_option linter.unusedSimpArgs false
theorem boolT (w : World) : Calls Tryz.prog 117 #[.bool true] w fun e w' => e = .returned (.agg #[.int .i64 2, .int .i64 1, .string ⟨#[]⟩]) ∧ Below w.heap.size w w' := boolw_any true w
theorem boolF (w : World) : Calls Tryz.prog 117 #[.bool false] w fun e w' => e = .returned (.agg #[.int .i64 2, .int .i64 0, .string ⟨#[]⟩]) ∧ Below w.heap.size w w' := boolw_any false w
theorem endW_T : endW (boolW true, 0) = .returned (.agg #[.int .i64 2, .int .i64 1, .string ⟨#[]⟩]) := rfl
theorem endW_F : endW (boolW false, 0) = .returned (.agg #[.int .i64 2, .int .i64 0, .string ⟨#[]⟩]) := rfl
theorem endW_N : endW (nulV, 0) = .returned (.agg #[.int .i64 0, .int .i64 0, .string ⟨#[]⟩]) := rfl
section
variable (cs : List C) (row : List V) (cA : Option Addr) (cc : Nat) (rA : Option Addr) (rc : Nat) (B b : Nat)
set_option maxHeartbeats 8000000 in
set_option maxRecDepth 20000 in
theorem chosen_any (o : Int) (n : ByteArray) (v : V) (ks : List X) (hl : 3 ≤ ks.length) (A : Option Addr) (c : Nat) (w : World) (hs : Sc cs row cA cc rA rc B b w) (hk : KidsAt w w.heap.size (.mk o n v ks) A c) (r0 r1 r2 : V × Int)
    (hx0 : WK cs row cA cc rA rc B b (ks[0]'(by omega)) r0)
    (hx1 : WK cs row cA cc rA rc B b (ks[1]'(by omega)) r1)
    (hx2 : WK cs row cA cc rA rc B b (ks[2]'(by omega)) r2)
    (hg : GoodW 2 r0) :
    Calls Tryz.prog 84 #[.pointer (some ⟨b, 0, none⟩), eV o n v ks.length A c] w fun en w' => en = endW (choR r0 r1 r2) ∧ Below w.heap.size w w' := by
  obtain ⟨bk, off, rfl⟩ := kid_some hk (by omega)
  obtain ⟨A0, c0, hk0, kc0, hbk⟩ := kid_at hk 0 (by omega)
  obtain ⟨x0, hxx0⟩ : ∃ x, ks[0]'(by omega) = x := ⟨_, rfl⟩
  rw [hxx0] at hx0 hk0 kc0
  obtain ⟨A1, c1, hk1, kc1, hbk⟩ := kid_at hk 1 (by omega)
  obtain ⟨x1, hxx1⟩ : ∃ x, ks[1]'(by omega) = x := ⟨_, rfl⟩
  rw [hxx1] at hx1 hk1 kc1
  obtain ⟨A2, c2, hk2, kc2, hbk⟩ := kid_at hk 2 (by omega)
  obtain ⟨x2, hxx2⟩ : ∃ x, ks[2]'(by omega) = x := ⟨_, rfl⟩
  rw [hxx2] at hx2 hk2 kc2
  obtain ⟨W1, hW1⟩ : ∃ W1, (w.alloc ((X.mk o n v ks).obj (some ⟨bk, off, none⟩) c)).alloc (.cells #[.int .i64 0, .int .i64 0, .string ⟨#[]⟩] 23) = W1 := ⟨_, rfl⟩
  have hfr : Fr o n v ks (some ⟨bk, off, none⟩) c w.heap.size (w.heap.size + 1) zV w W1 := by rw [← hW1]; exact Fr.new o n v ks _ c w
  have HC0 := Lib.hid (fun (W : World) (h : Below w.heap.size w W) => hx0 A0 c0 W (hs.below h) (KidsAt.more h.size (hk0.below h)))
  have HK0 := Lib.hid (fun (W : World) (h : Below w.heap.size w W) => kc0.below h)
  have HC1 := Lib.hid (fun (W : World) (h : Below w.heap.size w W) => hx1 A1 c1 W (hs.below h) (KidsAt.more h.size (hk1.below h)))
  have HK1 := Lib.hid (fun (W : World) (h : Below w.heap.size w W) => kc1.below h)
  have HC2 := Lib.hid (fun (W : World) (h : Below w.heap.size w W) => hx2 A2 c2 W (hs.below h) (KidsAt.more h.size (hk2.below h)))
  have HK2 := Lib.hid (fun (W : World) (h : Below w.heap.size w W) => kc2.below h)
  have HFR := Lib.hid hfr
  have hbw := hfr.b.size
  obtain ⟨p0, p1, p2, p3, p4, p5⟩ := obj_cells hfr.x
  simp only [X.op, X.nm, X.v, X.ks] at p0 p1 p2 p3 p4 p5
  obtain ⟨a0, a1, a2, a3, a4, a5⟩ := HK0.out _ hfr.b
  simp only [Nat.zero_mul, Nat.add_zero] at a0 a1 a2 a3 a4 a5
  have i1 : (0 : Int) < (ks.length : Int) := by omega
  have hnil : ¬ ks = [] := by rintro rfl; simp at hl
  have i2 : (1 : Int) < (ks.length : Int) := by omega
  have i3 : (2 : Int) < (ks.length : Int) := by omega
  clear hs hk hfr hx0 hk0 kc0 hxx0 hx1 hk1 kc1 hxx1 hx2 hk2 kc2 hxx2
  unfold X.obj at hW1
  simp only [X.op, X.nm, X.v, X.ks] at hW1
  unfold X.val at HC0 HC1 HC2
  unfold eV
  rcases good_bool hg with rfl | rfl | rfl | hg2
  · have hX : choR (nulV, 0) r1 r2 = r2 := by unfold choR; rw [if_neg (by simp)]; rw [if_neg (by decide)]
    rw [hX]
    rw [endW_N] at HC0
    obtain ⟨y, er1⟩ := r2
    clear hX
    by_cases he1 : er1 = 0
    · subst he1
      rw [endW_ok rfl]
      rw [endW_ok rfl] at HC2
      dsimp only at HC2
      unfold V.val at HC2
      go_enter Tryz.func84, Tryz.ntmps84
      go_wp2_with (first
        | (have HSEC := HB3; go_at_call 46; refine (HC2.out _ HB3.out.b).mono ?_; rintro e w4 ⟨rfl, hb4⟩; have HB4 := Lib.hid (HB3.out.below hb4); have s0 := HB4.out.r.c0; have s1 := HB4.out.r.c1; have s2 := HB4.out.r.c2; have f0 := HB4.out.r.free 0; have f1 := HB4.out.r.free 1; have f2 := HB4.out.r.free 2; clear hb4)
        | (go_at_call 46; refine (HC0.out _ HFR.out.b).mono ?_; rintro e w2 ⟨rfl, hb2⟩; have HB2 := Lib.hid (HFR.out.below hb2); clear hb2)
        | (go_at_call 117; refine (boolT _).mono ?_; rintro e w3 ⟨rfl, hb3⟩; have HB3 := Lib.hid (HB2.out.below hb3); obtain ⟨d0, d1, d2, d3, d4, d5⟩ := HK2.out _ HB3.out.b; simp only [Nat.one_mul, Nat.reduceMul, Nat.add_assoc, Nat.reduceAdd] at d0 d1 d2 d3 d4 d5; obtain ⟨e0, e1, e2, e3, e4, e5⟩ := obj_cells HB3.out.x; simp only [X.op, X.nm, X.v, X.ks] at e0 e1 e2 e3 e4 e5; clear hb3))
      exact bodyPost_ret (ret_row rfl (by rfl) (HB4.out.r.set y)) rfl ⟨rfl, set3_below HB4.out.b (Nat.le_succ _) _ _ _⟩
    · rw [endW_no he1] at HC2 ⊢
      go_enter Tryz.func84, Tryz.ntmps84
      go_wp2_with (first
        | (have HSEC := HB3; go_at_call 46; refine (HC2.out _ HB3.out.b).mono ?_; rintro e w4 ⟨rfl, hb4⟩; have HB4 := Lib.hid (HB3.out.below hb4); clear hb4)
        | (go_at_call 46; refine (HC0.out _ HFR.out.b).mono ?_; rintro e w2 ⟨rfl, hb2⟩; have HB2 := Lib.hid (HFR.out.below hb2); clear hb2)
        | (go_at_call 117; refine (boolT _).mono ?_; rintro e w3 ⟨rfl, hb3⟩; have HB3 := Lib.hid (HB2.out.below hb3); obtain ⟨d0, d1, d2, d3, d4, d5⟩ := HK2.out _ HB3.out.b; simp only [Nat.one_mul, Nat.reduceMul, Nat.add_assoc, Nat.reduceAdd] at d0 d1 d2 d3 d4 d5; obtain ⟨e0, e1, e2, e3, e4, e5⟩ := obj_cells HB3.out.x; simp only [X.op, X.nm, X.v, X.ks] at e0 e1 e2 e3 e4 e5; clear hb3))
      exact ⟨rfl, rfl, HB4.out.b⟩
  · have hX : choR (boolW true, 0) r1 r2 = r1 := by unfold choR; rw [if_neg (by simp)]; rw [if_pos rfl]
    rw [hX]
    rw [endW_T] at HC0
    obtain ⟨y, er1⟩ := r1
    clear hX
    by_cases he1 : er1 = 0
    · subst he1
      rw [endW_ok rfl]
      rw [endW_ok rfl] at HC1
      dsimp only at HC1
      unfold V.val at HC1
      go_enter Tryz.func84, Tryz.ntmps84
      go_wp2_with (first
        | (have HSEC := HB3; go_at_call 46; refine (HC1.out _ HB3.out.b).mono ?_; rintro e w4 ⟨rfl, hb4⟩; have HB4 := Lib.hid (HB3.out.below hb4); have s0 := HB4.out.r.c0; have s1 := HB4.out.r.c1; have s2 := HB4.out.r.c2; have f0 := HB4.out.r.free 0; have f1 := HB4.out.r.free 1; have f2 := HB4.out.r.free 2; clear hb4)
        | (go_at_call 46; refine (HC0.out _ HFR.out.b).mono ?_; rintro e w2 ⟨rfl, hb2⟩; have HB2 := Lib.hid (HFR.out.below hb2); clear hb2)
        | (go_at_call 117; refine (boolT _).mono ?_; rintro e w3 ⟨rfl, hb3⟩; have HB3 := Lib.hid (HB2.out.below hb3); obtain ⟨d0, d1, d2, d3, d4, d5⟩ := HK1.out _ HB3.out.b; simp only [Nat.one_mul, Nat.reduceMul, Nat.add_assoc, Nat.reduceAdd] at d0 d1 d2 d3 d4 d5; obtain ⟨e0, e1, e2, e3, e4, e5⟩ := obj_cells HB3.out.x; simp only [X.op, X.nm, X.v, X.ks] at e0 e1 e2 e3 e4 e5; clear hb3))
      exact bodyPost_ret (ret_row rfl (by rfl) (HB4.out.r.set y)) rfl ⟨rfl, set3_below HB4.out.b (Nat.le_succ _) _ _ _⟩
    · rw [endW_no he1] at HC1 ⊢
      go_enter Tryz.func84, Tryz.ntmps84
      go_wp2_with (first
        | (have HSEC := HB3; go_at_call 46; refine (HC1.out _ HB3.out.b).mono ?_; rintro e w4 ⟨rfl, hb4⟩; have HB4 := Lib.hid (HB3.out.below hb4); clear hb4)
        | (go_at_call 46; refine (HC0.out _ HFR.out.b).mono ?_; rintro e w2 ⟨rfl, hb2⟩; have HB2 := Lib.hid (HFR.out.below hb2); clear hb2)
        | (go_at_call 117; refine (boolT _).mono ?_; rintro e w3 ⟨rfl, hb3⟩; have HB3 := Lib.hid (HB2.out.below hb3); obtain ⟨d0, d1, d2, d3, d4, d5⟩ := HK1.out _ HB3.out.b; simp only [Nat.one_mul, Nat.reduceMul, Nat.add_assoc, Nat.reduceAdd] at d0 d1 d2 d3 d4 d5; obtain ⟨e0, e1, e2, e3, e4, e5⟩ := obj_cells HB3.out.x; simp only [X.op, X.nm, X.v, X.ks] at e0 e1 e2 e3 e4 e5; clear hb3))
      exact ⟨rfl, rfl, HB4.out.b⟩
  · have hX : choR (boolW false, 0) r1 r2 = r2 := by unfold choR; rw [if_neg (by simp)]; rw [if_neg (by decide)]
    rw [hX]
    rw [endW_F] at HC0
    obtain ⟨y, er1⟩ := r2
    clear hX
    by_cases he1 : er1 = 0
    · subst he1
      rw [endW_ok rfl]
      rw [endW_ok rfl] at HC2
      dsimp only at HC2
      unfold V.val at HC2
      go_enter Tryz.func84, Tryz.ntmps84
      go_wp2_with (first
        | (have HSEC := HB3; go_at_call 46; refine (HC2.out _ HB3.out.b).mono ?_; rintro e w4 ⟨rfl, hb4⟩; have HB4 := Lib.hid (HB3.out.below hb4); have s0 := HB4.out.r.c0; have s1 := HB4.out.r.c1; have s2 := HB4.out.r.c2; have f0 := HB4.out.r.free 0; have f1 := HB4.out.r.free 1; have f2 := HB4.out.r.free 2; clear hb4)
        | (go_at_call 46; refine (HC0.out _ HFR.out.b).mono ?_; rintro e w2 ⟨rfl, hb2⟩; have HB2 := Lib.hid (HFR.out.below hb2); clear hb2)
        | (go_at_call 117; refine (boolT _).mono ?_; rintro e w3 ⟨rfl, hb3⟩; have HB3 := Lib.hid (HB2.out.below hb3); obtain ⟨d0, d1, d2, d3, d4, d5⟩ := HK2.out _ HB3.out.b; simp only [Nat.one_mul, Nat.reduceMul, Nat.add_assoc, Nat.reduceAdd] at d0 d1 d2 d3 d4 d5; obtain ⟨e0, e1, e2, e3, e4, e5⟩ := obj_cells HB3.out.x; simp only [X.op, X.nm, X.v, X.ks] at e0 e1 e2 e3 e4 e5; clear hb3))
      exact bodyPost_ret (ret_row rfl (by rfl) (HB4.out.r.set y)) rfl ⟨rfl, set3_below HB4.out.b (Nat.le_succ _) _ _ _⟩
    · rw [endW_no he1] at HC2 ⊢
      go_enter Tryz.func84, Tryz.ntmps84
      go_wp2_with (first
        | (have HSEC := HB3; go_at_call 46; refine (HC2.out _ HB3.out.b).mono ?_; rintro e w4 ⟨rfl, hb4⟩; have HB4 := Lib.hid (HB3.out.below hb4); clear hb4)
        | (go_at_call 46; refine (HC0.out _ HFR.out.b).mono ?_; rintro e w2 ⟨rfl, hb2⟩; have HB2 := Lib.hid (HFR.out.below hb2); clear hb2)
        | (go_at_call 117; refine (boolT _).mono ?_; rintro e w3 ⟨rfl, hb3⟩; have HB3 := Lib.hid (HB2.out.below hb3); obtain ⟨d0, d1, d2, d3, d4, d5⟩ := HK2.out _ HB3.out.b; simp only [Nat.one_mul, Nat.reduceMul, Nat.add_assoc, Nat.reduceAdd] at d0 d1 d2 d3 d4 d5; obtain ⟨e0, e1, e2, e3, e4, e5⟩ := obj_cells HB3.out.x; simp only [X.op, X.nm, X.v, X.ks] at e0 e1 e2 e3 e4 e5; clear hb3))
      exact ⟨rfl, rfl, HB4.out.b⟩
  · obtain ⟨a, er⟩ := r0
    have he : er ≠ 0 := by rcases hg2 with h | h <;> (injection h with _ h; omega)
    have hX : endW (choR (a, er) r1 r2) = .panicked [gaveUp er] := by unfold choR; rw [if_pos he]; exact endW_no he
    rw [endW_no he] at HC0
    rw [hX]
    go_enter Tryz.func84, Tryz.ntmps84
    go_wp2_with (go_at_call 46; refine (HC0.out _ HFR.out.b).mono ?_; rintro e w2 ⟨rfl, hb2⟩; have HB2 := Lib.hid (HFR.out.below hb2); clear hb2)
    exact ⟨rfl, rfl, HB2.out.b⟩
set_option maxHeartbeats 8000000 in
set_option maxRecDepth 20000 in
theorem joined_true (o : Int) (n : ByteArray) (v : V) (ks : List X) (hl : 2 ≤ ks.length) (A : Option Addr) (c : Nat) (w : World) (hs : Sc cs row cA cc rA rc B b w) (hk : KidsAt w w.heap.size (.mk o n v ks) A c) (r0 r1 : V × Int)
    (hx0 : WK cs row cA cc rA rc B b (ks[0]'(by omega)) r0)
    (hx1 : WK cs row cA cc rA rc B b (ks[1]'(by omega)) r1)
    (hg : GoodW 2 r0) (hg1 : GoodW 2 r1) :
    Calls Tryz.prog 116 #[.pointer (some ⟨b, 0, none⟩), eV o n v ks.length A c, .agg #[.int .i64 2, .int .i64 1, .string ⟨#[]⟩]] w fun en w' => en = endW (joinR (boolW true) r0 r1) ∧ Below w.heap.size w w' := by
  obtain ⟨bk, off, rfl⟩ := kid_some hk (by omega)
  obtain ⟨A0, c0, hk0, kc0, hbk⟩ := kid_at hk 0 (by omega)
  obtain ⟨x0, hxx0⟩ : ∃ x, ks[0]'(by omega) = x := ⟨_, rfl⟩
  rw [hxx0] at hx0 hk0 kc0
  obtain ⟨A1, c1, hk1, kc1, hbk⟩ := kid_at hk 1 (by omega)
  obtain ⟨x1, hxx1⟩ : ∃ x, ks[1]'(by omega) = x := ⟨_, rfl⟩
  rw [hxx1] at hx1 hk1 kc1
  obtain ⟨W1, hW1⟩ : ∃ W1, ((w.alloc ((X.mk o n v ks).obj (some ⟨bk, off, none⟩) c)).alloc (.cells #[.int .i64 2, .int .i64 1, .string ⟨#[]⟩] 23)).alloc (.cells #[.int .i64 0, .int .i64 0, .string ⟨#[]⟩] 23) = W1 := ⟨_, rfl⟩
  have hfr : Fr o n v ks (some ⟨bk, off, none⟩) c w.heap.size (w.heap.size + 2) zV w W1 := by rw [← hW1]; exact Fr.new3 o n v ks _ c w _
  have HC0 := Lib.hid (fun (W : World) (h : Below w.heap.size w W) => hx0 A0 c0 W (hs.below h) (KidsAt.more h.size (hk0.below h)))
  have HK0 := Lib.hid (fun (W : World) (h : Below w.heap.size w W) => kc0.below h)
  have HC1 := Lib.hid (fun (W : World) (h : Below w.heap.size w W) => hx1 A1 c1 W (hs.below h) (KidsAt.more h.size (hk1.below h)))
  have HK1 := Lib.hid (fun (W : World) (h : Below w.heap.size w W) => kc1.below h)
  have HFR := Lib.hid hfr
  have hbw := hfr.b.size
  obtain ⟨p0, p1, p2, p3, p4, p5⟩ := obj_cells hfr.x
  simp only [X.op, X.nm, X.v, X.ks] at p0 p1 p2 p3 p4 p5
  obtain ⟨a0, a1, a2, a3, a4, a5⟩ := HK0.out _ hfr.b
  simp only [Nat.zero_mul, Nat.add_zero] at a0 a1 a2 a3 a4 a5
  have i1 : (0 : Int) < (ks.length : Int) := by omega
  have hnil : ¬ ks = [] := by rintro rfl; simp at hl
  have i2 : (1 : Int) < (ks.length : Int) := by omega
  have hbt : Box3 W1 (w.heap.size + 1) (boolW true) := by
    rw [← hW1]
    have := Box3.alloc (Box3.new (w.alloc ((X.mk o n v ks).obj (some ⟨bk, off, none⟩) c)) (boolW true)) (.cells #[.int .i64 0, .int .i64 0, .string ⟨#[]⟩] 23)
    rwa [World.size_alloc] at this
  have HBT := Lib.hid hbt
  clear hbt
  clear hs hk hfr hx0 hk0 kc0 hxx0 hx1 hk1 kc1 hxx1
  unfold X.obj at hW1
  simp only [X.op, X.nm, X.v, X.ks] at hW1
  unfold X.val at HC0 HC1
  unfold eV
  rcases good_bool hg with rfl | rfl | rfl | hg2
  · rw [endW_N] at HC0
    rcases good_bool hg1 with rfl | rfl | rfl | hg3
    · have hX : endW (joinR (boolW true) (nulV, 0) (nulV, 0)) = .returned (nulV).val := rfl
      rw [hX]
      rw [endW_N] at HC1
      go_enter Tryz.func116, Tryz.ntmps116
      go_wp2_with (first
        | (have HSEC := HB2; go_at_call 46; refine (HC1.out _ (HB2.out.b.alloc HB2.out.b.size _)).mono ?_; rintro e w4 ⟨rfl, hb4⟩; have HA2 := Lib.hid ((Box3.new w2 (nulV)).below hb4); have HB4 := Lib.hid ((HB2.out.below ((Below.refl _ _).alloc (Nat.le_refl _) _)).below hb4); have HT4 := Lib.hid ((HT2.out.alloc _).below hb4); have hlt41 := HT4.out.lt; have u0 := HT4.out.c0; have u1 := HT4.out.c1; have u2 := HT4.out.c2; simp only [boolW, if_true, Bool.false_eq_true, if_false] at u0 u1 u2; have s0 := HB4.out.r.c0; have s1 := HB4.out.r.c1; have s2 := HB4.out.r.c2; have f0 := HB4.out.r.free 0; have f1 := HB4.out.r.free 1; have f2 := HB4.out.r.free 2; have v0 := HA2.out.c0; have v1 := HA2.out.c1; have v2 := HA2.out.c2; simp only [boolW, nulV, if_true, Bool.false_eq_true, if_false] at v0 v1 v2; have hlt4 := HB4.out.r.lt; have hla4 := HA2.out.lt; clear hb4)
        | (go_at_call 46; refine (HC0.out _ HFR.out.b).mono ?_; rintro e w2 ⟨rfl, hb2⟩; have HB2 := Lib.hid (HFR.out.below hb2); have HT2 := Lib.hid (HBT.out.below hb2); have hlt1 := HT2.out.lt; have t0 := HT2.out.c0; have t1 := HT2.out.c1; have t2 := HT2.out.c2; have hlt := HB2.out.r.lt; simp only [boolW, if_true, Bool.false_eq_true, if_false] at t0 t1 t2; clear hb2; obtain ⟨d0, d1, d2, d3, d4, d5⟩ := HK1.out _ HB2.out.b; simp only [Nat.one_mul, Nat.reduceMul, Nat.add_assoc, Nat.reduceAdd] at d0 d1 d2 d3 d4 d5; obtain ⟨e0, e1, e2, e3, e4, e5⟩ := obj_cells HB2.out.x; simp only [X.op, X.nm, X.v, X.ks] at e0 e1 e2 e3 e4 e5; have hn1 : bk < w2.heap.size := (Nat.lt_of_lt_of_le hbk HB2.out.b.size); have hn2 : w.heap.size < w2.heap.size := (by have := HB2.out.r.lt; omega)))
      exact bodyPost_ret (ret_row rfl (by rfl) ((HB4.out.r.set (nulV)).alloc _)) rfl ⟨rfl, (set3_below HB4.out.b (by omega) _ _ _).alloc (by have := HB4.out.b.size; simp [World.setCell]; omega) _⟩
    · have hX : endW (joinR (boolW true) (nulV, 0) (boolW true, 0)) = .returned (boolW true).val := rfl
      rw [hX]
      rw [endW_T] at HC1
      go_enter Tryz.func116, Tryz.ntmps116
      go_wp2_with (first
        | (have HSEC := HB2; go_at_call 46; refine (HC1.out _ (HB2.out.b.alloc HB2.out.b.size _)).mono ?_; rintro e w4 ⟨rfl, hb4⟩; have HA2 := Lib.hid ((Box3.new w2 (nulV)).below hb4); have HB4 := Lib.hid ((HB2.out.below ((Below.refl _ _).alloc (Nat.le_refl _) _)).below hb4); have HT4 := Lib.hid ((HT2.out.alloc _).below hb4); have hlt41 := HT4.out.lt; have u0 := HT4.out.c0; have u1 := HT4.out.c1; have u2 := HT4.out.c2; simp only [boolW, if_true, Bool.false_eq_true, if_false] at u0 u1 u2; have s0 := HB4.out.r.c0; have s1 := HB4.out.r.c1; have s2 := HB4.out.r.c2; have f0 := HB4.out.r.free 0; have f1 := HB4.out.r.free 1; have f2 := HB4.out.r.free 2; have v0 := HA2.out.c0; have v1 := HA2.out.c1; have v2 := HA2.out.c2; simp only [boolW, nulV, if_true, Bool.false_eq_true, if_false] at v0 v1 v2; have hlt4 := HB4.out.r.lt; have hla4 := HA2.out.lt; clear hb4)
        | (go_at_call 46; refine (HC0.out _ HFR.out.b).mono ?_; rintro e w2 ⟨rfl, hb2⟩; have HB2 := Lib.hid (HFR.out.below hb2); have HT2 := Lib.hid (HBT.out.below hb2); have hlt1 := HT2.out.lt; have t0 := HT2.out.c0; have t1 := HT2.out.c1; have t2 := HT2.out.c2; have hlt := HB2.out.r.lt; simp only [boolW, if_true, Bool.false_eq_true, if_false] at t0 t1 t2; clear hb2; obtain ⟨d0, d1, d2, d3, d4, d5⟩ := HK1.out _ HB2.out.b; simp only [Nat.one_mul, Nat.reduceMul, Nat.add_assoc, Nat.reduceAdd] at d0 d1 d2 d3 d4 d5; obtain ⟨e0, e1, e2, e3, e4, e5⟩ := obj_cells HB2.out.x; simp only [X.op, X.nm, X.v, X.ks] at e0 e1 e2 e3 e4 e5; have hn1 : bk < w2.heap.size := (Nat.lt_of_lt_of_le hbk HB2.out.b.size); have hn2 : w.heap.size < w2.heap.size := (by have := HB2.out.r.lt; omega)))
      exact bodyPost_ret (ret_row rfl (by rfl) ((HB4.out.r.set (boolW true)).alloc _)) rfl ⟨rfl, (set3_below HB4.out.b (by omega) _ _ _).alloc (by have := HB4.out.b.size; simp [World.setCell]; omega) _⟩
    · have hX : endW (joinR (boolW true) (nulV, 0) (boolW false, 0)) = .returned (nulV).val := rfl
      rw [hX]
      rw [endW_F] at HC1
      go_enter Tryz.func116, Tryz.ntmps116
      go_wp2_with (first
        | (have HSEC := HB2; go_at_call 46; refine (HC1.out _ (HB2.out.b.alloc HB2.out.b.size _)).mono ?_; rintro e w4 ⟨rfl, hb4⟩; have HA2 := Lib.hid ((Box3.new w2 (nulV)).below hb4); have HB4 := Lib.hid ((HB2.out.below ((Below.refl _ _).alloc (Nat.le_refl _) _)).below hb4); have HT4 := Lib.hid ((HT2.out.alloc _).below hb4); have hlt41 := HT4.out.lt; have u0 := HT4.out.c0; have u1 := HT4.out.c1; have u2 := HT4.out.c2; simp only [boolW, if_true, Bool.false_eq_true, if_false] at u0 u1 u2; have s0 := HB4.out.r.c0; have s1 := HB4.out.r.c1; have s2 := HB4.out.r.c2; have f0 := HB4.out.r.free 0; have f1 := HB4.out.r.free 1; have f2 := HB4.out.r.free 2; have v0 := HA2.out.c0; have v1 := HA2.out.c1; have v2 := HA2.out.c2; simp only [boolW, nulV, if_true, Bool.false_eq_true, if_false] at v0 v1 v2; have hlt4 := HB4.out.r.lt; have hla4 := HA2.out.lt; clear hb4)
        | (go_at_call 46; refine (HC0.out _ HFR.out.b).mono ?_; rintro e w2 ⟨rfl, hb2⟩; have HB2 := Lib.hid (HFR.out.below hb2); have HT2 := Lib.hid (HBT.out.below hb2); have hlt1 := HT2.out.lt; have t0 := HT2.out.c0; have t1 := HT2.out.c1; have t2 := HT2.out.c2; have hlt := HB2.out.r.lt; simp only [boolW, if_true, Bool.false_eq_true, if_false] at t0 t1 t2; clear hb2; obtain ⟨d0, d1, d2, d3, d4, d5⟩ := HK1.out _ HB2.out.b; simp only [Nat.one_mul, Nat.reduceMul, Nat.add_assoc, Nat.reduceAdd] at d0 d1 d2 d3 d4 d5; obtain ⟨e0, e1, e2, e3, e4, e5⟩ := obj_cells HB2.out.x; simp only [X.op, X.nm, X.v, X.ks] at e0 e1 e2 e3 e4 e5; have hn1 : bk < w2.heap.size := (Nat.lt_of_lt_of_le hbk HB2.out.b.size); have hn2 : w.heap.size < w2.heap.size := (by have := HB2.out.r.lt; omega)))
      exact bodyPost_ret (ret_row rfl (by rfl) ((HB4.out.r.set (nulV)).alloc _)) rfl ⟨rfl, (set3_below HB4.out.b (by omega) _ _ _).alloc (by have := HB4.out.b.size; simp [World.setCell]; omega) _⟩
    · obtain ⟨y, er⟩ := r1
      have he : er ≠ 0 := by rcases hg3 with h | h <;> (injection h with _ h; omega)
      have hX : endW (joinR (boolW true) (nulV, 0) (y, er)) = .panicked [gaveUp er] := by unfold joinR; rw [if_neg (by simp), if_neg (by decide), if_pos he]; exact endW_no he
      rw [endW_no he] at HC1
      rw [hX]
      go_enter Tryz.func116, Tryz.ntmps116
      go_wp2_with (first
        | (have HSEC := HB2; go_at_call 46; refine (HC1.out _ (HB2.out.b.alloc HB2.out.b.size _)).mono ?_; rintro e w4 ⟨rfl, hb4⟩; have HB4 := Lib.hid ((HB2.out.below ((Below.refl _ _).alloc (Nat.le_refl _) _)).below hb4); clear hb4)
        | (go_at_call 46; refine (HC0.out _ HFR.out.b).mono ?_; rintro e w2 ⟨rfl, hb2⟩; have HB2 := Lib.hid (HFR.out.below hb2); have HT2 := Lib.hid (HBT.out.below hb2); have hlt1 := HT2.out.lt; have t0 := HT2.out.c0; have t1 := HT2.out.c1; have t2 := HT2.out.c2; have hlt := HB2.out.r.lt; simp only [boolW, if_true, Bool.false_eq_true, if_false] at t0 t1 t2; clear hb2; obtain ⟨d0, d1, d2, d3, d4, d5⟩ := HK1.out _ HB2.out.b; simp only [Nat.one_mul, Nat.reduceMul, Nat.add_assoc, Nat.reduceAdd] at d0 d1 d2 d3 d4 d5; obtain ⟨e0, e1, e2, e3, e4, e5⟩ := obj_cells HB2.out.x; simp only [X.op, X.nm, X.v, X.ks] at e0 e1 e2 e3 e4 e5; have hn1 : bk < w2.heap.size := (Nat.lt_of_lt_of_le hbk HB2.out.b.size); have hn2 : w.heap.size < w2.heap.size := (by have := HB2.out.r.lt; omega)))
      exact ⟨rfl, rfl, HB4.out.b⟩
  · have hX : endW (joinR (boolW true) (boolW true, 0) r1) = .returned (boolW true).val := by unfold joinR; rw [if_neg (by simp), if_pos rfl]; exact endW_ok rfl
    rw [hX]
    rw [endW_T] at HC0
    go_enter Tryz.func116, Tryz.ntmps116
    go_wp2_with (go_at_call 46; refine (HC0.out _ HFR.out.b).mono ?_; rintro e w2 ⟨rfl, hb2⟩; have HB2 := Lib.hid (HFR.out.below hb2); have HT2 := Lib.hid (HBT.out.below hb2); have hlt1 := HT2.out.lt; have t0 := HT2.out.c0; have t1 := HT2.out.c1; have t2 := HT2.out.c2; have hlt := HB2.out.r.lt; simp only [boolW, if_true, Bool.false_eq_true, if_false] at t0 t1 t2; clear hb2; have s0 := HB2.out.r.c0; have s1 := HB2.out.r.c1; have s2 := HB2.out.r.c2; have f0 := HB2.out.r.free 0; have f1 := HB2.out.r.free 1; have f2 := HB2.out.r.free 2)
    exact bodyPost_ret (ret_row rfl (by rfl) ((HB2.out.r.set (boolW true)).alloc _)) rfl ⟨rfl, (set3_below HB2.out.b (by omega) _ _ _).alloc (by have := HB2.out.b.size; simp [World.setCell]; omega) _⟩
  · rw [endW_F] at HC0
    rcases good_bool hg1 with rfl | rfl | rfl | hg3
    · have hX : endW (joinR (boolW true) (boolW false, 0) (nulV, 0)) = .returned (nulV).val := rfl
      rw [hX]
      rw [endW_N] at HC1
      go_enter Tryz.func116, Tryz.ntmps116
      go_wp2_with (first
        | (have HSEC := HB2; go_at_call 46; refine (HC1.out _ (HB2.out.b.alloc HB2.out.b.size _)).mono ?_; rintro e w4 ⟨rfl, hb4⟩; have HA2 := Lib.hid ((Box3.new w2 (boolW false)).below hb4); have HB4 := Lib.hid ((HB2.out.below ((Below.refl _ _).alloc (Nat.le_refl _) _)).below hb4); have HT4 := Lib.hid ((HT2.out.alloc _).below hb4); have hlt41 := HT4.out.lt; have u0 := HT4.out.c0; have u1 := HT4.out.c1; have u2 := HT4.out.c2; simp only [boolW, if_true, Bool.false_eq_true, if_false] at u0 u1 u2; have s0 := HB4.out.r.c0; have s1 := HB4.out.r.c1; have s2 := HB4.out.r.c2; have f0 := HB4.out.r.free 0; have f1 := HB4.out.r.free 1; have f2 := HB4.out.r.free 2; have v0 := HA2.out.c0; have v1 := HA2.out.c1; have v2 := HA2.out.c2; simp only [boolW, nulV, if_true, Bool.false_eq_true, if_false] at v0 v1 v2; have hlt4 := HB4.out.r.lt; have hla4 := HA2.out.lt; clear hb4)
        | (go_at_call 46; refine (HC0.out _ HFR.out.b).mono ?_; rintro e w2 ⟨rfl, hb2⟩; have HB2 := Lib.hid (HFR.out.below hb2); have HT2 := Lib.hid (HBT.out.below hb2); have hlt1 := HT2.out.lt; have t0 := HT2.out.c0; have t1 := HT2.out.c1; have t2 := HT2.out.c2; have hlt := HB2.out.r.lt; simp only [boolW, if_true, Bool.false_eq_true, if_false] at t0 t1 t2; clear hb2; obtain ⟨d0, d1, d2, d3, d4, d5⟩ := HK1.out _ HB2.out.b; simp only [Nat.one_mul, Nat.reduceMul, Nat.add_assoc, Nat.reduceAdd] at d0 d1 d2 d3 d4 d5; obtain ⟨e0, e1, e2, e3, e4, e5⟩ := obj_cells HB2.out.x; simp only [X.op, X.nm, X.v, X.ks] at e0 e1 e2 e3 e4 e5; have hn1 : bk < w2.heap.size := (Nat.lt_of_lt_of_le hbk HB2.out.b.size); have hn2 : w.heap.size < w2.heap.size := (by have := HB2.out.r.lt; omega)))
      exact bodyPost_ret (ret_row rfl (by rfl) ((HB4.out.r.set (nulV)).alloc _)) rfl ⟨rfl, (set3_below HB4.out.b (by omega) _ _ _).alloc (by have := HB4.out.b.size; simp [World.setCell]; omega) _⟩
    · have hX : endW (joinR (boolW true) (boolW false, 0) (boolW true, 0)) = .returned (boolW true).val := rfl
      rw [hX]
      rw [endW_T] at HC1
      go_enter Tryz.func116, Tryz.ntmps116
      go_wp2_with (first
        | (have HSEC := HB2; go_at_call 46; refine (HC1.out _ (HB2.out.b.alloc HB2.out.b.size _)).mono ?_; rintro e w4 ⟨rfl, hb4⟩; have HA2 := Lib.hid ((Box3.new w2 (boolW false)).below hb4); have HB4 := Lib.hid ((HB2.out.below ((Below.refl _ _).alloc (Nat.le_refl _) _)).below hb4); have HT4 := Lib.hid ((HT2.out.alloc _).below hb4); have hlt41 := HT4.out.lt; have u0 := HT4.out.c0; have u1 := HT4.out.c1; have u2 := HT4.out.c2; simp only [boolW, if_true, Bool.false_eq_true, if_false] at u0 u1 u2; have s0 := HB4.out.r.c0; have s1 := HB4.out.r.c1; have s2 := HB4.out.r.c2; have f0 := HB4.out.r.free 0; have f1 := HB4.out.r.free 1; have f2 := HB4.out.r.free 2; have v0 := HA2.out.c0; have v1 := HA2.out.c1; have v2 := HA2.out.c2; simp only [boolW, nulV, if_true, Bool.false_eq_true, if_false] at v0 v1 v2; have hlt4 := HB4.out.r.lt; have hla4 := HA2.out.lt; clear hb4)
        | (go_at_call 46; refine (HC0.out _ HFR.out.b).mono ?_; rintro e w2 ⟨rfl, hb2⟩; have HB2 := Lib.hid (HFR.out.below hb2); have HT2 := Lib.hid (HBT.out.below hb2); have hlt1 := HT2.out.lt; have t0 := HT2.out.c0; have t1 := HT2.out.c1; have t2 := HT2.out.c2; have hlt := HB2.out.r.lt; simp only [boolW, if_true, Bool.false_eq_true, if_false] at t0 t1 t2; clear hb2; obtain ⟨d0, d1, d2, d3, d4, d5⟩ := HK1.out _ HB2.out.b; simp only [Nat.one_mul, Nat.reduceMul, Nat.add_assoc, Nat.reduceAdd] at d0 d1 d2 d3 d4 d5; obtain ⟨e0, e1, e2, e3, e4, e5⟩ := obj_cells HB2.out.x; simp only [X.op, X.nm, X.v, X.ks] at e0 e1 e2 e3 e4 e5; have hn1 : bk < w2.heap.size := (Nat.lt_of_lt_of_le hbk HB2.out.b.size); have hn2 : w.heap.size < w2.heap.size := (by have := HB2.out.r.lt; omega)))
      exact bodyPost_ret (ret_row rfl (by rfl) ((HB4.out.r.set (boolW true)).alloc _)) rfl ⟨rfl, (set3_below HB4.out.b (by omega) _ _ _).alloc (by have := HB4.out.b.size; simp [World.setCell]; omega) _⟩
    · have hX : endW (joinR (boolW true) (boolW false, 0) (boolW false, 0)) = .returned (boolW false).val := rfl
      rw [hX]
      rw [endW_F] at HC1
      go_enter Tryz.func116, Tryz.ntmps116
      go_wp2_with (first
        | (have HSEC := HB2; go_at_call 46; refine (HC1.out _ (HB2.out.b.alloc HB2.out.b.size _)).mono ?_; rintro e w4 ⟨rfl, hb4⟩; have HA2 := Lib.hid ((Box3.new w2 (boolW false)).below hb4); have HB4 := Lib.hid ((HB2.out.below ((Below.refl _ _).alloc (Nat.le_refl _) _)).below hb4); have HT4 := Lib.hid ((HT2.out.alloc _).below hb4); have hlt41 := HT4.out.lt; have u0 := HT4.out.c0; have u1 := HT4.out.c1; have u2 := HT4.out.c2; simp only [boolW, if_true, Bool.false_eq_true, if_false] at u0 u1 u2; have s0 := HB4.out.r.c0; have s1 := HB4.out.r.c1; have s2 := HB4.out.r.c2; have f0 := HB4.out.r.free 0; have f1 := HB4.out.r.free 1; have f2 := HB4.out.r.free 2; have v0 := HA2.out.c0; have v1 := HA2.out.c1; have v2 := HA2.out.c2; simp only [boolW, nulV, if_true, Bool.false_eq_true, if_false] at v0 v1 v2; have hlt4 := HB4.out.r.lt; have hla4 := HA2.out.lt; clear hb4)
        | (go_at_call 46; refine (HC0.out _ HFR.out.b).mono ?_; rintro e w2 ⟨rfl, hb2⟩; have HB2 := Lib.hid (HFR.out.below hb2); have HT2 := Lib.hid (HBT.out.below hb2); have hlt1 := HT2.out.lt; have t0 := HT2.out.c0; have t1 := HT2.out.c1; have t2 := HT2.out.c2; have hlt := HB2.out.r.lt; simp only [boolW, if_true, Bool.false_eq_true, if_false] at t0 t1 t2; clear hb2; obtain ⟨d0, d1, d2, d3, d4, d5⟩ := HK1.out _ HB2.out.b; simp only [Nat.one_mul, Nat.reduceMul, Nat.add_assoc, Nat.reduceAdd] at d0 d1 d2 d3 d4 d5; obtain ⟨e0, e1, e2, e3, e4, e5⟩ := obj_cells HB2.out.x; simp only [X.op, X.nm, X.v, X.ks] at e0 e1 e2 e3 e4 e5; have hn1 : bk < w2.heap.size := (Nat.lt_of_lt_of_le hbk HB2.out.b.size); have hn2 : w.heap.size < w2.heap.size := (by have := HB2.out.r.lt; omega)))
      exact bodyPost_ret (ret_row rfl (by rfl) ((HB4.out.r.set (boolW false)).alloc _)) rfl ⟨rfl, (set3_below HB4.out.b (by omega) _ _ _).alloc (by have := HB4.out.b.size; simp [World.setCell]; omega) _⟩
    · obtain ⟨y, er⟩ := r1
      have he : er ≠ 0 := by rcases hg3 with h | h <;> (injection h with _ h; omega)
      have hX : endW (joinR (boolW true) (boolW false, 0) (y, er)) = .panicked [gaveUp er] := by unfold joinR; rw [if_neg (by simp), if_neg (by decide), if_pos he]; exact endW_no he
      rw [endW_no he] at HC1
      rw [hX]
      go_enter Tryz.func116, Tryz.ntmps116
      go_wp2_with (first
        | (have HSEC := HB2; go_at_call 46; refine (HC1.out _ (HB2.out.b.alloc HB2.out.b.size _)).mono ?_; rintro e w4 ⟨rfl, hb4⟩; have HB4 := Lib.hid ((HB2.out.below ((Below.refl _ _).alloc (Nat.le_refl _) _)).below hb4); clear hb4)
        | (go_at_call 46; refine (HC0.out _ HFR.out.b).mono ?_; rintro e w2 ⟨rfl, hb2⟩; have HB2 := Lib.hid (HFR.out.below hb2); have HT2 := Lib.hid (HBT.out.below hb2); have hlt1 := HT2.out.lt; have t0 := HT2.out.c0; have t1 := HT2.out.c1; have t2 := HT2.out.c2; have hlt := HB2.out.r.lt; simp only [boolW, if_true, Bool.false_eq_true, if_false] at t0 t1 t2; clear hb2; obtain ⟨d0, d1, d2, d3, d4, d5⟩ := HK1.out _ HB2.out.b; simp only [Nat.one_mul, Nat.reduceMul, Nat.add_assoc, Nat.reduceAdd] at d0 d1 d2 d3 d4 d5; obtain ⟨e0, e1, e2, e3, e4, e5⟩ := obj_cells HB2.out.x; simp only [X.op, X.nm, X.v, X.ks] at e0 e1 e2 e3 e4 e5; have hn1 : bk < w2.heap.size := (Nat.lt_of_lt_of_le hbk HB2.out.b.size); have hn2 : w.heap.size < w2.heap.size := (by have := HB2.out.r.lt; omega)))
      exact ⟨rfl, rfl, HB4.out.b⟩
  · obtain ⟨a, er⟩ := r0
    have he : er ≠ 0 := by rcases hg2 with h | h <;> (injection h with _ h; omega)
    have hX : endW (joinR (boolW true) (a, er) r1) = .panicked [gaveUp er] := by unfold joinR; rw [if_pos he]; exact endW_no he
    rw [endW_no he] at HC0
    rw [hX]
    go_enter Tryz.func116, Tryz.ntmps116
    go_wp2_with (go_at_call 46; refine (HC0.out _ HFR.out.b).mono ?_; rintro e w2 ⟨rfl, hb2⟩; have HB2 := Lib.hid (HFR.out.below hb2); clear hb2)
    exact ⟨rfl, rfl, HB2.out.b⟩
set_option maxHeartbeats 8000000 in
set_option maxRecDepth 20000 in
theorem joined_false (o : Int) (n : ByteArray) (v : V) (ks : List X) (hl : 2 ≤ ks.length) (A : Option Addr) (c : Nat) (w : World) (hs : Sc cs row cA cc rA rc B b w) (hk : KidsAt w w.heap.size (.mk o n v ks) A c) (r0 r1 : V × Int)
    (hx0 : WK cs row cA cc rA rc B b (ks[0]'(by omega)) r0)
    (hx1 : WK cs row cA cc rA rc B b (ks[1]'(by omega)) r1)
    (hg : GoodW 2 r0) (hg1 : GoodW 2 r1) :
    Calls Tryz.prog 116 #[.pointer (some ⟨b, 0, none⟩), eV o n v ks.length A c, .agg #[.int .i64 2, .int .i64 0, .string ⟨#[]⟩]] w fun en w' => en = endW (joinR (boolW false) r0 r1) ∧ Below w.heap.size w w' := by
  obtain ⟨bk, off, rfl⟩ := kid_some hk (by omega)
  obtain ⟨A0, c0, hk0, kc0, hbk⟩ := kid_at hk 0 (by omega)
  obtain ⟨x0, hxx0⟩ : ∃ x, ks[0]'(by omega) = x := ⟨_, rfl⟩
  rw [hxx0] at hx0 hk0 kc0
  obtain ⟨A1, c1, hk1, kc1, hbk⟩ := kid_at hk 1 (by omega)
  obtain ⟨x1, hxx1⟩ : ∃ x, ks[1]'(by omega) = x := ⟨_, rfl⟩
  rw [hxx1] at hx1 hk1 kc1
  obtain ⟨W1, hW1⟩ : ∃ W1, ((w.alloc ((X.mk o n v ks).obj (some ⟨bk, off, none⟩) c)).alloc (.cells #[.int .i64 2, .int .i64 0, .string ⟨#[]⟩] 23)).alloc (.cells #[.int .i64 0, .int .i64 0, .string ⟨#[]⟩] 23) = W1 := ⟨_, rfl⟩
  have hfr : Fr o n v ks (some ⟨bk, off, none⟩) c w.heap.size (w.heap.size + 2) zV w W1 := by rw [← hW1]; exact Fr.new3 o n v ks _ c w _
  have HC0 := Lib.hid (fun (W : World) (h : Below w.heap.size w W) => hx0 A0 c0 W (hs.below h) (KidsAt.more h.size (hk0.below h)))
  have HK0 := Lib.hid (fun (W : World) (h : Below w.heap.size w W) => kc0.below h)
  have HC1 := Lib.hid (fun (W : World) (h : Below w.heap.size w W) => hx1 A1 c1 W (hs.below h) (KidsAt.more h.size (hk1.below h)))
  have HK1 := Lib.hid (fun (W : World) (h : Below w.heap.size w W) => kc1.below h)
  have HFR := Lib.hid hfr
  have hbw := hfr.b.size
  obtain ⟨p0, p1, p2, p3, p4, p5⟩ := obj_cells hfr.x
  simp only [X.op, X.nm, X.v, X.ks] at p0 p1 p2 p3 p4 p5
  obtain ⟨a0, a1, a2, a3, a4, a5⟩ := HK0.out _ hfr.b
  simp only [Nat.zero_mul, Nat.add_zero] at a0 a1 a2 a3 a4 a5
  have i1 : (0 : Int) < (ks.length : Int) := by omega
  have hnil : ¬ ks = [] := by rintro rfl; simp at hl
  have i2 : (1 : Int) < (ks.length : Int) := by omega
  have hbt : Box3 W1 (w.heap.size + 1) (boolW false) := by
    rw [← hW1]
    have := Box3.alloc (Box3.new (w.alloc ((X.mk o n v ks).obj (some ⟨bk, off, none⟩) c)) (boolW false)) (.cells #[.int .i64 0, .int .i64 0, .string ⟨#[]⟩] 23)
    rwa [World.size_alloc] at this
  have HBT := Lib.hid hbt
  clear hbt
  clear hs hk hfr hx0 hk0 kc0 hxx0 hx1 hk1 kc1 hxx1
  unfold X.obj at hW1
  simp only [X.op, X.nm, X.v, X.ks] at hW1
  unfold X.val at HC0 HC1
  unfold eV
  rcases good_bool hg with rfl | rfl | rfl | hg2
  · rw [endW_N] at HC0
    rcases good_bool hg1 with rfl | rfl | rfl | hg3
    · have hX : endW (joinR (boolW false) (nulV, 0) (nulV, 0)) = .returned (nulV).val := rfl
      rw [hX]
      rw [endW_N] at HC1
      go_enter Tryz.func116, Tryz.ntmps116
      go_wp2_with (first
        | (have HSEC := HB2; go_at_call 46; refine (HC1.out _ (HB2.out.b.alloc HB2.out.b.size _)).mono ?_; rintro e w4 ⟨rfl, hb4⟩; have HA2 := Lib.hid ((Box3.new w2 (nulV)).below hb4); have HB4 := Lib.hid ((HB2.out.below ((Below.refl _ _).alloc (Nat.le_refl _) _)).below hb4); have HT4 := Lib.hid ((HT2.out.alloc _).below hb4); have hlt41 := HT4.out.lt; have u0 := HT4.out.c0; have u1 := HT4.out.c1; have u2 := HT4.out.c2; simp only [boolW, if_true, Bool.false_eq_true, if_false] at u0 u1 u2; have s0 := HB4.out.r.c0; have s1 := HB4.out.r.c1; have s2 := HB4.out.r.c2; have f0 := HB4.out.r.free 0; have f1 := HB4.out.r.free 1; have f2 := HB4.out.r.free 2; have v0 := HA2.out.c0; have v1 := HA2.out.c1; have v2 := HA2.out.c2; simp only [boolW, nulV, if_true, Bool.false_eq_true, if_false] at v0 v1 v2; have hlt4 := HB4.out.r.lt; have hla4 := HA2.out.lt; clear hb4)
        | (go_at_call 46; refine (HC0.out _ HFR.out.b).mono ?_; rintro e w2 ⟨rfl, hb2⟩; have HB2 := Lib.hid (HFR.out.below hb2); have HT2 := Lib.hid (HBT.out.below hb2); have hlt1 := HT2.out.lt; have t0 := HT2.out.c0; have t1 := HT2.out.c1; have t2 := HT2.out.c2; have hlt := HB2.out.r.lt; simp only [boolW, if_true, Bool.false_eq_true, if_false] at t0 t1 t2; clear hb2; obtain ⟨d0, d1, d2, d3, d4, d5⟩ := HK1.out _ HB2.out.b; simp only [Nat.one_mul, Nat.reduceMul, Nat.add_assoc, Nat.reduceAdd] at d0 d1 d2 d3 d4 d5; obtain ⟨e0, e1, e2, e3, e4, e5⟩ := obj_cells HB2.out.x; simp only [X.op, X.nm, X.v, X.ks] at e0 e1 e2 e3 e4 e5; have hn1 : bk < w2.heap.size := (Nat.lt_of_lt_of_le hbk HB2.out.b.size); have hn2 : w.heap.size < w2.heap.size := (by have := HB2.out.r.lt; omega)))
      exact bodyPost_ret (ret_row rfl (by rfl) ((HB4.out.r.set (nulV)).alloc _)) rfl ⟨rfl, (set3_below HB4.out.b (by omega) _ _ _).alloc (by have := HB4.out.b.size; simp [World.setCell]; omega) _⟩
    · have hX : endW (joinR (boolW false) (nulV, 0) (boolW true, 0)) = .returned (nulV).val := rfl
      rw [hX]
      rw [endW_T] at HC1
      go_enter Tryz.func116, Tryz.ntmps116
      go_wp2_with (first
        | (have HSEC := HB2; go_at_call 46; refine (HC1.out _ (HB2.out.b.alloc HB2.out.b.size _)).mono ?_; rintro e w4 ⟨rfl, hb4⟩; have HA2 := Lib.hid ((Box3.new w2 (nulV)).below hb4); have HB4 := Lib.hid ((HB2.out.below ((Below.refl _ _).alloc (Nat.le_refl _) _)).below hb4); have HT4 := Lib.hid ((HT2.out.alloc _).below hb4); have hlt41 := HT4.out.lt; have u0 := HT4.out.c0; have u1 := HT4.out.c1; have u2 := HT4.out.c2; simp only [boolW, if_true, Bool.false_eq_true, if_false] at u0 u1 u2; have s0 := HB4.out.r.c0; have s1 := HB4.out.r.c1; have s2 := HB4.out.r.c2; have f0 := HB4.out.r.free 0; have f1 := HB4.out.r.free 1; have f2 := HB4.out.r.free 2; have v0 := HA2.out.c0; have v1 := HA2.out.c1; have v2 := HA2.out.c2; simp only [boolW, nulV, if_true, Bool.false_eq_true, if_false] at v0 v1 v2; have hlt4 := HB4.out.r.lt; have hla4 := HA2.out.lt; clear hb4)
        | (go_at_call 46; refine (HC0.out _ HFR.out.b).mono ?_; rintro e w2 ⟨rfl, hb2⟩; have HB2 := Lib.hid (HFR.out.below hb2); have HT2 := Lib.hid (HBT.out.below hb2); have hlt1 := HT2.out.lt; have t0 := HT2.out.c0; have t1 := HT2.out.c1; have t2 := HT2.out.c2; have hlt := HB2.out.r.lt; simp only [boolW, if_true, Bool.false_eq_true, if_false] at t0 t1 t2; clear hb2; obtain ⟨d0, d1, d2, d3, d4, d5⟩ := HK1.out _ HB2.out.b; simp only [Nat.one_mul, Nat.reduceMul, Nat.add_assoc, Nat.reduceAdd] at d0 d1 d2 d3 d4 d5; obtain ⟨e0, e1, e2, e3, e4, e5⟩ := obj_cells HB2.out.x; simp only [X.op, X.nm, X.v, X.ks] at e0 e1 e2 e3 e4 e5; have hn1 : bk < w2.heap.size := (Nat.lt_of_lt_of_le hbk HB2.out.b.size); have hn2 : w.heap.size < w2.heap.size := (by have := HB2.out.r.lt; omega)))
      exact bodyPost_ret (ret_row rfl (by rfl) ((HB4.out.r.set (nulV)).alloc _)) rfl ⟨rfl, (set3_below HB4.out.b (by omega) _ _ _).alloc (by have := HB4.out.b.size; simp [World.setCell]; omega) _⟩
    · have hX : endW (joinR (boolW false) (nulV, 0) (boolW false, 0)) = .returned (boolW false).val := rfl
      rw [hX]
      rw [endW_F] at HC1
      go_enter Tryz.func116, Tryz.ntmps116
      go_wp2_with (first
        | (have HSEC := HB2; go_at_call 46; refine (HC1.out _ (HB2.out.b.alloc HB2.out.b.size _)).mono ?_; rintro e w4 ⟨rfl, hb4⟩; have HA2 := Lib.hid ((Box3.new w2 (nulV)).below hb4); have HB4 := Lib.hid ((HB2.out.below ((Below.refl _ _).alloc (Nat.le_refl _) _)).below hb4); have HT4 := Lib.hid ((HT2.out.alloc _).below hb4); have hlt41 := HT4.out.lt; have u0 := HT4.out.c0; have u1 := HT4.out.c1; have u2 := HT4.out.c2; simp only [boolW, if_true, Bool.false_eq_true, if_false] at u0 u1 u2; have s0 := HB4.out.r.c0; have s1 := HB4.out.r.c1; have s2 := HB4.out.r.c2; have f0 := HB4.out.r.free 0; have f1 := HB4.out.r.free 1; have f2 := HB4.out.r.free 2; have v0 := HA2.out.c0; have v1 := HA2.out.c1; have v2 := HA2.out.c2; simp only [boolW, nulV, if_true, Bool.false_eq_true, if_false] at v0 v1 v2; have hlt4 := HB4.out.r.lt; have hla4 := HA2.out.lt; clear hb4)
        | (go_at_call 46; refine (HC0.out _ HFR.out.b).mono ?_; rintro e w2 ⟨rfl, hb2⟩; have HB2 := Lib.hid (HFR.out.below hb2); have HT2 := Lib.hid (HBT.out.below hb2); have hlt1 := HT2.out.lt; have t0 := HT2.out.c0; have t1 := HT2.out.c1; have t2 := HT2.out.c2; have hlt := HB2.out.r.lt; simp only [boolW, if_true, Bool.false_eq_true, if_false] at t0 t1 t2; clear hb2; obtain ⟨d0, d1, d2, d3, d4, d5⟩ := HK1.out _ HB2.out.b; simp only [Nat.one_mul, Nat.reduceMul, Nat.add_assoc, Nat.reduceAdd] at d0 d1 d2 d3 d4 d5; obtain ⟨e0, e1, e2, e3, e4, e5⟩ := obj_cells HB2.out.x; simp only [X.op, X.nm, X.v, X.ks] at e0 e1 e2 e3 e4 e5; have hn1 : bk < w2.heap.size := (Nat.lt_of_lt_of_le hbk HB2.out.b.size); have hn2 : w.heap.size < w2.heap.size := (by have := HB2.out.r.lt; omega)))
      exact bodyPost_ret (ret_row rfl (by rfl) ((HB4.out.r.set (boolW false)).alloc _)) rfl ⟨rfl, (set3_below HB4.out.b (by omega) _ _ _).alloc (by have := HB4.out.b.size; simp [World.setCell]; omega) _⟩
    · obtain ⟨y, er⟩ := r1
      have he : er ≠ 0 := by rcases hg3 with h | h <;> (injection h with _ h; omega)
      have hX : endW (joinR (boolW false) (nulV, 0) (y, er)) = .panicked [gaveUp er] := by unfold joinR; rw [if_neg (by simp), if_neg (by decide), if_pos he]; exact endW_no he
      rw [endW_no he] at HC1
      rw [hX]
      go_enter Tryz.func116, Tryz.ntmps116
      go_wp2_with (first
        | (have HSEC := HB2; go_at_call 46; refine (HC1.out _ (HB2.out.b.alloc HB2.out.b.size _)).mono ?_; rintro e w4 ⟨rfl, hb4⟩; have HB4 := Lib.hid ((HB2.out.below ((Below.refl _ _).alloc (Nat.le_refl _) _)).below hb4); clear hb4)
        | (go_at_call 46; refine (HC0.out _ HFR.out.b).mono ?_; rintro e w2 ⟨rfl, hb2⟩; have HB2 := Lib.hid (HFR.out.below hb2); have HT2 := Lib.hid (HBT.out.below hb2); have hlt1 := HT2.out.lt; have t0 := HT2.out.c0; have t1 := HT2.out.c1; have t2 := HT2.out.c2; have hlt := HB2.out.r.lt; simp only [boolW, if_true, Bool.false_eq_true, if_false] at t0 t1 t2; clear hb2; obtain ⟨d0, d1, d2, d3, d4, d5⟩ := HK1.out _ HB2.out.b; simp only [Nat.one_mul, Nat.reduceMul, Nat.add_assoc, Nat.reduceAdd] at d0 d1 d2 d3 d4 d5; obtain ⟨e0, e1, e2, e3, e4, e5⟩ := obj_cells HB2.out.x; simp only [X.op, X.nm, X.v, X.ks] at e0 e1 e2 e3 e4 e5; have hn1 : bk < w2.heap.size := (Nat.lt_of_lt_of_le hbk HB2.out.b.size); have hn2 : w.heap.size < w2.heap.size := (by have := HB2.out.r.lt; omega)))
      exact ⟨rfl, rfl, HB4.out.b⟩
  · rw [endW_T] at HC0
    rcases good_bool hg1 with rfl | rfl | rfl | hg3
    · have hX : endW (joinR (boolW false) (boolW true, 0) (nulV, 0)) = .returned (nulV).val := rfl
      rw [hX]
      rw [endW_N] at HC1
      go_enter Tryz.func116, Tryz.ntmps116
      go_wp2_with (first
        | (have HSEC := HB2; go_at_call 46; refine (HC1.out _ (HB2.out.b.alloc HB2.out.b.size _)).mono ?_; rintro e w4 ⟨rfl, hb4⟩; have HA2 := Lib.hid ((Box3.new w2 (boolW true)).below hb4); have HB4 := Lib.hid ((HB2.out.below ((Below.refl _ _).alloc (Nat.le_refl _) _)).below hb4); have HT4 := Lib.hid ((HT2.out.alloc _).below hb4); have hlt41 := HT4.out.lt; have u0 := HT4.out.c0; have u1 := HT4.out.c1; have u2 := HT4.out.c2; simp only [boolW, if_true, Bool.false_eq_true, if_false] at u0 u1 u2; have s0 := HB4.out.r.c0; have s1 := HB4.out.r.c1; have s2 := HB4.out.r.c2; have f0 := HB4.out.r.free 0; have f1 := HB4.out.r.free 1; have f2 := HB4.out.r.free 2; have v0 := HA2.out.c0; have v1 := HA2.out.c1; have v2 := HA2.out.c2; simp only [boolW, nulV, if_true, Bool.false_eq_true, if_false] at v0 v1 v2; have hlt4 := HB4.out.r.lt; have hla4 := HA2.out.lt; clear hb4)
        | (go_at_call 46; refine (HC0.out _ HFR.out.b).mono ?_; rintro e w2 ⟨rfl, hb2⟩; have HB2 := Lib.hid (HFR.out.below hb2); have HT2 := Lib.hid (HBT.out.below hb2); have hlt1 := HT2.out.lt; have t0 := HT2.out.c0; have t1 := HT2.out.c1; have t2 := HT2.out.c2; have hlt := HB2.out.r.lt; simp only [boolW, if_true, Bool.false_eq_true, if_false] at t0 t1 t2; clear hb2; obtain ⟨d0, d1, d2, d3, d4, d5⟩ := HK1.out _ HB2.out.b; simp only [Nat.one_mul, Nat.reduceMul, Nat.add_assoc, Nat.reduceAdd] at d0 d1 d2 d3 d4 d5; obtain ⟨e0, e1, e2, e3, e4, e5⟩ := obj_cells HB2.out.x; simp only [X.op, X.nm, X.v, X.ks] at e0 e1 e2 e3 e4 e5; have hn1 : bk < w2.heap.size := (Nat.lt_of_lt_of_le hbk HB2.out.b.size); have hn2 : w.heap.size < w2.heap.size := (by have := HB2.out.r.lt; omega)))
      exact bodyPost_ret (ret_row rfl (by rfl) ((HB4.out.r.set (nulV)).alloc _)) rfl ⟨rfl, (set3_below HB4.out.b (by omega) _ _ _).alloc (by have := HB4.out.b.size; simp [World.setCell]; omega) _⟩
    · have hX : endW (joinR (boolW false) (boolW true, 0) (boolW true, 0)) = .returned (boolW true).val := rfl
      rw [hX]
      rw [endW_T] at HC1
      go_enter Tryz.func116, Tryz.ntmps116
      go_wp2_with (first
        | (have HSEC := HB2; go_at_call 46; refine (HC1.out _ (HB2.out.b.alloc HB2.out.b.size _)).mono ?_; rintro e w4 ⟨rfl, hb4⟩; have HA2 := Lib.hid ((Box3.new w2 (boolW true)).below hb4); have HB4 := Lib.hid ((HB2.out.below ((Below.refl _ _).alloc (Nat.le_refl _) _)).below hb4); have HT4 := Lib.hid ((HT2.out.alloc _).below hb4); have hlt41 := HT4.out.lt; have u0 := HT4.out.c0; have u1 := HT4.out.c1; have u2 := HT4.out.c2; simp only [boolW, if_true, Bool.false_eq_true, if_false] at u0 u1 u2; have s0 := HB4.out.r.c0; have s1 := HB4.out.r.c1; have s2 := HB4.out.r.c2; have f0 := HB4.out.r.free 0; have f1 := HB4.out.r.free 1; have f2 := HB4.out.r.free 2; have v0 := HA2.out.c0; have v1 := HA2.out.c1; have v2 := HA2.out.c2; simp only [boolW, nulV, if_true, Bool.false_eq_true, if_false] at v0 v1 v2; have hlt4 := HB4.out.r.lt; have hla4 := HA2.out.lt; clear hb4)
        | (go_at_call 46; refine (HC0.out _ HFR.out.b).mono ?_; rintro e w2 ⟨rfl, hb2⟩; have HB2 := Lib.hid (HFR.out.below hb2); have HT2 := Lib.hid (HBT.out.below hb2); have hlt1 := HT2.out.lt; have t0 := HT2.out.c0; have t1 := HT2.out.c1; have t2 := HT2.out.c2; have hlt := HB2.out.r.lt; simp only [boolW, if_true, Bool.false_eq_true, if_false] at t0 t1 t2; clear hb2; obtain ⟨d0, d1, d2, d3, d4, d5⟩ := HK1.out _ HB2.out.b; simp only [Nat.one_mul, Nat.reduceMul, Nat.add_assoc, Nat.reduceAdd] at d0 d1 d2 d3 d4 d5; obtain ⟨e0, e1, e2, e3, e4, e5⟩ := obj_cells HB2.out.x; simp only [X.op, X.nm, X.v, X.ks] at e0 e1 e2 e3 e4 e5; have hn1 : bk < w2.heap.size := (Nat.lt_of_lt_of_le hbk HB2.out.b.size); have hn2 : w.heap.size < w2.heap.size := (by have := HB2.out.r.lt; omega)))
      exact bodyPost_ret (ret_row rfl (by rfl) ((HB4.out.r.set (boolW true)).alloc _)) rfl ⟨rfl, (set3_below HB4.out.b (by omega) _ _ _).alloc (by have := HB4.out.b.size; simp [World.setCell]; omega) _⟩
    · have hX : endW (joinR (boolW false) (boolW true, 0) (boolW false, 0)) = .returned (boolW false).val := rfl
      rw [hX]
      rw [endW_F] at HC1
      go_enter Tryz.func116, Tryz.ntmps116
      go_wp2_with (first
        | (have HSEC := HB2; go_at_call 46; refine (HC1.out _ (HB2.out.b.alloc HB2.out.b.size _)).mono ?_; rintro e w4 ⟨rfl, hb4⟩; have HA2 := Lib.hid ((Box3.new w2 (boolW true)).below hb4); have HB4 := Lib.hid ((HB2.out.below ((Below.refl _ _).alloc (Nat.le_refl _) _)).below hb4); have HT4 := Lib.hid ((HT2.out.alloc _).below hb4); have hlt41 := HT4.out.lt; have u0 := HT4.out.c0; have u1 := HT4.out.c1; have u2 := HT4.out.c2; simp only [boolW, if_true, Bool.false_eq_true, if_false] at u0 u1 u2; have s0 := HB4.out.r.c0; have s1 := HB4.out.r.c1; have s2 := HB4.out.r.c2; have f0 := HB4.out.r.free 0; have f1 := HB4.out.r.free 1; have f2 := HB4.out.r.free 2; have v0 := HA2.out.c0; have v1 := HA2.out.c1; have v2 := HA2.out.c2; simp only [boolW, nulV, if_true, Bool.false_eq_true, if_false] at v0 v1 v2; have hlt4 := HB4.out.r.lt; have hla4 := HA2.out.lt; clear hb4)
        | (go_at_call 46; refine (HC0.out _ HFR.out.b).mono ?_; rintro e w2 ⟨rfl, hb2⟩; have HB2 := Lib.hid (HFR.out.below hb2); have HT2 := Lib.hid (HBT.out.below hb2); have hlt1 := HT2.out.lt; have t0 := HT2.out.c0; have t1 := HT2.out.c1; have t2 := HT2.out.c2; have hlt := HB2.out.r.lt; simp only [boolW, if_true, Bool.false_eq_true, if_false] at t0 t1 t2; clear hb2; obtain ⟨d0, d1, d2, d3, d4, d5⟩ := HK1.out _ HB2.out.b; simp only [Nat.one_mul, Nat.reduceMul, Nat.add_assoc, Nat.reduceAdd] at d0 d1 d2 d3 d4 d5; obtain ⟨e0, e1, e2, e3, e4, e5⟩ := obj_cells HB2.out.x; simp only [X.op, X.nm, X.v, X.ks] at e0 e1 e2 e3 e4 e5; have hn1 : bk < w2.heap.size := (Nat.lt_of_lt_of_le hbk HB2.out.b.size); have hn2 : w.heap.size < w2.heap.size := (by have := HB2.out.r.lt; omega)))
      exact bodyPost_ret (ret_row rfl (by rfl) ((HB4.out.r.set (boolW false)).alloc _)) rfl ⟨rfl, (set3_below HB4.out.b (by omega) _ _ _).alloc (by have := HB4.out.b.size; simp [World.setCell]; omega) _⟩
    · obtain ⟨y, er⟩ := r1
      have he : er ≠ 0 := by rcases hg3 with h | h <;> (injection h with _ h; omega)
      have hX : endW (joinR (boolW false) (boolW true, 0) (y, er)) = .panicked [gaveUp er] := by unfold joinR; rw [if_neg (by simp), if_neg (by decide), if_pos he]; exact endW_no he
      rw [endW_no he] at HC1
      rw [hX]
      go_enter Tryz.func116, Tryz.ntmps116
      go_wp2_with (first
        | (have HSEC := HB2; go_at_call 46; refine (HC1.out _ (HB2.out.b.alloc HB2.out.b.size _)).mono ?_; rintro e w4 ⟨rfl, hb4⟩; have HB4 := Lib.hid ((HB2.out.below ((Below.refl _ _).alloc (Nat.le_refl _) _)).below hb4); clear hb4)
        | (go_at_call 46; refine (HC0.out _ HFR.out.b).mono ?_; rintro e w2 ⟨rfl, hb2⟩; have HB2 := Lib.hid (HFR.out.below hb2); have HT2 := Lib.hid (HBT.out.below hb2); have hlt1 := HT2.out.lt; have t0 := HT2.out.c0; have t1 := HT2.out.c1; have t2 := HT2.out.c2; have hlt := HB2.out.r.lt; simp only [boolW, if_true, Bool.false_eq_true, if_false] at t0 t1 t2; clear hb2; obtain ⟨d0, d1, d2, d3, d4, d5⟩ := HK1.out _ HB2.out.b; simp only [Nat.one_mul, Nat.reduceMul, Nat.add_assoc, Nat.reduceAdd] at d0 d1 d2 d3 d4 d5; obtain ⟨e0, e1, e2, e3, e4, e5⟩ := obj_cells HB2.out.x; simp only [X.op, X.nm, X.v, X.ks] at e0 e1 e2 e3 e4 e5; have hn1 : bk < w2.heap.size := (Nat.lt_of_lt_of_le hbk HB2.out.b.size); have hn2 : w.heap.size < w2.heap.size := (by have := HB2.out.r.lt; omega)))
      exact ⟨rfl, rfl, HB4.out.b⟩
  · have hX : endW (joinR (boolW false) (boolW false, 0) r1) = .returned (boolW false).val := by unfold joinR; rw [if_neg (by simp), if_pos rfl]; exact endW_ok rfl
    rw [hX]
    rw [endW_F] at HC0
    go_enter Tryz.func116, Tryz.ntmps116
    go_wp2_with (go_at_call 46; refine (HC0.out _ HFR.out.b).mono ?_; rintro e w2 ⟨rfl, hb2⟩; have HB2 := Lib.hid (HFR.out.below hb2); have HT2 := Lib.hid (HBT.out.below hb2); have hlt1 := HT2.out.lt; have t0 := HT2.out.c0; have t1 := HT2.out.c1; have t2 := HT2.out.c2; have hlt := HB2.out.r.lt; simp only [boolW, if_true, Bool.false_eq_true, if_false] at t0 t1 t2; clear hb2; have s0 := HB2.out.r.c0; have s1 := HB2.out.r.c1; have s2 := HB2.out.r.c2; have f0 := HB2.out.r.free 0; have f1 := HB2.out.r.free 1; have f2 := HB2.out.r.free 2)
    exact bodyPost_ret (ret_row rfl (by rfl) ((HB2.out.r.set (boolW false)).alloc _)) rfl ⟨rfl, (set3_below HB2.out.b (by omega) _ _ _).alloc (by have := HB2.out.b.size; simp [World.setCell]; omega) _⟩
  · obtain ⟨a, er⟩ := r0
    have he : er ≠ 0 := by rcases hg2 with h | h <;> (injection h with _ h; omega)
    have hX : endW (joinR (boolW false) (a, er) r1) = .panicked [gaveUp er] := by unfold joinR; rw [if_pos he]; exact endW_no he
    rw [endW_no he] at HC0
    rw [hX]
    go_enter Tryz.func116, Tryz.ntmps116
    go_wp2_with (go_at_call 46; refine (HC0.out _ HFR.out.b).mono ?_; rintro e w2 ⟨rfl, hb2⟩; have HB2 := Lib.hid (HFR.out.below hb2); clear hb2)
    exact ⟨rfl, rfl, HB2.out.b⟩
end
end Go.Proofs.YtclcabdekeegdaaGreat

/- Layer 13, walked: worths of all true, of one true, of a column. -/
namespace Go.Proofs.YtclcabdekeegdaaGreat
open Go.ChangeShapes Go.WideShapes Go.ChangeAt Go.RowKit
set_option linter.unusedVariables false
set_option linter.unusedSimpArgs false
/-- The expression's cells. -/
def C6 (o : Int) (n : ByteArray) (v : V) (l : Nat) (A : Option Addr) (c g : Nat) (W : World) : Prop :=
  W.cell? ⟨g, 0, none⟩ = some (.int .i64 o) ∧ W.cell? ⟨g, 1, none⟩ = some (.string n) ∧ W.cell? ⟨g, 2, none⟩ = some (.int .i64 v.k) ∧ W.cell? ⟨g, 3, none⟩ = some (.int .i64 v.n) ∧ W.cell? ⟨g, 4, none⟩ = some (.string v.s) ∧ W.cell? ⟨g, 5, none⟩ = some (.slice A l c)
theorem C6.of {o : Int} {n : ByteArray} {v : V} {ks : List X} {A : Option Addr} {c g : Nat} {W : World} (h : W.heap[g]? = some ((X.mk o n v ks).obj A c)) : C6 o n v ks.length A c g W := by
  obtain ⟨p0, p1, p2, p3, p4, p5⟩ := obj_cells h
  exact ⟨p0, p1, p2, p3, p4, p5⟩
theorem Fr.drew {o : Int} {n : ByteArray} {v : V} {ks : List X} {A : Option Addr} {c x0 r0 : Nat} {u : V} {w W : World} (h : Fr o n v ks A c x0 r0 u w W) : Fr o n v ks A c x0 r0 u w W.drew := h.below (Below.refl _ _).drew
theorem Below.heap_set3 (W : World) {g x0 : Nat} (h : x0 ≠ g) (a b c : Value) : (((W.setCell ⟨g, 0, none⟩ a).setCell ⟨g, 1, none⟩ b).setCell ⟨g, 2, none⟩ c).heap[x0]? = W.heap[x0]? :=
  ((Below.heap_setCell _ _ _ _ (by simpa using h)).trans (Below.heap_setCell _ _ _ _ (by simpa using h))).trans (Below.heap_setCell _ _ _ _ (by simpa using h))
section
variable (cs : List C) (row : List V) (cA : Option Addr) (cc : Nat) (rA : Option Addr) (rc : Nat) (B b : Nat)
set_option maxHeartbeats 8000000 in
set_option maxRecDepth 20000 in
theorem allTrue_any (o : Int) (n : ByteArray) (v : V) (ks : List X) (hl : 2 ≤ ks.length) (A : Option Addr) (c : Nat) (w : World) (hs : Sc cs row cA cc rA rc B b w) (hk : KidsAt w w.heap.size (.mk o n v ks) A c) (r0 r1 : V × Int)
    (hx0 : WK cs row cA cc rA rc B b (ks[0]'(by omega)) r0)
    (hx1 : WK cs row cA cc rA rc B b (ks[1]'(by omega)) r1)
    (hg : GoodW 2 r0) (hg1 : GoodW 2 r1) :
    Calls Tryz.prog 77 #[.pointer (some ⟨b, 0, none⟩), eV o n v ks.length A c] w fun en w' => en = endW (joinR (boolW false) r0 r1) ∧ Below w.heap.size w w' := by
  obtain ⟨W1, hW1⟩ : ∃ W1, (w.alloc ((X.mk o n v ks).obj A c)).alloc (.cells #[.int .i64 0, .int .i64 0, .string ⟨#[]⟩] 23) = W1 := ⟨_, rfl⟩
  have hfr : Fr o n v ks A c w.heap.size (w.heap.size + 1) zV w W1 := by rw [← hW1]; exact Fr.new o n v ks _ c w
  have HFR := Lib.hid hfr
  have HJ := Lib.hid (fun (W : World) (h : Below w.heap.size w W) => joined_false cs row cA cc rA rc B b o n v ks hl A c W (hs.below h) (KidsAt.more h.size (hk.below h)) r0 r1 hx0 hx1 hg hg1)
  obtain ⟨⟨y, er⟩, hy⟩ : ∃ z, joinR (boolW false) r0 r1 = z := ⟨_, rfl⟩
  rw [hy] at HJ ⊢
  clear hs hk hfr hx0 hx1 hg hg1 hy
  unfold X.obj at hW1
  simp only [X.op, X.nm, X.v, X.ks] at hW1
  unfold eV at HJ ⊢
  go_enter Tryz.func77, Tryz.ntmps77
  go_wp2_with fail
  try rw [hW1]
  have HF1 := Lib.hid HFR.out.drew
  have hS : Hid (C6 o n v ks.length A c w.heap.size W1.drew) ∧ Below w.heap.size w W1.drew := ⟨Lib.hid (C6.of HF1.out.x), HF1.out.b⟩
  refine held_begin 5 (fun W => Hid (C6 o n v ks.length A c w.heap.size W) ∧ Below w.heap.size w W) rfl (by kernel_rfl) ?_
  refine held_take (i := 0) (t := 5) (v := (.pointer (some ⟨b, 0, none⟩))) (fuel := 4) rfl rfl (by kernel_rfl) (by kernel_rfl) (by kernel_rfl) (fun _ _ _ h => h) (.inl ⟨rfl, fun W hW => by simp [execOp, Act.eval, go_sem]⟩) hS ?_
  simp only [List.setIfInBounds_toArray, List.set_cons_succ, List.set_cons_zero]
  refine held_take (i := 1) (t := 6) (v := (.agg #[.int .i64 o, .string n, .int .i64 v.k, .int .i64 v.n, .string v.s, .slice A ks.length c])) (fuel := 3) rfl rfl (by kernel_rfl) (by kernel_rfl) (by kernel_rfl) (fun _ _ _ h => h) (.inl ⟨rfl, fun W hW => by obtain ⟨hA, hB⟩ := hW; simp [execOp, Act.eval, go_sem, hA, hB, hA.out.1, hA.out.2.1, hA.out.2.2.1, hA.out.2.2.2.1, hA.out.2.2.2.2.1, hA.out.2.2.2.2.2]⟩) hS ?_
  simp only [List.setIfInBounds_toArray, List.set_cons_succ, List.set_cons_zero]
  refine held_call (i := 2) rfl (by kernel_rfl) (by kernel_rfl) ?_
  simp [Oper.wp, execOp, Act.eval, Act.put, go_sem]
  refine (boolF _).mono ?_
  rintro en w3 ⟨rfl, hb3⟩
  have HF2 := Lib.hid (HF1.out.below hb3)
  refine ⟨⟨Lib.hid (C6.of HF2.out.x), HF2.out.b⟩, ?_⟩
  try simp only [List.setIfInBounds_toArray, List.set_cons_succ, List.set_cons_zero]
  clear hS
  have hS : Hid (C6 o n v ks.length A c w.heap.size w3) ∧ Below w.heap.size w w3 := ⟨Lib.hid (C6.of HF2.out.x), HF2.out.b⟩
  refine held_call (i := 3) rfl (by kernel_rfl) (by kernel_rfl) ?_
  simp [Oper.wp, execOp, Act.eval, Act.put, go_sem]
  refine (HJ.out _ HF2.out.b).mono ?_
  rintro en w4 ⟨rfl, hb4⟩
  have HF3 := Lib.hid (HF2.out.below hb4)
  clear hS
  by_cases h : er = 0
  · subst h
    rw [endW_ok rfl]
    dsimp only
    unfold V.val
    have s0 := HF3.out.r.c0; have s1 := HF3.out.r.c1; have s2 := HF3.out.r.c2; have f0 := HF3.out.r.free 0; have f1 := HF3.out.r.free 1; have f2 := HF3.out.r.free 2
    have hS : Hid (C6 o n v ks.length A c w.heap.size w4) ∧ Below w.heap.size w w4 := ⟨Lib.hid (C6.of HF3.out.x), HF3.out.b⟩
    refine ⟨hS, ?_⟩
    try simp only [List.setIfInBounds_toArray, List.set_cons_succ, List.set_cons_zero]
    refine held_call (i := 4) rfl (by kernel_rfl) (by kernel_rfl) ?_
    simp [Oper.wp, execOp, Act.eval, Act.put, go_sem, s0, s1, s2, f0, f1, f2]
    refine ⟨⟨Lib.hid (C6.of ((Below.heap_set3 w4 (by omega) _ _ _).trans HF3.out.x)), set3_below HF3.out.b (Nat.le_succ _) _ _ _⟩, ?_⟩
    try simp only [List.setIfInBounds_toArray, List.set_cons_succ, List.set_cons_zero]
    refine wpAnyH_done (by kernel_rfl) ?_ 0
    go_wp2
    exact bodyPost_ret (ret_row rfl (by rfl) (HF3.out.r.set y)) rfl ⟨rfl, set3_below HF3.out.b (Nat.le_succ _) _ _ _⟩
  · rw [endW_no h]
    exact ⟨rfl, (endW_no h).symm, HF3.out.b⟩
set_option maxHeartbeats 8000000 in
set_option maxRecDepth 20000 in
theorem oneTrue_any (o : Int) (n : ByteArray) (v : V) (ks : List X) (hl : 2 ≤ ks.length) (A : Option Addr) (c : Nat) (w : World) (hs : Sc cs row cA cc rA rc B b w) (hk : KidsAt w w.heap.size (.mk o n v ks) A c) (r0 r1 : V × Int)
    (hx0 : WK cs row cA cc rA rc B b (ks[0]'(by omega)) r0)
    (hx1 : WK cs row cA cc rA rc B b (ks[1]'(by omega)) r1)
    (hg : GoodW 2 r0) (hg1 : GoodW 2 r1) :
    Calls Tryz.prog 78 #[.pointer (some ⟨b, 0, none⟩), eV o n v ks.length A c] w fun en w' => en = endW (joinR (boolW true) r0 r1) ∧ Below w.heap.size w w' := by
  obtain ⟨W1, hW1⟩ : ∃ W1, (w.alloc ((X.mk o n v ks).obj A c)).alloc (.cells #[.int .i64 0, .int .i64 0, .string ⟨#[]⟩] 23) = W1 := ⟨_, rfl⟩
  have hfr : Fr o n v ks A c w.heap.size (w.heap.size + 1) zV w W1 := by rw [← hW1]; exact Fr.new o n v ks _ c w
  have HFR := Lib.hid hfr
  have HJ := Lib.hid (fun (W : World) (h : Below w.heap.size w W) => joined_true cs row cA cc rA rc B b o n v ks hl A c W (hs.below h) (KidsAt.more h.size (hk.below h)) r0 r1 hx0 hx1 hg hg1)
  obtain ⟨⟨y, er⟩, hy⟩ : ∃ z, joinR (boolW true) r0 r1 = z := ⟨_, rfl⟩
  rw [hy] at HJ ⊢
  clear hs hk hfr hx0 hx1 hg hg1 hy
  unfold X.obj at hW1
  simp only [X.op, X.nm, X.v, X.ks] at hW1
  unfold eV at HJ ⊢
  go_enter Tryz.func78, Tryz.ntmps78
  go_wp2_with fail
  try rw [hW1]
  have HF1 := Lib.hid HFR.out.drew
  have hS : Hid (C6 o n v ks.length A c w.heap.size W1.drew) ∧ Below w.heap.size w W1.drew := ⟨Lib.hid (C6.of HF1.out.x), HF1.out.b⟩
  refine held_begin 5 (fun W => Hid (C6 o n v ks.length A c w.heap.size W) ∧ Below w.heap.size w W) rfl (by kernel_rfl) ?_
  refine held_take (i := 0) (t := 5) (v := (.pointer (some ⟨b, 0, none⟩))) (fuel := 4) rfl rfl (by kernel_rfl) (by kernel_rfl) (by kernel_rfl) (fun _ _ _ h => h) (.inl ⟨rfl, fun W hW => by simp [execOp, Act.eval, go_sem]⟩) hS ?_
  simp only [List.setIfInBounds_toArray, List.set_cons_succ, List.set_cons_zero]
  refine held_take (i := 1) (t := 6) (v := (.agg #[.int .i64 o, .string n, .int .i64 v.k, .int .i64 v.n, .string v.s, .slice A ks.length c])) (fuel := 3) rfl rfl (by kernel_rfl) (by kernel_rfl) (by kernel_rfl) (fun _ _ _ h => h) (.inl ⟨rfl, fun W hW => by obtain ⟨hA, hB⟩ := hW; simp [execOp, Act.eval, go_sem, hA, hB, hA.out.1, hA.out.2.1, hA.out.2.2.1, hA.out.2.2.2.1, hA.out.2.2.2.2.1, hA.out.2.2.2.2.2]⟩) hS ?_
  simp only [List.setIfInBounds_toArray, List.set_cons_succ, List.set_cons_zero]
  refine held_call (i := 2) rfl (by kernel_rfl) (by kernel_rfl) ?_
  simp [Oper.wp, execOp, Act.eval, Act.put, go_sem]
  refine (boolT _).mono ?_
  rintro en w3 ⟨rfl, hb3⟩
  have HF2 := Lib.hid (HF1.out.below hb3)
  refine ⟨⟨Lib.hid (C6.of HF2.out.x), HF2.out.b⟩, ?_⟩
  try simp only [List.setIfInBounds_toArray, List.set_cons_succ, List.set_cons_zero]
  clear hS
  have hS : Hid (C6 o n v ks.length A c w.heap.size w3) ∧ Below w.heap.size w w3 := ⟨Lib.hid (C6.of HF2.out.x), HF2.out.b⟩
  refine held_call (i := 3) rfl (by kernel_rfl) (by kernel_rfl) ?_
  simp [Oper.wp, execOp, Act.eval, Act.put, go_sem]
  refine (HJ.out _ HF2.out.b).mono ?_
  rintro en w4 ⟨rfl, hb4⟩
  have HF3 := Lib.hid (HF2.out.below hb4)
  clear hS
  by_cases h : er = 0
  · subst h
    rw [endW_ok rfl]
    dsimp only
    unfold V.val
    have s0 := HF3.out.r.c0; have s1 := HF3.out.r.c1; have s2 := HF3.out.r.c2; have f0 := HF3.out.r.free 0; have f1 := HF3.out.r.free 1; have f2 := HF3.out.r.free 2
    have hS : Hid (C6 o n v ks.length A c w.heap.size w4) ∧ Below w.heap.size w w4 := ⟨Lib.hid (C6.of HF3.out.x), HF3.out.b⟩
    refine ⟨hS, ?_⟩
    try simp only [List.setIfInBounds_toArray, List.set_cons_succ, List.set_cons_zero]
    refine held_call (i := 4) rfl (by kernel_rfl) (by kernel_rfl) ?_
    simp [Oper.wp, execOp, Act.eval, Act.put, go_sem, s0, s1, s2, f0, f1, f2]
    refine ⟨⟨Lib.hid (C6.of ((Below.heap_set3 w4 (by omega) _ _ _).trans HF3.out.x)), set3_below HF3.out.b (Nat.le_succ _) _ _ _⟩, ?_⟩
    try simp only [List.setIfInBounds_toArray, List.set_cons_succ, List.set_cons_zero]
    refine wpAnyH_done (by kernel_rfl) ?_ 0
    go_wp2
    exact bodyPost_ret (ret_row rfl (by rfl) (HF3.out.r.set y)) rfl ⟨rfl, set3_below HF3.out.b (Nat.le_succ _) _ _ _⟩
  · rw [endW_no h]
    exact ⟨rfl, (endW_no h).symm, HF3.out.b⟩
set_option maxHeartbeats 4000000 in
set_option maxRecDepth 20000 in
theorem columnWorth_any (o : Int) (n : ByteArray) (v : V) (ks : List X) (A : Option Addr) (c : Nat) (w : World) (hs : Sc cs row cA cc rA rc B b w) (hf : findI n cs < cs.length) (hrl : row.length = cs.length) :
    Calls Tryz.prog 59 #[.pointer (some ⟨b, 0, none⟩), eV o n v ks.length A c] w fun en w' => en = endW (row.getD (findI n cs) nulV, 0) ∧ Below w.heap.size w w' := by
  obtain ⟨W1, hW1⟩ : ∃ W1, (w.alloc ((X.mk o n v ks).obj A c)).alloc (.cells #[.int .i64 0, .int .i64 0, .string ⟨#[]⟩] 23) = W1 := ⟨_, rfl⟩
  have hfr : Fr o n v ks A c w.heap.size (w.heap.size + 1) zV w W1 := by rw [← hW1]; exact Fr.new o n v ks _ c w
  have HFR := Lib.hid hfr
  have HS := Lib.hid hs
  have HFI := Lib.hid (fun (W : World) (hb : Below w.heap.size w W) => find_any cs n cs.length cc cA W rfl hs.cl ((hs.below hb).cols.more (hs.below hb).hB))
  have hfi := (f_hit (n := n) (l := cs) rfl hf).1
  have hfb := (f_hit (n := n) (l := cs) rfl hf).2.1
  have hir : findI n cs < row.length := by omega
  have hge : row.getD (findI n cs) nulV = row[findI n cs]'hir := by simp [List.getD, List.getElem?_eq_getElem hir]
  rw [hge, endW_ok rfl]
  obtain ⟨br, orr, hrA, hbr, r0, r1, r2⟩ := HS.out.rowm _ hir
  obtain ⟨i, hi⟩ : ∃ i, findI n cs = i := ⟨_, rfl⟩
  rw [hfi, hfb] at HFI
  simp only [hi] at HFI hir r0 r1 r2 ⊢
  obtain ⟨y, hy⟩ : ∃ y, row[i]'hir = y := ⟨_, rfl⟩
  rw [hy] at r0 r1 r2 ⊢
  subst hrA
  have hbw : br < w.heap.size := Nat.lt_of_lt_of_le hbr HS.out.hB
  have HL := Lib.hid HS.out.rl
  have i1 : (0 : Int) ≤ (i : Int) := by omega
  have i2 : (i : Int) < (row.length : Int) := by omega
  have hbs := HS.out.lt
  clear hfr hs hfi hfb hi hge hbr hy
  unfold X.obj at hW1
  simp only [X.op, X.nm, X.v, X.ks] at hW1
  unfold V.val
  unfold eV
  go_enter Tryz.func59, Tryz.ntmps59
  go_wp2_with fail
  try rw [hW1]
  have HF1 := Lib.hid HFR.out.drew
  have hS : (W1.drew.cell? ⟨b, 84, none⟩ = some (.slice cA cs.length cc) ∧ W1.drew.cell? ⟨w.heap.size, 1, none⟩ = some (.string n)) ∧ Below w.heap.size w W1.drew := ⟨⟨(HS.out.below HF1.out.b).c84, (C6.of HF1.out.x).2.1⟩, HF1.out.b⟩
  refine held_begin 12 (fun W => (W.cell? ⟨b, 84, none⟩ = some (.slice cA cs.length cc) ∧ W.cell? ⟨w.heap.size, 1, none⟩ = some (.string n)) ∧ Below w.heap.size w W) rfl (by kernel_rfl) ?_
  refine held_take (i := 0) (t := 8) (v := (.pointer (some ⟨b, 0, none⟩))) (fuel := 11) rfl rfl (by kernel_rfl) (by kernel_rfl) (by kernel_rfl) (fun _ _ _ h => h) (.inl ⟨rfl, fun W hW => by simp [execOp, Act.eval, go_sem]⟩) hS ?_
  simp only [List.setIfInBounds_toArray, List.set_cons_succ, List.set_cons_zero]
  refine held_take (i := 1) (t := 9) (v := (.pointer (some ⟨b, 0, none⟩))) (fuel := 10) rfl rfl (by kernel_rfl) (by kernel_rfl) (by kernel_rfl) (fun _ _ _ h => h) (.inl ⟨rfl, fun W hW => by simp [execOp, Act.eval, go_sem]⟩) hS ?_
  simp only [List.setIfInBounds_toArray, List.set_cons_succ, List.set_cons_zero]
  refine held_take (i := 2) (t := 10) (v := (.pointer (some ⟨b, 84, none⟩))) (fuel := 9) rfl rfl (by kernel_rfl) (by kernel_rfl) (by kernel_rfl) (fun _ _ _ h => h) (.inl ⟨rfl, fun W hW => by simp [execOp, Act.eval, go_sem]⟩) hS ?_
  simp only [List.setIfInBounds_toArray, List.set_cons_succ, List.set_cons_zero]
  refine held_take (i := 3) (t := 11) (v := (.slice cA cs.length cc)) (fuel := 8) rfl rfl (by kernel_rfl) (by kernel_rfl) (by kernel_rfl) (fun _ _ _ h => h) (.inl ⟨rfl, fun W hW => by simp [execOp, Act.eval, go_sem, hW.1.1]⟩) hS ?_
  simp only [List.setIfInBounds_toArray, List.set_cons_succ, List.set_cons_zero]
  refine held_take (i := 4) (t := 12) (v := (.pointer (some ⟨w.heap.size, 1, none⟩))) (fuel := 7) rfl rfl (by kernel_rfl) (by kernel_rfl) (by kernel_rfl) (fun _ _ _ h => h) (.inl ⟨rfl, fun W hW => by simp [execOp, Act.eval, go_sem]⟩) hS ?_
  simp only [List.setIfInBounds_toArray, List.set_cons_succ, List.set_cons_zero]
  refine held_take (i := 5) (t := 13) (v := (.string n)) (fuel := 6) rfl rfl (by kernel_rfl) (by kernel_rfl) (by kernel_rfl) (fun _ _ _ h => h) (.inl ⟨rfl, fun W hW => by simp [execOp, Act.eval, go_sem, hW.1.2]⟩) hS ?_
  simp only [List.setIfInBounds_toArray, List.set_cons_succ, List.set_cons_zero]
  refine held_call (i := 6) rfl (by kernel_rfl) (by kernel_rfl) ?_
  simp [Oper.wp, execOp, Act.eval, Act.put, go_sem]
  refine (HFI.out _ HF1.out.b).mono ?_
  rintro en w3 ⟨rfl, hb3⟩
  have HF2 := Lib.hid (HF1.out.below hb3)
  clear hS
  have hS : (w3.cell? ⟨b, 84, none⟩ = some (.slice cA cs.length cc) ∧ w3.cell? ⟨w.heap.size, 1, none⟩ = some (.string n)) ∧ Below w.heap.size w w3 := ⟨⟨(HS.out.below HF2.out.b).c84, (C6.of HF2.out.x).2.1⟩, HF2.out.b⟩
  refine ⟨hS, ?_⟩
  try simp only [List.setIfInBounds_toArray, List.set_cons_succ, List.set_cons_zero]
  refine held_take (i := 7) (t := 7) (v := (.tuple #[.int .i64 (i : Int), .bool true])) (fuel := 4) rfl rfl (by kernel_rfl) (by kernel_rfl) (by kernel_rfl) (fun _ _ _ h => h) (.inl ⟨rfl, fun W hW => by simp [execOp, Act.eval, go_sem]⟩) hS ?_
  simp only [List.setIfInBounds_toArray, List.set_cons_succ, List.set_cons_zero]
  refine held_take (i := 8) (t := 15) (v := (.int .i64 (i : Int))) (fuel := 3) rfl rfl (by kernel_rfl) (by kernel_rfl) (by kernel_rfl) (fun _ _ _ h => h) (.inl ⟨rfl, fun W hW => by simp [execOp, Act.eval, go_sem]⟩) hS ?_
  simp only [List.setIfInBounds_toArray, List.set_cons_succ, List.set_cons_zero]
  refine held_take (i := 9) (t := 16) (v := (.bool true)) (fuel := 2) rfl rfl (by kernel_rfl) (by kernel_rfl) (by kernel_rfl) (fun _ _ _ h => h) (.inl ⟨rfl, fun W hW => by simp [execOp, Act.eval, go_sem]⟩) hS ?_
  simp only [List.setIfInBounds_toArray, List.set_cons_succ, List.set_cons_zero]
  refine held_take (i := 10) (t := 5) (v := (.int .i64 (i : Int))) (fuel := 1) rfl rfl (by kernel_rfl) (by kernel_rfl) (by kernel_rfl) (fun _ _ _ h => h) (.inl ⟨rfl, fun W hW => by simp [execOp, Act.eval, go_sem]⟩) hS ?_
  simp only [List.setIfInBounds_toArray, List.set_cons_succ, List.set_cons_zero]
  refine held_take (i := 11) (t := 6) (v := (.bool true)) (fuel := 0) rfl rfl (by kernel_rfl) (by kernel_rfl) (by kernel_rfl) (fun _ _ _ h => h) (.inl ⟨rfl, fun W hW => by simp [execOp, Act.eval, go_sem]⟩) hS ?_
  simp only [List.setIfInBounds_toArray, List.set_cons_succ, List.set_cons_zero]
  refine wpAnyH_done (by kernel_rfl) ?_ 0
  have y0 := (HS.out.below HF2.out.b).c85
  have y1 := later_cell HF2.out.b r0
  have y2 := later_cell HF2.out.b r1
  have y3 := later_cell HF2.out.b r2
  have s0 := HF2.out.r.c0; have s1 := HF2.out.r.c1; have s2 := HF2.out.r.c2; have f0 := HF2.out.r.free 0; have f1 := HF2.out.r.free 1; have f2 := HF2.out.r.free 2
  clear hS r0 r1 r2
  go_wp2
  exact bodyPost_ret (ret_row rfl (by rfl) (HF2.out.r.set y)) rfl ⟨rfl, set3_below HF2.out.b (Nat.le_succ _) _ _ _⟩
end
end Go.Proofs.YtclcabdekeegdaaGreat
