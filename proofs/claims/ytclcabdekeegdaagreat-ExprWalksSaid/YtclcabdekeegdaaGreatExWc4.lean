/- Layer 13, walked: worths: what two parts come to, a case (wip/gen/XExWb.py). -/
import Derived.Test.YtclcabdekeegdaaGreatExWab
namespace Go.Proofs.YtclcabdekeegdaaGreat
open Go.ChangeShapes Go.WideShapes Go.ChangeAt Go.RowKit
set_option linter.unusedVariables false
set_option linter.unusedSimpArgs false
section
variable (cs : List C) (row : List V) (cA : Option Addr) (cc : Nat) (rA : Option Addr) (rc : Nat) (B b : Nat)
set_option maxHeartbeats 16000000 in
set_option maxRecDepth 40000 in
theorem two_ok (o : Int) (n : ByteArray) (v : V) (ks : List X) (h1 : 1 < ks.length) (A : Option Addr) (c : Nat) (w : World) (hs : Sc cs row cA cc rA rc B b w) (hk : KidsAt w w.heap.size (.mk o n v ks) A c) (r0 r1 : V × Int)
    (hx : WK cs row cA cc rA rc B b ks[0] r0) (hy : WK cs row cA cc rA rc B b ks[1] r1)
    (g : Nat) (p : Value) (eg : ∀ args W, (callFunc g args).run Tryz.prog W = .ok (.enter g args) W) (F : V → V → V × Int) (hF : r0.2 = 0 → r1.2 = 0 → r0.1.k ≠ 0 → r1.1.k ≠ 0 → ∀ W, Below w.heap.size w W → Calls Tryz.prog g #[r0.1.val, r1.1.val, p] W fun en w' => en = endW (F r0.1 r1.1) ∧ Below W.heap.size W w') (he : r0.2 = 0) (he1 : r1.2 = 0) (hza : r0.1.k ≠ 0) (hzz : r1.1.k ≠ 0) (heq : (F r0.1 r1.1).2 = 0) :
    Calls Tryz.prog 106 #[.pointer (some ⟨b, 0, none⟩), eV o n v ks.length A c, .func (.func g) #[] #[p]] w fun en w' => en = endW (twoR r0 r1 F) ∧ Below w.heap.size w w' := by
  obtain ⟨bk, off, A2, c2, rfl, hbk, hk2, a0, a1, a2, a3, a4, a5⟩ := hk.at6m 0 (by omega)
  obtain ⟨bk', off', A3, c3, hA, hbk', hk3, d0, d1, d2, d3, d4, d5⟩ := hk.at6m 1 h1
  injection hA with hA
  injection hA with hA1 hA2
  subst hA1 hA2
  obtain ⟨x, hxx⟩ : ∃ x, ks[0] = x := ⟨_, rfl⟩
  obtain ⟨y, hyy⟩ : ∃ y, ks[1] = y := ⟨_, rfl⟩
  rw [hxx] at hx hk2 a0 a1 a2 a3 a4 a5
  rw [hyy] at hy hk3 d0 d1 d2 d3 d4 d5
  simp only [Nat.zero_mul, Nat.one_mul, Nat.add_zero, Nat.add_assoc, Nat.reduceAdd] at a0 a1 a2 a3 a4 a5 d0 d1 d2 d3 d4 d5
  obtain ⟨W1, hW1⟩ : ∃ W1, (w.alloc ((X.mk o n v ks).obj (some ⟨bk, off, none⟩) c)).alloc (.cells #[.int .i64 0, .int .i64 0, .string ⟨#[]⟩] 23) = W1 := ⟨_, rfl⟩
  have hfr : Fr o n v ks (some ⟨bk, off, none⟩) c w.heap.size (w.heap.size + 1) zV w W1 := by rw [← hW1]; exact Fr.new o n v ks _ c w
  have HC0 := Lib.hid (fun (W : World) (h : Fr o n v ks (some ⟨bk, off, none⟩) c w.heap.size (w.heap.size + 1) zV w W) => hx A2 c2 W (hs.below h.b) (KidsAt.more h.b.size (hk2.below h.b)))
  have HC1 := Lib.hid (fun (W : World) (h : Fr o n v ks (some ⟨bk, off, none⟩) c w.heap.size (w.heap.size + 1) zV w W) => hy A3 c3 W (hs.below h.b) (KidsAt.more h.b.size (hk3.below h.b)))
  have HFR := Lib.hid hfr
  have HF := Lib.hid hF
  obtain ⟨E, hE⟩ : ∃ E, endW (twoR r0 r1 F) = E := ⟨_, rfl⟩
  rw [hE]
  have HE := Lib.hid hE
  obtain ⟨a, er⟩ := r0
  obtain ⟨z, er1⟩ := r1
  have HA := Lib.hid (And.intro a0 (And.intro a1 (And.intro a2 (And.intro a3 (And.intro a4 a5)))))
  have HD := Lib.hid (And.intro d0 (And.intro d1 (And.intro d2 (And.intro d3 (And.intro d4 d5)))))
  have i1 : (0 : Int) < (ks.length : Int) := by omega
  have i2 : (1 : Int) < (ks.length : Int) := by omega
  have hnil : ¬ ks = [] := by rintro rfl; simp at h1
  have hen := eg
  clear hF hE hx hy hk hk2 hk3 hs hxx hyy hfr eg a0 a1 a2 a3 a4 a5 d0 d1 d2 d3 d4 d5
  unfold X.obj at hW1
  simp only [X.op, X.nm, X.v, X.ks] at hW1
  unfold X.val at HC0 HC1
  unfold eV
  dsimp only at HF HC0 HC1
  dsimp only at he he1 hza hzz heq
  subst he
  rw [endW_ok rfl] at HC0
  dsimp only at HC0
  unfold V.val at HC0
  subst he1
  rw [endW_ok rfl] at HC1
  dsimp only at HC1
  unfold V.val at HC1
  have q0 : (a.k == 0) = false := by simpa using hza
  have q1 : (z.k == 0) = false := by simpa using hzz
  have HG := Lib.hid (HF.out rfl rfl hza hzz)
  obtain ⟨⟨q, eq⟩, hq⟩ : ∃ q, F a z = q := ⟨_, rfl⟩
  rw [hq] at HG heq
  have HX := Lib.hid (show E = endW (q, eq) by rw [← HE.out]; unfold twoR; rw [if_neg (by simp), if_neg (by simp), if_neg (by simp [hza, hzz]), hq])
  unfold V.val at HG
  dsimp only at heq
  clear hza hzz hq
  subst heq
  rw [endW_ok rfl] at HG HX
  dsimp only at HG HX
  unfold V.val at HG
  go_enter Tryz.func106, Tryz.ntmps106
  go_wp2_with fail
  try rw [hW1]
  have hz1 : W1.heap.size = w.heap.size + 2 := by rw [← hW1]; simp
  clear hW1
  have hS : Fr o n v ks (some ⟨bk, off, none⟩) c w.heap.size (w.heap.size + 1) zV w W1.drew := HFR.out.below (Below.refl _ W1).drew
  have hz : w.heap.size + 2 ≤ W1.drew.heap.size := by show _ ≤ W1.heap.size; omega
  refine held_begin 16 (fun W => Fr o n v ks (some ⟨bk, off, none⟩) c w.heap.size (w.heap.size + 1) zV w W) rfl (by kernel_rfl) ?_
  refine held_take (i := 0) (t := 9) (v := (.pointer (some ⟨b, 0, none⟩))) (fuel := 15) rfl rfl (by kernel_rfl) (by kernel_rfl) (by kernel_rfl) (fun _ _ _ h => h) (.inl ⟨rfl, fun W hW => by simp [execOp, Act.eval, go_sem]⟩) hS ?_
  simp only [List.setIfInBounds_toArray, List.set_cons_succ, List.set_cons_zero]
  refine held_take (i := 1) (t := 10) (v := (.pointer (some ⟨w.heap.size, 5, none⟩))) (fuel := 14) rfl rfl (by kernel_rfl) (by kernel_rfl) (by kernel_rfl) (fun _ _ _ h => h) (.inl ⟨rfl, fun W hW => by simp [execOp, Act.eval, go_sem]⟩) hS ?_
  simp only [List.setIfInBounds_toArray, List.set_cons_succ, List.set_cons_zero]
  refine held_take (i := 2) (t := 11) (v := (.slice (some ⟨bk, off, none⟩) ks.length c)) (fuel := 13) rfl rfl (by kernel_rfl) (by kernel_rfl) (by kernel_rfl) (fun _ _ _ h => h) (.inl ⟨rfl, fun W hW => by simp [execOp, Act.eval, go_sem, (obj_cells hW.x).2.2.2.2.2, X.ks]⟩) hS ?_
  simp only [List.setIfInBounds_toArray, List.set_cons_succ, List.set_cons_zero]
  refine held_take (i := 3) (t := 12) (v := (.pointer (some ⟨bk, off, none⟩))) (fuel := 12) rfl rfl (by kernel_rfl) (by kernel_rfl) (by kernel_rfl) (fun _ _ _ h => h) (.inl ⟨rfl, fun W hW => by simp [execOp, Act.eval, go_sem, i1, hnil]⟩) hS ?_
  simp only [List.setIfInBounds_toArray, List.set_cons_succ, List.set_cons_zero]
  refine held_take (i := 4) (t := 13) (v := (.agg #[.int .i64 x.op, .string x.nm, .int .i64 x.v.k, .int .i64 x.v.n, .string x.v.s, .slice A2 x.ks.length c2])) (fuel := 11) rfl rfl (by kernel_rfl) (by kernel_rfl) (by kernel_rfl) (fun _ _ _ h => h) (.inl ⟨rfl, fun W hW => by simp [execOp, Act.eval, go_sem, later_cell hW.b HA.out.1, later_cell hW.b HA.out.2.1, later_cell hW.b HA.out.2.2.1, later_cell hW.b HA.out.2.2.2.1, later_cell hW.b HA.out.2.2.2.2.1, later_cell hW.b HA.out.2.2.2.2.2]⟩) hS ?_
  simp only [List.setIfInBounds_toArray, List.set_cons_succ, List.set_cons_zero]
  refine held_take (i := 6) (t := 15) (v := (.pointer (some ⟨b, 0, none⟩))) (fuel := 10) rfl rfl (by kernel_rfl) (by kernel_rfl) (by kernel_rfl) (fun _ _ _ h => h) (.inl ⟨rfl, fun W hW => by simp [execOp, Act.eval, go_sem]⟩) hS ?_
  simp only [List.setIfInBounds_toArray, List.set_cons_succ, List.set_cons_zero]
  refine held_take (i := 7) (t := 16) (v := (.pointer (some ⟨w.heap.size, 5, none⟩))) (fuel := 9) rfl rfl (by kernel_rfl) (by kernel_rfl) (by kernel_rfl) (fun _ _ _ h => h) (.inl ⟨rfl, fun W hW => by simp [execOp, Act.eval, go_sem]⟩) hS ?_
  simp only [List.setIfInBounds_toArray, List.set_cons_succ, List.set_cons_zero]
  refine held_take (i := 8) (t := 17) (v := (.slice (some ⟨bk, off, none⟩) ks.length c)) (fuel := 8) rfl rfl (by kernel_rfl) (by kernel_rfl) (by kernel_rfl) (fun _ _ _ h => h) (.inl ⟨rfl, fun W hW => by simp [execOp, Act.eval, go_sem, (obj_cells hW.x).2.2.2.2.2, X.ks]⟩) hS ?_
  simp only [List.setIfInBounds_toArray, List.set_cons_succ, List.set_cons_zero]
  refine held_take (i := 9) (t := 18) (v := (.pointer (some ⟨bk, off + 6, none⟩))) (fuel := 7) rfl rfl (by kernel_rfl) (by kernel_rfl) (by kernel_rfl) (fun _ _ _ h => h) (.inl ⟨rfl, fun W hW => by simp [execOp, Act.eval, go_sem, i2]⟩) hS ?_
  simp only [List.setIfInBounds_toArray, List.set_cons_succ, List.set_cons_zero]
  refine held_take (i := 10) (t := 19) (v := (.agg #[.int .i64 y.op, .string y.nm, .int .i64 y.v.k, .int .i64 y.v.n, .string y.v.s, .slice A3 y.ks.length c3])) (fuel := 6) rfl rfl (by kernel_rfl) (by kernel_rfl) (by kernel_rfl) (fun _ _ _ h => h) (.inl ⟨rfl, fun W hW => by simp [execOp, Act.eval, go_sem, later_cell hW.b HD.out.1, later_cell hW.b HD.out.2.1, later_cell hW.b HD.out.2.2.1, later_cell hW.b HD.out.2.2.2.1, later_cell hW.b HD.out.2.2.2.2.1, later_cell hW.b HD.out.2.2.2.2.2]⟩) hS ?_
  simp only [List.setIfInBounds_toArray, List.set_cons_succ, List.set_cons_zero]
  refine held_three (i := 5) (j := 12) (l := 13) rfl rfl rfl (by kernel_rfl) (by kernel_rfl) (by kernel_rfl) (by kernel_rfl) ?_ ?_ ?_
  · simp [Oper.wp, execOp, Act.eval, Act.put, go_sem]
    refine (HC0.out _ hS).mono ?_
    rintro en u104 ⟨rfl, hb⟩
    have hz : w.heap.size + 2 ≤ u104.heap.size := Nat.le_trans hz hb.size
    have hS := hS.below hb
    clear hb
    refine ⟨hS, ?_⟩
    try simp only [List.setIfInBounds_toArray, List.set_cons_succ, List.set_cons_zero]
    refine held_three (i := 11) (j := 12) (l := 13) rfl rfl rfl (by kernel_rfl) (by kernel_rfl) (by kernel_rfl) (by kernel_rfl) ?_ ?_ ?_
    · simp [Oper.wp, execOp, Act.eval, Act.put, go_sem]
      refine (HC1.out _ hS).mono ?_
      rintro en u105 ⟨rfl, hb⟩
      have hz : w.heap.size + 2 ≤ u105.heap.size := Nat.le_trans hz hb.size
      have hS := hS.below hb
      clear hb
      refine ⟨hS, ?_⟩
      try simp only [List.setIfInBounds_toArray, List.set_cons_succ, List.set_cons_zero]
      refine held_two (i := 12) (j := 13) rfl rfl (by kernel_rfl) (by kernel_rfl) (by kernel_rfl) ?_ ?_
      · simp [Oper.wp, execOp, Act.put, go_sem]
        have h7 : Box3 (u105.alloc (.cells #[.int .i64 0, .int .i64 0, .string ⟨#[]⟩] 23)) u105.heap.size zV := Box3.new u105 zV
        have hg7 : w.heap.size + 2 ≤ u105.heap.size := hz
        have hS := hS.below ((Below.refl _ _).alloc (Nat.le_refl _) (.cells #[.int .i64 0, .int .i64 0, .string ⟨#[]⟩] 23))
        have hz : w.heap.size + 2 ≤ (u105.alloc (.cells #[.int .i64 0, .int .i64 0, .string ⟨#[]⟩] 23)).heap.size := by simp; omega
        obtain ⟨u106, hW2⟩ : ∃ q, u105.alloc (.cells #[.int .i64 0, .int .i64 0, .string ⟨#[]⟩] 23) = q := ⟨_, rfl⟩
        have hsz : u105.heap.size = u105.heap.size := rfl
        rw [hW2] at h7 hS hz
        first | rw [hW2] | (rw [show (W1.alloc (.cells #[.int .i64 0, .int .i64 0, .string ⟨#[]⟩] 23)).drew = u106 from hW2]; try rw [show W1.heap.size = W1.drew.heap.size from rfl])
        obtain ⟨g7, hgg⟩ : ∃ q, u105.heap.size = q := ⟨_, rfl⟩
        rw [hgg] at h7 hg7
        try rw [hgg]
        clear hW2 hgg hsz
        refine ⟨hS, ?_⟩
        try simp only [List.setIfInBounds_toArray, List.set_cons_succ, List.set_cons_zero]
        refine held_call (i := 13) rfl (by kernel_rfl) (by kernel_rfl) ?_
        simp [Oper.wp, execOp, Act.put, go_sem]
        have h8 : Box3 (u106.alloc (.cells #[.int .i64 0, .int .i64 0, .string ⟨#[]⟩] 23)) u106.heap.size zV := Box3.new u106 zV
        have hg8 : w.heap.size + 2 ≤ u106.heap.size := hz
        have hne : g7 < u106.heap.size := h7.lt
        have h7 := h7.alloc (.cells #[.int .i64 0, .int .i64 0, .string ⟨#[]⟩] 23)
        have hS := hS.below ((Below.refl _ _).alloc (Nat.le_refl _) (.cells #[.int .i64 0, .int .i64 0, .string ⟨#[]⟩] 23))
        have hz : w.heap.size + 2 ≤ (u106.alloc (.cells #[.int .i64 0, .int .i64 0, .string ⟨#[]⟩] 23)).heap.size := by simp; omega
        obtain ⟨u107, hW2⟩ : ∃ q, u106.alloc (.cells #[.int .i64 0, .int .i64 0, .string ⟨#[]⟩] 23) = q := ⟨_, rfl⟩
        have hsz : u106.heap.size = u106.heap.size := rfl
        rw [hW2] at h8 hS hz
        rw [hW2] at h7
        first | rw [hW2] | (rw [show (W1.alloc (.cells #[.int .i64 0, .int .i64 0, .string ⟨#[]⟩] 23)).drew = u107 from hW2]; try rw [show W1.heap.size = W1.drew.heap.size from rfl])
        obtain ⟨g8, hgg⟩ : ∃ q, u106.heap.size = q := ⟨_, rfl⟩
        rw [hgg] at h8 hg8 hne
        try rw [hgg]
        clear hW2 hgg hsz
        refine ⟨hS, ?_⟩
        try simp only [List.setIfInBounds_toArray, List.set_cons_succ, List.set_cons_zero]
        refine held_call (i := 14) rfl (by kernel_rfl) (by kernel_rfl) ?_
        have y0 := h7.c0
        have y1 := h7.c1
        have y2 := h7.c2
        have f0 := h7.free 0
        have f1 := h7.free 1
        have f2 := h7.free 2
        simp [Oper.wp, execOp, Act.eval, Act.put, go_sem, y0, y1, y2, f0, f1, f2]
        have h8 := h8.set3 (show g7 ≠ g8 by omega) a
        have hS := hS.set3 (g := g7) (by omega) (by omega) (by omega) a
        have h7 := h7.set a
        obtain ⟨W5, hW5⟩ : ∃ q, ((u107.setCell ⟨g7, 0, none⟩ (.int .i64 a.k)).setCell ⟨g7, 1, none⟩ (.int .i64 a.n)).setCell ⟨g7, 2, none⟩ (.string a.s) = q := ⟨_, rfl⟩
        rw [hW5] at h7 h8 hS
        rw [hW5]
        clear hW5 y0 y1 y2 f0 f1 f2
        refine ⟨hS, ?_⟩
        try simp only [List.setIfInBounds_toArray, List.set_cons_succ, List.set_cons_zero]
        refine held_call (i := 15) rfl (by kernel_rfl) (by kernel_rfl) ?_
        have y0 := h8.c0
        have y1 := h8.c1
        have y2 := h8.c2
        have f0 := h8.free 0
        have f1 := h8.free 1
        have f2 := h8.free 2
        simp [Oper.wp, execOp, Act.eval, Act.put, go_sem, y0, y1, y2, f0, f1, f2]
        have h7 := h7.set3 (show g8 ≠ g7 by omega) z
        have hS := hS.set3 (g := g8) (by omega) (by omega) (by omega) z
        have h8 := h8.set z
        obtain ⟨W6, hW6⟩ : ∃ q, ((W5.setCell ⟨g8, 0, none⟩ (.int .i64 z.k)).setCell ⟨g8, 1, none⟩ (.int .i64 z.n)).setCell ⟨g8, 2, none⟩ (.string z.s) = q := ⟨_, rfl⟩
        rw [hW6] at h7 h8 hS
        rw [hW6]
        clear hW6 y0 y1 y2 f0 f1 f2
        refine ⟨hS, ?_⟩
        try simp only [List.setIfInBounds_toArray, List.set_cons_succ, List.set_cons_zero]
        refine wpAnyH_done (by kernel_rfl) ?_ 0
        have y0 := h7.c0
        have y1 := h7.c1
        have y2 := h7.c2
        have y3 := h8.c0
        have y4 := h8.c1
        have y5 := h8.c2
        have HS6 := Lib.hid hS
        clear hS h7 h8
        go_wp2_with (go_at_fn g; refine (HG.out _ HS6.out.b).mono ?_; rintro e w4 ⟨rfl, hb4⟩; have HB4 := Lib.hid (HS6.out.below hb4); have s0 := HB4.out.r.c0; have s1 := HB4.out.r.c1; have s2 := HB4.out.r.c2; have f0 := HB4.out.r.free 0; have f1 := HB4.out.r.free 1; have f2 := HB4.out.r.free 2; clear hb4)
        exact bodyPost_ret (ret_row rfl (by rfl) (HB4.out.r.set q)) rfl ⟨HX.out.symm, set3_below HB4.out.b (Nat.le_succ _) _ _ _⟩
      · simp [Oper.wp, execOp, Act.put, go_sem]
        have h8 : Box3 (u105.alloc (.cells #[.int .i64 0, .int .i64 0, .string ⟨#[]⟩] 23)) u105.heap.size zV := Box3.new u105 zV
        have hg8 : w.heap.size + 2 ≤ u105.heap.size := hz
        have hS := hS.below ((Below.refl _ _).alloc (Nat.le_refl _) (.cells #[.int .i64 0, .int .i64 0, .string ⟨#[]⟩] 23))
        have hz : w.heap.size + 2 ≤ (u105.alloc (.cells #[.int .i64 0, .int .i64 0, .string ⟨#[]⟩] 23)).heap.size := by simp; omega
        obtain ⟨u108, hW2⟩ : ∃ q, u105.alloc (.cells #[.int .i64 0, .int .i64 0, .string ⟨#[]⟩] 23) = q := ⟨_, rfl⟩
        have hsz : u105.heap.size = u105.heap.size := rfl
        rw [hW2] at h8 hS hz
        first | rw [hW2] | (rw [show (W1.alloc (.cells #[.int .i64 0, .int .i64 0, .string ⟨#[]⟩] 23)).drew = u108 from hW2]; try rw [show W1.heap.size = W1.drew.heap.size from rfl])
        obtain ⟨g8, hgg⟩ : ∃ q, u105.heap.size = q := ⟨_, rfl⟩
        rw [hgg] at h8 hg8
        try rw [hgg]
        clear hW2 hgg hsz
        refine ⟨hS, ?_⟩
        try simp only [List.setIfInBounds_toArray, List.set_cons_succ, List.set_cons_zero]
        refine held_call (i := 12) rfl (by kernel_rfl) (by kernel_rfl) ?_
        simp [Oper.wp, execOp, Act.put, go_sem]
        have h7 : Box3 (u108.alloc (.cells #[.int .i64 0, .int .i64 0, .string ⟨#[]⟩] 23)) u108.heap.size zV := Box3.new u108 zV
        have hg7 : w.heap.size + 2 ≤ u108.heap.size := hz
        have hne : g8 < u108.heap.size := h8.lt
        have h8 := h8.alloc (.cells #[.int .i64 0, .int .i64 0, .string ⟨#[]⟩] 23)
        have hS := hS.below ((Below.refl _ _).alloc (Nat.le_refl _) (.cells #[.int .i64 0, .int .i64 0, .string ⟨#[]⟩] 23))
        have hz : w.heap.size + 2 ≤ (u108.alloc (.cells #[.int .i64 0, .int .i64 0, .string ⟨#[]⟩] 23)).heap.size := by simp; omega
        obtain ⟨u109, hW2⟩ : ∃ q, u108.alloc (.cells #[.int .i64 0, .int .i64 0, .string ⟨#[]⟩] 23) = q := ⟨_, rfl⟩
        have hsz : u108.heap.size = u108.heap.size := rfl
        rw [hW2] at h7 hS hz
        rw [hW2] at h8
        first | rw [hW2] | (rw [show (W1.alloc (.cells #[.int .i64 0, .int .i64 0, .string ⟨#[]⟩] 23)).drew = u109 from hW2]; try rw [show W1.heap.size = W1.drew.heap.size from rfl])
        obtain ⟨g7, hgg⟩ : ∃ q, u108.heap.size = q := ⟨_, rfl⟩
        rw [hgg] at h7 hg7 hne
        try rw [hgg]
        clear hW2 hgg hsz
        refine ⟨hS, ?_⟩
        try simp only [List.setIfInBounds_toArray, List.set_cons_succ, List.set_cons_zero]
        refine held_call (i := 14) rfl (by kernel_rfl) (by kernel_rfl) ?_
        have y0 := h7.c0
        have y1 := h7.c1
        have y2 := h7.c2
        have f0 := h7.free 0
        have f1 := h7.free 1
        have f2 := h7.free 2
        simp [Oper.wp, execOp, Act.eval, Act.put, go_sem, y0, y1, y2, f0, f1, f2]
        have h8 := h8.set3 (show g7 ≠ g8 by omega) a
        have hS := hS.set3 (g := g7) (by omega) (by omega) (by omega) a
        have h7 := h7.set a
        obtain ⟨W5, hW5⟩ : ∃ q, ((u109.setCell ⟨g7, 0, none⟩ (.int .i64 a.k)).setCell ⟨g7, 1, none⟩ (.int .i64 a.n)).setCell ⟨g7, 2, none⟩ (.string a.s) = q := ⟨_, rfl⟩
        rw [hW5] at h7 h8 hS
        rw [hW5]
        clear hW5 y0 y1 y2 f0 f1 f2
        refine ⟨hS, ?_⟩
        try simp only [List.setIfInBounds_toArray, List.set_cons_succ, List.set_cons_zero]
        refine held_call (i := 15) rfl (by kernel_rfl) (by kernel_rfl) ?_
        have y0 := h8.c0
        have y1 := h8.c1
        have y2 := h8.c2
        have f0 := h8.free 0
        have f1 := h8.free 1
        have f2 := h8.free 2
        simp [Oper.wp, execOp, Act.eval, Act.put, go_sem, y0, y1, y2, f0, f1, f2]
        have h7 := h7.set3 (show g8 ≠ g7 by omega) z
        have hS := hS.set3 (g := g8) (by omega) (by omega) (by omega) z
        have h8 := h8.set z
        obtain ⟨W6, hW6⟩ : ∃ q, ((W5.setCell ⟨g8, 0, none⟩ (.int .i64 z.k)).setCell ⟨g8, 1, none⟩ (.int .i64 z.n)).setCell ⟨g8, 2, none⟩ (.string z.s) = q := ⟨_, rfl⟩
        rw [hW6] at h7 h8 hS
        rw [hW6]
        clear hW6 y0 y1 y2 f0 f1 f2
        refine ⟨hS, ?_⟩
        try simp only [List.setIfInBounds_toArray, List.set_cons_succ, List.set_cons_zero]
        refine wpAnyH_done (by kernel_rfl) ?_ 0
        have y0 := h7.c0
        have y1 := h7.c1
        have y2 := h7.c2
        have y3 := h8.c0
        have y4 := h8.c1
        have y5 := h8.c2
        have HS6 := Lib.hid hS
        clear hS h7 h8
        go_wp2_with (go_at_fn g; refine (HG.out _ HS6.out.b).mono ?_; rintro e w4 ⟨rfl, hb4⟩; have HB4 := Lib.hid (HS6.out.below hb4); have s0 := HB4.out.r.c0; have s1 := HB4.out.r.c1; have s2 := HB4.out.r.c2; have f0 := HB4.out.r.free 0; have f1 := HB4.out.r.free 1; have f2 := HB4.out.r.free 2; clear hb4)
        exact bodyPost_ret (ret_row rfl (by rfl) (HB4.out.r.set q)) rfl ⟨HX.out.symm, set3_below HB4.out.b (Nat.le_succ _) _ _ _⟩
    · simp [Oper.wp, execOp, Act.put, go_sem]
      have h7 : Box3 (u104.alloc (.cells #[.int .i64 0, .int .i64 0, .string ⟨#[]⟩] 23)) u104.heap.size zV := Box3.new u104 zV
      have hg7 : w.heap.size + 2 ≤ u104.heap.size := hz
      have hS := hS.below ((Below.refl _ _).alloc (Nat.le_refl _) (.cells #[.int .i64 0, .int .i64 0, .string ⟨#[]⟩] 23))
      have hz : w.heap.size + 2 ≤ (u104.alloc (.cells #[.int .i64 0, .int .i64 0, .string ⟨#[]⟩] 23)).heap.size := by simp; omega
      obtain ⟨u110, hW2⟩ : ∃ q, u104.alloc (.cells #[.int .i64 0, .int .i64 0, .string ⟨#[]⟩] 23) = q := ⟨_, rfl⟩
      have hsz : u104.heap.size = u104.heap.size := rfl
      rw [hW2] at h7 hS hz
      first | rw [hW2] | (rw [show (W1.alloc (.cells #[.int .i64 0, .int .i64 0, .string ⟨#[]⟩] 23)).drew = u110 from hW2]; try rw [show W1.heap.size = W1.drew.heap.size from rfl])
      obtain ⟨g7, hgg⟩ : ∃ q, u104.heap.size = q := ⟨_, rfl⟩
      rw [hgg] at h7 hg7
      try rw [hgg]
      clear hW2 hgg hsz
      refine ⟨hS, ?_⟩
      try simp only [List.setIfInBounds_toArray, List.set_cons_succ, List.set_cons_zero]
      refine held_two (i := 11) (j := 13) rfl rfl (by kernel_rfl) (by kernel_rfl) (by kernel_rfl) ?_ ?_
      · simp [Oper.wp, execOp, Act.eval, Act.put, go_sem]
        refine (HC1.out _ hS).mono ?_
        rintro en u111 ⟨rfl, hb⟩
        have hz : w.heap.size + 2 ≤ u111.heap.size := Nat.le_trans hz hb.size
        have h7 := h7.below hb
        have hS := hS.below hb
        clear hb
        refine ⟨hS, ?_⟩
        try simp only [List.setIfInBounds_toArray, List.set_cons_succ, List.set_cons_zero]
        refine held_call (i := 13) rfl (by kernel_rfl) (by kernel_rfl) ?_
        simp [Oper.wp, execOp, Act.put, go_sem]
        have h8 : Box3 (u111.alloc (.cells #[.int .i64 0, .int .i64 0, .string ⟨#[]⟩] 23)) u111.heap.size zV := Box3.new u111 zV
        have hg8 : w.heap.size + 2 ≤ u111.heap.size := hz
        have hne : g7 < u111.heap.size := h7.lt
        have h7 := h7.alloc (.cells #[.int .i64 0, .int .i64 0, .string ⟨#[]⟩] 23)
        have hS := hS.below ((Below.refl _ _).alloc (Nat.le_refl _) (.cells #[.int .i64 0, .int .i64 0, .string ⟨#[]⟩] 23))
        have hz : w.heap.size + 2 ≤ (u111.alloc (.cells #[.int .i64 0, .int .i64 0, .string ⟨#[]⟩] 23)).heap.size := by simp; omega
        obtain ⟨u112, hW2⟩ : ∃ q, u111.alloc (.cells #[.int .i64 0, .int .i64 0, .string ⟨#[]⟩] 23) = q := ⟨_, rfl⟩
        have hsz : u111.heap.size = u111.heap.size := rfl
        rw [hW2] at h8 hS hz
        rw [hW2] at h7
        first | rw [hW2] | (rw [show (W1.alloc (.cells #[.int .i64 0, .int .i64 0, .string ⟨#[]⟩] 23)).drew = u112 from hW2]; try rw [show W1.heap.size = W1.drew.heap.size from rfl])
        obtain ⟨g8, hgg⟩ : ∃ q, u111.heap.size = q := ⟨_, rfl⟩
        rw [hgg] at h8 hg8 hne
        try rw [hgg]
        clear hW2 hgg hsz
        refine ⟨hS, ?_⟩
        try simp only [List.setIfInBounds_toArray, List.set_cons_succ, List.set_cons_zero]
        refine held_call (i := 14) rfl (by kernel_rfl) (by kernel_rfl) ?_
        have y0 := h7.c0
        have y1 := h7.c1
        have y2 := h7.c2
        have f0 := h7.free 0
        have f1 := h7.free 1
        have f2 := h7.free 2
        simp [Oper.wp, execOp, Act.eval, Act.put, go_sem, y0, y1, y2, f0, f1, f2]
        have h8 := h8.set3 (show g7 ≠ g8 by omega) a
        have hS := hS.set3 (g := g7) (by omega) (by omega) (by omega) a
        have h7 := h7.set a
        obtain ⟨W5, hW5⟩ : ∃ q, ((u112.setCell ⟨g7, 0, none⟩ (.int .i64 a.k)).setCell ⟨g7, 1, none⟩ (.int .i64 a.n)).setCell ⟨g7, 2, none⟩ (.string a.s) = q := ⟨_, rfl⟩
        rw [hW5] at h7 h8 hS
        rw [hW5]
        clear hW5 y0 y1 y2 f0 f1 f2
        refine ⟨hS, ?_⟩
        try simp only [List.setIfInBounds_toArray, List.set_cons_succ, List.set_cons_zero]
        refine held_call (i := 15) rfl (by kernel_rfl) (by kernel_rfl) ?_
        have y0 := h8.c0
        have y1 := h8.c1
        have y2 := h8.c2
        have f0 := h8.free 0
        have f1 := h8.free 1
        have f2 := h8.free 2
        simp [Oper.wp, execOp, Act.eval, Act.put, go_sem, y0, y1, y2, f0, f1, f2]
        have h7 := h7.set3 (show g8 ≠ g7 by omega) z
        have hS := hS.set3 (g := g8) (by omega) (by omega) (by omega) z
        have h8 := h8.set z
        obtain ⟨W6, hW6⟩ : ∃ q, ((W5.setCell ⟨g8, 0, none⟩ (.int .i64 z.k)).setCell ⟨g8, 1, none⟩ (.int .i64 z.n)).setCell ⟨g8, 2, none⟩ (.string z.s) = q := ⟨_, rfl⟩
        rw [hW6] at h7 h8 hS
        rw [hW6]
        clear hW6 y0 y1 y2 f0 f1 f2
        refine ⟨hS, ?_⟩
        try simp only [List.setIfInBounds_toArray, List.set_cons_succ, List.set_cons_zero]
        refine wpAnyH_done (by kernel_rfl) ?_ 0
        have y0 := h7.c0
        have y1 := h7.c1
        have y2 := h7.c2
        have y3 := h8.c0
        have y4 := h8.c1
        have y5 := h8.c2
        have HS6 := Lib.hid hS
        clear hS h7 h8
        go_wp2_with (go_at_fn g; refine (HG.out _ HS6.out.b).mono ?_; rintro e w4 ⟨rfl, hb4⟩; have HB4 := Lib.hid (HS6.out.below hb4); have s0 := HB4.out.r.c0; have s1 := HB4.out.r.c1; have s2 := HB4.out.r.c2; have f0 := HB4.out.r.free 0; have f1 := HB4.out.r.free 1; have f2 := HB4.out.r.free 2; clear hb4)
        exact bodyPost_ret (ret_row rfl (by rfl) (HB4.out.r.set q)) rfl ⟨HX.out.symm, set3_below HB4.out.b (Nat.le_succ _) _ _ _⟩
      · simp [Oper.wp, execOp, Act.put, go_sem]
        have h8 : Box3 (u110.alloc (.cells #[.int .i64 0, .int .i64 0, .string ⟨#[]⟩] 23)) u110.heap.size zV := Box3.new u110 zV
        have hg8 : w.heap.size + 2 ≤ u110.heap.size := hz
        have hne : g7 < u110.heap.size := h7.lt
        have h7 := h7.alloc (.cells #[.int .i64 0, .int .i64 0, .string ⟨#[]⟩] 23)
        have hS := hS.below ((Below.refl _ _).alloc (Nat.le_refl _) (.cells #[.int .i64 0, .int .i64 0, .string ⟨#[]⟩] 23))
        have hz : w.heap.size + 2 ≤ (u110.alloc (.cells #[.int .i64 0, .int .i64 0, .string ⟨#[]⟩] 23)).heap.size := by simp; omega
        obtain ⟨u113, hW2⟩ : ∃ q, u110.alloc (.cells #[.int .i64 0, .int .i64 0, .string ⟨#[]⟩] 23) = q := ⟨_, rfl⟩
        have hsz : u110.heap.size = u110.heap.size := rfl
        rw [hW2] at h8 hS hz
        rw [hW2] at h7
        first | rw [hW2] | (rw [show (W1.alloc (.cells #[.int .i64 0, .int .i64 0, .string ⟨#[]⟩] 23)).drew = u113 from hW2]; try rw [show W1.heap.size = W1.drew.heap.size from rfl])
        obtain ⟨g8, hgg⟩ : ∃ q, u110.heap.size = q := ⟨_, rfl⟩
        rw [hgg] at h8 hg8 hne
        try rw [hgg]
        clear hW2 hgg hsz
        refine ⟨hS, ?_⟩
        try simp only [List.setIfInBounds_toArray, List.set_cons_succ, List.set_cons_zero]
        refine held_call (i := 11) rfl (by kernel_rfl) (by kernel_rfl) ?_
        simp [Oper.wp, execOp, Act.eval, Act.put, go_sem]
        refine (HC1.out _ hS).mono ?_
        rintro en u114 ⟨rfl, hb⟩
        have hz : w.heap.size + 2 ≤ u114.heap.size := Nat.le_trans hz hb.size
        have h7 := h7.below hb
        have h8 := h8.below hb
        have hS := hS.below hb
        clear hb
        refine ⟨hS, ?_⟩
        try simp only [List.setIfInBounds_toArray, List.set_cons_succ, List.set_cons_zero]
        refine held_call (i := 14) rfl (by kernel_rfl) (by kernel_rfl) ?_
        have y0 := h7.c0
        have y1 := h7.c1
        have y2 := h7.c2
        have f0 := h7.free 0
        have f1 := h7.free 1
        have f2 := h7.free 2
        simp [Oper.wp, execOp, Act.eval, Act.put, go_sem, y0, y1, y2, f0, f1, f2]
        have h8 := h8.set3 (show g7 ≠ g8 by omega) a
        have hS := hS.set3 (g := g7) (by omega) (by omega) (by omega) a
        have h7 := h7.set a
        obtain ⟨W5, hW5⟩ : ∃ q, ((u114.setCell ⟨g7, 0, none⟩ (.int .i64 a.k)).setCell ⟨g7, 1, none⟩ (.int .i64 a.n)).setCell ⟨g7, 2, none⟩ (.string a.s) = q := ⟨_, rfl⟩
        rw [hW5] at h7 h8 hS
        rw [hW5]
        clear hW5 y0 y1 y2 f0 f1 f2
        refine ⟨hS, ?_⟩
        try simp only [List.setIfInBounds_toArray, List.set_cons_succ, List.set_cons_zero]
        refine held_call (i := 15) rfl (by kernel_rfl) (by kernel_rfl) ?_
        have y0 := h8.c0
        have y1 := h8.c1
        have y2 := h8.c2
        have f0 := h8.free 0
        have f1 := h8.free 1
        have f2 := h8.free 2
        simp [Oper.wp, execOp, Act.eval, Act.put, go_sem, y0, y1, y2, f0, f1, f2]
        have h7 := h7.set3 (show g8 ≠ g7 by omega) z
        have hS := hS.set3 (g := g8) (by omega) (by omega) (by omega) z
        have h8 := h8.set z
        obtain ⟨W6, hW6⟩ : ∃ q, ((W5.setCell ⟨g8, 0, none⟩ (.int .i64 z.k)).setCell ⟨g8, 1, none⟩ (.int .i64 z.n)).setCell ⟨g8, 2, none⟩ (.string z.s) = q := ⟨_, rfl⟩
        rw [hW6] at h7 h8 hS
        rw [hW6]
        clear hW6 y0 y1 y2 f0 f1 f2
        refine ⟨hS, ?_⟩
        try simp only [List.setIfInBounds_toArray, List.set_cons_succ, List.set_cons_zero]
        refine wpAnyH_done (by kernel_rfl) ?_ 0
        have y0 := h7.c0
        have y1 := h7.c1
        have y2 := h7.c2
        have y3 := h8.c0
        have y4 := h8.c1
        have y5 := h8.c2
        have HS6 := Lib.hid hS
        clear hS h7 h8
        go_wp2_with (go_at_fn g; refine (HG.out _ HS6.out.b).mono ?_; rintro e w4 ⟨rfl, hb4⟩; have HB4 := Lib.hid (HS6.out.below hb4); have s0 := HB4.out.r.c0; have s1 := HB4.out.r.c1; have s2 := HB4.out.r.c2; have f0 := HB4.out.r.free 0; have f1 := HB4.out.r.free 1; have f2 := HB4.out.r.free 2; clear hb4)
        exact bodyPost_ret (ret_row rfl (by rfl) (HB4.out.r.set q)) rfl ⟨HX.out.symm, set3_below HB4.out.b (Nat.le_succ _) _ _ _⟩
    · simp [Oper.wp, execOp, Act.put, go_sem]
      have h8 : Box3 (u104.alloc (.cells #[.int .i64 0, .int .i64 0, .string ⟨#[]⟩] 23)) u104.heap.size zV := Box3.new u104 zV
      have hg8 : w.heap.size + 2 ≤ u104.heap.size := hz
      have hS := hS.below ((Below.refl _ _).alloc (Nat.le_refl _) (.cells #[.int .i64 0, .int .i64 0, .string ⟨#[]⟩] 23))
      have hz : w.heap.size + 2 ≤ (u104.alloc (.cells #[.int .i64 0, .int .i64 0, .string ⟨#[]⟩] 23)).heap.size := by simp; omega
      obtain ⟨u115, hW2⟩ : ∃ q, u104.alloc (.cells #[.int .i64 0, .int .i64 0, .string ⟨#[]⟩] 23) = q := ⟨_, rfl⟩
      have hsz : u104.heap.size = u104.heap.size := rfl
      rw [hW2] at h8 hS hz
      first | rw [hW2] | (rw [show (W1.alloc (.cells #[.int .i64 0, .int .i64 0, .string ⟨#[]⟩] 23)).drew = u115 from hW2]; try rw [show W1.heap.size = W1.drew.heap.size from rfl])
      obtain ⟨g8, hgg⟩ : ∃ q, u104.heap.size = q := ⟨_, rfl⟩
      rw [hgg] at h8 hg8
      try rw [hgg]
      clear hW2 hgg hsz
      refine ⟨hS, ?_⟩
      try simp only [List.setIfInBounds_toArray, List.set_cons_succ, List.set_cons_zero]
      refine held_two (i := 11) (j := 12) rfl rfl (by kernel_rfl) (by kernel_rfl) (by kernel_rfl) ?_ ?_
      · simp [Oper.wp, execOp, Act.eval, Act.put, go_sem]
        refine (HC1.out _ hS).mono ?_
        rintro en u116 ⟨rfl, hb⟩
        have hz : w.heap.size + 2 ≤ u116.heap.size := Nat.le_trans hz hb.size
        have h8 := h8.below hb
        have hS := hS.below hb
        clear hb
        refine ⟨hS, ?_⟩
        try simp only [List.setIfInBounds_toArray, List.set_cons_succ, List.set_cons_zero]
        refine held_call (i := 12) rfl (by kernel_rfl) (by kernel_rfl) ?_
        simp [Oper.wp, execOp, Act.put, go_sem]
        have h7 : Box3 (u116.alloc (.cells #[.int .i64 0, .int .i64 0, .string ⟨#[]⟩] 23)) u116.heap.size zV := Box3.new u116 zV
        have hg7 : w.heap.size + 2 ≤ u116.heap.size := hz
        have hne : g8 < u116.heap.size := h8.lt
        have h8 := h8.alloc (.cells #[.int .i64 0, .int .i64 0, .string ⟨#[]⟩] 23)
        have hS := hS.below ((Below.refl _ _).alloc (Nat.le_refl _) (.cells #[.int .i64 0, .int .i64 0, .string ⟨#[]⟩] 23))
        have hz : w.heap.size + 2 ≤ (u116.alloc (.cells #[.int .i64 0, .int .i64 0, .string ⟨#[]⟩] 23)).heap.size := by simp; omega
        obtain ⟨u117, hW2⟩ : ∃ q, u116.alloc (.cells #[.int .i64 0, .int .i64 0, .string ⟨#[]⟩] 23) = q := ⟨_, rfl⟩
        have hsz : u116.heap.size = u116.heap.size := rfl
        rw [hW2] at h7 hS hz
        rw [hW2] at h8
        first | rw [hW2] | (rw [show (W1.alloc (.cells #[.int .i64 0, .int .i64 0, .string ⟨#[]⟩] 23)).drew = u117 from hW2]; try rw [show W1.heap.size = W1.drew.heap.size from rfl])
        obtain ⟨g7, hgg⟩ : ∃ q, u116.heap.size = q := ⟨_, rfl⟩
        rw [hgg] at h7 hg7 hne
        try rw [hgg]
        clear hW2 hgg hsz
        refine ⟨hS, ?_⟩
        try simp only [List.setIfInBounds_toArray, List.set_cons_succ, List.set_cons_zero]
        refine held_call (i := 14) rfl (by kernel_rfl) (by kernel_rfl) ?_
        have y0 := h7.c0
        have y1 := h7.c1
        have y2 := h7.c2
        have f0 := h7.free 0
        have f1 := h7.free 1
        have f2 := h7.free 2
        simp [Oper.wp, execOp, Act.eval, Act.put, go_sem, y0, y1, y2, f0, f1, f2]
        have h8 := h8.set3 (show g7 ≠ g8 by omega) a
        have hS := hS.set3 (g := g7) (by omega) (by omega) (by omega) a
        have h7 := h7.set a
        obtain ⟨W5, hW5⟩ : ∃ q, ((u117.setCell ⟨g7, 0, none⟩ (.int .i64 a.k)).setCell ⟨g7, 1, none⟩ (.int .i64 a.n)).setCell ⟨g7, 2, none⟩ (.string a.s) = q := ⟨_, rfl⟩
        rw [hW5] at h7 h8 hS
        rw [hW5]
        clear hW5 y0 y1 y2 f0 f1 f2
        refine ⟨hS, ?_⟩
        try simp only [List.setIfInBounds_toArray, List.set_cons_succ, List.set_cons_zero]
        refine held_call (i := 15) rfl (by kernel_rfl) (by kernel_rfl) ?_
        have y0 := h8.c0
        have y1 := h8.c1
        have y2 := h8.c2
        have f0 := h8.free 0
        have f1 := h8.free 1
        have f2 := h8.free 2
        simp [Oper.wp, execOp, Act.eval, Act.put, go_sem, y0, y1, y2, f0, f1, f2]
        have h7 := h7.set3 (show g8 ≠ g7 by omega) z
        have hS := hS.set3 (g := g8) (by omega) (by omega) (by omega) z
        have h8 := h8.set z
        obtain ⟨W6, hW6⟩ : ∃ q, ((W5.setCell ⟨g8, 0, none⟩ (.int .i64 z.k)).setCell ⟨g8, 1, none⟩ (.int .i64 z.n)).setCell ⟨g8, 2, none⟩ (.string z.s) = q := ⟨_, rfl⟩
        rw [hW6] at h7 h8 hS
        rw [hW6]
        clear hW6 y0 y1 y2 f0 f1 f2
        refine ⟨hS, ?_⟩
        try simp only [List.setIfInBounds_toArray, List.set_cons_succ, List.set_cons_zero]
        refine wpAnyH_done (by kernel_rfl) ?_ 0
        have y0 := h7.c0
        have y1 := h7.c1
        have y2 := h7.c2
        have y3 := h8.c0
        have y4 := h8.c1
        have y5 := h8.c2
        have HS6 := Lib.hid hS
        clear hS h7 h8
        go_wp2_with (go_at_fn g; refine (HG.out _ HS6.out.b).mono ?_; rintro e w4 ⟨rfl, hb4⟩; have HB4 := Lib.hid (HS6.out.below hb4); have s0 := HB4.out.r.c0; have s1 := HB4.out.r.c1; have s2 := HB4.out.r.c2; have f0 := HB4.out.r.free 0; have f1 := HB4.out.r.free 1; have f2 := HB4.out.r.free 2; clear hb4)
        exact bodyPost_ret (ret_row rfl (by rfl) (HB4.out.r.set q)) rfl ⟨HX.out.symm, set3_below HB4.out.b (Nat.le_succ _) _ _ _⟩
      · simp [Oper.wp, execOp, Act.put, go_sem]
        have h7 : Box3 (u115.alloc (.cells #[.int .i64 0, .int .i64 0, .string ⟨#[]⟩] 23)) u115.heap.size zV := Box3.new u115 zV
        have hg7 : w.heap.size + 2 ≤ u115.heap.size := hz
        have hne : g8 < u115.heap.size := h8.lt
        have h8 := h8.alloc (.cells #[.int .i64 0, .int .i64 0, .string ⟨#[]⟩] 23)
        have hS := hS.below ((Below.refl _ _).alloc (Nat.le_refl _) (.cells #[.int .i64 0, .int .i64 0, .string ⟨#[]⟩] 23))
        have hz : w.heap.size + 2 ≤ (u115.alloc (.cells #[.int .i64 0, .int .i64 0, .string ⟨#[]⟩] 23)).heap.size := by simp; omega
        obtain ⟨u118, hW2⟩ : ∃ q, u115.alloc (.cells #[.int .i64 0, .int .i64 0, .string ⟨#[]⟩] 23) = q := ⟨_, rfl⟩
        have hsz : u115.heap.size = u115.heap.size := rfl
        rw [hW2] at h7 hS hz
        rw [hW2] at h8
        first | rw [hW2] | (rw [show (W1.alloc (.cells #[.int .i64 0, .int .i64 0, .string ⟨#[]⟩] 23)).drew = u118 from hW2]; try rw [show W1.heap.size = W1.drew.heap.size from rfl])
        obtain ⟨g7, hgg⟩ : ∃ q, u115.heap.size = q := ⟨_, rfl⟩
        rw [hgg] at h7 hg7 hne
        try rw [hgg]
        clear hW2 hgg hsz
        refine ⟨hS, ?_⟩
        try simp only [List.setIfInBounds_toArray, List.set_cons_succ, List.set_cons_zero]
        refine held_call (i := 11) rfl (by kernel_rfl) (by kernel_rfl) ?_
        simp [Oper.wp, execOp, Act.eval, Act.put, go_sem]
        refine (HC1.out _ hS).mono ?_
        rintro en u119 ⟨rfl, hb⟩
        have hz : w.heap.size + 2 ≤ u119.heap.size := Nat.le_trans hz hb.size
        have h7 := h7.below hb
        have h8 := h8.below hb
        have hS := hS.below hb
        clear hb
        refine ⟨hS, ?_⟩
        try simp only [List.setIfInBounds_toArray, List.set_cons_succ, List.set_cons_zero]
        refine held_call (i := 14) rfl (by kernel_rfl) (by kernel_rfl) ?_
        have y0 := h7.c0
        have y1 := h7.c1
        have y2 := h7.c2
        have f0 := h7.free 0
        have f1 := h7.free 1
        have f2 := h7.free 2
        simp [Oper.wp, execOp, Act.eval, Act.put, go_sem, y0, y1, y2, f0, f1, f2]
        have h8 := h8.set3 (show g7 ≠ g8 by omega) a
        have hS := hS.set3 (g := g7) (by omega) (by omega) (by omega) a
        have h7 := h7.set a
        obtain ⟨W5, hW5⟩ : ∃ q, ((u119.setCell ⟨g7, 0, none⟩ (.int .i64 a.k)).setCell ⟨g7, 1, none⟩ (.int .i64 a.n)).setCell ⟨g7, 2, none⟩ (.string a.s) = q := ⟨_, rfl⟩
        rw [hW5] at h7 h8 hS
        rw [hW5]
        clear hW5 y0 y1 y2 f0 f1 f2
        refine ⟨hS, ?_⟩
        try simp only [List.setIfInBounds_toArray, List.set_cons_succ, List.set_cons_zero]
        refine held_call (i := 15) rfl (by kernel_rfl) (by kernel_rfl) ?_
        have y0 := h8.c0
        have y1 := h8.c1
        have y2 := h8.c2
        have f0 := h8.free 0
        have f1 := h8.free 1
        have f2 := h8.free 2
        simp [Oper.wp, execOp, Act.eval, Act.put, go_sem, y0, y1, y2, f0, f1, f2]
        have h7 := h7.set3 (show g8 ≠ g7 by omega) z
        have hS := hS.set3 (g := g8) (by omega) (by omega) (by omega) z
        have h8 := h8.set z
        obtain ⟨W6, hW6⟩ : ∃ q, ((W5.setCell ⟨g8, 0, none⟩ (.int .i64 z.k)).setCell ⟨g8, 1, none⟩ (.int .i64 z.n)).setCell ⟨g8, 2, none⟩ (.string z.s) = q := ⟨_, rfl⟩
        rw [hW6] at h7 h8 hS
        rw [hW6]
        clear hW6 y0 y1 y2 f0 f1 f2
        refine ⟨hS, ?_⟩
        try simp only [List.setIfInBounds_toArray, List.set_cons_succ, List.set_cons_zero]
        refine wpAnyH_done (by kernel_rfl) ?_ 0
        have y0 := h7.c0
        have y1 := h7.c1
        have y2 := h7.c2
        have y3 := h8.c0
        have y4 := h8.c1
        have y5 := h8.c2
        have HS6 := Lib.hid hS
        clear hS h7 h8
        go_wp2_with (go_at_fn g; refine (HG.out _ HS6.out.b).mono ?_; rintro e w4 ⟨rfl, hb4⟩; have HB4 := Lib.hid (HS6.out.below hb4); have s0 := HB4.out.r.c0; have s1 := HB4.out.r.c1; have s2 := HB4.out.r.c2; have f0 := HB4.out.r.free 0; have f1 := HB4.out.r.free 1; have f2 := HB4.out.r.free 2; clear hb4)
        exact bodyPost_ret (ret_row rfl (by rfl) (HB4.out.r.set q)) rfl ⟨HX.out.symm, set3_below HB4.out.b (Nat.le_succ _) _ _ _⟩
  · simp [Oper.wp, execOp, Act.put, go_sem]
    have h7 : Box3 (W1.drew.alloc (.cells #[.int .i64 0, .int .i64 0, .string ⟨#[]⟩] 23)) W1.drew.heap.size zV := Box3.new W1.drew zV
    have hg7 : w.heap.size + 2 ≤ W1.drew.heap.size := hz
    have hS := hS.below ((Below.refl _ _).alloc (Nat.le_refl _) (.cells #[.int .i64 0, .int .i64 0, .string ⟨#[]⟩] 23))
    have hz : w.heap.size + 2 ≤ (W1.drew.alloc (.cells #[.int .i64 0, .int .i64 0, .string ⟨#[]⟩] 23)).heap.size := by simp; omega
    obtain ⟨u120, hW2⟩ : ∃ q, W1.drew.alloc (.cells #[.int .i64 0, .int .i64 0, .string ⟨#[]⟩] 23) = q := ⟨_, rfl⟩
    have hsz : W1.drew.heap.size = W1.drew.heap.size := rfl
    rw [hW2] at h7 hS hz
    first | rw [hW2] | (rw [show (W1.alloc (.cells #[.int .i64 0, .int .i64 0, .string ⟨#[]⟩] 23)).drew = u120 from hW2]; try rw [show W1.heap.size = W1.drew.heap.size from rfl])
    obtain ⟨g7, hgg⟩ : ∃ q, W1.drew.heap.size = q := ⟨_, rfl⟩
    rw [hgg] at h7 hg7
    try rw [hgg]
    clear hW2 hgg hsz
    refine ⟨hS, ?_⟩
    try simp only [List.setIfInBounds_toArray, List.set_cons_succ, List.set_cons_zero]
    refine held_two (i := 5) (j := 13) rfl rfl (by kernel_rfl) (by kernel_rfl) (by kernel_rfl) ?_ ?_
    · simp [Oper.wp, execOp, Act.eval, Act.put, go_sem]
      refine (HC0.out _ hS).mono ?_
      rintro en u121 ⟨rfl, hb⟩
      have hz : w.heap.size + 2 ≤ u121.heap.size := Nat.le_trans hz hb.size
      have h7 := h7.below hb
      have hS := hS.below hb
      clear hb
      refine ⟨hS, ?_⟩
      try simp only [List.setIfInBounds_toArray, List.set_cons_succ, List.set_cons_zero]
      refine held_two (i := 11) (j := 13) rfl rfl (by kernel_rfl) (by kernel_rfl) (by kernel_rfl) ?_ ?_
      · simp [Oper.wp, execOp, Act.eval, Act.put, go_sem]
        refine (HC1.out _ hS).mono ?_
        rintro en u122 ⟨rfl, hb⟩
        have hz : w.heap.size + 2 ≤ u122.heap.size := Nat.le_trans hz hb.size
        have h7 := h7.below hb
        have hS := hS.below hb
        clear hb
        refine ⟨hS, ?_⟩
        try simp only [List.setIfInBounds_toArray, List.set_cons_succ, List.set_cons_zero]
        refine held_call (i := 13) rfl (by kernel_rfl) (by kernel_rfl) ?_
        simp [Oper.wp, execOp, Act.put, go_sem]
        have h8 : Box3 (u122.alloc (.cells #[.int .i64 0, .int .i64 0, .string ⟨#[]⟩] 23)) u122.heap.size zV := Box3.new u122 zV
        have hg8 : w.heap.size + 2 ≤ u122.heap.size := hz
        have hne : g7 < u122.heap.size := h7.lt
        have h7 := h7.alloc (.cells #[.int .i64 0, .int .i64 0, .string ⟨#[]⟩] 23)
        have hS := hS.below ((Below.refl _ _).alloc (Nat.le_refl _) (.cells #[.int .i64 0, .int .i64 0, .string ⟨#[]⟩] 23))
        have hz : w.heap.size + 2 ≤ (u122.alloc (.cells #[.int .i64 0, .int .i64 0, .string ⟨#[]⟩] 23)).heap.size := by simp; omega
        obtain ⟨u123, hW2⟩ : ∃ q, u122.alloc (.cells #[.int .i64 0, .int .i64 0, .string ⟨#[]⟩] 23) = q := ⟨_, rfl⟩
        have hsz : u122.heap.size = u122.heap.size := rfl
        rw [hW2] at h8 hS hz
        rw [hW2] at h7
        first | rw [hW2] | (rw [show (W1.alloc (.cells #[.int .i64 0, .int .i64 0, .string ⟨#[]⟩] 23)).drew = u123 from hW2]; try rw [show W1.heap.size = W1.drew.heap.size from rfl])
        obtain ⟨g8, hgg⟩ : ∃ q, u122.heap.size = q := ⟨_, rfl⟩
        rw [hgg] at h8 hg8 hne
        try rw [hgg]
        clear hW2 hgg hsz
        refine ⟨hS, ?_⟩
        try simp only [List.setIfInBounds_toArray, List.set_cons_succ, List.set_cons_zero]
        refine held_call (i := 14) rfl (by kernel_rfl) (by kernel_rfl) ?_
        have y0 := h7.c0
        have y1 := h7.c1
        have y2 := h7.c2
        have f0 := h7.free 0
        have f1 := h7.free 1
        have f2 := h7.free 2
        simp [Oper.wp, execOp, Act.eval, Act.put, go_sem, y0, y1, y2, f0, f1, f2]
        have h8 := h8.set3 (show g7 ≠ g8 by omega) a
        have hS := hS.set3 (g := g7) (by omega) (by omega) (by omega) a
        have h7 := h7.set a
        obtain ⟨W5, hW5⟩ : ∃ q, ((u123.setCell ⟨g7, 0, none⟩ (.int .i64 a.k)).setCell ⟨g7, 1, none⟩ (.int .i64 a.n)).setCell ⟨g7, 2, none⟩ (.string a.s) = q := ⟨_, rfl⟩
        rw [hW5] at h7 h8 hS
        rw [hW5]
        clear hW5 y0 y1 y2 f0 f1 f2
        refine ⟨hS, ?_⟩
        try simp only [List.setIfInBounds_toArray, List.set_cons_succ, List.set_cons_zero]
        refine held_call (i := 15) rfl (by kernel_rfl) (by kernel_rfl) ?_
        have y0 := h8.c0
        have y1 := h8.c1
        have y2 := h8.c2
        have f0 := h8.free 0
        have f1 := h8.free 1
        have f2 := h8.free 2
        simp [Oper.wp, execOp, Act.eval, Act.put, go_sem, y0, y1, y2, f0, f1, f2]
        have h7 := h7.set3 (show g8 ≠ g7 by omega) z
        have hS := hS.set3 (g := g8) (by omega) (by omega) (by omega) z
        have h8 := h8.set z
        obtain ⟨W6, hW6⟩ : ∃ q, ((W5.setCell ⟨g8, 0, none⟩ (.int .i64 z.k)).setCell ⟨g8, 1, none⟩ (.int .i64 z.n)).setCell ⟨g8, 2, none⟩ (.string z.s) = q := ⟨_, rfl⟩
        rw [hW6] at h7 h8 hS
        rw [hW6]
        clear hW6 y0 y1 y2 f0 f1 f2
        refine ⟨hS, ?_⟩
        try simp only [List.setIfInBounds_toArray, List.set_cons_succ, List.set_cons_zero]
        refine wpAnyH_done (by kernel_rfl) ?_ 0
        have y0 := h7.c0
        have y1 := h7.c1
        have y2 := h7.c2
        have y3 := h8.c0
        have y4 := h8.c1
        have y5 := h8.c2
        have HS6 := Lib.hid hS
        clear hS h7 h8
        go_wp2_with (go_at_fn g; refine (HG.out _ HS6.out.b).mono ?_; rintro e w4 ⟨rfl, hb4⟩; have HB4 := Lib.hid (HS6.out.below hb4); have s0 := HB4.out.r.c0; have s1 := HB4.out.r.c1; have s2 := HB4.out.r.c2; have f0 := HB4.out.r.free 0; have f1 := HB4.out.r.free 1; have f2 := HB4.out.r.free 2; clear hb4)
        exact bodyPost_ret (ret_row rfl (by rfl) (HB4.out.r.set q)) rfl ⟨HX.out.symm, set3_below HB4.out.b (Nat.le_succ _) _ _ _⟩
      · simp [Oper.wp, execOp, Act.put, go_sem]
        have h8 : Box3 (u121.alloc (.cells #[.int .i64 0, .int .i64 0, .string ⟨#[]⟩] 23)) u121.heap.size zV := Box3.new u121 zV
        have hg8 : w.heap.size + 2 ≤ u121.heap.size := hz
        have hne : g7 < u121.heap.size := h7.lt
        have h7 := h7.alloc (.cells #[.int .i64 0, .int .i64 0, .string ⟨#[]⟩] 23)
        have hS := hS.below ((Below.refl _ _).alloc (Nat.le_refl _) (.cells #[.int .i64 0, .int .i64 0, .string ⟨#[]⟩] 23))
        have hz : w.heap.size + 2 ≤ (u121.alloc (.cells #[.int .i64 0, .int .i64 0, .string ⟨#[]⟩] 23)).heap.size := by simp; omega
        obtain ⟨u124, hW2⟩ : ∃ q, u121.alloc (.cells #[.int .i64 0, .int .i64 0, .string ⟨#[]⟩] 23) = q := ⟨_, rfl⟩
        have hsz : u121.heap.size = u121.heap.size := rfl
        rw [hW2] at h8 hS hz
        rw [hW2] at h7
        first | rw [hW2] | (rw [show (W1.alloc (.cells #[.int .i64 0, .int .i64 0, .string ⟨#[]⟩] 23)).drew = u124 from hW2]; try rw [show W1.heap.size = W1.drew.heap.size from rfl])
        obtain ⟨g8, hgg⟩ : ∃ q, u121.heap.size = q := ⟨_, rfl⟩
        rw [hgg] at h8 hg8 hne
        try rw [hgg]
        clear hW2 hgg hsz
        refine ⟨hS, ?_⟩
        try simp only [List.setIfInBounds_toArray, List.set_cons_succ, List.set_cons_zero]
        refine held_call (i := 11) rfl (by kernel_rfl) (by kernel_rfl) ?_
        simp [Oper.wp, execOp, Act.eval, Act.put, go_sem]
        refine (HC1.out _ hS).mono ?_
        rintro en u125 ⟨rfl, hb⟩
        have hz : w.heap.size + 2 ≤ u125.heap.size := Nat.le_trans hz hb.size
        have h7 := h7.below hb
        have h8 := h8.below hb
        have hS := hS.below hb
        clear hb
        refine ⟨hS, ?_⟩
        try simp only [List.setIfInBounds_toArray, List.set_cons_succ, List.set_cons_zero]
        refine held_call (i := 14) rfl (by kernel_rfl) (by kernel_rfl) ?_
        have y0 := h7.c0
        have y1 := h7.c1
        have y2 := h7.c2
        have f0 := h7.free 0
        have f1 := h7.free 1
        have f2 := h7.free 2
        simp [Oper.wp, execOp, Act.eval, Act.put, go_sem, y0, y1, y2, f0, f1, f2]
        have h8 := h8.set3 (show g7 ≠ g8 by omega) a
        have hS := hS.set3 (g := g7) (by omega) (by omega) (by omega) a
        have h7 := h7.set a
        obtain ⟨W5, hW5⟩ : ∃ q, ((u125.setCell ⟨g7, 0, none⟩ (.int .i64 a.k)).setCell ⟨g7, 1, none⟩ (.int .i64 a.n)).setCell ⟨g7, 2, none⟩ (.string a.s) = q := ⟨_, rfl⟩
        rw [hW5] at h7 h8 hS
        rw [hW5]
        clear hW5 y0 y1 y2 f0 f1 f2
        refine ⟨hS, ?_⟩
        try simp only [List.setIfInBounds_toArray, List.set_cons_succ, List.set_cons_zero]
        refine held_call (i := 15) rfl (by kernel_rfl) (by kernel_rfl) ?_
        have y0 := h8.c0
        have y1 := h8.c1
        have y2 := h8.c2
        have f0 := h8.free 0
        have f1 := h8.free 1
        have f2 := h8.free 2
        simp [Oper.wp, execOp, Act.eval, Act.put, go_sem, y0, y1, y2, f0, f1, f2]
        have h7 := h7.set3 (show g8 ≠ g7 by omega) z
        have hS := hS.set3 (g := g8) (by omega) (by omega) (by omega) z
        have h8 := h8.set z
        obtain ⟨W6, hW6⟩ : ∃ q, ((W5.setCell ⟨g8, 0, none⟩ (.int .i64 z.k)).setCell ⟨g8, 1, none⟩ (.int .i64 z.n)).setCell ⟨g8, 2, none⟩ (.string z.s) = q := ⟨_, rfl⟩
        rw [hW6] at h7 h8 hS
        rw [hW6]
        clear hW6 y0 y1 y2 f0 f1 f2
        refine ⟨hS, ?_⟩
        try simp only [List.setIfInBounds_toArray, List.set_cons_succ, List.set_cons_zero]
        refine wpAnyH_done (by kernel_rfl) ?_ 0
        have y0 := h7.c0
        have y1 := h7.c1
        have y2 := h7.c2
        have y3 := h8.c0
        have y4 := h8.c1
        have y5 := h8.c2
        have HS6 := Lib.hid hS
        clear hS h7 h8
        go_wp2_with (go_at_fn g; refine (HG.out _ HS6.out.b).mono ?_; rintro e w4 ⟨rfl, hb4⟩; have HB4 := Lib.hid (HS6.out.below hb4); have s0 := HB4.out.r.c0; have s1 := HB4.out.r.c1; have s2 := HB4.out.r.c2; have f0 := HB4.out.r.free 0; have f1 := HB4.out.r.free 1; have f2 := HB4.out.r.free 2; clear hb4)
        exact bodyPost_ret (ret_row rfl (by rfl) (HB4.out.r.set q)) rfl ⟨HX.out.symm, set3_below HB4.out.b (Nat.le_succ _) _ _ _⟩
    · simp [Oper.wp, execOp, Act.put, go_sem]
      have h8 : Box3 (u120.alloc (.cells #[.int .i64 0, .int .i64 0, .string ⟨#[]⟩] 23)) u120.heap.size zV := Box3.new u120 zV
      have hg8 : w.heap.size + 2 ≤ u120.heap.size := hz
      have hne : g7 < u120.heap.size := h7.lt
      have h7 := h7.alloc (.cells #[.int .i64 0, .int .i64 0, .string ⟨#[]⟩] 23)
      have hS := hS.below ((Below.refl _ _).alloc (Nat.le_refl _) (.cells #[.int .i64 0, .int .i64 0, .string ⟨#[]⟩] 23))
      have hz : w.heap.size + 2 ≤ (u120.alloc (.cells #[.int .i64 0, .int .i64 0, .string ⟨#[]⟩] 23)).heap.size := by simp; omega
      obtain ⟨u126, hW2⟩ : ∃ q, u120.alloc (.cells #[.int .i64 0, .int .i64 0, .string ⟨#[]⟩] 23) = q := ⟨_, rfl⟩
      have hsz : u120.heap.size = u120.heap.size := rfl
      rw [hW2] at h8 hS hz
      rw [hW2] at h7
      first | rw [hW2] | (rw [show (W1.alloc (.cells #[.int .i64 0, .int .i64 0, .string ⟨#[]⟩] 23)).drew = u126 from hW2]; try rw [show W1.heap.size = W1.drew.heap.size from rfl])
      obtain ⟨g8, hgg⟩ : ∃ q, u120.heap.size = q := ⟨_, rfl⟩
      rw [hgg] at h8 hg8 hne
      try rw [hgg]
      clear hW2 hgg hsz
      refine ⟨hS, ?_⟩
      try simp only [List.setIfInBounds_toArray, List.set_cons_succ, List.set_cons_zero]
      refine held_call (i := 5) rfl (by kernel_rfl) (by kernel_rfl) ?_
      simp [Oper.wp, execOp, Act.eval, Act.put, go_sem]
      refine (HC0.out _ hS).mono ?_
      rintro en u127 ⟨rfl, hb⟩
      have hz : w.heap.size + 2 ≤ u127.heap.size := Nat.le_trans hz hb.size
      have h7 := h7.below hb
      have h8 := h8.below hb
      have hS := hS.below hb
      clear hb
      refine ⟨hS, ?_⟩
      try simp only [List.setIfInBounds_toArray, List.set_cons_succ, List.set_cons_zero]
      refine held_call (i := 11) rfl (by kernel_rfl) (by kernel_rfl) ?_
      simp [Oper.wp, execOp, Act.eval, Act.put, go_sem]
      refine (HC1.out _ hS).mono ?_
      rintro en u128 ⟨rfl, hb⟩
      have hz : w.heap.size + 2 ≤ u128.heap.size := Nat.le_trans hz hb.size
      have h7 := h7.below hb
      have h8 := h8.below hb
      have hS := hS.below hb
      clear hb
      refine ⟨hS, ?_⟩
      try simp only [List.setIfInBounds_toArray, List.set_cons_succ, List.set_cons_zero]
      refine held_call (i := 14) rfl (by kernel_rfl) (by kernel_rfl) ?_
      have y0 := h7.c0
      have y1 := h7.c1
      have y2 := h7.c2
      have f0 := h7.free 0
      have f1 := h7.free 1
      have f2 := h7.free 2
      simp [Oper.wp, execOp, Act.eval, Act.put, go_sem, y0, y1, y2, f0, f1, f2]
      have h8 := h8.set3 (show g7 ≠ g8 by omega) a
      have hS := hS.set3 (g := g7) (by omega) (by omega) (by omega) a
      have h7 := h7.set a
      obtain ⟨W5, hW5⟩ : ∃ q, ((u128.setCell ⟨g7, 0, none⟩ (.int .i64 a.k)).setCell ⟨g7, 1, none⟩ (.int .i64 a.n)).setCell ⟨g7, 2, none⟩ (.string a.s) = q := ⟨_, rfl⟩
      rw [hW5] at h7 h8 hS
      rw [hW5]
      clear hW5 y0 y1 y2 f0 f1 f2
      refine ⟨hS, ?_⟩
      try simp only [List.setIfInBounds_toArray, List.set_cons_succ, List.set_cons_zero]
      refine held_call (i := 15) rfl (by kernel_rfl) (by kernel_rfl) ?_
      have y0 := h8.c0
      have y1 := h8.c1
      have y2 := h8.c2
      have f0 := h8.free 0
      have f1 := h8.free 1
      have f2 := h8.free 2
      simp [Oper.wp, execOp, Act.eval, Act.put, go_sem, y0, y1, y2, f0, f1, f2]
      have h7 := h7.set3 (show g8 ≠ g7 by omega) z
      have hS := hS.set3 (g := g8) (by omega) (by omega) (by omega) z
      have h8 := h8.set z
      obtain ⟨W6, hW6⟩ : ∃ q, ((W5.setCell ⟨g8, 0, none⟩ (.int .i64 z.k)).setCell ⟨g8, 1, none⟩ (.int .i64 z.n)).setCell ⟨g8, 2, none⟩ (.string z.s) = q := ⟨_, rfl⟩
      rw [hW6] at h7 h8 hS
      rw [hW6]
      clear hW6 y0 y1 y2 f0 f1 f2
      refine ⟨hS, ?_⟩
      try simp only [List.setIfInBounds_toArray, List.set_cons_succ, List.set_cons_zero]
      refine wpAnyH_done (by kernel_rfl) ?_ 0
      have y0 := h7.c0
      have y1 := h7.c1
      have y2 := h7.c2
      have y3 := h8.c0
      have y4 := h8.c1
      have y5 := h8.c2
      have HS6 := Lib.hid hS
      clear hS h7 h8
      go_wp2_with (go_at_fn g; refine (HG.out _ HS6.out.b).mono ?_; rintro e w4 ⟨rfl, hb4⟩; have HB4 := Lib.hid (HS6.out.below hb4); have s0 := HB4.out.r.c0; have s1 := HB4.out.r.c1; have s2 := HB4.out.r.c2; have f0 := HB4.out.r.free 0; have f1 := HB4.out.r.free 1; have f2 := HB4.out.r.free 2; clear hb4)
      exact bodyPost_ret (ret_row rfl (by rfl) (HB4.out.r.set q)) rfl ⟨HX.out.symm, set3_below HB4.out.b (Nat.le_succ _) _ _ _⟩
  · simp [Oper.wp, execOp, Act.put, go_sem]
    have h8 : Box3 (W1.drew.alloc (.cells #[.int .i64 0, .int .i64 0, .string ⟨#[]⟩] 23)) W1.drew.heap.size zV := Box3.new W1.drew zV
    have hg8 : w.heap.size + 2 ≤ W1.drew.heap.size := hz
    have hS := hS.below ((Below.refl _ _).alloc (Nat.le_refl _) (.cells #[.int .i64 0, .int .i64 0, .string ⟨#[]⟩] 23))
    have hz : w.heap.size + 2 ≤ (W1.drew.alloc (.cells #[.int .i64 0, .int .i64 0, .string ⟨#[]⟩] 23)).heap.size := by simp; omega
    obtain ⟨u129, hW2⟩ : ∃ q, W1.drew.alloc (.cells #[.int .i64 0, .int .i64 0, .string ⟨#[]⟩] 23) = q := ⟨_, rfl⟩
    have hsz : W1.drew.heap.size = W1.drew.heap.size := rfl
    rw [hW2] at h8 hS hz
    first | rw [hW2] | (rw [show (W1.alloc (.cells #[.int .i64 0, .int .i64 0, .string ⟨#[]⟩] 23)).drew = u129 from hW2]; try rw [show W1.heap.size = W1.drew.heap.size from rfl])
    obtain ⟨g8, hgg⟩ : ∃ q, W1.drew.heap.size = q := ⟨_, rfl⟩
    rw [hgg] at h8 hg8
    try rw [hgg]
    clear hW2 hgg hsz
    refine ⟨hS, ?_⟩
    try simp only [List.setIfInBounds_toArray, List.set_cons_succ, List.set_cons_zero]
    refine held_two (i := 5) (j := 12) rfl rfl (by kernel_rfl) (by kernel_rfl) (by kernel_rfl) ?_ ?_
    · simp [Oper.wp, execOp, Act.eval, Act.put, go_sem]
      refine (HC0.out _ hS).mono ?_
      rintro en u130 ⟨rfl, hb⟩
      have hz : w.heap.size + 2 ≤ u130.heap.size := Nat.le_trans hz hb.size
      have h8 := h8.below hb
      have hS := hS.below hb
      clear hb
      refine ⟨hS, ?_⟩
      try simp only [List.setIfInBounds_toArray, List.set_cons_succ, List.set_cons_zero]
      refine held_two (i := 11) (j := 12) rfl rfl (by kernel_rfl) (by kernel_rfl) (by kernel_rfl) ?_ ?_
      · simp [Oper.wp, execOp, Act.eval, Act.put, go_sem]
        refine (HC1.out _ hS).mono ?_
        rintro en u131 ⟨rfl, hb⟩
        have hz : w.heap.size + 2 ≤ u131.heap.size := Nat.le_trans hz hb.size
        have h8 := h8.below hb
        have hS := hS.below hb
        clear hb
        refine ⟨hS, ?_⟩
        try simp only [List.setIfInBounds_toArray, List.set_cons_succ, List.set_cons_zero]
        refine held_call (i := 12) rfl (by kernel_rfl) (by kernel_rfl) ?_
        simp [Oper.wp, execOp, Act.put, go_sem]
        have h7 : Box3 (u131.alloc (.cells #[.int .i64 0, .int .i64 0, .string ⟨#[]⟩] 23)) u131.heap.size zV := Box3.new u131 zV
        have hg7 : w.heap.size + 2 ≤ u131.heap.size := hz
        have hne : g8 < u131.heap.size := h8.lt
        have h8 := h8.alloc (.cells #[.int .i64 0, .int .i64 0, .string ⟨#[]⟩] 23)
        have hS := hS.below ((Below.refl _ _).alloc (Nat.le_refl _) (.cells #[.int .i64 0, .int .i64 0, .string ⟨#[]⟩] 23))
        have hz : w.heap.size + 2 ≤ (u131.alloc (.cells #[.int .i64 0, .int .i64 0, .string ⟨#[]⟩] 23)).heap.size := by simp; omega
        obtain ⟨u132, hW2⟩ : ∃ q, u131.alloc (.cells #[.int .i64 0, .int .i64 0, .string ⟨#[]⟩] 23) = q := ⟨_, rfl⟩
        have hsz : u131.heap.size = u131.heap.size := rfl
        rw [hW2] at h7 hS hz
        rw [hW2] at h8
        first | rw [hW2] | (rw [show (W1.alloc (.cells #[.int .i64 0, .int .i64 0, .string ⟨#[]⟩] 23)).drew = u132 from hW2]; try rw [show W1.heap.size = W1.drew.heap.size from rfl])
        obtain ⟨g7, hgg⟩ : ∃ q, u131.heap.size = q := ⟨_, rfl⟩
        rw [hgg] at h7 hg7 hne
        try rw [hgg]
        clear hW2 hgg hsz
        refine ⟨hS, ?_⟩
        try simp only [List.setIfInBounds_toArray, List.set_cons_succ, List.set_cons_zero]
        refine held_call (i := 14) rfl (by kernel_rfl) (by kernel_rfl) ?_
        have y0 := h7.c0
        have y1 := h7.c1
        have y2 := h7.c2
        have f0 := h7.free 0
        have f1 := h7.free 1
        have f2 := h7.free 2
        simp [Oper.wp, execOp, Act.eval, Act.put, go_sem, y0, y1, y2, f0, f1, f2]
        have h8 := h8.set3 (show g7 ≠ g8 by omega) a
        have hS := hS.set3 (g := g7) (by omega) (by omega) (by omega) a
        have h7 := h7.set a
        obtain ⟨W5, hW5⟩ : ∃ q, ((u132.setCell ⟨g7, 0, none⟩ (.int .i64 a.k)).setCell ⟨g7, 1, none⟩ (.int .i64 a.n)).setCell ⟨g7, 2, none⟩ (.string a.s) = q := ⟨_, rfl⟩
        rw [hW5] at h7 h8 hS
        rw [hW5]
        clear hW5 y0 y1 y2 f0 f1 f2
        refine ⟨hS, ?_⟩
        try simp only [List.setIfInBounds_toArray, List.set_cons_succ, List.set_cons_zero]
        refine held_call (i := 15) rfl (by kernel_rfl) (by kernel_rfl) ?_
        have y0 := h8.c0
        have y1 := h8.c1
        have y2 := h8.c2
        have f0 := h8.free 0
        have f1 := h8.free 1
        have f2 := h8.free 2
        simp [Oper.wp, execOp, Act.eval, Act.put, go_sem, y0, y1, y2, f0, f1, f2]
        have h7 := h7.set3 (show g8 ≠ g7 by omega) z
        have hS := hS.set3 (g := g8) (by omega) (by omega) (by omega) z
        have h8 := h8.set z
        obtain ⟨W6, hW6⟩ : ∃ q, ((W5.setCell ⟨g8, 0, none⟩ (.int .i64 z.k)).setCell ⟨g8, 1, none⟩ (.int .i64 z.n)).setCell ⟨g8, 2, none⟩ (.string z.s) = q := ⟨_, rfl⟩
        rw [hW6] at h7 h8 hS
        rw [hW6]
        clear hW6 y0 y1 y2 f0 f1 f2
        refine ⟨hS, ?_⟩
        try simp only [List.setIfInBounds_toArray, List.set_cons_succ, List.set_cons_zero]
        refine wpAnyH_done (by kernel_rfl) ?_ 0
        have y0 := h7.c0
        have y1 := h7.c1
        have y2 := h7.c2
        have y3 := h8.c0
        have y4 := h8.c1
        have y5 := h8.c2
        have HS6 := Lib.hid hS
        clear hS h7 h8
        go_wp2_with (go_at_fn g; refine (HG.out _ HS6.out.b).mono ?_; rintro e w4 ⟨rfl, hb4⟩; have HB4 := Lib.hid (HS6.out.below hb4); have s0 := HB4.out.r.c0; have s1 := HB4.out.r.c1; have s2 := HB4.out.r.c2; have f0 := HB4.out.r.free 0; have f1 := HB4.out.r.free 1; have f2 := HB4.out.r.free 2; clear hb4)
        exact bodyPost_ret (ret_row rfl (by rfl) (HB4.out.r.set q)) rfl ⟨HX.out.symm, set3_below HB4.out.b (Nat.le_succ _) _ _ _⟩
      · simp [Oper.wp, execOp, Act.put, go_sem]
        have h7 : Box3 (u130.alloc (.cells #[.int .i64 0, .int .i64 0, .string ⟨#[]⟩] 23)) u130.heap.size zV := Box3.new u130 zV
        have hg7 : w.heap.size + 2 ≤ u130.heap.size := hz
        have hne : g8 < u130.heap.size := h8.lt
        have h8 := h8.alloc (.cells #[.int .i64 0, .int .i64 0, .string ⟨#[]⟩] 23)
        have hS := hS.below ((Below.refl _ _).alloc (Nat.le_refl _) (.cells #[.int .i64 0, .int .i64 0, .string ⟨#[]⟩] 23))
        have hz : w.heap.size + 2 ≤ (u130.alloc (.cells #[.int .i64 0, .int .i64 0, .string ⟨#[]⟩] 23)).heap.size := by simp; omega
        obtain ⟨u133, hW2⟩ : ∃ q, u130.alloc (.cells #[.int .i64 0, .int .i64 0, .string ⟨#[]⟩] 23) = q := ⟨_, rfl⟩
        have hsz : u130.heap.size = u130.heap.size := rfl
        rw [hW2] at h7 hS hz
        rw [hW2] at h8
        first | rw [hW2] | (rw [show (W1.alloc (.cells #[.int .i64 0, .int .i64 0, .string ⟨#[]⟩] 23)).drew = u133 from hW2]; try rw [show W1.heap.size = W1.drew.heap.size from rfl])
        obtain ⟨g7, hgg⟩ : ∃ q, u130.heap.size = q := ⟨_, rfl⟩
        rw [hgg] at h7 hg7 hne
        try rw [hgg]
        clear hW2 hgg hsz
        refine ⟨hS, ?_⟩
        try simp only [List.setIfInBounds_toArray, List.set_cons_succ, List.set_cons_zero]
        refine held_call (i := 11) rfl (by kernel_rfl) (by kernel_rfl) ?_
        simp [Oper.wp, execOp, Act.eval, Act.put, go_sem]
        refine (HC1.out _ hS).mono ?_
        rintro en u134 ⟨rfl, hb⟩
        have hz : w.heap.size + 2 ≤ u134.heap.size := Nat.le_trans hz hb.size
        have h7 := h7.below hb
        have h8 := h8.below hb
        have hS := hS.below hb
        clear hb
        refine ⟨hS, ?_⟩
        try simp only [List.setIfInBounds_toArray, List.set_cons_succ, List.set_cons_zero]
        refine held_call (i := 14) rfl (by kernel_rfl) (by kernel_rfl) ?_
        have y0 := h7.c0
        have y1 := h7.c1
        have y2 := h7.c2
        have f0 := h7.free 0
        have f1 := h7.free 1
        have f2 := h7.free 2
        simp [Oper.wp, execOp, Act.eval, Act.put, go_sem, y0, y1, y2, f0, f1, f2]
        have h8 := h8.set3 (show g7 ≠ g8 by omega) a
        have hS := hS.set3 (g := g7) (by omega) (by omega) (by omega) a
        have h7 := h7.set a
        obtain ⟨W5, hW5⟩ : ∃ q, ((u134.setCell ⟨g7, 0, none⟩ (.int .i64 a.k)).setCell ⟨g7, 1, none⟩ (.int .i64 a.n)).setCell ⟨g7, 2, none⟩ (.string a.s) = q := ⟨_, rfl⟩
        rw [hW5] at h7 h8 hS
        rw [hW5]
        clear hW5 y0 y1 y2 f0 f1 f2
        refine ⟨hS, ?_⟩
        try simp only [List.setIfInBounds_toArray, List.set_cons_succ, List.set_cons_zero]
        refine held_call (i := 15) rfl (by kernel_rfl) (by kernel_rfl) ?_
        have y0 := h8.c0
        have y1 := h8.c1
        have y2 := h8.c2
        have f0 := h8.free 0
        have f1 := h8.free 1
        have f2 := h8.free 2
        simp [Oper.wp, execOp, Act.eval, Act.put, go_sem, y0, y1, y2, f0, f1, f2]
        have h7 := h7.set3 (show g8 ≠ g7 by omega) z
        have hS := hS.set3 (g := g8) (by omega) (by omega) (by omega) z
        have h8 := h8.set z
        obtain ⟨W6, hW6⟩ : ∃ q, ((W5.setCell ⟨g8, 0, none⟩ (.int .i64 z.k)).setCell ⟨g8, 1, none⟩ (.int .i64 z.n)).setCell ⟨g8, 2, none⟩ (.string z.s) = q := ⟨_, rfl⟩
        rw [hW6] at h7 h8 hS
        rw [hW6]
        clear hW6 y0 y1 y2 f0 f1 f2
        refine ⟨hS, ?_⟩
        try simp only [List.setIfInBounds_toArray, List.set_cons_succ, List.set_cons_zero]
        refine wpAnyH_done (by kernel_rfl) ?_ 0
        have y0 := h7.c0
        have y1 := h7.c1
        have y2 := h7.c2
        have y3 := h8.c0
        have y4 := h8.c1
        have y5 := h8.c2
        have HS6 := Lib.hid hS
        clear hS h7 h8
        go_wp2_with (go_at_fn g; refine (HG.out _ HS6.out.b).mono ?_; rintro e w4 ⟨rfl, hb4⟩; have HB4 := Lib.hid (HS6.out.below hb4); have s0 := HB4.out.r.c0; have s1 := HB4.out.r.c1; have s2 := HB4.out.r.c2; have f0 := HB4.out.r.free 0; have f1 := HB4.out.r.free 1; have f2 := HB4.out.r.free 2; clear hb4)
        exact bodyPost_ret (ret_row rfl (by rfl) (HB4.out.r.set q)) rfl ⟨HX.out.symm, set3_below HB4.out.b (Nat.le_succ _) _ _ _⟩
    · simp [Oper.wp, execOp, Act.put, go_sem]
      have h7 : Box3 (u129.alloc (.cells #[.int .i64 0, .int .i64 0, .string ⟨#[]⟩] 23)) u129.heap.size zV := Box3.new u129 zV
      have hg7 : w.heap.size + 2 ≤ u129.heap.size := hz
      have hne : g8 < u129.heap.size := h8.lt
      have h8 := h8.alloc (.cells #[.int .i64 0, .int .i64 0, .string ⟨#[]⟩] 23)
      have hS := hS.below ((Below.refl _ _).alloc (Nat.le_refl _) (.cells #[.int .i64 0, .int .i64 0, .string ⟨#[]⟩] 23))
      have hz : w.heap.size + 2 ≤ (u129.alloc (.cells #[.int .i64 0, .int .i64 0, .string ⟨#[]⟩] 23)).heap.size := by simp; omega
      obtain ⟨u135, hW2⟩ : ∃ q, u129.alloc (.cells #[.int .i64 0, .int .i64 0, .string ⟨#[]⟩] 23) = q := ⟨_, rfl⟩
      have hsz : u129.heap.size = u129.heap.size := rfl
      rw [hW2] at h7 hS hz
      rw [hW2] at h8
      first | rw [hW2] | (rw [show (W1.alloc (.cells #[.int .i64 0, .int .i64 0, .string ⟨#[]⟩] 23)).drew = u135 from hW2]; try rw [show W1.heap.size = W1.drew.heap.size from rfl])
      obtain ⟨g7, hgg⟩ : ∃ q, u129.heap.size = q := ⟨_, rfl⟩
      rw [hgg] at h7 hg7 hne
      try rw [hgg]
      clear hW2 hgg hsz
      refine ⟨hS, ?_⟩
      try simp only [List.setIfInBounds_toArray, List.set_cons_succ, List.set_cons_zero]
      refine held_call (i := 5) rfl (by kernel_rfl) (by kernel_rfl) ?_
      simp [Oper.wp, execOp, Act.eval, Act.put, go_sem]
      refine (HC0.out _ hS).mono ?_
      rintro en u136 ⟨rfl, hb⟩
      have hz : w.heap.size + 2 ≤ u136.heap.size := Nat.le_trans hz hb.size
      have h7 := h7.below hb
      have h8 := h8.below hb
      have hS := hS.below hb
      clear hb
      refine ⟨hS, ?_⟩
      try simp only [List.setIfInBounds_toArray, List.set_cons_succ, List.set_cons_zero]
      refine held_call (i := 11) rfl (by kernel_rfl) (by kernel_rfl) ?_
      simp [Oper.wp, execOp, Act.eval, Act.put, go_sem]
      refine (HC1.out _ hS).mono ?_
      rintro en u137 ⟨rfl, hb⟩
      have hz : w.heap.size + 2 ≤ u137.heap.size := Nat.le_trans hz hb.size
      have h7 := h7.below hb
      have h8 := h8.below hb
      have hS := hS.below hb
      clear hb
      refine ⟨hS, ?_⟩
      try simp only [List.setIfInBounds_toArray, List.set_cons_succ, List.set_cons_zero]
      refine held_call (i := 14) rfl (by kernel_rfl) (by kernel_rfl) ?_
      have y0 := h7.c0
      have y1 := h7.c1
      have y2 := h7.c2
      have f0 := h7.free 0
      have f1 := h7.free 1
      have f2 := h7.free 2
      simp [Oper.wp, execOp, Act.eval, Act.put, go_sem, y0, y1, y2, f0, f1, f2]
      have h8 := h8.set3 (show g7 ≠ g8 by omega) a
      have hS := hS.set3 (g := g7) (by omega) (by omega) (by omega) a
      have h7 := h7.set a
      obtain ⟨W5, hW5⟩ : ∃ q, ((u137.setCell ⟨g7, 0, none⟩ (.int .i64 a.k)).setCell ⟨g7, 1, none⟩ (.int .i64 a.n)).setCell ⟨g7, 2, none⟩ (.string a.s) = q := ⟨_, rfl⟩
      rw [hW5] at h7 h8 hS
      rw [hW5]
      clear hW5 y0 y1 y2 f0 f1 f2
      refine ⟨hS, ?_⟩
      try simp only [List.setIfInBounds_toArray, List.set_cons_succ, List.set_cons_zero]
      refine held_call (i := 15) rfl (by kernel_rfl) (by kernel_rfl) ?_
      have y0 := h8.c0
      have y1 := h8.c1
      have y2 := h8.c2
      have f0 := h8.free 0
      have f1 := h8.free 1
      have f2 := h8.free 2
      simp [Oper.wp, execOp, Act.eval, Act.put, go_sem, y0, y1, y2, f0, f1, f2]
      have h7 := h7.set3 (show g8 ≠ g7 by omega) z
      have hS := hS.set3 (g := g8) (by omega) (by omega) (by omega) z
      have h8 := h8.set z
      obtain ⟨W6, hW6⟩ : ∃ q, ((W5.setCell ⟨g8, 0, none⟩ (.int .i64 z.k)).setCell ⟨g8, 1, none⟩ (.int .i64 z.n)).setCell ⟨g8, 2, none⟩ (.string z.s) = q := ⟨_, rfl⟩
      rw [hW6] at h7 h8 hS
      rw [hW6]
      clear hW6 y0 y1 y2 f0 f1 f2
      refine ⟨hS, ?_⟩
      try simp only [List.setIfInBounds_toArray, List.set_cons_succ, List.set_cons_zero]
      refine wpAnyH_done (by kernel_rfl) ?_ 0
      have y0 := h7.c0
      have y1 := h7.c1
      have y2 := h7.c2
      have y3 := h8.c0
      have y4 := h8.c1
      have y5 := h8.c2
      have HS6 := Lib.hid hS
      clear hS h7 h8
      go_wp2_with (go_at_fn g; refine (HG.out _ HS6.out.b).mono ?_; rintro e w4 ⟨rfl, hb4⟩; have HB4 := Lib.hid (HS6.out.below hb4); have s0 := HB4.out.r.c0; have s1 := HB4.out.r.c1; have s2 := HB4.out.r.c2; have f0 := HB4.out.r.free 0; have f1 := HB4.out.r.free 1; have f2 := HB4.out.r.free 2; clear hb4)
      exact bodyPost_ret (ret_row rfl (by rfl) (HB4.out.r.set q)) rfl ⟨HX.out.symm, set3_below HB4.out.b (Nat.le_succ _) _ _ _⟩
end
end Go.Proofs.YtclcabdekeegdaaGreat
