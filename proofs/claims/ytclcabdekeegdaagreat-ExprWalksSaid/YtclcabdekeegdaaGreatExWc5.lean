/- Layer 13, walked: worths: what two parts come to, a case (wip/gen/XExWb.py). -/
import Derived.Test.YtclcabdekeegdaaGreatExWab
namespace Go.Proofs.YtclcabdekeegdaaGreat
open Go.ChangeShapes Go.WideShapes Go.ChangeAt Go.RowKit
set_option linter.unusedVariables false
set_option linter.unusedSimpArgs false
section
variable (cs : List C) (row : List V) (cA : Option Addr) (cc : Nat) (rA : Option Addr) (rc : Nat) (B b : Nat)
set_option maxHeartbeats 16000000 in
set_option maxRecDepth 40000 in
theorem two_no (o : Int) (n : ByteArray) (v : V) (ks : List X) (h1 : 1 < ks.length) (A : Option Addr) (c : Nat) (w : World) (hs : Sc cs row cA cc rA rc B b w) (hk : KidsAt w w.heap.size (.mk o n v ks) A c) (r0 r1 : V × Int)
    (hx : WK cs row cA cc rA rc B b ks[0] r0) (hy : WK cs row cA cc rA rc B b ks[1] r1)
    (g : Nat) (p : Value) (eg : ∀ args W, (callFunc g args).run Tryz.prog W = .ok (.enter g args) W) (F : V → V → V × Int) (hF : r0.2 = 0 → r1.2 = 0 → r0.1.k ≠ 0 → r1.1.k ≠ 0 → ∀ W, Below w.heap.size w W → Calls Tryz.prog g #[r0.1.val, r1.1.val, p] W fun en w' => en = endW (F r0.1 r1.1) ∧ Below W.heap.size W w') (he : r0.2 = 0) (he1 : r1.2 = 0) (hza : r0.1.k ≠ 0) (hzz : r1.1.k ≠ 0) (heq : (F r0.1 r1.1).2 ≠ 0) :
    Calls Tryz.prog 106 #[.pointer (some ⟨b, 0, none⟩), eV o n v ks.length A c, .func (.func g) #[] #[p]] w fun en w' => en = endW (twoR r0 r1 F) ∧ Below w.heap.size w w' := by
  obtain ⟨bk, off, A2, c2, rfl, hbk, hk2, a0, a1, a2, a3, a4, a5⟩ := hk.at6m 0 (by omega)
  obtain ⟨bk', off', A3, c3, hA, hbk', hk3, d0, d1, d2, d3, d4, d5⟩ := hk.at6m 1 h1
  injection hA with hA
  injection hA with hA1 hA2
  subst hA1 hA2
  obtain ⟨x, hxx⟩ : ∃ x, ks[0] = x := ⟨_, rfl⟩
  obtain ⟨y, hyy⟩ : ∃ y, ks[1] = y := ⟨_, rfl⟩
  rw [hxx] at hx hk2 a0 a1 a2 a3 a4 a5
  rw [hyy] at hy hk3 d0 d1 d2 d3 d4 d5
  simp only [Nat.zero_mul, Nat.one_mul, Nat.add_zero, Nat.add_assoc, Nat.reduceAdd] at a0 a1 a2 a3 a4 a5 d0 d1 d2 d3 d4 d5
  obtain ⟨W1, hW1⟩ : ∃ W1, (w.alloc ((X.mk o n v ks).obj (some ⟨bk, off, none⟩) c)).alloc (.cells #[.int .i64 0, .int .i64 0, .string ⟨#[]⟩] 23) = W1 := ⟨_, rfl⟩
  have hfr : Fr o n v ks (some ⟨bk, off, none⟩) c w.heap.size (w.heap.size + 1) zV w W1 := by rw [← hW1]; exact Fr.new o n v ks _ c w
  have HC0 := Lib.hid (fun (W : World) (h : Fr o n v ks (some ⟨bk, off, none⟩) c w.heap.size (w.heap.size + 1) zV w W) => hx A2 c2 W (hs.below h.b) (KidsAt.more h.b.size (hk2.below h.b)))
  have HC1 := Lib.hid (fun (W : World) (h : Fr o n v ks (some ⟨bk, off, none⟩) c w.heap.size (w.heap.size + 1) zV w W) => hy A3 c3 W (hs.below h.b) (KidsAt.more h.b.size (hk3.below h.b)))
  have HFR := Lib.hid hfr
  have HF := Lib.hid hF
  obtain ⟨E, hE⟩ : ∃ E, endW (twoR r0 r1 F) = E := ⟨_, rfl⟩
  rw [hE]
  have HE := Lib.hid hE
  obtain ⟨a, er⟩ := r0
  obtain ⟨z, er1⟩ := r1
  have HA := Lib.hid (And.intro a0 (And.intro a1 (And.intro a2 (And.intro a3 (And.intro a4 a5)))))
  have HD := Lib.hid (And.intro d0 (And.intro d1 (And.intro d2 (And.intro d3 (And.intro d4 d5)))))
  have i1 : (0 : Int) < (ks.length : Int) := by omega
  have i2 : (1 : Int) < (ks.length : Int) := by omega
  have hnil : ¬ ks = [] := by rintro rfl; simp at h1
  have hen := eg
  clear hF hE hx hy hk hk2 hk3 hs hxx hyy hfr eg a0 a1 a2 a3 a4 a5 d0 d1 d2 d3 d4 d5
  unfold X.obj at hW1
  simp only [X.op, X.nm, X.v, X.ks] at hW1
  unfold X.val at HC0 HC1
  unfold eV
  dsimp only at HF HC0 HC1
  dsimp only at he he1 hza hzz heq
  subst he
  rw [endW_ok rfl] at HC0
  dsimp only at HC0
  unfold V.val at HC0
  subst he1
  rw [endW_ok rfl] at HC1
  dsimp only at HC1
  unfold V.val at HC1
  have q0 : (a.k == 0) = false := by simpa using hza
  have q1 : (z.k == 0) = false := by simpa using hzz
  have HG := Lib.hid (HF.out rfl rfl hza hzz)
  obtain ⟨⟨q, eq⟩, hq⟩ : ∃ q, F a z = q := ⟨_, rfl⟩
  rw [hq] at HG heq
  have HX := Lib.hid (show E = endW (q, eq) by rw [← HE.out]; unfold twoR; rw [if_neg (by simp), if_neg (by simp), if_neg (by simp [hza, hzz]), hq])
  unfold V.val at HG
  dsimp only at heq
  clear hza hzz hq
  rw [endW_no heq] at HG HX
  go_enter Tryz.func106, Tryz.ntmps106
  go_wp2_with fail
  try rw [hW1]
  have hz1 : W1.heap.size = w.heap.size + 2 := by rw [← hW1]; simp
  clear hW1
  have hS : Fr o n v ks (some ⟨bk, off, none⟩) c w.heap.size (w.heap.size + 1) zV w W1.drew := HFR.out.below (Below.refl _ W1).drew
  have hz : w.heap.size + 2 ≤ W1.drew.heap.size := by show _ ≤ W1.heap.size; omega
  refine held_begin 16 (fun W => Fr o n v ks (some ⟨bk, off, none⟩) c w.heap.size (w.heap.size + 1) zV w W) rfl (by kernel_rfl) ?_
  refine held_take (i := 0) (t := 9) (v := (.pointer (some ⟨b, 0, none⟩))) (fuel := 15) rfl rfl (by kernel_rfl) (by kernel_rfl) (by kernel_rfl) (fun _ _ _ h => h) (.inl ⟨rfl, fun W hW => by simp [execOp, Act.eval, go_sem]⟩) hS ?_
  simp only [List.setIfInBounds_toArray, List.set_cons_succ, List.set_cons_zero]
  refine held_take (i := 1) (t := 10) (v := (.pointer (some ⟨w.heap.size, 5, none⟩))) (fuel := 14) rfl rfl (by kernel_rfl) (by kernel_rfl) (by kernel_rfl) (fun _ _ _ h => h) (.inl ⟨rfl, fun W hW => by simp [execOp, Act.eval, go_sem]⟩) hS ?_
  simp only [List.setIfInBounds_toArray, List.set_cons_succ, List.set_cons_zero]
  refine held_take (i := 2) (t := 11) (v := (.slice (some ⟨bk, off, none⟩) ks.length c)) (fuel := 13) rfl rfl (by kernel_rfl) (by kernel_rfl) (by kernel_rfl) (fun _ _ _ h => h) (.inl ⟨rfl, fun W hW => by simp [execOp, Act.eval, go_sem, (obj_cells hW.x).2.2.2.2.2, X.ks]⟩) hS ?_
  simp only [List.setIfInBounds_toArray, List.set_cons_succ, List.set_cons_zero]
  refine held_take (i := 3) (t := 12) (v := (.pointer (some ⟨bk, off, none⟩))) (fuel := 12) rfl rfl (by kernel_rfl) (by kernel_rfl) (by kernel_rfl) (fun _ _ _ h => h) (.inl ⟨rfl, fun W hW => by simp [execOp, Act.eval, go_sem, i1, hnil]⟩) hS ?_
  simp only [List.setIfInBounds_toArray, List.set_cons_succ, List.set_cons_zero]
  refine held_take (i := 4) (t := 13) (v := (.agg #[.int .i64 x.op, .string x.nm, .int .i64 x.v.k, .int .i64 x.v.n, .string x.v.s, .slice A2 x.ks.length c2])) (fuel := 11) rfl rfl (by kernel_rfl) (by kernel_rfl) (by kernel_rfl) (fun _ _ _ h => h) (.inl ⟨rfl, fun W hW => by simp [execOp, Act.eval, go_sem, later_cell hW.b HA.out.1, later_cell hW.b HA.out.2.1, later_cell hW.b HA.out.2.2.1, later_cell hW.b HA.out.2.2.2.1, later_cell hW.b HA.out.2.2.2.2.1, later_cell hW.b HA.out.2.2.2.2.2]⟩) hS ?_
  simp only [List.setIfInBounds_toArray, List.set_cons_succ, List.set_cons_zero]
  refine held_take (i := 6) (t := 15) (v := (.pointer (some ⟨b, 0, none⟩))) (fuel := 10) rfl rfl (by kernel_rfl) (by kernel_rfl) (by kernel_rfl) (fun _ _ _ h => h) (.inl ⟨rfl, fun W hW => by simp [execOp, Act.eval, go_sem]⟩) hS ?_
  simp only [List.setIfInBounds_toArray, List.set_cons_succ, List.set_cons_zero]
  refine held_take (i := 7) (t := 16) (v := (.pointer (some ⟨w.heap.size, 5, none⟩))) (fuel := 9) rfl rfl (by kernel_rfl) (by kernel_rfl) (by kernel_rfl) (fun _ _ _ h => h) (.inl ⟨rfl, fun W hW => by simp [execOp, Act.eval, go_sem]⟩) hS ?_
  simp only [List.setIfInBounds_toArray, List.set_cons_succ, List.set_cons_zero]
  refine held_take (i := 8) (t := 17) (v := (.slice (some ⟨bk, off, none⟩) ks.length c)) (fuel := 8) rfl rfl (by kernel_rfl) (by kernel_rfl) (by kernel_rfl) (fun _ _ _ h => h) (.inl ⟨rfl, fun W hW => by simp [execOp, Act.eval, go_sem, (obj_cells hW.x).2.2.2.2.2, X.ks]⟩) hS ?_
  simp only [List.setIfInBounds_toArray, List.set_cons_succ, List.set_cons_zero]
  refine held_take (i := 9) (t := 18) (v := (.pointer (some ⟨bk, off + 6, none⟩))) (fuel := 7) rfl rfl (by kernel_rfl) (by kernel_rfl) (by kernel_rfl) (fun _ _ _ h => h) (.inl ⟨rfl, fun W hW => by simp [execOp, Act.eval, go_sem, i2]⟩) hS ?_
  simp only [List.setIfInBounds_toArray, List.set_cons_succ, List.set_cons_zero]
  refine held_take (i := 10) (t := 19) (v := (.agg #[.int .i64 y.op, .string y.nm, .int .i64 y.v.k, .int .i64 y.v.n, .string y.v.s, .slice A3 y.ks.length c3])) (fuel := 6) rfl rfl (by kernel_rfl) (by kernel_rfl) (by kernel_rfl) (fun _ _ _ h => h) (.inl ⟨rfl, fun W hW => by simp [execOp, Act.eval, go_sem, later_cell hW.b HD.out.1, later_cell hW.b HD.out.2.1, later_cell hW.b HD.out.2.2.1, later_cell hW.b HD.out.2.2.2.1, later_cell hW.b HD.out.2.2.2.2.1, later_cell hW.b HD.out.2.2.2.2.2]⟩) hS ?_
  simp only [List.setIfInBounds_toArray, List.set_cons_succ, List.set_cons_zero]
  refine held_three (i := 5) (j := 12) (l := 13) rfl rfl rfl (by kernel_rfl) (by kernel_rfl) (by kernel_rfl) (by kernel_rfl) ?_ ?_ ?_
  · simp [Oper.wp, execOp, Act.eval, Act.put, go_sem]
    refine (HC0.out _ hS).mono ?_
    rintro en u138 ⟨rfl, hb⟩
    have hz : w.heap.size + 2 ≤ u138.heap.size := Nat.le_trans hz hb.size
    have hS := hS.below hb
    clear hb
    refine ⟨hS, ?_⟩
    try simp only [List.setIfInBounds_toArray, List.set_cons_succ, List.set_cons_zero]
    refine held_three (i := 11) (j := 12) (l := 13) rfl rfl rfl (by kernel_rfl) (by kernel_rfl) (by kernel_rfl) (by kernel_rfl) ?_ ?_ ?_
    · simp [Oper.wp, execOp, Act.eval, Act.put, go_sem]
      refine (HC1.out _ hS).mono ?_
      rintro en u139 ⟨rfl, hb⟩
      have hz : w.heap.size + 2 ≤ u139.heap.size := Nat.le_trans hz hb.size
      have hS := hS.below hb
      clear hb
      refine ⟨hS, ?_⟩
      try simp only [List.setIfInBounds_toArray, List.set_cons_succ, List.set_cons_zero]
      refine held_two (i := 12) (j := 13) rfl rfl (by kernel_rfl) (by kernel_rfl) (by kernel_rfl) ?_ ?_
      · simp [Oper.wp, execOp, Act.put, go_sem]
        have h7 : Box3 (u139.alloc (.cells #[.int .i64 0, .int .i64 0, .string ⟨#[]⟩] 23)) u139.heap.size zV := Box3.new u139 zV
        have hg7 : w.heap.size + 2 ≤ u139.heap.size := hz
        have hS := hS.below ((Below.refl _ _).alloc (Nat.le_refl _) (.cells #[.int .i64 0, .int .i64 0, .string ⟨#[]⟩] 23))
        have hz : w.heap.size + 2 ≤ (u139.alloc (.cells #[.int .i64 0, .int .i64 0, .string ⟨#[]⟩] 23)).heap.size := by simp; omega
        obtain ⟨u140, hW2⟩ : ∃ q, u139.alloc (.cells #[.int .i64 0, .int .i64 0, .string ⟨#[]⟩] 23) = q := ⟨_, rfl⟩
        have hsz : u139.heap.size = u139.heap.size := rfl
        rw [hW2] at h7 hS hz
        first | rw [hW2] | (rw [show (W1.alloc (.cells #[.int .i64 0, .int .i64 0, .string ⟨#[]⟩] 23)).drew = u140 from hW2]; try rw [show W1.heap.size = W1.drew.heap.size from rfl])
        obtain ⟨g7, hgg⟩ : ∃ q, u139.heap.size = q := ⟨_, rfl⟩
        rw [hgg] at h7 hg7
        try rw [hgg]
        clear hW2 hgg hsz
        refine ⟨hS, ?_⟩
        try simp only [List.setIfInBounds_toArray, List.set_cons_succ, List.set_cons_zero]
        refine held_call (i := 13) rfl (by kernel_rfl) (by kernel_rfl) ?_
        simp [Oper.wp, execOp, Act.put, go_sem]
        have h8 : Box3 (u140.alloc (.cells #[.int .i64 0, .int .i64 0, .string ⟨#[]⟩] 23)) u140.heap.size zV := Box3.new u140 zV
        have hg8 : w.heap.size + 2 ≤ u140.heap.size := hz
        have hne : g7 < u140.heap.size := h7.lt
        have h7 := h7.alloc (.cells #[.int .i64 0, .int .i64 0, .string ⟨#[]⟩] 23)
        have hS := hS.below ((Below.refl _ _).alloc (Nat.le_refl _) (.cells #[.int .i64 0, .int .i64 0, .string ⟨#[]⟩] 23))
        have hz : w.heap.size + 2 ≤ (u140.alloc (.cells #[.int .i64 0, .int .i64 0, .string ⟨#[]⟩] 23)).heap.size := by simp; omega
        obtain ⟨u141, hW2⟩ : ∃ q, u140.alloc (.cells #[.int .i64 0, .int .i64 0, .string ⟨#[]⟩] 23) = q := ⟨_, rfl⟩
        have hsz : u140.heap.size = u140.heap.size := rfl
        rw [hW2] at h8 hS hz
        rw [hW2] at h7
        first | rw [hW2] | (rw [show (W1.alloc (.cells #[.int .i64 0, .int .i64 0, .string ⟨#[]⟩] 23)).drew = u141 from hW2]; try rw [show W1.heap.size = W1.drew.heap.size from rfl])
        obtain ⟨g8, hgg⟩ : ∃ q, u140.heap.size = q := ⟨_, rfl⟩
        rw [hgg] at h8 hg8 hne
        try rw [hgg]
        clear hW2 hgg hsz
        refine ⟨hS, ?_⟩
        try simp only [List.setIfInBounds_toArray, List.set_cons_succ, List.set_cons_zero]
        refine held_call (i := 14) rfl (by kernel_rfl) (by kernel_rfl) ?_
        have y0 := h7.c0
        have y1 := h7.c1
        have y2 := h7.c2
        have f0 := h7.free 0
        have f1 := h7.free 1
        have f2 := h7.free 2
        simp [Oper.wp, execOp, Act.eval, Act.put, go_sem, y0, y1, y2, f0, f1, f2]
        have h8 := h8.set3 (show g7 ≠ g8 by omega) a
        have hS := hS.set3 (g := g7) (by omega) (by omega) (by omega) a
        have h7 := h7.set a
        obtain ⟨W5, hW5⟩ : ∃ q, ((u141.setCell ⟨g7, 0, none⟩ (.int .i64 a.k)).setCell ⟨g7, 1, none⟩ (.int .i64 a.n)).setCell ⟨g7, 2, none⟩ (.string a.s) = q := ⟨_, rfl⟩
        rw [hW5] at h7 h8 hS
        rw [hW5]
        clear hW5 y0 y1 y2 f0 f1 f2
        refine ⟨hS, ?_⟩
        try simp only [List.setIfInBounds_toArray, List.set_cons_succ, List.set_cons_zero]
        refine held_call (i := 15) rfl (by kernel_rfl) (by kernel_rfl) ?_
        have y0 := h8.c0
        have y1 := h8.c1
        have y2 := h8.c2
        have f0 := h8.free 0
        have f1 := h8.free 1
        have f2 := h8.free 2
        simp [Oper.wp, execOp, Act.eval, Act.put, go_sem, y0, y1, y2, f0, f1, f2]
        have h7 := h7.set3 (show g8 ≠ g7 by omega) z
        have hS := hS.set3 (g := g8) (by omega) (by omega) (by omega) z
        have h8 := h8.set z
        obtain ⟨W6, hW6⟩ : ∃ q, ((W5.setCell ⟨g8, 0, none⟩ (.int .i64 z.k)).setCell ⟨g8, 1, none⟩ (.int .i64 z.n)).setCell ⟨g8, 2, none⟩ (.string z.s) = q := ⟨_, rfl⟩
        rw [hW6] at h7 h8 hS
        rw [hW6]
        clear hW6 y0 y1 y2 f0 f1 f2
        refine ⟨hS, ?_⟩
        try simp only [List.setIfInBounds_toArray, List.set_cons_succ, List.set_cons_zero]
        refine wpAnyH_done (by kernel_rfl) ?_ 0
        have y0 := h7.c0
        have y1 := h7.c1
        have y2 := h7.c2
        have y3 := h8.c0
        have y4 := h8.c1
        have y5 := h8.c2
        have HS6 := Lib.hid hS
        clear hS h7 h8
        go_wp2_with (go_at_fn g; refine (HG.out _ HS6.out.b).mono ?_; rintro e w4 ⟨rfl, hb4⟩; have HB4 := Lib.hid (HS6.out.below hb4); clear hb4)
        exact ⟨rfl, HX.out.symm, HB4.out.b⟩
      · simp [Oper.wp, execOp, Act.put, go_sem]
        have h8 : Box3 (u139.alloc (.cells #[.int .i64 0, .int .i64 0, .string ⟨#[]⟩] 23)) u139.heap.size zV := Box3.new u139 zV
        have hg8 : w.heap.size + 2 ≤ u139.heap.size := hz
        have hS := hS.below ((Below.refl _ _).alloc (Nat.le_refl _) (.cells #[.int .i64 0, .int .i64 0, .string ⟨#[]⟩] 23))
        have hz : w.heap.size + 2 ≤ (u139.alloc (.cells #[.int .i64 0, .int .i64 0, .string ⟨#[]⟩] 23)).heap.size := by simp; omega
        obtain ⟨u142, hW2⟩ : ∃ q, u139.alloc (.cells #[.int .i64 0, .int .i64 0, .string ⟨#[]⟩] 23) = q := ⟨_, rfl⟩
        have hsz : u139.heap.size = u139.heap.size := rfl
        rw [hW2] at h8 hS hz
        first | rw [hW2] | (rw [show (W1.alloc (.cells #[.int .i64 0, .int .i64 0, .string ⟨#[]⟩] 23)).drew = u142 from hW2]; try rw [show W1.heap.size = W1.drew.heap.size from rfl])
        obtain ⟨g8, hgg⟩ : ∃ q, u139.heap.size = q := ⟨_, rfl⟩
        rw [hgg] at h8 hg8
        try rw [hgg]
        clear hW2 hgg hsz
        refine ⟨hS, ?_⟩
        try simp only [List.setIfInBounds_toArray, List.set_cons_succ, List.set_cons_zero]
        refine held_call (i := 12) rfl (by kernel_rfl) (by kernel_rfl) ?_
        simp [Oper.wp, execOp, Act.put, go_sem]
        have h7 : Box3 (u142.alloc (.cells #[.int .i64 0, .int .i64 0, .string ⟨#[]⟩] 23)) u142.heap.size zV := Box3.new u142 zV
        have hg7 : w.heap.size + 2 ≤ u142.heap.size := hz
        have hne : g8 < u142.heap.size := h8.lt
        have h8 := h8.alloc (.cells #[.int .i64 0, .int .i64 0, .string ⟨#[]⟩] 23)
        have hS := hS.below ((Below.refl _ _).alloc (Nat.le_refl _) (.cells #[.int .i64 0, .int .i64 0, .string ⟨#[]⟩] 23))
        have hz : w.heap.size + 2 ≤ (u142.alloc (.cells #[.int .i64 0, .int .i64 0, .string ⟨#[]⟩] 23)).heap.size := by simp; omega
        obtain ⟨u143, hW2⟩ : ∃ q, u142.alloc (.cells #[.int .i64 0, .int .i64 0, .string ⟨#[]⟩] 23) = q := ⟨_, rfl⟩
        have hsz : u142.heap.size = u142.heap.size := rfl
        rw [hW2] at h7 hS hz
        rw [hW2] at h8
        first | rw [hW2] | (rw [show (W1.alloc (.cells #[.int .i64 0, .int .i64 0, .string ⟨#[]⟩] 23)).drew = u143 from hW2]; try rw [show W1.heap.size = W1.drew.heap.size from rfl])
        obtain ⟨g7, hgg⟩ : ∃ q, u142.heap.size = q := ⟨_, rfl⟩
        rw [hgg] at h7 hg7 hne
        try rw [hgg]
        clear hW2 hgg hsz
        refine ⟨hS, ?_⟩
        try simp only [List.setIfInBounds_toArray, List.set_cons_succ, List.set_cons_zero]
        refine held_call (i := 14) rfl (by kernel_rfl) (by kernel_rfl) ?_
        have y0 := h7.c0
        have y1 := h7.c1
        have y2 := h7.c2
        have f0 := h7.free 0
        have f1 := h7.free 1
        have f2 := h7.free 2
        simp [Oper.wp, execOp, Act.eval, Act.put, go_sem, y0, y1, y2, f0, f1, f2]
        have h8 := h8.set3 (show g7 ≠ g8 by omega) a
        have hS := hS.set3 (g := g7) (by omega) (by omega) (by omega) a
        have h7 := h7.set a
        obtain ⟨W5, hW5⟩ : ∃ q, ((u143.setCell ⟨g7, 0, none⟩ (.int .i64 a.k)).setCell ⟨g7, 1, none⟩ (.int .i64 a.n)).setCell ⟨g7, 2, none⟩ (.string a.s) = q := ⟨_, rfl⟩
        rw [hW5] at h7 h8 hS
        rw [hW5]
        clear hW5 y0 y1 y2 f0 f1 f2
        refine ⟨hS, ?_⟩
        try simp only [List.setIfInBounds_toArray, List.set_cons_succ, List.set_cons_zero]
        refine held_call (i := 15) rfl (by kernel_rfl) (by kernel_rfl) ?_
        have y0 := h8.c0
        have y1 := h8.c1
        have y2 := h8.c2
        have f0 := h8.free 0
        have f1 := h8.free 1
        have f2 := h8.free 2
        simp [Oper.wp, execOp, Act.eval, Act.put, go_sem, y0, y1, y2, f0, f1, f2]
        have h7 := h7.set3 (show g8 ≠ g7 by omega) z
        have hS := hS.set3 (g := g8) (by omega) (by omega) (by omega) z
        have h8 := h8.set z
        obtain ⟨W6, hW6⟩ : ∃ q, ((W5.setCell ⟨g8, 0, none⟩ (.int .i64 z.k)).setCell ⟨g8, 1, none⟩ (.int .i64 z.n)).setCell ⟨g8, 2, none⟩ (.string z.s) = q := ⟨_, rfl⟩
        rw [hW6] at h7 h8 hS
        rw [hW6]
        clear hW6 y0 y1 y2 f0 f1 f2
        refine ⟨hS, ?_⟩
        try simp only [List.setIfInBounds_toArray, List.set_cons_succ, List.set_cons_zero]
        refine wpAnyH_done (by kernel_rfl) ?_ 0
        have y0 := h7.c0
        have y1 := h7.c1
        have y2 := h7.c2
        have y3 := h8.c0
        have y4 := h8.c1
        have y5 := h8.c2
        have HS6 := Lib.hid hS
        clear hS h7 h8
        go_wp2_with (go_at_fn g; refine (HG.out _ HS6.out.b).mono ?_; rintro e w4 ⟨rfl, hb4⟩; have HB4 := Lib.hid (HS6.out.below hb4); clear hb4)
        exact ⟨rfl, HX.out.symm, HB4.out.b⟩
    · simp [Oper.wp, execOp, Act.put, go_sem]
      have h7 : Box3 (u138.alloc (.cells #[.int .i64 0, .int .i64 0, .string ⟨#[]⟩] 23)) u138.heap.size zV := Box3.new u138 zV
      have hg7 : w.heap.size + 2 ≤ u138.heap.size := hz
      have hS := hS.below ((Below.refl _ _).alloc (Nat.le_refl _) (.cells #[.int .i64 0, .int .i64 0, .string ⟨#[]⟩] 23))
      have hz : w.heap.size + 2 ≤ (u138.alloc (.cells #[.int .i64 0, .int .i64 0, .string ⟨#[]⟩] 23)).heap.size := by simp; omega
      obtain ⟨u144, hW2⟩ : ∃ q, u138.alloc (.cells #[.int .i64 0, .int .i64 0, .string ⟨#[]⟩] 23) = q := ⟨_, rfl⟩
      have hsz : u138.heap.size = u138.heap.size := rfl
      rw [hW2] at h7 hS hz
      first | rw [hW2] | (rw [show (W1.alloc (.cells #[.int .i64 0, .int .i64 0, .string ⟨#[]⟩] 23)).drew = u144 from hW2]; try rw [show W1.heap.size = W1.drew.heap.size from rfl])
      obtain ⟨g7, hgg⟩ : ∃ q, u138.heap.size = q := ⟨_, rfl⟩
      rw [hgg] at h7 hg7
      try rw [hgg]
      clear hW2 hgg hsz
      refine ⟨hS, ?_⟩
      try simp only [List.setIfInBounds_toArray, List.set_cons_succ, List.set_cons_zero]
      refine held_two (i := 11) (j := 13) rfl rfl (by kernel_rfl) (by kernel_rfl) (by kernel_rfl) ?_ ?_
      · simp [Oper.wp, execOp, Act.eval, Act.put, go_sem]
        refine (HC1.out _ hS).mono ?_
        rintro en u145 ⟨rfl, hb⟩
        have hz : w.heap.size + 2 ≤ u145.heap.size := Nat.le_trans hz hb.size
        have h7 := h7.below hb
        have hS := hS.below hb
        clear hb
        refine ⟨hS, ?_⟩
        try simp only [List.setIfInBounds_toArray, List.set_cons_succ, List.set_cons_zero]
        refine held_call (i := 13) rfl (by kernel_rfl) (by kernel_rfl) ?_
        simp [Oper.wp, execOp, Act.put, go_sem]
        have h8 : Box3 (u145.alloc (.cells #[.int .i64 0, .int .i64 0, .string ⟨#[]⟩] 23)) u145.heap.size zV := Box3.new u145 zV
        have hg8 : w.heap.size + 2 ≤ u145.heap.size := hz
        have hne : g7 < u145.heap.size := h7.lt
        have h7 := h7.alloc (.cells #[.int .i64 0, .int .i64 0, .string ⟨#[]⟩] 23)
        have hS := hS.below ((Below.refl _ _).alloc (Nat.le_refl _) (.cells #[.int .i64 0, .int .i64 0, .string ⟨#[]⟩] 23))
        have hz : w.heap.size + 2 ≤ (u145.alloc (.cells #[.int .i64 0, .int .i64 0, .string ⟨#[]⟩] 23)).heap.size := by simp; omega
        obtain ⟨u146, hW2⟩ : ∃ q, u145.alloc (.cells #[.int .i64 0, .int .i64 0, .string ⟨#[]⟩] 23) = q := ⟨_, rfl⟩
        have hsz : u145.heap.size = u145.heap.size := rfl
        rw [hW2] at h8 hS hz
        rw [hW2] at h7
        first | rw [hW2] | (rw [show (W1.alloc (.cells #[.int .i64 0, .int .i64 0, .string ⟨#[]⟩] 23)).drew = u146 from hW2]; try rw [show W1.heap.size = W1.drew.heap.size from rfl])
        obtain ⟨g8, hgg⟩ : ∃ q, u145.heap.size = q := ⟨_, rfl⟩
        rw [hgg] at h8 hg8 hne
        try rw [hgg]
        clear hW2 hgg hsz
        refine ⟨hS, ?_⟩
        try simp only [List.setIfInBounds_toArray, List.set_cons_succ, List.set_cons_zero]
        refine held_call (i := 14) rfl (by kernel_rfl) (by kernel_rfl) ?_
        have y0 := h7.c0
        have y1 := h7.c1
        have y2 := h7.c2
        have f0 := h7.free 0
        have f1 := h7.free 1
        have f2 := h7.free 2
        simp [Oper.wp, execOp, Act.eval, Act.put, go_sem, y0, y1, y2, f0, f1, f2]
        have h8 := h8.set3 (show g7 ≠ g8 by omega) a
        have hS := hS.set3 (g := g7) (by omega) (by omega) (by omega) a
        have h7 := h7.set a
        obtain ⟨W5, hW5⟩ : ∃ q, ((u146.setCell ⟨g7, 0, none⟩ (.int .i64 a.k)).setCell ⟨g7, 1, none⟩ (.int .i64 a.n)).setCell ⟨g7, 2, none⟩ (.string a.s) = q := ⟨_, rfl⟩
        rw [hW5] at h7 h8 hS
        rw [hW5]
        clear hW5 y0 y1 y2 f0 f1 f2
        refine ⟨hS, ?_⟩
        try simp only [List.setIfInBounds_toArray, List.set_cons_succ, List.set_cons_zero]
        refine held_call (i := 15) rfl (by kernel_rfl) (by kernel_rfl) ?_
        have y0 := h8.c0
        have y1 := h8.c1
        have y2 := h8.c2
        have f0 := h8.free 0
        have f1 := h8.free 1
        have f2 := h8.free 2
        simp [Oper.wp, execOp, Act.eval, Act.put, go_sem, y0, y1, y2, f0, f1, f2]
        have h7 := h7.set3 (show g8 ≠ g7 by omega) z
        have hS := hS.set3 (g := g8) (by omega) (by omega) (by omega) z
        have h8 := h8.set z
        obtain ⟨W6, hW6⟩ : ∃ q, ((W5.setCell ⟨g8, 0, none⟩ (.int .i64 z.k)).setCell ⟨g8, 1, none⟩ (.int .i64 z.n)).setCell ⟨g8, 2, none⟩ (.string z.s) = q := ⟨_, rfl⟩
        rw [hW6] at h7 h8 hS
        rw [hW6]
        clear hW6 y0 y1 y2 f0 f1 f2
        refine ⟨hS, ?_⟩
        try simp only [List.setIfInBounds_toArray, List.set_cons_succ, List.set_cons_zero]
        refine wpAnyH_done (by kernel_rfl) ?_ 0
        have y0 := h7.c0
        have y1 := h7.c1
        have y2 := h7.c2
        have y3 := h8.c0
        have y4 := h8.c1
        have y5 := h8.c2
        have HS6 := Lib.hid hS
        clear hS h7 h8
        go_wp2_with (go_at_fn g; refine (HG.out _ HS6.out.b).mono ?_; rintro e w4 ⟨rfl, hb4⟩; have HB4 := Lib.hid (HS6.out.below hb4); clear hb4)
        exact ⟨rfl, HX.out.symm, HB4.out.b⟩
      · simp [Oper.wp, execOp, Act.put, go_sem]
        have h8 : Box3 (u144.alloc (.cells #[.int .i64 0, .int .i64 0, .string ⟨#[]⟩] 23)) u144.heap.size zV := Box3.new u144 zV
        have hg8 : w.heap.size + 2 ≤ u144.heap.size := hz
        have hne : g7 < u144.heap.size := h7.lt
        have h7 := h7.alloc (.cells #[.int .i64 0, .int .i64 0, .string ⟨#[]⟩] 23)
        have hS := hS.below ((Below.refl _ _).alloc (Nat.le_refl _) (.cells #[.int .i64 0, .int .i64 0, .string ⟨#[]⟩] 23))
        have hz : w.heap.size + 2 ≤ (u144.alloc (.cells #[.int .i64 0, .int .i64 0, .string ⟨#[]⟩] 23)).heap.size := by simp; omega
        obtain ⟨u147, hW2⟩ : ∃ q, u144.alloc (.cells #[.int .i64 0, .int .i64 0, .string ⟨#[]⟩] 23) = q := ⟨_, rfl⟩
        have hsz : u144.heap.size = u144.heap.size := rfl
        rw [hW2] at h8 hS hz
        rw [hW2] at h7
        first | rw [hW2] | (rw [show (W1.alloc (.cells #[.int .i64 0, .int .i64 0, .string ⟨#[]⟩] 23)).drew = u147 from hW2]; try rw [show W1.heap.size = W1.drew.heap.size from rfl])
        obtain ⟨g8, hgg⟩ : ∃ q, u144.heap.size = q := ⟨_, rfl⟩
        rw [hgg] at h8 hg8 hne
        try rw [hgg]
        clear hW2 hgg hsz
        refine ⟨hS, ?_⟩
        try simp only [List.setIfInBounds_toArray, List.set_cons_succ, List.set_cons_zero]
        refine held_call (i := 11) rfl (by kernel_rfl) (by kernel_rfl) ?_
        simp [Oper.wp, execOp, Act.eval, Act.put, go_sem]
        refine (HC1.out _ hS).mono ?_
        rintro en u148 ⟨rfl, hb⟩
        have hz : w.heap.size + 2 ≤ u148.heap.size := Nat.le_trans hz hb.size
        have h7 := h7.below hb
        have h8 := h8.below hb
        have hS := hS.below hb
        clear hb
        refine ⟨hS, ?_⟩
        try simp only [List.setIfInBounds_toArray, List.set_cons_succ, List.set_cons_zero]
        refine held_call (i := 14) rfl (by kernel_rfl) (by kernel_rfl) ?_
        have y0 := h7.c0
        have y1 := h7.c1
        have y2 := h7.c2
        have f0 := h7.free 0
        have f1 := h7.free 1
        have f2 := h7.free 2
        simp [Oper.wp, execOp, Act.eval, Act.put, go_sem, y0, y1, y2, f0, f1, f2]
        have h8 := h8.set3 (show g7 ≠ g8 by omega) a
        have hS := hS.set3 (g := g7) (by omega) (by omega) (by omega) a
        have h7 := h7.set a
        obtain ⟨W5, hW5⟩ : ∃ q, ((u148.setCell ⟨g7, 0, none⟩ (.int .i64 a.k)).setCell ⟨g7, 1, none⟩ (.int .i64 a.n)).setCell ⟨g7, 2, none⟩ (.string a.s) = q := ⟨_, rfl⟩
        rw [hW5] at h7 h8 hS
        rw [hW5]
        clear hW5 y0 y1 y2 f0 f1 f2
        refine ⟨hS, ?_⟩
        try simp only [List.setIfInBounds_toArray, List.set_cons_succ, List.set_cons_zero]
        refine held_call (i := 15) rfl (by kernel_rfl) (by kernel_rfl) ?_
        have y0 := h8.c0
        have y1 := h8.c1
        have y2 := h8.c2
        have f0 := h8.free 0
        have f1 := h8.free 1
        have f2 := h8.free 2
        simp [Oper.wp, execOp, Act.eval, Act.put, go_sem, y0, y1, y2, f0, f1, f2]
        have h7 := h7.set3 (show g8 ≠ g7 by omega) z
        have hS := hS.set3 (g := g8) (by omega) (by omega) (by omega) z
        have h8 := h8.set z
        obtain ⟨W6, hW6⟩ : ∃ q, ((W5.setCell ⟨g8, 0, none⟩ (.int .i64 z.k)).setCell ⟨g8, 1, none⟩ (.int .i64 z.n)).setCell ⟨g8, 2, none⟩ (.string z.s) = q := ⟨_, rfl⟩
        rw [hW6] at h7 h8 hS
        rw [hW6]
        clear hW6 y0 y1 y2 f0 f1 f2
        refine ⟨hS, ?_⟩
        try simp only [List.setIfInBounds_toArray, List.set_cons_succ, List.set_cons_zero]
        refine wpAnyH_done (by kernel_rfl) ?_ 0
        have y0 := h7.c0
        have y1 := h7.c1
        have y2 := h7.c2
        have y3 := h8.c0
        have y4 := h8.c1
        have y5 := h8.c2
        have HS6 := Lib.hid hS
        clear hS h7 h8
        go_wp2_with (go_at_fn g; refine (HG.out _ HS6.out.b).mono ?_; rintro e w4 ⟨rfl, hb4⟩; have HB4 := Lib.hid (HS6.out.below hb4); clear hb4)
        exact ⟨rfl, HX.out.symm, HB4.out.b⟩
    · simp [Oper.wp, execOp, Act.put, go_sem]
      have h8 : Box3 (u138.alloc (.cells #[.int .i64 0, .int .i64 0, .string ⟨#[]⟩] 23)) u138.heap.size zV := Box3.new u138 zV
      have hg8 : w.heap.size + 2 ≤ u138.heap.size := hz
      have hS := hS.below ((Below.refl _ _).alloc (Nat.le_refl _) (.cells #[.int .i64 0, .int .i64 0, .string ⟨#[]⟩] 23))
      have hz : w.heap.size + 2 ≤ (u138.alloc (.cells #[.int .i64 0, .int .i64 0, .string ⟨#[]⟩] 23)).heap.size := by simp; omega
      obtain ⟨u149, hW2⟩ : ∃ q, u138.alloc (.cells #[.int .i64 0, .int .i64 0, .string ⟨#[]⟩] 23) = q := ⟨_, rfl⟩
      have hsz : u138.heap.size = u138.heap.size := rfl
      rw [hW2] at h8 hS hz
      first | rw [hW2] | (rw [show (W1.alloc (.cells #[.int .i64 0, .int .i64 0, .string ⟨#[]⟩] 23)).drew = u149 from hW2]; try rw [show W1.heap.size = W1.drew.heap.size from rfl])
      obtain ⟨g8, hgg⟩ : ∃ q, u138.heap.size = q := ⟨_, rfl⟩
      rw [hgg] at h8 hg8
      try rw [hgg]
      clear hW2 hgg hsz
      refine ⟨hS, ?_⟩
      try simp only [List.setIfInBounds_toArray, List.set_cons_succ, List.set_cons_zero]
      refine held_two (i := 11) (j := 12) rfl rfl (by kernel_rfl) (by kernel_rfl) (by kernel_rfl) ?_ ?_
      · simp [Oper.wp, execOp, Act.eval, Act.put, go_sem]
        refine (HC1.out _ hS).mono ?_
        rintro en u150 ⟨rfl, hb⟩
        have hz : w.heap.size + 2 ≤ u150.heap.size := Nat.le_trans hz hb.size
        have h8 := h8.below hb
        have hS := hS.below hb
        clear hb
        refine ⟨hS, ?_⟩
        try simp only [List.setIfInBounds_toArray, List.set_cons_succ, List.set_cons_zero]
        refine held_call (i := 12) rfl (by kernel_rfl) (by kernel_rfl) ?_
        simp [Oper.wp, execOp, Act.put, go_sem]
        have h7 : Box3 (u150.alloc (.cells #[.int .i64 0, .int .i64 0, .string ⟨#[]⟩] 23)) u150.heap.size zV := Box3.new u150 zV
        have hg7 : w.heap.size + 2 ≤ u150.heap.size := hz
        have hne : g8 < u150.heap.size := h8.lt
        have h8 := h8.alloc (.cells #[.int .i64 0, .int .i64 0, .string ⟨#[]⟩] 23)
        have hS := hS.below ((Below.refl _ _).alloc (Nat.le_refl _) (.cells #[.int .i64 0, .int .i64 0, .string ⟨#[]⟩] 23))
        have hz : w.heap.size + 2 ≤ (u150.alloc (.cells #[.int .i64 0, .int .i64 0, .string ⟨#[]⟩] 23)).heap.size := by simp; omega
        obtain ⟨u151, hW2⟩ : ∃ q, u150.alloc (.cells #[.int .i64 0, .int .i64 0, .string ⟨#[]⟩] 23) = q := ⟨_, rfl⟩
        have hsz : u150.heap.size = u150.heap.size := rfl
        rw [hW2] at h7 hS hz
        rw [hW2] at h8
        first | rw [hW2] | (rw [show (W1.alloc (.cells #[.int .i64 0, .int .i64 0, .string ⟨#[]⟩] 23)).drew = u151 from hW2]; try rw [show W1.heap.size = W1.drew.heap.size from rfl])
        obtain ⟨g7, hgg⟩ : ∃ q, u150.heap.size = q := ⟨_, rfl⟩
        rw [hgg] at h7 hg7 hne
        try rw [hgg]
        clear hW2 hgg hsz
        refine ⟨hS, ?_⟩
        try simp only [List.setIfInBounds_toArray, List.set_cons_succ, List.set_cons_zero]
        refine held_call (i := 14) rfl (by kernel_rfl) (by kernel_rfl) ?_
        have y0 := h7.c0
        have y1 := h7.c1
        have y2 := h7.c2
        have f0 := h7.free 0
        have f1 := h7.free 1
        have f2 := h7.free 2
        simp [Oper.wp, execOp, Act.eval, Act.put, go_sem, y0, y1, y2, f0, f1, f2]
        have h8 := h8.set3 (show g7 ≠ g8 by omega) a
        have hS := hS.set3 (g := g7) (by omega) (by omega) (by omega) a
        have h7 := h7.set a
        obtain ⟨W5, hW5⟩ : ∃ q, ((u151.setCell ⟨g7, 0, none⟩ (.int .i64 a.k)).setCell ⟨g7, 1, none⟩ (.int .i64 a.n)).setCell ⟨g7, 2, none⟩ (.string a.s) = q := ⟨_, rfl⟩
        rw [hW5] at h7 h8 hS
        rw [hW5]
        clear hW5 y0 y1 y2 f0 f1 f2
        refine ⟨hS, ?_⟩
        try simp only [List.setIfInBounds_toArray, List.set_cons_succ, List.set_cons_zero]
        refine held_call (i := 15) rfl (by kernel_rfl) (by kernel_rfl) ?_
        have y0 := h8.c0
        have y1 := h8.c1
        have y2 := h8.c2
        have f0 := h8.free 0
        have f1 := h8.free 1
        have f2 := h8.free 2
        simp [Oper.wp, execOp, Act.eval, Act.put, go_sem, y0, y1, y2, f0, f1, f2]
        have h7 := h7.set3 (show g8 ≠ g7 by omega) z
        have hS := hS.set3 (g := g8) (by omega) (by omega) (by omega) z
        have h8 := h8.set z
        obtain ⟨W6, hW6⟩ : ∃ q, ((W5.setCell ⟨g8, 0, none⟩ (.int .i64 z.k)).setCell ⟨g8, 1, none⟩ (.int .i64 z.n)).setCell ⟨g8, 2, none⟩ (.string z.s) = q := ⟨_, rfl⟩
        rw [hW6] at h7 h8 hS
        rw [hW6]
        clear hW6 y0 y1 y2 f0 f1 f2
        refine ⟨hS, ?_⟩
        try simp only [List.setIfInBounds_toArray, List.set_cons_succ, List.set_cons_zero]
        refine wpAnyH_done (by kernel_rfl) ?_ 0
        have y0 := h7.c0
        have y1 := h7.c1
        have y2 := h7.c2
        have y3 := h8.c0
        have y4 := h8.c1
        have y5 := h8.c2
        have HS6 := Lib.hid hS
        clear hS h7 h8
        go_wp2_with (go_at_fn g; refine (HG.out _ HS6.out.b).mono ?_; rintro e w4 ⟨rfl, hb4⟩; have HB4 := Lib.hid (HS6.out.below hb4); clear hb4)
        exact ⟨rfl, HX.out.symm, HB4.out.b⟩
      · simp [Oper.wp, execOp, Act.put, go_sem]
        have h7 : Box3 (u149.alloc (.cells #[.int .i64 0, .int .i64 0, .string ⟨#[]⟩] 23)) u149.heap.size zV := Box3.new u149 zV
        have hg7 : w.heap.size + 2 ≤ u149.heap.size := hz
        have hne : g8 < u149.heap.size := h8.lt
        have h8 := h8.alloc (.cells #[.int .i64 0, .int .i64 0, .string ⟨#[]⟩] 23)
        have hS := hS.below ((Below.refl _ _).alloc (Nat.le_refl _) (.cells #[.int .i64 0, .int .i64 0, .string ⟨#[]⟩] 23))
        have hz : w.heap.size + 2 ≤ (u149.alloc (.cells #[.int .i64 0, .int .i64 0, .string ⟨#[]⟩] 23)).heap.size := by simp; omega
        obtain ⟨u152, hW2⟩ : ∃ q, u149.alloc (.cells #[.int .i64 0, .int .i64 0, .string ⟨#[]⟩] 23) = q := ⟨_, rfl⟩
        have hsz : u149.heap.size = u149.heap.size := rfl
        rw [hW2] at h7 hS hz
        rw [hW2] at h8
        first | rw [hW2] | (rw [show (W1.alloc (.cells #[.int .i64 0, .int .i64 0, .string ⟨#[]⟩] 23)).drew = u152 from hW2]; try rw [show W1.heap.size = W1.drew.heap.size from rfl])
        obtain ⟨g7, hgg⟩ : ∃ q, u149.heap.size = q := ⟨_, rfl⟩
        rw [hgg] at h7 hg7 hne
        try rw [hgg]
        clear hW2 hgg hsz
        refine ⟨hS, ?_⟩
        try simp only [List.setIfInBounds_toArray, List.set_cons_succ, List.set_cons_zero]
        refine held_call (i := 11) rfl (by kernel_rfl) (by kernel_rfl) ?_
        simp [Oper.wp, execOp, Act.eval, Act.put, go_sem]
        refine (HC1.out _ hS).mono ?_
        rintro en u153 ⟨rfl, hb⟩
        have hz : w.heap.size + 2 ≤ u153.heap.size := Nat.le_trans hz hb.size
        have h7 := h7.below hb
        have h8 := h8.below hb
        have hS := hS.below hb
        clear hb
        refine ⟨hS, ?_⟩
        try simp only [List.setIfInBounds_toArray, List.set_cons_succ, List.set_cons_zero]
        refine held_call (i := 14) rfl (by kernel_rfl) (by kernel_rfl) ?_
        have y0 := h7.c0
        have y1 := h7.c1
        have y2 := h7.c2
        have f0 := h7.free 0
        have f1 := h7.free 1
        have f2 := h7.free 2
        simp [Oper.wp, execOp, Act.eval, Act.put, go_sem, y0, y1, y2, f0, f1, f2]
        have h8 := h8.set3 (show g7 ≠ g8 by omega) a
        have hS := hS.set3 (g := g7) (by omega) (by omega) (by omega) a
        have h7 := h7.set a
        obtain ⟨W5, hW5⟩ : ∃ q, ((u153.setCell ⟨g7, 0, none⟩ (.int .i64 a.k)).setCell ⟨g7, 1, none⟩ (.int .i64 a.n)).setCell ⟨g7, 2, none⟩ (.string a.s) = q := ⟨_, rfl⟩
        rw [hW5] at h7 h8 hS
        rw [hW5]
        clear hW5 y0 y1 y2 f0 f1 f2
        refine ⟨hS, ?_⟩
        try simp only [List.setIfInBounds_toArray, List.set_cons_succ, List.set_cons_zero]
        refine held_call (i := 15) rfl (by kernel_rfl) (by kernel_rfl) ?_
        have y0 := h8.c0
        have y1 := h8.c1
        have y2 := h8.c2
        have f0 := h8.free 0
        have f1 := h8.free 1
        have f2 := h8.free 2
        simp [Oper.wp, execOp, Act.eval, Act.put, go_sem, y0, y1, y2, f0, f1, f2]
        have h7 := h7.set3 (show g8 ≠ g7 by omega) z
        have hS := hS.set3 (g := g8) (by omega) (by omega) (by omega) z
        have h8 := h8.set z
        obtain ⟨W6, hW6⟩ : ∃ q, ((W5.setCell ⟨g8, 0, none⟩ (.int .i64 z.k)).setCell ⟨g8, 1, none⟩ (.int .i64 z.n)).setCell ⟨g8, 2, none⟩ (.string z.s) = q := ⟨_, rfl⟩
        rw [hW6] at h7 h8 hS
        rw [hW6]
        clear hW6 y0 y1 y2 f0 f1 f2
        refine ⟨hS, ?_⟩
        try simp only [List.setIfInBounds_toArray, List.set_cons_succ, List.set_cons_zero]
        refine wpAnyH_done (by kernel_rfl) ?_ 0
        have y0 := h7.c0
        have y1 := h7.c1
        have y2 := h7.c2
        have y3 := h8.c0
        have y4 := h8.c1
        have y5 := h8.c2
        have HS6 := Lib.hid hS
        clear hS h7 h8
        go_wp2_with (go_at_fn g; refine (HG.out _ HS6.out.b).mono ?_; rintro e w4 ⟨rfl, hb4⟩; have HB4 := Lib.hid (HS6.out.below hb4); clear hb4)
        exact ⟨rfl, HX.out.symm, HB4.out.b⟩
  · simp [Oper.wp, execOp, Act.put, go_sem]
    have h7 : Box3 (W1.drew.alloc (.cells #[.int .i64 0, .int .i64 0, .string ⟨#[]⟩] 23)) W1.drew.heap.size zV := Box3.new W1.drew zV
    have hg7 : w.heap.size + 2 ≤ W1.drew.heap.size := hz
    have hS := hS.below ((Below.refl _ _).alloc (Nat.le_refl _) (.cells #[.int .i64 0, .int .i64 0, .string ⟨#[]⟩] 23))
    have hz : w.heap.size + 2 ≤ (W1.drew.alloc (.cells #[.int .i64 0, .int .i64 0, .string ⟨#[]⟩] 23)).heap.size := by simp; omega
    obtain ⟨u154, hW2⟩ : ∃ q, W1.drew.alloc (.cells #[.int .i64 0, .int .i64 0, .string ⟨#[]⟩] 23) = q := ⟨_, rfl⟩
    have hsz : W1.drew.heap.size = W1.drew.heap.size := rfl
    rw [hW2] at h7 hS hz
    first | rw [hW2] | (rw [show (W1.alloc (.cells #[.int .i64 0, .int .i64 0, .string ⟨#[]⟩] 23)).drew = u154 from hW2]; try rw [show W1.heap.size = W1.drew.heap.size from rfl])
    obtain ⟨g7, hgg⟩ : ∃ q, W1.drew.heap.size = q := ⟨_, rfl⟩
    rw [hgg] at h7 hg7
    try rw [hgg]
    clear hW2 hgg hsz
    refine ⟨hS, ?_⟩
    try simp only [List.setIfInBounds_toArray, List.set_cons_succ, List.set_cons_zero]
    refine held_two (i := 5) (j := 13) rfl rfl (by kernel_rfl) (by kernel_rfl) (by kernel_rfl) ?_ ?_
    · simp [Oper.wp, execOp, Act.eval, Act.put, go_sem]
      refine (HC0.out _ hS).mono ?_
      rintro en u155 ⟨rfl, hb⟩
      have hz : w.heap.size + 2 ≤ u155.heap.size := Nat.le_trans hz hb.size
      have h7 := h7.below hb
      have hS := hS.below hb
      clear hb
      refine ⟨hS, ?_⟩
      try simp only [List.setIfInBounds_toArray, List.set_cons_succ, List.set_cons_zero]
      refine held_two (i := 11) (j := 13) rfl rfl (by kernel_rfl) (by kernel_rfl) (by kernel_rfl) ?_ ?_
      · simp [Oper.wp, execOp, Act.eval, Act.put, go_sem]
        refine (HC1.out _ hS).mono ?_
        rintro en u156 ⟨rfl, hb⟩
        have hz : w.heap.size + 2 ≤ u156.heap.size := Nat.le_trans hz hb.size
        have h7 := h7.below hb
        have hS := hS.below hb
        clear hb
        refine ⟨hS, ?_⟩
        try simp only [List.setIfInBounds_toArray, List.set_cons_succ, List.set_cons_zero]
        refine held_call (i := 13) rfl (by kernel_rfl) (by kernel_rfl) ?_
        simp [Oper.wp, execOp, Act.put, go_sem]
        have h8 : Box3 (u156.alloc (.cells #[.int .i64 0, .int .i64 0, .string ⟨#[]⟩] 23)) u156.heap.size zV := Box3.new u156 zV
        have hg8 : w.heap.size + 2 ≤ u156.heap.size := hz
        have hne : g7 < u156.heap.size := h7.lt
        have h7 := h7.alloc (.cells #[.int .i64 0, .int .i64 0, .string ⟨#[]⟩] 23)
        have hS := hS.below ((Below.refl _ _).alloc (Nat.le_refl _) (.cells #[.int .i64 0, .int .i64 0, .string ⟨#[]⟩] 23))
        have hz : w.heap.size + 2 ≤ (u156.alloc (.cells #[.int .i64 0, .int .i64 0, .string ⟨#[]⟩] 23)).heap.size := by simp; omega
        obtain ⟨u157, hW2⟩ : ∃ q, u156.alloc (.cells #[.int .i64 0, .int .i64 0, .string ⟨#[]⟩] 23) = q := ⟨_, rfl⟩
        have hsz : u156.heap.size = u156.heap.size := rfl
        rw [hW2] at h8 hS hz
        rw [hW2] at h7
        first | rw [hW2] | (rw [show (W1.alloc (.cells #[.int .i64 0, .int .i64 0, .string ⟨#[]⟩] 23)).drew = u157 from hW2]; try rw [show W1.heap.size = W1.drew.heap.size from rfl])
        obtain ⟨g8, hgg⟩ : ∃ q, u156.heap.size = q := ⟨_, rfl⟩
        rw [hgg] at h8 hg8 hne
        try rw [hgg]
        clear hW2 hgg hsz
        refine ⟨hS, ?_⟩
        try simp only [List.setIfInBounds_toArray, List.set_cons_succ, List.set_cons_zero]
        refine held_call (i := 14) rfl (by kernel_rfl) (by kernel_rfl) ?_
        have y0 := h7.c0
        have y1 := h7.c1
        have y2 := h7.c2
        have f0 := h7.free 0
        have f1 := h7.free 1
        have f2 := h7.free 2
        simp [Oper.wp, execOp, Act.eval, Act.put, go_sem, y0, y1, y2, f0, f1, f2]
        have h8 := h8.set3 (show g7 ≠ g8 by omega) a
        have hS := hS.set3 (g := g7) (by omega) (by omega) (by omega) a
        have h7 := h7.set a
        obtain ⟨W5, hW5⟩ : ∃ q, ((u157.setCell ⟨g7, 0, none⟩ (.int .i64 a.k)).setCell ⟨g7, 1, none⟩ (.int .i64 a.n)).setCell ⟨g7, 2, none⟩ (.string a.s) = q := ⟨_, rfl⟩
        rw [hW5] at h7 h8 hS
        rw [hW5]
        clear hW5 y0 y1 y2 f0 f1 f2
        refine ⟨hS, ?_⟩
        try simp only [List.setIfInBounds_toArray, List.set_cons_succ, List.set_cons_zero]
        refine held_call (i := 15) rfl (by kernel_rfl) (by kernel_rfl) ?_
        have y0 := h8.c0
        have y1 := h8.c1
        have y2 := h8.c2
        have f0 := h8.free 0
        have f1 := h8.free 1
        have f2 := h8.free 2
        simp [Oper.wp, execOp, Act.eval, Act.put, go_sem, y0, y1, y2, f0, f1, f2]
        have h7 := h7.set3 (show g8 ≠ g7 by omega) z
        have hS := hS.set3 (g := g8) (by omega) (by omega) (by omega) z
        have h8 := h8.set z
        obtain ⟨W6, hW6⟩ : ∃ q, ((W5.setCell ⟨g8, 0, none⟩ (.int .i64 z.k)).setCell ⟨g8, 1, none⟩ (.int .i64 z.n)).setCell ⟨g8, 2, none⟩ (.string z.s) = q := ⟨_, rfl⟩
        rw [hW6] at h7 h8 hS
        rw [hW6]
        clear hW6 y0 y1 y2 f0 f1 f2
        refine ⟨hS, ?_⟩
        try simp only [List.setIfInBounds_toArray, List.set_cons_succ, List.set_cons_zero]
        refine wpAnyH_done (by kernel_rfl) ?_ 0
        have y0 := h7.c0
        have y1 := h7.c1
        have y2 := h7.c2
        have y3 := h8.c0
        have y4 := h8.c1
        have y5 := h8.c2
        have HS6 := Lib.hid hS
        clear hS h7 h8
        go_wp2_with (go_at_fn g; refine (HG.out _ HS6.out.b).mono ?_; rintro e w4 ⟨rfl, hb4⟩; have HB4 := Lib.hid (HS6.out.below hb4); clear hb4)
        exact ⟨rfl, HX.out.symm, HB4.out.b⟩
      · simp [Oper.wp, execOp, Act.put, go_sem]
        have h8 : Box3 (u155.alloc (.cells #[.int .i64 0, .int .i64 0, .string ⟨#[]⟩] 23)) u155.heap.size zV := Box3.new u155 zV
        have hg8 : w.heap.size + 2 ≤ u155.heap.size := hz
        have hne : g7 < u155.heap.size := h7.lt
        have h7 := h7.alloc (.cells #[.int .i64 0, .int .i64 0, .string ⟨#[]⟩] 23)
        have hS := hS.below ((Below.refl _ _).alloc (Nat.le_refl _) (.cells #[.int .i64 0, .int .i64 0, .string ⟨#[]⟩] 23))
        have hz : w.heap.size + 2 ≤ (u155.alloc (.cells #[.int .i64 0, .int .i64 0, .string ⟨#[]⟩] 23)).heap.size := by simp; omega
        obtain ⟨u158, hW2⟩ : ∃ q, u155.alloc (.cells #[.int .i64 0, .int .i64 0, .string ⟨#[]⟩] 23) = q := ⟨_, rfl⟩
        have hsz : u155.heap.size = u155.heap.size := rfl
        rw [hW2] at h8 hS hz
        rw [hW2] at h7
        first | rw [hW2] | (rw [show (W1.alloc (.cells #[.int .i64 0, .int .i64 0, .string ⟨#[]⟩] 23)).drew = u158 from hW2]; try rw [show W1.heap.size = W1.drew.heap.size from rfl])
        obtain ⟨g8, hgg⟩ : ∃ q, u155.heap.size = q := ⟨_, rfl⟩
        rw [hgg] at h8 hg8 hne
        try rw [hgg]
        clear hW2 hgg hsz
        refine ⟨hS, ?_⟩
        try simp only [List.setIfInBounds_toArray, List.set_cons_succ, List.set_cons_zero]
        refine held_call (i := 11) rfl (by kernel_rfl) (by kernel_rfl) ?_
        simp [Oper.wp, execOp, Act.eval, Act.put, go_sem]
        refine (HC1.out _ hS).mono ?_
        rintro en u159 ⟨rfl, hb⟩
        have hz : w.heap.size + 2 ≤ u159.heap.size := Nat.le_trans hz hb.size
        have h7 := h7.below hb
        have h8 := h8.below hb
        have hS := hS.below hb
        clear hb
        refine ⟨hS, ?_⟩
        try simp only [List.setIfInBounds_toArray, List.set_cons_succ, List.set_cons_zero]
        refine held_call (i := 14) rfl (by kernel_rfl) (by kernel_rfl) ?_
        have y0 := h7.c0
        have y1 := h7.c1
        have y2 := h7.c2
        have f0 := h7.free 0
        have f1 := h7.free 1
        have f2 := h7.free 2
        simp [Oper.wp, execOp, Act.eval, Act.put, go_sem, y0, y1, y2, f0, f1, f2]
        have h8 := h8.set3 (show g7 ≠ g8 by omega) a
        have hS := hS.set3 (g := g7) (by omega) (by omega) (by omega) a
        have h7 := h7.set a
        obtain ⟨W5, hW5⟩ : ∃ q, ((u159.setCell ⟨g7, 0, none⟩ (.int .i64 a.k)).setCell ⟨g7, 1, none⟩ (.int .i64 a.n)).setCell ⟨g7, 2, none⟩ (.string a.s) = q := ⟨_, rfl⟩
        rw [hW5] at h7 h8 hS
        rw [hW5]
        clear hW5 y0 y1 y2 f0 f1 f2
        refine ⟨hS, ?_⟩
        try simp only [List.setIfInBounds_toArray, List.set_cons_succ, List.set_cons_zero]
        refine held_call (i := 15) rfl (by kernel_rfl) (by kernel_rfl) ?_
        have y0 := h8.c0
        have y1 := h8.c1
        have y2 := h8.c2
        have f0 := h8.free 0
        have f1 := h8.free 1
        have f2 := h8.free 2
        simp [Oper.wp, execOp, Act.eval, Act.put, go_sem, y0, y1, y2, f0, f1, f2]
        have h7 := h7.set3 (show g8 ≠ g7 by omega) z
        have hS := hS.set3 (g := g8) (by omega) (by omega) (by omega) z
        have h8 := h8.set z
        obtain ⟨W6, hW6⟩ : ∃ q, ((W5.setCell ⟨g8, 0, none⟩ (.int .i64 z.k)).setCell ⟨g8, 1, none⟩ (.int .i64 z.n)).setCell ⟨g8, 2, none⟩ (.string z.s) = q := ⟨_, rfl⟩
        rw [hW6] at h7 h8 hS
        rw [hW6]
        clear hW6 y0 y1 y2 f0 f1 f2
        refine ⟨hS, ?_⟩
        try simp only [List.setIfInBounds_toArray, List.set_cons_succ, List.set_cons_zero]
        refine wpAnyH_done (by kernel_rfl) ?_ 0
        have y0 := h7.c0
        have y1 := h7.c1
        have y2 := h7.c2
        have y3 := h8.c0
        have y4 := h8.c1
        have y5 := h8.c2
        have HS6 := Lib.hid hS
        clear hS h7 h8
        go_wp2_with (go_at_fn g; refine (HG.out _ HS6.out.b).mono ?_; rintro e w4 ⟨rfl, hb4⟩; have HB4 := Lib.hid (HS6.out.below hb4); clear hb4)
        exact ⟨rfl, HX.out.symm, HB4.out.b⟩
    · simp [Oper.wp, execOp, Act.put, go_sem]
      have h8 : Box3 (u154.alloc (.cells #[.int .i64 0, .int .i64 0, .string ⟨#[]⟩] 23)) u154.heap.size zV := Box3.new u154 zV
      have hg8 : w.heap.size + 2 ≤ u154.heap.size := hz
      have hne : g7 < u154.heap.size := h7.lt
      have h7 := h7.alloc (.cells #[.int .i64 0, .int .i64 0, .string ⟨#[]⟩] 23)
      have hS := hS.below ((Below.refl _ _).alloc (Nat.le_refl _) (.cells #[.int .i64 0, .int .i64 0, .string ⟨#[]⟩] 23))
      have hz : w.heap.size + 2 ≤ (u154.alloc (.cells #[.int .i64 0, .int .i64 0, .string ⟨#[]⟩] 23)).heap.size := by simp; omega
      obtain ⟨u160, hW2⟩ : ∃ q, u154.alloc (.cells #[.int .i64 0, .int .i64 0, .string ⟨#[]⟩] 23) = q := ⟨_, rfl⟩
      have hsz : u154.heap.size = u154.heap.size := rfl
      rw [hW2] at h8 hS hz
      rw [hW2] at h7
      first | rw [hW2] | (rw [show (W1.alloc (.cells #[.int .i64 0, .int .i64 0, .string ⟨#[]⟩] 23)).drew = u160 from hW2]; try rw [show W1.heap.size = W1.drew.heap.size from rfl])
      obtain ⟨g8, hgg⟩ : ∃ q, u154.heap.size = q := ⟨_, rfl⟩
      rw [hgg] at h8 hg8 hne
      try rw [hgg]
      clear hW2 hgg hsz
      refine ⟨hS, ?_⟩
      try simp only [List.setIfInBounds_toArray, List.set_cons_succ, List.set_cons_zero]
      refine held_call (i := 5) rfl (by kernel_rfl) (by kernel_rfl) ?_
      simp [Oper.wp, execOp, Act.eval, Act.put, go_sem]
      refine (HC0.out _ hS).mono ?_
      rintro en u161 ⟨rfl, hb⟩
      have hz : w.heap.size + 2 ≤ u161.heap.size := Nat.le_trans hz hb.size
      have h7 := h7.below hb
      have h8 := h8.below hb
      have hS := hS.below hb
      clear hb
      refine ⟨hS, ?_⟩
      try simp only [List.setIfInBounds_toArray, List.set_cons_succ, List.set_cons_zero]
      refine held_call (i := 11) rfl (by kernel_rfl) (by kernel_rfl) ?_
      simp [Oper.wp, execOp, Act.eval, Act.put, go_sem]
      refine (HC1.out _ hS).mono ?_
      rintro en u162 ⟨rfl, hb⟩
      have hz : w.heap.size + 2 ≤ u162.heap.size := Nat.le_trans hz hb.size
      have h7 := h7.below hb
      have h8 := h8.below hb
      have hS := hS.below hb
      clear hb
      refine ⟨hS, ?_⟩
      try simp only [List.setIfInBounds_toArray, List.set_cons_succ, List.set_cons_zero]
      refine held_call (i := 14) rfl (by kernel_rfl) (by kernel_rfl) ?_
      have y0 := h7.c0
      have y1 := h7.c1
      have y2 := h7.c2
      have f0 := h7.free 0
      have f1 := h7.free 1
      have f2 := h7.free 2
      simp [Oper.wp, execOp, Act.eval, Act.put, go_sem, y0, y1, y2, f0, f1, f2]
      have h8 := h8.set3 (show g7 ≠ g8 by omega) a
      have hS := hS.set3 (g := g7) (by omega) (by omega) (by omega) a
      have h7 := h7.set a
      obtain ⟨W5, hW5⟩ : ∃ q, ((u162.setCell ⟨g7, 0, none⟩ (.int .i64 a.k)).setCell ⟨g7, 1, none⟩ (.int .i64 a.n)).setCell ⟨g7, 2, none⟩ (.string a.s) = q := ⟨_, rfl⟩
      rw [hW5] at h7 h8 hS
      rw [hW5]
      clear hW5 y0 y1 y2 f0 f1 f2
      refine ⟨hS, ?_⟩
      try simp only [List.setIfInBounds_toArray, List.set_cons_succ, List.set_cons_zero]
      refine held_call (i := 15) rfl (by kernel_rfl) (by kernel_rfl) ?_
      have y0 := h8.c0
      have y1 := h8.c1
      have y2 := h8.c2
      have f0 := h8.free 0
      have f1 := h8.free 1
      have f2 := h8.free 2
      simp [Oper.wp, execOp, Act.eval, Act.put, go_sem, y0, y1, y2, f0, f1, f2]
      have h7 := h7.set3 (show g8 ≠ g7 by omega) z
      have hS := hS.set3 (g := g8) (by omega) (by omega) (by omega) z
      have h8 := h8.set z
      obtain ⟨W6, hW6⟩ : ∃ q, ((W5.setCell ⟨g8, 0, none⟩ (.int .i64 z.k)).setCell ⟨g8, 1, none⟩ (.int .i64 z.n)).setCell ⟨g8, 2, none⟩ (.string z.s) = q := ⟨_, rfl⟩
      rw [hW6] at h7 h8 hS
      rw [hW6]
      clear hW6 y0 y1 y2 f0 f1 f2
      refine ⟨hS, ?_⟩
      try simp only [List.setIfInBounds_toArray, List.set_cons_succ, List.set_cons_zero]
      refine wpAnyH_done (by kernel_rfl) ?_ 0
      have y0 := h7.c0
      have y1 := h7.c1
      have y2 := h7.c2
      have y3 := h8.c0
      have y4 := h8.c1
      have y5 := h8.c2
      have HS6 := Lib.hid hS
      clear hS h7 h8
      go_wp2_with (go_at_fn g; refine (HG.out _ HS6.out.b).mono ?_; rintro e w4 ⟨rfl, hb4⟩; have HB4 := Lib.hid (HS6.out.below hb4); clear hb4)
      exact ⟨rfl, HX.out.symm, HB4.out.b⟩
  · simp [Oper.wp, execOp, Act.put, go_sem]
    have h8 : Box3 (W1.drew.alloc (.cells #[.int .i64 0, .int .i64 0, .string ⟨#[]⟩] 23)) W1.drew.heap.size zV := Box3.new W1.drew zV
    have hg8 : w.heap.size + 2 ≤ W1.drew.heap.size := hz
    have hS := hS.below ((Below.refl _ _).alloc (Nat.le_refl _) (.cells #[.int .i64 0, .int .i64 0, .string ⟨#[]⟩] 23))
    have hz : w.heap.size + 2 ≤ (W1.drew.alloc (.cells #[.int .i64 0, .int .i64 0, .string ⟨#[]⟩] 23)).heap.size := by simp; omega
    obtain ⟨u163, hW2⟩ : ∃ q, W1.drew.alloc (.cells #[.int .i64 0, .int .i64 0, .string ⟨#[]⟩] 23) = q := ⟨_, rfl⟩
    have hsz : W1.drew.heap.size = W1.drew.heap.size := rfl
    rw [hW2] at h8 hS hz
    first | rw [hW2] | (rw [show (W1.alloc (.cells #[.int .i64 0, .int .i64 0, .string ⟨#[]⟩] 23)).drew = u163 from hW2]; try rw [show W1.heap.size = W1.drew.heap.size from rfl])
    obtain ⟨g8, hgg⟩ : ∃ q, W1.drew.heap.size = q := ⟨_, rfl⟩
    rw [hgg] at h8 hg8
    try rw [hgg]
    clear hW2 hgg hsz
    refine ⟨hS, ?_⟩
    try simp only [List.setIfInBounds_toArray, List.set_cons_succ, List.set_cons_zero]
    refine held_two (i := 5) (j := 12) rfl rfl (by kernel_rfl) (by kernel_rfl) (by kernel_rfl) ?_ ?_
    · simp [Oper.wp, execOp, Act.eval, Act.put, go_sem]
      refine (HC0.out _ hS).mono ?_
      rintro en u164 ⟨rfl, hb⟩
      have hz : w.heap.size + 2 ≤ u164.heap.size := Nat.le_trans hz hb.size
      have h8 := h8.below hb
      have hS := hS.below hb
      clear hb
      refine ⟨hS, ?_⟩
      try simp only [List.setIfInBounds_toArray, List.set_cons_succ, List.set_cons_zero]
      refine held_two (i := 11) (j := 12) rfl rfl (by kernel_rfl) (by kernel_rfl) (by kernel_rfl) ?_ ?_
      · simp [Oper.wp, execOp, Act.eval, Act.put, go_sem]
        refine (HC1.out _ hS).mono ?_
        rintro en u165 ⟨rfl, hb⟩
        have hz : w.heap.size + 2 ≤ u165.heap.size := Nat.le_trans hz hb.size
        have h8 := h8.below hb
        have hS := hS.below hb
        clear hb
        refine ⟨hS, ?_⟩
        try simp only [List.setIfInBounds_toArray, List.set_cons_succ, List.set_cons_zero]
        refine held_call (i := 12) rfl (by kernel_rfl) (by kernel_rfl) ?_
        simp [Oper.wp, execOp, Act.put, go_sem]
        have h7 : Box3 (u165.alloc (.cells #[.int .i64 0, .int .i64 0, .string ⟨#[]⟩] 23)) u165.heap.size zV := Box3.new u165 zV
        have hg7 : w.heap.size + 2 ≤ u165.heap.size := hz
        have hne : g8 < u165.heap.size := h8.lt
        have h8 := h8.alloc (.cells #[.int .i64 0, .int .i64 0, .string ⟨#[]⟩] 23)
        have hS := hS.below ((Below.refl _ _).alloc (Nat.le_refl _) (.cells #[.int .i64 0, .int .i64 0, .string ⟨#[]⟩] 23))
        have hz : w.heap.size + 2 ≤ (u165.alloc (.cells #[.int .i64 0, .int .i64 0, .string ⟨#[]⟩] 23)).heap.size := by simp; omega
        obtain ⟨u166, hW2⟩ : ∃ q, u165.alloc (.cells #[.int .i64 0, .int .i64 0, .string ⟨#[]⟩] 23) = q := ⟨_, rfl⟩
        have hsz : u165.heap.size = u165.heap.size := rfl
        rw [hW2] at h7 hS hz
        rw [hW2] at h8
        first | rw [hW2] | (rw [show (W1.alloc (.cells #[.int .i64 0, .int .i64 0, .string ⟨#[]⟩] 23)).drew = u166 from hW2]; try rw [show W1.heap.size = W1.drew.heap.size from rfl])
        obtain ⟨g7, hgg⟩ : ∃ q, u165.heap.size = q := ⟨_, rfl⟩
        rw [hgg] at h7 hg7 hne
        try rw [hgg]
        clear hW2 hgg hsz
        refine ⟨hS, ?_⟩
        try simp only [List.setIfInBounds_toArray, List.set_cons_succ, List.set_cons_zero]
        refine held_call (i := 14) rfl (by kernel_rfl) (by kernel_rfl) ?_
        have y0 := h7.c0
        have y1 := h7.c1
        have y2 := h7.c2
        have f0 := h7.free 0
        have f1 := h7.free 1
        have f2 := h7.free 2
        simp [Oper.wp, execOp, Act.eval, Act.put, go_sem, y0, y1, y2, f0, f1, f2]
        have h8 := h8.set3 (show g7 ≠ g8 by omega) a
        have hS := hS.set3 (g := g7) (by omega) (by omega) (by omega) a
        have h7 := h7.set a
        obtain ⟨W5, hW5⟩ : ∃ q, ((u166.setCell ⟨g7, 0, none⟩ (.int .i64 a.k)).setCell ⟨g7, 1, none⟩ (.int .i64 a.n)).setCell ⟨g7, 2, none⟩ (.string a.s) = q := ⟨_, rfl⟩
        rw [hW5] at h7 h8 hS
        rw [hW5]
        clear hW5 y0 y1 y2 f0 f1 f2
        refine ⟨hS, ?_⟩
        try simp only [List.setIfInBounds_toArray, List.set_cons_succ, List.set_cons_zero]
        refine held_call (i := 15) rfl (by kernel_rfl) (by kernel_rfl) ?_
        have y0 := h8.c0
        have y1 := h8.c1
        have y2 := h8.c2
        have f0 := h8.free 0
        have f1 := h8.free 1
        have f2 := h8.free 2
        simp [Oper.wp, execOp, Act.eval, Act.put, go_sem, y0, y1, y2, f0, f1, f2]
        have h7 := h7.set3 (show g8 ≠ g7 by omega) z
        have hS := hS.set3 (g := g8) (by omega) (by omega) (by omega) z
        have h8 := h8.set z
        obtain ⟨W6, hW6⟩ : ∃ q, ((W5.setCell ⟨g8, 0, none⟩ (.int .i64 z.k)).setCell ⟨g8, 1, none⟩ (.int .i64 z.n)).setCell ⟨g8, 2, none⟩ (.string z.s) = q := ⟨_, rfl⟩
        rw [hW6] at h7 h8 hS
        rw [hW6]
        clear hW6 y0 y1 y2 f0 f1 f2
        refine ⟨hS, ?_⟩
        try simp only [List.setIfInBounds_toArray, List.set_cons_succ, List.set_cons_zero]
        refine wpAnyH_done (by kernel_rfl) ?_ 0
        have y0 := h7.c0
        have y1 := h7.c1
        have y2 := h7.c2
        have y3 := h8.c0
        have y4 := h8.c1
        have y5 := h8.c2
        have HS6 := Lib.hid hS
        clear hS h7 h8
        go_wp2_with (go_at_fn g; refine (HG.out _ HS6.out.b).mono ?_; rintro e w4 ⟨rfl, hb4⟩; have HB4 := Lib.hid (HS6.out.below hb4); clear hb4)
        exact ⟨rfl, HX.out.symm, HB4.out.b⟩
      · simp [Oper.wp, execOp, Act.put, go_sem]
        have h7 : Box3 (u164.alloc (.cells #[.int .i64 0, .int .i64 0, .string ⟨#[]⟩] 23)) u164.heap.size zV := Box3.new u164 zV
        have hg7 : w.heap.size + 2 ≤ u164.heap.size := hz
        have hne : g8 < u164.heap.size := h8.lt
        have h8 := h8.alloc (.cells #[.int .i64 0, .int .i64 0, .string ⟨#[]⟩] 23)
        have hS := hS.below ((Below.refl _ _).alloc (Nat.le_refl _) (.cells #[.int .i64 0, .int .i64 0, .string ⟨#[]⟩] 23))
        have hz : w.heap.size + 2 ≤ (u164.alloc (.cells #[.int .i64 0, .int .i64 0, .string ⟨#[]⟩] 23)).heap.size := by simp; omega
        obtain ⟨u167, hW2⟩ : ∃ q, u164.alloc (.cells #[.int .i64 0, .int .i64 0, .string ⟨#[]⟩] 23) = q := ⟨_, rfl⟩
        have hsz : u164.heap.size = u164.heap.size := rfl
        rw [hW2] at h7 hS hz
        rw [hW2] at h8
        first | rw [hW2] | (rw [show (W1.alloc (.cells #[.int .i64 0, .int .i64 0, .string ⟨#[]⟩] 23)).drew = u167 from hW2]; try rw [show W1.heap.size = W1.drew.heap.size from rfl])
        obtain ⟨g7, hgg⟩ : ∃ q, u164.heap.size = q := ⟨_, rfl⟩
        rw [hgg] at h7 hg7 hne
        try rw [hgg]
        clear hW2 hgg hsz
        refine ⟨hS, ?_⟩
        try simp only [List.setIfInBounds_toArray, List.set_cons_succ, List.set_cons_zero]
        refine held_call (i := 11) rfl (by kernel_rfl) (by kernel_rfl) ?_
        simp [Oper.wp, execOp, Act.eval, Act.put, go_sem]
        refine (HC1.out _ hS).mono ?_
        rintro en u168 ⟨rfl, hb⟩
        have hz : w.heap.size + 2 ≤ u168.heap.size := Nat.le_trans hz hb.size
        have h7 := h7.below hb
        have h8 := h8.below hb
        have hS := hS.below hb
        clear hb
        refine ⟨hS, ?_⟩
        try simp only [List.setIfInBounds_toArray, List.set_cons_succ, List.set_cons_zero]
        refine held_call (i := 14) rfl (by kernel_rfl) (by kernel_rfl) ?_
        have y0 := h7.c0
        have y1 := h7.c1
        have y2 := h7.c2
        have f0 := h7.free 0
        have f1 := h7.free 1
        have f2 := h7.free 2
        simp [Oper.wp, execOp, Act.eval, Act.put, go_sem, y0, y1, y2, f0, f1, f2]
        have h8 := h8.set3 (show g7 ≠ g8 by omega) a
        have hS := hS.set3 (g := g7) (by omega) (by omega) (by omega) a
        have h7 := h7.set a
        obtain ⟨W5, hW5⟩ : ∃ q, ((u168.setCell ⟨g7, 0, none⟩ (.int .i64 a.k)).setCell ⟨g7, 1, none⟩ (.int .i64 a.n)).setCell ⟨g7, 2, none⟩ (.string a.s) = q := ⟨_, rfl⟩
        rw [hW5] at h7 h8 hS
        rw [hW5]
        clear hW5 y0 y1 y2 f0 f1 f2
        refine ⟨hS, ?_⟩
        try simp only [List.setIfInBounds_toArray, List.set_cons_succ, List.set_cons_zero]
        refine held_call (i := 15) rfl (by kernel_rfl) (by kernel_rfl) ?_
        have y0 := h8.c0
        have y1 := h8.c1
        have y2 := h8.c2
        have f0 := h8.free 0
        have f1 := h8.free 1
        have f2 := h8.free 2
        simp [Oper.wp, execOp, Act.eval, Act.put, go_sem, y0, y1, y2, f0, f1, f2]
        have h7 := h7.set3 (show g8 ≠ g7 by omega) z
        have hS := hS.set3 (g := g8) (by omega) (by omega) (by omega) z
        have h8 := h8.set z
        obtain ⟨W6, hW6⟩ : ∃ q, ((W5.setCell ⟨g8, 0, none⟩ (.int .i64 z.k)).setCell ⟨g8, 1, none⟩ (.int .i64 z.n)).setCell ⟨g8, 2, none⟩ (.string z.s) = q := ⟨_, rfl⟩
        rw [hW6] at h7 h8 hS
        rw [hW6]
        clear hW6 y0 y1 y2 f0 f1 f2
        refine ⟨hS, ?_⟩
        try simp only [List.setIfInBounds_toArray, List.set_cons_succ, List.set_cons_zero]
        refine wpAnyH_done (by kernel_rfl) ?_ 0
        have y0 := h7.c0
        have y1 := h7.c1
        have y2 := h7.c2
        have y3 := h8.c0
        have y4 := h8.c1
        have y5 := h8.c2
        have HS6 := Lib.hid hS
        clear hS h7 h8
        go_wp2_with (go_at_fn g; refine (HG.out _ HS6.out.b).mono ?_; rintro e w4 ⟨rfl, hb4⟩; have HB4 := Lib.hid (HS6.out.below hb4); clear hb4)
        exact ⟨rfl, HX.out.symm, HB4.out.b⟩
    · simp [Oper.wp, execOp, Act.put, go_sem]
      have h7 : Box3 (u163.alloc (.cells #[.int .i64 0, .int .i64 0, .string ⟨#[]⟩] 23)) u163.heap.size zV := Box3.new u163 zV
      have hg7 : w.heap.size + 2 ≤ u163.heap.size := hz
      have hne : g8 < u163.heap.size := h8.lt
      have h8 := h8.alloc (.cells #[.int .i64 0, .int .i64 0, .string ⟨#[]⟩] 23)
      have hS := hS.below ((Below.refl _ _).alloc (Nat.le_refl _) (.cells #[.int .i64 0, .int .i64 0, .string ⟨#[]⟩] 23))
      have hz : w.heap.size + 2 ≤ (u163.alloc (.cells #[.int .i64 0, .int .i64 0, .string ⟨#[]⟩] 23)).heap.size := by simp; omega
      obtain ⟨u169, hW2⟩ : ∃ q, u163.alloc (.cells #[.int .i64 0, .int .i64 0, .string ⟨#[]⟩] 23) = q := ⟨_, rfl⟩
      have hsz : u163.heap.size = u163.heap.size := rfl
      rw [hW2] at h7 hS hz
      rw [hW2] at h8
      first | rw [hW2] | (rw [show (W1.alloc (.cells #[.int .i64 0, .int .i64 0, .string ⟨#[]⟩] 23)).drew = u169 from hW2]; try rw [show W1.heap.size = W1.drew.heap.size from rfl])
      obtain ⟨g7, hgg⟩ : ∃ q, u163.heap.size = q := ⟨_, rfl⟩
      rw [hgg] at h7 hg7 hne
      try rw [hgg]
      clear hW2 hgg hsz
      refine ⟨hS, ?_⟩
      try simp only [List.setIfInBounds_toArray, List.set_cons_succ, List.set_cons_zero]
      refine held_call (i := 5) rfl (by kernel_rfl) (by kernel_rfl) ?_
      simp [Oper.wp, execOp, Act.eval, Act.put, go_sem]
      refine (HC0.out _ hS).mono ?_
      rintro en u170 ⟨rfl, hb⟩
      have hz : w.heap.size + 2 ≤ u170.heap.size := Nat.le_trans hz hb.size
      have h7 := h7.below hb
      have h8 := h8.below hb
      have hS := hS.below hb
      clear hb
      refine ⟨hS, ?_⟩
      try simp only [List.setIfInBounds_toArray, List.set_cons_succ, List.set_cons_zero]
      refine held_call (i := 11) rfl (by kernel_rfl) (by kernel_rfl) ?_
      simp [Oper.wp, execOp, Act.eval, Act.put, go_sem]
      refine (HC1.out _ hS).mono ?_
      rintro en u171 ⟨rfl, hb⟩
      have hz : w.heap.size + 2 ≤ u171.heap.size := Nat.le_trans hz hb.size
      have h7 := h7.below hb
      have h8 := h8.below hb
      have hS := hS.below hb
      clear hb
      refine ⟨hS, ?_⟩
      try simp only [List.setIfInBounds_toArray, List.set_cons_succ, List.set_cons_zero]
      refine held_call (i := 14) rfl (by kernel_rfl) (by kernel_rfl) ?_
      have y0 := h7.c0
      have y1 := h7.c1
      have y2 := h7.c2
      have f0 := h7.free 0
      have f1 := h7.free 1
      have f2 := h7.free 2
      simp [Oper.wp, execOp, Act.eval, Act.put, go_sem, y0, y1, y2, f0, f1, f2]
      have h8 := h8.set3 (show g7 ≠ g8 by omega) a
      have hS := hS.set3 (g := g7) (by omega) (by omega) (by omega) a
      have h7 := h7.set a
      obtain ⟨W5, hW5⟩ : ∃ q, ((u171.setCell ⟨g7, 0, none⟩ (.int .i64 a.k)).setCell ⟨g7, 1, none⟩ (.int .i64 a.n)).setCell ⟨g7, 2, none⟩ (.string a.s) = q := ⟨_, rfl⟩
      rw [hW5] at h7 h8 hS
      rw [hW5]
      clear hW5 y0 y1 y2 f0 f1 f2
      refine ⟨hS, ?_⟩
      try simp only [List.setIfInBounds_toArray, List.set_cons_succ, List.set_cons_zero]
      refine held_call (i := 15) rfl (by kernel_rfl) (by kernel_rfl) ?_
      have y0 := h8.c0
      have y1 := h8.c1
      have y2 := h8.c2
      have f0 := h8.free 0
      have f1 := h8.free 1
      have f2 := h8.free 2
      simp [Oper.wp, execOp, Act.eval, Act.put, go_sem, y0, y1, y2, f0, f1, f2]
      have h7 := h7.set3 (show g8 ≠ g7 by omega) z
      have hS := hS.set3 (g := g8) (by omega) (by omega) (by omega) z
      have h8 := h8.set z
      obtain ⟨W6, hW6⟩ : ∃ q, ((W5.setCell ⟨g8, 0, none⟩ (.int .i64 z.k)).setCell ⟨g8, 1, none⟩ (.int .i64 z.n)).setCell ⟨g8, 2, none⟩ (.string z.s) = q := ⟨_, rfl⟩
      rw [hW6] at h7 h8 hS
      rw [hW6]
      clear hW6 y0 y1 y2 f0 f1 f2
      refine ⟨hS, ?_⟩
      try simp only [List.setIfInBounds_toArray, List.set_cons_succ, List.set_cons_zero]
      refine wpAnyH_done (by kernel_rfl) ?_ 0
      have y0 := h7.c0
      have y1 := h7.c1
      have y2 := h7.c2
      have y3 := h8.c0
      have y4 := h8.c1
      have y5 := h8.c2
      have HS6 := Lib.hid hS
      clear hS h7 h8
      go_wp2_with (go_at_fn g; refine (HG.out _ HS6.out.b).mono ?_; rintro e w4 ⟨rfl, hb4⟩; have HB4 := Lib.hid (HS6.out.below hb4); clear hb4)
      exact ⟨rfl, HX.out.symm, HB4.out.b⟩
end
end Go.Proofs.YtclcabdekeegdaaGreat
