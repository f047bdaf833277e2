/- Layer 13, walked: worths: what two parts come to, a case (wip/gen/XExWb.py). -/
import Derived.Test.YtclcabdekeegdaaGreatExWab
namespace Go.Proofs.YtclcabdekeegdaaGreat
open Go.ChangeShapes Go.WideShapes Go.ChangeAt Go.RowKit
set_option linter.unusedVariables false
set_option linter.unusedSimpArgs false
section
variable (cs : List C) (row : List V) (cA : Option Addr) (cc : Nat) (rA : Option Addr) (rc : Nat) (B b : Nat)
set_option maxHeartbeats 16000000 in
set_option maxRecDepth 40000 in
theorem two_nul (o : Int) (n : ByteArray) (v : V) (ks : List X) (h1 : 1 < ks.length) (A : Option Addr) (c : Nat) (w : World) (hs : Sc cs row cA cc rA rc B b w) (hk : KidsAt w w.heap.size (.mk o n v ks) A c) (r0 r1 : V × Int)
    (hx : WK cs row cA cc rA rc B b ks[0] r0) (hy : WK cs row cA cc rA rc B b ks[1] r1)
    (g : Nat) (p : Value) (eg : ∀ args W, (callFunc g args).run Tryz.prog W = .ok (.enter g args) W) (F : V → V → V × Int) (hF : r0.2 = 0 → r1.2 = 0 → r0.1.k ≠ 0 → r1.1.k ≠ 0 → ∀ W, Below w.heap.size w W → Calls Tryz.prog g #[r0.1.val, r1.1.val, p] W fun en w' => en = endW (F r0.1 r1.1) ∧ Below W.heap.size W w') (he : r0.2 = 0) (he1 : r1.2 = 0) (hza : r0.1.k = 0) :
    Calls Tryz.prog 106 #[.pointer (some ⟨b, 0, none⟩), eV o n v ks.length A c, .func (.func g) #[] #[p]] w fun en w' => en = endW (twoR r0 r1 F) ∧ Below w.heap.size w w' := by
  obtain ⟨bk, off, A2, c2, rfl, hbk, hk2, a0, a1, a2, a3, a4, a5⟩ := hk.at6m 0 (by omega)
  obtain ⟨bk', off', A3, c3, hA, hbk', hk3, d0, d1, d2, d3, d4, d5⟩ := hk.at6m 1 h1
  injection hA with hA
  injection hA with hA1 hA2
  subst hA1 hA2
  obtain ⟨x, hxx⟩ : ∃ x, ks[0] = x := ⟨_, rfl⟩
  obtain ⟨y, hyy⟩ : ∃ y, ks[1] = y := ⟨_, rfl⟩
  rw [hxx] at hx hk2 a0 a1 a2 a3 a4 a5
  rw [hyy] at hy hk3 d0 d1 d2 d3 d4 d5
  simp only [Nat.zero_mul, Nat.one_mul, Nat.add_zero, Nat.add_assoc, Nat.reduceAdd] at a0 a1 a2 a3 a4 a5 d0 d1 d2 d3 d4 d5
  obtain ⟨W1, hW1⟩ : ∃ W1, (w.alloc ((X.mk o n v ks).obj (some ⟨bk, off, none⟩) c)).alloc (.cells #[.int .i64 0, .int .i64 0, .string ⟨#[]⟩] 23) = W1 := ⟨_, rfl⟩
  have hfr : Fr o n v ks (some ⟨bk, off, none⟩) c w.heap.size (w.heap.size + 1) zV w W1 := by rw [← hW1]; exact Fr.new o n v ks _ c w
  have HC0 := Lib.hid (fun (W : World) (h : Fr o n v ks (some ⟨bk, off, none⟩) c w.heap.size (w.heap.size + 1) zV w W) => hx A2 c2 W (hs.below h.b) (KidsAt.more h.b.size (hk2.below h.b)))
  have HC1 := Lib.hid (fun (W : World) (h : Fr o n v ks (some ⟨bk, off, none⟩) c w.heap.size (w.heap.size + 1) zV w W) => hy A3 c3 W (hs.below h.b) (KidsAt.more h.b.size (hk3.below h.b)))
  have HFR := Lib.hid hfr
  have HF := Lib.hid hF
  obtain ⟨E, hE⟩ : ∃ E, endW (twoR r0 r1 F) = E := ⟨_, rfl⟩
  rw [hE]
  have HE := Lib.hid hE
  obtain ⟨a, er⟩ := r0
  obtain ⟨z, er1⟩ := r1
  have HA := Lib.hid (And.intro a0 (And.intro a1 (And.intro a2 (And.intro a3 (And.intro a4 a5)))))
  have HD := Lib.hid (And.intro d0 (And.intro d1 (And.intro d2 (And.intro d3 (And.intro d4 d5)))))
  have i1 : (0 : Int) < (ks.length : Int) := by omega
  have i2 : (1 : Int) < (ks.length : Int) := by omega
  have hnil : ¬ ks = [] := by rintro rfl; simp at h1
  have hen := eg
  clear hF hE hx hy hk hk2 hk3 hs hxx hyy hfr eg a0 a1 a2 a3 a4 a5 d0 d1 d2 d3 d4 d5
  unfold X.obj at hW1
  simp only [X.op, X.nm, X.v, X.ks] at hW1
  unfold X.val at HC0 HC1
  unfold eV
  dsimp only at HF HC0 HC1
  dsimp only at he he1 hza
  subst he
  rw [endW_ok rfl] at HC0
  dsimp only at HC0
  unfold V.val at HC0
  subst he1
  rw [endW_ok rfl] at HC1
  dsimp only at HC1
  unfold V.val at HC1
  have HX := Lib.hid (show E = .returned nulV.val by rw [← HE.out]; unfold twoR; simp [hza, endW])
  have q0 : (a.k == 0) = true := by simpa using hza
  clear hza
  go_enter Tryz.func106, Tryz.ntmps106
  go_wp2_with fail
  try rw [hW1]
  have hz1 : W1.heap.size = w.heap.size + 2 := by rw [← hW1]; simp
  clear hW1
  have hS : Fr o n v ks (some ⟨bk, off, none⟩) c w.heap.size (w.heap.size + 1) zV w W1.drew := HFR.out.below (Below.refl _ W1).drew
  have hz : w.heap.size + 2 ≤ W1.drew.heap.size := by show _ ≤ W1.heap.size; omega
  refine held_begin 16 (fun W => Fr o n v ks (some ⟨bk, off, none⟩) c w.heap.size (w.heap.size + 1) zV w W) rfl (by kernel_rfl) ?_
  refine held_take (i := 0) (t := 9) (v := (.pointer (some ⟨b, 0, none⟩))) (fuel := 15) rfl rfl (by kernel_rfl) (by kernel_rfl) (by kernel_rfl) (fun _ _ _ h => h) (.inl ⟨rfl, fun W hW => by simp [execOp, Act.eval, go_sem]⟩) hS ?_
  simp only [List.setIfInBounds_toArray, List.set_cons_succ, List.set_cons_zero]
  refine held_take (i := 1) (t := 10) (v := (.pointer (some ⟨w.heap.size, 5, none⟩))) (fuel := 14) rfl rfl (by kernel_rfl) (by kernel_rfl) (by kernel_rfl) (fun _ _ _ h => h) (.inl ⟨rfl, fun W hW => by simp [execOp, Act.eval, go_sem]⟩) hS ?_
  simp only [List.setIfInBounds_toArray, List.set_cons_succ, List.set_cons_zero]
  refine held_take (i := 2) (t := 11) (v := (.slice (some ⟨bk, off, none⟩) ks.length c)) (fuel := 13) rfl rfl (by kernel_rfl) (by kernel_rfl) (by kernel_rfl) (fun _ _ _ h => h) (.inl ⟨rfl, fun W hW => by simp [execOp, Act.eval, go_sem, (obj_cells hW.x).2.2.2.2.2, X.ks]⟩) hS ?_
  simp only [List.setIfInBounds_toArray, List.set_cons_succ, List.set_cons_zero]
  refine held_take (i := 3) (t := 12) (v := (.pointer (some ⟨bk, off, none⟩))) (fuel := 12) rfl rfl (by kernel_rfl) (by kernel_rfl) (by kernel_rfl) (fun _ _ _ h => h) (.inl ⟨rfl, fun W hW => by simp [execOp, Act.eval, go_sem, i1, hnil]⟩) hS ?_
  simp only [List.setIfInBounds_toArray, List.set_cons_succ, List.set_cons_zero]
  refine held_take (i := 4) (t := 13) (v := (.agg #[.int .i64 x.op, .string x.nm, .int .i64 x.v.k, .int .i64 x.v.n, .string x.v.s, .slice A2 x.ks.length c2])) (fuel := 11) rfl rfl (by kernel_rfl) (by kernel_rfl) (by kernel_rfl) (fun _ _ _ h => h) (.inl ⟨rfl, fun W hW => by simp [execOp, Act.eval, go_sem, later_cell hW.b HA.out.1, later_cell hW.b HA.out.2.1, later_cell hW.b HA.out.2.2.1, later_cell hW.b HA.out.2.2.2.1, later_cell hW.b HA.out.2.2.2.2.1, later_cell hW.b HA.out.2.2.2.2.2]⟩) hS ?_
  simp only [List.setIfInBounds_toArray, List.set_cons_succ, List.set_cons_zero]
  refine held_take (i := 6) (t := 15) (v := (.pointer (some ⟨b, 0, none⟩))) (fuel := 10) rfl rfl (by kernel_rfl) (by kernel_rfl) (by kernel_rfl) (fun _ _ _ h => h) (.inl ⟨rfl, fun W hW => by simp [execOp, Act.eval, go_sem]⟩) hS ?_
  simp only [List.setIfInBounds_toArray, List.set_cons_succ, List.set_cons_zero]
  refine held_take (i := 7) (t := 16) (v := (.pointer (some ⟨w.heap.size, 5, none⟩))) (fuel := 9) rfl rfl (by kernel_rfl) (by kernel_rfl) (by kernel_rfl) (fun _ _ _ h => h) (.inl ⟨rfl, fun W hW => by simp [execOp, Act.eval, go_sem]⟩) hS ?_
  simp only [List.setIfInBounds_toArray, List.set_cons_succ, List.set_cons_zero]
  refine held_take (i := 8) (t := 17) (v := (.slice (some ⟨bk, off, none⟩) ks.length c)) (fuel := 8) rfl rfl (by kernel_rfl) (by kernel_rfl) (by kernel_rfl) (fun _ _ _ h => h) (.inl ⟨rfl, fun W hW => by simp [execOp, Act.eval, go_sem, (obj_cells hW.x).2.2.2.2.2, X.ks]⟩) hS ?_
  simp only [List.setIfInBounds_toArray, List.set_cons_succ, List.set_cons_zero]
  refine held_take (i := 9) (t := 18) (v := (.pointer (some ⟨bk, off + 6, none⟩))) (fuel := 7) rfl rfl (by kernel_rfl) (by kernel_rfl) (by kernel_rfl) (fun _ _ _ h => h) (.inl ⟨rfl, fun W hW => by simp [execOp, Act.eval, go_sem, i2]⟩) hS ?_
  simp only [List.setIfInBounds_toArray, List.set_cons_succ, List.set_cons_zero]
  refine held_take (i := 10) (t := 19) (v := (.agg #[.int .i64 y.op, .string y.nm, .int .i64 y.v.k, .int .i64 y.v.n, .string y.v.s, .slice A3 y.ks.length c3])) (fuel := 6) rfl rfl (by kernel_rfl) (by kernel_rfl) (by kernel_rfl) (fun _ _ _ h => h) (.inl ⟨rfl, fun W hW => by simp [execOp, Act.eval, go_sem, later_cell hW.b HD.out.1, later_cell hW.b HD.out.2.1, later_cell hW.b HD.out.2.2.1, later_cell hW.b HD.out.2.2.2.1, later_cell hW.b HD.out.2.2.2.2.1, later_cell hW.b HD.out.2.2.2.2.2]⟩) hS ?_
  simp only [List.setIfInBounds_toArray, List.set_cons_succ, List.set_cons_zero]
  refine held_three (i := 5) (j := 12) (l := 13) rfl rfl rfl (by kernel_rfl) (by kernel_rfl) (by kernel_rfl) (by kernel_rfl) ?_ ?_ ?_
  · simp [Oper.wp, execOp, Act.eval, Act.put, go_sem]
    refine (HC0.out _ hS).mono ?_
    rintro en u36 ⟨rfl, hb⟩
    have hz : w.heap.size + 2 ≤ u36.heap.size := Nat.le_trans hz hb.size
    have hS := hS.below hb
    clear hb
    refine ⟨hS, ?_⟩
    try simp only [List.setIfInBounds_toArray, List.set_cons_succ, List.set_cons_zero]
    refine held_three (i := 11) (j := 12) (l := 13) rfl rfl rfl (by kernel_rfl) (by kernel_rfl) (by kernel_rfl) (by kernel_rfl) ?_ ?_ ?_
    · simp [Oper.wp, execOp, Act.eval, Act.put, go_sem]
      refine (HC1.out _ hS).mono ?_
      rintro en u37 ⟨rfl, hb⟩
      have hz : w.heap.size + 2 ≤ u37.heap.size := Nat.le_trans hz hb.size
      have hS := hS.below hb
      clear hb
      refine ⟨hS, ?_⟩
      try simp only [List.setIfInBounds_toArray, List.set_cons_succ, List.set_cons_zero]
      refine held_two (i := 12) (j := 13) rfl rfl (by kernel_rfl) (by kernel_rfl) (by kernel_rfl) ?_ ?_
      · simp [Oper.wp, execOp, Act.put, go_sem]
        have h7 : Box3 (u37.alloc (.cells #[.int .i64 0, .int .i64 0, .string ⟨#[]⟩] 23)) u37.heap.size zV := Box3.new u37 zV
        have hg7 : w.heap.size + 2 ≤ u37.heap.size := hz
        have hS := hS.below ((Below.refl _ _).alloc (Nat.le_refl _) (.cells #[.int .i64 0, .int .i64 0, .string ⟨#[]⟩] 23))
        have hz : w.heap.size + 2 ≤ (u37.alloc (.cells #[.int .i64 0, .int .i64 0, .string ⟨#[]⟩] 23)).heap.size := by simp; omega
        obtain ⟨u38, hW2⟩ : ∃ q, u37.alloc (.cells #[.int .i64 0, .int .i64 0, .string ⟨#[]⟩] 23) = q := ⟨_, rfl⟩
        have hsz : u37.heap.size = u37.heap.size := rfl
        rw [hW2] at h7 hS hz
        first | rw [hW2] | (rw [show (W1.alloc (.cells #[.int .i64 0, .int .i64 0, .string ⟨#[]⟩] 23)).drew = u38 from hW2]; try rw [show W1.heap.size = W1.drew.heap.size from rfl])
        obtain ⟨g7, hgg⟩ : ∃ q, u37.heap.size = q := ⟨_, rfl⟩
        rw [hgg] at h7 hg7
        try rw [hgg]
        clear hW2 hgg hsz
        refine ⟨hS, ?_⟩
        try simp only [List.setIfInBounds_toArray, List.set_cons_succ, List.set_cons_zero]
        refine held_call (i := 13) rfl (by kernel_rfl) (by kernel_rfl) ?_
        simp [Oper.wp, execOp, Act.put, go_sem]
        have h8 : Box3 (u38.alloc (.cells #[.int .i64 0, .int .i64 0, .string ⟨#[]⟩] 23)) u38.heap.size zV := Box3.new u38 zV
        have hg8 : w.heap.size + 2 ≤ u38.heap.size := hz
        have hne : g7 < u38.heap.size := h7.lt
        have h7 := h7.alloc (.cells #[.int .i64 0, .int .i64 0, .string ⟨#[]⟩] 23)
        have hS := hS.below ((Below.refl _ _).alloc (Nat.le_refl _) (.cells #[.int .i64 0, .int .i64 0, .string ⟨#[]⟩] 23))
        have hz : w.heap.size + 2 ≤ (u38.alloc (.cells #[.int .i64 0, .int .i64 0, .string ⟨#[]⟩] 23)).heap.size := by simp; omega
        obtain ⟨u39, hW2⟩ : ∃ q, u38.alloc (.cells #[.int .i64 0, .int .i64 0, .string ⟨#[]⟩] 23) = q := ⟨_, rfl⟩
        have hsz : u38.heap.size = u38.heap.size := rfl
        rw [hW2] at h8 hS hz
        rw [hW2] at h7
        first | rw [hW2] | (rw [show (W1.alloc (.cells #[.int .i64 0, .int .i64 0, .string ⟨#[]⟩] 23)).drew = u39 from hW2]; try rw [show W1.heap.size = W1.drew.heap.size from rfl])
        obtain ⟨g8, hgg⟩ : ∃ q, u38.heap.size = q := ⟨_, rfl⟩
        rw [hgg] at h8 hg8 hne
        try rw [hgg]
        clear hW2 hgg hsz
        refine ⟨hS, ?_⟩
        try simp only [List.setIfInBounds_toArray, List.set_cons_succ, List.set_cons_zero]
        refine held_call (i := 14) rfl (by kernel_rfl) (by kernel_rfl) ?_
        have y0 := h7.c0
        have y1 := h7.c1
        have y2 := h7.c2
        have f0 := h7.free 0
        have f1 := h7.free 1
        have f2 := h7.free 2
        simp [Oper.wp, execOp, Act.eval, Act.put, go_sem, y0, y1, y2, f0, f1, f2]
        have h8 := h8.set3 (show g7 ≠ g8 by omega) a
        have hS := hS.set3 (g := g7) (by omega) (by omega) (by omega) a
        have h7 := h7.set a
        obtain ⟨W5, hW5⟩ : ∃ q, ((u39.setCell ⟨g7, 0, none⟩ (.int .i64 a.k)).setCell ⟨g7, 1, none⟩ (.int .i64 a.n)).setCell ⟨g7, 2, none⟩ (.string a.s) = q := ⟨_, rfl⟩
        rw [hW5] at h7 h8 hS
        rw [hW5]
        clear hW5 y0 y1 y2 f0 f1 f2
        refine ⟨hS, ?_⟩
        try simp only [List.setIfInBounds_toArray, List.set_cons_succ, List.set_cons_zero]
        refine held_call (i := 15) rfl (by kernel_rfl) (by kernel_rfl) ?_
        have y0 := h8.c0
        have y1 := h8.c1
        have y2 := h8.c2
        have f0 := h8.free 0
        have f1 := h8.free 1
        have f2 := h8.free 2
        simp [Oper.wp, execOp, Act.eval, Act.put, go_sem, y0, y1, y2, f0, f1, f2]
        have h7 := h7.set3 (show g8 ≠ g7 by omega) z
        have hS := hS.set3 (g := g8) (by omega) (by omega) (by omega) z
        have h8 := h8.set z
        obtain ⟨W6, hW6⟩ : ∃ q, ((W5.setCell ⟨g8, 0, none⟩ (.int .i64 z.k)).setCell ⟨g8, 1, none⟩ (.int .i64 z.n)).setCell ⟨g8, 2, none⟩ (.string z.s) = q := ⟨_, rfl⟩
        rw [hW6] at h7 h8 hS
        rw [hW6]
        clear hW6 y0 y1 y2 f0 f1 f2
        refine ⟨hS, ?_⟩
        try simp only [List.setIfInBounds_toArray, List.set_cons_succ, List.set_cons_zero]
        refine wpAnyH_done (by kernel_rfl) ?_ 0
        have y0 := h7.c0
        have y1 := h7.c1
        have y2 := h7.c2
        have y3 := h8.c0
        have y4 := h8.c1
        have y5 := h8.c2
        have HS6 := Lib.hid hS
        clear hS h7 h8
        have s0 := HS6.out.r.c0
        have s1 := HS6.out.r.c1
        have s2 := HS6.out.r.c2
        have f0 := HS6.out.r.free 0
        have f1 := HS6.out.r.free 1
        have f2 := HS6.out.r.free 2
        go_wp2
        exact bodyPost_ret (ret_row rfl (by rfl) (HS6.out.r.set nulV)) rfl ⟨HX.out.symm, set3_below HS6.out.b (Nat.le_succ _) _ _ _⟩
      · simp [Oper.wp, execOp, Act.put, go_sem]
        have h8 : Box3 (u37.alloc (.cells #[.int .i64 0, .int .i64 0, .string ⟨#[]⟩] 23)) u37.heap.size zV := Box3.new u37 zV
        have hg8 : w.heap.size + 2 ≤ u37.heap.size := hz
        have hS := hS.below ((Below.refl _ _).alloc (Nat.le_refl _) (.cells #[.int .i64 0, .int .i64 0, .string ⟨#[]⟩] 23))
        have hz : w.heap.size + 2 ≤ (u37.alloc (.cells #[.int .i64 0, .int .i64 0, .string ⟨#[]⟩] 23)).heap.size := by simp; omega
        obtain ⟨u40, hW2⟩ : ∃ q, u37.alloc (.cells #[.int .i64 0, .int .i64 0, .string ⟨#[]⟩] 23) = q := ⟨_, rfl⟩
        have hsz : u37.heap.size = u37.heap.size := rfl
        rw [hW2] at h8 hS hz
        first | rw [hW2] | (rw [show (W1.alloc (.cells #[.int .i64 0, .int .i64 0, .string ⟨#[]⟩] 23)).drew = u40 from hW2]; try rw [show W1.heap.size = W1.drew.heap.size from rfl])
        obtain ⟨g8, hgg⟩ : ∃ q, u37.heap.size = q := ⟨_, rfl⟩
        rw [hgg] at h8 hg8
        try rw [hgg]
        clear hW2 hgg hsz
        refine ⟨hS, ?_⟩
        try simp only [List.setIfInBounds_toArray, List.set_cons_succ, List.set_cons_zero]
        refine held_call (i := 12) rfl (by kernel_rfl) (by kernel_rfl) ?_
        simp [Oper.wp, execOp, Act.put, go_sem]
        have h7 : Box3 (u40.alloc (.cells #[.int .i64 0, .int .i64 0, .string ⟨#[]⟩] 23)) u40.heap.size zV := Box3.new u40 zV
        have hg7 : w.heap.size + 2 ≤ u40.heap.size := hz
        have hne : g8 < u40.heap.size := h8.lt
        have h8 := h8.alloc (.cells #[.int .i64 0, .int .i64 0, .string ⟨#[]⟩] 23)
        have hS := hS.below ((Below.refl _ _).alloc (Nat.le_refl _) (.cells #[.int .i64 0, .int .i64 0, .string ⟨#[]⟩] 23))
        have hz : w.heap.size + 2 ≤ (u40.alloc (.cells #[.int .i64 0, .int .i64 0, .string ⟨#[]⟩] 23)).heap.size := by simp; omega
        obtain ⟨u41, hW2⟩ : ∃ q, u40.alloc (.cells #[.int .i64 0, .int .i64 0, .string ⟨#[]⟩] 23) = q := ⟨_, rfl⟩
        have hsz : u40.heap.size = u40.heap.size := rfl
        rw [hW2] at h7 hS hz
        rw [hW2] at h8
        first | rw [hW2] | (rw [show (W1.alloc (.cells #[.int .i64 0, .int .i64 0, .string ⟨#[]⟩] 23)).drew = u41 from hW2]; try rw [show W1.heap.size = W1.drew.heap.size from rfl])
        obtain ⟨g7, hgg⟩ : ∃ q, u40.heap.size = q := ⟨_, rfl⟩
        rw [hgg] at h7 hg7 hne
        try rw [hgg]
        clear hW2 hgg hsz
        refine ⟨hS, ?_⟩
        try simp only [List.setIfInBounds_toArray, List.set_cons_succ, List.set_cons_zero]
        refine held_call (i := 14) rfl (by kernel_rfl) (by kernel_rfl) ?_
        have y0 := h7.c0
        have y1 := h7.c1
        have y2 := h7.c2
        have f0 := h7.free 0
        have f1 := h7.free 1
        have f2 := h7.free 2
        simp [Oper.wp, execOp, Act.eval, Act.put, go_sem, y0, y1, y2, f0, f1, f2]
        have h8 := h8.set3 (show g7 ≠ g8 by omega) a
        have hS := hS.set3 (g := g7) (by omega) (by omega) (by omega) a
        have h7 := h7.set a
        obtain ⟨W5, hW5⟩ : ∃ q, ((u41.setCell ⟨g7, 0, none⟩ (.int .i64 a.k)).setCell ⟨g7, 1, none⟩ (.int .i64 a.n)).setCell ⟨g7, 2, none⟩ (.string a.s) = q := ⟨_, rfl⟩
        rw [hW5] at h7 h8 hS
        rw [hW5]
        clear hW5 y0 y1 y2 f0 f1 f2
        refine ⟨hS, ?_⟩
        try simp only [List.setIfInBounds_toArray, List.set_cons_succ, List.set_cons_zero]
        refine held_call (i := 15) rfl (by kernel_rfl) (by kernel_rfl) ?_
        have y0 := h8.c0
        have y1 := h8.c1
        have y2 := h8.c2
        have f0 := h8.free 0
        have f1 := h8.free 1
        have f2 := h8.free 2
        simp [Oper.wp, execOp, Act.eval, Act.put, go_sem, y0, y1, y2, f0, f1, f2]
        have h7 := h7.set3 (show g8 ≠ g7 by omega) z
        have hS := hS.set3 (g := g8) (by omega) (by omega) (by omega) z
        have h8 := h8.set z
        obtain ⟨W6, hW6⟩ : ∃ q, ((W5.setCell ⟨g8, 0, none⟩ (.int .i64 z.k)).setCell ⟨g8, 1, none⟩ (.int .i64 z.n)).setCell ⟨g8, 2, none⟩ (.string z.s) = q := ⟨_, rfl⟩
        rw [hW6] at h7 h8 hS
        rw [hW6]
        clear hW6 y0 y1 y2 f0 f1 f2
        refine ⟨hS, ?_⟩
        try simp only [List.setIfInBounds_toArray, List.set_cons_succ, List.set_cons_zero]
        refine wpAnyH_done (by kernel_rfl) ?_ 0
        have y0 := h7.c0
        have y1 := h7.c1
        have y2 := h7.c2
        have y3 := h8.c0
        have y4 := h8.c1
        have y5 := h8.c2
        have HS6 := Lib.hid hS
        clear hS h7 h8
        have s0 := HS6.out.r.c0
        have s1 := HS6.out.r.c1
        have s2 := HS6.out.r.c2
        have f0 := HS6.out.r.free 0
        have f1 := HS6.out.r.free 1
        have f2 := HS6.out.r.free 2
        go_wp2
        exact bodyPost_ret (ret_row rfl (by rfl) (HS6.out.r.set nulV)) rfl ⟨HX.out.symm, set3_below HS6.out.b (Nat.le_succ _) _ _ _⟩
    · simp [Oper.wp, execOp, Act.put, go_sem]
      have h7 : Box3 (u36.alloc (.cells #[.int .i64 0, .int .i64 0, .string ⟨#[]⟩] 23)) u36.heap.size zV := Box3.new u36 zV
      have hg7 : w.heap.size + 2 ≤ u36.heap.size := hz
      have hS := hS.below ((Below.refl _ _).alloc (Nat.le_refl _) (.cells #[.int .i64 0, .int .i64 0, .string ⟨#[]⟩] 23))
      have hz : w.heap.size + 2 ≤ (u36.alloc (.cells #[.int .i64 0, .int .i64 0, .string ⟨#[]⟩] 23)).heap.size := by simp; omega
      obtain ⟨u42, hW2⟩ : ∃ q, u36.alloc (.cells #[.int .i64 0, .int .i64 0, .string ⟨#[]⟩] 23) = q := ⟨_, rfl⟩
      have hsz : u36.heap.size = u36.heap.size := rfl
      rw [hW2] at h7 hS hz
      first | rw [hW2] | (rw [show (W1.alloc (.cells #[.int .i64 0, .int .i64 0, .string ⟨#[]⟩] 23)).drew = u42 from hW2]; try rw [show W1.heap.size = W1.drew.heap.size from rfl])
      obtain ⟨g7, hgg⟩ : ∃ q, u36.heap.size = q := ⟨_, rfl⟩
      rw [hgg] at h7 hg7
      try rw [hgg]
      clear hW2 hgg hsz
      refine ⟨hS, ?_⟩
      try simp only [List.setIfInBounds_toArray, List.set_cons_succ, List.set_cons_zero]
      refine held_two (i := 11) (j := 13) rfl rfl (by kernel_rfl) (by kernel_rfl) (by kernel_rfl) ?_ ?_
      · simp [Oper.wp, execOp, Act.eval, Act.put, go_sem]
        refine (HC1.out _ hS).mono ?_
        rintro en u43 ⟨rfl, hb⟩
        have hz : w.heap.size + 2 ≤ u43.heap.size := Nat.le_trans hz hb.size
        have h7 := h7.below hb
        have hS := hS.below hb
        clear hb
        refine ⟨hS, ?_⟩
        try simp only [List.setIfInBounds_toArray, List.set_cons_succ, List.set_cons_zero]
        refine held_call (i := 13) rfl (by kernel_rfl) (by kernel_rfl) ?_
        simp [Oper.wp, execOp, Act.put, go_sem]
        have h8 : Box3 (u43.alloc (.cells #[.int .i64 0, .int .i64 0, .string ⟨#[]⟩] 23)) u43.heap.size zV := Box3.new u43 zV
        have hg8 : w.heap.size + 2 ≤ u43.heap.size := hz
        have hne : g7 < u43.heap.size := h7.lt
        have h7 := h7.alloc (.cells #[.int .i64 0, .int .i64 0, .string ⟨#[]⟩] 23)
        have hS := hS.below ((Below.refl _ _).alloc (Nat.le_refl _) (.cells #[.int .i64 0, .int .i64 0, .string ⟨#[]⟩] 23))
        have hz : w.heap.size + 2 ≤ (u43.alloc (.cells #[.int .i64 0, .int .i64 0, .string ⟨#[]⟩] 23)).heap.size := by simp; omega
        obtain ⟨u44, hW2⟩ : ∃ q, u43.alloc (.cells #[.int .i64 0, .int .i64 0, .string ⟨#[]⟩] 23) = q := ⟨_, rfl⟩
        have hsz : u43.heap.size = u43.heap.size := rfl
        rw [hW2] at h8 hS hz
        rw [hW2] at h7
        first | rw [hW2] | (rw [show (W1.alloc (.cells #[.int .i64 0, .int .i64 0, .string ⟨#[]⟩] 23)).drew = u44 from hW2]; try rw [show W1.heap.size = W1.drew.heap.size from rfl])
        obtain ⟨g8, hgg⟩ : ∃ q, u43.heap.size = q := ⟨_, rfl⟩
        rw [hgg] at h8 hg8 hne
        try rw [hgg]
        clear hW2 hgg hsz
        refine ⟨hS, ?_⟩
        try simp only [List.setIfInBounds_toArray, List.set_cons_succ, List.set_cons_zero]
        refine held_call (i := 14) rfl (by kernel_rfl) (by kernel_rfl) ?_
        have y0 := h7.c0
        have y1 := h7.c1
        have y2 := h7.c2
        have f0 := h7.free 0
        have f1 := h7.free 1
        have f2 := h7.free 2
        simp [Oper.wp, execOp, Act.eval, Act.put, go_sem, y0, y1, y2, f0, f1, f2]
        have h8 := h8.set3 (show g7 ≠ g8 by omega) a
        have hS := hS.set3 (g := g7) (by omega) (by omega) (by omega) a
        have h7 := h7.set a
        obtain ⟨W5, hW5⟩ : ∃ q, ((u44.setCell ⟨g7, 0, none⟩ (.int .i64 a.k)).setCell ⟨g7, 1, none⟩ (.int .i64 a.n)).setCell ⟨g7, 2, none⟩ (.string a.s) = q := ⟨_, rfl⟩
        rw [hW5] at h7 h8 hS
        rw [hW5]
        clear hW5 y0 y1 y2 f0 f1 f2
        refine ⟨hS, ?_⟩
        try simp only [List.setIfInBounds_toArray, List.set_cons_succ, List.set_cons_zero]
        refine held_call (i := 15) rfl (by kernel_rfl) (by kernel_rfl) ?_
        have y0 := h8.c0
        have y1 := h8.c1
        have y2 := h8.c2
        have f0 := h8.free 0
        have f1 := h8.free 1
        have f2 := h8.free 2
        simp [Oper.wp, execOp, Act.eval, Act.put, go_sem, y0, y1, y2, f0, f1, f2]
        have h7 := h7.set3 (show g8 ≠ g7 by omega) z
        have hS := hS.set3 (g := g8) (by omega) (by omega) (by omega) z
        have h8 := h8.set z
        obtain ⟨W6, hW6⟩ : ∃ q, ((W5.setCell ⟨g8, 0, none⟩ (.int .i64 z.k)).setCell ⟨g8, 1, none⟩ (.int .i64 z.n)).setCell ⟨g8, 2, none⟩ (.string z.s) = q := ⟨_, rfl⟩
        rw [hW6] at h7 h8 hS
        rw [hW6]
        clear hW6 y0 y1 y2 f0 f1 f2
        refine ⟨hS, ?_⟩
        try simp only [List.setIfInBounds_toArray, List.set_cons_succ, List.set_cons_zero]
        refine wpAnyH_done (by kernel_rfl) ?_ 0
        have y0 := h7.c0
        have y1 := h7.c1
        have y2 := h7.c2
        have y3 := h8.c0
        have y4 := h8.c1
        have y5 := h8.c2
        have HS6 := Lib.hid hS
        clear hS h7 h8
        have s0 := HS6.out.r.c0
        have s1 := HS6.out.r.c1
        have s2 := HS6.out.r.c2
        have f0 := HS6.out.r.free 0
        have f1 := HS6.out.r.free 1
        have f2 := HS6.out.r.free 2
        go_wp2
        exact bodyPost_ret (ret_row rfl (by rfl) (HS6.out.r.set nulV)) rfl ⟨HX.out.symm, set3_below HS6.out.b (Nat.le_succ _) _ _ _⟩
      · simp [Oper.wp, execOp, Act.put, go_sem]
        have h8 : Box3 (u42.alloc (.cells #[.int .i64 0, .int .i64 0, .string ⟨#[]⟩] 23)) u42.heap.size zV := Box3.new u42 zV
        have hg8 : w.heap.size + 2 ≤ u42.heap.size := hz
        have hne : g7 < u42.heap.size := h7.lt
        have h7 := h7.alloc (.cells #[.int .i64 0, .int .i64 0, .string ⟨#[]⟩] 23)
        have hS := hS.below ((Below.refl _ _).alloc (Nat.le_refl _) (.cells #[.int .i64 0, .int .i64 0, .string ⟨#[]⟩] 23))
        have hz : w.heap.size + 2 ≤ (u42.alloc (.cells #[.int .i64 0, .int .i64 0, .string ⟨#[]⟩] 23)).heap.size := by simp; omega
        obtain ⟨u45, hW2⟩ : ∃ q, u42.alloc (.cells #[.int .i64 0, .int .i64 0, .string ⟨#[]⟩] 23) = q := ⟨_, rfl⟩
        have hsz : u42.heap.size = u42.heap.size := rfl
        rw [hW2] at h8 hS hz
        rw [hW2] at h7
        first | rw [hW2] | (rw [show (W1.alloc (.cells #[.int .i64 0, .int .i64 0, .string ⟨#[]⟩] 23)).drew = u45 from hW2]; try rw [show W1.heap.size = W1.drew.heap.size from rfl])
        obtain ⟨g8, hgg⟩ : ∃ q, u42.heap.size = q := ⟨_, rfl⟩
        rw [hgg] at h8 hg8 hne
        try rw [hgg]
        clear hW2 hgg hsz
        refine ⟨hS, ?_⟩
        try simp only [List.setIfInBounds_toArray, List.set_cons_succ, List.set_cons_zero]
        refine held_call (i := 11) rfl (by kernel_rfl) (by kernel_rfl) ?_
        simp [Oper.wp, execOp, Act.eval, Act.put, go_sem]
        refine (HC1.out _ hS).mono ?_
        rintro en u46 ⟨rfl, hb⟩
        have hz : w.heap.size + 2 ≤ u46.heap.size := Nat.le_trans hz hb.size
        have h7 := h7.below hb
        have h8 := h8.below hb
        have hS := hS.below hb
        clear hb
        refine ⟨hS, ?_⟩
        try simp only [List.setIfInBounds_toArray, List.set_cons_succ, List.set_cons_zero]
        refine held_call (i := 14) rfl (by kernel_rfl) (by kernel_rfl) ?_
        have y0 := h7.c0
        have y1 := h7.c1
        have y2 := h7.c2
        have f0 := h7.free 0
        have f1 := h7.free 1
        have f2 := h7.free 2
        simp [Oper.wp, execOp, Act.eval, Act.put, go_sem, y0, y1, y2, f0, f1, f2]
        have h8 := h8.set3 (show g7 ≠ g8 by omega) a
        have hS := hS.set3 (g := g7) (by omega) (by omega) (by omega) a
        have h7 := h7.set a
        obtain ⟨W5, hW5⟩ : ∃ q, ((u46.setCell ⟨g7, 0, none⟩ (.int .i64 a.k)).setCell ⟨g7, 1, none⟩ (.int .i64 a.n)).setCell ⟨g7, 2, none⟩ (.string a.s) = q := ⟨_, rfl⟩
        rw [hW5] at h7 h8 hS
        rw [hW5]
        clear hW5 y0 y1 y2 f0 f1 f2
        refine ⟨hS, ?_⟩
        try simp only [List.setIfInBounds_toArray, List.set_cons_succ, List.set_cons_zero]
        refine held_call (i := 15) rfl (by kernel_rfl) (by kernel_rfl) ?_
        have y0 := h8.c0
        have y1 := h8.c1
        have y2 := h8.c2
        have f0 := h8.free 0
        have f1 := h8.free 1
        have f2 := h8.free 2
        simp [Oper.wp, execOp, Act.eval, Act.put, go_sem, y0, y1, y2, f0, f1, f2]
        have h7 := h7.set3 (show g8 ≠ g7 by omega) z
        have hS := hS.set3 (g := g8) (by omega) (by omega) (by omega) z
        have h8 := h8.set z
        obtain ⟨W6, hW6⟩ : ∃ q, ((W5.setCell ⟨g8, 0, none⟩ (.int .i64 z.k)).setCell ⟨g8, 1, none⟩ (.int .i64 z.n)).setCell ⟨g8, 2, none⟩ (.string z.s) = q := ⟨_, rfl⟩
        rw [hW6] at h7 h8 hS
        rw [hW6]
        clear hW6 y0 y1 y2 f0 f1 f2
        refine ⟨hS, ?_⟩
        try simp only [List.setIfInBounds_toArray, List.set_cons_succ, List.set_cons_zero]
        refine wpAnyH_done (by kernel_rfl) ?_ 0
        have y0 := h7.c0
        have y1 := h7.c1
        have y2 := h7.c2
        have y3 := h8.c0
        have y4 := h8.c1
        have y5 := h8.c2
        have HS6 := Lib.hid hS
        clear hS h7 h8
        have s0 := HS6.out.r.c0
        have s1 := HS6.out.r.c1
        have s2 := HS6.out.r.c2
        have f0 := HS6.out.r.free 0
        have f1 := HS6.out.r.free 1
        have f2 := HS6.out.r.free 2
        go_wp2
        exact bodyPost_ret (ret_row rfl (by rfl) (HS6.out.r.set nulV)) rfl ⟨HX.out.symm, set3_below HS6.out.b (Nat.le_succ _) _ _ _⟩
    · simp [Oper.wp, execOp, Act.put, go_sem]
      have h8 : Box3 (u36.alloc (.cells #[.int .i64 0, .int .i64 0, .string ⟨#[]⟩] 23)) u36.heap.size zV := Box3.new u36 zV
      have hg8 : w.heap.size + 2 ≤ u36.heap.size := hz
      have hS := hS.below ((Below.refl _ _).alloc (Nat.le_refl _) (.cells #[.int .i64 0, .int .i64 0, .string ⟨#[]⟩] 23))
      have hz : w.heap.size + 2 ≤ (u36.alloc (.cells #[.int .i64 0, .int .i64 0, .string ⟨#[]⟩] 23)).heap.size := by simp; omega
      obtain ⟨u47, hW2⟩ : ∃ q, u36.alloc (.cells #[.int .i64 0, .int .i64 0, .string ⟨#[]⟩] 23) = q := ⟨_, rfl⟩
      have hsz : u36.heap.size = u36.heap.size := rfl
      rw [hW2] at h8 hS hz
      first | rw [hW2] | (rw [show (W1.alloc (.cells #[.int .i64 0, .int .i64 0, .string ⟨#[]⟩] 23)).drew = u47 from hW2]; try rw [show W1.heap.size = W1.drew.heap.size from rfl])
      obtain ⟨g8, hgg⟩ : ∃ q, u36.heap.size = q := ⟨_, rfl⟩
      rw [hgg] at h8 hg8
      try rw [hgg]
      clear hW2 hgg hsz
      refine ⟨hS, ?_⟩
      try simp only [List.setIfInBounds_toArray, List.set_cons_succ, List.set_cons_zero]
      refine held_two (i := 11) (j := 12) rfl rfl (by kernel_rfl) (by kernel_rfl) (by kernel_rfl) ?_ ?_
      · simp [Oper.wp, execOp, Act.eval, Act.put, go_sem]
        refine (HC1.out _ hS).mono ?_
        rintro en u48 ⟨rfl, hb⟩
        have hz : w.heap.size + 2 ≤ u48.heap.size := Nat.le_trans hz hb.size
        have h8 := h8.below hb
        have hS := hS.below hb
        clear hb
        refine ⟨hS, ?_⟩
        try simp only [List.setIfInBounds_toArray, List.set_cons_succ, List.set_cons_zero]
        refine held_call (i := 12) rfl (by kernel_rfl) (by kernel_rfl) ?_
        simp [Oper.wp, execOp, Act.put, go_sem]
        have h7 : Box3 (u48.alloc (.cells #[.int .i64 0, .int .i64 0, .string ⟨#[]⟩] 23)) u48.heap.size zV := Box3.new u48 zV
        have hg7 : w.heap.size + 2 ≤ u48.heap.size := hz
        have hne : g8 < u48.heap.size := h8.lt
        have h8 := h8.alloc (.cells #[.int .i64 0, .int .i64 0, .string ⟨#[]⟩] 23)
        have hS := hS.below ((Below.refl _ _).alloc (Nat.le_refl _) (.cells #[.int .i64 0, .int .i64 0, .string ⟨#[]⟩] 23))
        have hz : w.heap.size + 2 ≤ (u48.alloc (.cells #[.int .i64 0, .int .i64 0, .string ⟨#[]⟩] 23)).heap.size := by simp; omega
        obtain ⟨u49, hW2⟩ : ∃ q, u48.alloc (.cells #[.int .i64 0, .int .i64 0, .string ⟨#[]⟩] 23) = q := ⟨_, rfl⟩
        have hsz : u48.heap.size = u48.heap.size := rfl
        rw [hW2] at h7 hS hz
        rw [hW2] at h8
        first | rw [hW2] | (rw [show (W1.alloc (.cells #[.int .i64 0, .int .i64 0, .string ⟨#[]⟩] 23)).drew = u49 from hW2]; try rw [show W1.heap.size = W1.drew.heap.size from rfl])
        obtain ⟨g7, hgg⟩ : ∃ q, u48.heap.size = q := ⟨_, rfl⟩
        rw [hgg] at h7 hg7 hne
        try rw [hgg]
        clear hW2 hgg hsz
        refine ⟨hS, ?_⟩
        try simp only [List.setIfInBounds_toArray, List.set_cons_succ, List.set_cons_zero]
        refine held_call (i := 14) rfl (by kernel_rfl) (by kernel_rfl) ?_
        have y0 := h7.c0
        have y1 := h7.c1
        have y2 := h7.c2
        have f0 := h7.free 0
        have f1 := h7.free 1
        have f2 := h7.free 2
        simp [Oper.wp, execOp, Act.eval, Act.put, go_sem, y0, y1, y2, f0, f1, f2]
        have h8 := h8.set3 (show g7 ≠ g8 by omega) a
        have hS := hS.set3 (g := g7) (by omega) (by omega) (by omega) a
        have h7 := h7.set a
        obtain ⟨W5, hW5⟩ : ∃ q, ((u49.setCell ⟨g7, 0, none⟩ (.int .i64 a.k)).setCell ⟨g7, 1, none⟩ (.int .i64 a.n)).setCell ⟨g7, 2, none⟩ (.string a.s) = q := ⟨_, rfl⟩
        rw [hW5] at h7 h8 hS
        rw [hW5]
        clear hW5 y0 y1 y2 f0 f1 f2
        refine ⟨hS, ?_⟩
        try simp only [List.setIfInBounds_toArray, List.set_cons_succ, List.set_cons_zero]
        refine held_call (i := 15) rfl (by kernel_rfl) (by kernel_rfl) ?_
        have y0 := h8.c0
        have y1 := h8.c1
        have y2 := h8.c2
        have f0 := h8.free 0
        have f1 := h8.free 1
        have f2 := h8.free 2
        simp [Oper.wp, execOp, Act.eval, Act.put, go_sem, y0, y1, y2, f0, f1, f2]
        have h7 := h7.set3 (show g8 ≠ g7 by omega) z
        have hS := hS.set3 (g := g8) (by omega) (by omega) (by omega) z
        have h8 := h8.set z
        obtain ⟨W6, hW6⟩ : ∃ q, ((W5.setCell ⟨g8, 0, none⟩ (.int .i64 z.k)).setCell ⟨g8, 1, none⟩ (.int .i64 z.n)).setCell ⟨g8, 2, none⟩ (.string z.s) = q := ⟨_, rfl⟩
        rw [hW6] at h7 h8 hS
        rw [hW6]
        clear hW6 y0 y1 y2 f0 f1 f2
        refine ⟨hS, ?_⟩
        try simp only [List.setIfInBounds_toArray, List.set_cons_succ, List.set_cons_zero]
        refine wpAnyH_done (by kernel_rfl) ?_ 0
        have y0 := h7.c0
        have y1 := h7.c1
        have y2 := h7.c2
        have y3 := h8.c0
        have y4 := h8.c1
        have y5 := h8.c2
        have HS6 := Lib.hid hS
        clear hS h7 h8
        have s0 := HS6.out.r.c0
        have s1 := HS6.out.r.c1
        have s2 := HS6.out.r.c2
        have f0 := HS6.out.r.free 0
        have f1 := HS6.out.r.free 1
        have f2 := HS6.out.r.free 2
        go_wp2
        exact bodyPost_ret (ret_row rfl (by rfl) (HS6.out.r.set nulV)) rfl ⟨HX.out.symm, set3_below HS6.out.b (Nat.le_succ _) _ _ _⟩
      · simp [Oper.wp, execOp, Act.put, go_sem]
        have h7 : Box3 (u47.alloc (.cells #[.int .i64 0, .int .i64 0, .string ⟨#[]⟩] 23)) u47.heap.size zV := Box3.new u47 zV
        have hg7 : w.heap.size + 2 ≤ u47.heap.size := hz
        have hne : g8 < u47.heap.size := h8.lt
        have h8 := h8.alloc (.cells #[.int .i64 0, .int .i64 0, .string ⟨#[]⟩] 23)
        have hS := hS.below ((Below.refl _ _).alloc (Nat.le_refl _) (.cells #[.int .i64 0, .int .i64 0, .string ⟨#[]⟩] 23))
        have hz : w.heap.size + 2 ≤ (u47.alloc (.cells #[.int .i64 0, .int .i64 0, .string ⟨#[]⟩] 23)).heap.size := by simp; omega
        obtain ⟨u50, hW2⟩ : ∃ q, u47.alloc (.cells #[.int .i64 0, .int .i64 0, .string ⟨#[]⟩] 23) = q := ⟨_, rfl⟩
        have hsz : u47.heap.size = u47.heap.size := rfl
        rw [hW2] at h7 hS hz
        rw [hW2] at h8
        first | rw [hW2] | (rw [show (W1.alloc (.cells #[.int .i64 0, .int .i64 0, .string ⟨#[]⟩] 23)).drew = u50 from hW2]; try rw [show W1.heap.size = W1.drew.heap.size from rfl])
        obtain ⟨g7, hgg⟩ : ∃ q, u47.heap.size = q := ⟨_, rfl⟩
        rw [hgg] at h7 hg7 hne
        try rw [hgg]
        clear hW2 hgg hsz
        refine ⟨hS, ?_⟩
        try simp only [List.setIfInBounds_toArray, List.set_cons_succ, List.set_cons_zero]
        refine held_call (i := 11) rfl (by kernel_rfl) (by kernel_rfl) ?_
        simp [Oper.wp, execOp, Act.eval, Act.put, go_sem]
        refine (HC1.out _ hS).mono ?_
        rintro en u51 ⟨rfl, hb⟩
        have hz : w.heap.size + 2 ≤ u51.heap.size := Nat.le_trans hz hb.size
        have h7 := h7.below hb
        have h8 := h8.below hb
        have hS := hS.below hb
        clear hb
        refine ⟨hS, ?_⟩
        try simp only [List.setIfInBounds_toArray, List.set_cons_succ, List.set_cons_zero]
        refine held_call (i := 14) rfl (by kernel_rfl) (by kernel_rfl) ?_
        have y0 := h7.c0
        have y1 := h7.c1
        have y2 := h7.c2
        have f0 := h7.free 0
        have f1 := h7.free 1
        have f2 := h7.free 2
        simp [Oper.wp, execOp, Act.eval, Act.put, go_sem, y0, y1, y2, f0, f1, f2]
        have h8 := h8.set3 (show g7 ≠ g8 by omega) a
        have hS := hS.set3 (g := g7) (by omega) (by omega) (by omega) a
        have h7 := h7.set a
        obtain ⟨W5, hW5⟩ : ∃ q, ((u51.setCell ⟨g7, 0, none⟩ (.int .i64 a.k)).setCell ⟨g7, 1, none⟩ (.int .i64 a.n)).setCell ⟨g7, 2, none⟩ (.string a.s) = q := ⟨_, rfl⟩
        rw [hW5] at h7 h8 hS
        rw [hW5]
        clear hW5 y0 y1 y2 f0 f1 f2
        refine ⟨hS, ?_⟩
        try simp only [List.setIfInBounds_toArray, List.set_cons_succ, List.set_cons_zero]
        refine held_call (i := 15) rfl (by kernel_rfl) (by kernel_rfl) ?_
        have y0 := h8.c0
        have y1 := h8.c1
        have y2 := h8.c2
        have f0 := h8.free 0
        have f1 := h8.free 1
        have f2 := h8.free 2
        simp [Oper.wp, execOp, Act.eval, Act.put, go_sem, y0, y1, y2, f0, f1, f2]
        have h7 := h7.set3 (show g8 ≠ g7 by omega) z
        have hS := hS.set3 (g := g8) (by omega) (by omega) (by omega) z
        have h8 := h8.set z
        obtain ⟨W6, hW6⟩ : ∃ q, ((W5.setCell ⟨g8, 0, none⟩ (.int .i64 z.k)).setCell ⟨g8, 1, none⟩ (.int .i64 z.n)).setCell ⟨g8, 2, none⟩ (.string z.s) = q := ⟨_, rfl⟩
        rw [hW6] at h7 h8 hS
        rw [hW6]
        clear hW6 y0 y1 y2 f0 f1 f2
        refine ⟨hS, ?_⟩
        try simp only [List.setIfInBounds_toArray, List.set_cons_succ, List.set_cons_zero]
        refine wpAnyH_done (by kernel_rfl) ?_ 0
        have y0 := h7.c0
        have y1 := h7.c1
        have y2 := h7.c2
        have y3 := h8.c0
        have y4 := h8.c1
        have y5 := h8.c2
        have HS6 := Lib.hid hS
        clear hS h7 h8
        have s0 := HS6.out.r.c0
        have s1 := HS6.out.r.c1
        have s2 := HS6.out.r.c2
        have f0 := HS6.out.r.free 0
        have f1 := HS6.out.r.free 1
        have f2 := HS6.out.r.free 2
        go_wp2
        exact bodyPost_ret (ret_row rfl (by rfl) (HS6.out.r.set nulV)) rfl ⟨HX.out.symm, set3_below HS6.out.b (Nat.le_succ _) _ _ _⟩
  · simp [Oper.wp, execOp, Act.put, go_sem]
    have h7 : Box3 (W1.drew.alloc (.cells #[.int .i64 0, .int .i64 0, .string ⟨#[]⟩] 23)) W1.drew.heap.size zV := Box3.new W1.drew zV
    have hg7 : w.heap.size + 2 ≤ W1.drew.heap.size := hz
    have hS := hS.below ((Below.refl _ _).alloc (Nat.le_refl _) (.cells #[.int .i64 0, .int .i64 0, .string ⟨#[]⟩] 23))
    have hz : w.heap.size + 2 ≤ (W1.drew.alloc (.cells #[.int .i64 0, .int .i64 0, .string ⟨#[]⟩] 23)).heap.size := by simp; omega
    obtain ⟨u52, hW2⟩ : ∃ q, W1.drew.alloc (.cells #[.int .i64 0, .int .i64 0, .string ⟨#[]⟩] 23) = q := ⟨_, rfl⟩
    have hsz : W1.drew.heap.size = W1.drew.heap.size := rfl
    rw [hW2] at h7 hS hz
    first | rw [hW2] | (rw [show (W1.alloc (.cells #[.int .i64 0, .int .i64 0, .string ⟨#[]⟩] 23)).drew = u52 from hW2]; try rw [show W1.heap.size = W1.drew.heap.size from rfl])
    obtain ⟨g7, hgg⟩ : ∃ q, W1.drew.heap.size = q := ⟨_, rfl⟩
    rw [hgg] at h7 hg7
    try rw [hgg]
    clear hW2 hgg hsz
    refine ⟨hS, ?_⟩
    try simp only [List.setIfInBounds_toArray, List.set_cons_succ, List.set_cons_zero]
    refine held_two (i := 5) (j := 13) rfl rfl (by kernel_rfl) (by kernel_rfl) (by kernel_rfl) ?_ ?_
    · simp [Oper.wp, execOp, Act.eval, Act.put, go_sem]
      refine (HC0.out _ hS).mono ?_
      rintro en u53 ⟨rfl, hb⟩
      have hz : w.heap.size + 2 ≤ u53.heap.size := Nat.le_trans hz hb.size
      have h7 := h7.below hb
      have hS := hS.below hb
      clear hb
      refine ⟨hS, ?_⟩
      try simp only [List.setIfInBounds_toArray, List.set_cons_succ, List.set_cons_zero]
      refine held_two (i := 11) (j := 13) rfl rfl (by kernel_rfl) (by kernel_rfl) (by kernel_rfl) ?_ ?_
      · simp [Oper.wp, execOp, Act.eval, Act.put, go_sem]
        refine (HC1.out _ hS).mono ?_
        rintro en u54 ⟨rfl, hb⟩
        have hz : w.heap.size + 2 ≤ u54.heap.size := Nat.le_trans hz hb.size
        have h7 := h7.below hb
        have hS := hS.below hb
        clear hb
        refine ⟨hS, ?_⟩
        try simp only [List.setIfInBounds_toArray, List.set_cons_succ, List.set_cons_zero]
        refine held_call (i := 13) rfl (by kernel_rfl) (by kernel_rfl) ?_
        simp [Oper.wp, execOp, Act.put, go_sem]
        have h8 : Box3 (u54.alloc (.cells #[.int .i64 0, .int .i64 0, .string ⟨#[]⟩] 23)) u54.heap.size zV := Box3.new u54 zV
        have hg8 : w.heap.size + 2 ≤ u54.heap.size := hz
        have hne : g7 < u54.heap.size := h7.lt
        have h7 := h7.alloc (.cells #[.int .i64 0, .int .i64 0, .string ⟨#[]⟩] 23)
        have hS := hS.below ((Below.refl _ _).alloc (Nat.le_refl _) (.cells #[.int .i64 0, .int .i64 0, .string ⟨#[]⟩] 23))
        have hz : w.heap.size + 2 ≤ (u54.alloc (.cells #[.int .i64 0, .int .i64 0, .string ⟨#[]⟩] 23)).heap.size := by simp; omega
        obtain ⟨u55, hW2⟩ : ∃ q, u54.alloc (.cells #[.int .i64 0, .int .i64 0, .string ⟨#[]⟩] 23) = q := ⟨_, rfl⟩
        have hsz : u54.heap.size = u54.heap.size := rfl
        rw [hW2] at h8 hS hz
        rw [hW2] at h7
        first | rw [hW2] | (rw [show (W1.alloc (.cells #[.int .i64 0, .int .i64 0, .string ⟨#[]⟩] 23)).drew = u55 from hW2]; try rw [show W1.heap.size = W1.drew.heap.size from rfl])
        obtain ⟨g8, hgg⟩ : ∃ q, u54.heap.size = q := ⟨_, rfl⟩
        rw [hgg] at h8 hg8 hne
        try rw [hgg]
        clear hW2 hgg hsz
        refine ⟨hS, ?_⟩
        try simp only [List.setIfInBounds_toArray, List.set_cons_succ, List.set_cons_zero]
        refine held_call (i := 14) rfl (by kernel_rfl) (by kernel_rfl) ?_
        have y0 := h7.c0
        have y1 := h7.c1
        have y2 := h7.c2
        have f0 := h7.free 0
        have f1 := h7.free 1
        have f2 := h7.free 2
        simp [Oper.wp, execOp, Act.eval, Act.put, go_sem, y0, y1, y2, f0, f1, f2]
        have h8 := h8.set3 (show g7 ≠ g8 by omega) a
        have hS := hS.set3 (g := g7) (by omega) (by omega) (by omega) a
        have h7 := h7.set a
        obtain ⟨W5, hW5⟩ : ∃ q, ((u55.setCell ⟨g7, 0, none⟩ (.int .i64 a.k)).setCell ⟨g7, 1, none⟩ (.int .i64 a.n)).setCell ⟨g7, 2, none⟩ (.string a.s) = q := ⟨_, rfl⟩
        rw [hW5] at h7 h8 hS
        rw [hW5]
        clear hW5 y0 y1 y2 f0 f1 f2
        refine ⟨hS, ?_⟩
        try simp only [List.setIfInBounds_toArray, List.set_cons_succ, List.set_cons_zero]
        refine held_call (i := 15) rfl (by kernel_rfl) (by kernel_rfl) ?_
        have y0 := h8.c0
        have y1 := h8.c1
        have y2 := h8.c2
        have f0 := h8.free 0
        have f1 := h8.free 1
        have f2 := h8.free 2
        simp [Oper.wp, execOp, Act.eval, Act.put, go_sem, y0, y1, y2, f0, f1, f2]
        have h7 := h7.set3 (show g8 ≠ g7 by omega) z
        have hS := hS.set3 (g := g8) (by omega) (by omega) (by omega) z
        have h8 := h8.set z
        obtain ⟨W6, hW6⟩ : ∃ q, ((W5.setCell ⟨g8, 0, none⟩ (.int .i64 z.k)).setCell ⟨g8, 1, none⟩ (.int .i64 z.n)).setCell ⟨g8, 2, none⟩ (.string z.s) = q := ⟨_, rfl⟩
        rw [hW6] at h7 h8 hS
        rw [hW6]
        clear hW6 y0 y1 y2 f0 f1 f2
        refine ⟨hS, ?_⟩
        try simp only [List.setIfInBounds_toArray, List.set_cons_succ, List.set_cons_zero]
        refine wpAnyH_done (by kernel_rfl) ?_ 0
        have y0 := h7.c0
        have y1 := h7.c1
        have y2 := h7.c2
        have y3 := h8.c0
        have y4 := h8.c1
        have y5 := h8.c2
        have HS6 := Lib.hid hS
        clear hS h7 h8
        have s0 := HS6.out.r.c0
        have s1 := HS6.out.r.c1
        have s2 := HS6.out.r.c2
        have f0 := HS6.out.r.free 0
        have f1 := HS6.out.r.free 1
        have f2 := HS6.out.r.free 2
        go_wp2
        exact bodyPost_ret (ret_row rfl (by rfl) (HS6.out.r.set nulV)) rfl ⟨HX.out.symm, set3_below HS6.out.b (Nat.le_succ _) _ _ _⟩
      · simp [Oper.wp, execOp, Act.put, go_sem]
        have h8 : Box3 (u53.alloc (.cells #[.int .i64 0, .int .i64 0, .string ⟨#[]⟩] 23)) u53.heap.size zV := Box3.new u53 zV
        have hg8 : w.heap.size + 2 ≤ u53.heap.size := hz
        have hne : g7 < u53.heap.size := h7.lt
        have h7 := h7.alloc (.cells #[.int .i64 0, .int .i64 0, .string ⟨#[]⟩] 23)
        have hS := hS.below ((Below.refl _ _).alloc (Nat.le_refl _) (.cells #[.int .i64 0, .int .i64 0, .string ⟨#[]⟩] 23))
        have hz : w.heap.size + 2 ≤ (u53.alloc (.cells #[.int .i64 0, .int .i64 0, .string ⟨#[]⟩] 23)).heap.size := by simp; omega
        obtain ⟨u56, hW2⟩ : ∃ q, u53.alloc (.cells #[.int .i64 0, .int .i64 0, .string ⟨#[]⟩] 23) = q := ⟨_, rfl⟩
        have hsz : u53.heap.size = u53.heap.size := rfl
        rw [hW2] at h8 hS hz
        rw [hW2] at h7
        first | rw [hW2] | (rw [show (W1.alloc (.cells #[.int .i64 0, .int .i64 0, .string ⟨#[]⟩] 23)).drew = u56 from hW2]; try rw [show W1.heap.size = W1.drew.heap.size from rfl])
        obtain ⟨g8, hgg⟩ : ∃ q, u53.heap.size = q := ⟨_, rfl⟩
        rw [hgg] at h8 hg8 hne
        try rw [hgg]
        clear hW2 hgg hsz
        refine ⟨hS, ?_⟩
        try simp only [List.setIfInBounds_toArray, List.set_cons_succ, List.set_cons_zero]
        refine held_call (i := 11) rfl (by kernel_rfl) (by kernel_rfl) ?_
        simp [Oper.wp, execOp, Act.eval, Act.put, go_sem]
        refine (HC1.out _ hS).mono ?_
        rintro en u57 ⟨rfl, hb⟩
        have hz : w.heap.size + 2 ≤ u57.heap.size := Nat.le_trans hz hb.size
        have h7 := h7.below hb
        have h8 := h8.below hb
        have hS := hS.below hb
        clear hb
        refine ⟨hS, ?_⟩
        try simp only [List.setIfInBounds_toArray, List.set_cons_succ, List.set_cons_zero]
        refine held_call (i := 14) rfl (by kernel_rfl) (by kernel_rfl) ?_
        have y0 := h7.c0
        have y1 := h7.c1
        have y2 := h7.c2
        have f0 := h7.free 0
        have f1 := h7.free 1
        have f2 := h7.free 2
        simp [Oper.wp, execOp, Act.eval, Act.put, go_sem, y0, y1, y2, f0, f1, f2]
        have h8 := h8.set3 (show g7 ≠ g8 by omega) a
        have hS := hS.set3 (g := g7) (by omega) (by omega) (by omega) a
        have h7 := h7.set a
        obtain ⟨W5, hW5⟩ : ∃ q, ((u57.setCell ⟨g7, 0, none⟩ (.int .i64 a.k)).setCell ⟨g7, 1, none⟩ (.int .i64 a.n)).setCell ⟨g7, 2, none⟩ (.string a.s) = q := ⟨_, rfl⟩
        rw [hW5] at h7 h8 hS
        rw [hW5]
        clear hW5 y0 y1 y2 f0 f1 f2
        refine ⟨hS, ?_⟩
        try simp only [List.setIfInBounds_toArray, List.set_cons_succ, List.set_cons_zero]
        refine held_call (i := 15) rfl (by kernel_rfl) (by kernel_rfl) ?_
        have y0 := h8.c0
        have y1 := h8.c1
        have y2 := h8.c2
        have f0 := h8.free 0
        have f1 := h8.free 1
        have f2 := h8.free 2
        simp [Oper.wp, execOp, Act.eval, Act.put, go_sem, y0, y1, y2, f0, f1, f2]
        have h7 := h7.set3 (show g8 ≠ g7 by omega) z
        have hS := hS.set3 (g := g8) (by omega) (by omega) (by omega) z
        have h8 := h8.set z
        obtain ⟨W6, hW6⟩ : ∃ q, ((W5.setCell ⟨g8, 0, none⟩ (.int .i64 z.k)).setCell ⟨g8, 1, none⟩ (.int .i64 z.n)).setCell ⟨g8, 2, none⟩ (.string z.s) = q := ⟨_, rfl⟩
        rw [hW6] at h7 h8 hS
        rw [hW6]
        clear hW6 y0 y1 y2 f0 f1 f2
        refine ⟨hS, ?_⟩
        try simp only [List.setIfInBounds_toArray, List.set_cons_succ, List.set_cons_zero]
        refine wpAnyH_done (by kernel_rfl) ?_ 0
        have y0 := h7.c0
        have y1 := h7.c1
        have y2 := h7.c2
        have y3 := h8.c0
        have y4 := h8.c1
        have y5 := h8.c2
        have HS6 := Lib.hid hS
        clear hS h7 h8
        have s0 := HS6.out.r.c0
        have s1 := HS6.out.r.c1
        have s2 := HS6.out.r.c2
        have f0 := HS6.out.r.free 0
        have f1 := HS6.out.r.free 1
        have f2 := HS6.out.r.free 2
        go_wp2
        exact bodyPost_ret (ret_row rfl (by rfl) (HS6.out.r.set nulV)) rfl ⟨HX.out.symm, set3_below HS6.out.b (Nat.le_succ _) _ _ _⟩
    · simp [Oper.wp, execOp, Act.put, go_sem]
      have h8 : Box3 (u52.alloc (.cells #[.int .i64 0, .int .i64 0, .string ⟨#[]⟩] 23)) u52.heap.size zV := Box3.new u52 zV
      have hg8 : w.heap.size + 2 ≤ u52.heap.size := hz
      have hne : g7 < u52.heap.size := h7.lt
      have h7 := h7.alloc (.cells #[.int .i64 0, .int .i64 0, .string ⟨#[]⟩] 23)
      have hS := hS.below ((Below.refl _ _).alloc (Nat.le_refl _) (.cells #[.int .i64 0, .int .i64 0, .string ⟨#[]⟩] 23))
      have hz : w.heap.size + 2 ≤ (u52.alloc (.cells #[.int .i64 0, .int .i64 0, .string ⟨#[]⟩] 23)).heap.size := by simp; omega
      obtain ⟨u58, hW2⟩ : ∃ q, u52.alloc (.cells #[.int .i64 0, .int .i64 0, .string ⟨#[]⟩] 23) = q := ⟨_, rfl⟩
      have hsz : u52.heap.size = u52.heap.size := rfl
      rw [hW2] at h8 hS hz
      rw [hW2] at h7
      first | rw [hW2] | (rw [show (W1.alloc (.cells #[.int .i64 0, .int .i64 0, .string ⟨#[]⟩] 23)).drew = u58 from hW2]; try rw [show W1.heap.size = W1.drew.heap.size from rfl])
      obtain ⟨g8, hgg⟩ : ∃ q, u52.heap.size = q := ⟨_, rfl⟩
      rw [hgg] at h8 hg8 hne
      try rw [hgg]
      clear hW2 hgg hsz
      refine ⟨hS, ?_⟩
      try simp only [List.setIfInBounds_toArray, List.set_cons_succ, List.set_cons_zero]
      refine held_call (i := 5) rfl (by kernel_rfl) (by kernel_rfl) ?_
      simp [Oper.wp, execOp, Act.eval, Act.put, go_sem]
      refine (HC0.out _ hS).mono ?_
      rintro en u59 ⟨rfl, hb⟩
      have hz : w.heap.size + 2 ≤ u59.heap.size := Nat.le_trans hz hb.size
      have h7 := h7.below hb
      have h8 := h8.below hb
      have hS := hS.below hb
      clear hb
      refine ⟨hS, ?_⟩
      try simp only [List.setIfInBounds_toArray, List.set_cons_succ, List.set_cons_zero]
      refine held_call (i := 11) rfl (by kernel_rfl) (by kernel_rfl) ?_
      simp [Oper.wp, execOp, Act.eval, Act.put, go_sem]
      refine (HC1.out _ hS).mono ?_
      rintro en u60 ⟨rfl, hb⟩
      have hz : w.heap.size + 2 ≤ u60.heap.size := Nat.le_trans hz hb.size
      have h7 := h7.below hb
      have h8 := h8.below hb
      have hS := hS.below hb
      clear hb
      refine ⟨hS, ?_⟩
      try simp only [List.setIfInBounds_toArray, List.set_cons_succ, List.set_cons_zero]
      refine held_call (i := 14) rfl (by kernel_rfl) (by kernel_rfl) ?_
      have y0 := h7.c0
      have y1 := h7.c1
      have y2 := h7.c2
      have f0 := h7.free 0
      have f1 := h7.free 1
      have f2 := h7.free 2
      simp [Oper.wp, execOp, Act.eval, Act.put, go_sem, y0, y1, y2, f0, f1, f2]
      have h8 := h8.set3 (show g7 ≠ g8 by omega) a
      have hS := hS.set3 (g := g7) (by omega) (by omega) (by omega) a
      have h7 := h7.set a
      obtain ⟨W5, hW5⟩ : ∃ q, ((u60.setCell ⟨g7, 0, none⟩ (.int .i64 a.k)).setCell ⟨g7, 1, none⟩ (.int .i64 a.n)).setCell ⟨g7, 2, none⟩ (.string a.s) = q := ⟨_, rfl⟩
      rw [hW5] at h7 h8 hS
      rw [hW5]
      clear hW5 y0 y1 y2 f0 f1 f2
      refine ⟨hS, ?_⟩
      try simp only [List.setIfInBounds_toArray, List.set_cons_succ, List.set_cons_zero]
      refine held_call (i := 15) rfl (by kernel_rfl) (by kernel_rfl) ?_
      have y0 := h8.c0
      have y1 := h8.c1
      have y2 := h8.c2
      have f0 := h8.free 0
      have f1 := h8.free 1
      have f2 := h8.free 2
      simp [Oper.wp, execOp, Act.eval, Act.put, go_sem, y0, y1, y2, f0, f1, f2]
      have h7 := h7.set3 (show g8 ≠ g7 by omega) z
      have hS := hS.set3 (g := g8) (by omega) (by omega) (by omega) z
      have h8 := h8.set z
      obtain ⟨W6, hW6⟩ : ∃ q, ((W5.setCell ⟨g8, 0, none⟩ (.int .i64 z.k)).setCell ⟨g8, 1, none⟩ (.int .i64 z.n)).setCell ⟨g8, 2, none⟩ (.string z.s) = q := ⟨_, rfl⟩
      rw [hW6] at h7 h8 hS
      rw [hW6]
      clear hW6 y0 y1 y2 f0 f1 f2
      refine ⟨hS, ?_⟩
      try simp only [List.setIfInBounds_toArray, List.set_cons_succ, List.set_cons_zero]
      refine wpAnyH_done (by kernel_rfl) ?_ 0
      have y0 := h7.c0
      have y1 := h7.c1
      have y2 := h7.c2
      have y3 := h8.c0
      have y4 := h8.c1
      have y5 := h8.c2
      have HS6 := Lib.hid hS
      clear hS h7 h8
      have s0 := HS6.out.r.c0
      have s1 := HS6.out.r.c1
      have s2 := HS6.out.r.c2
      have f0 := HS6.out.r.free 0
      have f1 := HS6.out.r.free 1
      have f2 := HS6.out.r.free 2
      go_wp2
      exact bodyPost_ret (ret_row rfl (by rfl) (HS6.out.r.set nulV)) rfl ⟨HX.out.symm, set3_below HS6.out.b (Nat.le_succ _) _ _ _⟩
  · simp [Oper.wp, execOp, Act.put, go_sem]
    have h8 : Box3 (W1.drew.alloc (.cells #[.int .i64 0, .int .i64 0, .string ⟨#[]⟩] 23)) W1.drew.heap.size zV := Box3.new W1.drew zV
    have hg8 : w.heap.size + 2 ≤ W1.drew.heap.size := hz
    have hS := hS.below ((Below.refl _ _).alloc (Nat.le_refl _) (.cells #[.int .i64 0, .int .i64 0, .string ⟨#[]⟩] 23))
    have hz : w.heap.size + 2 ≤ (W1.drew.alloc (.cells #[.int .i64 0, .int .i64 0, .string ⟨#[]⟩] 23)).heap.size := by simp; omega
    obtain ⟨u61, hW2⟩ : ∃ q, W1.drew.alloc (.cells #[.int .i64 0, .int .i64 0, .string ⟨#[]⟩] 23) = q := ⟨_, rfl⟩
    have hsz : W1.drew.heap.size = W1.drew.heap.size := rfl
    rw [hW2] at h8 hS hz
    first | rw [hW2] | (rw [show (W1.alloc (.cells #[.int .i64 0, .int .i64 0, .string ⟨#[]⟩] 23)).drew = u61 from hW2]; try rw [show W1.heap.size = W1.drew.heap.size from rfl])
    obtain ⟨g8, hgg⟩ : ∃ q, W1.drew.heap.size = q := ⟨_, rfl⟩
    rw [hgg] at h8 hg8
    try rw [hgg]
    clear hW2 hgg hsz
    refine ⟨hS, ?_⟩
    try simp only [List.setIfInBounds_toArray, List.set_cons_succ, List.set_cons_zero]
    refine held_two (i := 5) (j := 12) rfl rfl (by kernel_rfl) (by kernel_rfl) (by kernel_rfl) ?_ ?_
    · simp [Oper.wp, execOp, Act.eval, Act.put, go_sem]
      refine (HC0.out _ hS).mono ?_
      rintro en u62 ⟨rfl, hb⟩
      have hz : w.heap.size + 2 ≤ u62.heap.size := Nat.le_trans hz hb.size
      have h8 := h8.below hb
      have hS := hS.below hb
      clear hb
      refine ⟨hS, ?_⟩
      try simp only [List.setIfInBounds_toArray, List.set_cons_succ, List.set_cons_zero]
      refine held_two (i := 11) (j := 12) rfl rfl (by kernel_rfl) (by kernel_rfl) (by kernel_rfl) ?_ ?_
      · simp [Oper.wp, execOp, Act.eval, Act.put, go_sem]
        refine (HC1.out _ hS).mono ?_
        rintro en u63 ⟨rfl, hb⟩
        have hz : w.heap.size + 2 ≤ u63.heap.size := Nat.le_trans hz hb.size
        have h8 := h8.below hb
        have hS := hS.below hb
        clear hb
        refine ⟨hS, ?_⟩
        try simp only [List.setIfInBounds_toArray, List.set_cons_succ, List.set_cons_zero]
        refine held_call (i := 12) rfl (by kernel_rfl) (by kernel_rfl) ?_
        simp [Oper.wp, execOp, Act.put, go_sem]
        have h7 : Box3 (u63.alloc (.cells #[.int .i64 0, .int .i64 0, .string ⟨#[]⟩] 23)) u63.heap.size zV := Box3.new u63 zV
        have hg7 : w.heap.size + 2 ≤ u63.heap.size := hz
        have hne : g8 < u63.heap.size := h8.lt
        have h8 := h8.alloc (.cells #[.int .i64 0, .int .i64 0, .string ⟨#[]⟩] 23)
        have hS := hS.below ((Below.refl _ _).alloc (Nat.le_refl _) (.cells #[.int .i64 0, .int .i64 0, .string ⟨#[]⟩] 23))
        have hz : w.heap.size + 2 ≤ (u63.alloc (.cells #[.int .i64 0, .int .i64 0, .string ⟨#[]⟩] 23)).heap.size := by simp; omega
        obtain ⟨u64, hW2⟩ : ∃ q, u63.alloc (.cells #[.int .i64 0, .int .i64 0, .string ⟨#[]⟩] 23) = q := ⟨_, rfl⟩
        have hsz : u63.heap.size = u63.heap.size := rfl
        rw [hW2] at h7 hS hz
        rw [hW2] at h8
        first | rw [hW2] | (rw [show (W1.alloc (.cells #[.int .i64 0, .int .i64 0, .string ⟨#[]⟩] 23)).drew = u64 from hW2]; try rw [show W1.heap.size = W1.drew.heap.size from rfl])
        obtain ⟨g7, hgg⟩ : ∃ q, u63.heap.size = q := ⟨_, rfl⟩
        rw [hgg] at h7 hg7 hne
        try rw [hgg]
        clear hW2 hgg hsz
        refine ⟨hS, ?_⟩
        try simp only [List.setIfInBounds_toArray, List.set_cons_succ, List.set_cons_zero]
        refine held_call (i := 14) rfl (by kernel_rfl) (by kernel_rfl) ?_
        have y0 := h7.c0
        have y1 := h7.c1
        have y2 := h7.c2
        have f0 := h7.free 0
        have f1 := h7.free 1
        have f2 := h7.free 2
        simp [Oper.wp, execOp, Act.eval, Act.put, go_sem, y0, y1, y2, f0, f1, f2]
        have h8 := h8.set3 (show g7 ≠ g8 by omega) a
        have hS := hS.set3 (g := g7) (by omega) (by omega) (by omega) a
        have h7 := h7.set a
        obtain ⟨W5, hW5⟩ : ∃ q, ((u64.setCell ⟨g7, 0, none⟩ (.int .i64 a.k)).setCell ⟨g7, 1, none⟩ (.int .i64 a.n)).setCell ⟨g7, 2, none⟩ (.string a.s) = q := ⟨_, rfl⟩
        rw [hW5] at h7 h8 hS
        rw [hW5]
        clear hW5 y0 y1 y2 f0 f1 f2
        refine ⟨hS, ?_⟩
        try simp only [List.setIfInBounds_toArray, List.set_cons_succ, List.set_cons_zero]
        refine held_call (i := 15) rfl (by kernel_rfl) (by kernel_rfl) ?_
        have y0 := h8.c0
        have y1 := h8.c1
        have y2 := h8.c2
        have f0 := h8.free 0
        have f1 := h8.free 1
        have f2 := h8.free 2
        simp [Oper.wp, execOp, Act.eval, Act.put, go_sem, y0, y1, y2, f0, f1, f2]
        have h7 := h7.set3 (show g8 ≠ g7 by omega) z
        have hS := hS.set3 (g := g8) (by omega) (by omega) (by omega) z
        have h8 := h8.set z
        obtain ⟨W6, hW6⟩ : ∃ q, ((W5.setCell ⟨g8, 0, none⟩ (.int .i64 z.k)).setCell ⟨g8, 1, none⟩ (.int .i64 z.n)).setCell ⟨g8, 2, none⟩ (.string z.s) = q := ⟨_, rfl⟩
        rw [hW6] at h7 h8 hS
        rw [hW6]
        clear hW6 y0 y1 y2 f0 f1 f2
        refine ⟨hS, ?_⟩
        try simp only [List.setIfInBounds_toArray, List.set_cons_succ, List.set_cons_zero]
        refine wpAnyH_done (by kernel_rfl) ?_ 0
        have y0 := h7.c0
        have y1 := h7.c1
        have y2 := h7.c2
        have y3 := h8.c0
        have y4 := h8.c1
        have y5 := h8.c2
        have HS6 := Lib.hid hS
        clear hS h7 h8
        have s0 := HS6.out.r.c0
        have s1 := HS6.out.r.c1
        have s2 := HS6.out.r.c2
        have f0 := HS6.out.r.free 0
        have f1 := HS6.out.r.free 1
        have f2 := HS6.out.r.free 2
        go_wp2
        exact bodyPost_ret (ret_row rfl (by rfl) (HS6.out.r.set nulV)) rfl ⟨HX.out.symm, set3_below HS6.out.b (Nat.le_succ _) _ _ _⟩
      · simp [Oper.wp, execOp, Act.put, go_sem]
        have h7 : Box3 (u62.alloc (.cells #[.int .i64 0, .int .i64 0, .string ⟨#[]⟩] 23)) u62.heap.size zV := Box3.new u62 zV
        have hg7 : w.heap.size + 2 ≤ u62.heap.size := hz
        have hne : g8 < u62.heap.size := h8.lt
        have h8 := h8.alloc (.cells #[.int .i64 0, .int .i64 0, .string ⟨#[]⟩] 23)
        have hS := hS.below ((Below.refl _ _).alloc (Nat.le_refl _) (.cells #[.int .i64 0, .int .i64 0, .string ⟨#[]⟩] 23))
        have hz : w.heap.size + 2 ≤ (u62.alloc (.cells #[.int .i64 0, .int .i64 0, .string ⟨#[]⟩] 23)).heap.size := by simp; omega
        obtain ⟨u65, hW2⟩ : ∃ q, u62.alloc (.cells #[.int .i64 0, .int .i64 0, .string ⟨#[]⟩] 23) = q := ⟨_, rfl⟩
        have hsz : u62.heap.size = u62.heap.size := rfl
        rw [hW2] at h7 hS hz
        rw [hW2] at h8
        first | rw [hW2] | (rw [show (W1.alloc (.cells #[.int .i64 0, .int .i64 0, .string ⟨#[]⟩] 23)).drew = u65 from hW2]; try rw [show W1.heap.size = W1.drew.heap.size from rfl])
        obtain ⟨g7, hgg⟩ : ∃ q, u62.heap.size = q := ⟨_, rfl⟩
        rw [hgg] at h7 hg7 hne
        try rw [hgg]
        clear hW2 hgg hsz
        refine ⟨hS, ?_⟩
        try simp only [List.setIfInBounds_toArray, List.set_cons_succ, List.set_cons_zero]
        refine held_call (i := 11) rfl (by kernel_rfl) (by kernel_rfl) ?_
        simp [Oper.wp, execOp, Act.eval, Act.put, go_sem]
        refine (HC1.out _ hS).mono ?_
        rintro en u66 ⟨rfl, hb⟩
        have hz : w.heap.size + 2 ≤ u66.heap.size := Nat.le_trans hz hb.size
        have h7 := h7.below hb
        have h8 := h8.below hb
        have hS := hS.below hb
        clear hb
        refine ⟨hS, ?_⟩
        try simp only [List.setIfInBounds_toArray, List.set_cons_succ, List.set_cons_zero]
        refine held_call (i := 14) rfl (by kernel_rfl) (by kernel_rfl) ?_
        have y0 := h7.c0
        have y1 := h7.c1
        have y2 := h7.c2
        have f0 := h7.free 0
        have f1 := h7.free 1
        have f2 := h7.free 2
        simp [Oper.wp, execOp, Act.eval, Act.put, go_sem, y0, y1, y2, f0, f1, f2]
        have h8 := h8.set3 (show g7 ≠ g8 by omega) a
        have hS := hS.set3 (g := g7) (by omega) (by omega) (by omega) a
        have h7 := h7.set a
        obtain ⟨W5, hW5⟩ : ∃ q, ((u66.setCell ⟨g7, 0, none⟩ (.int .i64 a.k)).setCell ⟨g7, 1, none⟩ (.int .i64 a.n)).setCell ⟨g7, 2, none⟩ (.string a.s) = q := ⟨_, rfl⟩
        rw [hW5] at h7 h8 hS
        rw [hW5]
        clear hW5 y0 y1 y2 f0 f1 f2
        refine ⟨hS, ?_⟩
        try simp only [List.setIfInBounds_toArray, List.set_cons_succ, List.set_cons_zero]
        refine held_call (i := 15) rfl (by kernel_rfl) (by kernel_rfl) ?_
        have y0 := h8.c0
        have y1 := h8.c1
        have y2 := h8.c2
        have f0 := h8.free 0
        have f1 := h8.free 1
        have f2 := h8.free 2
        simp [Oper.wp, execOp, Act.eval, Act.put, go_sem, y0, y1, y2, f0, f1, f2]
        have h7 := h7.set3 (show g8 ≠ g7 by omega) z
        have hS := hS.set3 (g := g8) (by omega) (by omega) (by omega) z
        have h8 := h8.set z
        obtain ⟨W6, hW6⟩ : ∃ q, ((W5.setCell ⟨g8, 0, none⟩ (.int .i64 z.k)).setCell ⟨g8, 1, none⟩ (.int .i64 z.n)).setCell ⟨g8, 2, none⟩ (.string z.s) = q := ⟨_, rfl⟩
        rw [hW6] at h7 h8 hS
        rw [hW6]
        clear hW6 y0 y1 y2 f0 f1 f2
        refine ⟨hS, ?_⟩
        try simp only [List.setIfInBounds_toArray, List.set_cons_succ, List.set_cons_zero]
        refine wpAnyH_done (by kernel_rfl) ?_ 0
        have y0 := h7.c0
        have y1 := h7.c1
        have y2 := h7.c2
        have y3 := h8.c0
        have y4 := h8.c1
        have y5 := h8.c2
        have HS6 := Lib.hid hS
        clear hS h7 h8
        have s0 := HS6.out.r.c0
        have s1 := HS6.out.r.c1
        have s2 := HS6.out.r.c2
        have f0 := HS6.out.r.free 0
        have f1 := HS6.out.r.free 1
        have f2 := HS6.out.r.free 2
        go_wp2
        exact bodyPost_ret (ret_row rfl (by rfl) (HS6.out.r.set nulV)) rfl ⟨HX.out.symm, set3_below HS6.out.b (Nat.le_succ _) _ _ _⟩
    · simp [Oper.wp, execOp, Act.put, go_sem]
      have h7 : Box3 (u61.alloc (.cells #[.int .i64 0, .int .i64 0, .string ⟨#[]⟩] 23)) u61.heap.size zV := Box3.new u61 zV
      have hg7 : w.heap.size + 2 ≤ u61.heap.size := hz
      have hne : g8 < u61.heap.size := h8.lt
      have h8 := h8.alloc (.cells #[.int .i64 0, .int .i64 0, .string ⟨#[]⟩] 23)
      have hS := hS.below ((Below.refl _ _).alloc (Nat.le_refl _) (.cells #[.int .i64 0, .int .i64 0, .string ⟨#[]⟩] 23))
      have hz : w.heap.size + 2 ≤ (u61.alloc (.cells #[.int .i64 0, .int .i64 0, .string ⟨#[]⟩] 23)).heap.size := by simp; omega
      obtain ⟨u67, hW2⟩ : ∃ q, u61.alloc (.cells #[.int .i64 0, .int .i64 0, .string ⟨#[]⟩] 23) = q := ⟨_, rfl⟩
      have hsz : u61.heap.size = u61.heap.size := rfl
      rw [hW2] at h7 hS hz
      rw [hW2] at h8
      first | rw [hW2] | (rw [show (W1.alloc (.cells #[.int .i64 0, .int .i64 0, .string ⟨#[]⟩] 23)).drew = u67 from hW2]; try rw [show W1.heap.size = W1.drew.heap.size from rfl])
      obtain ⟨g7, hgg⟩ : ∃ q, u61.heap.size = q := ⟨_, rfl⟩
      rw [hgg] at h7 hg7 hne
      try rw [hgg]
      clear hW2 hgg hsz
      refine ⟨hS, ?_⟩
      try simp only [List.setIfInBounds_toArray, List.set_cons_succ, List.set_cons_zero]
      refine held_call (i := 5) rfl (by kernel_rfl) (by kernel_rfl) ?_
      simp [Oper.wp, execOp, Act.eval, Act.put, go_sem]
      refine (HC0.out _ hS).mono ?_
      rintro en u68 ⟨rfl, hb⟩
      have hz : w.heap.size + 2 ≤ u68.heap.size := Nat.le_trans hz hb.size
      have h7 := h7.below hb
      have h8 := h8.below hb
      have hS := hS.below hb
      clear hb
      refine ⟨hS, ?_⟩
      try simp only [List.setIfInBounds_toArray, List.set_cons_succ, List.set_cons_zero]
      refine held_call (i := 11) rfl (by kernel_rfl) (by kernel_rfl) ?_
      simp [Oper.wp, execOp, Act.eval, Act.put, go_sem]
      refine (HC1.out _ hS).mono ?_
      rintro en u69 ⟨rfl, hb⟩
      have hz : w.heap.size + 2 ≤ u69.heap.size := Nat.le_trans hz hb.size
      have h7 := h7.below hb
      have h8 := h8.below hb
      have hS := hS.below hb
      clear hb
      refine ⟨hS, ?_⟩
      try simp only [List.setIfInBounds_toArray, List.set_cons_succ, List.set_cons_zero]
      refine held_call (i := 14) rfl (by kernel_rfl) (by kernel_rfl) ?_
      have y0 := h7.c0
      have y1 := h7.c1
      have y2 := h7.c2
      have f0 := h7.free 0
      have f1 := h7.free 1
      have f2 := h7.free 2
      simp [Oper.wp, execOp, Act.eval, Act.put, go_sem, y0, y1, y2, f0, f1, f2]
      have h8 := h8.set3 (show g7 ≠ g8 by omega) a
      have hS := hS.set3 (g := g7) (by omega) (by omega) (by omega) a
      have h7 := h7.set a
      obtain ⟨W5, hW5⟩ : ∃ q, ((u69.setCell ⟨g7, 0, none⟩ (.int .i64 a.k)).setCell ⟨g7, 1, none⟩ (.int .i64 a.n)).setCell ⟨g7, 2, none⟩ (.string a.s) = q := ⟨_, rfl⟩
      rw [hW5] at h7 h8 hS
      rw [hW5]
      clear hW5 y0 y1 y2 f0 f1 f2
      refine ⟨hS, ?_⟩
      try simp only [List.setIfInBounds_toArray, List.set_cons_succ, List.set_cons_zero]
      refine held_call (i := 15) rfl (by kernel_rfl) (by kernel_rfl) ?_
      have y0 := h8.c0
      have y1 := h8.c1
      have y2 := h8.c2
      have f0 := h8.free 0
      have f1 := h8.free 1
      have f2 := h8.free 2
      simp [Oper.wp, execOp, Act.eval, Act.put, go_sem, y0, y1, y2, f0, f1, f2]
      have h7 := h7.set3 (show g8 ≠ g7 by omega) z
      have hS := hS.set3 (g := g8) (by omega) (by omega) (by omega) z
      have h8 := h8.set z
      obtain ⟨W6, hW6⟩ : ∃ q, ((W5.setCell ⟨g8, 0, none⟩ (.int .i64 z.k)).setCell ⟨g8, 1, none⟩ (.int .i64 z.n)).setCell ⟨g8, 2, none⟩ (.string z.s) = q := ⟨_, rfl⟩
      rw [hW6] at h7 h8 hS
      rw [hW6]
      clear hW6 y0 y1 y2 f0 f1 f2
      refine ⟨hS, ?_⟩
      try simp only [List.setIfInBounds_toArray, List.set_cons_succ, List.set_cons_zero]
      refine wpAnyH_done (by kernel_rfl) ?_ 0
      have y0 := h7.c0
      have y1 := h7.c1
      have y2 := h7.c2
      have y3 := h8.c0
      have y4 := h8.c1
      have y5 := h8.c2
      have HS6 := Lib.hid hS
      clear hS h7 h8
      have s0 := HS6.out.r.c0
      have s1 := HS6.out.r.c1
      have s2 := HS6.out.r.c2
      have f0 := HS6.out.r.free 0
      have f1 := HS6.out.r.free 1
      have f2 := HS6.out.r.free 2
      go_wp2
      exact bodyPost_ret (ret_row rfl (by rfl) (HS6.out.r.set nulV)) rfl ⟨HX.out.symm, set3_below HS6.out.b (Nat.le_succ _) _ _ _⟩
end
end Go.Proofs.YtclcabdekeegdaaGreat
