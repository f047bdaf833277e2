/- Layer 13, walked: worths: what two parts come to, a case (wip/gen/XExWb.py). -/
import Derived.Test.YtclcabdekeegdaaGreatExWab
namespace Go.Proofs.YtclcabdekeegdaaGreat
open Go.ChangeShapes Go.WideShapes Go.ChangeAt Go.RowKit
set_option linter.unusedVariables false
set_option linter.unusedSimpArgs false
section
variable (cs : List C) (row : List V) (cA : Option Addr) (cc : Nat) (rA : Option Addr) (rc : Nat) (B b : Nat)
set_option maxHeartbeats 16000000 in
set_option maxRecDepth 40000 in
theorem two_e0 (o : Int) (n : ByteArray) (v : V) (ks : List X) (h1 : 1 < ks.length) (A : Option Addr) (c : Nat) (w : World) (hs : Sc cs row cA cc rA rc B b w) (hk : KidsAt w w.heap.size (.mk o n v ks) A c) (r0 r1 : V × Int)
    (hx : WK cs row cA cc rA rc B b ks[0] r0) (hy : WK cs row cA cc rA rc B b ks[1] r1)
    (g : Nat) (p : Value) (eg : ∀ args W, (callFunc g args).run Tryz.prog W = .ok (.enter g args) W) (F : V → V → V × Int) (hF : r0.2 = 0 → r1.2 = 0 → r0.1.k ≠ 0 → r1.1.k ≠ 0 → ∀ W, Below w.heap.size w W → Calls Tryz.prog g #[r0.1.val, r1.1.val, p] W fun en w' => en = endW (F r0.1 r1.1) ∧ Below W.heap.size W w') (he : r0.2 ≠ 0) :
    Calls Tryz.prog 106 #[.pointer (some ⟨b, 0, none⟩), eV o n v ks.length A c, .func (.func g) #[] #[p]] w fun en w' => en = endW (twoR r0 r1 F) ∧ Below w.heap.size w w' := by
  obtain ⟨bk, off, A2, c2, rfl, hbk, hk2, a0, a1, a2, a3, a4, a5⟩ := hk.at6m 0 (by omega)
  obtain ⟨bk', off', A3, c3, hA, hbk', hk3, d0, d1, d2, d3, d4, d5⟩ := hk.at6m 1 h1
  injection hA with hA
  injection hA with hA1 hA2
  subst hA1 hA2
  obtain ⟨x, hxx⟩ : ∃ x, ks[0] = x := ⟨_, rfl⟩
  obtain ⟨y, hyy⟩ : ∃ y, ks[1] = y := ⟨_, rfl⟩
  rw [hxx] at hx hk2 a0 a1 a2 a3 a4 a5
  rw [hyy] at hy hk3 d0 d1 d2 d3 d4 d5
  simp only [Nat.zero_mul, Nat.one_mul, Nat.add_zero, Nat.add_assoc, Nat.reduceAdd] at a0 a1 a2 a3 a4 a5 d0 d1 d2 d3 d4 d5
  obtain ⟨W1, hW1⟩ : ∃ W1, (w.alloc ((X.mk o n v ks).obj (some ⟨bk, off, none⟩) c)).alloc (.cells #[.int .i64 0, .int .i64 0, .string ⟨#[]⟩] 23) = W1 := ⟨_, rfl⟩
  have hfr : Fr o n v ks (some ⟨bk, off, none⟩) c w.heap.size (w.heap.size + 1) zV w W1 := by rw [← hW1]; exact Fr.new o n v ks _ c w
  have HC0 := Lib.hid (fun (W : World) (h : Fr o n v ks (some ⟨bk, off, none⟩) c w.heap.size (w.heap.size + 1) zV w W) => hx A2 c2 W (hs.below h.b) (KidsAt.more h.b.size (hk2.below h.b)))
  have HC1 := Lib.hid (fun (W : World) (h : Fr o n v ks (some ⟨bk, off, none⟩) c w.heap.size (w.heap.size + 1) zV w W) => hy A3 c3 W (hs.below h.b) (KidsAt.more h.b.size (hk3.below h.b)))
  have HFR := Lib.hid hfr
  have HF := Lib.hid hF
  obtain ⟨E, hE⟩ : ∃ E, endW (twoR r0 r1 F) = E := ⟨_, rfl⟩
  rw [hE]
  have HE := Lib.hid hE
  obtain ⟨a, er⟩ := r0
  obtain ⟨z, er1⟩ := r1
  have HA := Lib.hid (And.intro a0 (And.intro a1 (And.intro a2 (And.intro a3 (And.intro a4 a5)))))
  have HD := Lib.hid (And.intro d0 (And.intro d1 (And.intro d2 (And.intro d3 (And.intro d4 d5)))))
  have i1 : (0 : Int) < (ks.length : Int) := by omega
  have i2 : (1 : Int) < (ks.length : Int) := by omega
  have hnil : ¬ ks = [] := by rintro rfl; simp at h1
  have hen := eg
  clear hF hE hx hy hk hk2 hk3 hs hxx hyy hfr eg a0 a1 a2 a3 a4 a5 d0 d1 d2 d3 d4 d5
  unfold X.obj at hW1
  simp only [X.op, X.nm, X.v, X.ks] at hW1
  unfold X.val at HC0 HC1
  unfold eV
  dsimp only at HF HC0 HC1
  dsimp only at he
  have HX := Lib.hid (show E = .panicked [gaveUp er] by rw [← HE.out]; unfold twoR; rw [if_pos he, endW_no he])
  rw [endW_no he] at HC0
  go_enter Tryz.func106, Tryz.ntmps106
  go_wp2_with fail
  try rw [hW1]
  have hz1 : W1.heap.size = w.heap.size + 2 := by rw [← hW1]; simp
  clear hW1
  have hS : Fr o n v ks (some ⟨bk, off, none⟩) c w.heap.size (w.heap.size + 1) zV w W1.drew := HFR.out.below (Below.refl _ W1).drew
  have hz : w.heap.size + 2 ≤ W1.drew.heap.size := by show _ ≤ W1.heap.size; omega
  refine held_begin 16 (fun W => Fr o n v ks (some ⟨bk, off, none⟩) c w.heap.size (w.heap.size + 1) zV w W) rfl (by kernel_rfl) ?_
  refine held_take (i := 0) (t := 9) (v := (.pointer (some ⟨b, 0, none⟩))) (fuel := 15) rfl rfl (by kernel_rfl) (by kernel_rfl) (by kernel_rfl) (fun _ _ _ h => h) (.inl ⟨rfl, fun W hW => by simp [execOp, Act.eval, go_sem]⟩) hS ?_
  simp only [List.setIfInBounds_toArray, List.set_cons_succ, List.set_cons_zero]
  refine held_take (i := 1) (t := 10) (v := (.pointer (some ⟨w.heap.size, 5, none⟩))) (fuel := 14) rfl rfl (by kernel_rfl) (by kernel_rfl) (by kernel_rfl) (fun _ _ _ h => h) (.inl ⟨rfl, fun W hW => by simp [execOp, Act.eval, go_sem]⟩) hS ?_
  simp only [List.setIfInBounds_toArray, List.set_cons_succ, List.set_cons_zero]
  refine held_take (i := 2) (t := 11) (v := (.slice (some ⟨bk, off, none⟩) ks.length c)) (fuel := 13) rfl rfl (by kernel_rfl) (by kernel_rfl) (by kernel_rfl) (fun _ _ _ h => h) (.inl ⟨rfl, fun W hW => by simp [execOp, Act.eval, go_sem, (obj_cells hW.x).2.2.2.2.2, X.ks]⟩) hS ?_
  simp only [List.setIfInBounds_toArray, List.set_cons_succ, List.set_cons_zero]
  refine held_take (i := 3) (t := 12) (v := (.pointer (some ⟨bk, off, none⟩))) (fuel := 12) rfl rfl (by kernel_rfl) (by kernel_rfl) (by kernel_rfl) (fun _ _ _ h => h) (.inl ⟨rfl, fun W hW => by simp [execOp, Act.eval, go_sem, i1, hnil]⟩) hS ?_
  simp only [List.setIfInBounds_toArray, List.set_cons_succ, List.set_cons_zero]
  refine held_take (i := 4) (t := 13) (v := (.agg #[.int .i64 x.op, .string x.nm, .int .i64 x.v.k, .int .i64 x.v.n, .string x.v.s, .slice A2 x.ks.length c2])) (fuel := 11) rfl rfl (by kernel_rfl) (by kernel_rfl) (by kernel_rfl) (fun _ _ _ h => h) (.inl ⟨rfl, fun W hW => by simp [execOp, Act.eval, go_sem, later_cell hW.b HA.out.1, later_cell hW.b HA.out.2.1, later_cell hW.b HA.out.2.2.1, later_cell hW.b HA.out.2.2.2.1, later_cell hW.b HA.out.2.2.2.2.1, later_cell hW.b HA.out.2.2.2.2.2]⟩) hS ?_
  simp only [List.setIfInBounds_toArray, List.set_cons_succ, List.set_cons_zero]
  refine held_take (i := 6) (t := 15) (v := (.pointer (some ⟨b, 0, none⟩))) (fuel := 10) rfl rfl (by kernel_rfl) (by kernel_rfl) (by kernel_rfl) (fun _ _ _ h => h) (.inl ⟨rfl, fun W hW => by simp [execOp, Act.eval, go_sem]⟩) hS ?_
  simp only [List.setIfInBounds_toArray, List.set_cons_succ, List.set_cons_zero]
  refine held_take (i := 7) (t := 16) (v := (.pointer (some ⟨w.heap.size, 5, none⟩))) (fuel := 9) rfl rfl (by kernel_rfl) (by kernel_rfl) (by kernel_rfl) (fun _ _ _ h => h) (.inl ⟨rfl, fun W hW => by simp [execOp, Act.eval, go_sem]⟩) hS ?_
  simp only [List.setIfInBounds_toArray, List.set_cons_succ, List.set_cons_zero]
  refine held_take (i := 8) (t := 17) (v := (.slice (some ⟨bk, off, none⟩) ks.length c)) (fuel := 8) rfl rfl (by kernel_rfl) (by kernel_rfl) (by kernel_rfl) (fun _ _ _ h => h) (.inl ⟨rfl, fun W hW => by simp [execOp, Act.eval, go_sem, (obj_cells hW.x).2.2.2.2.2, X.ks]⟩) hS ?_
  simp only [List.setIfInBounds_toArray, List.set_cons_succ, List.set_cons_zero]
  refine held_take (i := 9) (t := 18) (v := (.pointer (some ⟨bk, off + 6, none⟩))) (fuel := 7) rfl rfl (by kernel_rfl) (by kernel_rfl) (by kernel_rfl) (fun _ _ _ h => h) (.inl ⟨rfl, fun W hW => by simp [execOp, Act.eval, go_sem, i2]⟩) hS ?_
  simp only [List.setIfInBounds_toArray, List.set_cons_succ, List.set_cons_zero]
  refine held_take (i := 10) (t := 19) (v := (.agg #[.int .i64 y.op, .string y.nm, .int .i64 y.v.k, .int .i64 y.v.n, .string y.v.s, .slice A3 y.ks.length c3])) (fuel := 6) rfl rfl (by kernel_rfl) (by kernel_rfl) (by kernel_rfl) (fun _ _ _ h => h) (.inl ⟨rfl, fun W hW => by simp [execOp, Act.eval, go_sem, later_cell hW.b HD.out.1, later_cell hW.b HD.out.2.1, later_cell hW.b HD.out.2.2.1, later_cell hW.b HD.out.2.2.2.1, later_cell hW.b HD.out.2.2.2.2.1, later_cell hW.b HD.out.2.2.2.2.2]⟩) hS ?_
  simp only [List.setIfInBounds_toArray, List.set_cons_succ, List.set_cons_zero]
  refine held_three (i := 5) (j := 12) (l := 13) rfl rfl rfl (by kernel_rfl) (by kernel_rfl) (by kernel_rfl) (by kernel_rfl) ?_ ?_ ?_
  · simp [Oper.wp, execOp, Act.eval, Act.put, go_sem]
    refine (HC0.out _ hS).mono ?_
    rintro en u1 ⟨rfl, hb⟩
    exact ⟨rfl, HX.out.symm, (hS.below hb).b⟩
  · simp [Oper.wp, execOp, Act.put, go_sem]
    have h7 : Box3 (W1.drew.alloc (.cells #[.int .i64 0, .int .i64 0, .string ⟨#[]⟩] 23)) W1.drew.heap.size zV := Box3.new W1.drew zV
    have hg7 : w.heap.size + 2 ≤ W1.drew.heap.size := hz
    have hS := hS.below ((Below.refl _ _).alloc (Nat.le_refl _) (.cells #[.int .i64 0, .int .i64 0, .string ⟨#[]⟩] 23))
    have hz : w.heap.size + 2 ≤ (W1.drew.alloc (.cells #[.int .i64 0, .int .i64 0, .string ⟨#[]⟩] 23)).heap.size := by simp; omega
    obtain ⟨u2, hW2⟩ : ∃ q, W1.drew.alloc (.cells #[.int .i64 0, .int .i64 0, .string ⟨#[]⟩] 23) = q := ⟨_, rfl⟩
    have hsz : W1.drew.heap.size = W1.drew.heap.size := rfl
    rw [hW2] at h7 hS hz
    first | rw [hW2] | (rw [show (W1.alloc (.cells #[.int .i64 0, .int .i64 0, .string ⟨#[]⟩] 23)).drew = u2 from hW2]; try rw [show W1.heap.size = W1.drew.heap.size from rfl])
    obtain ⟨g7, hgg⟩ : ∃ q, W1.drew.heap.size = q := ⟨_, rfl⟩
    rw [hgg] at h7 hg7
    try rw [hgg]
    clear hW2 hgg hsz
    refine ⟨hS, ?_⟩
    try simp only [List.setIfInBounds_toArray, List.set_cons_succ, List.set_cons_zero]
    refine held_two (i := 5) (j := 13) rfl rfl (by kernel_rfl) (by kernel_rfl) (by kernel_rfl) ?_ ?_
    · simp [Oper.wp, execOp, Act.eval, Act.put, go_sem]
      refine (HC0.out _ hS).mono ?_
      rintro en u3 ⟨rfl, hb⟩
      exact ⟨rfl, HX.out.symm, (hS.below hb).b⟩
    · simp [Oper.wp, execOp, Act.put, go_sem]
      have h8 : Box3 (u2.alloc (.cells #[.int .i64 0, .int .i64 0, .string ⟨#[]⟩] 23)) u2.heap.size zV := Box3.new u2 zV
      have hg8 : w.heap.size + 2 ≤ u2.heap.size := hz
      have hne : g7 < u2.heap.size := h7.lt
      have h7 := h7.alloc (.cells #[.int .i64 0, .int .i64 0, .string ⟨#[]⟩] 23)
      have hS := hS.below ((Below.refl _ _).alloc (Nat.le_refl _) (.cells #[.int .i64 0, .int .i64 0, .string ⟨#[]⟩] 23))
      have hz : w.heap.size + 2 ≤ (u2.alloc (.cells #[.int .i64 0, .int .i64 0, .string ⟨#[]⟩] 23)).heap.size := by simp; omega
      obtain ⟨u4, hW2⟩ : ∃ q, u2.alloc (.cells #[.int .i64 0, .int .i64 0, .string ⟨#[]⟩] 23) = q := ⟨_, rfl⟩
      have hsz : u2.heap.size = u2.heap.size := rfl
      rw [hW2] at h8 hS hz
      rw [hW2] at h7
      first | rw [hW2] | (rw [show (W1.alloc (.cells #[.int .i64 0, .int .i64 0, .string ⟨#[]⟩] 23)).drew = u4 from hW2]; try rw [show W1.heap.size = W1.drew.heap.size from rfl])
      obtain ⟨g8, hgg⟩ : ∃ q, u2.heap.size = q := ⟨_, rfl⟩
      rw [hgg] at h8 hg8 hne
      try rw [hgg]
      clear hW2 hgg hsz
      refine ⟨hS, ?_⟩
      try simp only [List.setIfInBounds_toArray, List.set_cons_succ, List.set_cons_zero]
      refine held_call (i := 5) rfl (by kernel_rfl) (by kernel_rfl) ?_
      simp [Oper.wp, execOp, Act.eval, Act.put, go_sem]
      refine (HC0.out _ hS).mono ?_
      rintro en u5 ⟨rfl, hb⟩
      exact ⟨rfl, HX.out.symm, (hS.below hb).b⟩
  · simp [Oper.wp, execOp, Act.put, go_sem]
    have h8 : Box3 (W1.drew.alloc (.cells #[.int .i64 0, .int .i64 0, .string ⟨#[]⟩] 23)) W1.drew.heap.size zV := Box3.new W1.drew zV
    have hg8 : w.heap.size + 2 ≤ W1.drew.heap.size := hz
    have hS := hS.below ((Below.refl _ _).alloc (Nat.le_refl _) (.cells #[.int .i64 0, .int .i64 0, .string ⟨#[]⟩] 23))
    have hz : w.heap.size + 2 ≤ (W1.drew.alloc (.cells #[.int .i64 0, .int .i64 0, .string ⟨#[]⟩] 23)).heap.size := by simp; omega
    obtain ⟨u6, hW2⟩ : ∃ q, W1.drew.alloc (.cells #[.int .i64 0, .int .i64 0, .string ⟨#[]⟩] 23) = q := ⟨_, rfl⟩
    have hsz : W1.drew.heap.size = W1.drew.heap.size := rfl
    rw [hW2] at h8 hS hz
    first | rw [hW2] | (rw [show (W1.alloc (.cells #[.int .i64 0, .int .i64 0, .string ⟨#[]⟩] 23)).drew = u6 from hW2]; try rw [show W1.heap.size = W1.drew.heap.size from rfl])
    obtain ⟨g8, hgg⟩ : ∃ q, W1.drew.heap.size = q := ⟨_, rfl⟩
    rw [hgg] at h8 hg8
    try rw [hgg]
    clear hW2 hgg hsz
    refine ⟨hS, ?_⟩
    try simp only [List.setIfInBounds_toArray, List.set_cons_succ, List.set_cons_zero]
    refine held_two (i := 5) (j := 12) rfl rfl (by kernel_rfl) (by kernel_rfl) (by kernel_rfl) ?_ ?_
    · simp [Oper.wp, execOp, Act.eval, Act.put, go_sem]
      refine (HC0.out _ hS).mono ?_
      rintro en u7 ⟨rfl, hb⟩
      exact ⟨rfl, HX.out.symm, (hS.below hb).b⟩
    · simp [Oper.wp, execOp, Act.put, go_sem]
      have h7 : Box3 (u6.alloc (.cells #[.int .i64 0, .int .i64 0, .string ⟨#[]⟩] 23)) u6.heap.size zV := Box3.new u6 zV
      have hg7 : w.heap.size + 2 ≤ u6.heap.size := hz
      have hne : g8 < u6.heap.size := h8.lt
      have h8 := h8.alloc (.cells #[.int .i64 0, .int .i64 0, .string ⟨#[]⟩] 23)
      have hS := hS.below ((Below.refl _ _).alloc (Nat.le_refl _) (.cells #[.int .i64 0, .int .i64 0, .string ⟨#[]⟩] 23))
      have hz : w.heap.size + 2 ≤ (u6.alloc (.cells #[.int .i64 0, .int .i64 0, .string ⟨#[]⟩] 23)).heap.size := by simp; omega
      obtain ⟨u8, hW2⟩ : ∃ q, u6.alloc (.cells #[.int .i64 0, .int .i64 0, .string ⟨#[]⟩] 23) = q := ⟨_, rfl⟩
      have hsz : u6.heap.size = u6.heap.size := rfl
      rw [hW2] at h7 hS hz
      rw [hW2] at h8
      first | rw [hW2] | (rw [show (W1.alloc (.cells #[.int .i64 0, .int .i64 0, .string ⟨#[]⟩] 23)).drew = u8 from hW2]; try rw [show W1.heap.size = W1.drew.heap.size from rfl])
      obtain ⟨g7, hgg⟩ : ∃ q, u6.heap.size = q := ⟨_, rfl⟩
      rw [hgg] at h7 hg7 hne
      try rw [hgg]
      clear hW2 hgg hsz
      refine ⟨hS, ?_⟩
      try simp only [List.setIfInBounds_toArray, List.set_cons_succ, List.set_cons_zero]
      refine held_call (i := 5) rfl (by kernel_rfl) (by kernel_rfl) ?_
      simp [Oper.wp, execOp, Act.eval, Act.put, go_sem]
      refine (HC0.out _ hS).mono ?_
      rintro en u9 ⟨rfl, hb⟩
      exact ⟨rfl, HX.out.symm, (hS.below hb).b⟩
set_option maxHeartbeats 16000000 in
set_option maxRecDepth 40000 in
theorem two_e1 (o : Int) (n : ByteArray) (v : V) (ks : List X) (h1 : 1 < ks.length) (A : Option Addr) (c : Nat) (w : World) (hs : Sc cs row cA cc rA rc B b w) (hk : KidsAt w w.heap.size (.mk o n v ks) A c) (r0 r1 : V × Int)
    (hx : WK cs row cA cc rA rc B b ks[0] r0) (hy : WK cs row cA cc rA rc B b ks[1] r1)
    (g : Nat) (p : Value) (eg : ∀ args W, (callFunc g args).run Tryz.prog W = .ok (.enter g args) W) (F : V → V → V × Int) (hF : r0.2 = 0 → r1.2 = 0 → r0.1.k ≠ 0 → r1.1.k ≠ 0 → ∀ W, Below w.heap.size w W → Calls Tryz.prog g #[r0.1.val, r1.1.val, p] W fun en w' => en = endW (F r0.1 r1.1) ∧ Below W.heap.size W w') (he : r0.2 = 0) (he1 : r1.2 ≠ 0) :
    Calls Tryz.prog 106 #[.pointer (some ⟨b, 0, none⟩), eV o n v ks.length A c, .func (.func g) #[] #[p]] w fun en w' => en = endW (twoR r0 r1 F) ∧ Below w.heap.size w w' := by
  obtain ⟨bk, off, A2, c2, rfl, hbk, hk2, a0, a1, a2, a3, a4, a5⟩ := hk.at6m 0 (by omega)
  obtain ⟨bk', off', A3, c3, hA, hbk', hk3, d0, d1, d2, d3, d4, d5⟩ := hk.at6m 1 h1
  injection hA with hA
  injection hA with hA1 hA2
  subst hA1 hA2
  obtain ⟨x, hxx⟩ : ∃ x, ks[0] = x := ⟨_, rfl⟩
  obtain ⟨y, hyy⟩ : ∃ y, ks[1] = y := ⟨_, rfl⟩
  rw [hxx] at hx hk2 a0 a1 a2 a3 a4 a5
  rw [hyy] at hy hk3 d0 d1 d2 d3 d4 d5
  simp only [Nat.zero_mul, Nat.one_mul, Nat.add_zero, Nat.add_assoc, Nat.reduceAdd] at a0 a1 a2 a3 a4 a5 d0 d1 d2 d3 d4 d5
  obtain ⟨W1, hW1⟩ : ∃ W1, (w.alloc ((X.mk o n v ks).obj (some ⟨bk, off, none⟩) c)).alloc (.cells #[.int .i64 0, .int .i64 0, .string ⟨#[]⟩] 23) = W1 := ⟨_, rfl⟩
  have hfr : Fr o n v ks (some ⟨bk, off, none⟩) c w.heap.size (w.heap.size + 1) zV w W1 := by rw [← hW1]; exact Fr.new o n v ks _ c w
  have HC0 := Lib.hid (fun (W : World) (h : Fr o n v ks (some ⟨bk, off, none⟩) c w.heap.size (w.heap.size + 1) zV w W) => hx A2 c2 W (hs.below h.b) (KidsAt.more h.b.size (hk2.below h.b)))
  have HC1 := Lib.hid (fun (W : World) (h : Fr o n v ks (some ⟨bk, off, none⟩) c w.heap.size (w.heap.size + 1) zV w W) => hy A3 c3 W (hs.below h.b) (KidsAt.more h.b.size (hk3.below h.b)))
  have HFR := Lib.hid hfr
  have HF := Lib.hid hF
  obtain ⟨E, hE⟩ : ∃ E, endW (twoR r0 r1 F) = E := ⟨_, rfl⟩
  rw [hE]
  have HE := Lib.hid hE
  obtain ⟨a, er⟩ := r0
  obtain ⟨z, er1⟩ := r1
  have HA := Lib.hid (And.intro a0 (And.intro a1 (And.intro a2 (And.intro a3 (And.intro a4 a5)))))
  have HD := Lib.hid (And.intro d0 (And.intro d1 (And.intro d2 (And.intro d3 (And.intro d4 d5)))))
  have i1 : (0 : Int) < (ks.length : Int) := by omega
  have i2 : (1 : Int) < (ks.length : Int) := by omega
  have hnil : ¬ ks = [] := by rintro rfl; simp at h1
  have hen := eg
  clear hF hE hx hy hk hk2 hk3 hs hxx hyy hfr eg a0 a1 a2 a3 a4 a5 d0 d1 d2 d3 d4 d5
  unfold X.obj at hW1
  simp only [X.op, X.nm, X.v, X.ks] at hW1
  unfold X.val at HC0 HC1
  unfold eV
  dsimp only at HF HC0 HC1
  dsimp only at he he1
  subst he
  rw [endW_ok rfl] at HC0
  dsimp only at HC0
  unfold V.val at HC0
  have HX := Lib.hid (show E = .panicked [gaveUp er1] by rw [← HE.out]; unfold twoR; rw [if_neg (by simp), if_pos he1, endW_no he1])
  rw [endW_no he1] at HC1
  go_enter Tryz.func106, Tryz.ntmps106
  go_wp2_with fail
  try rw [hW1]
  have hz1 : W1.heap.size = w.heap.size + 2 := by rw [← hW1]; simp
  clear hW1
  have hS : Fr o n v ks (some ⟨bk, off, none⟩) c w.heap.size (w.heap.size + 1) zV w W1.drew := HFR.out.below (Below.refl _ W1).drew
  have hz : w.heap.size + 2 ≤ W1.drew.heap.size := by show _ ≤ W1.heap.size; omega
  refine held_begin 16 (fun W => Fr o n v ks (some ⟨bk, off, none⟩) c w.heap.size (w.heap.size + 1) zV w W) rfl (by kernel_rfl) ?_
  refine held_take (i := 0) (t := 9) (v := (.pointer (some ⟨b, 0, none⟩))) (fuel := 15) rfl rfl (by kernel_rfl) (by kernel_rfl) (by kernel_rfl) (fun _ _ _ h => h) (.inl ⟨rfl, fun W hW => by simp [execOp, Act.eval, go_sem]⟩) hS ?_
  simp only [List.setIfInBounds_toArray, List.set_cons_succ, List.set_cons_zero]
  refine held_take (i := 1) (t := 10) (v := (.pointer (some ⟨w.heap.size, 5, none⟩))) (fuel := 14) rfl rfl (by kernel_rfl) (by kernel_rfl) (by kernel_rfl) (fun _ _ _ h => h) (.inl ⟨rfl, fun W hW => by simp [execOp, Act.eval, go_sem]⟩) hS ?_
  simp only [List.setIfInBounds_toArray, List.set_cons_succ, List.set_cons_zero]
  refine held_take (i := 2) (t := 11) (v := (.slice (some ⟨bk, off, none⟩) ks.length c)) (fuel := 13) rfl rfl (by kernel_rfl) (by kernel_rfl) (by kernel_rfl) (fun _ _ _ h => h) (.inl ⟨rfl, fun W hW => by simp [execOp, Act.eval, go_sem, (obj_cells hW.x).2.2.2.2.2, X.ks]⟩) hS ?_
  simp only [List.setIfInBounds_toArray, List.set_cons_succ, List.set_cons_zero]
  refine held_take (i := 3) (t := 12) (v := (.pointer (some ⟨bk, off, none⟩))) (fuel := 12) rfl rfl (by kernel_rfl) (by kernel_rfl) (by kernel_rfl) (fun _ _ _ h => h) (.inl ⟨rfl, fun W hW => by simp [execOp, Act.eval, go_sem, i1, hnil]⟩) hS ?_
  simp only [List.setIfInBounds_toArray, List.set_cons_succ, List.set_cons_zero]
  refine held_take (i := 4) (t := 13) (v := (.agg #[.int .i64 x.op, .string x.nm, .int .i64 x.v.k, .int .i64 x.v.n, .string x.v.s, .slice A2 x.ks.length c2])) (fuel := 11) rfl rfl (by kernel_rfl) (by kernel_rfl) (by kernel_rfl) (fun _ _ _ h => h) (.inl ⟨rfl, fun W hW => by simp [execOp, Act.eval, go_sem, later_cell hW.b HA.out.1, later_cell hW.b HA.out.2.1, later_cell hW.b HA.out.2.2.1, later_cell hW.b HA.out.2.2.2.1, later_cell hW.b HA.out.2.2.2.2.1, later_cell hW.b HA.out.2.2.2.2.2]⟩) hS ?_
  simp only [List.setIfInBounds_toArray, List.set_cons_succ, List.set_cons_zero]
  refine held_take (i := 6) (t := 15) (v := (.pointer (some ⟨b, 0, none⟩))) (fuel := 10) rfl rfl (by kernel_rfl) (by kernel_rfl) (by kernel_rfl) (fun _ _ _ h => h) (.inl ⟨rfl, fun W hW => by simp [execOp, Act.eval, go_sem]⟩) hS ?_
  simp only [List.setIfInBounds_toArray, List.set_cons_succ, List.set_cons_zero]
  refine held_take (i := 7) (t := 16) (v := (.pointer (some ⟨w.heap.size, 5, none⟩))) (fuel := 9) rfl rfl (by kernel_rfl) (by kernel_rfl) (by kernel_rfl) (fun _ _ _ h => h) (.inl ⟨rfl, fun W hW => by simp [execOp, Act.eval, go_sem]⟩) hS ?_
  simp only [List.setIfInBounds_toArray, List.set_cons_succ, List.set_cons_zero]
  refine held_take (i := 8) (t := 17) (v := (.slice (some ⟨bk, off, none⟩) ks.length c)) (fuel := 8) rfl rfl (by kernel_rfl) (by kernel_rfl) (by kernel_rfl) (fun _ _ _ h => h) (.inl ⟨rfl, fun W hW => by simp [execOp, Act.eval, go_sem, (obj_cells hW.x).2.2.2.2.2, X.ks]⟩) hS ?_
  simp only [List.setIfInBounds_toArray, List.set_cons_succ, List.set_cons_zero]
  refine held_take (i := 9) (t := 18) (v := (.pointer (some ⟨bk, off + 6, none⟩))) (fuel := 7) rfl rfl (by kernel_rfl) (by kernel_rfl) (by kernel_rfl) (fun _ _ _ h => h) (.inl ⟨rfl, fun W hW => by simp [execOp, Act.eval, go_sem, i2]⟩) hS ?_
  simp only [List.setIfInBounds_toArray, List.set_cons_succ, List.set_cons_zero]
  refine held_take (i := 10) (t := 19) (v := (.agg #[.int .i64 y.op, .string y.nm, .int .i64 y.v.k, .int .i64 y.v.n, .string y.v.s, .slice A3 y.ks.length c3])) (fuel := 6) rfl rfl (by kernel_rfl) (by kernel_rfl) (by kernel_rfl) (fun _ _ _ h => h) (.inl ⟨rfl, fun W hW => by simp [execOp, Act.eval, go_sem, later_cell hW.b HD.out.1, later_cell hW.b HD.out.2.1, later_cell hW.b HD.out.2.2.1, later_cell hW.b HD.out.2.2.2.1, later_cell hW.b HD.out.2.2.2.2.1, later_cell hW.b HD.out.2.2.2.2.2]⟩) hS ?_
  simp only [List.setIfInBounds_toArray, List.set_cons_succ, List.set_cons_zero]
  refine held_three (i := 5) (j := 12) (l := 13) rfl rfl rfl (by kernel_rfl) (by kernel_rfl) (by kernel_rfl) (by kernel_rfl) ?_ ?_ ?_
  · simp [Oper.wp, execOp, Act.eval, Act.put, go_sem]
    refine (HC0.out _ hS).mono ?_
    rintro en u10 ⟨rfl, hb⟩
    have hz : w.heap.size + 2 ≤ u10.heap.size := Nat.le_trans hz hb.size
    have hS := hS.below hb
    clear hb
    refine ⟨hS, ?_⟩
    try simp only [List.setIfInBounds_toArray, List.set_cons_succ, List.set_cons_zero]
    refine held_three (i := 11) (j := 12) (l := 13) rfl rfl rfl (by kernel_rfl) (by kernel_rfl) (by kernel_rfl) (by kernel_rfl) ?_ ?_ ?_
    · simp [Oper.wp, execOp, Act.eval, Act.put, go_sem]
      refine (HC1.out _ hS).mono ?_
      rintro en u11 ⟨rfl, hb⟩
      exact ⟨rfl, HX.out.symm, (hS.below hb).b⟩
    · simp [Oper.wp, execOp, Act.put, go_sem]
      have h7 : Box3 (u10.alloc (.cells #[.int .i64 0, .int .i64 0, .string ⟨#[]⟩] 23)) u10.heap.size zV := Box3.new u10 zV
      have hg7 : w.heap.size + 2 ≤ u10.heap.size := hz
      have hS := hS.below ((Below.refl _ _).alloc (Nat.le_refl _) (.cells #[.int .i64 0, .int .i64 0, .string ⟨#[]⟩] 23))
      have hz : w.heap.size + 2 ≤ (u10.alloc (.cells #[.int .i64 0, .int .i64 0, .string ⟨#[]⟩] 23)).heap.size := by simp; omega
      obtain ⟨u12, hW2⟩ : ∃ q, u10.alloc (.cells #[.int .i64 0, .int .i64 0, .string ⟨#[]⟩] 23) = q := ⟨_, rfl⟩
      have hsz : u10.heap.size = u10.heap.size := rfl
      rw [hW2] at h7 hS hz
      first | rw [hW2] | (rw [show (W1.alloc (.cells #[.int .i64 0, .int .i64 0, .string ⟨#[]⟩] 23)).drew = u12 from hW2]; try rw [show W1.heap.size = W1.drew.heap.size from rfl])
      obtain ⟨g7, hgg⟩ : ∃ q, u10.heap.size = q := ⟨_, rfl⟩
      rw [hgg] at h7 hg7
      try rw [hgg]
      clear hW2 hgg hsz
      refine ⟨hS, ?_⟩
      try simp only [List.setIfInBounds_toArray, List.set_cons_succ, List.set_cons_zero]
      refine held_two (i := 11) (j := 13) rfl rfl (by kernel_rfl) (by kernel_rfl) (by kernel_rfl) ?_ ?_
      · simp [Oper.wp, execOp, Act.eval, Act.put, go_sem]
        refine (HC1.out _ hS).mono ?_
        rintro en u13 ⟨rfl, hb⟩
        exact ⟨rfl, HX.out.symm, (hS.below hb).b⟩
      · simp [Oper.wp, execOp, Act.put, go_sem]
        have h8 : Box3 (u12.alloc (.cells #[.int .i64 0, .int .i64 0, .string ⟨#[]⟩] 23)) u12.heap.size zV := Box3.new u12 zV
        have hg8 : w.heap.size + 2 ≤ u12.heap.size := hz
        have hne : g7 < u12.heap.size := h7.lt
        have h7 := h7.alloc (.cells #[.int .i64 0, .int .i64 0, .string ⟨#[]⟩] 23)
        have hS := hS.below ((Below.refl _ _).alloc (Nat.le_refl _) (.cells #[.int .i64 0, .int .i64 0, .string ⟨#[]⟩] 23))
        have hz : w.heap.size + 2 ≤ (u12.alloc (.cells #[.int .i64 0, .int .i64 0, .string ⟨#[]⟩] 23)).heap.size := by simp; omega
        obtain ⟨u14, hW2⟩ : ∃ q, u12.alloc (.cells #[.int .i64 0, .int .i64 0, .string ⟨#[]⟩] 23) = q := ⟨_, rfl⟩
        have hsz : u12.heap.size = u12.heap.size := rfl
        rw [hW2] at h8 hS hz
        rw [hW2] at h7
        first | rw [hW2] | (rw [show (W1.alloc (.cells #[.int .i64 0, .int .i64 0, .string ⟨#[]⟩] 23)).drew = u14 from hW2]; try rw [show W1.heap.size = W1.drew.heap.size from rfl])
        obtain ⟨g8, hgg⟩ : ∃ q, u12.heap.size = q := ⟨_, rfl⟩
        rw [hgg] at h8 hg8 hne
        try rw [hgg]
        clear hW2 hgg hsz
        refine ⟨hS, ?_⟩
        try simp only [List.setIfInBounds_toArray, List.set_cons_succ, List.set_cons_zero]
        refine held_call (i := 11) rfl (by kernel_rfl) (by kernel_rfl) ?_
        simp [Oper.wp, execOp, Act.eval, Act.put, go_sem]
        refine (HC1.out _ hS).mono ?_
        rintro en u15 ⟨rfl, hb⟩
        exact ⟨rfl, HX.out.symm, (hS.below hb).b⟩
    · simp [Oper.wp, execOp, Act.put, go_sem]
      have h8 : Box3 (u10.alloc (.cells #[.int .i64 0, .int .i64 0, .string ⟨#[]⟩] 23)) u10.heap.size zV := Box3.new u10 zV
      have hg8 : w.heap.size + 2 ≤ u10.heap.size := hz
      have hS := hS.below ((Below.refl _ _).alloc (Nat.le_refl _) (.cells #[.int .i64 0, .int .i64 0, .string ⟨#[]⟩] 23))
      have hz : w.heap.size + 2 ≤ (u10.alloc (.cells #[.int .i64 0, .int .i64 0, .string ⟨#[]⟩] 23)).heap.size := by simp; omega
      obtain ⟨u16, hW2⟩ : ∃ q, u10.alloc (.cells #[.int .i64 0, .int .i64 0, .string ⟨#[]⟩] 23) = q := ⟨_, rfl⟩
      have hsz : u10.heap.size = u10.heap.size := rfl
      rw [hW2] at h8 hS hz
      first | rw [hW2] | (rw [show (W1.alloc (.cells #[.int .i64 0, .int .i64 0, .string ⟨#[]⟩] 23)).drew = u16 from hW2]; try rw [show W1.heap.size = W1.drew.heap.size from rfl])
      obtain ⟨g8, hgg⟩ : ∃ q, u10.heap.size = q := ⟨_, rfl⟩
      rw [hgg] at h8 hg8
      try rw [hgg]
      clear hW2 hgg hsz
      refine ⟨hS, ?_⟩
      try simp only [List.setIfInBounds_toArray, List.set_cons_succ, List.set_cons_zero]
      refine held_two (i := 11) (j := 12) rfl rfl (by kernel_rfl) (by kernel_rfl) (by kernel_rfl) ?_ ?_
      · simp [Oper.wp, execOp, Act.eval, Act.put, go_sem]
        refine (HC1.out _ hS).mono ?_
        rintro en u17 ⟨rfl, hb⟩
        exact ⟨rfl, HX.out.symm, (hS.below hb).b⟩
      · simp [Oper.wp, execOp, Act.put, go_sem]
        have h7 : Box3 (u16.alloc (.cells #[.int .i64 0, .int .i64 0, .string ⟨#[]⟩] 23)) u16.heap.size zV := Box3.new u16 zV
        have hg7 : w.heap.size + 2 ≤ u16.heap.size := hz
        have hne : g8 < u16.heap.size := h8.lt
        have h8 := h8.alloc (.cells #[.int .i64 0, .int .i64 0, .string ⟨#[]⟩] 23)
        have hS := hS.below ((Below.refl _ _).alloc (Nat.le_refl _) (.cells #[.int .i64 0, .int .i64 0, .string ⟨#[]⟩] 23))
        have hz : w.heap.size + 2 ≤ (u16.alloc (.cells #[.int .i64 0, .int .i64 0, .string ⟨#[]⟩] 23)).heap.size := by simp; omega
        obtain ⟨u18, hW2⟩ : ∃ q, u16.alloc (.cells #[.int .i64 0, .int .i64 0, .string ⟨#[]⟩] 23) = q := ⟨_, rfl⟩
        have hsz : u16.heap.size = u16.heap.size := rfl
        rw [hW2] at h7 hS hz
        rw [hW2] at h8
        first | rw [hW2] | (rw [show (W1.alloc (.cells #[.int .i64 0, .int .i64 0, .string ⟨#[]⟩] 23)).drew = u18 from hW2]; try rw [show W1.heap.size = W1.drew.heap.size from rfl])
        obtain ⟨g7, hgg⟩ : ∃ q, u16.heap.size = q := ⟨_, rfl⟩
        rw [hgg] at h7 hg7 hne
        try rw [hgg]
        clear hW2 hgg hsz
        refine ⟨hS, ?_⟩
        try simp only [List.setIfInBounds_toArray, List.set_cons_succ, List.set_cons_zero]
        refine held_call (i := 11) rfl (by kernel_rfl) (by kernel_rfl) ?_
        simp [Oper.wp, execOp, Act.eval, Act.put, go_sem]
        refine (HC1.out _ hS).mono ?_
        rintro en u19 ⟨rfl, hb⟩
        exact ⟨rfl, HX.out.symm, (hS.below hb).b⟩
  · simp [Oper.wp, execOp, Act.put, go_sem]
    have h7 : Box3 (W1.drew.alloc (.cells #[.int .i64 0, .int .i64 0, .string ⟨#[]⟩] 23)) W1.drew.heap.size zV := Box3.new W1.drew zV
    have hg7 : w.heap.size + 2 ≤ W1.drew.heap.size := hz
    have hS := hS.below ((Below.refl _ _).alloc (Nat.le_refl _) (.cells #[.int .i64 0, .int .i64 0, .string ⟨#[]⟩] 23))
    have hz : w.heap.size + 2 ≤ (W1.drew.alloc (.cells #[.int .i64 0, .int .i64 0, .string ⟨#[]⟩] 23)).heap.size := by simp; omega
    obtain ⟨u20, hW2⟩ : ∃ q, W1.drew.alloc (.cells #[.int .i64 0, .int .i64 0, .string ⟨#[]⟩] 23) = q := ⟨_, rfl⟩
    have hsz : W1.drew.heap.size = W1.drew.heap.size := rfl
    rw [hW2] at h7 hS hz
    first | rw [hW2] | (rw [show (W1.alloc (.cells #[.int .i64 0, .int .i64 0, .string ⟨#[]⟩] 23)).drew = u20 from hW2]; try rw [show W1.heap.size = W1.drew.heap.size from rfl])
    obtain ⟨g7, hgg⟩ : ∃ q, W1.drew.heap.size = q := ⟨_, rfl⟩
    rw [hgg] at h7 hg7
    try rw [hgg]
    clear hW2 hgg hsz
    refine ⟨hS, ?_⟩
    try simp only [List.setIfInBounds_toArray, List.set_cons_succ, List.set_cons_zero]
    refine held_two (i := 5) (j := 13) rfl rfl (by kernel_rfl) (by kernel_rfl) (by kernel_rfl) ?_ ?_
    · simp [Oper.wp, execOp, Act.eval, Act.put, go_sem]
      refine (HC0.out _ hS).mono ?_
      rintro en u21 ⟨rfl, hb⟩
      have hz : w.heap.size + 2 ≤ u21.heap.size := Nat.le_trans hz hb.size
      have h7 := h7.below hb
      have hS := hS.below hb
      clear hb
      refine ⟨hS, ?_⟩
      try simp only [List.setIfInBounds_toArray, List.set_cons_succ, List.set_cons_zero]
      refine held_two (i := 11) (j := 13) rfl rfl (by kernel_rfl) (by kernel_rfl) (by kernel_rfl) ?_ ?_
      · simp [Oper.wp, execOp, Act.eval, Act.put, go_sem]
        refine (HC1.out _ hS).mono ?_
        rintro en u22 ⟨rfl, hb⟩
        exact ⟨rfl, HX.out.symm, (hS.below hb).b⟩
      · simp [Oper.wp, execOp, Act.put, go_sem]
        have h8 : Box3 (u21.alloc (.cells #[.int .i64 0, .int .i64 0, .string ⟨#[]⟩] 23)) u21.heap.size zV := Box3.new u21 zV
        have hg8 : w.heap.size + 2 ≤ u21.heap.size := hz
        have hne : g7 < u21.heap.size := h7.lt
        have h7 := h7.alloc (.cells #[.int .i64 0, .int .i64 0, .string ⟨#[]⟩] 23)
        have hS := hS.below ((Below.refl _ _).alloc (Nat.le_refl _) (.cells #[.int .i64 0, .int .i64 0, .string ⟨#[]⟩] 23))
        have hz : w.heap.size + 2 ≤ (u21.alloc (.cells #[.int .i64 0, .int .i64 0, .string ⟨#[]⟩] 23)).heap.size := by simp; omega
        obtain ⟨u23, hW2⟩ : ∃ q, u21.alloc (.cells #[.int .i64 0, .int .i64 0, .string ⟨#[]⟩] 23) = q := ⟨_, rfl⟩
        have hsz : u21.heap.size = u21.heap.size := rfl
        rw [hW2] at h8 hS hz
        rw [hW2] at h7
        first | rw [hW2] | (rw [show (W1.alloc (.cells #[.int .i64 0, .int .i64 0, .string ⟨#[]⟩] 23)).drew = u23 from hW2]; try rw [show W1.heap.size = W1.drew.heap.size from rfl])
        obtain ⟨g8, hgg⟩ : ∃ q, u21.heap.size = q := ⟨_, rfl⟩
        rw [hgg] at h8 hg8 hne
        try rw [hgg]
        clear hW2 hgg hsz
        refine ⟨hS, ?_⟩
        try simp only [List.setIfInBounds_toArray, List.set_cons_succ, List.set_cons_zero]
        refine held_call (i := 11) rfl (by kernel_rfl) (by kernel_rfl) ?_
        simp [Oper.wp, execOp, Act.eval, Act.put, go_sem]
        refine (HC1.out _ hS).mono ?_
        rintro en u24 ⟨rfl, hb⟩
        exact ⟨rfl, HX.out.symm, (hS.below hb).b⟩
    · simp [Oper.wp, execOp, Act.put, go_sem]
      have h8 : Box3 (u20.alloc (.cells #[.int .i64 0, .int .i64 0, .string ⟨#[]⟩] 23)) u20.heap.size zV := Box3.new u20 zV
      have hg8 : w.heap.size + 2 ≤ u20.heap.size := hz
      have hne : g7 < u20.heap.size := h7.lt
      have h7 := h7.alloc (.cells #[.int .i64 0, .int .i64 0, .string ⟨#[]⟩] 23)
      have hS := hS.below ((Below.refl _ _).alloc (Nat.le_refl _) (.cells #[.int .i64 0, .int .i64 0, .string ⟨#[]⟩] 23))
      have hz : w.heap.size + 2 ≤ (u20.alloc (.cells #[.int .i64 0, .int .i64 0, .string ⟨#[]⟩] 23)).heap.size := by simp; omega
      obtain ⟨u25, hW2⟩ : ∃ q, u20.alloc (.cells #[.int .i64 0, .int .i64 0, .string ⟨#[]⟩] 23) = q := ⟨_, rfl⟩
      have hsz : u20.heap.size = u20.heap.size := rfl
      rw [hW2] at h8 hS hz
      rw [hW2] at h7
      first | rw [hW2] | (rw [show (W1.alloc (.cells #[.int .i64 0, .int .i64 0, .string ⟨#[]⟩] 23)).drew = u25 from hW2]; try rw [show W1.heap.size = W1.drew.heap.size from rfl])
      obtain ⟨g8, hgg⟩ : ∃ q, u20.heap.size = q := ⟨_, rfl⟩
      rw [hgg] at h8 hg8 hne
      try rw [hgg]
      clear hW2 hgg hsz
      refine ⟨hS, ?_⟩
      try simp only [List.setIfInBounds_toArray, List.set_cons_succ, List.set_cons_zero]
      refine held_call (i := 5) rfl (by kernel_rfl) (by kernel_rfl) ?_
      simp [Oper.wp, execOp, Act.eval, Act.put, go_sem]
      refine (HC0.out _ hS).mono ?_
      rintro en u26 ⟨rfl, hb⟩
      have hz : w.heap.size + 2 ≤ u26.heap.size := Nat.le_trans hz hb.size
      have h7 := h7.below hb
      have h8 := h8.below hb
      have hS := hS.below hb
      clear hb
      refine ⟨hS, ?_⟩
      try simp only [List.setIfInBounds_toArray, List.set_cons_succ, List.set_cons_zero]
      refine held_call (i := 11) rfl (by kernel_rfl) (by kernel_rfl) ?_
      simp [Oper.wp, execOp, Act.eval, Act.put, go_sem]
      refine (HC1.out _ hS).mono ?_
      rintro en u27 ⟨rfl, hb⟩
      exact ⟨rfl, HX.out.symm, (hS.below hb).b⟩
  · simp [Oper.wp, execOp, Act.put, go_sem]
    have h8 : Box3 (W1.drew.alloc (.cells #[.int .i64 0, .int .i64 0, .string ⟨#[]⟩] 23)) W1.drew.heap.size zV := Box3.new W1.drew zV
    have hg8 : w.heap.size + 2 ≤ W1.drew.heap.size := hz
    have hS := hS.below ((Below.refl _ _).alloc (Nat.le_refl _) (.cells #[.int .i64 0, .int .i64 0, .string ⟨#[]⟩] 23))
    have hz : w.heap.size + 2 ≤ (W1.drew.alloc (.cells #[.int .i64 0, .int .i64 0, .string ⟨#[]⟩] 23)).heap.size := by simp; omega
    obtain ⟨u28, hW2⟩ : ∃ q, W1.drew.alloc (.cells #[.int .i64 0, .int .i64 0, .string ⟨#[]⟩] 23) = q := ⟨_, rfl⟩
    have hsz : W1.drew.heap.size = W1.drew.heap.size := rfl
    rw [hW2] at h8 hS hz
    first | rw [hW2] | (rw [show (W1.alloc (.cells #[.int .i64 0, .int .i64 0, .string ⟨#[]⟩] 23)).drew = u28 from hW2]; try rw [show W1.heap.size = W1.drew.heap.size from rfl])
    obtain ⟨g8, hgg⟩ : ∃ q, W1.drew.heap.size = q := ⟨_, rfl⟩
    rw [hgg] at h8 hg8
    try rw [hgg]
    clear hW2 hgg hsz
    refine ⟨hS, ?_⟩
    try simp only [List.setIfInBounds_toArray, List.set_cons_succ, List.set_cons_zero]
    refine held_two (i := 5) (j := 12) rfl rfl (by kernel_rfl) (by kernel_rfl) (by kernel_rfl) ?_ ?_
    · simp [Oper.wp, execOp, Act.eval, Act.put, go_sem]
      refine (HC0.out _ hS).mono ?_
      rintro en u29 ⟨rfl, hb⟩
      have hz : w.heap.size + 2 ≤ u29.heap.size := Nat.le_trans hz hb.size
      have h8 := h8.below hb
      have hS := hS.below hb
      clear hb
      refine ⟨hS, ?_⟩
      try simp only [List.setIfInBounds_toArray, List.set_cons_succ, List.set_cons_zero]
      refine held_two (i := 11) (j := 12) rfl rfl (by kernel_rfl) (by kernel_rfl) (by kernel_rfl) ?_ ?_
      · simp [Oper.wp, execOp, Act.eval, Act.put, go_sem]
        refine (HC1.out _ hS).mono ?_
        rintro en u30 ⟨rfl, hb⟩
        exact ⟨rfl, HX.out.symm, (hS.below hb).b⟩
      · simp [Oper.wp, execOp, Act.put, go_sem]
        have h7 : Box3 (u29.alloc (.cells #[.int .i64 0, .int .i64 0, .string ⟨#[]⟩] 23)) u29.heap.size zV := Box3.new u29 zV
        have hg7 : w.heap.size + 2 ≤ u29.heap.size := hz
        have hne : g8 < u29.heap.size := h8.lt
        have h8 := h8.alloc (.cells #[.int .i64 0, .int .i64 0, .string ⟨#[]⟩] 23)
        have hS := hS.below ((Below.refl _ _).alloc (Nat.le_refl _) (.cells #[.int .i64 0, .int .i64 0, .string ⟨#[]⟩] 23))
        have hz : w.heap.size + 2 ≤ (u29.alloc (.cells #[.int .i64 0, .int .i64 0, .string ⟨#[]⟩] 23)).heap.size := by simp; omega
        obtain ⟨u31, hW2⟩ : ∃ q, u29.alloc (.cells #[.int .i64 0, .int .i64 0, .string ⟨#[]⟩] 23) = q := ⟨_, rfl⟩
        have hsz : u29.heap.size = u29.heap.size := rfl
        rw [hW2] at h7 hS hz
        rw [hW2] at h8
        first | rw [hW2] | (rw [show (W1.alloc (.cells #[.int .i64 0, .int .i64 0, .string ⟨#[]⟩] 23)).drew = u31 from hW2]; try rw [show W1.heap.size = W1.drew.heap.size from rfl])
        obtain ⟨g7, hgg⟩ : ∃ q, u29.heap.size = q := ⟨_, rfl⟩
        rw [hgg] at h7 hg7 hne
        try rw [hgg]
        clear hW2 hgg hsz
        refine ⟨hS, ?_⟩
        try simp only [List.setIfInBounds_toArray, List.set_cons_succ, List.set_cons_zero]
        refine held_call (i := 11) rfl (by kernel_rfl) (by kernel_rfl) ?_
        simp [Oper.wp, execOp, Act.eval, Act.put, go_sem]
        refine (HC1.out _ hS).mono ?_
        rintro en u32 ⟨rfl, hb⟩
        exact ⟨rfl, HX.out.symm, (hS.below hb).b⟩
    · simp [Oper.wp, execOp, Act.put, go_sem]
      have h7 : Box3 (u28.alloc (.cells #[.int .i64 0, .int .i64 0, .string ⟨#[]⟩] 23)) u28.heap.size zV := Box3.new u28 zV
      have hg7 : w.heap.size + 2 ≤ u28.heap.size := hz
      have hne : g8 < u28.heap.size := h8.lt
      have h8 := h8.alloc (.cells #[.int .i64 0, .int .i64 0, .string ⟨#[]⟩] 23)
      have hS := hS.below ((Below.refl _ _).alloc (Nat.le_refl _) (.cells #[.int .i64 0, .int .i64 0, .string ⟨#[]⟩] 23))
      have hz : w.heap.size + 2 ≤ (u28.alloc (.cells #[.int .i64 0, .int .i64 0, .string ⟨#[]⟩] 23)).heap.size := by simp; omega
      obtain ⟨u33, hW2⟩ : ∃ q, u28.alloc (.cells #[.int .i64 0, .int .i64 0, .string ⟨#[]⟩] 23) = q := ⟨_, rfl⟩
      have hsz : u28.heap.size = u28.heap.size := rfl
      rw [hW2] at h7 hS hz
      rw [hW2] at h8
      first | rw [hW2] | (rw [show (W1.alloc (.cells #[.int .i64 0, .int .i64 0, .string ⟨#[]⟩] 23)).drew = u33 from hW2]; try rw [show W1.heap.size = W1.drew.heap.size from rfl])
      obtain ⟨g7, hgg⟩ : ∃ q, u28.heap.size = q := ⟨_, rfl⟩
      rw [hgg] at h7 hg7 hne
      try rw [hgg]
      clear hW2 hgg hsz
      refine ⟨hS, ?_⟩
      try simp only [List.setIfInBounds_toArray, List.set_cons_succ, List.set_cons_zero]
      refine held_call (i := 5) rfl (by kernel_rfl) (by kernel_rfl) ?_
      simp [Oper.wp, execOp, Act.eval, Act.put, go_sem]
      refine (HC0.out _ hS).mono ?_
      rintro en u34 ⟨rfl, hb⟩
      have hz : w.heap.size + 2 ≤ u34.heap.size := Nat.le_trans hz hb.size
      have h7 := h7.below hb
      have h8 := h8.below hb
      have hS := hS.below hb
      clear hb
      refine ⟨hS, ?_⟩
      try simp only [List.setIfInBounds_toArray, List.set_cons_succ, List.set_cons_zero]
      refine held_call (i := 11) rfl (by kernel_rfl) (by kernel_rfl) ?_
      simp [Oper.wp, execOp, Act.eval, Act.put, go_sem]
      refine (HC1.out _ hS).mono ?_
      rintro en u35 ⟨rfl, hb⟩
      exact ⟨rfl, HX.out.symm, (hS.below hb).b⟩
end
end Go.Proofs.YtclcabdekeegdaaGreat
