/- Layer 13, walked: alive (wip/gen/XExQ4.py). -/
import Derived.Test.YtclcabdekeegdaaGreatExQa
namespace Go.Proofs.YtclcabdekeegdaaGreat
open Go.ChangeShapes Go.WideShapes Go.ChangeAt Go.RowKit
set_option linter.unusedVariables false
set_option linter.unusedSimpArgs false
set_option maxHeartbeats 16000000 in
set_option maxRecDepth 40000 in
theorem alive_any (w : World) : Calls Tryz.prog 10 #[] w fun en w' => en = .returned (.bool true) ∧ Below w.heap.size w w' := by
  have TOK : Hid True := Lib.hid trivial
  go_enter Tryz.func10, Tryz.ntmps10
  go_wp2_with (first
    | (have T1 := TOK; clear TOK; go_at_call 29; refine (lone_any 1 _).mono ?_; rintro e w2 ⟨rfl, hb2⟩; have HB2 := Lib.hid hb2; clear hb2)
    | (have T2 := T1; clear T1; go_at_call 29; refine (lone_any 0 _).mono ?_; rintro e w3 ⟨rfl, hb3⟩; have HB3 := Lib.hid hb3; clear hb3))
  have hal := al_new w w2 w3 HB2.out HB3.out
  obtain ⟨W6, hW6⟩ : ∃ q, ((w3.alloc (.cells #[.int .i64 2, .string ⟨#[]⟩, .int .i64 1, .int .i64 1, .string ⟨#[]⟩, .slice none 0 0, .int .i64 2, .string ⟨#[]⟩, .int .i64 1, .int .i64 0, .string ⟨#[]⟩, .slice none 0 0] 26)).alloc (.cells #[.int .i64 7, .string ⟨#[]⟩, .int .i64 0, .int .i64 0, .string ⟨#[]⟩, .slice (some ⟨w3.heap.size, 0, none⟩) 2 2] 26)).alloc (.cells #[.int .i64 2, .string ⟨#[]⟩, .int .i64 2, .int .i64 0, .string ⟨#[]⟩, .slice none 0 0] 26) = q := ⟨_, rfl⟩
  rw [hW6] at hal ⊢
  have hs6 : W6.heap.size = w3.heap.size + 1 + 1 + 1 := by rw [← hW6]; simp
  have hb7 : Below W6.heap.size W6 (W6.alloc (.cells #[.int .i64 0, .int .i64 0, .string ⟨#[]⟩] 23)) := (Below.refl _ W6).alloc (Nat.le_refl _) _
  have hal7 := hal.below hb7
  have hq7 : (W6.alloc (.cells #[.int .i64 0, .int .i64 0, .string ⟨#[]⟩] 23)).heap[w3.heap.size + 1 + 1 + 1]? = some (.cells #[.int .i64 0, .int .i64 0, .string ⟨#[]⟩] 23) := by rw [← hs6]; exact World.alloc_heap_new _ _
  refine (hal7.worth divX div_wf (some ⟨w3.heap.size, 0, none⟩) 2 hal7.kds _ hq7).mono ?_
  rintro e w8 ⟨rfl, hb8⟩
  rw [worth_div]
  have HA8 := Lib.hid (hal7.below hb8)
  clear hb7 hb8 hal hal7 hq7 hs6 hW6
  unfold endV nulV V.val
  dsimp only
  go_wp2_with fail
  rename_i K hK
  have HREST : ∀ (u0 u2 u4 u8 u9 u10 u11 u12 u13 u14 u15 u16 u17 u18 u19 u20 u21 u22 u23 u24 u25 u26 u27 u28 u29 u30 u31 u32 u33 u34 u35 u36 u37 u38 u39 u40 u41 u42 u43 u44 u45 u46 u47 u48 u49 u50 u51 u52 u53 u54 u55 u56 u57 u58 u59 u60 u61 u62 u63 u64 u65 u66 u67 u68 u69 u70 u71 u72 u73 : Value) (g : Nat) (W : World), Al w w.heap.size w3.heap.size (w3.heap.size + 1) (w3.heap.size + 1 + 1) W → Box3 W g (intW 2) → K ⟨#[u0, .slice (some ⟨w.heap.size, 0, none⟩) 1 1, u2, .pointer (some ⟨w3.heap.size + 1 + 1, 0, none⟩), u4, .int .i64 11, .pointer (some ⟨g, 0, none⟩), .int .i64 0, u8, u9, u10, u11, u12, u13, u14, u15, u16, u17, u18, u19, u20, u21, u22, u23, u24, u25, u26, u27, u28, u29, u30, u31, u32, u33, u34, u35, u36, u37, u38, u39, u40, u41, u42, u43, u44, u45, u46, u47, u48, u49, u50, u51, u52, u53, u54, u55, u56, u57, u58, u59, u60, u61, u62, u63, u64, u65, u66, u67, u68, u69, u70, u71, u72, u73], []⟩ W := by
    clear HA8 HB2 HB3 T2
    intro u0 u2 u4 u8 u9 u10 u11 u12 u13 u14 u15 u16 u17 u18 u19 u20 u21 u22 u23 u24 u25 u26 u27 u28 u29 u30 u31 u32 u33 u34 u35 u36 u37 u38 u39 u40 u41 u42 u43 u44 u45 u46 u47 u48 u49 u50 u51 u52 u53 u54 u55 u56 u57 u58 u59 u60 u61 u62 u63 u64 u65 u66 u67 u68 u69 u70 u71 u72 u73 g W hA hB
    apply hK
    have p0 : W.cell? ⟨w3.heap.size + 1 + 1, 0, none⟩ = some (.int .i64 2) := (obj_cells hA.n).1
    have p1 : W.cell? ⟨w3.heap.size + 1 + 1, 1, none⟩ = some (.string ⟨#[]⟩) := (obj_cells hA.n).2.1
    have p2 : W.cell? ⟨w3.heap.size + 1 + 1, 2, none⟩ = some (.int .i64 2) := (obj_cells hA.n).2.2.1
    have p3 : W.cell? ⟨w3.heap.size + 1 + 1, 3, none⟩ = some (.int .i64 0) := (obj_cells hA.n).2.2.2.1
    have p4 : W.cell? ⟨w3.heap.size + 1 + 1, 4, none⟩ = some (.string ⟨#[]⟩) := (obj_cells hA.n).2.2.2.2.1
    have p5 : W.cell? ⟨w3.heap.size + 1 + 1, 5, none⟩ = some (.slice none 0 0) := (obj_cells hA.n).2.2.2.2.2
    have HA := Lib.hid hA
    have HB := Lib.hid hB
    clear hA hB hK
    go_wp2_with fail
    have hb1 : Below W.heap.size W (W.alloc (.cells #[.int .i64 3, .string ⟨#[98, 111, 111, 108]⟩, .int .i64 0, .int .i64 0, .string ⟨#[]⟩, .slice none 0 0, .int .i64 2, .string ⟨#[]⟩, .int .i64 2, .int .i64 0, .string ⟨#[]⟩, .slice none 0 0] 26)) := (Below.refl _ _).alloc (Nat.le_refl _) _
    have hk1 : KidsAt (W.alloc (.cells #[.int .i64 3, .string ⟨#[98, 111, 111, 108]⟩, .int .i64 0, .int .i64 0, .string ⟨#[]⟩, .slice none 0 0, .int .i64 2, .string ⟨#[]⟩, .int .i64 2, .int .i64 0, .string ⟨#[]⟩, .slice none 0 0] 26)) (W.alloc (.cells #[.int .i64 3, .string ⟨#[98, 111, 111, 108]⟩, .int .i64 0, .int .i64 0, .string ⟨#[]⟩, .slice none 0 0, .int .i64 2, .string ⟨#[]⟩, .int .i64 2, .int .i64 0, .string ⟨#[]⟩, .slice none 0 0] 26)).heap.size andX (some ⟨W.heap.size, 0, none⟩) 2 := laid2 leaf_at leaf_at _ _ _ rfl _
    obtain ⟨Vw, hV⟩ : ∃ Vw, W.alloc (.cells #[.int .i64 3, .string ⟨#[98, 111, 111, 108]⟩, .int .i64 0, .int .i64 0, .string ⟨#[]⟩, .slice none 0 0, .int .i64 2, .string ⟨#[]⟩, .int .i64 2, .int .i64 0, .string ⟨#[]⟩, .slice none 0 0] 26) = Vw := ⟨_, rfl⟩
    rw [hV] at hb1 hk1 ⊢
    have hs1 : Vw.heap.size = W.heap.size + 1 := by rw [← hV]; simp
    have hb2 : Below Vw.heap.size Vw (Vw.alloc (.cells #[.int .i64 0, .int .i64 0, .string ⟨#[]⟩] 23)) := (Below.refl _ _).alloc (Nat.le_refl _) _
    have hq2 : (Vw.alloc (.cells #[.int .i64 0, .int .i64 0, .string ⟨#[]⟩] 23)).heap[W.heap.size + 1]? = some (.cells #[.int .i64 0, .int .i64 0, .string ⟨#[]⟩] 23) := by rw [← hs1]; exact World.alloc_heap_new _ _
    have hA2 := (HA.out.below hb1).below hb2
    have hB2 := (HB.out.below hb1).below hb2
    refine (hA2.worth andX and_wf (some ⟨W.heap.size, 0, none⟩) 2 (KidsAt.more hb2.size (hk1.below hb2)) _ hq2).mono ?_
    rintro e w5 ⟨rfl, hb5⟩
    rw [worth_and]
    have hA5 := hA2.below hb5
    have hB5 := hB2.below hb5
    have s0 := hB5.c0
    have s1 := hB5.c1
    have s2 := hB5.c2
    have hlt5 := hB5.lt
    have HA5 := Lib.hid hA5.bel
    clear hA2 hB2 hA5 hb1 hb2 hb5 hk1 hq2 hV hs1 p0 p1 p2 p3 p4 p5 hB5
    unfold intW at s0 s1 s2
    unfold endV boolW V.val
    dsimp only at s0 s1 s2 ⊢
    simp only [Bool.false_eq_true, if_false]
    go_wp2
    go_ret
    exact ⟨rfl, HA5.out.alloc (by have := HA5.out.size; omega) _⟩
  clear hK
  have hA : Al w w.heap.size w3.heap.size (w3.heap.size + 1) (w3.heap.size + 1 + 1) (w8.alloc (.cells #[.int .i64 0, .int .i64 0, .string ⟨#[]⟩] 23)) := HA8.out.below ((Below.refl _ _).alloc (Nat.le_refl _) _)
  obtain ⟨U0, hU0⟩ : ∃ q, w8.alloc (.cells #[.int .i64 0, .int .i64 0, .string ⟨#[]⟩] 23) = q := ⟨_, rfl⟩
  rw [hU0] at hA ⊢
  have hS : Al w w.heap.size w3.heap.size (w3.heap.size + 1) (w3.heap.size + 1 + 1) U0.drew := hA.below (Below.refl _ _).drew
  clear hA hU0 HA8 HB2 HB3 T2
  refine held_begin 15 (fun W => Al w w.heap.size w3.heap.size (w3.heap.size + 1) (w3.heap.size + 1 + 1) W) rfl (by kernel_rfl) ?_
  obtain ⟨U1, hU1⟩ : ∃ q, U0.drew = q := ⟨_, rfl⟩
  rw [hU1] at hS ⊢
  clear hU1
  refine held_take (i := 0) (t := 27) (v := (.agg #[.int .i64 2, .string ⟨#[]⟩, .int .i64 2, .int .i64 0, .string ⟨#[]⟩, .slice none 0 0])) (fuel := 14) rfl rfl (by kernel_rfl) (by kernel_rfl) (by kernel_rfl) (fun _ _ _ h => h) (.inl ⟨rfl, fun W hW => by simp [execOp, Act.eval, go_sem, (obj_cells hW.n).1, (obj_cells hW.n).2.1, (obj_cells hW.n).2.2.1, (obj_cells hW.n).2.2.2.1, (obj_cells hW.n).2.2.2.2.1, (obj_cells hW.n).2.2.2.2.2, noX, X.op, X.nm, X.v, X.ks, emp]⟩) hS ?_
  simp only [List.setIfInBounds_toArray, List.set_cons_succ, List.set_cons_zero]
  refine held_take (i := 1) (t := 28) (v := (.agg #[.int .i64 7, .string ⟨#[]⟩, .int .i64 0, .int .i64 0, .string ⟨#[]⟩, .slice (some ⟨w3.heap.size, 0, none⟩) 2 2])) (fuel := 13) rfl rfl (by kernel_rfl) (by kernel_rfl) (by kernel_rfl) (fun _ _ _ h => h) (.inl ⟨rfl, fun W hW => by simp [execOp, Act.eval, go_sem, (obj_cells hW.d).1, (obj_cells hW.d).2.1, (obj_cells hW.d).2.2.1, (obj_cells hW.d).2.2.2.1, (obj_cells hW.d).2.2.2.2.1, (obj_cells hW.d).2.2.2.2.2, divX, X.op, X.nm, X.v, X.ks, emp]⟩) hS ?_
  simp only [List.setIfInBounds_toArray, List.set_cons_succ, List.set_cons_zero]
  refine held_take (i := 5) (t := 32) (v := (.slice (some ⟨w.heap.size, 0, none⟩) 1 1)) (fuel := 12) rfl rfl (by kernel_rfl) (by kernel_rfl) (by kernel_rfl) (fun _ _ _ h => h) (.inl ⟨rfl, fun W hW => by simp [execOp, Act.eval, go_sem]⟩) hS ?_
  simp only [List.setIfInBounds_toArray, List.set_cons_succ, List.set_cons_zero]
  refine held_take (i := 6) (t := 33) (v := (.agg #[.int .i64 0, .int .i64 0, .string ⟨#[]⟩])) (fuel := 11) rfl rfl (by kernel_rfl) (by kernel_rfl) (by kernel_rfl) (fun _ _ _ h => h) (.inl ⟨rfl, fun W hW => by simp [execOp, Act.eval, go_sem]⟩) hS ?_
  simp only [List.setIfInBounds_toArray, List.set_cons_succ, List.set_cons_zero]
  have hlt : w3.heap.size + 1 + 1 < U1.heap.size ∧ w.heap.size < U1.heap.size := ⟨lt_of_heap hS.n, lt_of_heap hS.col⟩
  refine held_three (i := 2) (j := 7) (l := 12) rfl rfl rfl (by kernel_rfl) (by kernel_rfl) (by kernel_rfl) (by kernel_rfl) ?_ ?_ ?_
  · simp [Oper.wp, execOp, Act.eval, Act.put, go_sem]
    refine (lone_any 2 _).mono ?_
    rintro en V1 ⟨rfl, hb⟩
    have hS := hS.below hb
    clear hb
    refine ⟨hS, ?_⟩
    try simp only [List.setIfInBounds_toArray, List.set_cons_succ, List.set_cons_zero]
    have hlt : w3.heap.size + 1 + 1 < V1.heap.size ∧ w.heap.size < V1.heap.size := ⟨lt_of_heap hS.n, lt_of_heap hS.col⟩
    refine held_three (i := 3) (j := 7) (l := 12) rfl rfl rfl (by kernel_rfl) (by kernel_rfl) (by kernel_rfl) (by kernel_rfl) ?_ ?_ ?_
    · simp [Oper.wp, execOp, Act.eval, Act.put, go_sem]
      have hb : Below V1.heap.size V1 (V1.alloc (.cells #[.int .i64 2, .string ⟨#[]⟩, .int .i64 2, .int .i64 0, .string ⟨#[]⟩, .slice none 0 0, .int .i64 7, .string ⟨#[]⟩, .int .i64 0, .int .i64 0, .string ⟨#[]⟩, .slice (some ⟨w3.heap.size, 0, none⟩) 2 2, .int .i64 2, .string ⟨#[]⟩, .int .i64 1, .int .i64 2, .string ⟨#[]⟩, .slice none 0 0] 26)) := (Below.refl _ _).alloc (Nat.le_refl _) _
      have hk : KidsAt (V1.alloc (.cells #[.int .i64 2, .string ⟨#[]⟩, .int .i64 2, .int .i64 0, .string ⟨#[]⟩, .slice none 0 0, .int .i64 7, .string ⟨#[]⟩, .int .i64 0, .int .i64 0, .string ⟨#[]⟩, .slice (some ⟨w3.heap.size, 0, none⟩) 2 2, .int .i64 2, .string ⟨#[]⟩, .int .i64 1, .int .i64 2, .string ⟨#[]⟩, .slice none 0 0] 26)) (V1.alloc (.cells #[.int .i64 2, .string ⟨#[]⟩, .int .i64 2, .int .i64 0, .string ⟨#[]⟩, .slice none 0 0, .int .i64 7, .string ⟨#[]⟩, .int .i64 0, .int .i64 0, .string ⟨#[]⟩, .slice (some ⟨w3.heap.size, 0, none⟩) 2 2, .int .i64 2, .string ⟨#[]⟩, .int .i64 1, .int .i64 2, .string ⟨#[]⟩, .slice none 0 0] 26)).heap.size ifX (some ⟨V1.heap.size, 0, none⟩) 3 := laid3 leaf_at hS.kds leaf_at _ _ _ rfl _
      have hS := hS.below hb
      obtain ⟨V2, hU⟩ : ∃ q, V1.alloc (.cells #[.int .i64 2, .string ⟨#[]⟩, .int .i64 2, .int .i64 0, .string ⟨#[]⟩, .slice none 0 0, .int .i64 7, .string ⟨#[]⟩, .int .i64 0, .int .i64 0, .string ⟨#[]⟩, .slice (some ⟨w3.heap.size, 0, none⟩) 2 2, .int .i64 2, .string ⟨#[]⟩, .int .i64 1, .int .i64 2, .string ⟨#[]⟩, .slice none 0 0] 26) = q := ⟨_, rfl⟩
      rw [hU] at hk hS ⊢
      have hlt : w3.heap.size + 1 + 1 < V2.heap.size ∧ w.heap.size < V2.heap.size := ⟨lt_of_heap hS.n, lt_of_heap hS.col⟩
      clear hU hb
      obtain ⟨kb, ekb⟩ : ∃ q, V1.heap.size = q := ⟨_, rfl⟩
      rw [ekb] at hk ⊢
      clear ekb
      refine ⟨hS, ?_⟩
      try simp only [List.setIfInBounds_toArray, List.set_cons_succ, List.set_cons_zero]
      refine held_take (i := 4) (t := 31) (v := (.agg #[.int .i64 18, .string ⟨#[]⟩, .int .i64 0, .int .i64 0, .string ⟨#[]⟩, .slice (some ⟨kb, 0, none⟩) 3 3])) (fuel := 8) rfl rfl (by kernel_rfl) (by kernel_rfl) (by kernel_rfl) (fun _ _ _ h => h) (.inl ⟨rfl, fun W hW => by simp [execOp, Act.eval, go_sem]⟩) hS ?_
      simp only [List.setIfInBounds_toArray, List.set_cons_succ, List.set_cons_zero]
      refine held_two (i := 7) (j := 12) rfl rfl (by kernel_rfl) (by kernel_rfl) (by kernel_rfl) ?_ ?_
      · simp [Oper.wp, execOp, Act.eval, Act.put, go_sem]
        have hb : Below V2.heap.size V2 (V2.alloc (.cells #[.int .i64 0, .int .i64 0, .string ⟨#[]⟩] 23)) := (Below.refl _ _).alloc (Nat.le_refl _) _
        have hk := KidsAt.more hb.size (hk.below hb)
        have hS := hS.below hb
        have hq : (V2.alloc (.cells #[.int .i64 0, .int .i64 0, .string ⟨#[]⟩] 23)).heap[V2.heap.size]? = some (.cells #[.int .i64 0, .int .i64 0, .string ⟨#[]⟩] 23) := World.alloc_heap_new _ _
        obtain ⟨V3, hU⟩ : ∃ q, V2.alloc (.cells #[.int .i64 0, .int .i64 0, .string ⟨#[]⟩] 23) = q := ⟨_, rfl⟩
        rw [hU] at hq hk hS ⊢
        have hlt : w3.heap.size + 1 + 1 < V3.heap.size ∧ w.heap.size < V3.heap.size := ⟨lt_of_heap hS.n, lt_of_heap hS.col⟩
        clear hU hb
        obtain ⟨qb, eqb⟩ : ∃ q, V2.heap.size = q := ⟨_, rfl⟩
        rw [eqb] at hq ⊢
        clear eqb
        refine ⟨hS, ?_⟩
        try simp only [List.setIfInBounds_toArray, List.set_cons_succ, List.set_cons_zero]
        refine held_two (i := 8) (j := 12) rfl rfl (by kernel_rfl) (by kernel_rfl) (by kernel_rfl) ?_ ?_
        · simp [Oper.wp, execOp, Act.eval, Act.put, go_sem]
          refine (hS.worth ifX if_wf (some ⟨kb, 0, none⟩) 3 hk _ hq).mono ?_
          rintro en V4 ⟨rfl, hb⟩
          rw [worth_if]
          unfold endV intW V.val
          dsimp only
          have hk := KidsAt.more hb.size (hk.below hb)
          have hq := (hb.block _ (lt_of_heap hq)).trans hq
          have hS := hS.below hb
          clear hb hk hq
          refine ⟨hS, ?_⟩
          try simp only [List.setIfInBounds_toArray, List.set_cons_succ, List.set_cons_zero]
          refine held_take (i := 9) (t := 26) (v := (.tuple #[.agg #[.int .i64 1, .int .i64 2, .string ⟨#[]⟩], .int .i64 0])) (fuel := 5) rfl rfl (by kernel_rfl) (by kernel_rfl) (by kernel_rfl) (fun _ _ _ h => h) (.inl ⟨rfl, fun W hW => by simp [execOp, Act.eval, go_sem]⟩) hS ?_
          simp only [List.setIfInBounds_toArray, List.set_cons_succ, List.set_cons_zero]
          refine held_take (i := 10) (t := 36) (v := (.agg #[.int .i64 1, .int .i64 2, .string ⟨#[]⟩])) (fuel := 4) rfl rfl (by kernel_rfl) (by kernel_rfl) (by kernel_rfl) (fun _ _ _ h => h) (.inl ⟨rfl, fun W hW => by simp [execOp, Act.eval, go_sem]⟩) hS ?_
          simp only [List.setIfInBounds_toArray, List.set_cons_succ, List.set_cons_zero]
          refine held_take (i := 11) (t := 37) (v := (.int .i64 0)) (fuel := 3) rfl rfl (by kernel_rfl) (by kernel_rfl) (by kernel_rfl) (fun _ _ _ h => h) (.inl ⟨rfl, fun W hW => by simp [execOp, Act.eval, go_sem]⟩) hS ?_
          simp only [List.setIfInBounds_toArray, List.set_cons_succ, List.set_cons_zero]
          have hlt : w3.heap.size + 1 + 1 < V4.heap.size ∧ w.heap.size < V4.heap.size := ⟨lt_of_heap hS.n, lt_of_heap hS.col⟩
          refine held_call (i := 12) rfl (by kernel_rfl) (by kernel_rfl) ?_
          simp [Oper.wp, execOp, Act.eval, Act.put, go_sem]
          have hb : Below V4.heap.size V4 (V4.alloc (.cells #[.int .i64 0, .int .i64 0, .string ⟨#[]⟩] 23)) := (Below.refl _ _).alloc (Nat.le_refl _) _
          have hS := hS.below hb
          have hX : Box3 (V4.alloc (.cells #[.int .i64 0, .int .i64 0, .string ⟨#[]⟩] 23)) V4.heap.size zV := Box3.new _ zV
          obtain ⟨V5, hU⟩ : ∃ q, V4.alloc (.cells #[.int .i64 0, .int .i64 0, .string ⟨#[]⟩] 23) = q := ⟨_, rfl⟩
          rw [hU] at hX hS ⊢
          have hg : w3.heap.size + 1 + 1 < V4.heap.size ∧ w.heap.size < V4.heap.size := hlt
          have hlt : w3.heap.size + 1 + 1 < V5.heap.size ∧ w.heap.size < V5.heap.size := ⟨lt_of_heap hS.n, lt_of_heap hS.col⟩
          clear hU hb
          obtain ⟨g, eg⟩ : ∃ q, V4.heap.size = q := ⟨_, rfl⟩
          rw [eg] at hX hg ⊢
          clear eg
          refine ⟨hS, ?_⟩
          try simp only [List.setIfInBounds_toArray, List.set_cons_succ, List.set_cons_zero]
          refine held_call (i := 13) rfl (by kernel_rfl) (by kernel_rfl) ?_
          have s0 := hX.c0; have s1 := hX.c1; have s2 := hX.c2; have f0 := hX.free 0; have f1 := hX.free 1; have f2 := hX.free 2
          simp [Oper.wp, execOp, Act.eval, Act.put, go_sem, s0, s1, s2, f0, f1, f2]
          have hX2 : Box3 (((V5.setCell ⟨g, 0, none⟩ (.int .i64 1)).setCell ⟨g, 1, none⟩ (.int .i64 2)).setCell ⟨g, 2, none⟩ (.string ⟨#[]⟩)) g (intW 2) := hX.set (intW 2)
          have hS := hS.set3 (x := .int .i64 1) (y := .int .i64 2) (z := .string ⟨#[]⟩) g hg (Nat.lt_succ_self _) (Nat.le_refl _)
          obtain ⟨Z, hZ⟩ : ∃ q, ((V5.setCell ⟨g, 0, none⟩ (.int .i64 1)).setCell ⟨g, 1, none⟩ (.int .i64 2)).setCell ⟨g, 2, none⟩ (.string ⟨#[]⟩) = q := ⟨_, rfl⟩
          rw [hZ] at hX2 hS ⊢
          refine ⟨hS, ?_⟩
          try simp only [List.setIfInBounds_toArray, List.set_cons_succ, List.set_cons_zero]
          refine held_take (i := 14) (t := 7) (v := (.int .i64 0)) (fuel := 0) rfl rfl (by kernel_rfl) (by kernel_rfl) (by kernel_rfl) (fun _ _ _ h => h) (.inl ⟨rfl, fun W hW => by simp [execOp, Act.eval, go_sem]⟩) hS ?_
          simp only [List.setIfInBounds_toArray, List.set_cons_succ, List.set_cons_zero]
          refine wpAnyH_done (by kernel_rfl) ?_ 0
          exact HREST _ _ _ _ _ _ _ _ _ _ _ _ _ _ _ _ _ _ _ _ _ _ _ _ _ _ _ _ _ _ _ _ _ _ _ _ _ _ _ _ _ _ _ _ _ _ _ _ _ _ _ _ _ _ _ _ _ _ _ _ _ _ _ _ _ _ _ _ _ g Z hS hX2
        · simp [Oper.wp, execOp, Act.eval, Act.put, go_sem]
          have hb : Below V3.heap.size V3 (V3.alloc (.cells #[.int .i64 0, .int .i64 0, .string ⟨#[]⟩] 23)) := (Below.refl _ _).alloc (Nat.le_refl _) _
          have hk := KidsAt.more hb.size (hk.below hb)
          have hq := (hb.block _ (lt_of_heap hq)).trans hq
          have hS := hS.below hb
          have hX : Box3 (V3.alloc (.cells #[.int .i64 0, .int .i64 0, .string ⟨#[]⟩] 23)) V3.heap.size zV := Box3.new _ zV
          obtain ⟨V6, hU⟩ : ∃ q, V3.alloc (.cells #[.int .i64 0, .int .i64 0, .string ⟨#[]⟩] 23) = q := ⟨_, rfl⟩
          rw [hU] at hX hq hk hS ⊢
          have hg : w3.heap.size + 1 + 1 < V3.heap.size ∧ w.heap.size < V3.heap.size := hlt
          have hlt : w3.heap.size + 1 + 1 < V6.heap.size ∧ w.heap.size < V6.heap.size := ⟨lt_of_heap hS.n, lt_of_heap hS.col⟩
          clear hU hb
          obtain ⟨g, eg⟩ : ∃ q, V3.heap.size = q := ⟨_, rfl⟩
          rw [eg] at hX hg ⊢
          clear eg
          refine ⟨hS, ?_⟩
          try simp only [List.setIfInBounds_toArray, List.set_cons_succ, List.set_cons_zero]
          refine held_call (i := 8) rfl (by kernel_rfl) (by kernel_rfl) ?_
          simp [Oper.wp, execOp, Act.eval, Act.put, go_sem]
          refine (hS.worth ifX if_wf (some ⟨kb, 0, none⟩) 3 hk _ hq).mono ?_
          rintro en V7 ⟨rfl, hb⟩
          rw [worth_if]
          unfold endV intW V.val
          dsimp only
          have hk := KidsAt.more hb.size (hk.below hb)
          have hq := (hb.block _ (lt_of_heap hq)).trans hq
          have hX := hX.below hb
          have hS := hS.below hb
          clear hb hk hq
          refine ⟨hS, ?_⟩
          try simp only [List.setIfInBounds_toArray, List.set_cons_succ, List.set_cons_zero]
          refine held_take (i := 9) (t := 26) (v := (.tuple #[.agg #[.int .i64 1, .int .i64 2, .string ⟨#[]⟩], .int .i64 0])) (fuel := 4) rfl rfl (by kernel_rfl) (by kernel_rfl) (by kernel_rfl) (fun _ _ _ h => h) (.inl ⟨rfl, fun W hW => by simp [execOp, Act.eval, go_sem]⟩) hS ?_
          simp only [List.setIfInBounds_toArray, List.set_cons_succ, List.set_cons_zero]
          refine held_take (i := 10) (t := 36) (v := (.agg #[.int .i64 1, .int .i64 2, .string ⟨#[]⟩])) (fuel := 3) rfl rfl (by kernel_rfl) (by kernel_rfl) (by kernel_rfl) (fun _ _ _ h => h) (.inl ⟨rfl, fun W hW => by simp [execOp, Act.eval, go_sem]⟩) hS ?_
          simp only [List.setIfInBounds_toArray, List.set_cons_succ, List.set_cons_zero]
          refine held_take (i := 11) (t := 37) (v := (.int .i64 0)) (fuel := 2) rfl rfl (by kernel_rfl) (by kernel_rfl) (by kernel_rfl) (fun _ _ _ h => h) (.inl ⟨rfl, fun W hW => by simp [execOp, Act.eval, go_sem]⟩) hS ?_
          simp only [List.setIfInBounds_toArray, List.set_cons_succ, List.set_cons_zero]
          have hlt : w3.heap.size + 1 + 1 < V7.heap.size ∧ w.heap.size < V7.heap.size := ⟨lt_of_heap hS.n, lt_of_heap hS.col⟩
          refine held_call (i := 13) rfl (by kernel_rfl) (by kernel_rfl) ?_
          have s0 := hX.c0; have s1 := hX.c1; have s2 := hX.c2; have f0 := hX.free 0; have f1 := hX.free 1; have f2 := hX.free 2
          simp [Oper.wp, execOp, Act.eval, Act.put, go_sem, s0, s1, s2, f0, f1, f2]
          have hX2 : Box3 (((V7.setCell ⟨g, 0, none⟩ (.int .i64 1)).setCell ⟨g, 1, none⟩ (.int .i64 2)).setCell ⟨g, 2, none⟩ (.string ⟨#[]⟩)) g (intW 2) := hX.set (intW 2)
          have hS := hS.set3 (x := .int .i64 1) (y := .int .i64 2) (z := .string ⟨#[]⟩) g hg (Nat.lt_succ_self _) (Nat.le_refl _)
          obtain ⟨Z, hZ⟩ : ∃ q, ((V7.setCell ⟨g, 0, none⟩ (.int .i64 1)).setCell ⟨g, 1, none⟩ (.int .i64 2)).setCell ⟨g, 2, none⟩ (.string ⟨#[]⟩) = q := ⟨_, rfl⟩
          rw [hZ] at hX2 hS ⊢
          refine ⟨hS, ?_⟩
          try simp only [List.setIfInBounds_toArray, List.set_cons_succ, List.set_cons_zero]
          refine held_take (i := 14) (t := 7) (v := (.int .i64 0)) (fuel := 0) rfl rfl (by kernel_rfl) (by kernel_rfl) (by kernel_rfl) (fun _ _ _ h => h) (.inl ⟨rfl, fun W hW => by simp [execOp, Act.eval, go_sem]⟩) hS ?_
          simp only [List.setIfInBounds_toArray, List.set_cons_succ, List.set_cons_zero]
          refine wpAnyH_done (by kernel_rfl) ?_ 0
          exact HREST _ _ _ _ _ _ _ _ _ _ _ _ _ _ _ _ _ _ _ _ _ _ _ _ _ _ _ _ _ _ _ _ _ _ _ _ _ _ _ _ _ _ _ _ _ _ _ _ _ _ _ _ _ _ _ _ _ _ _ _ _ _ _ _ _ _ _ _ _ g Z hS hX2
      · simp [Oper.wp, execOp, Act.eval, Act.put, go_sem]
        have hb : Below V2.heap.size V2 (V2.alloc (.cells #[.int .i64 0, .int .i64 0, .string ⟨#[]⟩] 23)) := (Below.refl _ _).alloc (Nat.le_refl _) _
        have hk := KidsAt.more hb.size (hk.below hb)
        have hS := hS.below hb
        have hX : Box3 (V2.alloc (.cells #[.int .i64 0, .int .i64 0, .string ⟨#[]⟩] 23)) V2.heap.size zV := Box3.new _ zV
        obtain ⟨V8, hU⟩ : ∃ q, V2.alloc (.cells #[.int .i64 0, .int .i64 0, .string ⟨#[]⟩] 23) = q := ⟨_, rfl⟩
        rw [hU] at hX hk hS ⊢
        have hg : w3.heap.size + 1 + 1 < V2.heap.size ∧ w.heap.size < V2.heap.size := hlt
        have hlt : w3.heap.size + 1 + 1 < V8.heap.size ∧ w.heap.size < V8.heap.size := ⟨lt_of_heap hS.n, lt_of_heap hS.col⟩
        clear hU hb
        obtain ⟨g, eg⟩ : ∃ q, V2.heap.size = q := ⟨_, rfl⟩
        rw [eg] at hX hg ⊢
        clear eg
        refine ⟨hS, ?_⟩
        try simp only [List.setIfInBounds_toArray, List.set_cons_succ, List.set_cons_zero]
        refine held_call (i := 7) rfl (by kernel_rfl) (by kernel_rfl) ?_
        simp [Oper.wp, execOp, Act.eval, Act.put, go_sem]
        have hb : Below V8.heap.size V8 (V8.alloc (.cells #[.int .i64 0, .int .i64 0, .string ⟨#[]⟩] 23)) := (Below.refl _ _).alloc (Nat.le_refl _) _
        have hk := KidsAt.more hb.size (hk.below hb)
        have hX := hX.below hb
        have hS := hS.below hb
        have hq : (V8.alloc (.cells #[.int .i64 0, .int .i64 0, .string ⟨#[]⟩] 23)).heap[V8.heap.size]? = some (.cells #[.int .i64 0, .int .i64 0, .string ⟨#[]⟩] 23) := World.alloc_heap_new _ _
        obtain ⟨V9, hU⟩ : ∃ q, V8.alloc (.cells #[.int .i64 0, .int .i64 0, .string ⟨#[]⟩] 23) = q := ⟨_, rfl⟩
        rw [hU] at hX hq hk hS ⊢
        have hlt : w3.heap.size + 1 + 1 < V9.heap.size ∧ w.heap.size < V9.heap.size := ⟨lt_of_heap hS.n, lt_of_heap hS.col⟩
        clear hU hb
        obtain ⟨qb, eqb⟩ : ∃ q, V8.heap.size = q := ⟨_, rfl⟩
        rw [eqb] at hq ⊢
        clear eqb
        refine ⟨hS, ?_⟩
        try simp only [List.setIfInBounds_toArray, List.set_cons_succ, List.set_cons_zero]
        refine held_call (i := 8) rfl (by kernel_rfl) (by kernel_rfl) ?_
        simp [Oper.wp, execOp, Act.eval, Act.put, go_sem]
        refine (hS.worth ifX if_wf (some ⟨kb, 0, none⟩) 3 hk _ hq).mono ?_
        rintro en V10 ⟨rfl, hb⟩
        rw [worth_if]
        unfold endV intW V.val
        dsimp only
        have hk := KidsAt.more hb.size (hk.below hb)
        have hq := (hb.block _ (lt_of_heap hq)).trans hq
        have hX := hX.below hb
        have hS := hS.below hb
        clear hb hk hq
        refine ⟨hS, ?_⟩
        try simp only [List.setIfInBounds_toArray, List.set_cons_succ, List.set_cons_zero]
        refine held_take (i := 9) (t := 26) (v := (.tuple #[.agg #[.int .i64 1, .int .i64 2, .string ⟨#[]⟩], .int .i64 0])) (fuel := 4) rfl rfl (by kernel_rfl) (by kernel_rfl) (by kernel_rfl) (fun _ _ _ h => h) (.inl ⟨rfl, fun W hW => by simp [execOp, Act.eval, go_sem]⟩) hS ?_
        simp only [List.setIfInBounds_toArray, List.set_cons_succ, List.set_cons_zero]
        refine held_take (i := 10) (t := 36) (v := (.agg #[.int .i64 1, .int .i64 2, .string ⟨#[]⟩])) (fuel := 3) rfl rfl (by kernel_rfl) (by kernel_rfl) (by kernel_rfl) (fun _ _ _ h => h) (.inl ⟨rfl, fun W hW => by simp [execOp, Act.eval, go_sem]⟩) hS ?_
        simp only [List.setIfInBounds_toArray, List.set_cons_succ, List.set_cons_zero]
        refine held_take (i := 11) (t := 37) (v := (.int .i64 0)) (fuel := 2) rfl rfl (by kernel_rfl) (by kernel_rfl) (by kernel_rfl) (fun _ _ _ h => h) (.inl ⟨rfl, fun W hW => by simp [execOp, Act.eval, go_sem]⟩) hS ?_
        simp only [List.setIfInBounds_toArray, List.set_cons_succ, List.set_cons_zero]
        have hlt : w3.heap.size + 1 + 1 < V10.heap.size ∧ w.heap.size < V10.heap.size := ⟨lt_of_heap hS.n, lt_of_heap hS.col⟩
        refine held_call (i := 13) rfl (by kernel_rfl) (by kernel_rfl) ?_
        have s0 := hX.c0; have s1 := hX.c1; have s2 := hX.c2; have f0 := hX.free 0; have f1 := hX.free 1; have f2 := hX.free 2
        simp [Oper.wp, execOp, Act.eval, Act.put, go_sem, s0, s1, s2, f0, f1, f2]
        have hX2 : Box3 (((V10.setCell ⟨g, 0, none⟩ (.int .i64 1)).setCell ⟨g, 1, none⟩ (.int .i64 2)).setCell ⟨g, 2, none⟩ (.string ⟨#[]⟩)) g (intW 2) := hX.set (intW 2)
        have hS := hS.set3 (x := .int .i64 1) (y := .int .i64 2) (z := .string ⟨#[]⟩) g hg (Nat.lt_succ_self _) (Nat.le_refl _)
        obtain ⟨Z, hZ⟩ : ∃ q, ((V10.setCell ⟨g, 0, none⟩ (.int .i64 1)).setCell ⟨g, 1, none⟩ (.int .i64 2)).setCell ⟨g, 2, none⟩ (.string ⟨#[]⟩) = q := ⟨_, rfl⟩
        rw [hZ] at hX2 hS ⊢
        refine ⟨hS, ?_⟩
        try simp only [List.setIfInBounds_toArray, List.set_cons_succ, List.set_cons_zero]
        refine held_take (i := 14) (t := 7) (v := (.int .i64 0)) (fuel := 0) rfl rfl (by kernel_rfl) (by kernel_rfl) (by kernel_rfl) (fun _ _ _ h => h) (.inl ⟨rfl, fun W hW => by simp [execOp, Act.eval, go_sem]⟩) hS ?_
        simp only [List.setIfInBounds_toArray, List.set_cons_succ, List.set_cons_zero]
        refine wpAnyH_done (by kernel_rfl) ?_ 0
        exact HREST _ _ _ _ _ _ _ _ _ _ _ _ _ _ _ _ _ _ _ _ _ _ _ _ _ _ _ _ _ _ _ _ _ _ _ _ _ _ _ _ _ _ _ _ _ _ _ _ _ _ _ _ _ _ _ _ _ _ _ _ _ _ _ _ _ _ _ _ _ g Z hS hX2
    · simp [Oper.wp, execOp, Act.eval, Act.put, go_sem]
      have hb : Below V1.heap.size V1 (V1.alloc (.cells #[.int .i64 0, .int .i64 0, .string ⟨#[]⟩] 23)) := (Below.refl _ _).alloc (Nat.le_refl _) _
      have hS := hS.below hb
      have hq : (V1.alloc (.cells #[.int .i64 0, .int .i64 0, .string ⟨#[]⟩] 23)).heap[V1.heap.size]? = some (.cells #[.int .i64 0, .int .i64 0, .string ⟨#[]⟩] 23) := World.alloc_heap_new _ _
      obtain ⟨V11, hU⟩ : ∃ q, V1.alloc (.cells #[.int .i64 0, .int .i64 0, .string ⟨#[]⟩] 23) = q := ⟨_, rfl⟩
      rw [hU] at hq hS ⊢
      have hlt : w3.heap.size + 1 + 1 < V11.heap.size ∧ w.heap.size < V11.heap.size := ⟨lt_of_heap hS.n, lt_of_heap hS.col⟩
      clear hU hb
      obtain ⟨qb, eqb⟩ : ∃ q, V1.heap.size = q := ⟨_, rfl⟩
      rw [eqb] at hq ⊢
      clear eqb
      refine ⟨hS, ?_⟩
      try simp only [List.setIfInBounds_toArray, List.set_cons_succ, List.set_cons_zero]
      refine held_two (i := 3) (j := 12) rfl rfl (by kernel_rfl) (by kernel_rfl) (by kernel_rfl) ?_ ?_
      · simp [Oper.wp, execOp, Act.eval, Act.put, go_sem]
        have hb : Below V11.heap.size V11 (V11.alloc (.cells #[.int .i64 2, .string ⟨#[]⟩, .int .i64 2, .int .i64 0, .string ⟨#[]⟩, .slice none 0 0, .int .i64 7, .string ⟨#[]⟩, .int .i64 0, .int .i64 0, .string ⟨#[]⟩, .slice (some ⟨w3.heap.size, 0, none⟩) 2 2, .int .i64 2, .string ⟨#[]⟩, .int .i64 1, .int .i64 2, .string ⟨#[]⟩, .slice none 0 0] 26)) := (Below.refl _ _).alloc (Nat.le_refl _) _
        have hk : KidsAt (V11.alloc (.cells #[.int .i64 2, .string ⟨#[]⟩, .int .i64 2, .int .i64 0, .string ⟨#[]⟩, .slice none 0 0, .int .i64 7, .string ⟨#[]⟩, .int .i64 0, .int .i64 0, .string ⟨#[]⟩, .slice (some ⟨w3.heap.size, 0, none⟩) 2 2, .int .i64 2, .string ⟨#[]⟩, .int .i64 1, .int .i64 2, .string ⟨#[]⟩, .slice none 0 0] 26)) (V11.alloc (.cells #[.int .i64 2, .string ⟨#[]⟩, .int .i64 2, .int .i64 0, .string ⟨#[]⟩, .slice none 0 0, .int .i64 7, .string ⟨#[]⟩, .int .i64 0, .int .i64 0, .string ⟨#[]⟩, .slice (some ⟨w3.heap.size, 0, none⟩) 2 2, .int .i64 2, .string ⟨#[]⟩, .int .i64 1, .int .i64 2, .string ⟨#[]⟩, .slice none 0 0] 26)).heap.size ifX (some ⟨V11.heap.size, 0, none⟩) 3 := laid3 leaf_at hS.kds leaf_at _ _ _ rfl _
        have hq := (hb.block _ (lt_of_heap hq)).trans hq
        have hS := hS.below hb
        obtain ⟨V12, hU⟩ : ∃ q, V11.alloc (.cells #[.int .i64 2, .string ⟨#[]⟩, .int .i64 2, .int .i64 0, .string ⟨#[]⟩, .slice none 0 0, .int .i64 7, .string ⟨#[]⟩, .int .i64 0, .int .i64 0, .string ⟨#[]⟩, .slice (some ⟨w3.heap.size, 0, none⟩) 2 2, .int .i64 2, .string ⟨#[]⟩, .int .i64 1, .int .i64 2, .string ⟨#[]⟩, .slice none 0 0] 26) = q := ⟨_, rfl⟩
        rw [hU] at hq hk hS ⊢
        have hlt : w3.heap.size + 1 + 1 < V12.heap.size ∧ w.heap.size < V12.heap.size := ⟨lt_of_heap hS.n, lt_of_heap hS.col⟩
        clear hU hb
        obtain ⟨kb, ekb⟩ : ∃ q, V11.heap.size = q := ⟨_, rfl⟩
        rw [ekb] at hk ⊢
        clear ekb
        refine ⟨hS, ?_⟩
        try simp only [List.setIfInBounds_toArray, List.set_cons_succ, List.set_cons_zero]
        refine held_take (i := 4) (t := 31) (v := (.agg #[.int .i64 18, .string ⟨#[]⟩, .int .i64 0, .int .i64 0, .string ⟨#[]⟩, .slice (some ⟨kb, 0, none⟩) 3 3])) (fuel := 7) rfl rfl (by kernel_rfl) (by kernel_rfl) (by kernel_rfl) (fun _ _ _ h => h) (.inl ⟨rfl, fun W hW => by simp [execOp, Act.eval, go_sem]⟩) hS ?_
        simp only [List.setIfInBounds_toArray, List.set_cons_succ, List.set_cons_zero]
        refine held_two (i := 8) (j := 12) rfl rfl (by kernel_rfl) (by kernel_rfl) (by kernel_rfl) ?_ ?_
        · simp [Oper.wp, execOp, Act.eval, Act.put, go_sem]
          refine (hS.worth ifX if_wf (some ⟨kb, 0, none⟩) 3 hk _ hq).mono ?_
          rintro en V13 ⟨rfl, hb⟩
          rw [worth_if]
          unfold endV intW V.val
          dsimp only
          have hk := KidsAt.more hb.size (hk.below hb)
          have hq := (hb.block _ (lt_of_heap hq)).trans hq
          have hS := hS.below hb
          clear hb hk hq
          refine ⟨hS, ?_⟩
          try simp only [List.setIfInBounds_toArray, List.set_cons_succ, List.set_cons_zero]
          refine held_take (i := 9) (t := 26) (v := (.tuple #[.agg #[.int .i64 1, .int .i64 2, .string ⟨#[]⟩], .int .i64 0])) (fuel := 5) rfl rfl (by kernel_rfl) (by kernel_rfl) (by kernel_rfl) (fun _ _ _ h => h) (.inl ⟨rfl, fun W hW => by simp [execOp, Act.eval, go_sem]⟩) hS ?_
          simp only [List.setIfInBounds_toArray, List.set_cons_succ, List.set_cons_zero]
          refine held_take (i := 10) (t := 36) (v := (.agg #[.int .i64 1, .int .i64 2, .string ⟨#[]⟩])) (fuel := 4) rfl rfl (by kernel_rfl) (by kernel_rfl) (by kernel_rfl) (fun _ _ _ h => h) (.inl ⟨rfl, fun W hW => by simp [execOp, Act.eval, go_sem]⟩) hS ?_
          simp only [List.setIfInBounds_toArray, List.set_cons_succ, List.set_cons_zero]
          refine held_take (i := 11) (t := 37) (v := (.int .i64 0)) (fuel := 3) rfl rfl (by kernel_rfl) (by kernel_rfl) (by kernel_rfl) (fun _ _ _ h => h) (.inl ⟨rfl, fun W hW => by simp [execOp, Act.eval, go_sem]⟩) hS ?_
          simp only [List.setIfInBounds_toArray, List.set_cons_succ, List.set_cons_zero]
          have hlt : w3.heap.size + 1 + 1 < V13.heap.size ∧ w.heap.size < V13.heap.size := ⟨lt_of_heap hS.n, lt_of_heap hS.col⟩
          refine held_call (i := 12) rfl (by kernel_rfl) (by kernel_rfl) ?_
          simp [Oper.wp, execOp, Act.eval, Act.put, go_sem]
          have hb : Below V13.heap.size V13 (V13.alloc (.cells #[.int .i64 0, .int .i64 0, .string ⟨#[]⟩] 23)) := (Below.refl _ _).alloc (Nat.le_refl _) _
          have hS := hS.below hb
          have hX : Box3 (V13.alloc (.cells #[.int .i64 0, .int .i64 0, .string ⟨#[]⟩] 23)) V13.heap.size zV := Box3.new _ zV
          obtain ⟨V14, hU⟩ : ∃ q, V13.alloc (.cells #[.int .i64 0, .int .i64 0, .string ⟨#[]⟩] 23) = q := ⟨_, rfl⟩
          rw [hU] at hX hS ⊢
          have hg : w3.heap.size + 1 + 1 < V13.heap.size ∧ w.heap.size < V13.heap.size := hlt
          have hlt : w3.heap.size + 1 + 1 < V14.heap.size ∧ w.heap.size < V14.heap.size := ⟨lt_of_heap hS.n, lt_of_heap hS.col⟩
          clear hU hb
          obtain ⟨g, eg⟩ : ∃ q, V13.heap.size = q := ⟨_, rfl⟩
          rw [eg] at hX hg ⊢
          clear eg
          refine ⟨hS, ?_⟩
          try simp only [List.setIfInBounds_toArray, List.set_cons_succ, List.set_cons_zero]
          refine held_call (i := 13) rfl (by kernel_rfl) (by kernel_rfl) ?_
          have s0 := hX.c0; have s1 := hX.c1; have s2 := hX.c2; have f0 := hX.free 0; have f1 := hX.free 1; have f2 := hX.free 2
          simp [Oper.wp, execOp, Act.eval, Act.put, go_sem, s0, s1, s2, f0, f1, f2]
          have hX2 : Box3 (((V14.setCell ⟨g, 0, none⟩ (.int .i64 1)).setCell ⟨g, 1, none⟩ (.int .i64 2)).setCell ⟨g, 2, none⟩ (.string ⟨#[]⟩)) g (intW 2) := hX.set (intW 2)
          have hS := hS.set3 (x := .int .i64 1) (y := .int .i64 2) (z := .string ⟨#[]⟩) g hg (Nat.lt_succ_self _) (Nat.le_refl _)
          obtain ⟨Z, hZ⟩ : ∃ q, ((V14.setCell ⟨g, 0, none⟩ (.int .i64 1)).setCell ⟨g, 1, none⟩ (.int .i64 2)).setCell ⟨g, 2, none⟩ (.string ⟨#[]⟩) = q := ⟨_, rfl⟩
          rw [hZ] at hX2 hS ⊢
          refine ⟨hS, ?_⟩
          try simp only [List.setIfInBounds_toArray, List.set_cons_succ, List.set_cons_zero]
          refine held_take (i := 14) (t := 7) (v := (.int .i64 0)) (fuel := 0) rfl rfl (by kernel_rfl) (by kernel_rfl) (by kernel_rfl) (fun _ _ _ h => h) (.inl ⟨rfl, fun W hW => by simp [execOp, Act.eval, go_sem]⟩) hS ?_
          simp only [List.setIfInBounds_toArray, List.set_cons_succ, List.set_cons_zero]
          refine wpAnyH_done (by kernel_rfl) ?_ 0
          exact HREST _ _ _ _ _ _ _ _ _ _ _ _ _ _ _ _ _ _ _ _ _ _ _ _ _ _ _ _ _ _ _ _ _ _ _ _ _ _ _ _ _ _ _ _ _ _ _ _ _ _ _ _ _ _ _ _ _ _ _ _ _ _ _ _ _ _ _ _ _ g Z hS hX2
        · simp [Oper.wp, execOp, Act.eval, Act.put, go_sem]
          have hb : Below V12.heap.size V12 (V12.alloc (.cells #[.int .i64 0, .int .i64 0, .string ⟨#[]⟩] 23)) := (Below.refl _ _).alloc (Nat.le_refl _) _
          have hk := KidsAt.more hb.size (hk.below hb)
          have hq := (hb.block _ (lt_of_heap hq)).trans hq
          have hS := hS.below hb
          have hX : Box3 (V12.alloc (.cells #[.int .i64 0, .int .i64 0, .string ⟨#[]⟩] 23)) V12.heap.size zV := Box3.new _ zV
          obtain ⟨V15, hU⟩ : ∃ q, V12.alloc (.cells #[.int .i64 0, .int .i64 0, .string ⟨#[]⟩] 23) = q := ⟨_, rfl⟩
          rw [hU] at hX hq hk hS ⊢
          have hg : w3.heap.size + 1 + 1 < V12.heap.size ∧ w.heap.size < V12.heap.size := hlt
          have hlt : w3.heap.size + 1 + 1 < V15.heap.size ∧ w.heap.size < V15.heap.size := ⟨lt_of_heap hS.n, lt_of_heap hS.col⟩
          clear hU hb
          obtain ⟨g, eg⟩ : ∃ q, V12.heap.size = q := ⟨_, rfl⟩
          rw [eg] at hX hg ⊢
          clear eg
          refine ⟨hS, ?_⟩
          try simp only [List.setIfInBounds_toArray, List.set_cons_succ, List.set_cons_zero]
          refine held_call (i := 8) rfl (by kernel_rfl) (by kernel_rfl) ?_
          simp [Oper.wp, execOp, Act.eval, Act.put, go_sem]
          refine (hS.worth ifX if_wf (some ⟨kb, 0, none⟩) 3 hk _ hq).mono ?_
          rintro en V16 ⟨rfl, hb⟩
          rw [worth_if]
          unfold endV intW V.val
          dsimp only
          have hk := KidsAt.more hb.size (hk.below hb)
          have hq := (hb.block _ (lt_of_heap hq)).trans hq
          have hX := hX.below hb
          have hS := hS.below hb
          clear hb hk hq
          refine ⟨hS, ?_⟩
          try simp only [List.setIfInBounds_toArray, List.set_cons_succ, List.set_cons_zero]
          refine held_take (i := 9) (t := 26) (v := (.tuple #[.agg #[.int .i64 1, .int .i64 2, .string ⟨#[]⟩], .int .i64 0])) (fuel := 4) rfl rfl (by kernel_rfl) (by kernel_rfl) (by kernel_rfl) (fun _ _ _ h => h) (.inl ⟨rfl, fun W hW => by simp [execOp, Act.eval, go_sem]⟩) hS ?_
          simp only [List.setIfInBounds_toArray, List.set_cons_succ, List.set_cons_zero]
          refine held_take (i := 10) (t := 36) (v := (.agg #[.int .i64 1, .int .i64 2, .string ⟨#[]⟩])) (fuel := 3) rfl rfl (by kernel_rfl) (by kernel_rfl) (by kernel_rfl) (fun _ _ _ h => h) (.inl ⟨rfl, fun W hW => by simp [execOp, Act.eval, go_sem]⟩) hS ?_
          simp only [List.setIfInBounds_toArray, List.set_cons_succ, List.set_cons_zero]
          refine held_take (i := 11) (t := 37) (v := (.int .i64 0)) (fuel := 2) rfl rfl (by kernel_rfl) (by kernel_rfl) (by kernel_rfl) (fun _ _ _ h => h) (.inl ⟨rfl, fun W hW => by simp [execOp, Act.eval, go_sem]⟩) hS ?_
          simp only [List.setIfInBounds_toArray, List.set_cons_succ, List.set_cons_zero]
          have hlt : w3.heap.size + 1 + 1 < V16.heap.size ∧ w.heap.size < V16.heap.size := ⟨lt_of_heap hS.n, lt_of_heap hS.col⟩
          refine held_call (i := 13) rfl (by kernel_rfl) (by kernel_rfl) ?_
          have s0 := hX.c0; have s1 := hX.c1; have s2 := hX.c2; have f0 := hX.free 0; have f1 := hX.free 1; have f2 := hX.free 2
          simp [Oper.wp, execOp, Act.eval, Act.put, go_sem, s0, s1, s2, f0, f1, f2]
          have hX2 : Box3 (((V16.setCell ⟨g, 0, none⟩ (.int .i64 1)).setCell ⟨g, 1, none⟩ (.int .i64 2)).setCell ⟨g, 2, none⟩ (.string ⟨#[]⟩)) g (intW 2) := hX.set (intW 2)
          have hS := hS.set3 (x := .int .i64 1) (y := .int .i64 2) (z := .string ⟨#[]⟩) g hg (Nat.lt_succ_self _) (Nat.le_refl _)
          obtain ⟨Z, hZ⟩ : ∃ q, ((V16.setCell ⟨g, 0, none⟩ (.int .i64 1)).setCell ⟨g, 1, none⟩ (.int .i64 2)).setCell ⟨g, 2, none⟩ (.string ⟨#[]⟩) = q := ⟨_, rfl⟩
          rw [hZ] at hX2 hS ⊢
          refine ⟨hS, ?_⟩
          try simp only [List.setIfInBounds_toArray, List.set_cons_succ, List.set_cons_zero]
          refine held_take (i := 14) (t := 7) (v := (.int .i64 0)) (fuel := 0) rfl rfl (by kernel_rfl) (by kernel_rfl) (by kernel_rfl) (fun _ _ _ h => h) (.inl ⟨rfl, fun W hW => by simp [execOp, Act.eval, go_sem]⟩) hS ?_
          simp only [List.setIfInBounds_toArray, List.set_cons_succ, List.set_cons_zero]
          refine wpAnyH_done (by kernel_rfl) ?_ 0
          exact HREST _ _ _ _ _ _ _ _ _ _ _ _ _ _ _ _ _ _ _ _ _ _ _ _ _ _ _ _ _ _ _ _ _ _ _ _ _ _ _ _ _ _ _ _ _ _ _ _ _ _ _ _ _ _ _ _ _ _ _ _ _ _ _ _ _ _ _ _ _ g Z hS hX2
      · simp [Oper.wp, execOp, Act.eval, Act.put, go_sem]
        have hb : Below V11.heap.size V11 (V11.alloc (.cells #[.int .i64 0, .int .i64 0, .string ⟨#[]⟩] 23)) := (Below.refl _ _).alloc (Nat.le_refl _) _
        have hq := (hb.block _ (lt_of_heap hq)).trans hq
        have hS := hS.below hb
        have hX : Box3 (V11.alloc (.cells #[.int .i64 0, .int .i64 0, .string ⟨#[]⟩] 23)) V11.heap.size zV := Box3.new _ zV
        obtain ⟨V17, hU⟩ : ∃ q, V11.alloc (.cells #[.int .i64 0, .int .i64 0, .string ⟨#[]⟩] 23) = q := ⟨_, rfl⟩
        rw [hU] at hX hq hS ⊢
        have hg : w3.heap.size + 1 + 1 < V11.heap.size ∧ w.heap.size < V11.heap.size := hlt
        have hlt : w3.heap.size + 1 + 1 < V17.heap.size ∧ w.heap.size < V17.heap.size := ⟨lt_of_heap hS.n, lt_of_heap hS.col⟩
        clear hU hb
        obtain ⟨g, eg⟩ : ∃ q, V11.heap.size = q := ⟨_, rfl⟩
        rw [eg] at hX hg ⊢
        clear eg
        refine ⟨hS, ?_⟩
        try simp only [List.setIfInBounds_toArray, List.set_cons_succ, List.set_cons_zero]
        refine held_call (i := 3) rfl (by kernel_rfl) (by kernel_rfl) ?_
        simp [Oper.wp, execOp, Act.eval, Act.put, go_sem]
        have hb : Below V17.heap.size V17 (V17.alloc (.cells #[.int .i64 2, .string ⟨#[]⟩, .int .i64 2, .int .i64 0, .string ⟨#[]⟩, .slice none 0 0, .int .i64 7, .string ⟨#[]⟩, .int .i64 0, .int .i64 0, .string ⟨#[]⟩, .slice (some ⟨w3.heap.size, 0, none⟩) 2 2, .int .i64 2, .string ⟨#[]⟩, .int .i64 1, .int .i64 2, .string ⟨#[]⟩, .slice none 0 0] 26)) := (Below.refl _ _).alloc (Nat.le_refl _) _
        have hk : KidsAt (V17.alloc (.cells #[.int .i64 2, .string ⟨#[]⟩, .int .i64 2, .int .i64 0, .string ⟨#[]⟩, .slice none 0 0, .int .i64 7, .string ⟨#[]⟩, .int .i64 0, .int .i64 0, .string ⟨#[]⟩, .slice (some ⟨w3.heap.size, 0, none⟩) 2 2, .int .i64 2, .string ⟨#[]⟩, .int .i64 1, .int .i64 2, .string ⟨#[]⟩, .slice none 0 0] 26)) (V17.alloc (.cells #[.int .i64 2, .string ⟨#[]⟩, .int .i64 2, .int .i64 0, .string ⟨#[]⟩, .slice none 0 0, .int .i64 7, .string ⟨#[]⟩, .int .i64 0, .int .i64 0, .string ⟨#[]⟩, .slice (some ⟨w3.heap.size, 0, none⟩) 2 2, .int .i64 2, .string ⟨#[]⟩, .int .i64 1, .int .i64 2, .string ⟨#[]⟩, .slice none 0 0] 26)).heap.size ifX (some ⟨V17.heap.size, 0, none⟩) 3 := laid3 leaf_at hS.kds leaf_at _ _ _ rfl _
        have hq := (hb.block _ (lt_of_heap hq)).trans hq
        have hX := hX.below hb
        have hS := hS.below hb
        obtain ⟨V18, hU⟩ : ∃ q, V17.alloc (.cells #[.int .i64 2, .string ⟨#[]⟩, .int .i64 2, .int .i64 0, .string ⟨#[]⟩, .slice none 0 0, .int .i64 7, .string ⟨#[]⟩, .int .i64 0, .int .i64 0, .string ⟨#[]⟩, .slice (some ⟨w3.heap.size, 0, none⟩) 2 2, .int .i64 2, .string ⟨#[]⟩, .int .i64 1, .int .i64 2, .string ⟨#[]⟩, .slice none 0 0] 26) = q := ⟨_, rfl⟩
        rw [hU] at hX hq hk hS ⊢
        have hlt : w3.heap.size + 1 + 1 < V18.heap.size ∧ w.heap.size < V18.heap.size := ⟨lt_of_heap hS.n, lt_of_heap hS.col⟩
        clear hU hb
        obtain ⟨kb, ekb⟩ : ∃ q, V17.heap.size = q := ⟨_, rfl⟩
        rw [ekb] at hk ⊢
        clear ekb
        refine ⟨hS, ?_⟩
        try simp only [List.setIfInBounds_toArray, List.set_cons_succ, List.set_cons_zero]
        refine held_take (i := 4) (t := 31) (v := (.agg #[.int .i64 18, .string ⟨#[]⟩, .int .i64 0, .int .i64 0, .string ⟨#[]⟩, .slice (some ⟨kb, 0, none⟩) 3 3])) (fuel := 6) rfl rfl (by kernel_rfl) (by kernel_rfl) (by kernel_rfl) (fun _ _ _ h => h) (.inl ⟨rfl, fun W hW => by simp [execOp, Act.eval, go_sem]⟩) hS ?_
        simp only [List.setIfInBounds_toArray, List.set_cons_succ, List.set_cons_zero]
        refine held_call (i := 8) rfl (by kernel_rfl) (by kernel_rfl) ?_
        simp [Oper.wp, execOp, Act.eval, Act.put, go_sem]
        refine (hS.worth ifX if_wf (some ⟨kb, 0, none⟩) 3 hk _ hq).mono ?_
        rintro en V19 ⟨rfl, hb⟩
        rw [worth_if]
        unfold endV intW V.val
        dsimp only
        have hk := KidsAt.more hb.size (hk.below hb)
        have hq := (hb.block _ (lt_of_heap hq)).trans hq
        have hX := hX.below hb
        have hS := hS.below hb
        clear hb hk hq
        refine ⟨hS, ?_⟩
        try simp only [List.setIfInBounds_toArray, List.set_cons_succ, List.set_cons_zero]
        refine held_take (i := 9) (t := 26) (v := (.tuple #[.agg #[.int .i64 1, .int .i64 2, .string ⟨#[]⟩], .int .i64 0])) (fuel := 4) rfl rfl (by kernel_rfl) (by kernel_rfl) (by kernel_rfl) (fun _ _ _ h => h) (.inl ⟨rfl, fun W hW => by simp [execOp, Act.eval, go_sem]⟩) hS ?_
        simp only [List.setIfInBounds_toArray, List.set_cons_succ, List.set_cons_zero]
        refine held_take (i := 10) (t := 36) (v := (.agg #[.int .i64 1, .int .i64 2, .string ⟨#[]⟩])) (fuel := 3) rfl rfl (by kernel_rfl) (by kernel_rfl) (by kernel_rfl) (fun _ _ _ h => h) (.inl ⟨rfl, fun W hW => by simp [execOp, Act.eval, go_sem]⟩) hS ?_
        simp only [List.setIfInBounds_toArray, List.set_cons_succ, List.set_cons_zero]
        refine held_take (i := 11) (t := 37) (v := (.int .i64 0)) (fuel := 2) rfl rfl (by kernel_rfl) (by kernel_rfl) (by kernel_rfl) (fun _ _ _ h => h) (.inl ⟨rfl, fun W hW => by simp [execOp, Act.eval, go_sem]⟩) hS ?_
        simp only [List.setIfInBounds_toArray, List.set_cons_succ, List.set_cons_zero]
        have hlt : w3.heap.size + 1 + 1 < V19.heap.size ∧ w.heap.size < V19.heap.size := ⟨lt_of_heap hS.n, lt_of_heap hS.col⟩
        refine held_call (i := 13) rfl (by kernel_rfl) (by kernel_rfl) ?_
        have s0 := hX.c0; have s1 := hX.c1; have s2 := hX.c2; have f0 := hX.free 0; have f1 := hX.free 1; have f2 := hX.free 2
        simp [Oper.wp, execOp, Act.eval, Act.put, go_sem, s0, s1, s2, f0, f1, f2]
        have hX2 : Box3 (((V19.setCell ⟨g, 0, none⟩ (.int .i64 1)).setCell ⟨g, 1, none⟩ (.int .i64 2)).setCell ⟨g, 2, none⟩ (.string ⟨#[]⟩)) g (intW 2) := hX.set (intW 2)
        have hS := hS.set3 (x := .int .i64 1) (y := .int .i64 2) (z := .string ⟨#[]⟩) g hg (Nat.lt_succ_self _) (Nat.le_refl _)
        obtain ⟨Z, hZ⟩ : ∃ q, ((V19.setCell ⟨g, 0, none⟩ (.int .i64 1)).setCell ⟨g, 1, none⟩ (.int .i64 2)).setCell ⟨g, 2, none⟩ (.string ⟨#[]⟩) = q := ⟨_, rfl⟩
        rw [hZ] at hX2 hS ⊢
        refine ⟨hS, ?_⟩
        try simp only [List.setIfInBounds_toArray, List.set_cons_succ, List.set_cons_zero]
        refine held_take (i := 14) (t := 7) (v := (.int .i64 0)) (fuel := 0) rfl rfl (by kernel_rfl) (by kernel_rfl) (by kernel_rfl) (fun _ _ _ h => h) (.inl ⟨rfl, fun W hW => by simp [execOp, Act.eval, go_sem]⟩) hS ?_
        simp only [List.setIfInBounds_toArray, List.set_cons_succ, List.set_cons_zero]
        refine wpAnyH_done (by kernel_rfl) ?_ 0
        exact HREST _ _ _ _ _ _ _ _ _ _ _ _ _ _ _ _ _ _ _ _ _ _ _ _ _ _ _ _ _ _ _ _ _ _ _ _ _ _ _ _ _ _ _ _ _ _ _ _ _ _ _ _ _ _ _ _ _ _ _ _ _ _ _ _ _ _ _ _ _ g Z hS hX2
    · simp [Oper.wp, execOp, Act.eval, Act.put, go_sem]
      have hb : Below V1.heap.size V1 (V1.alloc (.cells #[.int .i64 0, .int .i64 0, .string ⟨#[]⟩] 23)) := (Below.refl _ _).alloc (Nat.le_refl _) _
      have hS := hS.below hb
      have hX : Box3 (V1.alloc (.cells #[.int .i64 0, .int .i64 0, .string ⟨#[]⟩] 23)) V1.heap.size zV := Box3.new _ zV
      obtain ⟨V20, hU⟩ : ∃ q, V1.alloc (.cells #[.int .i64 0, .int .i64 0, .string ⟨#[]⟩] 23) = q := ⟨_, rfl⟩
      rw [hU] at hX hS ⊢
      have hg : w3.heap.size + 1 + 1 < V1.heap.size ∧ w.heap.size < V1.heap.size := hlt
      have hlt : w3.heap.size + 1 + 1 < V20.heap.size ∧ w.heap.size < V20.heap.size := ⟨lt_of_heap hS.n, lt_of_heap hS.col⟩
      clear hU hb
      obtain ⟨g, eg⟩ : ∃ q, V1.heap.size = q := ⟨_, rfl⟩
      rw [eg] at hX hg ⊢
      clear eg
      refine ⟨hS, ?_⟩
      try simp only [List.setIfInBounds_toArray, List.set_cons_succ, List.set_cons_zero]
      refine held_two (i := 3) (j := 7) rfl rfl (by kernel_rfl) (by kernel_rfl) (by kernel_rfl) ?_ ?_
      · simp [Oper.wp, execOp, Act.eval, Act.put, go_sem]
        have hb : Below V20.heap.size V20 (V20.alloc (.cells #[.int .i64 2, .string ⟨#[]⟩, .int .i64 2, .int .i64 0, .string ⟨#[]⟩, .slice none 0 0, .int .i64 7, .string ⟨#[]⟩, .int .i64 0, .int .i64 0, .string ⟨#[]⟩, .slice (some ⟨w3.heap.size, 0, none⟩) 2 2, .int .i64 2, .string ⟨#[]⟩, .int .i64 1, .int .i64 2, .string ⟨#[]⟩, .slice none 0 0] 26)) := (Below.refl _ _).alloc (Nat.le_refl _) _
        have hk : KidsAt (V20.alloc (.cells #[.int .i64 2, .string ⟨#[]⟩, .int .i64 2, .int .i64 0, .string ⟨#[]⟩, .slice none 0 0, .int .i64 7, .string ⟨#[]⟩, .int .i64 0, .int .i64 0, .string ⟨#[]⟩, .slice (some ⟨w3.heap.size, 0, none⟩) 2 2, .int .i64 2, .string ⟨#[]⟩, .int .i64 1, .int .i64 2, .string ⟨#[]⟩, .slice none 0 0] 26)) (V20.alloc (.cells #[.int .i64 2, .string ⟨#[]⟩, .int .i64 2, .int .i64 0, .string ⟨#[]⟩, .slice none 0 0, .int .i64 7, .string ⟨#[]⟩, .int .i64 0, .int .i64 0, .string ⟨#[]⟩, .slice (some ⟨w3.heap.size, 0, none⟩) 2 2, .int .i64 2, .string ⟨#[]⟩, .int .i64 1, .int .i64 2, .string ⟨#[]⟩, .slice none 0 0] 26)).heap.size ifX (some ⟨V20.heap.size, 0, none⟩) 3 := laid3 leaf_at hS.kds leaf_at _ _ _ rfl _
        have hX := hX.below hb
        have hS := hS.below hb
        obtain ⟨V21, hU⟩ : ∃ q, V20.alloc (.cells #[.int .i64 2, .string ⟨#[]⟩, .int .i64 2, .int .i64 0, .string ⟨#[]⟩, .slice none 0 0, .int .i64 7, .string ⟨#[]⟩, .int .i64 0, .int .i64 0, .string ⟨#[]⟩, .slice (some ⟨w3.heap.size, 0, none⟩) 2 2, .int .i64 2, .string ⟨#[]⟩, .int .i64 1, .int .i64 2, .string ⟨#[]⟩, .slice none 0 0] 26) = q := ⟨_, rfl⟩
        rw [hU] at hX hk hS ⊢
        have hlt : w3.heap.size + 1 + 1 < V21.heap.size ∧ w.heap.size < V21.heap.size := ⟨lt_of_heap hS.n, lt_of_heap hS.col⟩
        clear hU hb
        obtain ⟨kb, ekb⟩ : ∃ q, V20.heap.size = q := ⟨_, rfl⟩
        rw [ekb] at hk ⊢
        clear ekb
        refine ⟨hS, ?_⟩
        try simp only [List.setIfInBounds_toArray, List.set_cons_succ, List.set_cons_zero]
        refine held_take (i := 4) (t := 31) (v := (.agg #[.int .i64 18, .string ⟨#[]⟩, .int .i64 0, .int .i64 0, .string ⟨#[]⟩, .slice (some ⟨kb, 0, none⟩) 3 3])) (fuel := 7) rfl rfl (by kernel_rfl) (by kernel_rfl) (by kernel_rfl) (fun _ _ _ h => h) (.inl ⟨rfl, fun W hW => by simp [execOp, Act.eval, go_sem]⟩) hS ?_
        simp only [List.setIfInBounds_toArray, List.set_cons_succ, List.set_cons_zero]
        refine held_call (i := 7) rfl (by kernel_rfl) (by kernel_rfl) ?_
        simp [Oper.wp, execOp, Act.eval, Act.put, go_sem]
        have hb : Below V21.heap.size V21 (V21.alloc (.cells #[.int .i64 0, .int .i64 0, .string ⟨#[]⟩] 23)) := (Below.refl _ _).alloc (Nat.le_refl _) _
        have hk := KidsAt.more hb.size (hk.below hb)
        have hX := hX.below hb
        have hS := hS.below hb
        have hq : (V21.alloc (.cells #[.int .i64 0, .int .i64 0, .string ⟨#[]⟩] 23)).heap[V21.heap.size]? = some (.cells #[.int .i64 0, .int .i64 0, .string ⟨#[]⟩] 23) := World.alloc_heap_new _ _
        obtain ⟨V22, hU⟩ : ∃ q, V21.alloc (.cells #[.int .i64 0, .int .i64 0, .string ⟨#[]⟩] 23) = q := ⟨_, rfl⟩
        rw [hU] at hX hq hk hS ⊢
        have hlt : w3.heap.size + 1 + 1 < V22.heap.size ∧ w.heap.size < V22.heap.size := ⟨lt_of_heap hS.n, lt_of_heap hS.col⟩
        clear hU hb
        obtain ⟨qb, eqb⟩ : ∃ q, V21.heap.size = q := ⟨_, rfl⟩
        rw [eqb] at hq ⊢
        clear eqb
        refine ⟨hS, ?_⟩
        try simp only [List.setIfInBounds_toArray, List.set_cons_succ, List.set_cons_zero]
        refine held_call (i := 8) rfl (by kernel_rfl) (by kernel_rfl) ?_
        simp [Oper.wp, execOp, Act.eval, Act.put, go_sem]
        refine (hS.worth ifX if_wf (some ⟨kb, 0, none⟩) 3 hk _ hq).mono ?_
        rintro en V23 ⟨rfl, hb⟩
        rw [worth_if]
        unfold endV intW V.val
        dsimp only
        have hk := KidsAt.more hb.size (hk.below hb)
        have hq := (hb.block _ (lt_of_heap hq)).trans hq
        have hX := hX.below hb
        have hS := hS.below hb
        clear hb hk hq
        refine ⟨hS, ?_⟩
        try simp only [List.setIfInBounds_toArray, List.set_cons_succ, List.set_cons_zero]
        refine held_take (i := 9) (t := 26) (v := (.tuple #[.agg #[.int .i64 1, .int .i64 2, .string ⟨#[]⟩], .int .i64 0])) (fuel := 4) rfl rfl (by kernel_rfl) (by kernel_rfl) (by kernel_rfl) (fun _ _ _ h => h) (.inl ⟨rfl, fun W hW => by simp [execOp, Act.eval, go_sem]⟩) hS ?_
        simp only [List.setIfInBounds_toArray, List.set_cons_succ, List.set_cons_zero]
        refine held_take (i := 10) (t := 36) (v := (.agg #[.int .i64 1, .int .i64 2, .string ⟨#[]⟩])) (fuel := 3) rfl rfl (by kernel_rfl) (by kernel_rfl) (by kernel_rfl) (fun _ _ _ h => h) (.inl ⟨rfl, fun W hW => by simp [execOp, Act.eval, go_sem]⟩) hS ?_
        simp only [List.setIfInBounds_toArray, List.set_cons_succ, List.set_cons_zero]
        refine held_take (i := 11) (t := 37) (v := (.int .i64 0)) (fuel := 2) rfl rfl (by kernel_rfl) (by kernel_rfl) (by kernel_rfl) (fun _ _ _ h => h) (.inl ⟨rfl, fun W hW => by simp [execOp, Act.eval, go_sem]⟩) hS ?_
        simp only [List.setIfInBounds_toArray, List.set_cons_succ, List.set_cons_zero]
        have hlt : w3.heap.size + 1 + 1 < V23.heap.size ∧ w.heap.size < V23.heap.size := ⟨lt_of_heap hS.n, lt_of_heap hS.col⟩
        refine held_call (i := 13) rfl (by kernel_rfl) (by kernel_rfl) ?_
        have s0 := hX.c0; have s1 := hX.c1; have s2 := hX.c2; have f0 := hX.free 0; have f1 := hX.free 1; have f2 := hX.free 2
        simp [Oper.wp, execOp, Act.eval, Act.put, go_sem, s0, s1, s2, f0, f1, f2]
        have hX2 : Box3 (((V23.setCell ⟨g, 0, none⟩ (.int .i64 1)).setCell ⟨g, 1, none⟩ (.int .i64 2)).setCell ⟨g, 2, none⟩ (.string ⟨#[]⟩)) g (intW 2) := hX.set (intW 2)
        have hS := hS.set3 (x := .int .i64 1) (y := .int .i64 2) (z := .string ⟨#[]⟩) g hg (Nat.lt_succ_self _) (Nat.le_refl _)
        obtain ⟨Z, hZ⟩ : ∃ q, ((V23.setCell ⟨g, 0, none⟩ (.int .i64 1)).setCell ⟨g, 1, none⟩ (.int .i64 2)).setCell ⟨g, 2, none⟩ (.string ⟨#[]⟩) = q := ⟨_, rfl⟩
        rw [hZ] at hX2 hS ⊢
        refine ⟨hS, ?_⟩
        try simp only [List.setIfInBounds_toArray, List.set_cons_succ, List.set_cons_zero]
        refine held_take (i := 14) (t := 7) (v := (.int .i64 0)) (fuel := 0) rfl rfl (by kernel_rfl) (by kernel_rfl) (by kernel_rfl) (fun _ _ _ h => h) (.inl ⟨rfl, fun W hW => by simp [execOp, Act.eval, go_sem]⟩) hS ?_
        simp only [List.setIfInBounds_toArray, List.set_cons_succ, List.set_cons_zero]
        refine wpAnyH_done (by kernel_rfl) ?_ 0
        exact HREST _ _ _ _ _ _ _ _ _ _ _ _ _ _ _ _ _ _ _ _ _ _ _ _ _ _ _ _ _ _ _ _ _ _ _ _ _ _ _ _ _ _ _ _ _ _ _ _ _ _ _ _ _ _ _ _ _ _ _ _ _ _ _ _ _ _ _ _ _ g Z hS hX2
      · simp [Oper.wp, execOp, Act.eval, Act.put, go_sem]
        have hb : Below V20.heap.size V20 (V20.alloc (.cells #[.int .i64 0, .int .i64 0, .string ⟨#[]⟩] 23)) := (Below.refl _ _).alloc (Nat.le_refl _) _
        have hX := hX.below hb
        have hS := hS.below hb
        have hq : (V20.alloc (.cells #[.int .i64 0, .int .i64 0, .string ⟨#[]⟩] 23)).heap[V20.heap.size]? = some (.cells #[.int .i64 0, .int .i64 0, .string ⟨#[]⟩] 23) := World.alloc_heap_new _ _
        obtain ⟨V24, hU⟩ : ∃ q, V20.alloc (.cells #[.int .i64 0, .int .i64 0, .string ⟨#[]⟩] 23) = q := ⟨_, rfl⟩
        rw [hU] at hX hq hS ⊢
        have hlt : w3.heap.size + 1 + 1 < V24.heap.size ∧ w.heap.size < V24.heap.size := ⟨lt_of_heap hS.n, lt_of_heap hS.col⟩
        clear hU hb
        obtain ⟨qb, eqb⟩ : ∃ q, V20.heap.size = q := ⟨_, rfl⟩
        rw [eqb] at hq ⊢
        clear eqb
        refine ⟨hS, ?_⟩
        try simp only [List.setIfInBounds_toArray, List.set_cons_succ, List.set_cons_zero]
        refine held_call (i := 3) rfl (by kernel_rfl) (by kernel_rfl) ?_
        simp [Oper.wp, execOp, Act.eval, Act.put, go_sem]
        have hb : Below V24.heap.size V24 (V24.alloc (.cells #[.int .i64 2, .string ⟨#[]⟩, .int .i64 2, .int .i64 0, .string ⟨#[]⟩, .slice none 0 0, .int .i64 7, .string ⟨#[]⟩, .int .i64 0, .int .i64 0, .string ⟨#[]⟩, .slice (some ⟨w3.heap.size, 0, none⟩) 2 2, .int .i64 2, .string ⟨#[]⟩, .int .i64 1, .int .i64 2, .string ⟨#[]⟩, .slice none 0 0] 26)) := (Below.refl _ _).alloc (Nat.le_refl _) _
        have hk : KidsAt (V24.alloc (.cells #[.int .i64 2, .string ⟨#[]⟩, .int .i64 2, .int .i64 0, .string ⟨#[]⟩, .slice none 0 0, .int .i64 7, .string ⟨#[]⟩, .int .i64 0, .int .i64 0, .string ⟨#[]⟩, .slice (some ⟨w3.heap.size, 0, none⟩) 2 2, .int .i64 2, .string ⟨#[]⟩, .int .i64 1, .int .i64 2, .string ⟨#[]⟩, .slice none 0 0] 26)) (V24.alloc (.cells #[.int .i64 2, .string ⟨#[]⟩, .int .i64 2, .int .i64 0, .string ⟨#[]⟩, .slice none 0 0, .int .i64 7, .string ⟨#[]⟩, .int .i64 0, .int .i64 0, .string ⟨#[]⟩, .slice (some ⟨w3.heap.size, 0, none⟩) 2 2, .int .i64 2, .string ⟨#[]⟩, .int .i64 1, .int .i64 2, .string ⟨#[]⟩, .slice none 0 0] 26)).heap.size ifX (some ⟨V24.heap.size, 0, none⟩) 3 := laid3 leaf_at hS.kds leaf_at _ _ _ rfl _
        have hq := (hb.block _ (lt_of_heap hq)).trans hq
        have hX := hX.below hb
        have hS := hS.below hb
        obtain ⟨V25, hU⟩ : ∃ q, V24.alloc (.cells #[.int .i64 2, .string ⟨#[]⟩, .int .i64 2, .int .i64 0, .string ⟨#[]⟩, .slice none 0 0, .int .i64 7, .string ⟨#[]⟩, .int .i64 0, .int .i64 0, .string ⟨#[]⟩, .slice (some ⟨w3.heap.size, 0, none⟩) 2 2, .int .i64 2, .string ⟨#[]⟩, .int .i64 1, .int .i64 2, .string ⟨#[]⟩, .slice none 0 0] 26) = q := ⟨_, rfl⟩
        rw [hU] at hX hq hk hS ⊢
        have hlt : w3.heap.size + 1 + 1 < V25.heap.size ∧ w.heap.size < V25.heap.size := ⟨lt_of_heap hS.n, lt_of_heap hS.col⟩
        clear hU hb
        obtain ⟨kb, ekb⟩ : ∃ q, V24.heap.size = q := ⟨_, rfl⟩
        rw [ekb] at hk ⊢
        clear ekb
        refine ⟨hS, ?_⟩
        try simp only [List.setIfInBounds_toArray, List.set_cons_succ, List.set_cons_zero]
        refine held_take (i := 4) (t := 31) (v := (.agg #[.int .i64 18, .string ⟨#[]⟩, .int .i64 0, .int .i64 0, .string ⟨#[]⟩, .slice (some ⟨kb, 0, none⟩) 3 3])) (fuel := 6) rfl rfl (by kernel_rfl) (by kernel_rfl) (by kernel_rfl) (fun _ _ _ h => h) (.inl ⟨rfl, fun W hW => by simp [execOp, Act.eval, go_sem]⟩) hS ?_
        simp only [List.setIfInBounds_toArray, List.set_cons_succ, List.set_cons_zero]
        refine held_call (i := 8) rfl (by kernel_rfl) (by kernel_rfl) ?_
        simp [Oper.wp, execOp, Act.eval, Act.put, go_sem]
        refine (hS.worth ifX if_wf (some ⟨kb, 0, none⟩) 3 hk _ hq).mono ?_
        rintro en V26 ⟨rfl, hb⟩
        rw [worth_if]
        unfold endV intW V.val
        dsimp only
        have hk := KidsAt.more hb.size (hk.below hb)
        have hq := (hb.block _ (lt_of_heap hq)).trans hq
        have hX := hX.below hb
        have hS := hS.below hb
        clear hb hk hq
        refine ⟨hS, ?_⟩
        try simp only [List.setIfInBounds_toArray, List.set_cons_succ, List.set_cons_zero]
        refine held_take (i := 9) (t := 26) (v := (.tuple #[.agg #[.int .i64 1, .int .i64 2, .string ⟨#[]⟩], .int .i64 0])) (fuel := 4) rfl rfl (by kernel_rfl) (by kernel_rfl) (by kernel_rfl) (fun _ _ _ h => h) (.inl ⟨rfl, fun W hW => by simp [execOp, Act.eval, go_sem]⟩) hS ?_
        simp only [List.setIfInBounds_toArray, List.set_cons_succ, List.set_cons_zero]
        refine held_take (i := 10) (t := 36) (v := (.agg #[.int .i64 1, .int .i64 2, .string ⟨#[]⟩])) (fuel := 3) rfl rfl (by kernel_rfl) (by kernel_rfl) (by kernel_rfl) (fun _ _ _ h => h) (.inl ⟨rfl, fun W hW => by simp [execOp, Act.eval, go_sem]⟩) hS ?_
        simp only [List.setIfInBounds_toArray, List.set_cons_succ, List.set_cons_zero]
        refine held_take (i := 11) (t := 37) (v := (.int .i64 0)) (fuel := 2) rfl rfl (by kernel_rfl) (by kernel_rfl) (by kernel_rfl) (fun _ _ _ h => h) (.inl ⟨rfl, fun W hW => by simp [execOp, Act.eval, go_sem]⟩) hS ?_
        simp only [List.setIfInBounds_toArray, List.set_cons_succ, List.set_cons_zero]
        have hlt : w3.heap.size + 1 + 1 < V26.heap.size ∧ w.heap.size < V26.heap.size := ⟨lt_of_heap hS.n, lt_of_heap hS.col⟩
        refine held_call (i := 13) rfl (by kernel_rfl) (by kernel_rfl) ?_
        have s0 := hX.c0; have s1 := hX.c1; have s2 := hX.c2; have f0 := hX.free 0; have f1 := hX.free 1; have f2 := hX.free 2
        simp [Oper.wp, execOp, Act.eval, Act.put, go_sem, s0, s1, s2, f0, f1, f2]
        have hX2 : Box3 (((V26.setCell ⟨g, 0, none⟩ (.int .i64 1)).setCell ⟨g, 1, none⟩ (.int .i64 2)).setCell ⟨g, 2, none⟩ (.string ⟨#[]⟩)) g (intW 2) := hX.set (intW 2)
        have hS := hS.set3 (x := .int .i64 1) (y := .int .i64 2) (z := .string ⟨#[]⟩) g hg (Nat.lt_succ_self _) (Nat.le_refl _)
        obtain ⟨Z, hZ⟩ : ∃ q, ((V26.setCell ⟨g, 0, none⟩ (.int .i64 1)).setCell ⟨g, 1, none⟩ (.int .i64 2)).setCell ⟨g, 2, none⟩ (.string ⟨#[]⟩) = q := ⟨_, rfl⟩
        rw [hZ] at hX2 hS ⊢
        refine ⟨hS, ?_⟩
        try simp only [List.setIfInBounds_toArray, List.set_cons_succ, List.set_cons_zero]
        refine held_take (i := 14) (t := 7) (v := (.int .i64 0)) (fuel := 0) rfl rfl (by kernel_rfl) (by kernel_rfl) (by kernel_rfl) (fun _ _ _ h => h) (.inl ⟨rfl, fun W hW => by simp [execOp, Act.eval, go_sem]⟩) hS ?_
        simp only [List.setIfInBounds_toArray, List.set_cons_succ, List.set_cons_zero]
        refine wpAnyH_done (by kernel_rfl) ?_ 0
        exact HREST _ _ _ _ _ _ _ _ _ _ _ _ _ _ _ _ _ _ _ _ _ _ _ _ _ _ _ _ _ _ _ _ _ _ _ _ _ _ _ _ _ _ _ _ _ _ _ _ _ _ _ _ _ _ _ _ _ _ _ _ _ _ _ _ _ _ _ _ _ g Z hS hX2
  · simp [Oper.wp, execOp, Act.eval, Act.put, go_sem]
    have hb : Below U1.heap.size U1 (U1.alloc (.cells #[.int .i64 0, .int .i64 0, .string ⟨#[]⟩] 23)) := (Below.refl _ _).alloc (Nat.le_refl _) _
    have hS := hS.below hb
    have hq : (U1.alloc (.cells #[.int .i64 0, .int .i64 0, .string ⟨#[]⟩] 23)).heap[U1.heap.size]? = some (.cells #[.int .i64 0, .int .i64 0, .string ⟨#[]⟩] 23) := World.alloc_heap_new _ _
    obtain ⟨V27, hU⟩ : ∃ q, U1.alloc (.cells #[.int .i64 0, .int .i64 0, .string ⟨#[]⟩] 23) = q := ⟨_, rfl⟩
    rw [hU] at hq hS ⊢
    have hlt : w3.heap.size + 1 + 1 < V27.heap.size ∧ w.heap.size < V27.heap.size := ⟨lt_of_heap hS.n, lt_of_heap hS.col⟩
    clear hU hb
    obtain ⟨qb, eqb⟩ : ∃ q, U1.heap.size = q := ⟨_, rfl⟩
    rw [eqb] at hq ⊢
    clear eqb
    refine ⟨hS, ?_⟩
    try simp only [List.setIfInBounds_toArray, List.set_cons_succ, List.set_cons_zero]
    refine held_two (i := 2) (j := 12) rfl rfl (by kernel_rfl) (by kernel_rfl) (by kernel_rfl) ?_ ?_
    · simp [Oper.wp, execOp, Act.eval, Act.put, go_sem]
      refine (lone_any 2 _).mono ?_
      rintro en V28 ⟨rfl, hb⟩
      have hq := (hb.block _ (lt_of_heap hq)).trans hq
      have hS := hS.below hb
      clear hb
      refine ⟨hS, ?_⟩
      try simp only [List.setIfInBounds_toArray, List.set_cons_succ, List.set_cons_zero]
      have hlt : w3.heap.size + 1 + 1 < V28.heap.size ∧ w.heap.size < V28.heap.size := ⟨lt_of_heap hS.n, lt_of_heap hS.col⟩
      refine held_two (i := 3) (j := 12) rfl rfl (by kernel_rfl) (by kernel_rfl) (by kernel_rfl) ?_ ?_
      · simp [Oper.wp, execOp, Act.eval, Act.put, go_sem]
        have hb : Below V28.heap.size V28 (V28.alloc (.cells #[.int .i64 2, .string ⟨#[]⟩, .int .i64 2, .int .i64 0, .string ⟨#[]⟩, .slice none 0 0, .int .i64 7, .string ⟨#[]⟩, .int .i64 0, .int .i64 0, .string ⟨#[]⟩, .slice (some ⟨w3.heap.size, 0, none⟩) 2 2, .int .i64 2, .string ⟨#[]⟩, .int .i64 1, .int .i64 2, .string ⟨#[]⟩, .slice none 0 0] 26)) := (Below.refl _ _).alloc (Nat.le_refl _) _
        have hk : KidsAt (V28.alloc (.cells #[.int .i64 2, .string ⟨#[]⟩, .int .i64 2, .int .i64 0, .string ⟨#[]⟩, .slice none 0 0, .int .i64 7, .string ⟨#[]⟩, .int .i64 0, .int .i64 0, .string ⟨#[]⟩, .slice (some ⟨w3.heap.size, 0, none⟩) 2 2, .int .i64 2, .string ⟨#[]⟩, .int .i64 1, .int .i64 2, .string ⟨#[]⟩, .slice none 0 0] 26)) (V28.alloc (.cells #[.int .i64 2, .string ⟨#[]⟩, .int .i64 2, .int .i64 0, .string ⟨#[]⟩, .slice none 0 0, .int .i64 7, .string ⟨#[]⟩, .int .i64 0, .int .i64 0, .string ⟨#[]⟩, .slice (some ⟨w3.heap.size, 0, none⟩) 2 2, .int .i64 2, .string ⟨#[]⟩, .int .i64 1, .int .i64 2, .string ⟨#[]⟩, .slice none 0 0] 26)).heap.size ifX (some ⟨V28.heap.size, 0, none⟩) 3 := laid3 leaf_at hS.kds leaf_at _ _ _ rfl _
        have hq := (hb.block _ (lt_of_heap hq)).trans hq
        have hS := hS.below hb
        obtain ⟨V29, hU⟩ : ∃ q, V28.alloc (.cells #[.int .i64 2, .string ⟨#[]⟩, .int .i64 2, .int .i64 0, .string ⟨#[]⟩, .slice none 0 0, .int .i64 7, .string ⟨#[]⟩, .int .i64 0, .int .i64 0, .string ⟨#[]⟩, .slice (some ⟨w3.heap.size, 0, none⟩) 2 2, .int .i64 2, .string ⟨#[]⟩, .int .i64 1, .int .i64 2, .string ⟨#[]⟩, .slice none 0 0] 26) = q := ⟨_, rfl⟩
        rw [hU] at hq hk hS ⊢
        have hlt : w3.heap.size + 1 + 1 < V29.heap.size ∧ w.heap.size < V29.heap.size := ⟨lt_of_heap hS.n, lt_of_heap hS.col⟩
        clear hU hb
        obtain ⟨kb, ekb⟩ : ∃ q, V28.heap.size = q := ⟨_, rfl⟩
        rw [ekb] at hk ⊢
        clear ekb
        refine ⟨hS, ?_⟩
        try simp only [List.setIfInBounds_toArray, List.set_cons_succ, List.set_cons_zero]
        refine held_take (i := 4) (t := 31) (v := (.agg #[.int .i64 18, .string ⟨#[]⟩, .int .i64 0, .int .i64 0, .string ⟨#[]⟩, .slice (some ⟨kb, 0, none⟩) 3 3])) (fuel := 7) rfl rfl (by kernel_rfl) (by kernel_rfl) (by kernel_rfl) (fun _ _ _ h => h) (.inl ⟨rfl, fun W hW => by simp [execOp, Act.eval, go_sem]⟩) hS ?_
        simp only [List.setIfInBounds_toArray, List.set_cons_succ, List.set_cons_zero]
        refine held_two (i := 8) (j := 12) rfl rfl (by kernel_rfl) (by kernel_rfl) (by kernel_rfl) ?_ ?_
        · simp [Oper.wp, execOp, Act.eval, Act.put, go_sem]
          refine (hS.worth ifX if_wf (some ⟨kb, 0, none⟩) 3 hk _ hq).mono ?_
          rintro en V30 ⟨rfl, hb⟩
          rw [worth_if]
          unfold endV intW V.val
          dsimp only
          have hk := KidsAt.more hb.size (hk.below hb)
          have hq := (hb.block _ (lt_of_heap hq)).trans hq
          have hS := hS.below hb
          clear hb hk hq
          refine ⟨hS, ?_⟩
          try simp only [List.setIfInBounds_toArray, List.set_cons_succ, List.set_cons_zero]
          refine held_take (i := 9) (t := 26) (v := (.tuple #[.agg #[.int .i64 1, .int .i64 2, .string ⟨#[]⟩], .int .i64 0])) (fuel := 5) rfl rfl (by kernel_rfl) (by kernel_rfl) (by kernel_rfl) (fun _ _ _ h => h) (.inl ⟨rfl, fun W hW => by simp [execOp, Act.eval, go_sem]⟩) hS ?_
          simp only [List.setIfInBounds_toArray, List.set_cons_succ, List.set_cons_zero]
          refine held_take (i := 10) (t := 36) (v := (.agg #[.int .i64 1, .int .i64 2, .string ⟨#[]⟩])) (fuel := 4) rfl rfl (by kernel_rfl) (by kernel_rfl) (by kernel_rfl) (fun _ _ _ h => h) (.inl ⟨rfl, fun W hW => by simp [execOp, Act.eval, go_sem]⟩) hS ?_
          simp only [List.setIfInBounds_toArray, List.set_cons_succ, List.set_cons_zero]
          refine held_take (i := 11) (t := 37) (v := (.int .i64 0)) (fuel := 3) rfl rfl (by kernel_rfl) (by kernel_rfl) (by kernel_rfl) (fun _ _ _ h => h) (.inl ⟨rfl, fun W hW => by simp [execOp, Act.eval, go_sem]⟩) hS ?_
          simp only [List.setIfInBounds_toArray, List.set_cons_succ, List.set_cons_zero]
          have hlt : w3.heap.size + 1 + 1 < V30.heap.size ∧ w.heap.size < V30.heap.size := ⟨lt_of_heap hS.n, lt_of_heap hS.col⟩
          refine held_call (i := 12) rfl (by kernel_rfl) (by kernel_rfl) ?_
          simp [Oper.wp, execOp, Act.eval, Act.put, go_sem]
          have hb : Below V30.heap.size V30 (V30.alloc (.cells #[.int .i64 0, .int .i64 0, .string ⟨#[]⟩] 23)) := (Below.refl _ _).alloc (Nat.le_refl _) _
          have hS := hS.below hb
          have hX : Box3 (V30.alloc (.cells #[.int .i64 0, .int .i64 0, .string ⟨#[]⟩] 23)) V30.heap.size zV := Box3.new _ zV
          obtain ⟨V31, hU⟩ : ∃ q, V30.alloc (.cells #[.int .i64 0, .int .i64 0, .string ⟨#[]⟩] 23) = q := ⟨_, rfl⟩
          rw [hU] at hX hS ⊢
          have hg : w3.heap.size + 1 + 1 < V30.heap.size ∧ w.heap.size < V30.heap.size := hlt
          have hlt : w3.heap.size + 1 + 1 < V31.heap.size ∧ w.heap.size < V31.heap.size := ⟨lt_of_heap hS.n, lt_of_heap hS.col⟩
          clear hU hb
          obtain ⟨g, eg⟩ : ∃ q, V30.heap.size = q := ⟨_, rfl⟩
          rw [eg] at hX hg ⊢
          clear eg
          refine ⟨hS, ?_⟩
          try simp only [List.setIfInBounds_toArray, List.set_cons_succ, List.set_cons_zero]
          refine held_call (i := 13) rfl (by kernel_rfl) (by kernel_rfl) ?_
          have s0 := hX.c0; have s1 := hX.c1; have s2 := hX.c2; have f0 := hX.free 0; have f1 := hX.free 1; have f2 := hX.free 2
          simp [Oper.wp, execOp, Act.eval, Act.put, go_sem, s0, s1, s2, f0, f1, f2]
          have hX2 : Box3 (((V31.setCell ⟨g, 0, none⟩ (.int .i64 1)).setCell ⟨g, 1, none⟩ (.int .i64 2)).setCell ⟨g, 2, none⟩ (.string ⟨#[]⟩)) g (intW 2) := hX.set (intW 2)
          have hS := hS.set3 (x := .int .i64 1) (y := .int .i64 2) (z := .string ⟨#[]⟩) g hg (Nat.lt_succ_self _) (Nat.le_refl _)
          obtain ⟨Z, hZ⟩ : ∃ q, ((V31.setCell ⟨g, 0, none⟩ (.int .i64 1)).setCell ⟨g, 1, none⟩ (.int .i64 2)).setCell ⟨g, 2, none⟩ (.string ⟨#[]⟩) = q := ⟨_, rfl⟩
          rw [hZ] at hX2 hS ⊢
          refine ⟨hS, ?_⟩
          try simp only [List.setIfInBounds_toArray, List.set_cons_succ, List.set_cons_zero]
          refine held_take (i := 14) (t := 7) (v := (.int .i64 0)) (fuel := 0) rfl rfl (by kernel_rfl) (by kernel_rfl) (by kernel_rfl) (fun _ _ _ h => h) (.inl ⟨rfl, fun W hW => by simp [execOp, Act.eval, go_sem]⟩) hS ?_
          simp only [List.setIfInBounds_toArray, List.set_cons_succ, List.set_cons_zero]
          refine wpAnyH_done (by kernel_rfl) ?_ 0
          exact HREST _ _ _ _ _ _ _ _ _ _ _ _ _ _ _ _ _ _ _ _ _ _ _ _ _ _ _ _ _ _ _ _ _ _ _ _ _ _ _ _ _ _ _ _ _ _ _ _ _ _ _ _ _ _ _ _ _ _ _ _ _ _ _ _ _ _ _ _ _ g Z hS hX2
        · simp [Oper.wp, execOp, Act.eval, Act.put, go_sem]
          have hb : Below V29.heap.size V29 (V29.alloc (.cells #[.int .i64 0, .int .i64 0, .string ⟨#[]⟩] 23)) := (Below.refl _ _).alloc (Nat.le_refl _) _
          have hk := KidsAt.more hb.size (hk.below hb)
          have hq := (hb.block _ (lt_of_heap hq)).trans hq
          have hS := hS.below hb
          have hX : Box3 (V29.alloc (.cells #[.int .i64 0, .int .i64 0, .string ⟨#[]⟩] 23)) V29.heap.size zV := Box3.new _ zV
          obtain ⟨V32, hU⟩ : ∃ q, V29.alloc (.cells #[.int .i64 0, .int .i64 0, .string ⟨#[]⟩] 23) = q := ⟨_, rfl⟩
          rw [hU] at hX hq hk hS ⊢
          have hg : w3.heap.size + 1 + 1 < V29.heap.size ∧ w.heap.size < V29.heap.size := hlt
          have hlt : w3.heap.size + 1 + 1 < V32.heap.size ∧ w.heap.size < V32.heap.size := ⟨lt_of_heap hS.n, lt_of_heap hS.col⟩
          clear hU hb
          obtain ⟨g, eg⟩ : ∃ q, V29.heap.size = q := ⟨_, rfl⟩
          rw [eg] at hX hg ⊢
          clear eg
          refine ⟨hS, ?_⟩
          try simp only [List.setIfInBounds_toArray, List.set_cons_succ, List.set_cons_zero]
          refine held_call (i := 8) rfl (by kernel_rfl) (by kernel_rfl) ?_
          simp [Oper.wp, execOp, Act.eval, Act.put, go_sem]
          refine (hS.worth ifX if_wf (some ⟨kb, 0, none⟩) 3 hk _ hq).mono ?_
          rintro en V33 ⟨rfl, hb⟩
          rw [worth_if]
          unfold endV intW V.val
          dsimp only
          have hk := KidsAt.more hb.size (hk.below hb)
          have hq := (hb.block _ (lt_of_heap hq)).trans hq
          have hX := hX.below hb
          have hS := hS.below hb
          clear hb hk hq
          refine ⟨hS, ?_⟩
          try simp only [List.setIfInBounds_toArray, List.set_cons_succ, List.set_cons_zero]
          refine held_take (i := 9) (t := 26) (v := (.tuple #[.agg #[.int .i64 1, .int .i64 2, .string ⟨#[]⟩], .int .i64 0])) (fuel := 4) rfl rfl (by kernel_rfl) (by kernel_rfl) (by kernel_rfl) (fun _ _ _ h => h) (.inl ⟨rfl, fun W hW => by simp [execOp, Act.eval, go_sem]⟩) hS ?_
          simp only [List.setIfInBounds_toArray, List.set_cons_succ, List.set_cons_zero]
          refine held_take (i := 10) (t := 36) (v := (.agg #[.int .i64 1, .int .i64 2, .string ⟨#[]⟩])) (fuel := 3) rfl rfl (by kernel_rfl) (by kernel_rfl) (by kernel_rfl) (fun _ _ _ h => h) (.inl ⟨rfl, fun W hW => by simp [execOp, Act.eval, go_sem]⟩) hS ?_
          simp only [List.setIfInBounds_toArray, List.set_cons_succ, List.set_cons_zero]
          refine held_take (i := 11) (t := 37) (v := (.int .i64 0)) (fuel := 2) rfl rfl (by kernel_rfl) (by kernel_rfl) (by kernel_rfl) (fun _ _ _ h => h) (.inl ⟨rfl, fun W hW => by simp [execOp, Act.eval, go_sem]⟩) hS ?_
          simp only [List.setIfInBounds_toArray, List.set_cons_succ, List.set_cons_zero]
          have hlt : w3.heap.size + 1 + 1 < V33.heap.size ∧ w.heap.size < V33.heap.size := ⟨lt_of_heap hS.n, lt_of_heap hS.col⟩
          refine held_call (i := 13) rfl (by kernel_rfl) (by kernel_rfl) ?_
          have s0 := hX.c0; have s1 := hX.c1; have s2 := hX.c2; have f0 := hX.free 0; have f1 := hX.free 1; have f2 := hX.free 2
          simp [Oper.wp, execOp, Act.eval, Act.put, go_sem, s0, s1, s2, f0, f1, f2]
          have hX2 : Box3 (((V33.setCell ⟨g, 0, none⟩ (.int .i64 1)).setCell ⟨g, 1, none⟩ (.int .i64 2)).setCell ⟨g, 2, none⟩ (.string ⟨#[]⟩)) g (intW 2) := hX.set (intW 2)
          have hS := hS.set3 (x := .int .i64 1) (y := .int .i64 2) (z := .string ⟨#[]⟩) g hg (Nat.lt_succ_self _) (Nat.le_refl _)
          obtain ⟨Z, hZ⟩ : ∃ q, ((V33.setCell ⟨g, 0, none⟩ (.int .i64 1)).setCell ⟨g, 1, none⟩ (.int .i64 2)).setCell ⟨g, 2, none⟩ (.string ⟨#[]⟩) = q := ⟨_, rfl⟩
          rw [hZ] at hX2 hS ⊢
          refine ⟨hS, ?_⟩
          try simp only [List.setIfInBounds_toArray, List.set_cons_succ, List.set_cons_zero]
          refine held_take (i := 14) (t := 7) (v := (.int .i64 0)) (fuel := 0) rfl rfl (by kernel_rfl) (by kernel_rfl) (by kernel_rfl) (fun _ _ _ h => h) (.inl ⟨rfl, fun W hW => by simp [execOp, Act.eval, go_sem]⟩) hS ?_
          simp only [List.setIfInBounds_toArray, List.set_cons_succ, List.set_cons_zero]
          refine wpAnyH_done (by kernel_rfl) ?_ 0
          exact HREST _ _ _ _ _ _ _ _ _ _ _ _ _ _ _ _ _ _ _ _ _ _ _ _ _ _ _ _ _ _ _ _ _ _ _ _ _ _ _ _ _ _ _ _ _ _ _ _ _ _ _ _ _ _ _ _ _ _ _ _ _ _ _ _ _ _ _ _ _ g Z hS hX2
      · simp [Oper.wp, execOp, Act.eval, Act.put, go_sem]
        have hb : Below V28.heap.size V28 (V28.alloc (.cells #[.int .i64 0, .int .i64 0, .string ⟨#[]⟩] 23)) := (Below.refl _ _).alloc (Nat.le_refl _) _
        have hq := (hb.block _ (lt_of_heap hq)).trans hq
        have hS := hS.below hb
        have hX : Box3 (V28.alloc (.cells #[.int .i64 0, .int .i64 0, .string ⟨#[]⟩] 23)) V28.heap.size zV := Box3.new _ zV
        obtain ⟨V34, hU⟩ : ∃ q, V28.alloc (.cells #[.int .i64 0, .int .i64 0, .string ⟨#[]⟩] 23) = q := ⟨_, rfl⟩
        rw [hU] at hX hq hS ⊢
        have hg : w3.heap.size + 1 + 1 < V28.heap.size ∧ w.heap.size < V28.heap.size := hlt
        have hlt : w3.heap.size + 1 + 1 < V34.heap.size ∧ w.heap.size < V34.heap.size := ⟨lt_of_heap hS.n, lt_of_heap hS.col⟩
        clear hU hb
        obtain ⟨g, eg⟩ : ∃ q, V28.heap.size = q := ⟨_, rfl⟩
        rw [eg] at hX hg ⊢
        clear eg
        refine ⟨hS, ?_⟩
        try simp only [List.setIfInBounds_toArray, List.set_cons_succ, List.set_cons_zero]
        refine held_call (i := 3) rfl (by kernel_rfl) (by kernel_rfl) ?_
        simp [Oper.wp, execOp, Act.eval, Act.put, go_sem]
        have hb : Below V34.heap.size V34 (V34.alloc (.cells #[.int .i64 2, .string ⟨#[]⟩, .int .i64 2, .int .i64 0, .string ⟨#[]⟩, .slice none 0 0, .int .i64 7, .string ⟨#[]⟩, .int .i64 0, .int .i64 0, .string ⟨#[]⟩, .slice (some ⟨w3.heap.size, 0, none⟩) 2 2, .int .i64 2, .string ⟨#[]⟩, .int .i64 1, .int .i64 2, .string ⟨#[]⟩, .slice none 0 0] 26)) := (Below.refl _ _).alloc (Nat.le_refl _) _
        have hk : KidsAt (V34.alloc (.cells #[.int .i64 2, .string ⟨#[]⟩, .int .i64 2, .int .i64 0, .string ⟨#[]⟩, .slice none 0 0, .int .i64 7, .string ⟨#[]⟩, .int .i64 0, .int .i64 0, .string ⟨#[]⟩, .slice (some ⟨w3.heap.size, 0, none⟩) 2 2, .int .i64 2, .string ⟨#[]⟩, .int .i64 1, .int .i64 2, .string ⟨#[]⟩, .slice none 0 0] 26)) (V34.alloc (.cells #[.int .i64 2, .string ⟨#[]⟩, .int .i64 2, .int .i64 0, .string ⟨#[]⟩, .slice none 0 0, .int .i64 7, .string ⟨#[]⟩, .int .i64 0, .int .i64 0, .string ⟨#[]⟩, .slice (some ⟨w3.heap.size, 0, none⟩) 2 2, .int .i64 2, .string ⟨#[]⟩, .int .i64 1, .int .i64 2, .string ⟨#[]⟩, .slice none 0 0] 26)).heap.size ifX (some ⟨V34.heap.size, 0, none⟩) 3 := laid3 leaf_at hS.kds leaf_at _ _ _ rfl _
        have hq := (hb.block _ (lt_of_heap hq)).trans hq
        have hX := hX.below hb
        have hS := hS.below hb
        obtain ⟨V35, hU⟩ : ∃ q, V34.alloc (.cells #[.int .i64 2, .string ⟨#[]⟩, .int .i64 2, .int .i64 0, .string ⟨#[]⟩, .slice none 0 0, .int .i64 7, .string ⟨#[]⟩, .int .i64 0, .int .i64 0, .string ⟨#[]⟩, .slice (some ⟨w3.heap.size, 0, none⟩) 2 2, .int .i64 2, .string ⟨#[]⟩, .int .i64 1, .int .i64 2, .string ⟨#[]⟩, .slice none 0 0] 26) = q := ⟨_, rfl⟩
        rw [hU] at hX hq hk hS ⊢
        have hlt : w3.heap.size + 1 + 1 < V35.heap.size ∧ w.heap.size < V35.heap.size := ⟨lt_of_heap hS.n, lt_of_heap hS.col⟩
        clear hU hb
        obtain ⟨kb, ekb⟩ : ∃ q, V34.heap.size = q := ⟨_, rfl⟩
        rw [ekb] at hk ⊢
        clear ekb
        refine ⟨hS, ?_⟩
        try simp only [List.setIfInBounds_toArray, List.set_cons_succ, List.set_cons_zero]
        refine held_take (i := 4) (t := 31) (v := (.agg #[.int .i64 18, .string ⟨#[]⟩, .int .i64 0, .int .i64 0, .string ⟨#[]⟩, .slice (some ⟨kb, 0, none⟩) 3 3])) (fuel := 6) rfl rfl (by kernel_rfl) (by kernel_rfl) (by kernel_rfl) (fun _ _ _ h => h) (.inl ⟨rfl, fun W hW => by simp [execOp, Act.eval, go_sem]⟩) hS ?_
        simp only [List.setIfInBounds_toArray, List.set_cons_succ, List.set_cons_zero]
        refine held_call (i := 8) rfl (by kernel_rfl) (by kernel_rfl) ?_
        simp [Oper.wp, execOp, Act.eval, Act.put, go_sem]
        refine (hS.worth ifX if_wf (some ⟨kb, 0, none⟩) 3 hk _ hq).mono ?_
        rintro en V36 ⟨rfl, hb⟩
        rw [worth_if]
        unfold endV intW V.val
        dsimp only
        have hk := KidsAt.more hb.size (hk.below hb)
        have hq := (hb.block _ (lt_of_heap hq)).trans hq
        have hX := hX.below hb
        have hS := hS.below hb
        clear hb hk hq
        refine ⟨hS, ?_⟩
        try simp only [List.setIfInBounds_toArray, List.set_cons_succ, List.set_cons_zero]
        refine held_take (i := 9) (t := 26) (v := (.tuple #[.agg #[.int .i64 1, .int .i64 2, .string ⟨#[]⟩], .int .i64 0])) (fuel := 4) rfl rfl (by kernel_rfl) (by kernel_rfl) (by kernel_rfl) (fun _ _ _ h => h) (.inl ⟨rfl, fun W hW => by simp [execOp, Act.eval, go_sem]⟩) hS ?_
        simp only [List.setIfInBounds_toArray, List.set_cons_succ, List.set_cons_zero]
        refine held_take (i := 10) (t := 36) (v := (.agg #[.int .i64 1, .int .i64 2, .string ⟨#[]⟩])) (fuel := 3) rfl rfl (by kernel_rfl) (by kernel_rfl) (by kernel_rfl) (fun _ _ _ h => h) (.inl ⟨rfl, fun W hW => by simp [execOp, Act.eval, go_sem]⟩) hS ?_
        simp only [List.setIfInBounds_toArray, List.set_cons_succ, List.set_cons_zero]
        refine held_take (i := 11) (t := 37) (v := (.int .i64 0)) (fuel := 2) rfl rfl (by kernel_rfl) (by kernel_rfl) (by kernel_rfl) (fun _ _ _ h => h) (.inl ⟨rfl, fun W hW => by simp [execOp, Act.eval, go_sem]⟩) hS ?_
        simp only [List.setIfInBounds_toArray, List.set_cons_succ, List.set_cons_zero]
        have hlt : w3.heap.size + 1 + 1 < V36.heap.size ∧ w.heap.size < V36.heap.size := ⟨lt_of_heap hS.n, lt_of_heap hS.col⟩
        refine held_call (i := 13) rfl (by kernel_rfl) (by kernel_rfl) ?_
        have s0 := hX.c0; have s1 := hX.c1; have s2 := hX.c2; have f0 := hX.free 0; have f1 := hX.free 1; have f2 := hX.free 2
        simp [Oper.wp, execOp, Act.eval, Act.put, go_sem, s0, s1, s2, f0, f1, f2]
        have hX2 : Box3 (((V36.setCell ⟨g, 0, none⟩ (.int .i64 1)).setCell ⟨g, 1, none⟩ (.int .i64 2)).setCell ⟨g, 2, none⟩ (.string ⟨#[]⟩)) g (intW 2) := hX.set (intW 2)
        have hS := hS.set3 (x := .int .i64 1) (y := .int .i64 2) (z := .string ⟨#[]⟩) g hg (Nat.lt_succ_self _) (Nat.le_refl _)
        obtain ⟨Z, hZ⟩ : ∃ q, ((V36.setCell ⟨g, 0, none⟩ (.int .i64 1)).setCell ⟨g, 1, none⟩ (.int .i64 2)).setCell ⟨g, 2, none⟩ (.string ⟨#[]⟩) = q := ⟨_, rfl⟩
        rw [hZ] at hX2 hS ⊢
        refine ⟨hS, ?_⟩
        try simp only [List.setIfInBounds_toArray, List.set_cons_succ, List.set_cons_zero]
        refine held_take (i := 14) (t := 7) (v := (.int .i64 0)) (fuel := 0) rfl rfl (by kernel_rfl) (by kernel_rfl) (by kernel_rfl) (fun _ _ _ h => h) (.inl ⟨rfl, fun W hW => by simp [execOp, Act.eval, go_sem]⟩) hS ?_
        simp only [List.setIfInBounds_toArray, List.set_cons_succ, List.set_cons_zero]
        refine wpAnyH_done (by kernel_rfl) ?_ 0
        exact HREST _ _ _ _ _ _ _ _ _ _ _ _ _ _ _ _ _ _ _ _ _ _ _ _ _ _ _ _ _ _ _ _ _ _ _ _ _ _ _ _ _ _ _ _ _ _ _ _ _ _ _ _ _ _ _ _ _ _ _ _ _ _ _ _ _ _ _ _ _ g Z hS hX2
    · simp [Oper.wp, execOp, Act.eval, Act.put, go_sem]
      have hb : Below V27.heap.size V27 (V27.alloc (.cells #[.int .i64 0, .int .i64 0, .string ⟨#[]⟩] 23)) := (Below.refl _ _).alloc (Nat.le_refl _) _
      have hq := (hb.block _ (lt_of_heap hq)).trans hq
      have hS := hS.below hb
      have hX : Box3 (V27.alloc (.cells #[.int .i64 0, .int .i64 0, .string ⟨#[]⟩] 23)) V27.heap.size zV := Box3.new _ zV
      obtain ⟨V37, hU⟩ : ∃ q, V27.alloc (.cells #[.int .i64 0, .int .i64 0, .string ⟨#[]⟩] 23) = q := ⟨_, rfl⟩
      rw [hU] at hX hq hS ⊢
      have hg : w3.heap.size + 1 + 1 < V27.heap.size ∧ w.heap.size < V27.heap.size := hlt
      have hlt : w3.heap.size + 1 + 1 < V37.heap.size ∧ w.heap.size < V37.heap.size := ⟨lt_of_heap hS.n, lt_of_heap hS.col⟩
      clear hU hb
      obtain ⟨g, eg⟩ : ∃ q, V27.heap.size = q := ⟨_, rfl⟩
      rw [eg] at hX hg ⊢
      clear eg
      refine ⟨hS, ?_⟩
      try simp only [List.setIfInBounds_toArray, List.set_cons_succ, List.set_cons_zero]
      refine held_call (i := 2) rfl (by kernel_rfl) (by kernel_rfl) ?_
      simp [Oper.wp, execOp, Act.eval, Act.put, go_sem]
      refine (lone_any 2 _).mono ?_
      rintro en V38 ⟨rfl, hb⟩
      have hq := (hb.block _ (lt_of_heap hq)).trans hq
      have hX := hX.below hb
      have hS := hS.below hb
      clear hb
      refine ⟨hS, ?_⟩
      try simp only [List.setIfInBounds_toArray, List.set_cons_succ, List.set_cons_zero]
      have hlt : w3.heap.size + 1 + 1 < V38.heap.size ∧ w.heap.size < V38.heap.size := ⟨lt_of_heap hS.n, lt_of_heap hS.col⟩
      refine held_call (i := 3) rfl (by kernel_rfl) (by kernel_rfl) ?_
      simp [Oper.wp, execOp, Act.eval, Act.put, go_sem]
      have hb : Below V38.heap.size V38 (V38.alloc (.cells #[.int .i64 2, .string ⟨#[]⟩, .int .i64 2, .int .i64 0, .string ⟨#[]⟩, .slice none 0 0, .int .i64 7, .string ⟨#[]⟩, .int .i64 0, .int .i64 0, .string ⟨#[]⟩, .slice (some ⟨w3.heap.size, 0, none⟩) 2 2, .int .i64 2, .string ⟨#[]⟩, .int .i64 1, .int .i64 2, .string ⟨#[]⟩, .slice none 0 0] 26)) := (Below.refl _ _).alloc (Nat.le_refl _) _
      have hk : KidsAt (V38.alloc (.cells #[.int .i64 2, .string ⟨#[]⟩, .int .i64 2, .int .i64 0, .string ⟨#[]⟩, .slice none 0 0, .int .i64 7, .string ⟨#[]⟩, .int .i64 0, .int .i64 0, .string ⟨#[]⟩, .slice (some ⟨w3.heap.size, 0, none⟩) 2 2, .int .i64 2, .string ⟨#[]⟩, .int .i64 1, .int .i64 2, .string ⟨#[]⟩, .slice none 0 0] 26)) (V38.alloc (.cells #[.int .i64 2, .string ⟨#[]⟩, .int .i64 2, .int .i64 0, .string ⟨#[]⟩, .slice none 0 0, .int .i64 7, .string ⟨#[]⟩, .int .i64 0, .int .i64 0, .string ⟨#[]⟩, .slice (some ⟨w3.heap.size, 0, none⟩) 2 2, .int .i64 2, .string ⟨#[]⟩, .int .i64 1, .int .i64 2, .string ⟨#[]⟩, .slice none 0 0] 26)).heap.size ifX (some ⟨V38.heap.size, 0, none⟩) 3 := laid3 leaf_at hS.kds leaf_at _ _ _ rfl _
      have hq := (hb.block _ (lt_of_heap hq)).trans hq
      have hX := hX.below hb
      have hS := hS.below hb
      obtain ⟨V39, hU⟩ : ∃ q, V38.alloc (.cells #[.int .i64 2, .string ⟨#[]⟩, .int .i64 2, .int .i64 0, .string ⟨#[]⟩, .slice none 0 0, .int .i64 7, .string ⟨#[]⟩, .int .i64 0, .int .i64 0, .string ⟨#[]⟩, .slice (some ⟨w3.heap.size, 0, none⟩) 2 2, .int .i64 2, .string ⟨#[]⟩, .int .i64 1, .int .i64 2, .string ⟨#[]⟩, .slice none 0 0] 26) = q := ⟨_, rfl⟩
      rw [hU] at hX hq hk hS ⊢
      have hlt : w3.heap.size + 1 + 1 < V39.heap.size ∧ w.heap.size < V39.heap.size := ⟨lt_of_heap hS.n, lt_of_heap hS.col⟩
      clear hU hb
      obtain ⟨kb, ekb⟩ : ∃ q, V38.heap.size = q := ⟨_, rfl⟩
      rw [ekb] at hk ⊢
      clear ekb
      refine ⟨hS, ?_⟩
      try simp only [List.setIfInBounds_toArray, List.set_cons_succ, List.set_cons_zero]
      refine held_take (i := 4) (t := 31) (v := (.agg #[.int .i64 18, .string ⟨#[]⟩, .int .i64 0, .int .i64 0, .string ⟨#[]⟩, .slice (some ⟨kb, 0, none⟩) 3 3])) (fuel := 6) rfl rfl (by kernel_rfl) (by kernel_rfl) (by kernel_rfl) (fun _ _ _ h => h) (.inl ⟨rfl, fun W hW => by simp [execOp, Act.eval, go_sem]⟩) hS ?_
      simp only [List.setIfInBounds_toArray, List.set_cons_succ, List.set_cons_zero]
      refine held_call (i := 8) rfl (by kernel_rfl) (by kernel_rfl) ?_
      simp [Oper.wp, execOp, Act.eval, Act.put, go_sem]
      refine (hS.worth ifX if_wf (some ⟨kb, 0, none⟩) 3 hk _ hq).mono ?_
      rintro en V40 ⟨rfl, hb⟩
      rw [worth_if]
      unfold endV intW V.val
      dsimp only
      have hk := KidsAt.more hb.size (hk.below hb)
      have hq := (hb.block _ (lt_of_heap hq)).trans hq
      have hX := hX.below hb
      have hS := hS.below hb
      clear hb hk hq
      refine ⟨hS, ?_⟩
      try simp only [List.setIfInBounds_toArray, List.set_cons_succ, List.set_cons_zero]
      refine held_take (i := 9) (t := 26) (v := (.tuple #[.agg #[.int .i64 1, .int .i64 2, .string ⟨#[]⟩], .int .i64 0])) (fuel := 4) rfl rfl (by kernel_rfl) (by kernel_rfl) (by kernel_rfl) (fun _ _ _ h => h) (.inl ⟨rfl, fun W hW => by simp [execOp, Act.eval, go_sem]⟩) hS ?_
      simp only [List.setIfInBounds_toArray, List.set_cons_succ, List.set_cons_zero]
      refine held_take (i := 10) (t := 36) (v := (.agg #[.int .i64 1, .int .i64 2, .string ⟨#[]⟩])) (fuel := 3) rfl rfl (by kernel_rfl) (by kernel_rfl) (by kernel_rfl) (fun _ _ _ h => h) (.inl ⟨rfl, fun W hW => by simp [execOp, Act.eval, go_sem]⟩) hS ?_
      simp only [List.setIfInBounds_toArray, List.set_cons_succ, List.set_cons_zero]
      refine held_take (i := 11) (t := 37) (v := (.int .i64 0)) (fuel := 2) rfl rfl (by kernel_rfl) (by kernel_rfl) (by kernel_rfl) (fun _ _ _ h => h) (.inl ⟨rfl, fun W hW => by simp [execOp, Act.eval, go_sem]⟩) hS ?_
      simp only [List.setIfInBounds_toArray, List.set_cons_succ, List.set_cons_zero]
      have hlt : w3.heap.size + 1 + 1 < V40.heap.size ∧ w.heap.size < V40.heap.size := ⟨lt_of_heap hS.n, lt_of_heap hS.col⟩
      refine held_call (i := 13) rfl (by kernel_rfl) (by kernel_rfl) ?_
      have s0 := hX.c0; have s1 := hX.c1; have s2 := hX.c2; have f0 := hX.free 0; have f1 := hX.free 1; have f2 := hX.free 2
      simp [Oper.wp, execOp, Act.eval, Act.put, go_sem, s0, s1, s2, f0, f1, f2]
      have hX2 : Box3 (((V40.setCell ⟨g, 0, none⟩ (.int .i64 1)).setCell ⟨g, 1, none⟩ (.int .i64 2)).setCell ⟨g, 2, none⟩ (.string ⟨#[]⟩)) g (intW 2) := hX.set (intW 2)
      have hS := hS.set3 (x := .int .i64 1) (y := .int .i64 2) (z := .string ⟨#[]⟩) g hg (Nat.lt_succ_self _) (Nat.le_refl _)
      obtain ⟨Z, hZ⟩ : ∃ q, ((V40.setCell ⟨g, 0, none⟩ (.int .i64 1)).setCell ⟨g, 1, none⟩ (.int .i64 2)).setCell ⟨g, 2, none⟩ (.string ⟨#[]⟩) = q := ⟨_, rfl⟩
      rw [hZ] at hX2 hS ⊢
      refine ⟨hS, ?_⟩
      try simp only [List.setIfInBounds_toArray, List.set_cons_succ, List.set_cons_zero]
      refine held_take (i := 14) (t := 7) (v := (.int .i64 0)) (fuel := 0) rfl rfl (by kernel_rfl) (by kernel_rfl) (by kernel_rfl) (fun _ _ _ h => h) (.inl ⟨rfl, fun W hW => by simp [execOp, Act.eval, go_sem]⟩) hS ?_
      simp only [List.setIfInBounds_toArray, List.set_cons_succ, List.set_cons_zero]
      refine wpAnyH_done (by kernel_rfl) ?_ 0
      exact HREST _ _ _ _ _ _ _ _ _ _ _ _ _ _ _ _ _ _ _ _ _ _ _ _ _ _ _ _ _ _ _ _ _ _ _ _ _ _ _ _ _ _ _ _ _ _ _ _ _ _ _ _ _ _ _ _ _ _ _ _ _ _ _ _ _ _ _ _ _ g Z hS hX2
  · simp [Oper.wp, execOp, Act.eval, Act.put, go_sem]
    have hb : Below U1.heap.size U1 (U1.alloc (.cells #[.int .i64 0, .int .i64 0, .string ⟨#[]⟩] 23)) := (Below.refl _ _).alloc (Nat.le_refl _) _
    have hS := hS.below hb
    have hX : Box3 (U1.alloc (.cells #[.int .i64 0, .int .i64 0, .string ⟨#[]⟩] 23)) U1.heap.size zV := Box3.new _ zV
    obtain ⟨V41, hU⟩ : ∃ q, U1.alloc (.cells #[.int .i64 0, .int .i64 0, .string ⟨#[]⟩] 23) = q := ⟨_, rfl⟩
    rw [hU] at hX hS ⊢
    have hg : w3.heap.size + 1 + 1 < U1.heap.size ∧ w.heap.size < U1.heap.size := hlt
    have hlt : w3.heap.size + 1 + 1 < V41.heap.size ∧ w.heap.size < V41.heap.size := ⟨lt_of_heap hS.n, lt_of_heap hS.col⟩
    clear hU hb
    obtain ⟨g, eg⟩ : ∃ q, U1.heap.size = q := ⟨_, rfl⟩
    rw [eg] at hX hg ⊢
    clear eg
    refine ⟨hS, ?_⟩
    try simp only [List.setIfInBounds_toArray, List.set_cons_succ, List.set_cons_zero]
    refine held_two (i := 2) (j := 7) rfl rfl (by kernel_rfl) (by kernel_rfl) (by kernel_rfl) ?_ ?_
    · simp [Oper.wp, execOp, Act.eval, Act.put, go_sem]
      refine (lone_any 2 _).mono ?_
      rintro en V42 ⟨rfl, hb⟩
      have hX := hX.below hb
      have hS := hS.below hb
      clear hb
      refine ⟨hS, ?_⟩
      try simp only [List.setIfInBounds_toArray, List.set_cons_succ, List.set_cons_zero]
      have hlt : w3.heap.size + 1 + 1 < V42.heap.size ∧ w.heap.size < V42.heap.size := ⟨lt_of_heap hS.n, lt_of_heap hS.col⟩
      refine held_two (i := 3) (j := 7) rfl rfl (by kernel_rfl) (by kernel_rfl) (by kernel_rfl) ?_ ?_
      · simp [Oper.wp, execOp, Act.eval, Act.put, go_sem]
        have hb : Below V42.heap.size V42 (V42.alloc (.cells #[.int .i64 2, .string ⟨#[]⟩, .int .i64 2, .int .i64 0, .string ⟨#[]⟩, .slice none 0 0, .int .i64 7, .string ⟨#[]⟩, .int .i64 0, .int .i64 0, .string ⟨#[]⟩, .slice (some ⟨w3.heap.size, 0, none⟩) 2 2, .int .i64 2, .string ⟨#[]⟩, .int .i64 1, .int .i64 2, .string ⟨#[]⟩, .slice none 0 0] 26)) := (Below.refl _ _).alloc (Nat.le_refl _) _
        have hk : KidsAt (V42.alloc (.cells #[.int .i64 2, .string ⟨#[]⟩, .int .i64 2, .int .i64 0, .string ⟨#[]⟩, .slice none 0 0, .int .i64 7, .string ⟨#[]⟩, .int .i64 0, .int .i64 0, .string ⟨#[]⟩, .slice (some ⟨w3.heap.size, 0, none⟩) 2 2, .int .i64 2, .string ⟨#[]⟩, .int .i64 1, .int .i64 2, .string ⟨#[]⟩, .slice none 0 0] 26)) (V42.alloc (.cells #[.int .i64 2, .string ⟨#[]⟩, .int .i64 2, .int .i64 0, .string ⟨#[]⟩, .slice none 0 0, .int .i64 7, .string ⟨#[]⟩, .int .i64 0, .int .i64 0, .string ⟨#[]⟩, .slice (some ⟨w3.heap.size, 0, none⟩) 2 2, .int .i64 2, .string ⟨#[]⟩, .int .i64 1, .int .i64 2, .string ⟨#[]⟩, .slice none 0 0] 26)).heap.size ifX (some ⟨V42.heap.size, 0, none⟩) 3 := laid3 leaf_at hS.kds leaf_at _ _ _ rfl _
        have hX := hX.below hb
        have hS := hS.below hb
        obtain ⟨V43, hU⟩ : ∃ q, V42.alloc (.cells #[.int .i64 2, .string ⟨#[]⟩, .int .i64 2, .int .i64 0, .string ⟨#[]⟩, .slice none 0 0, .int .i64 7, .string ⟨#[]⟩, .int .i64 0, .int .i64 0, .string ⟨#[]⟩, .slice (some ⟨w3.heap.size, 0, none⟩) 2 2, .int .i64 2, .string ⟨#[]⟩, .int .i64 1, .int .i64 2, .string ⟨#[]⟩, .slice none 0 0] 26) = q := ⟨_, rfl⟩
        rw [hU] at hX hk hS ⊢
        have hlt : w3.heap.size + 1 + 1 < V43.heap.size ∧ w.heap.size < V43.heap.size := ⟨lt_of_heap hS.n, lt_of_heap hS.col⟩
        clear hU hb
        obtain ⟨kb, ekb⟩ : ∃ q, V42.heap.size = q := ⟨_, rfl⟩
        rw [ekb] at hk ⊢
        clear ekb
        refine ⟨hS, ?_⟩
        try simp only [List.setIfInBounds_toArray, List.set_cons_succ, List.set_cons_zero]
        refine held_take (i := 4) (t := 31) (v := (.agg #[.int .i64 18, .string ⟨#[]⟩, .int .i64 0, .int .i64 0, .string ⟨#[]⟩, .slice (some ⟨kb, 0, none⟩) 3 3])) (fuel := 7) rfl rfl (by kernel_rfl) (by kernel_rfl) (by kernel_rfl) (fun _ _ _ h => h) (.inl ⟨rfl, fun W hW => by simp [execOp, Act.eval, go_sem]⟩) hS ?_
        simp only [List.setIfInBounds_toArray, List.set_cons_succ, List.set_cons_zero]
        refine held_call (i := 7) rfl (by kernel_rfl) (by kernel_rfl) ?_
        simp [Oper.wp, execOp, Act.eval, Act.put, go_sem]
        have hb : Below V43.heap.size V43 (V43.alloc (.cells #[.int .i64 0, .int .i64 0, .string ⟨#[]⟩] 23)) := (Below.refl _ _).alloc (Nat.le_refl _) _
        have hk := KidsAt.more hb.size (hk.below hb)
        have hX := hX.below hb
        have hS := hS.below hb
        have hq : (V43.alloc (.cells #[.int .i64 0, .int .i64 0, .string ⟨#[]⟩] 23)).heap[V43.heap.size]? = some (.cells #[.int .i64 0, .int .i64 0, .string ⟨#[]⟩] 23) := World.alloc_heap_new _ _
        obtain ⟨V44, hU⟩ : ∃ q, V43.alloc (.cells #[.int .i64 0, .int .i64 0, .string ⟨#[]⟩] 23) = q := ⟨_, rfl⟩
        rw [hU] at hX hq hk hS ⊢
        have hlt : w3.heap.size + 1 + 1 < V44.heap.size ∧ w.heap.size < V44.heap.size := ⟨lt_of_heap hS.n, lt_of_heap hS.col⟩
        clear hU hb
        obtain ⟨qb, eqb⟩ : ∃ q, V43.heap.size = q := ⟨_, rfl⟩
        rw [eqb] at hq ⊢
        clear eqb
        refine ⟨hS, ?_⟩
        try simp only [List.setIfInBounds_toArray, List.set_cons_succ, List.set_cons_zero]
        refine held_call (i := 8) rfl (by kernel_rfl) (by kernel_rfl) ?_
        simp [Oper.wp, execOp, Act.eval, Act.put, go_sem]
        refine (hS.worth ifX if_wf (some ⟨kb, 0, none⟩) 3 hk _ hq).mono ?_
        rintro en V45 ⟨rfl, hb⟩
        rw [worth_if]
        unfold endV intW V.val
        dsimp only
        have hk := KidsAt.more hb.size (hk.below hb)
        have hq := (hb.block _ (lt_of_heap hq)).trans hq
        have hX := hX.below hb
        have hS := hS.below hb
        clear hb hk hq
        refine ⟨hS, ?_⟩
        try simp only [List.setIfInBounds_toArray, List.set_cons_succ, List.set_cons_zero]
        refine held_take (i := 9) (t := 26) (v := (.tuple #[.agg #[.int .i64 1, .int .i64 2, .string ⟨#[]⟩], .int .i64 0])) (fuel := 4) rfl rfl (by kernel_rfl) (by kernel_rfl) (by kernel_rfl) (fun _ _ _ h => h) (.inl ⟨rfl, fun W hW => by simp [execOp, Act.eval, go_sem]⟩) hS ?_
        simp only [List.setIfInBounds_toArray, List.set_cons_succ, List.set_cons_zero]
        refine held_take (i := 10) (t := 36) (v := (.agg #[.int .i64 1, .int .i64 2, .string ⟨#[]⟩])) (fuel := 3) rfl rfl (by kernel_rfl) (by kernel_rfl) (by kernel_rfl) (fun _ _ _ h => h) (.inl ⟨rfl, fun W hW => by simp [execOp, Act.eval, go_sem]⟩) hS ?_
        simp only [List.setIfInBounds_toArray, List.set_cons_succ, List.set_cons_zero]
        refine held_take (i := 11) (t := 37) (v := (.int .i64 0)) (fuel := 2) rfl rfl (by kernel_rfl) (by kernel_rfl) (by kernel_rfl) (fun _ _ _ h => h) (.inl ⟨rfl, fun W hW => by simp [execOp, Act.eval, go_sem]⟩) hS ?_
        simp only [List.setIfInBounds_toArray, List.set_cons_succ, List.set_cons_zero]
        have hlt : w3.heap.size + 1 + 1 < V45.heap.size ∧ w.heap.size < V45.heap.size := ⟨lt_of_heap hS.n, lt_of_heap hS.col⟩
        refine held_call (i := 13) rfl (by kernel_rfl) (by kernel_rfl) ?_
        have s0 := hX.c0; have s1 := hX.c1; have s2 := hX.c2; have f0 := hX.free 0; have f1 := hX.free 1; have f2 := hX.free 2
        simp [Oper.wp, execOp, Act.eval, Act.put, go_sem, s0, s1, s2, f0, f1, f2]
        have hX2 : Box3 (((V45.setCell ⟨g, 0, none⟩ (.int .i64 1)).setCell ⟨g, 1, none⟩ (.int .i64 2)).setCell ⟨g, 2, none⟩ (.string ⟨#[]⟩)) g (intW 2) := hX.set (intW 2)
        have hS := hS.set3 (x := .int .i64 1) (y := .int .i64 2) (z := .string ⟨#[]⟩) g hg (Nat.lt_succ_self _) (Nat.le_refl _)
        obtain ⟨Z, hZ⟩ : ∃ q, ((V45.setCell ⟨g, 0, none⟩ (.int .i64 1)).setCell ⟨g, 1, none⟩ (.int .i64 2)).setCell ⟨g, 2, none⟩ (.string ⟨#[]⟩) = q := ⟨_, rfl⟩
        rw [hZ] at hX2 hS ⊢
        refine ⟨hS, ?_⟩
        try simp only [List.setIfInBounds_toArray, List.set_cons_succ, List.set_cons_zero]
        refine held_take (i := 14) (t := 7) (v := (.int .i64 0)) (fuel := 0) rfl rfl (by kernel_rfl) (by kernel_rfl) (by kernel_rfl) (fun _ _ _ h => h) (.inl ⟨rfl, fun W hW => by simp [execOp, Act.eval, go_sem]⟩) hS ?_
        simp only [List.setIfInBounds_toArray, List.set_cons_succ, List.set_cons_zero]
        refine wpAnyH_done (by kernel_rfl) ?_ 0
        exact HREST _ _ _ _ _ _ _ _ _ _ _ _ _ _ _ _ _ _ _ _ _ _ _ _ _ _ _ _ _ _ _ _ _ _ _ _ _ _ _ _ _ _ _ _ _ _ _ _ _ _ _ _ _ _ _ _ _ _ _ _ _ _ _ _ _ _ _ _ _ g Z hS hX2
      · simp [Oper.wp, execOp, Act.eval, Act.put, go_sem]
        have hb : Below V42.heap.size V42 (V42.alloc (.cells #[.int .i64 0, .int .i64 0, .string ⟨#[]⟩] 23)) := (Below.refl _ _).alloc (Nat.le_refl _) _
        have hX := hX.below hb
        have hS := hS.below hb
        have hq : (V42.alloc (.cells #[.int .i64 0, .int .i64 0, .string ⟨#[]⟩] 23)).heap[V42.heap.size]? = some (.cells #[.int .i64 0, .int .i64 0, .string ⟨#[]⟩] 23) := World.alloc_heap_new _ _
        obtain ⟨V46, hU⟩ : ∃ q, V42.alloc (.cells #[.int .i64 0, .int .i64 0, .string ⟨#[]⟩] 23) = q := ⟨_, rfl⟩
        rw [hU] at hX hq hS ⊢
        have hlt : w3.heap.size + 1 + 1 < V46.heap.size ∧ w.heap.size < V46.heap.size := ⟨lt_of_heap hS.n, lt_of_heap hS.col⟩
        clear hU hb
        obtain ⟨qb, eqb⟩ : ∃ q, V42.heap.size = q := ⟨_, rfl⟩
        rw [eqb] at hq ⊢
        clear eqb
        refine ⟨hS, ?_⟩
        try simp only [List.setIfInBounds_toArray, List.set_cons_succ, List.set_cons_zero]
        refine held_call (i := 3) rfl (by kernel_rfl) (by kernel_rfl) ?_
        simp [Oper.wp, execOp, Act.eval, Act.put, go_sem]
        have hb : Below V46.heap.size V46 (V46.alloc (.cells #[.int .i64 2, .string ⟨#[]⟩, .int .i64 2, .int .i64 0, .string ⟨#[]⟩, .slice none 0 0, .int .i64 7, .string ⟨#[]⟩, .int .i64 0, .int .i64 0, .string ⟨#[]⟩, .slice (some ⟨w3.heap.size, 0, none⟩) 2 2, .int .i64 2, .string ⟨#[]⟩, .int .i64 1, .int .i64 2, .string ⟨#[]⟩, .slice none 0 0] 26)) := (Below.refl _ _).alloc (Nat.le_refl _) _
        have hk : KidsAt (V46.alloc (.cells #[.int .i64 2, .string ⟨#[]⟩, .int .i64 2, .int .i64 0, .string ⟨#[]⟩, .slice none 0 0, .int .i64 7, .string ⟨#[]⟩, .int .i64 0, .int .i64 0, .string ⟨#[]⟩, .slice (some ⟨w3.heap.size, 0, none⟩) 2 2, .int .i64 2, .string ⟨#[]⟩, .int .i64 1, .int .i64 2, .string ⟨#[]⟩, .slice none 0 0] 26)) (V46.alloc (.cells #[.int .i64 2, .string ⟨#[]⟩, .int .i64 2, .int .i64 0, .string ⟨#[]⟩, .slice none 0 0, .int .i64 7, .string ⟨#[]⟩, .int .i64 0, .int .i64 0, .string ⟨#[]⟩, .slice (some ⟨w3.heap.size, 0, none⟩) 2 2, .int .i64 2, .string ⟨#[]⟩, .int .i64 1, .int .i64 2, .string ⟨#[]⟩, .slice none 0 0] 26)).heap.size ifX (some ⟨V46.heap.size, 0, none⟩) 3 := laid3 leaf_at hS.kds leaf_at _ _ _ rfl _
        have hq := (hb.block _ (lt_of_heap hq)).trans hq
        have hX := hX.below hb
        have hS := hS.below hb
        obtain ⟨V47, hU⟩ : ∃ q, V46.alloc (.cells #[.int .i64 2, .string ⟨#[]⟩, .int .i64 2, .int .i64 0, .string ⟨#[]⟩, .slice none 0 0, .int .i64 7, .string ⟨#[]⟩, .int .i64 0, .int .i64 0, .string ⟨#[]⟩, .slice (some ⟨w3.heap.size, 0, none⟩) 2 2, .int .i64 2, .string ⟨#[]⟩, .int .i64 1, .int .i64 2, .string ⟨#[]⟩, .slice none 0 0] 26) = q := ⟨_, rfl⟩
        rw [hU] at hX hq hk hS ⊢
        have hlt : w3.heap.size + 1 + 1 < V47.heap.size ∧ w.heap.size < V47.heap.size := ⟨lt_of_heap hS.n, lt_of_heap hS.col⟩
        clear hU hb
        obtain ⟨kb, ekb⟩ : ∃ q, V46.heap.size = q := ⟨_, rfl⟩
        rw [ekb] at hk ⊢
        clear ekb
        refine ⟨hS, ?_⟩
        try simp only [List.setIfInBounds_toArray, List.set_cons_succ, List.set_cons_zero]
        refine held_take (i := 4) (t := 31) (v := (.agg #[.int .i64 18, .string ⟨#[]⟩, .int .i64 0, .int .i64 0, .string ⟨#[]⟩, .slice (some ⟨kb, 0, none⟩) 3 3])) (fuel := 6) rfl rfl (by kernel_rfl) (by kernel_rfl) (by kernel_rfl) (fun _ _ _ h => h) (.inl ⟨rfl, fun W hW => by simp [execOp, Act.eval, go_sem]⟩) hS ?_
        simp only [List.setIfInBounds_toArray, List.set_cons_succ, List.set_cons_zero]
        refine held_call (i := 8) rfl (by kernel_rfl) (by kernel_rfl) ?_
        simp [Oper.wp, execOp, Act.eval, Act.put, go_sem]
        refine (hS.worth ifX if_wf (some ⟨kb, 0, none⟩) 3 hk _ hq).mono ?_
        rintro en V48 ⟨rfl, hb⟩
        rw [worth_if]
        unfold endV intW V.val
        dsimp only
        have hk := KidsAt.more hb.size (hk.below hb)
        have hq := (hb.block _ (lt_of_heap hq)).trans hq
        have hX := hX.below hb
        have hS := hS.below hb
        clear hb hk hq
        refine ⟨hS, ?_⟩
        try simp only [List.setIfInBounds_toArray, List.set_cons_succ, List.set_cons_zero]
        refine held_take (i := 9) (t := 26) (v := (.tuple #[.agg #[.int .i64 1, .int .i64 2, .string ⟨#[]⟩], .int .i64 0])) (fuel := 4) rfl rfl (by kernel_rfl) (by kernel_rfl) (by kernel_rfl) (fun _ _ _ h => h) (.inl ⟨rfl, fun W hW => by simp [execOp, Act.eval, go_sem]⟩) hS ?_
        simp only [List.setIfInBounds_toArray, List.set_cons_succ, List.set_cons_zero]
        refine held_take (i := 10) (t := 36) (v := (.agg #[.int .i64 1, .int .i64 2, .string ⟨#[]⟩])) (fuel := 3) rfl rfl (by kernel_rfl) (by kernel_rfl) (by kernel_rfl) (fun _ _ _ h => h) (.inl ⟨rfl, fun W hW => by simp [execOp, Act.eval, go_sem]⟩) hS ?_
        simp only [List.setIfInBounds_toArray, List.set_cons_succ, List.set_cons_zero]
        refine held_take (i := 11) (t := 37) (v := (.int .i64 0)) (fuel := 2) rfl rfl (by kernel_rfl) (by kernel_rfl) (by kernel_rfl) (fun _ _ _ h => h) (.inl ⟨rfl, fun W hW => by simp [execOp, Act.eval, go_sem]⟩) hS ?_
        simp only [List.setIfInBounds_toArray, List.set_cons_succ, List.set_cons_zero]
        have hlt : w3.heap.size + 1 + 1 < V48.heap.size ∧ w.heap.size < V48.heap.size := ⟨lt_of_heap hS.n, lt_of_heap hS.col⟩
        refine held_call (i := 13) rfl (by kernel_rfl) (by kernel_rfl) ?_
        have s0 := hX.c0; have s1 := hX.c1; have s2 := hX.c2; have f0 := hX.free 0; have f1 := hX.free 1; have f2 := hX.free 2
        simp [Oper.wp, execOp, Act.eval, Act.put, go_sem, s0, s1, s2, f0, f1, f2]
        have hX2 : Box3 (((V48.setCell ⟨g, 0, none⟩ (.int .i64 1)).setCell ⟨g, 1, none⟩ (.int .i64 2)).setCell ⟨g, 2, none⟩ (.string ⟨#[]⟩)) g (intW 2) := hX.set (intW 2)
        have hS := hS.set3 (x := .int .i64 1) (y := .int .i64 2) (z := .string ⟨#[]⟩) g hg (Nat.lt_succ_self _) (Nat.le_refl _)
        obtain ⟨Z, hZ⟩ : ∃ q, ((V48.setCell ⟨g, 0, none⟩ (.int .i64 1)).setCell ⟨g, 1, none⟩ (.int .i64 2)).setCell ⟨g, 2, none⟩ (.string ⟨#[]⟩) = q := ⟨_, rfl⟩
        rw [hZ] at hX2 hS ⊢
        refine ⟨hS, ?_⟩
        try simp only [List.setIfInBounds_toArray, List.set_cons_succ, List.set_cons_zero]
        refine held_take (i := 14) (t := 7) (v := (.int .i64 0)) (fuel := 0) rfl rfl (by kernel_rfl) (by kernel_rfl) (by kernel_rfl) (fun _ _ _ h => h) (.inl ⟨rfl, fun W hW => by simp [execOp, Act.eval, go_sem]⟩) hS ?_
        simp only [List.setIfInBounds_toArray, List.set_cons_succ, List.set_cons_zero]
        refine wpAnyH_done (by kernel_rfl) ?_ 0
        exact HREST _ _ _ _ _ _ _ _ _ _ _ _ _ _ _ _ _ _ _ _ _ _ _ _ _ _ _ _ _ _ _ _ _ _ _ _ _ _ _ _ _ _ _ _ _ _ _ _ _ _ _ _ _ _ _ _ _ _ _ _ _ _ _ _ _ _ _ _ _ g Z hS hX2
    · simp [Oper.wp, execOp, Act.eval, Act.put, go_sem]
      have hb : Below V41.heap.size V41 (V41.alloc (.cells #[.int .i64 0, .int .i64 0, .string ⟨#[]⟩] 23)) := (Below.refl _ _).alloc (Nat.le_refl _) _
      have hX := hX.below hb
      have hS := hS.below hb
      have hq : (V41.alloc (.cells #[.int .i64 0, .int .i64 0, .string ⟨#[]⟩] 23)).heap[V41.heap.size]? = some (.cells #[.int .i64 0, .int .i64 0, .string ⟨#[]⟩] 23) := World.alloc_heap_new _ _
      obtain ⟨V49, hU⟩ : ∃ q, V41.alloc (.cells #[.int .i64 0, .int .i64 0, .string ⟨#[]⟩] 23) = q := ⟨_, rfl⟩
      rw [hU] at hX hq hS ⊢
      have hlt : w3.heap.size + 1 + 1 < V49.heap.size ∧ w.heap.size < V49.heap.size := ⟨lt_of_heap hS.n, lt_of_heap hS.col⟩
      clear hU hb
      obtain ⟨qb, eqb⟩ : ∃ q, V41.heap.size = q := ⟨_, rfl⟩
      rw [eqb] at hq ⊢
      clear eqb
      refine ⟨hS, ?_⟩
      try simp only [List.setIfInBounds_toArray, List.set_cons_succ, List.set_cons_zero]
      refine held_call (i := 2) rfl (by kernel_rfl) (by kernel_rfl) ?_
      simp [Oper.wp, execOp, Act.eval, Act.put, go_sem]
      refine (lone_any 2 _).mono ?_
      rintro en V50 ⟨rfl, hb⟩
      have hq := (hb.block _ (lt_of_heap hq)).trans hq
      have hX := hX.below hb
      have hS := hS.below hb
      clear hb
      refine ⟨hS, ?_⟩
      try simp only [List.setIfInBounds_toArray, List.set_cons_succ, List.set_cons_zero]
      have hlt : w3.heap.size + 1 + 1 < V50.heap.size ∧ w.heap.size < V50.heap.size := ⟨lt_of_heap hS.n, lt_of_heap hS.col⟩
      refine held_call (i := 3) rfl (by kernel_rfl) (by kernel_rfl) ?_
      simp [Oper.wp, execOp, Act.eval, Act.put, go_sem]
      have hb : Below V50.heap.size V50 (V50.alloc (.cells #[.int .i64 2, .string ⟨#[]⟩, .int .i64 2, .int .i64 0, .string ⟨#[]⟩, .slice none 0 0, .int .i64 7, .string ⟨#[]⟩, .int .i64 0, .int .i64 0, .string ⟨#[]⟩, .slice (some ⟨w3.heap.size, 0, none⟩) 2 2, .int .i64 2, .string ⟨#[]⟩, .int .i64 1, .int .i64 2, .string ⟨#[]⟩, .slice none 0 0] 26)) := (Below.refl _ _).alloc (Nat.le_refl _) _
      have hk : KidsAt (V50.alloc (.cells #[.int .i64 2, .string ⟨#[]⟩, .int .i64 2, .int .i64 0, .string ⟨#[]⟩, .slice none 0 0, .int .i64 7, .string ⟨#[]⟩, .int .i64 0, .int .i64 0, .string ⟨#[]⟩, .slice (some ⟨w3.heap.size, 0, none⟩) 2 2, .int .i64 2, .string ⟨#[]⟩, .int .i64 1, .int .i64 2, .string ⟨#[]⟩, .slice none 0 0] 26)) (V50.alloc (.cells #[.int .i64 2, .string ⟨#[]⟩, .int .i64 2, .int .i64 0, .string ⟨#[]⟩, .slice none 0 0, .int .i64 7, .string ⟨#[]⟩, .int .i64 0, .int .i64 0, .string ⟨#[]⟩, .slice (some ⟨w3.heap.size, 0, none⟩) 2 2, .int .i64 2, .string ⟨#[]⟩, .int .i64 1, .int .i64 2, .string ⟨#[]⟩, .slice none 0 0] 26)).heap.size ifX (some ⟨V50.heap.size, 0, none⟩) 3 := laid3 leaf_at hS.kds leaf_at _ _ _ rfl _
      have hq := (hb.block _ (lt_of_heap hq)).trans hq
      have hX := hX.below hb
      have hS := hS.below hb
      obtain ⟨V51, hU⟩ : ∃ q, V50.alloc (.cells #[.int .i64 2, .string ⟨#[]⟩, .int .i64 2, .int .i64 0, .string ⟨#[]⟩, .slice none 0 0, .int .i64 7, .string ⟨#[]⟩, .int .i64 0, .int .i64 0, .string ⟨#[]⟩, .slice (some ⟨w3.heap.size, 0, none⟩) 2 2, .int .i64 2, .string ⟨#[]⟩, .int .i64 1, .int .i64 2, .string ⟨#[]⟩, .slice none 0 0] 26) = q := ⟨_, rfl⟩
      rw [hU] at hX hq hk hS ⊢
      have hlt : w3.heap.size + 1 + 1 < V51.heap.size ∧ w.heap.size < V51.heap.size := ⟨lt_of_heap hS.n, lt_of_heap hS.col⟩
      clear hU hb
      obtain ⟨kb, ekb⟩ : ∃ q, V50.heap.size = q := ⟨_, rfl⟩
      rw [ekb] at hk ⊢
      clear ekb
      refine ⟨hS, ?_⟩
      try simp only [List.setIfInBounds_toArray, List.set_cons_succ, List.set_cons_zero]
      refine held_take (i := 4) (t := 31) (v := (.agg #[.int .i64 18, .string ⟨#[]⟩, .int .i64 0, .int .i64 0, .string ⟨#[]⟩, .slice (some ⟨kb, 0, none⟩) 3 3])) (fuel := 6) rfl rfl (by kernel_rfl) (by kernel_rfl) (by kernel_rfl) (fun _ _ _ h => h) (.inl ⟨rfl, fun W hW => by simp [execOp, Act.eval, go_sem]⟩) hS ?_
      simp only [List.setIfInBounds_toArray, List.set_cons_succ, List.set_cons_zero]
      refine held_call (i := 8) rfl (by kernel_rfl) (by kernel_rfl) ?_
      simp [Oper.wp, execOp, Act.eval, Act.put, go_sem]
      refine (hS.worth ifX if_wf (some ⟨kb, 0, none⟩) 3 hk _ hq).mono ?_
      rintro en V52 ⟨rfl, hb⟩
      rw [worth_if]
      unfold endV intW V.val
      dsimp only
      have hk := KidsAt.more hb.size (hk.below hb)
      have hq := (hb.block _ (lt_of_heap hq)).trans hq
      have hX := hX.below hb
      have hS := hS.below hb
      clear hb hk hq
      refine ⟨hS, ?_⟩
      try simp only [List.setIfInBounds_toArray, List.set_cons_succ, List.set_cons_zero]
      refine held_take (i := 9) (t := 26) (v := (.tuple #[.agg #[.int .i64 1, .int .i64 2, .string ⟨#[]⟩], .int .i64 0])) (fuel := 4) rfl rfl (by kernel_rfl) (by kernel_rfl) (by kernel_rfl) (fun _ _ _ h => h) (.inl ⟨rfl, fun W hW => by simp [execOp, Act.eval, go_sem]⟩) hS ?_
      simp only [List.setIfInBounds_toArray, List.set_cons_succ, List.set_cons_zero]
      refine held_take (i := 10) (t := 36) (v := (.agg #[.int .i64 1, .int .i64 2, .string ⟨#[]⟩])) (fuel := 3) rfl rfl (by kernel_rfl) (by kernel_rfl) (by kernel_rfl) (fun _ _ _ h => h) (.inl ⟨rfl, fun W hW => by simp [execOp, Act.eval, go_sem]⟩) hS ?_
      simp only [List.setIfInBounds_toArray, List.set_cons_succ, List.set_cons_zero]
      refine held_take (i := 11) (t := 37) (v := (.int .i64 0)) (fuel := 2) rfl rfl (by kernel_rfl) (by kernel_rfl) (by kernel_rfl) (fun _ _ _ h => h) (.inl ⟨rfl, fun W hW => by simp [execOp, Act.eval, go_sem]⟩) hS ?_
      simp only [List.setIfInBounds_toArray, List.set_cons_succ, List.set_cons_zero]
      have hlt : w3.heap.size + 1 + 1 < V52.heap.size ∧ w.heap.size < V52.heap.size := ⟨lt_of_heap hS.n, lt_of_heap hS.col⟩
      refine held_call (i := 13) rfl (by kernel_rfl) (by kernel_rfl) ?_
      have s0 := hX.c0; have s1 := hX.c1; have s2 := hX.c2; have f0 := hX.free 0; have f1 := hX.free 1; have f2 := hX.free 2
      simp [Oper.wp, execOp, Act.eval, Act.put, go_sem, s0, s1, s2, f0, f1, f2]
      have hX2 : Box3 (((V52.setCell ⟨g, 0, none⟩ (.int .i64 1)).setCell ⟨g, 1, none⟩ (.int .i64 2)).setCell ⟨g, 2, none⟩ (.string ⟨#[]⟩)) g (intW 2) := hX.set (intW 2)
      have hS := hS.set3 (x := .int .i64 1) (y := .int .i64 2) (z := .string ⟨#[]⟩) g hg (Nat.lt_succ_self _) (Nat.le_refl _)
      obtain ⟨Z, hZ⟩ : ∃ q, ((V52.setCell ⟨g, 0, none⟩ (.int .i64 1)).setCell ⟨g, 1, none⟩ (.int .i64 2)).setCell ⟨g, 2, none⟩ (.string ⟨#[]⟩) = q := ⟨_, rfl⟩
      rw [hZ] at hX2 hS ⊢
      refine ⟨hS, ?_⟩
      try simp only [List.setIfInBounds_toArray, List.set_cons_succ, List.set_cons_zero]
      refine held_take (i := 14) (t := 7) (v := (.int .i64 0)) (fuel := 0) rfl rfl (by kernel_rfl) (by kernel_rfl) (by kernel_rfl) (fun _ _ _ h => h) (.inl ⟨rfl, fun W hW => by simp [execOp, Act.eval, go_sem]⟩) hS ?_
      simp only [List.setIfInBounds_toArray, List.set_cons_succ, List.set_cons_zero]
      refine wpAnyH_done (by kernel_rfl) ?_ 0
      exact HREST _ _ _ _ _ _ _ _ _ _ _ _ _ _ _ _ _ _ _ _ _ _ _ _ _ _ _ _ _ _ _ _ _ _ _ _ _ _ _ _ _ _ _ _ _ _ _ _ _ _ _ _ _ _ _ _ _ _ _ _ _ _ _ _ _ _ _ _ _ g Z hS hX2
end Go.Proofs.YtclcabdekeegdaaGreat
