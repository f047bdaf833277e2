/- Layer 15, walked: the arrays of functions; what is kept of two. -/
import Derived.Test.YtihgcfokenabgaaAgX1
import Derived.Laws.EntriesVeiled
namespace Go.Proofs.Ytihgcfokenabgaa
open Go Go.ChangeShapes Go.WideShapes Go.ChangeAt Go.RowKit
set_option linter.unusedVariables false
set_option linter.unusedSimpArgs false
theorem held_two {P : Program} {ops : Array Oper} {Q : Exit → Act → World → Prop} {md : Region.Mode} {S : World → Prop} {i j : Nat} {oi oj : Oper} {fuel : Nat} {listed : Array Bool} {a : Act} {w : World} (hi : ops[i]? = some oi) (hj : ops[j]? = some oj) (hr : Region.ready md ops listed = [i, j])
    (hwi : Region.wanted oi (yielded ops a.tmps) = true) (hwj : Region.wanted oj (yielded ops a.tmps) = true)
    (h1 : oi.wp P a w (fun a' w' => S w' ∧ wpAnyH P md ops Q S fuel (listed.setIfInBounds i true) a' w') Q)
    (h2 : oj.wp P a w (fun a' w' => S w' ∧ wpAnyH P md ops Q S fuel (listed.setIfInBounds j true) a' w') Q) : wpAnyH P md ops Q S (fuel + 1) listed a w :=
  wpAnyH_all hr (by simp) (fun k hk => by
    have h : k = i ∨ k = j := by simpa using hk
    rcases h with rfl | rfl
    · unfold wpOp; simp only [hi]; rw [if_pos hwi]; exact .inl h1
    · unfold wpOp; simp only [hj]; rw [if_pos hwj]; exact .inl h2)
theorem cmpV_one (v b : V) : cmpV v b = -1 ∨ cmpV v b = 0 ∨ cmpV v b = 1 := by
  have hi : ∀ a b : Int, Lib.compareInt a b = -1 ∨ Lib.compareInt a b = 0 ∨ Lib.compareInt a b = 1 := by
    intro a b
    unfold Lib.compareInt
    split
    · exact .inl rfl
    · split
      · exact .inr (.inr rfl)
      · exact .inr (.inl rfl)
  unfold cmpV
  split
  · exact hi _ _
  · split
    · exact hi _ _
    · exact three_bytes _ _
/-- How Best stands to the better one. -/
def howA (k : Int) : Int := if k = 4 then -1 else 1
theorem both_better (k : Int) (a c : Ac) (hk : k = 4 ∨ k = 5) : bothA k a c = (⟨wrap64 (a.n + c.n), (betterA a c (howA k)).x, (betterA a c (howA k)).b⟩, 0) := by
  have ho : ¬ okA k = false := by rcases hk with rfl | rfl <;> decide
  have hb : (btr k c.b a.b) ↔ cmpV c.b a.b = howA k := by
    rw [btr_iff]
    have := cmpV_one c.b a.b
    rcases hk with rfl | rfl
    · unfold howA; rw [if_pos rfl]; omega
    · unfold howA; rw [if_neg (by decide)]; omega
  by_cases h : c.n ≠ 0 ∧ (a.n = 0 ∨ cmpV c.b a.b = howA k)
  · rw [bothA_yes ho (by omega) ⟨hk, h.1, by rw [hb]; exact h.2⟩]
    unfold betterA
    rw [if_pos h]
  · rw [bothA_no ho (by omega) (by rw [hb]; exact fun h' => h h'.2)]
    unfold betterA
    rw [if_neg h]
theorem resA {f : Func} {p T n e : Nat} (hres : f.results = #[.cell p T]) {tmps : Array Value} {W : World} {g T' : Nat} {cs : Array Value} (hp : tmps.getD p undef = .pointer (some ⟨g, 0, none⟩)) (hg : W.heap[g]? = some (.cells cs T'))
    (hu : Try.prog.underlying T = some (.array n e)) (hi : (Try.prog.info? T).map (·.size) = some cs.size) : (results f tmps).run Try.prog W = .ok (.agg cs) W := by
  have hp' : tmps[p]?.getD undef = .pointer (some ⟨g, 0, none⟩) := by simpa using hp
  simp [results, hres, hp', asAddr, run_loadVar_row W g T' T cs (0, 0) (.array n e) hg hu rfl hi]
theorem set6n {W : World} {q T : Nat} (h : W.heap[q]? = some (.cells #[.nilFunc, .nilFunc, .nilFunc, .nilFunc, .nilFunc, .nilFunc] T)) (c0 c1 c2 c3 c4 c5 : Value) :
    ((((((W.setCell ⟨q, 0, none⟩ c0).setCell ⟨q, 1, none⟩ c1).setCell ⟨q, 2, none⟩ c2).setCell ⟨q, 3, none⟩ c3).setCell ⟨q, 4, none⟩ c4).setCell ⟨q, 5, none⟩ c5).heap[q]? = some (.cells #[c0, c1, c2, c3, c4, c5] T) :=
  heap_setCell_same _ _ _ _ _ _ (heap_setCell_same _ _ _ _ _ _ (heap_setCell_same _ _ _ _ _ _ (heap_setCell_same _ _ _ _ _ _ (heap_setCell_same _ _ _ _ _ _ (heap_setCell_same _ _ _ _ _ _ h)))))
theorem joins_any (w : World) : Calls Try.prog 32 #[] w fun e w' => e = .returned (.agg #[.nilFunc, .func (.func 42) #[] #[], .func (.func 42) #[] #[], .func (.func 43) #[] #[], .func (.func 44) #[] #[], .func (.func 45) #[] #[]]) ∧ Below w.heap.size w w' := by
  obtain ⟨W1, hW1⟩ : ∃ W1, w.alloc (.cells #[.nilFunc, .nilFunc, .nilFunc, .nilFunc, .nilFunc, .nilFunc] 70) = W1 := ⟨_, rfl⟩
  have HZ : Hid (W1.heap[w.heap.size]? = some (.cells #[.nilFunc, .nilFunc, .nilFunc, .nilFunc, .nilFunc, .nilFunc] 70)) := Lib.hid (by rw [← hW1]; exact World.alloc_heap_new _ _)
  have HB0 : Hid (Below w.heap.size w W1) := Lib.hid (by rw [← hW1]; exact (Below.refl _ _).alloc (Nat.le_refl _) _)
  obtain ⟨⟨r0, r1, r2, r3, r4, r5⟩, fr0, fr1, fr2, fr3, fr4, fr5⟩ := blk6 HZ.out
  have hlt := heap_lt HZ.out
  go_enter Try.func32, Try.ntmps32
  go_wp2
  exact bodyPost_ret (resA rfl (by rfl) (set6n HZ.out _ _ _ _ _ _) Try.underlying70 (by kernel_rfl)) rfl ⟨rfl, below6 HB0.out (Nat.le_refl _) _ _ _ _ _ _⟩
theorem worths_any (w : World) : Calls Try.prog 33 #[] w fun e w' => e = .returned (.agg #[.nilFunc, .func (.func 46) #[] #[], .func (.func 46) #[] #[], .func (.func 47) #[] #[], .func (.func 48) #[] #[], .func (.func 48) #[] #[]]) ∧ Below w.heap.size w w' := by
  obtain ⟨W1, hW1⟩ : ∃ W1, w.alloc (.cells #[.nilFunc, .nilFunc, .nilFunc, .nilFunc, .nilFunc, .nilFunc] 73) = W1 := ⟨_, rfl⟩
  have HZ : Hid (W1.heap[w.heap.size]? = some (.cells #[.nilFunc, .nilFunc, .nilFunc, .nilFunc, .nilFunc, .nilFunc] 73)) := Lib.hid (by rw [← hW1]; exact World.alloc_heap_new _ _)
  have HB0 : Hid (Below w.heap.size w W1) := Lib.hid (by rw [← hW1]; exact (Below.refl _ _).alloc (Nat.le_refl _) _)
  obtain ⟨⟨r0, r1, r2, r3, r4, r5⟩, fr0, fr1, fr2, fr3, fr4, fr5⟩ := blk6 HZ.out
  have hlt := heap_lt HZ.out
  go_enter Try.func33, Try.ntmps33
  go_wp2
  exact bodyPost_ret (resA rfl (by rfl) (set6n HZ.out _ _ _ _ _ _) Try.underlying73 (by kernel_rfl)) rfl ⟨rfl, below6 HB0.out (Nat.le_refl _) _ _ _ _ _ _⟩
/-- Two kept, as they lie in their boxes. -/
def SB (T : Nat) (w : World) (a c : Ac) (W : World) : Prop := B5 T w a c W ∧
  (W.cell? ⟨w.heap.size, 0, none⟩ = some (.int .i64 a.n) ∧ W.cell? ⟨w.heap.size, 1, none⟩ = some (.int .i64 (hiZ a.x)) ∧ W.cell? ⟨w.heap.size, 2, none⟩ = some (.int .u64 (loZ a.x)) ∧ W.cell? ⟨w.heap.size, 3, none⟩ = some (.int .i64 a.b.k) ∧ W.cell? ⟨w.heap.size, 4, none⟩ = some (.int .i64 a.b.n) ∧ W.cell? ⟨w.heap.size, 5, none⟩ = some (.string a.b.s)) ∧
  (W.cell? ⟨w.heap.size + 1, 0, none⟩ = some (.int .i64 c.n) ∧ W.cell? ⟨w.heap.size + 1, 1, none⟩ = some (.int .i64 (hiZ c.x)) ∧ W.cell? ⟨w.heap.size + 1, 2, none⟩ = some (.int .u64 (loZ c.x)) ∧ W.cell? ⟨w.heap.size + 1, 3, none⟩ = some (.int .i64 c.b.k) ∧ W.cell? ⟨w.heap.size + 1, 4, none⟩ = some (.int .i64 c.b.n) ∧ W.cell? ⟨w.heap.size + 1, 5, none⟩ = some (.string c.b.s))
theorem sb_of {T : Nat} {w W : World} {a c : Ac} (h : B5 T w a c W) : SB T w a c W := ⟨h, (blk6 h.a).1, (blk6 h.c).1⟩
theorem SB.below {T : Nat} {w W W' : World} {a c : Ac} (h : SB T w a c W) (hb : Below W.heap.size W W') : SB T w a c W' := sb_of (h.1.below hb)
theorem SB.set {T : Nat} {w W : World} {a c : Ac} {g : Nat} (h : SB T w a c W) (hg : w.heap.size + 2 < g) (i : Nat) (v : Value) : SB T w a c (W.setCell ⟨g, i, none⟩ v) :=
  sb_of ⟨by rw [heap_setCell_other _ _ _ _ (by dsimp only; omega)]; exact h.1.a, by rw [heap_setCell_other _ _ _ _ (by dsimp only; omega)]; exact h.1.c, by rw [heap_setCell_other _ _ _ _ (by dsimp only; omega)]; exact h.1.r, h.1.b.setCell (p := ⟨g, i, none⟩) (by dsimp only; omega) v⟩
/-- One kept in a box of its own. -/
structure BO (T g : Nat) (o : Ac) (W : World) : Prop where
  o : W.heap[g]? = some (.cells #[.int .i64 o.n, .int .i64 (hiZ o.x), .int .u64 (loZ o.x), .int .i64 o.b.k, .int .i64 o.b.n, .string o.b.s] T)
theorem bo_new {T : Nat} (W : World) (o : Ac) : BO T W.heap.size o (W.alloc (.cells #[.int .i64 o.n, .int .i64 (hiZ o.x), .int .u64 (loZ o.x), .int .i64 o.b.k, .int .i64 o.b.n, .string o.b.s] T)) := ⟨World.alloc_heap_new _ _⟩
theorem set6z {W : World} {q T : Nat} (h : W.heap[q]? = some (.cells #[.int .i64 0, .int .i64 0, .int .u64 0, .int .i64 0, .int .i64 0, .string ⟨#[]⟩] T)) (o : Ac) :
    BO T q o ((((((W.setCell ⟨q, 0, none⟩ (.int .i64 o.n)).setCell ⟨q, 1, none⟩ (.int .i64 (hiZ o.x))).setCell ⟨q, 2, none⟩ (.int .u64 (loZ o.x))).setCell ⟨q, 3, none⟩ (.int .i64 o.b.k)).setCell ⟨q, 4, none⟩ (.int .i64 o.b.n)).setCell ⟨q, 5, none⟩ (.string o.b.s)) := ⟨set6 h _ _ _ _ _ _⟩
set_option maxHeartbeats 4000000 in
set_option maxRecDepth 100000 in
theorem aboth_any (kind : Int) (a c : Ac) (ha : a.b.wf) (hc : c.b.wf) (w : World) :
    Calls Try.prog 13 #[.int .i64 kind, a.V, c.V] w fun e w' => e = .returned (.tuple #[(bothA kind a c).1.V, .int .i64 (bothA kind a c).2]) ∧ Below w.heap.size w w' := by
  obtain ⟨an, ax, ab⟩ := a
  obtain ⟨cn, cx, cb⟩ := c
  have HJ := Lib.hid (fun W => joins_any W)
  have HK := Lib.hid (fun W => known_any kind W)
  obtain ⟨r, hr⟩ : ∃ r, bothA kind ⟨an, ax, ab⟩ ⟨cn, cx, cb⟩ = r := ⟨_, rfl⟩
  have HR := Lib.hid hr
  rw [hr]
  have HCU := Lib.hid (fun W => unchanged_any ⟨an, ax, ab⟩ ⟨cn, cx, cb⟩ W)
  have HCS := Lib.hid (fun W => summed_any ⟨an, ax, ab⟩ ⟨cn, cx, cb⟩ W)
  have HCL := Lib.hid (fun W => least_any ⟨an, ax, ab⟩ ⟨cn, cx, cb⟩ ha hc W)
  have HCG := Lib.hid (fun W => greatest_any ⟨an, ax, ab⟩ ⟨cn, cx, cb⟩ ha hc W)
  clear hr ha hc
  obtain ⟨W1, hW1⟩ : ∃ W1, ((w.alloc (.cells #[.int .i64 an, .int .i64 (hiZ ax), .int .u64 (loZ ax), .int .i64 ab.k, .int .i64 ab.n, .string ab.s] 35)).alloc (.cells #[.int .i64 cn, .int .i64 (hiZ cx), .int .u64 (loZ cx), .int .i64 cb.k, .int .i64 cb.n, .string cb.s] 35)).alloc (.cells #[.int .i64 0, .int .i64 0, .int .u64 0, .int .i64 0, .int .i64 0, .string ⟨#[]⟩] 35) = W1 := ⟨_, rfl⟩
  have HSZ : Hid (W1.heap.size = w.heap.size + 3) := Lib.hid (by rw [← hW1]; simp)
  have HN := Lib.hid (B5.new 35 w ⟨an, ax, ab⟩ ⟨cn, cx, cb⟩)
  rw [hW1] at HN
  unfold Ac.V
  obtain ⟨⟨a0, a1, a2, a3, a4, a5⟩, fa0, fa1, fa2, fa3, fa4, fa5⟩ := blk6 HN.out.a; obtain ⟨⟨c0, c1, c2, c3, c4, c5⟩, _⟩ := blk6 HN.out.c; obtain ⟨⟨r0, r1, r2, r3, r4, r5⟩, fr0, fr1, fr2, fr3, fr4, fr5⟩ := blk6 HN.out.r; have hlt := heap_lt HN.out.r
  have hl0 : w.heap.size < W1.heap.size := heap_lt HN.out.a
  have hl1 : w.heap.size + 1 < W1.heap.size := heap_lt HN.out.c
  have HS1 := Lib.hid (show w.heap.size ≤ W1.heap.size from HN.out.b.size)
  cases hok : okA kind with
  | false =>
    have HE := Lib.hid (show r = (zeroA, 150) by rw [← HR.out]; unfold bothA; rw [if_pos hok])
    rw [hok] at HK
    clear hok
    go_enter Try.func13, Try.ntmps13
    go_wp2_with (go_at_call 26; go_loud (refine (HK.out _).mono ?_; rintro e w1 ⟨rfl, rfl⟩))
    refine bodyPost_ret (res2 rfl (by rfl) (set6 HN.out.r _ _ _ _ _ _) Try.underlying35 (by kernel_rfl)) rfl ⟨?_, below6 HN.out.b (by omega) _ _ _ _ _ _⟩
    rw [HE.out]
    rfl
  | true =>
    obtain ⟨hk1, hk5⟩ := okA_iff.1 hok
    rw [hok] at HK
    have HO := Lib.hid (show ¬ okA kind = false by rw [hok]; simp)
    clear hok
    rcases (show kind = 1 ∨ kind = 2 ∨ kind = 3 ∨ kind = 4 ∨ kind = 5 by omega) with rfl | rfl | rfl | rfl | rfl
    · obtain ⟨rn, rx, rb, HU, HE⟩ : ∃ rn rx rb, Hid (∀ W, Calls Try.prog 42 #[Ac.V ⟨an, ax, ab⟩, Ac.V ⟨cn, cx, cb⟩] W fun e w' => e = .returned (Ac.V ⟨rn, rx, rb⟩) ∧ Below W.heap.size W w') ∧ Hid (r = (⟨wrap64 (an + cn), rx, rb⟩, 0)) :=
        ⟨_, _, _, Lib.hid HCU.out, Lib.hid (by rw [← HR.out, bothA_no HO.out (by decide) (by rintro ⟨h | h, _⟩ <;> omega)])⟩
      unfold Ac.V at HU
      clear HCU HCS HCL HCG HR HSZ
      -- unchanged the function, 1 the kind
      have hix : ∀ W : World, (Instr.index 70 (.agg #[.nilFunc, .func (.func 42) #[] #[], .func (.func 42) #[] #[], .func (.func 43) #[] #[], .func (.func 44) #[] #[], .func (.func 45) #[] #[]]) (.int .i64 1)).run Try.prog W = .ok (.func (.func 42) #[] #[]) W := fun _ => by kernel_rfl
      go_enter Try.func13, Try.ntmps13
      go_wp2_with (go_at_call 26; go_loud (refine (HK.out _).mono ?_; rintro e w1 ⟨rfl, rfl⟩))
      obtain ⟨W2, hW2⟩ : ∃ W2, W1.drew = W2 := ⟨_, rfl⟩
      have hS : SB 35 w ⟨an, ax, ab⟩ ⟨cn, cx, cb⟩ W2 := by rw [← hW2]; exact (sb_of HN.out).below ((Below.refl _ _).drew)
      clear a0 a1 a2 a3 a4 a5 c0 c1 c2 c3 c4 c5 r0 r1 r2 r3 r4 r5 fa0 fa1 fa2 fa3 fa4 fa5 fr0 fr1 fr2 fr3 fr4 fr5 hlt hl0 hl1
      refine held_begin 8 (fun W => SB 35 w ⟨an, ax, ab⟩ ⟨cn, cx, cb⟩ W) rfl (by kernel_rfl) ?_
      rw [hW2]
      clear hW2
      refine held_take (i := 1) (t := 14) (v := (.int .i64 1)) (fuel := 7) rfl rfl (by kernel_rfl) (by kernel_rfl) (by kernel_rfl) (fun _ _ _ h => h) (.inl ⟨rfl, fun W hW => by obtain ⟨s00, s01, s02⟩ := hW; simp [execOp, Act.eval, go_sem, s00, s01, s02]⟩) hS ?_
      simp only [List.setIfInBounds_toArray, List.set_cons_succ, List.set_cons_zero]
      refine held_take (i := 3) (t := 16) (v := (.agg #[.int .i64 an, .int .i64 (hiZ ax), .int .u64 (loZ ax), .int .i64 ab.k, .int .i64 ab.n, .string ab.s])) (fuel := 6) rfl rfl (by kernel_rfl) (by kernel_rfl) (by kernel_rfl) (fun _ _ _ h => h) (.inl ⟨rfl, fun W hW => by obtain ⟨s00, sa, sb⟩ := hW; simp [execOp, Act.eval, go_sem, s00, sa, sb, sa.1, sa.2.1, sa.2.2.1, sa.2.2.2.1, sa.2.2.2.2.1, sa.2.2.2.2.2]⟩) hS ?_
      simp only [List.setIfInBounds_toArray, List.set_cons_succ, List.set_cons_zero]
      refine held_take (i := 4) (t := 17) (v := (.agg #[.int .i64 cn, .int .i64 (hiZ cx), .int .u64 (loZ cx), .int .i64 cb.k, .int .i64 cb.n, .string cb.s])) (fuel := 5) rfl rfl (by kernel_rfl) (by kernel_rfl) (by kernel_rfl) (fun _ _ _ h => h) (.inl ⟨rfl, fun W hW => by obtain ⟨s00, sa, sb⟩ := hW; simp [execOp, Act.eval, go_sem, s00, sa, sb, sb.1, sb.2.1, sb.2.2.1, sb.2.2.2.1, sb.2.2.2.2.1, sb.2.2.2.2.2]⟩) hS ?_
      simp only [List.setIfInBounds_toArray, List.set_cons_succ, List.set_cons_zero]
      refine held_two (i := 0) (j := 6) rfl rfl (by kernel_rfl) (by kernel_rfl) (by kernel_rfl) ?_ ?_
      · skip
        simp [Oper.wp, execOp, Act.eval, Act.put, go_sem]
        refine (HJ.out _).mono ?_
        rintro e w2 ⟨rfl, hb2⟩
        have hS2 : SB 35 w ⟨an, ax, ab⟩ ⟨cn, cx, cb⟩ w2 := hS.below hb2
        refine ⟨hS2, ?_⟩
        clear hS
        have hS := hS2
        clear hS2
        try simp only [List.setIfInBounds_toArray, List.set_cons_succ, List.set_cons_zero]
        clear hb2
        refine held_take (i := 2) (t := 15) (v := (.func (.func 42) #[] #[])) (fuel := 3) rfl rfl (by kernel_rfl) (by kernel_rfl) (by kernel_rfl) (fun _ _ _ h => h) (.inl ⟨rfl, fun W hW => by obtain ⟨s00, sa, sb⟩ := hW; simp [execOp, Act.eval, go_sem, s00, sa, sb, hix]⟩) hS ?_
        simp only [List.setIfInBounds_toArray, List.set_cons_succ, List.set_cons_zero]
        refine held_two (i := 5) (j := 6) rfl rfl (by kernel_rfl) (by kernel_rfl) (by kernel_rfl) ?_ ?_
        · skip
          simp [Oper.wp, execOp, Act.eval, Act.put, go_sem]
          refine (HU.out _).mono ?_
          rintro e w3 ⟨rfl, hb3⟩
          have hS2 : SB 35 w ⟨an, ax, ab⟩ ⟨cn, cx, cb⟩ w3 := hS.below hb3
          refine ⟨hS2, ?_⟩
          clear hS
          have hS := hS2
          clear hS2
          try simp only [List.setIfInBounds_toArray, List.set_cons_succ, List.set_cons_zero]
          clear hb3
          refine held_call (i := 6) rfl (by kernel_rfl) (by kernel_rfl) ?_
          -- w3 the world; behind it w4, g
          simp [Oper.wp, execOp, Act.eval, Act.put, go_sem]
          obtain ⟨w4, hw4⟩ : ∃ w4, World.alloc (w3) (.cells #[.int .i64 0, .int .i64 0, .int .u64 0, .int .i64 0, .int .i64 0, .string ⟨#[]⟩] 35) = w4 := ⟨_, rfl⟩
          obtain ⟨g, hg⟩ : ∃ g, (w3).heap.size = g := ⟨_, rfl⟩
          have HG := Lib.hid (show w.heap.size + 2 < g by rw [← hg]; exact heap_lt hS.1.r)
          have HOZ : Hid (w4.heap[g]? = some (.cells #[.int .i64 0, .int .i64 0, .int .u64 0, .int .i64 0, .int .i64 0, .string ⟨#[]⟩] 35)) := Lib.hid (by rw [← hw4, ← hg]; exact World.alloc_heap_new _ _)
          have hS2 : SB 35 w ⟨an, ax, ab⟩ ⟨cn, cx, cb⟩ w4 := by rw [← hw4]; exact hS.below ((Below.refl _ _).alloc (Nat.le_refl _) _)
          skip
          rw [hw4]
          refine ⟨hS2, ?_⟩
          clear hS hw4
          have hS := hS2
          clear hS2
          try simp only [List.setIfInBounds_toArray, List.set_cons_succ, List.set_cons_zero]
          rw [hg]
          clear hg
          have hgl := HG.out
          obtain ⟨⟨a0, a1, a2, a3, a4, a5⟩, _⟩ := blk6 hS.1.a; obtain ⟨⟨c0, c1, c2, c3, c4, c5⟩, _⟩ := blk6 hS.1.c; obtain ⟨⟨r0, r1, r2, r3, r4, r5⟩, fr0, fr1, fr2, fr3, fr4, fr5⟩ := blk6 hS.1.r; obtain ⟨⟨o0, o1, o2, o3, o4, o5⟩, fo0, fo1, fo2, fo3, fo4, fo5⟩ := blk6 HOZ.out
          have hla := heap_lt hS.1.a
          have hlc := heap_lt hS.1.c
          have hlr := heap_lt hS.1.r
          have hlo := heap_lt HOZ.out
          have n1 : w.heap.size ≠ g := by omega
          have n2 : g ≠ w.heap.size := by omega
          have n3 : w.heap.size + 1 ≠ g := by omega
          have n4 : g ≠ w.heap.size + 1 := by omega
          have n5 : w.heap.size + 2 ≠ g := by omega
          have n6 : g ≠ w.heap.size + 2 := by omega
          have n7 : w.heap.size + 1 + 1 ≠ g := by omega
          have n8 : g ≠ w.heap.size + 1 + 1 := by omega
          refine held_call (i := 7) rfl (by kernel_rfl) (by kernel_rfl) ?_
          simp [Oper.wp, execOp, Act.eval, Act.put, go_sem, o0, o1, o2, o3, o4, o5, fo0, fo1, fo2, fo3, fo4, fo5, hlo]
          refine ⟨(((((hS.set hgl 0 _).set hgl 1 _).set hgl 2 _).set hgl 3 _).set hgl 4 _).set hgl 5 _, ?_⟩
          try simp only [List.setIfInBounds_toArray, List.set_cons_succ, List.set_cons_zero]
          refine wpAnyH_done (by kernel_rfl) ?_ 0
          have HSS := Lib.hid hS
          clear hS
          go_wp2
          refine bodyPost_ret (res2 rfl (by rfl) (set6 (by (repeat (rw [heap_setCell_other _ _ _ _ (by dsimp only; omega)])); exact HSS.out.1.r) _ _ _ _ _ _) Try.underlying35 (by kernel_rfl)) rfl ⟨?_, below6 (by (repeat (refine belowq ?_ (by omega) _ _)); exact HSS.out.1.b) (by omega) _ _ _ _ _ _⟩
          rw [HE.out]
          rfl
        · skip
          -- w2 the world; behind it w4, g
          simp [Oper.wp, execOp, Act.eval, Act.put, go_sem]
          obtain ⟨w4, hw4⟩ : ∃ w4, World.alloc (w2) (.cells #[.int .i64 0, .int .i64 0, .int .u64 0, .int .i64 0, .int .i64 0, .string ⟨#[]⟩] 35) = w4 := ⟨_, rfl⟩
          obtain ⟨g, hg⟩ : ∃ g, (w2).heap.size = g := ⟨_, rfl⟩
          have HG := Lib.hid (show w.heap.size + 2 < g by rw [← hg]; exact heap_lt hS.1.r)
          have HOZ : Hid (w4.heap[g]? = some (.cells #[.int .i64 0, .int .i64 0, .int .u64 0, .int .i64 0, .int .i64 0, .string ⟨#[]⟩] 35)) := Lib.hid (by rw [← hw4, ← hg]; exact World.alloc_heap_new _ _)
          have hS2 : SB 35 w ⟨an, ax, ab⟩ ⟨cn, cx, cb⟩ w4 := by rw [← hw4]; exact hS.below ((Below.refl _ _).alloc (Nat.le_refl _) _)
          skip
          rw [hw4]
          refine ⟨hS2, ?_⟩
          clear hS hw4
          have hS := hS2
          clear hS2
          try simp only [List.setIfInBounds_toArray, List.set_cons_succ, List.set_cons_zero]
          rw [hg]
          clear hg
          refine held_call (i := 5) rfl (by kernel_rfl) (by kernel_rfl) ?_
          simp [Oper.wp, execOp, Act.eval, Act.put, go_sem]
          refine (HU.out _).mono ?_
          rintro e w3 ⟨rfl, hb3⟩
          have hS2 : SB 35 w ⟨an, ax, ab⟩ ⟨cn, cx, cb⟩ w3 := hS.below hb3
          refine ⟨hS2, ?_⟩
          clear hS
          have hS := hS2
          clear hS2
          try simp only [List.setIfInBounds_toArray, List.set_cons_succ, List.set_cons_zero]
          replace HOZ := Lib.hid ((hb3.block _ (heap_lt HOZ.out)).trans HOZ.out)
          clear hb3
          have hgl := HG.out
          obtain ⟨⟨a0, a1, a2, a3, a4, a5⟩, _⟩ := blk6 hS.1.a; obtain ⟨⟨c0, c1, c2, c3, c4, c5⟩, _⟩ := blk6 hS.1.c; obtain ⟨⟨r0, r1, r2, r3, r4, r5⟩, fr0, fr1, fr2, fr3, fr4, fr5⟩ := blk6 hS.1.r; obtain ⟨⟨o0, o1, o2, o3, o4, o5⟩, fo0, fo1, fo2, fo3, fo4, fo5⟩ := blk6 HOZ.out
          have hla := heap_lt hS.1.a
          have hlc := heap_lt hS.1.c
          have hlr := heap_lt hS.1.r
          have hlo := heap_lt HOZ.out
          have n1 : w.heap.size ≠ g := by omega
          have n2 : g ≠ w.heap.size := by omega
          have n3 : w.heap.size + 1 ≠ g := by omega
          have n4 : g ≠ w.heap.size + 1 := by omega
          have n5 : w.heap.size + 2 ≠ g := by omega
          have n6 : g ≠ w.heap.size + 2 := by omega
          have n7 : w.heap.size + 1 + 1 ≠ g := by omega
          have n8 : g ≠ w.heap.size + 1 + 1 := by omega
          refine held_call (i := 7) rfl (by kernel_rfl) (by kernel_rfl) ?_
          simp [Oper.wp, execOp, Act.eval, Act.put, go_sem, o0, o1, o2, o3, o4, o5, fo0, fo1, fo2, fo3, fo4, fo5, hlo]
          refine ⟨(((((hS.set hgl 0 _).set hgl 1 _).set hgl 2 _).set hgl 3 _).set hgl 4 _).set hgl 5 _, ?_⟩
          try simp only [List.setIfInBounds_toArray, List.set_cons_succ, List.set_cons_zero]
          refine wpAnyH_done (by kernel_rfl) ?_ 0
          have HSS := Lib.hid hS
          clear hS
          go_wp2
          refine bodyPost_ret (res2 rfl (by rfl) (set6 (by (repeat (rw [heap_setCell_other _ _ _ _ (by dsimp only; omega)])); exact HSS.out.1.r) _ _ _ _ _ _) Try.underlying35 (by kernel_rfl)) rfl ⟨?_, below6 (by (repeat (refine belowq ?_ (by omega) _ _)); exact HSS.out.1.b) (by omega) _ _ _ _ _ _⟩
          rw [HE.out]
          rfl
      · skip
        -- W2 the world; behind it w4, g
        simp [Oper.wp, execOp, Act.eval, Act.put, go_sem]
        obtain ⟨w4, hw4⟩ : ∃ w4, World.alloc (W2) (.cells #[.int .i64 0, .int .i64 0, .int .u64 0, .int .i64 0, .int .i64 0, .string ⟨#[]⟩] 35) = w4 := ⟨_, rfl⟩
        obtain ⟨g, hg⟩ : ∃ g, (W2).heap.size = g := ⟨_, rfl⟩
        have HG := Lib.hid (show w.heap.size + 2 < g by rw [← hg]; exact heap_lt hS.1.r)
        have HOZ : Hid (w4.heap[g]? = some (.cells #[.int .i64 0, .int .i64 0, .int .u64 0, .int .i64 0, .int .i64 0, .string ⟨#[]⟩] 35)) := Lib.hid (by rw [← hw4, ← hg]; exact World.alloc_heap_new _ _)
        have hS2 : SB 35 w ⟨an, ax, ab⟩ ⟨cn, cx, cb⟩ w4 := by rw [← hw4]; exact hS.below ((Below.refl _ _).alloc (Nat.le_refl _) _)
        skip
        rw [hw4]
        refine ⟨hS2, ?_⟩
        clear hS hw4
        have hS := hS2
        clear hS2
        try simp only [List.setIfInBounds_toArray, List.set_cons_succ, List.set_cons_zero]
        rw [hg]
        clear hg
        refine held_call (i := 0) rfl (by kernel_rfl) (by kernel_rfl) ?_
        simp [Oper.wp, execOp, Act.eval, Act.put, go_sem]
        refine (HJ.out _).mono ?_
        rintro e w2 ⟨rfl, hb2⟩
        have hS2 : SB 35 w ⟨an, ax, ab⟩ ⟨cn, cx, cb⟩ w2 := hS.below hb2
        refine ⟨hS2, ?_⟩
        clear hS
        have hS := hS2
        clear hS2
        try simp only [List.setIfInBounds_toArray, List.set_cons_succ, List.set_cons_zero]
        replace HOZ := Lib.hid ((hb2.block _ (heap_lt HOZ.out)).trans HOZ.out)
        clear hb2
        refine held_take (i := 2) (t := 15) (v := (.func (.func 42) #[] #[])) (fuel := 2) rfl rfl (by kernel_rfl) (by kernel_rfl) (by kernel_rfl) (fun _ _ _ h => h) (.inl ⟨rfl, fun W hW => by obtain ⟨s00, sa, sb⟩ := hW; simp [execOp, Act.eval, go_sem, s00, sa, sb, hix]⟩) hS ?_
        simp only [List.setIfInBounds_toArray, List.set_cons_succ, List.set_cons_zero]
        refine held_call (i := 5) rfl (by kernel_rfl) (by kernel_rfl) ?_
        simp [Oper.wp, execOp, Act.eval, Act.put, go_sem]
        refine (HU.out _).mono ?_
        rintro e w3 ⟨rfl, hb3⟩
        have hS2 : SB 35 w ⟨an, ax, ab⟩ ⟨cn, cx, cb⟩ w3 := hS.below hb3
        refine ⟨hS2, ?_⟩
        clear hS
        have hS := hS2
        clear hS2
        try simp only [List.setIfInBounds_toArray, List.set_cons_succ, List.set_cons_zero]
        replace HOZ := Lib.hid ((hb3.block _ (heap_lt HOZ.out)).trans HOZ.out)
        clear hb3
        have hgl := HG.out
        obtain ⟨⟨a0, a1, a2, a3, a4, a5⟩, _⟩ := blk6 hS.1.a; obtain ⟨⟨c0, c1, c2, c3, c4, c5⟩, _⟩ := blk6 hS.1.c; obtain ⟨⟨r0, r1, r2, r3, r4, r5⟩, fr0, fr1, fr2, fr3, fr4, fr5⟩ := blk6 hS.1.r; obtain ⟨⟨o0, o1, o2, o3, o4, o5⟩, fo0, fo1, fo2, fo3, fo4, fo5⟩ := blk6 HOZ.out
        have hla := heap_lt hS.1.a
        have hlc := heap_lt hS.1.c
        have hlr := heap_lt hS.1.r
        have hlo := heap_lt HOZ.out
        have n1 : w.heap.size ≠ g := by omega
        have n2 : g ≠ w.heap.size := by omega
        have n3 : w.heap.size + 1 ≠ g := by omega
        have n4 : g ≠ w.heap.size + 1 := by omega
        have n5 : w.heap.size + 2 ≠ g := by omega
        have n6 : g ≠ w.heap.size + 2 := by omega
        have n7 : w.heap.size + 1 + 1 ≠ g := by omega
        have n8 : g ≠ w.heap.size + 1 + 1 := by omega
        refine held_call (i := 7) rfl (by kernel_rfl) (by kernel_rfl) ?_
        simp [Oper.wp, execOp, Act.eval, Act.put, go_sem, o0, o1, o2, o3, o4, o5, fo0, fo1, fo2, fo3, fo4, fo5, hlo]
        refine ⟨(((((hS.set hgl 0 _).set hgl 1 _).set hgl 2 _).set hgl 3 _).set hgl 4 _).set hgl 5 _, ?_⟩
        try simp only [List.setIfInBounds_toArray, List.set_cons_succ, List.set_cons_zero]
        refine wpAnyH_done (by kernel_rfl) ?_ 0
        have HSS := Lib.hid hS
        clear hS
        go_wp2
        refine bodyPost_ret (res2 rfl (by rfl) (set6 (by (repeat (rw [heap_setCell_other _ _ _ _ (by dsimp only; omega)])); exact HSS.out.1.r) _ _ _ _ _ _) Try.underlying35 (by kernel_rfl)) rfl ⟨?_, below6 (by (repeat (refine belowq ?_ (by omega) _ _)); exact HSS.out.1.b) (by omega) _ _ _ _ _ _⟩
        rw [HE.out]
        rfl
    · obtain ⟨rn, rx, rb, HU, HE⟩ : ∃ rn rx rb, Hid (∀ W, Calls Try.prog 42 #[Ac.V ⟨an, ax, ab⟩, Ac.V ⟨cn, cx, cb⟩] W fun e w' => e = .returned (Ac.V ⟨rn, rx, rb⟩) ∧ Below W.heap.size W w') ∧ Hid (r = (⟨wrap64 (an + cn), rx, rb⟩, 0)) :=
        ⟨_, _, _, Lib.hid HCU.out, Lib.hid (by rw [← HR.out, bothA_no HO.out (by decide) (by rintro ⟨h | h, _⟩ <;> omega)])⟩
      unfold Ac.V at HU
      clear HCU HCS HCL HCG HR HSZ
      -- unchanged the function, 2 the kind
      have hix : ∀ W : World, (Instr.index 70 (.agg #[.nilFunc, .func (.func 42) #[] #[], .func (.func 42) #[] #[], .func (.func 43) #[] #[], .func (.func 44) #[] #[], .func (.func 45) #[] #[]]) (.int .i64 2)).run Try.prog W = .ok (.func (.func 42) #[] #[]) W := fun _ => by kernel_rfl
      go_enter Try.func13, Try.ntmps13
      go_wp2_with (go_at_call 26; go_loud (refine (HK.out _).mono ?_; rintro e w1 ⟨rfl, rfl⟩))
      obtain ⟨W2, hW2⟩ : ∃ W2, W1.drew = W2 := ⟨_, rfl⟩
      have hS : SB 35 w ⟨an, ax, ab⟩ ⟨cn, cx, cb⟩ W2 := by rw [← hW2]; exact (sb_of HN.out).below ((Below.refl _ _).drew)
      clear a0 a1 a2 a3 a4 a5 c0 c1 c2 c3 c4 c5 r0 r1 r2 r3 r4 r5 fa0 fa1 fa2 fa3 fa4 fa5 fr0 fr1 fr2 fr3 fr4 fr5 hlt hl0 hl1
      refine held_begin 8 (fun W => SB 35 w ⟨an, ax, ab⟩ ⟨cn, cx, cb⟩ W) rfl (by kernel_rfl) ?_
      rw [hW2]
      clear hW2
      refine held_take (i := 1) (t := 14) (v := (.int .i64 2)) (fuel := 7) rfl rfl (by kernel_rfl) (by kernel_rfl) (by kernel_rfl) (fun _ _ _ h => h) (.inl ⟨rfl, fun W hW => by obtain ⟨s00, s01, s02⟩ := hW; simp [execOp, Act.eval, go_sem, s00, s01, s02]⟩) hS ?_
      simp only [List.setIfInBounds_toArray, List.set_cons_succ, List.set_cons_zero]
      refine held_take (i := 3) (t := 16) (v := (.agg #[.int .i64 an, .int .i64 (hiZ ax), .int .u64 (loZ ax), .int .i64 ab.k, .int .i64 ab.n, .string ab.s])) (fuel := 6) rfl rfl (by kernel_rfl) (by kernel_rfl) (by kernel_rfl) (fun _ _ _ h => h) (.inl ⟨rfl, fun W hW => by obtain ⟨s00, sa, sb⟩ := hW; simp [execOp, Act.eval, go_sem, s00, sa, sb, sa.1, sa.2.1, sa.2.2.1, sa.2.2.2.1, sa.2.2.2.2.1, sa.2.2.2.2.2]⟩) hS ?_
      simp only [List.setIfInBounds_toArray, List.set_cons_succ, List.set_cons_zero]
      refine held_take (i := 4) (t := 17) (v := (.agg #[.int .i64 cn, .int .i64 (hiZ cx), .int .u64 (loZ cx), .int .i64 cb.k, .int .i64 cb.n, .string cb.s])) (fuel := 5) rfl rfl (by kernel_rfl) (by kernel_rfl) (by kernel_rfl) (fun _ _ _ h => h) (.inl ⟨rfl, fun W hW => by obtain ⟨s00, sa, sb⟩ := hW; simp [execOp, Act.eval, go_sem, s00, sa, sb, sb.1, sb.2.1, sb.2.2.1, sb.2.2.2.1, sb.2.2.2.2.1, sb.2.2.2.2.2]⟩) hS ?_
      simp only [List.setIfInBounds_toArray, List.set_cons_succ, List.set_cons_zero]
      refine held_two (i := 0) (j := 6) rfl rfl (by kernel_rfl) (by kernel_rfl) (by kernel_rfl) ?_ ?_
      · skip
        simp [Oper.wp, execOp, Act.eval, Act.put, go_sem]
        refine (HJ.out _).mono ?_
        rintro e w2 ⟨rfl, hb2⟩
        have hS2 : SB 35 w ⟨an, ax, ab⟩ ⟨cn, cx, cb⟩ w2 := hS.below hb2
        refine ⟨hS2, ?_⟩
        clear hS
        have hS := hS2
        clear hS2
        try simp only [List.setIfInBounds_toArray, List.set_cons_succ, List.set_cons_zero]
        clear hb2
        refine held_take (i := 2) (t := 15) (v := (.func (.func 42) #[] #[])) (fuel := 3) rfl rfl (by kernel_rfl) (by kernel_rfl) (by kernel_rfl) (fun _ _ _ h => h) (.inl ⟨rfl, fun W hW => by obtain ⟨s00, sa, sb⟩ := hW; simp [execOp, Act.eval, go_sem, s00, sa, sb, hix]⟩) hS ?_
        simp only [List.setIfInBounds_toArray, List.set_cons_succ, List.set_cons_zero]
        refine held_two (i := 5) (j := 6) rfl rfl (by kernel_rfl) (by kernel_rfl) (by kernel_rfl) ?_ ?_
        · skip
          simp [Oper.wp, execOp, Act.eval, Act.put, go_sem]
          refine (HU.out _).mono ?_
          rintro e w3 ⟨rfl, hb3⟩
          have hS2 : SB 35 w ⟨an, ax, ab⟩ ⟨cn, cx, cb⟩ w3 := hS.below hb3
          refine ⟨hS2, ?_⟩
          clear hS
          have hS := hS2
          clear hS2
          try simp only [List.setIfInBounds_toArray, List.set_cons_succ, List.set_cons_zero]
          clear hb3
          refine held_call (i := 6) rfl (by kernel_rfl) (by kernel_rfl) ?_
          -- w3 the world; behind it w4, g
          simp [Oper.wp, execOp, Act.eval, Act.put, go_sem]
          obtain ⟨w4, hw4⟩ : ∃ w4, World.alloc (w3) (.cells #[.int .i64 0, .int .i64 0, .int .u64 0, .int .i64 0, .int .i64 0, .string ⟨#[]⟩] 35) = w4 := ⟨_, rfl⟩
          obtain ⟨g, hg⟩ : ∃ g, (w3).heap.size = g := ⟨_, rfl⟩
          have HG := Lib.hid (show w.heap.size + 2 < g by rw [← hg]; exact heap_lt hS.1.r)
          have HOZ : Hid (w4.heap[g]? = some (.cells #[.int .i64 0, .int .i64 0, .int .u64 0, .int .i64 0, .int .i64 0, .string ⟨#[]⟩] 35)) := Lib.hid (by rw [← hw4, ← hg]; exact World.alloc_heap_new _ _)
          have hS2 : SB 35 w ⟨an, ax, ab⟩ ⟨cn, cx, cb⟩ w4 := by rw [← hw4]; exact hS.below ((Below.refl _ _).alloc (Nat.le_refl _) _)
          skip
          rw [hw4]
          refine ⟨hS2, ?_⟩
          clear hS hw4
          have hS := hS2
          clear hS2
          try simp only [List.setIfInBounds_toArray, List.set_cons_succ, List.set_cons_zero]
          rw [hg]
          clear hg
          have hgl := HG.out
          obtain ⟨⟨a0, a1, a2, a3, a4, a5⟩, _⟩ := blk6 hS.1.a; obtain ⟨⟨c0, c1, c2, c3, c4, c5⟩, _⟩ := blk6 hS.1.c; obtain ⟨⟨r0, r1, r2, r3, r4, r5⟩, fr0, fr1, fr2, fr3, fr4, fr5⟩ := blk6 hS.1.r; obtain ⟨⟨o0, o1, o2, o3, o4, o5⟩, fo0, fo1, fo2, fo3, fo4, fo5⟩ := blk6 HOZ.out
          have hla := heap_lt hS.1.a
          have hlc := heap_lt hS.1.c
          have hlr := heap_lt hS.1.r
          have hlo := heap_lt HOZ.out
          have n1 : w.heap.size ≠ g := by omega
          have n2 : g ≠ w.heap.size := by omega
          have n3 : w.heap.size + 1 ≠ g := by omega
          have n4 : g ≠ w.heap.size + 1 := by omega
          have n5 : w.heap.size + 2 ≠ g := by omega
          have n6 : g ≠ w.heap.size + 2 := by omega
          have n7 : w.heap.size + 1 + 1 ≠ g := by omega
          have n8 : g ≠ w.heap.size + 1 + 1 := by omega
          refine held_call (i := 7) rfl (by kernel_rfl) (by kernel_rfl) ?_
          simp [Oper.wp, execOp, Act.eval, Act.put, go_sem, o0, o1, o2, o3, o4, o5, fo0, fo1, fo2, fo3, fo4, fo5, hlo]
          refine ⟨(((((hS.set hgl 0 _).set hgl 1 _).set hgl 2 _).set hgl 3 _).set hgl 4 _).set hgl 5 _, ?_⟩
          try simp only [List.setIfInBounds_toArray, List.set_cons_succ, List.set_cons_zero]
          refine wpAnyH_done (by kernel_rfl) ?_ 0
          have HSS := Lib.hid hS
          clear hS
          go_wp2
          refine bodyPost_ret (res2 rfl (by rfl) (set6 (by (repeat (rw [heap_setCell_other _ _ _ _ (by dsimp only; omega)])); exact HSS.out.1.r) _ _ _ _ _ _) Try.underlying35 (by kernel_rfl)) rfl ⟨?_, below6 (by (repeat (refine belowq ?_ (by omega) _ _)); exact HSS.out.1.b) (by omega) _ _ _ _ _ _⟩
          rw [HE.out]
          rfl
        · skip
          -- w2 the world; behind it w4, g
          simp [Oper.wp, execOp, Act.eval, Act.put, go_sem]
          obtain ⟨w4, hw4⟩ : ∃ w4, World.alloc (w2) (.cells #[.int .i64 0, .int .i64 0, .int .u64 0, .int .i64 0, .int .i64 0, .string ⟨#[]⟩] 35) = w4 := ⟨_, rfl⟩
          obtain ⟨g, hg⟩ : ∃ g, (w2).heap.size = g := ⟨_, rfl⟩
          have HG := Lib.hid (show w.heap.size + 2 < g by rw [← hg]; exact heap_lt hS.1.r)
          have HOZ : Hid (w4.heap[g]? = some (.cells #[.int .i64 0, .int .i64 0, .int .u64 0, .int .i64 0, .int .i64 0, .string ⟨#[]⟩] 35)) := Lib.hid (by rw [← hw4, ← hg]; exact World.alloc_heap_new _ _)
          have hS2 : SB 35 w ⟨an, ax, ab⟩ ⟨cn, cx, cb⟩ w4 := by rw [← hw4]; exact hS.below ((Below.refl _ _).alloc (Nat.le_refl _) _)
          skip
          rw [hw4]
          refine ⟨hS2, ?_⟩
          clear hS hw4
          have hS := hS2
          clear hS2
          try simp only [List.setIfInBounds_toArray, List.set_cons_succ, List.set_cons_zero]
          rw [hg]
          clear hg
          refine held_call (i := 5) rfl (by kernel_rfl) (by kernel_rfl) ?_
          simp [Oper.wp, execOp, Act.eval, Act.put, go_sem]
          refine (HU.out _).mono ?_
          rintro e w3 ⟨rfl, hb3⟩
          have hS2 : SB 35 w ⟨an, ax, ab⟩ ⟨cn, cx, cb⟩ w3 := hS.below hb3
          refine ⟨hS2, ?_⟩
          clear hS
          have hS := hS2
          clear hS2
          try simp only [List.setIfInBounds_toArray, List.set_cons_succ, List.set_cons_zero]
          replace HOZ := Lib.hid ((hb3.block _ (heap_lt HOZ.out)).trans HOZ.out)
          clear hb3
          have hgl := HG.out
          obtain ⟨⟨a0, a1, a2, a3, a4, a5⟩, _⟩ := blk6 hS.1.a; obtain ⟨⟨c0, c1, c2, c3, c4, c5⟩, _⟩ := blk6 hS.1.c; obtain ⟨⟨r0, r1, r2, r3, r4, r5⟩, fr0, fr1, fr2, fr3, fr4, fr5⟩ := blk6 hS.1.r; obtain ⟨⟨o0, o1, o2, o3, o4, o5⟩, fo0, fo1, fo2, fo3, fo4, fo5⟩ := blk6 HOZ.out
          have hla := heap_lt hS.1.a
          have hlc := heap_lt hS.1.c
          have hlr := heap_lt hS.1.r
          have hlo := heap_lt HOZ.out
          have n1 : w.heap.size ≠ g := by omega
          have n2 : g ≠ w.heap.size := by omega
          have n3 : w.heap.size + 1 ≠ g := by omega
          have n4 : g ≠ w.heap.size + 1 := by omega
          have n5 : w.heap.size + 2 ≠ g := by omega
          have n6 : g ≠ w.heap.size + 2 := by omega
          have n7 : w.heap.size + 1 + 1 ≠ g := by omega
          have n8 : g ≠ w.heap.size + 1 + 1 := by omega
          refine held_call (i := 7) rfl (by kernel_rfl) (by kernel_rfl) ?_
          simp [Oper.wp, execOp, Act.eval, Act.put, go_sem, o0, o1, o2, o3, o4, o5, fo0, fo1, fo2, fo3, fo4, fo5, hlo]
          refine ⟨(((((hS.set hgl 0 _).set hgl 1 _).set hgl 2 _).set hgl 3 _).set hgl 4 _).set hgl 5 _, ?_⟩
          try simp only [List.setIfInBounds_toArray, List.set_cons_succ, List.set_cons_zero]
          refine wpAnyH_done (by kernel_rfl) ?_ 0
          have HSS := Lib.hid hS
          clear hS
          go_wp2
          refine bodyPost_ret (res2 rfl (by rfl) (set6 (by (repeat (rw [heap_setCell_other _ _ _ _ (by dsimp only; omega)])); exact HSS.out.1.r) _ _ _ _ _ _) Try.underlying35 (by kernel_rfl)) rfl ⟨?_, below6 (by (repeat (refine belowq ?_ (by omega) _ _)); exact HSS.out.1.b) (by omega) _ _ _ _ _ _⟩
          rw [HE.out]
          rfl
      · skip
        -- W2 the world; behind it w4, g
        simp [Oper.wp, execOp, Act.eval, Act.put, go_sem]
        obtain ⟨w4, hw4⟩ : ∃ w4, World.alloc (W2) (.cells #[.int .i64 0, .int .i64 0, .int .u64 0, .int .i64 0, .int .i64 0, .string ⟨#[]⟩] 35) = w4 := ⟨_, rfl⟩
        obtain ⟨g, hg⟩ : ∃ g, (W2).heap.size = g := ⟨_, rfl⟩
        have HG := Lib.hid (show w.heap.size + 2 < g by rw [← hg]; exact heap_lt hS.1.r)
        have HOZ : Hid (w4.heap[g]? = some (.cells #[.int .i64 0, .int .i64 0, .int .u64 0, .int .i64 0, .int .i64 0, .string ⟨#[]⟩] 35)) := Lib.hid (by rw [← hw4, ← hg]; exact World.alloc_heap_new _ _)
        have hS2 : SB 35 w ⟨an, ax, ab⟩ ⟨cn, cx, cb⟩ w4 := by rw [← hw4]; exact hS.below ((Below.refl _ _).alloc (Nat.le_refl _) _)
        skip
        rw [hw4]
        refine ⟨hS2, ?_⟩
        clear hS hw4
        have hS := hS2
        clear hS2
        try simp only [List.setIfInBounds_toArray, List.set_cons_succ, List.set_cons_zero]
        rw [hg]
        clear hg
        refine held_call (i := 0) rfl (by kernel_rfl) (by kernel_rfl) ?_
        simp [Oper.wp, execOp, Act.eval, Act.put, go_sem]
        refine (HJ.out _).mono ?_
        rintro e w2 ⟨rfl, hb2⟩
        have hS2 : SB 35 w ⟨an, ax, ab⟩ ⟨cn, cx, cb⟩ w2 := hS.below hb2
        refine ⟨hS2, ?_⟩
        clear hS
        have hS := hS2
        clear hS2
        try simp only [List.setIfInBounds_toArray, List.set_cons_succ, List.set_cons_zero]
        replace HOZ := Lib.hid ((hb2.block _ (heap_lt HOZ.out)).trans HOZ.out)
        clear hb2
        refine held_take (i := 2) (t := 15) (v := (.func (.func 42) #[] #[])) (fuel := 2) rfl rfl (by kernel_rfl) (by kernel_rfl) (by kernel_rfl) (fun _ _ _ h => h) (.inl ⟨rfl, fun W hW => by obtain ⟨s00, sa, sb⟩ := hW; simp [execOp, Act.eval, go_sem, s00, sa, sb, hix]⟩) hS ?_
        simp only [List.setIfInBounds_toArray, List.set_cons_succ, List.set_cons_zero]
        refine held_call (i := 5) rfl (by kernel_rfl) (by kernel_rfl) ?_
        simp [Oper.wp, execOp, Act.eval, Act.put, go_sem]
        refine (HU.out _).mono ?_
        rintro e w3 ⟨rfl, hb3⟩
        have hS2 : SB 35 w ⟨an, ax, ab⟩ ⟨cn, cx, cb⟩ w3 := hS.below hb3
        refine ⟨hS2, ?_⟩
        clear hS
        have hS := hS2
        clear hS2
        try simp only [List.setIfInBounds_toArray, List.set_cons_succ, List.set_cons_zero]
        replace HOZ := Lib.hid ((hb3.block _ (heap_lt HOZ.out)).trans HOZ.out)
        clear hb3
        have hgl := HG.out
        obtain ⟨⟨a0, a1, a2, a3, a4, a5⟩, _⟩ := blk6 hS.1.a; obtain ⟨⟨c0, c1, c2, c3, c4, c5⟩, _⟩ := blk6 hS.1.c; obtain ⟨⟨r0, r1, r2, r3, r4, r5⟩, fr0, fr1, fr2, fr3, fr4, fr5⟩ := blk6 hS.1.r; obtain ⟨⟨o0, o1, o2, o3, o4, o5⟩, fo0, fo1, fo2, fo3, fo4, fo5⟩ := blk6 HOZ.out
        have hla := heap_lt hS.1.a
        have hlc := heap_lt hS.1.c
        have hlr := heap_lt hS.1.r
        have hlo := heap_lt HOZ.out
        have n1 : w.heap.size ≠ g := by omega
        have n2 : g ≠ w.heap.size := by omega
        have n3 : w.heap.size + 1 ≠ g := by omega
        have n4 : g ≠ w.heap.size + 1 := by omega
        have n5 : w.heap.size + 2 ≠ g := by omega
        have n6 : g ≠ w.heap.size + 2 := by omega
        have n7 : w.heap.size + 1 + 1 ≠ g := by omega
        have n8 : g ≠ w.heap.size + 1 + 1 := by omega
        refine held_call (i := 7) rfl (by kernel_rfl) (by kernel_rfl) ?_
        simp [Oper.wp, execOp, Act.eval, Act.put, go_sem, o0, o1, o2, o3, o4, o5, fo0, fo1, fo2, fo3, fo4, fo5, hlo]
        refine ⟨(((((hS.set hgl 0 _).set hgl 1 _).set hgl 2 _).set hgl 3 _).set hgl 4 _).set hgl 5 _, ?_⟩
        try simp only [List.setIfInBounds_toArray, List.set_cons_succ, List.set_cons_zero]
        refine wpAnyH_done (by kernel_rfl) ?_ 0
        have HSS := Lib.hid hS
        clear hS
        go_wp2
        refine bodyPost_ret (res2 rfl (by rfl) (set6 (by (repeat (rw [heap_setCell_other _ _ _ _ (by dsimp only; omega)])); exact HSS.out.1.r) _ _ _ _ _ _) Try.underlying35 (by kernel_rfl)) rfl ⟨?_, below6 (by (repeat (refine belowq ?_ (by omega) _ _)); exact HSS.out.1.b) (by omega) _ _ _ _ _ _⟩
        rw [HE.out]
        rfl
    · obtain ⟨rn, rx, rb, HU, HE⟩ : ∃ rn rx rb, Hid (∀ W, Calls Try.prog 43 #[Ac.V ⟨an, ax, ab⟩, Ac.V ⟨cn, cx, cb⟩] W fun e w' => e = .returned (Ac.V ⟨rn, rx, rb⟩) ∧ Below W.heap.size W w') ∧ Hid (r = (⟨wrap64 (an + cn), rx, rb⟩, 0)) :=
        ⟨_, _, _, Lib.hid HCS.out, Lib.hid (by rw [← HR.out, bothA_sum])⟩
      unfold Ac.V at HU
      clear HCU HCS HCL HCG HR HSZ
      -- summed the function, 3 the kind
      have hix : ∀ W : World, (Instr.index 70 (.agg #[.nilFunc, .func (.func 42) #[] #[], .func (.func 42) #[] #[], .func (.func 43) #[] #[], .func (.func 44) #[] #[], .func (.func 45) #[] #[]]) (.int .i64 3)).run Try.prog W = .ok (.func (.func 43) #[] #[]) W := fun _ => by kernel_rfl
      go_enter Try.func13, Try.ntmps13
      go_wp2_with (go_at_call 26; go_loud (refine (HK.out _).mono ?_; rintro e w1 ⟨rfl, rfl⟩))
      obtain ⟨W2, hW2⟩ : ∃ W2, W1.drew = W2 := ⟨_, rfl⟩
      have hS : SB 35 w ⟨an, ax, ab⟩ ⟨cn, cx, cb⟩ W2 := by rw [← hW2]; exact (sb_of HN.out).below ((Below.refl _ _).drew)
      clear a0 a1 a2 a3 a4 a5 c0 c1 c2 c3 c4 c5 r0 r1 r2 r3 r4 r5 fa0 fa1 fa2 fa3 fa4 fa5 fr0 fr1 fr2 fr3 fr4 fr5 hlt hl0 hl1
      refine held_begin 8 (fun W => SB 35 w ⟨an, ax, ab⟩ ⟨cn, cx, cb⟩ W) rfl (by kernel_rfl) ?_
      rw [hW2]
      clear hW2
      refine held_take (i := 1) (t := 14) (v := (.int .i64 3)) (fuel := 7) rfl rfl (by kernel_rfl) (by kernel_rfl) (by kernel_rfl) (fun _ _ _ h => h) (.inl ⟨rfl, fun W hW => by obtain ⟨s00, s01, s02⟩ := hW; simp [execOp, Act.eval, go_sem, s00, s01, s02]⟩) hS ?_
      simp only [List.setIfInBounds_toArray, List.set_cons_succ, List.set_cons_zero]
      refine held_take (i := 3) (t := 16) (v := (.agg #[.int .i64 an, .int .i64 (hiZ ax), .int .u64 (loZ ax), .int .i64 ab.k, .int .i64 ab.n, .string ab.s])) (fuel := 6) rfl rfl (by kernel_rfl) (by kernel_rfl) (by kernel_rfl) (fun _ _ _ h => h) (.inl ⟨rfl, fun W hW => by obtain ⟨s00, sa, sb⟩ := hW; simp [execOp, Act.eval, go_sem, s00, sa, sb, sa.1, sa.2.1, sa.2.2.1, sa.2.2.2.1, sa.2.2.2.2.1, sa.2.2.2.2.2]⟩) hS ?_
      simp only [List.setIfInBounds_toArray, List.set_cons_succ, List.set_cons_zero]
      refine held_take (i := 4) (t := 17) (v := (.agg #[.int .i64 cn, .int .i64 (hiZ cx), .int .u64 (loZ cx), .int .i64 cb.k, .int .i64 cb.n, .string cb.s])) (fuel := 5) rfl rfl (by kernel_rfl) (by kernel_rfl) (by kernel_rfl) (fun _ _ _ h => h) (.inl ⟨rfl, fun W hW => by obtain ⟨s00, sa, sb⟩ := hW; simp [execOp, Act.eval, go_sem, s00, sa, sb, sb.1, sb.2.1, sb.2.2.1, sb.2.2.2.1, sb.2.2.2.2.1, sb.2.2.2.2.2]⟩) hS ?_
      simp only [List.setIfInBounds_toArray, List.set_cons_succ, List.set_cons_zero]
      refine held_two (i := 0) (j := 6) rfl rfl (by kernel_rfl) (by kernel_rfl) (by kernel_rfl) ?_ ?_
      · skip
        simp [Oper.wp, execOp, Act.eval, Act.put, go_sem]
        refine (HJ.out _).mono ?_
        rintro e w2 ⟨rfl, hb2⟩
        have hS2 : SB 35 w ⟨an, ax, ab⟩ ⟨cn, cx, cb⟩ w2 := hS.below hb2
        refine ⟨hS2, ?_⟩
        clear hS
        have hS := hS2
        clear hS2
        try simp only [List.setIfInBounds_toArray, List.set_cons_succ, List.set_cons_zero]
        clear hb2
        refine held_take (i := 2) (t := 15) (v := (.func (.func 43) #[] #[])) (fuel := 3) rfl rfl (by kernel_rfl) (by kernel_rfl) (by kernel_rfl) (fun _ _ _ h => h) (.inl ⟨rfl, fun W hW => by obtain ⟨s00, sa, sb⟩ := hW; simp [execOp, Act.eval, go_sem, s00, sa, sb, hix]⟩) hS ?_
        simp only [List.setIfInBounds_toArray, List.set_cons_succ, List.set_cons_zero]
        refine held_two (i := 5) (j := 6) rfl rfl (by kernel_rfl) (by kernel_rfl) (by kernel_rfl) ?_ ?_
        · skip
          simp [Oper.wp, execOp, Act.eval, Act.put, go_sem]
          refine (HU.out _).mono ?_
          rintro e w3 ⟨rfl, hb3⟩
          have hS2 : SB 35 w ⟨an, ax, ab⟩ ⟨cn, cx, cb⟩ w3 := hS.below hb3
          refine ⟨hS2, ?_⟩
          clear hS
          have hS := hS2
          clear hS2
          try simp only [List.setIfInBounds_toArray, List.set_cons_succ, List.set_cons_zero]
          clear hb3
          refine held_call (i := 6) rfl (by kernel_rfl) (by kernel_rfl) ?_
          -- w3 the world; behind it w4, g
          simp [Oper.wp, execOp, Act.eval, Act.put, go_sem]
          obtain ⟨w4, hw4⟩ : ∃ w4, World.alloc (w3) (.cells #[.int .i64 0, .int .i64 0, .int .u64 0, .int .i64 0, .int .i64 0, .string ⟨#[]⟩] 35) = w4 := ⟨_, rfl⟩
          obtain ⟨g, hg⟩ : ∃ g, (w3).heap.size = g := ⟨_, rfl⟩
          have HG := Lib.hid (show w.heap.size + 2 < g by rw [← hg]; exact heap_lt hS.1.r)
          have HOZ : Hid (w4.heap[g]? = some (.cells #[.int .i64 0, .int .i64 0, .int .u64 0, .int .i64 0, .int .i64 0, .string ⟨#[]⟩] 35)) := Lib.hid (by rw [← hw4, ← hg]; exact World.alloc_heap_new _ _)
          have hS2 : SB 35 w ⟨an, ax, ab⟩ ⟨cn, cx, cb⟩ w4 := by rw [← hw4]; exact hS.below ((Below.refl _ _).alloc (Nat.le_refl _) _)
          skip
          rw [hw4]
          refine ⟨hS2, ?_⟩
          clear hS hw4
          have hS := hS2
          clear hS2
          try simp only [List.setIfInBounds_toArray, List.set_cons_succ, List.set_cons_zero]
          rw [hg]
          clear hg
          have hgl := HG.out
          obtain ⟨⟨a0, a1, a2, a3, a4, a5⟩, _⟩ := blk6 hS.1.a; obtain ⟨⟨c0, c1, c2, c3, c4, c5⟩, _⟩ := blk6 hS.1.c; obtain ⟨⟨r0, r1, r2, r3, r4, r5⟩, fr0, fr1, fr2, fr3, fr4, fr5⟩ := blk6 hS.1.r; obtain ⟨⟨o0, o1, o2, o3, o4, o5⟩, fo0, fo1, fo2, fo3, fo4, fo5⟩ := blk6 HOZ.out
          have hla := heap_lt hS.1.a
          have hlc := heap_lt hS.1.c
          have hlr := heap_lt hS.1.r
          have hlo := heap_lt HOZ.out
          have n1 : w.heap.size ≠ g := by omega
          have n2 : g ≠ w.heap.size := by omega
          have n3 : w.heap.size + 1 ≠ g := by omega
          have n4 : g ≠ w.heap.size + 1 := by omega
          have n5 : w.heap.size + 2 ≠ g := by omega
          have n6 : g ≠ w.heap.size + 2 := by omega
          have n7 : w.heap.size + 1 + 1 ≠ g := by omega
          have n8 : g ≠ w.heap.size + 1 + 1 := by omega
          refine held_call (i := 7) rfl (by kernel_rfl) (by kernel_rfl) ?_
          simp [Oper.wp, execOp, Act.eval, Act.put, go_sem, o0, o1, o2, o3, o4, o5, fo0, fo1, fo2, fo3, fo4, fo5, hlo]
          refine ⟨(((((hS.set hgl 0 _).set hgl 1 _).set hgl 2 _).set hgl 3 _).set hgl 4 _).set hgl 5 _, ?_⟩
          try simp only [List.setIfInBounds_toArray, List.set_cons_succ, List.set_cons_zero]
          refine wpAnyH_done (by kernel_rfl) ?_ 0
          have HSS := Lib.hid hS
          clear hS
          go_wp2
          refine bodyPost_ret (res2 rfl (by rfl) (set6 (by (repeat (rw [heap_setCell_other _ _ _ _ (by dsimp only; omega)])); exact HSS.out.1.r) _ _ _ _ _ _) Try.underlying35 (by kernel_rfl)) rfl ⟨?_, below6 (by (repeat (refine belowq ?_ (by omega) _ _)); exact HSS.out.1.b) (by omega) _ _ _ _ _ _⟩
          rw [HE.out]
          rfl
        · skip
          -- w2 the world; behind it w4, g
          simp [Oper.wp, execOp, Act.eval, Act.put, go_sem]
          obtain ⟨w4, hw4⟩ : ∃ w4, World.alloc (w2) (.cells #[.int .i64 0, .int .i64 0, .int .u64 0, .int .i64 0, .int .i64 0, .string ⟨#[]⟩] 35) = w4 := ⟨_, rfl⟩
          obtain ⟨g, hg⟩ : ∃ g, (w2).heap.size = g := ⟨_, rfl⟩
          have HG := Lib.hid (show w.heap.size + 2 < g by rw [← hg]; exact heap_lt hS.1.r)
          have HOZ : Hid (w4.heap[g]? = some (.cells #[.int .i64 0, .int .i64 0, .int .u64 0, .int .i64 0, .int .i64 0, .string ⟨#[]⟩] 35)) := Lib.hid (by rw [← hw4, ← hg]; exact World.alloc_heap_new _ _)
          have hS2 : SB 35 w ⟨an, ax, ab⟩ ⟨cn, cx, cb⟩ w4 := by rw [← hw4]; exact hS.below ((Below.refl _ _).alloc (Nat.le_refl _) _)
          skip
          rw [hw4]
          refine ⟨hS2, ?_⟩
          clear hS hw4
          have hS := hS2
          clear hS2
          try simp only [List.setIfInBounds_toArray, List.set_cons_succ, List.set_cons_zero]
          rw [hg]
          clear hg
          refine held_call (i := 5) rfl (by kernel_rfl) (by kernel_rfl) ?_
          simp [Oper.wp, execOp, Act.eval, Act.put, go_sem]
          refine (HU.out _).mono ?_
          rintro e w3 ⟨rfl, hb3⟩
          have hS2 : SB 35 w ⟨an, ax, ab⟩ ⟨cn, cx, cb⟩ w3 := hS.below hb3
          refine ⟨hS2, ?_⟩
          clear hS
          have hS := hS2
          clear hS2
          try simp only [List.setIfInBounds_toArray, List.set_cons_succ, List.set_cons_zero]
          replace HOZ := Lib.hid ((hb3.block _ (heap_lt HOZ.out)).trans HOZ.out)
          clear hb3
          have hgl := HG.out
          obtain ⟨⟨a0, a1, a2, a3, a4, a5⟩, _⟩ := blk6 hS.1.a; obtain ⟨⟨c0, c1, c2, c3, c4, c5⟩, _⟩ := blk6 hS.1.c; obtain ⟨⟨r0, r1, r2, r3, r4, r5⟩, fr0, fr1, fr2, fr3, fr4, fr5⟩ := blk6 hS.1.r; obtain ⟨⟨o0, o1, o2, o3, o4, o5⟩, fo0, fo1, fo2, fo3, fo4, fo5⟩ := blk6 HOZ.out
          have hla := heap_lt hS.1.a
          have hlc := heap_lt hS.1.c
          have hlr := heap_lt hS.1.r
          have hlo := heap_lt HOZ.out
          have n1 : w.heap.size ≠ g := by omega
          have n2 : g ≠ w.heap.size := by omega
          have n3 : w.heap.size + 1 ≠ g := by omega
          have n4 : g ≠ w.heap.size + 1 := by omega
          have n5 : w.heap.size + 2 ≠ g := by omega
          have n6 : g ≠ w.heap.size + 2 := by omega
          have n7 : w.heap.size + 1 + 1 ≠ g := by omega
          have n8 : g ≠ w.heap.size + 1 + 1 := by omega
          refine held_call (i := 7) rfl (by kernel_rfl) (by kernel_rfl) ?_
          simp [Oper.wp, execOp, Act.eval, Act.put, go_sem, o0, o1, o2, o3, o4, o5, fo0, fo1, fo2, fo3, fo4, fo5, hlo]
          refine ⟨(((((hS.set hgl 0 _).set hgl 1 _).set hgl 2 _).set hgl 3 _).set hgl 4 _).set hgl 5 _, ?_⟩
          try simp only [List.setIfInBounds_toArray, List.set_cons_succ, List.set_cons_zero]
          refine wpAnyH_done (by kernel_rfl) ?_ 0
          have HSS := Lib.hid hS
          clear hS
          go_wp2
          refine bodyPost_ret (res2 rfl (by rfl) (set6 (by (repeat (rw [heap_setCell_other _ _ _ _ (by dsimp only; omega)])); exact HSS.out.1.r) _ _ _ _ _ _) Try.underlying35 (by kernel_rfl)) rfl ⟨?_, below6 (by (repeat (refine belowq ?_ (by omega) _ _)); exact HSS.out.1.b) (by omega) _ _ _ _ _ _⟩
          rw [HE.out]
          rfl
      · skip
        -- W2 the world; behind it w4, g
        simp [Oper.wp, execOp, Act.eval, Act.put, go_sem]
        obtain ⟨w4, hw4⟩ : ∃ w4, World.alloc (W2) (.cells #[.int .i64 0, .int .i64 0, .int .u64 0, .int .i64 0, .int .i64 0, .string ⟨#[]⟩] 35) = w4 := ⟨_, rfl⟩
        obtain ⟨g, hg⟩ : ∃ g, (W2).heap.size = g := ⟨_, rfl⟩
        have HG := Lib.hid (show w.heap.size + 2 < g by rw [← hg]; exact heap_lt hS.1.r)
        have HOZ : Hid (w4.heap[g]? = some (.cells #[.int .i64 0, .int .i64 0, .int .u64 0, .int .i64 0, .int .i64 0, .string ⟨#[]⟩] 35)) := Lib.hid (by rw [← hw4, ← hg]; exact World.alloc_heap_new _ _)
        have hS2 : SB 35 w ⟨an, ax, ab⟩ ⟨cn, cx, cb⟩ w4 := by rw [← hw4]; exact hS.below ((Below.refl _ _).alloc (Nat.le_refl _) _)
        skip
        rw [hw4]
        refine ⟨hS2, ?_⟩
        clear hS hw4
        have hS := hS2
        clear hS2
        try simp only [List.setIfInBounds_toArray, List.set_cons_succ, List.set_cons_zero]
        rw [hg]
        clear hg
        refine held_call (i := 0) rfl (by kernel_rfl) (by kernel_rfl) ?_
        simp [Oper.wp, execOp, Act.eval, Act.put, go_sem]
        refine (HJ.out _).mono ?_
        rintro e w2 ⟨rfl, hb2⟩
        have hS2 : SB 35 w ⟨an, ax, ab⟩ ⟨cn, cx, cb⟩ w2 := hS.below hb2
        refine ⟨hS2, ?_⟩
        clear hS
        have hS := hS2
        clear hS2
        try simp only [List.setIfInBounds_toArray, List.set_cons_succ, List.set_cons_zero]
        replace HOZ := Lib.hid ((hb2.block _ (heap_lt HOZ.out)).trans HOZ.out)
        clear hb2
        refine held_take (i := 2) (t := 15) (v := (.func (.func 43) #[] #[])) (fuel := 2) rfl rfl (by kernel_rfl) (by kernel_rfl) (by kernel_rfl) (fun _ _ _ h => h) (.inl ⟨rfl, fun W hW => by obtain ⟨s00, sa, sb⟩ := hW; simp [execOp, Act.eval, go_sem, s00, sa, sb, hix]⟩) hS ?_
        simp only [List.setIfInBounds_toArray, List.set_cons_succ, List.set_cons_zero]
        refine held_call (i := 5) rfl (by kernel_rfl) (by kernel_rfl) ?_
        simp [Oper.wp, execOp, Act.eval, Act.put, go_sem]
        refine (HU.out _).mono ?_
        rintro e w3 ⟨rfl, hb3⟩
        have hS2 : SB 35 w ⟨an, ax, ab⟩ ⟨cn, cx, cb⟩ w3 := hS.below hb3
        refine ⟨hS2, ?_⟩
        clear hS
        have hS := hS2
        clear hS2
        try simp only [List.setIfInBounds_toArray, List.set_cons_succ, List.set_cons_zero]
        replace HOZ := Lib.hid ((hb3.block _ (heap_lt HOZ.out)).trans HOZ.out)
        clear hb3
        have hgl := HG.out
        obtain ⟨⟨a0, a1, a2, a3, a4, a5⟩, _⟩ := blk6 hS.1.a; obtain ⟨⟨c0, c1, c2, c3, c4, c5⟩, _⟩ := blk6 hS.1.c; obtain ⟨⟨r0, r1, r2, r3, r4, r5⟩, fr0, fr1, fr2, fr3, fr4, fr5⟩ := blk6 hS.1.r; obtain ⟨⟨o0, o1, o2, o3, o4, o5⟩, fo0, fo1, fo2, fo3, fo4, fo5⟩ := blk6 HOZ.out
        have hla := heap_lt hS.1.a
        have hlc := heap_lt hS.1.c
        have hlr := heap_lt hS.1.r
        have hlo := heap_lt HOZ.out
        have n1 : w.heap.size ≠ g := by omega
        have n2 : g ≠ w.heap.size := by omega
        have n3 : w.heap.size + 1 ≠ g := by omega
        have n4 : g ≠ w.heap.size + 1 := by omega
        have n5 : w.heap.size + 2 ≠ g := by omega
        have n6 : g ≠ w.heap.size + 2 := by omega
        have n7 : w.heap.size + 1 + 1 ≠ g := by omega
        have n8 : g ≠ w.heap.size + 1 + 1 := by omega
        refine held_call (i := 7) rfl (by kernel_rfl) (by kernel_rfl) ?_
        simp [Oper.wp, execOp, Act.eval, Act.put, go_sem, o0, o1, o2, o3, o4, o5, fo0, fo1, fo2, fo3, fo4, fo5, hlo]
        refine ⟨(((((hS.set hgl 0 _).set hgl 1 _).set hgl 2 _).set hgl 3 _).set hgl 4 _).set hgl 5 _, ?_⟩
        try simp only [List.setIfInBounds_toArray, List.set_cons_succ, List.set_cons_zero]
        refine wpAnyH_done (by kernel_rfl) ?_ 0
        have HSS := Lib.hid hS
        clear hS
        go_wp2
        refine bodyPost_ret (res2 rfl (by rfl) (set6 (by (repeat (rw [heap_setCell_other _ _ _ _ (by dsimp only; omega)])); exact HSS.out.1.r) _ _ _ _ _ _) Try.underlying35 (by kernel_rfl)) rfl ⟨?_, below6 (by (repeat (refine belowq ?_ (by omega) _ _)); exact HSS.out.1.b) (by omega) _ _ _ _ _ _⟩
        rw [HE.out]
        rfl
    · obtain ⟨rn, rx, rb, HU, HE⟩ : ∃ rn rx rb, Hid (∀ W, Calls Try.prog 44 #[Ac.V ⟨an, ax, ab⟩, Ac.V ⟨cn, cx, cb⟩] W fun e w' => e = .returned (Ac.V ⟨rn, rx, rb⟩) ∧ Below W.heap.size W w') ∧ Hid (r = (⟨wrap64 (an + cn), rx, rb⟩, 0)) :=
        ⟨_, _, _, Lib.hid HCL.out, Lib.hid (by rw [← HR.out]; exact both_better 4 _ _ (by decide))⟩
      unfold Ac.V at HU
      clear HCU HCS HCL HCG HR HSZ
      -- least the function, 4 the kind
      have hix : ∀ W : World, (Instr.index 70 (.agg #[.nilFunc, .func (.func 42) #[] #[], .func (.func 42) #[] #[], .func (.func 43) #[] #[], .func (.func 44) #[] #[], .func (.func 45) #[] #[]]) (.int .i64 4)).run Try.prog W = .ok (.func (.func 44) #[] #[]) W := fun _ => by kernel_rfl
      go_enter Try.func13, Try.ntmps13
      go_wp2_with (go_at_call 26; go_loud (refine (HK.out _).mono ?_; rintro e w1 ⟨rfl, rfl⟩))
      obtain ⟨W2, hW2⟩ : ∃ W2, W1.drew = W2 := ⟨_, rfl⟩
      have hS : SB 35 w ⟨an, ax, ab⟩ ⟨cn, cx, cb⟩ W2 := by rw [← hW2]; exact (sb_of HN.out).below ((Below.refl _ _).drew)
      clear a0 a1 a2 a3 a4 a5 c0 c1 c2 c3 c4 c5 r0 r1 r2 r3 r4 r5 fa0 fa1 fa2 fa3 fa4 fa5 fr0 fr1 fr2 fr3 fr4 fr5 hlt hl0 hl1
      refine held_begin 8 (fun W => SB 35 w ⟨an, ax, ab⟩ ⟨cn, cx, cb⟩ W) rfl (by kernel_rfl) ?_
      rw [hW2]
      clear hW2
      refine held_take (i := 1) (t := 14) (v := (.int .i64 4)) (fuel := 7) rfl rfl (by kernel_rfl) (by kernel_rfl) (by kernel_rfl) (fun _ _ _ h => h) (.inl ⟨rfl, fun W hW => by obtain ⟨s00, s01, s02⟩ := hW; simp [execOp, Act.eval, go_sem, s00, s01, s02]⟩) hS ?_
      simp only [List.setIfInBounds_toArray, List.set_cons_succ, List.set_cons_zero]
      refine held_take (i := 3) (t := 16) (v := (.agg #[.int .i64 an, .int .i64 (hiZ ax), .int .u64 (loZ ax), .int .i64 ab.k, .int .i64 ab.n, .string ab.s])) (fuel := 6) rfl rfl (by kernel_rfl) (by kernel_rfl) (by kernel_rfl) (fun _ _ _ h => h) (.inl ⟨rfl, fun W hW => by obtain ⟨s00, sa, sb⟩ := hW; simp [execOp, Act.eval, go_sem, s00, sa, sb, sa.1, sa.2.1, sa.2.2.1, sa.2.2.2.1, sa.2.2.2.2.1, sa.2.2.2.2.2]⟩) hS ?_
      simp only [List.setIfInBounds_toArray, List.set_cons_succ, List.set_cons_zero]
      refine held_take (i := 4) (t := 17) (v := (.agg #[.int .i64 cn, .int .i64 (hiZ cx), .int .u64 (loZ cx), .int .i64 cb.k, .int .i64 cb.n, .string cb.s])) (fuel := 5) rfl rfl (by kernel_rfl) (by kernel_rfl) (by kernel_rfl) (fun _ _ _ h => h) (.inl ⟨rfl, fun W hW => by obtain ⟨s00, sa, sb⟩ := hW; simp [execOp, Act.eval, go_sem, s00, sa, sb, sb.1, sb.2.1, sb.2.2.1, sb.2.2.2.1, sb.2.2.2.2.1, sb.2.2.2.2.2]⟩) hS ?_
      simp only [List.setIfInBounds_toArray, List.set_cons_succ, List.set_cons_zero]
      refine held_two (i := 0) (j := 6) rfl rfl (by kernel_rfl) (by kernel_rfl) (by kernel_rfl) ?_ ?_
      · skip
        simp [Oper.wp, execOp, Act.eval, Act.put, go_sem]
        refine (HJ.out _).mono ?_
        rintro e w2 ⟨rfl, hb2⟩
        have hS2 : SB 35 w ⟨an, ax, ab⟩ ⟨cn, cx, cb⟩ w2 := hS.below hb2
        refine ⟨hS2, ?_⟩
        clear hS
        have hS := hS2
        clear hS2
        try simp only [List.setIfInBounds_toArray, List.set_cons_succ, List.set_cons_zero]
        clear hb2
        refine held_take (i := 2) (t := 15) (v := (.func (.func 44) #[] #[])) (fuel := 3) rfl rfl (by kernel_rfl) (by kernel_rfl) (by kernel_rfl) (fun _ _ _ h => h) (.inl ⟨rfl, fun W hW => by obtain ⟨s00, sa, sb⟩ := hW; simp [execOp, Act.eval, go_sem, s00, sa, sb, hix]⟩) hS ?_
        simp only [List.setIfInBounds_toArray, List.set_cons_succ, List.set_cons_zero]
        refine held_two (i := 5) (j := 6) rfl rfl (by kernel_rfl) (by kernel_rfl) (by kernel_rfl) ?_ ?_
        · skip
          simp [Oper.wp, execOp, Act.eval, Act.put, go_sem]
          refine (HU.out _).mono ?_
          rintro e w3 ⟨rfl, hb3⟩
          have hS2 : SB 35 w ⟨an, ax, ab⟩ ⟨cn, cx, cb⟩ w3 := hS.below hb3
          refine ⟨hS2, ?_⟩
          clear hS
          have hS := hS2
          clear hS2
          try simp only [List.setIfInBounds_toArray, List.set_cons_succ, List.set_cons_zero]
          clear hb3
          refine held_call (i := 6) rfl (by kernel_rfl) (by kernel_rfl) ?_
          -- w3 the world; behind it w4, g
          simp [Oper.wp, execOp, Act.eval, Act.put, go_sem]
          obtain ⟨w4, hw4⟩ : ∃ w4, World.alloc (w3) (.cells #[.int .i64 0, .int .i64 0, .int .u64 0, .int .i64 0, .int .i64 0, .string ⟨#[]⟩] 35) = w4 := ⟨_, rfl⟩
          obtain ⟨g, hg⟩ : ∃ g, (w3).heap.size = g := ⟨_, rfl⟩
          have HG := Lib.hid (show w.heap.size + 2 < g by rw [← hg]; exact heap_lt hS.1.r)
          have HOZ : Hid (w4.heap[g]? = some (.cells #[.int .i64 0, .int .i64 0, .int .u64 0, .int .i64 0, .int .i64 0, .string ⟨#[]⟩] 35)) := Lib.hid (by rw [← hw4, ← hg]; exact World.alloc_heap_new _ _)
          have hS2 : SB 35 w ⟨an, ax, ab⟩ ⟨cn, cx, cb⟩ w4 := by rw [← hw4]; exact hS.below ((Below.refl _ _).alloc (Nat.le_refl _) _)
          skip
          rw [hw4]
          refine ⟨hS2, ?_⟩
          clear hS hw4
          have hS := hS2
          clear hS2
          try simp only [List.setIfInBounds_toArray, List.set_cons_succ, List.set_cons_zero]
          rw [hg]
          clear hg
          have hgl := HG.out
          obtain ⟨⟨a0, a1, a2, a3, a4, a5⟩, _⟩ := blk6 hS.1.a; obtain ⟨⟨c0, c1, c2, c3, c4, c5⟩, _⟩ := blk6 hS.1.c; obtain ⟨⟨r0, r1, r2, r3, r4, r5⟩, fr0, fr1, fr2, fr3, fr4, fr5⟩ := blk6 hS.1.r; obtain ⟨⟨o0, o1, o2, o3, o4, o5⟩, fo0, fo1, fo2, fo3, fo4, fo5⟩ := blk6 HOZ.out
          have hla := heap_lt hS.1.a
          have hlc := heap_lt hS.1.c
          have hlr := heap_lt hS.1.r
          have hlo := heap_lt HOZ.out
          have n1 : w.heap.size ≠ g := by omega
          have n2 : g ≠ w.heap.size := by omega
          have n3 : w.heap.size + 1 ≠ g := by omega
          have n4 : g ≠ w.heap.size + 1 := by omega
          have n5 : w.heap.size + 2 ≠ g := by omega
          have n6 : g ≠ w.heap.size + 2 := by omega
          have n7 : w.heap.size + 1 + 1 ≠ g := by omega
          have n8 : g ≠ w.heap.size + 1 + 1 := by omega
          refine held_call (i := 7) rfl (by kernel_rfl) (by kernel_rfl) ?_
          simp [Oper.wp, execOp, Act.eval, Act.put, go_sem, o0, o1, o2, o3, o4, o5, fo0, fo1, fo2, fo3, fo4, fo5, hlo]
          refine ⟨(((((hS.set hgl 0 _).set hgl 1 _).set hgl 2 _).set hgl 3 _).set hgl 4 _).set hgl 5 _, ?_⟩
          try simp only [List.setIfInBounds_toArray, List.set_cons_succ, List.set_cons_zero]
          refine wpAnyH_done (by kernel_rfl) ?_ 0
          have HSS := Lib.hid hS
          clear hS
          go_wp2
          refine bodyPost_ret (res2 rfl (by rfl) (set6 (by (repeat (rw [heap_setCell_other _ _ _ _ (by dsimp only; omega)])); exact HSS.out.1.r) _ _ _ _ _ _) Try.underlying35 (by kernel_rfl)) rfl ⟨?_, below6 (by (repeat (refine belowq ?_ (by omega) _ _)); exact HSS.out.1.b) (by omega) _ _ _ _ _ _⟩
          rw [HE.out]
          rfl
        · skip
          -- w2 the world; behind it w4, g
          simp [Oper.wp, execOp, Act.eval, Act.put, go_sem]
          obtain ⟨w4, hw4⟩ : ∃ w4, World.alloc (w2) (.cells #[.int .i64 0, .int .i64 0, .int .u64 0, .int .i64 0, .int .i64 0, .string ⟨#[]⟩] 35) = w4 := ⟨_, rfl⟩
          obtain ⟨g, hg⟩ : ∃ g, (w2).heap.size = g := ⟨_, rfl⟩
          have HG := Lib.hid (show w.heap.size + 2 < g by rw [← hg]; exact heap_lt hS.1.r)
          have HOZ : Hid (w4.heap[g]? = some (.cells #[.int .i64 0, .int .i64 0, .int .u64 0, .int .i64 0, .int .i64 0, .string ⟨#[]⟩] 35)) := Lib.hid (by rw [← hw4, ← hg]; exact World.alloc_heap_new _ _)
          have hS2 : SB 35 w ⟨an, ax, ab⟩ ⟨cn, cx, cb⟩ w4 := by rw [← hw4]; exact hS.below ((Below.refl _ _).alloc (Nat.le_refl _) _)
          skip
          rw [hw4]
          refine ⟨hS2, ?_⟩
          clear hS hw4
          have hS := hS2
          clear hS2
          try simp only [List.setIfInBounds_toArray, List.set_cons_succ, List.set_cons_zero]
          rw [hg]
          clear hg
          refine held_call (i := 5) rfl (by kernel_rfl) (by kernel_rfl) ?_
          simp [Oper.wp, execOp, Act.eval, Act.put, go_sem]
          refine (HU.out _).mono ?_
          rintro e w3 ⟨rfl, hb3⟩
          have hS2 : SB 35 w ⟨an, ax, ab⟩ ⟨cn, cx, cb⟩ w3 := hS.below hb3
          refine ⟨hS2, ?_⟩
          clear hS
          have hS := hS2
          clear hS2
          try simp only [List.setIfInBounds_toArray, List.set_cons_succ, List.set_cons_zero]
          replace HOZ := Lib.hid ((hb3.block _ (heap_lt HOZ.out)).trans HOZ.out)
          clear hb3
          have hgl := HG.out
          obtain ⟨⟨a0, a1, a2, a3, a4, a5⟩, _⟩ := blk6 hS.1.a; obtain ⟨⟨c0, c1, c2, c3, c4, c5⟩, _⟩ := blk6 hS.1.c; obtain ⟨⟨r0, r1, r2, r3, r4, r5⟩, fr0, fr1, fr2, fr3, fr4, fr5⟩ := blk6 hS.1.r; obtain ⟨⟨o0, o1, o2, o3, o4, o5⟩, fo0, fo1, fo2, fo3, fo4, fo5⟩ := blk6 HOZ.out
          have hla := heap_lt hS.1.a
          have hlc := heap_lt hS.1.c
          have hlr := heap_lt hS.1.r
          have hlo := heap_lt HOZ.out
          have n1 : w.heap.size ≠ g := by omega
          have n2 : g ≠ w.heap.size := by omega
          have n3 : w.heap.size + 1 ≠ g := by omega
          have n4 : g ≠ w.heap.size + 1 := by omega
          have n5 : w.heap.size + 2 ≠ g := by omega
          have n6 : g ≠ w.heap.size + 2 := by omega
          have n7 : w.heap.size + 1 + 1 ≠ g := by omega
          have n8 : g ≠ w.heap.size + 1 + 1 := by omega
          refine held_call (i := 7) rfl (by kernel_rfl) (by kernel_rfl) ?_
          simp [Oper.wp, execOp, Act.eval, Act.put, go_sem, o0, o1, o2, o3, o4, o5, fo0, fo1, fo2, fo3, fo4, fo5, hlo]
          refine ⟨(((((hS.set hgl 0 _).set hgl 1 _).set hgl 2 _).set hgl 3 _).set hgl 4 _).set hgl 5 _, ?_⟩
          try simp only [List.setIfInBounds_toArray, List.set_cons_succ, List.set_cons_zero]
          refine wpAnyH_done (by kernel_rfl) ?_ 0
          have HSS := Lib.hid hS
          clear hS
          go_wp2
          refine bodyPost_ret (res2 rfl (by rfl) (set6 (by (repeat (rw [heap_setCell_other _ _ _ _ (by dsimp only; omega)])); exact HSS.out.1.r) _ _ _ _ _ _) Try.underlying35 (by kernel_rfl)) rfl ⟨?_, below6 (by (repeat (refine belowq ?_ (by omega) _ _)); exact HSS.out.1.b) (by omega) _ _ _ _ _ _⟩
          rw [HE.out]
          rfl
      · skip
        -- W2 the world; behind it w4, g
        simp [Oper.wp, execOp, Act.eval, Act.put, go_sem]
        obtain ⟨w4, hw4⟩ : ∃ w4, World.alloc (W2) (.cells #[.int .i64 0, .int .i64 0, .int .u64 0, .int .i64 0, .int .i64 0, .string ⟨#[]⟩] 35) = w4 := ⟨_, rfl⟩
        obtain ⟨g, hg⟩ : ∃ g, (W2).heap.size = g := ⟨_, rfl⟩
        have HG := Lib.hid (show w.heap.size + 2 < g by rw [← hg]; exact heap_lt hS.1.r)
        have HOZ : Hid (w4.heap[g]? = some (.cells #[.int .i64 0, .int .i64 0, .int .u64 0, .int .i64 0, .int .i64 0, .string ⟨#[]⟩] 35)) := Lib.hid (by rw [← hw4, ← hg]; exact World.alloc_heap_new _ _)
        have hS2 : SB 35 w ⟨an, ax, ab⟩ ⟨cn, cx, cb⟩ w4 := by rw [← hw4]; exact hS.below ((Below.refl _ _).alloc (Nat.le_refl _) _)
        skip
        rw [hw4]
        refine ⟨hS2, ?_⟩
        clear hS hw4
        have hS := hS2
        clear hS2
        try simp only [List.setIfInBounds_toArray, List.set_cons_succ, List.set_cons_zero]
        rw [hg]
        clear hg
        refine held_call (i := 0) rfl (by kernel_rfl) (by kernel_rfl) ?_
        simp [Oper.wp, execOp, Act.eval, Act.put, go_sem]
        refine (HJ.out _).mono ?_
        rintro e w2 ⟨rfl, hb2⟩
        have hS2 : SB 35 w ⟨an, ax, ab⟩ ⟨cn, cx, cb⟩ w2 := hS.below hb2
        refine ⟨hS2, ?_⟩
        clear hS
        have hS := hS2
        clear hS2
        try simp only [List.setIfInBounds_toArray, List.set_cons_succ, List.set_cons_zero]
        replace HOZ := Lib.hid ((hb2.block _ (heap_lt HOZ.out)).trans HOZ.out)
        clear hb2
        refine held_take (i := 2) (t := 15) (v := (.func (.func 44) #[] #[])) (fuel := 2) rfl rfl (by kernel_rfl) (by kernel_rfl) (by kernel_rfl) (fun _ _ _ h => h) (.inl ⟨rfl, fun W hW => by obtain ⟨s00, sa, sb⟩ := hW; simp [execOp, Act.eval, go_sem, s00, sa, sb, hix]⟩) hS ?_
        simp only [List.setIfInBounds_toArray, List.set_cons_succ, List.set_cons_zero]
        refine held_call (i := 5) rfl (by kernel_rfl) (by kernel_rfl) ?_
        simp [Oper.wp, execOp, Act.eval, Act.put, go_sem]
        refine (HU.out _).mono ?_
        rintro e w3 ⟨rfl, hb3⟩
        have hS2 : SB 35 w ⟨an, ax, ab⟩ ⟨cn, cx, cb⟩ w3 := hS.below hb3
        refine ⟨hS2, ?_⟩
        clear hS
        have hS := hS2
        clear hS2
        try simp only [List.setIfInBounds_toArray, List.set_cons_succ, List.set_cons_zero]
        replace HOZ := Lib.hid ((hb3.block _ (heap_lt HOZ.out)).trans HOZ.out)
        clear hb3
        have hgl := HG.out
        obtain ⟨⟨a0, a1, a2, a3, a4, a5⟩, _⟩ := blk6 hS.1.a; obtain ⟨⟨c0, c1, c2, c3, c4, c5⟩, _⟩ := blk6 hS.1.c; obtain ⟨⟨r0, r1, r2, r3, r4, r5⟩, fr0, fr1, fr2, fr3, fr4, fr5⟩ := blk6 hS.1.r; obtain ⟨⟨o0, o1, o2, o3, o4, o5⟩, fo0, fo1, fo2, fo3, fo4, fo5⟩ := blk6 HOZ.out
        have hla := heap_lt hS.1.a
        have hlc := heap_lt hS.1.c
        have hlr := heap_lt hS.1.r
        have hlo := heap_lt HOZ.out
        have n1 : w.heap.size ≠ g := by omega
        have n2 : g ≠ w.heap.size := by omega
        have n3 : w.heap.size + 1 ≠ g := by omega
        have n4 : g ≠ w.heap.size + 1 := by omega
        have n5 : w.heap.size + 2 ≠ g := by omega
        have n6 : g ≠ w.heap.size + 2 := by omega
        have n7 : w.heap.size + 1 + 1 ≠ g := by omega
        have n8 : g ≠ w.heap.size + 1 + 1 := by omega
        refine held_call (i := 7) rfl (by kernel_rfl) (by kernel_rfl) ?_
        simp [Oper.wp, execOp, Act.eval, Act.put, go_sem, o0, o1, o2, o3, o4, o5, fo0, fo1, fo2, fo3, fo4, fo5, hlo]
        refine ⟨(((((hS.set hgl 0 _).set hgl 1 _).set hgl 2 _).set hgl 3 _).set hgl 4 _).set hgl 5 _, ?_⟩
        try simp only [List.setIfInBounds_toArray, List.set_cons_succ, List.set_cons_zero]
        refine wpAnyH_done (by kernel_rfl) ?_ 0
        have HSS := Lib.hid hS
        clear hS
        go_wp2
        refine bodyPost_ret (res2 rfl (by rfl) (set6 (by (repeat (rw [heap_setCell_other _ _ _ _ (by dsimp only; omega)])); exact HSS.out.1.r) _ _ _ _ _ _) Try.underlying35 (by kernel_rfl)) rfl ⟨?_, below6 (by (repeat (refine belowq ?_ (by omega) _ _)); exact HSS.out.1.b) (by omega) _ _ _ _ _ _⟩
        rw [HE.out]
        rfl
    · obtain ⟨rn, rx, rb, HU, HE⟩ : ∃ rn rx rb, Hid (∀ W, Calls Try.prog 45 #[Ac.V ⟨an, ax, ab⟩, Ac.V ⟨cn, cx, cb⟩] W fun e w' => e = .returned (Ac.V ⟨rn, rx, rb⟩) ∧ Below W.heap.size W w') ∧ Hid (r = (⟨wrap64 (an + cn), rx, rb⟩, 0)) :=
        ⟨_, _, _, Lib.hid HCG.out, Lib.hid (by rw [← HR.out]; exact both_better 5 _ _ (by decide))⟩
      unfold Ac.V at HU
      clear HCU HCS HCL HCG HR HSZ
      -- greatest the function, 5 the kind
      have hix : ∀ W : World, (Instr.index 70 (.agg #[.nilFunc, .func (.func 42) #[] #[], .func (.func 42) #[] #[], .func (.func 43) #[] #[], .func (.func 44) #[] #[], .func (.func 45) #[] #[]]) (.int .i64 5)).run Try.prog W = .ok (.func (.func 45) #[] #[]) W := fun _ => by kernel_rfl
      go_enter Try.func13, Try.ntmps13
      go_wp2_with (go_at_call 26; go_loud (refine (HK.out _).mono ?_; rintro e w1 ⟨rfl, rfl⟩))
      obtain ⟨W2, hW2⟩ : ∃ W2, W1.drew = W2 := ⟨_, rfl⟩
      have hS : SB 35 w ⟨an, ax, ab⟩ ⟨cn, cx, cb⟩ W2 := by rw [← hW2]; exact (sb_of HN.out).below ((Below.refl _ _).drew)
      clear a0 a1 a2 a3 a4 a5 c0 c1 c2 c3 c4 c5 r0 r1 r2 r3 r4 r5 fa0 fa1 fa2 fa3 fa4 fa5 fr0 fr1 fr2 fr3 fr4 fr5 hlt hl0 hl1
      refine held_begin 8 (fun W => SB 35 w ⟨an, ax, ab⟩ ⟨cn, cx, cb⟩ W) rfl (by kernel_rfl) ?_
      rw [hW2]
      clear hW2
      refine held_take (i := 1) (t := 14) (v := (.int .i64 5)) (fuel := 7) rfl rfl (by kernel_rfl) (by kernel_rfl) (by kernel_rfl) (fun _ _ _ h => h) (.inl ⟨rfl, fun W hW => by obtain ⟨s00, s01, s02⟩ := hW; simp [execOp, Act.eval, go_sem, s00, s01, s02]⟩) hS ?_
      simp only [List.setIfInBounds_toArray, List.set_cons_succ, List.set_cons_zero]
      refine held_take (i := 3) (t := 16) (v := (.agg #[.int .i64 an, .int .i64 (hiZ ax), .int .u64 (loZ ax), .int .i64 ab.k, .int .i64 ab.n, .string ab.s])) (fuel := 6) rfl rfl (by kernel_rfl) (by kernel_rfl) (by kernel_rfl) (fun _ _ _ h => h) (.inl ⟨rfl, fun W hW => by obtain ⟨s00, sa, sb⟩ := hW; simp [execOp, Act.eval, go_sem, s00, sa, sb, sa.1, sa.2.1, sa.2.2.1, sa.2.2.2.1, sa.2.2.2.2.1, sa.2.2.2.2.2]⟩) hS ?_
      simp only [List.setIfInBounds_toArray, List.set_cons_succ, List.set_cons_zero]
      refine held_take (i := 4) (t := 17) (v := (.agg #[.int .i64 cn, .int .i64 (hiZ cx), .int .u64 (loZ cx), .int .i64 cb.k, .int .i64 cb.n, .string cb.s])) (fuel := 5) rfl rfl (by kernel_rfl) (by kernel_rfl) (by kernel_rfl) (fun _ _ _ h => h) (.inl ⟨rfl, fun W hW => by obtain ⟨s00, sa, sb⟩ := hW; simp [execOp, Act.eval, go_sem, s00, sa, sb, sb.1, sb.2.1, sb.2.2.1, sb.2.2.2.1, sb.2.2.2.2.1, sb.2.2.2.2.2]⟩) hS ?_
      simp only [List.setIfInBounds_toArray, List.set_cons_succ, List.set_cons_zero]
      refine held_two (i := 0) (j := 6) rfl rfl (by kernel_rfl) (by kernel_rfl) (by kernel_rfl) ?_ ?_
      · skip
        simp [Oper.wp, execOp, Act.eval, Act.put, go_sem]
        refine (HJ.out _).mono ?_
        rintro e w2 ⟨rfl, hb2⟩
        have hS2 : SB 35 w ⟨an, ax, ab⟩ ⟨cn, cx, cb⟩ w2 := hS.below hb2
        refine ⟨hS2, ?_⟩
        clear hS
        have hS := hS2
        clear hS2
        try simp only [List.setIfInBounds_toArray, List.set_cons_succ, List.set_cons_zero]
        clear hb2
        refine held_take (i := 2) (t := 15) (v := (.func (.func 45) #[] #[])) (fuel := 3) rfl rfl (by kernel_rfl) (by kernel_rfl) (by kernel_rfl) (fun _ _ _ h => h) (.inl ⟨rfl, fun W hW => by obtain ⟨s00, sa, sb⟩ := hW; simp [execOp, Act.eval, go_sem, s00, sa, sb, hix]⟩) hS ?_
        simp only [List.setIfInBounds_toArray, List.set_cons_succ, List.set_cons_zero]
        refine held_two (i := 5) (j := 6) rfl rfl (by kernel_rfl) (by kernel_rfl) (by kernel_rfl) ?_ ?_
        · skip
          simp [Oper.wp, execOp, Act.eval, Act.put, go_sem]
          refine (HU.out _).mono ?_
          rintro e w3 ⟨rfl, hb3⟩
          have hS2 : SB 35 w ⟨an, ax, ab⟩ ⟨cn, cx, cb⟩ w3 := hS.below hb3
          refine ⟨hS2, ?_⟩
          clear hS
          have hS := hS2
          clear hS2
          try simp only [List.setIfInBounds_toArray, List.set_cons_succ, List.set_cons_zero]
          clear hb3
          refine held_call (i := 6) rfl (by kernel_rfl) (by kernel_rfl) ?_
          -- w3 the world; behind it w4, g
          simp [Oper.wp, execOp, Act.eval, Act.put, go_sem]
          obtain ⟨w4, hw4⟩ : ∃ w4, World.alloc (w3) (.cells #[.int .i64 0, .int .i64 0, .int .u64 0, .int .i64 0, .int .i64 0, .string ⟨#[]⟩] 35) = w4 := ⟨_, rfl⟩
          obtain ⟨g, hg⟩ : ∃ g, (w3).heap.size = g := ⟨_, rfl⟩
          have HG := Lib.hid (show w.heap.size + 2 < g by rw [← hg]; exact heap_lt hS.1.r)
          have HOZ : Hid (w4.heap[g]? = some (.cells #[.int .i64 0, .int .i64 0, .int .u64 0, .int .i64 0, .int .i64 0, .string ⟨#[]⟩] 35)) := Lib.hid (by rw [← hw4, ← hg]; exact World.alloc_heap_new _ _)
          have hS2 : SB 35 w ⟨an, ax, ab⟩ ⟨cn, cx, cb⟩ w4 := by rw [← hw4]; exact hS.below ((Below.refl _ _).alloc (Nat.le_refl _) _)
          skip
          rw [hw4]
          refine ⟨hS2, ?_⟩
          clear hS hw4
          have hS := hS2
          clear hS2
          try simp only [List.setIfInBounds_toArray, List.set_cons_succ, List.set_cons_zero]
          rw [hg]
          clear hg
          have hgl := HG.out
          obtain ⟨⟨a0, a1, a2, a3, a4, a5⟩, _⟩ := blk6 hS.1.a; obtain ⟨⟨c0, c1, c2, c3, c4, c5⟩, _⟩ := blk6 hS.1.c; obtain ⟨⟨r0, r1, r2, r3, r4, r5⟩, fr0, fr1, fr2, fr3, fr4, fr5⟩ := blk6 hS.1.r; obtain ⟨⟨o0, o1, o2, o3, o4, o5⟩, fo0, fo1, fo2, fo3, fo4, fo5⟩ := blk6 HOZ.out
          have hla := heap_lt hS.1.a
          have hlc := heap_lt hS.1.c
          have hlr := heap_lt hS.1.r
          have hlo := heap_lt HOZ.out
          have n1 : w.heap.size ≠ g := by omega
          have n2 : g ≠ w.heap.size := by omega
          have n3 : w.heap.size + 1 ≠ g := by omega
          have n4 : g ≠ w.heap.size + 1 := by omega
          have n5 : w.heap.size + 2 ≠ g := by omega
          have n6 : g ≠ w.heap.size + 2 := by omega
          have n7 : w.heap.size + 1 + 1 ≠ g := by omega
          have n8 : g ≠ w.heap.size + 1 + 1 := by omega
          refine held_call (i := 7) rfl (by kernel_rfl) (by kernel_rfl) ?_
          simp [Oper.wp, execOp, Act.eval, Act.put, go_sem, o0, o1, o2, o3, o4, o5, fo0, fo1, fo2, fo3, fo4, fo5, hlo]
          refine ⟨(((((hS.set hgl 0 _).set hgl 1 _).set hgl 2 _).set hgl 3 _).set hgl 4 _).set hgl 5 _, ?_⟩
          try simp only [List.setIfInBounds_toArray, List.set_cons_succ, List.set_cons_zero]
          refine wpAnyH_done (by kernel_rfl) ?_ 0
          have HSS := Lib.hid hS
          clear hS
          go_wp2
          refine bodyPost_ret (res2 rfl (by rfl) (set6 (by (repeat (rw [heap_setCell_other _ _ _ _ (by dsimp only; omega)])); exact HSS.out.1.r) _ _ _ _ _ _) Try.underlying35 (by kernel_rfl)) rfl ⟨?_, below6 (by (repeat (refine belowq ?_ (by omega) _ _)); exact HSS.out.1.b) (by omega) _ _ _ _ _ _⟩
          rw [HE.out]
          rfl
        · skip
          -- w2 the world; behind it w4, g
          simp [Oper.wp, execOp, Act.eval, Act.put, go_sem]
          obtain ⟨w4, hw4⟩ : ∃ w4, World.alloc (w2) (.cells #[.int .i64 0, .int .i64 0, .int .u64 0, .int .i64 0, .int .i64 0, .string ⟨#[]⟩] 35) = w4 := ⟨_, rfl⟩
          obtain ⟨g, hg⟩ : ∃ g, (w2).heap.size = g := ⟨_, rfl⟩
          have HG := Lib.hid (show w.heap.size + 2 < g by rw [← hg]; exact heap_lt hS.1.r)
          have HOZ : Hid (w4.heap[g]? = some (.cells #[.int .i64 0, .int .i64 0, .int .u64 0, .int .i64 0, .int .i64 0, .string ⟨#[]⟩] 35)) := Lib.hid (by rw [← hw4, ← hg]; exact World.alloc_heap_new _ _)
          have hS2 : SB 35 w ⟨an, ax, ab⟩ ⟨cn, cx, cb⟩ w4 := by rw [← hw4]; exact hS.below ((Below.refl _ _).alloc (Nat.le_refl _) _)
          skip
          rw [hw4]
          refine ⟨hS2, ?_⟩
          clear hS hw4
          have hS := hS2
          clear hS2
          try simp only [List.setIfInBounds_toArray, List.set_cons_succ, List.set_cons_zero]
          rw [hg]
          clear hg
          refine held_call (i := 5) rfl (by kernel_rfl) (by kernel_rfl) ?_
          simp [Oper.wp, execOp, Act.eval, Act.put, go_sem]
          refine (HU.out _).mono ?_
          rintro e w3 ⟨rfl, hb3⟩
          have hS2 : SB 35 w ⟨an, ax, ab⟩ ⟨cn, cx, cb⟩ w3 := hS.below hb3
          refine ⟨hS2, ?_⟩
          clear hS
          have hS := hS2
          clear hS2
          try simp only [List.setIfInBounds_toArray, List.set_cons_succ, List.set_cons_zero]
          replace HOZ := Lib.hid ((hb3.block _ (heap_lt HOZ.out)).trans HOZ.out)
          clear hb3
          have hgl := HG.out
          obtain ⟨⟨a0, a1, a2, a3, a4, a5⟩, _⟩ := blk6 hS.1.a; obtain ⟨⟨c0, c1, c2, c3, c4, c5⟩, _⟩ := blk6 hS.1.c; obtain ⟨⟨r0, r1, r2, r3, r4, r5⟩, fr0, fr1, fr2, fr3, fr4, fr5⟩ := blk6 hS.1.r; obtain ⟨⟨o0, o1, o2, o3, o4, o5⟩, fo0, fo1, fo2, fo3, fo4, fo5⟩ := blk6 HOZ.out
          have hla := heap_lt hS.1.a
          have hlc := heap_lt hS.1.c
          have hlr := heap_lt hS.1.r
          have hlo := heap_lt HOZ.out
          have n1 : w.heap.size ≠ g := by omega
          have n2 : g ≠ w.heap.size := by omega
          have n3 : w.heap.size + 1 ≠ g := by omega
          have n4 : g ≠ w.heap.size + 1 := by omega
          have n5 : w.heap.size + 2 ≠ g := by omega
          have n6 : g ≠ w.heap.size + 2 := by omega
          have n7 : w.heap.size + 1 + 1 ≠ g := by omega
          have n8 : g ≠ w.heap.size + 1 + 1 := by omega
          refine held_call (i := 7) rfl (by kernel_rfl) (by kernel_rfl) ?_
          simp [Oper.wp, execOp, Act.eval, Act.put, go_sem, o0, o1, o2, o3, o4, o5, fo0, fo1, fo2, fo3, fo4, fo5, hlo]
          refine ⟨(((((hS.set hgl 0 _).set hgl 1 _).set hgl 2 _).set hgl 3 _).set hgl 4 _).set hgl 5 _, ?_⟩
          try simp only [List.setIfInBounds_toArray, List.set_cons_succ, List.set_cons_zero]
          refine wpAnyH_done (by kernel_rfl) ?_ 0
          have HSS := Lib.hid hS
          clear hS
          go_wp2
          refine bodyPost_ret (res2 rfl (by rfl) (set6 (by (repeat (rw [heap_setCell_other _ _ _ _ (by dsimp only; omega)])); exact HSS.out.1.r) _ _ _ _ _ _) Try.underlying35 (by kernel_rfl)) rfl ⟨?_, below6 (by (repeat (refine belowq ?_ (by omega) _ _)); exact HSS.out.1.b) (by omega) _ _ _ _ _ _⟩
          rw [HE.out]
          rfl
      · skip
        -- W2 the world; behind it w4, g
        simp [Oper.wp, execOp, Act.eval, Act.put, go_sem]
        obtain ⟨w4, hw4⟩ : ∃ w4, World.alloc (W2) (.cells #[.int .i64 0, .int .i64 0, .int .u64 0, .int .i64 0, .int .i64 0, .string ⟨#[]⟩] 35) = w4 := ⟨_, rfl⟩
        obtain ⟨g, hg⟩ : ∃ g, (W2).heap.size = g := ⟨_, rfl⟩
        have HG := Lib.hid (show w.heap.size + 2 < g by rw [← hg]; exact heap_lt hS.1.r)
        have HOZ : Hid (w4.heap[g]? = some (.cells #[.int .i64 0, .int .i64 0, .int .u64 0, .int .i64 0, .int .i64 0, .string ⟨#[]⟩] 35)) := Lib.hid (by rw [← hw4, ← hg]; exact World.alloc_heap_new _ _)
        have hS2 : SB 35 w ⟨an, ax, ab⟩ ⟨cn, cx, cb⟩ w4 := by rw [← hw4]; exact hS.below ((Below.refl _ _).alloc (Nat.le_refl _) _)
        skip
        rw [hw4]
        refine ⟨hS2, ?_⟩
        clear hS hw4
        have hS := hS2
        clear hS2
        try simp only [List.setIfInBounds_toArray, List.set_cons_succ, List.set_cons_zero]
        rw [hg]
        clear hg
        refine held_call (i := 0) rfl (by kernel_rfl) (by kernel_rfl) ?_
        simp [Oper.wp, execOp, Act.eval, Act.put, go_sem]
        refine (HJ.out _).mono ?_
        rintro e w2 ⟨rfl, hb2⟩
        have hS2 : SB 35 w ⟨an, ax, ab⟩ ⟨cn, cx, cb⟩ w2 := hS.below hb2
        refine ⟨hS2, ?_⟩
        clear hS
        have hS := hS2
        clear hS2
        try simp only [List.setIfInBounds_toArray, List.set_cons_succ, List.set_cons_zero]
        replace HOZ := Lib.hid ((hb2.block _ (heap_lt HOZ.out)).trans HOZ.out)
        clear hb2
        refine held_take (i := 2) (t := 15) (v := (.func (.func 45) #[] #[])) (fuel := 2) rfl rfl (by kernel_rfl) (by kernel_rfl) (by kernel_rfl) (fun _ _ _ h => h) (.inl ⟨rfl, fun W hW => by obtain ⟨s00, sa, sb⟩ := hW; simp [execOp, Act.eval, go_sem, s00, sa, sb, hix]⟩) hS ?_
        simp only [List.setIfInBounds_toArray, List.set_cons_succ, List.set_cons_zero]
        refine held_call (i := 5) rfl (by kernel_rfl) (by kernel_rfl) ?_
        simp [Oper.wp, execOp, Act.eval, Act.put, go_sem]
        refine (HU.out _).mono ?_
        rintro e w3 ⟨rfl, hb3⟩
        have hS2 : SB 35 w ⟨an, ax, ab⟩ ⟨cn, cx, cb⟩ w3 := hS.below hb3
        refine ⟨hS2, ?_⟩
        clear hS
        have hS := hS2
        clear hS2
        try simp only [List.setIfInBounds_toArray, List.set_cons_succ, List.set_cons_zero]
        replace HOZ := Lib.hid ((hb3.block _ (heap_lt HOZ.out)).trans HOZ.out)
        clear hb3
        have hgl := HG.out
        obtain ⟨⟨a0, a1, a2, a3, a4, a5⟩, _⟩ := blk6 hS.1.a; obtain ⟨⟨c0, c1, c2, c3, c4, c5⟩, _⟩ := blk6 hS.1.c; obtain ⟨⟨r0, r1, r2, r3, r4, r5⟩, fr0, fr1, fr2, fr3, fr4, fr5⟩ := blk6 hS.1.r; obtain ⟨⟨o0, o1, o2, o3, o4, o5⟩, fo0, fo1, fo2, fo3, fo4, fo5⟩ := blk6 HOZ.out
        have hla := heap_lt hS.1.a
        have hlc := heap_lt hS.1.c
        have hlr := heap_lt hS.1.r
        have hlo := heap_lt HOZ.out
        have n1 : w.heap.size ≠ g := by omega
        have n2 : g ≠ w.heap.size := by omega
        have n3 : w.heap.size + 1 ≠ g := by omega
        have n4 : g ≠ w.heap.size + 1 := by omega
        have n5 : w.heap.size + 2 ≠ g := by omega
        have n6 : g ≠ w.heap.size + 2 := by omega
        have n7 : w.heap.size + 1 + 1 ≠ g := by omega
        have n8 : g ≠ w.heap.size + 1 + 1 := by omega
        refine held_call (i := 7) rfl (by kernel_rfl) (by kernel_rfl) ?_
        simp [Oper.wp, execOp, Act.eval, Act.put, go_sem, o0, o1, o2, o3, o4, o5, fo0, fo1, fo2, fo3, fo4, fo5, hlo]
        refine ⟨(((((hS.set hgl 0 _).set hgl 1 _).set hgl 2 _).set hgl 3 _).set hgl 4 _).set hgl 5 _, ?_⟩
        try simp only [List.setIfInBounds_toArray, List.set_cons_succ, List.set_cons_zero]
        refine wpAnyH_done (by kernel_rfl) ?_ 0
        have HSS := Lib.hid hS
        clear hS
        go_wp2
        refine bodyPost_ret (res2 rfl (by rfl) (set6 (by (repeat (rw [heap_setCell_other _ _ _ _ (by dsimp only; omega)])); exact HSS.out.1.r) _ _ _ _ _ _) Try.underlying35 (by kernel_rfl)) rfl ⟨?_, below6 (by (repeat (refine belowq ?_ (by omega) _ _)); exact HSS.out.1.b) (by omega) _ _ _ _ _ _⟩
        rw [HE.out]
        rfl
end Go.Proofs.Ytihgcfokenabgaa
