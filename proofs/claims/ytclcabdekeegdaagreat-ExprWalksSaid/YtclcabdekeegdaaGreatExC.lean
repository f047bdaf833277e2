/- Layer 13, walked: which are well formed. -/
import Derived.Test.YtclcabdekeegdaaGreatExWX
import Derived.Test.YtclcabdekeegdaaGreatExRA
namespace Go.Proofs.YtclcabdekeegdaaGreat
attribute [local go_sem] Oper.semAt_some
open Go Go.ChangeShapes Go.WideShapes Go.ChangeAt Go.RowKit
set_option linter.unusedVariables false
set_option linter.unusedSimpArgs false

theorem obj_cells {U : World} {q : Nat} {e : X} {A : Option Addr} {c : Nat} (h : U.heap[q]? = some (e.obj A c)) : U.cell? ⟨q, 0, none⟩ = some (.int .i64 e.op) ∧ U.cell? ⟨q, 1, none⟩ = some (.string e.nm) ∧ U.cell? ⟨q, 2, none⟩ = some (.int .i64 e.v.k) ∧
    U.cell? ⟨q, 3, none⟩ = some (.int .i64 e.v.n) ∧ U.cell? ⟨q, 4, none⟩ = some (.string e.v.s) ∧ U.cell? ⟨q, 5, none⟩ = some (.slice A e.ks.length c) := by
  refine ⟨?_, ?_, ?_, ?_, ?_, ?_⟩ <;> simp [World.cell?, h, X.obj]
/-- Well formed itself. -/
def headX (e : X) : Bool := decide ((e.ks.length : Int) = kidsN e.op) && headB e.op e.nm e.v
mutual
theorem form_all : ∀ e : X, formX e = (allX e).all headX
  | .mk o n v ks => by simp only [formX, allX, List.all_cons, headX, X.ks, X.op, X.nm, X.v, formL_all ks]; rfl
theorem formL_all : ∀ l : List X, formL l = (allL l).all headX
  | [] => rfl
  | k :: ks => by simp only [formL, allL, List.all_append, form_all k, formL_all ks]
end
mutual
theorem wf_all : ∀ e : X, e.wf → ∀ x ∈ allX e, x.wf
  | .mk o n v ks, h, x, hx => by
    simp only [allX, List.mem_cons] at hx
    rcases hx with rfl | hx
    · exact h
    · simp only [X.wf] at h
      exact wfL_all ks h.2.2.2 x hx
theorem wfL_all : ∀ l : List X, X.wfL l → ∀ x ∈ allL l, x.wf
  | [], _, x, hx => by simp [allL] at hx
  | k :: ks, h, x, hx => by
    simp only [X.wfL] at h
    simp only [allL, List.mem_append] at hx
    rcases hx with hx | hx
    · exact wf_all k h.1 x hx
    · exact wfL_all ks h.2 x hx
end
theorem X.wf.head {e : X} (h : e.wf) : in64 e.op ∧ e.nm.size ≤ 9223372036854775807 ∧ e.v.wf := by
  cases e; simp only [X.wf] at h; exact ⟨h.1, h.2.1, h.2.2.1⟩
theorem head_out {e : X} (h : e.op < 0 ∨ 20 < e.op) : headX e = false := by
  unfold headX kidsN
  rw [if_neg (by omega), if_neg (by omega), if_neg (by omega), if_neg (by omega), decide_eq_false (by omega)]
  rfl
theorem rules_at {j : Nat} (h : j ≤ 20) : ∃ r0 r1 r2 r3, rulesL[j * 4]? = some r0 ∧ rulesL[j * 4 + 1]? = some r1 ∧ rulesL[j * 4 + 2]? = some r2 ∧ rulesL[j * 4 + 3]? = some r3 ∧
    ((j = 0 ∧ r0 = .int .i64 0 ∧ r1 = .nilFunc ∧ r2 = .nilFunc ∧ r3 = .nilFunc) ∨ (1 ≤ j ∧ r0 = .int .i64 (kidsN j) ∧ r1 = fnV (formF j) ∧ r2 = fnV (kindF j) ∧ r3 = fnV (worthF j))) := by
  have : j = 0 ∨ j = 1 ∨ j = 2 ∨ j = 3 ∨ j = 4 ∨ j = 5 ∨ j = 6 ∨ j = 7 ∨ j = 8 ∨ j = 9 ∨ j = 10 ∨ j = 11 ∨ j = 12 ∨ j = 13 ∨ j = 14 ∨ j = 15 ∨ j = 16 ∨ j = 17 ∨ j = 18 ∨ j = 19 ∨ j = 20 := by omega
  rcases this with rfl | rfl | rfl | rfl | rfl | rfl | rfl | rfl | rfl | rfl | rfl | rfl | rfl | rfl | rfl | rfl | rfl | rfl | rfl | rfl | rfl
  · exact ⟨_, _, _, _, rfl, rfl, rfl, rfl, .inl ⟨rfl, rfl, rfl, rfl, rfl⟩⟩
  all_goals exact ⟨_, _, _, _, rfl, rfl, rfl, rfl, .inr ⟨by decide, rfl, rfl, rfl, rfl⟩⟩
/-- What a rule says of an expression of its Op. -/
theorem allows_x {j : Nat} (h : j ≤ 20) (e : X) (he : e.op = (j : Int)) (hw : e.wf) (A : Option Addr) (c : Nat) : ∃ r0 r1 r2 r3, rulesL[j * 4]? = some r0 ∧ rulesL[j * 4 + 1]? = some r1 ∧ rulesL[j * 4 + 2]? = some r2 ∧ rulesL[j * 4 + 3]? = some r3 ∧
    ∀ w, Calls Tryz.prog 35 #[.agg #[r0, r1, r2, r3], e.val A c] w fun en w' => en = .returned (.bool (headX e)) ∧ Below w.heap.size w w' := by
  obtain ⟨r0, r1, r2, r3, h0, h1, h2, h3, hr⟩ := rules_at h
  refine ⟨r0, r1, r2, r3, h0, h1, h2, h3, fun w => ?_⟩
  rw [eV_of]
  rcases hr with ⟨rfl, rfl, rfl, rfl, rfl⟩ | ⟨h1, rfl, rfl, rfl, rfl⟩
  · have : headX e = false := by
      unfold headX
      rw [he, decide_eq_false (by unfold kidsN; first | (simp; done) | (simp; omega))]
      rfl
    rw [this]
    exact allows_zero _ _ _ _ _ _ w
  · have : headX e = (decide ((e.ks.length : Int) = kidsN j) && headB j e.nm e.v) := by unfold headX; rw [he]
    rw [this]
    exact allows_any _ _ _ _ _ _ _ _ _ _ _ w (formF_enters _) (form_any _ _ _ _ hw.head.2.1 hw.head.2.2 _ _ _)
set_option maxRecDepth 100000 in
set_option maxHeartbeats 16000000 in
theorem check_any_x (e : X) (hw : e.wf) (A : Option Addr) (c : Nat) (W : World) (hk : KidsAt W W.heap.size e A c) :
    Calls Tryz.prog 12 #[e.val A c] W fun en w' => en = .returned (.int .i64 (checkX e)) ∧ Below W.heap.size W w' := by
  refine (callsIn_wide (n := 8)).1 ?_
  obtain ⟨W0, hW0⟩ : ∃ W0, ((W.alloc (e.obj A c)).alloc (.cells #[.int .i64 0] 29)) = W0 := ⟨_, rfl⟩
  have hsz : W0.heap.size = W.heap.size + 2 := by rw [← hW0]; simp
  have hbw : Below W.heap.size W W0 := by rw [← hW0]; exact ((Below.refl _ W).alloc (Nat.le_refl _) _).alloc (by simp) _
  have hq0 : W0.heap[W.heap.size]? = some (e.obj A c) := by
    rw [← hW0]
    exact (Below.heap_alloc _ _ _ (by simp)).trans (World.alloc_heap_new W _)
  have hn0 : Cell1 (W.heap.size + 1) (.int .i64 0) W0 := by
    rw [← hW0]
    unfold X.obj
    exact ⟨by simp [go_sem], by simp [go_sem]⟩
  have HK0 := Lib.hid hk
  have HKW : Hid (∀ U, Below W0.heap.size W0 U → KidsAt U U.heap.size e A c) := Lib.hid (fun U h => KidsAt.more (by have := h.size; omega) (hk.below (hbw.trans (h.mono (by omega)))))
  have HND := Lib.hid (fun (U : World) (h : Below W0.heap.size W0 U) => nodes_any e A c U (HKW.out U h))
  have HDP := Lib.hid (fun (U : World) (h : Below W0.heap.size W0 U) => deeper_any e 16 A c U (by decide) (by decide) (HKW.out U h))
  have HBW := Lib.hid hbw
  have HQ := Lib.hid (fun (U : World) (h : Below W0.heap.size W0 U) => (h.block W.heap.size (by omega)).trans hq0)
  have HN := Lib.hid (fun (U : World) (h : Below W0.heap.size W0 U) => hn0.blk (h.block (W.heap.size + 1) (by omega)))
  obtain ⟨E, hE⟩ : ∃ E, checkX e = E := ⟨_, rfl⟩
  have HE := Lib.hid hE
  rw [hE]
  obtain ⟨N, hN⟩ : ∃ N, min (cnt e) 257 = N := ⟨_, rfl⟩
  have HNN := Lib.hid hN
  rw [hN] at HND
  have HWF := Lib.hid hw
  obtain ⟨c0, c1, c2, c3, c4, c5⟩ := obj_cells hq0
  unfold X.val at HND HDP ⊢
  clear hk hbw hq0 hn0 hE hN hw
  unfold X.obj at hW0
  refine callsIn_of_wp_marks Tryz.func12 rfl trivial ?_ rfl
  simp only [Tryz.ntmps12, List.size_toArray, List.length_cons, List.length_nil, Nat.reduceAdd, Nat.reduceSub, Array.replicate_succ, Array.replicate_zero, List.push_toArray, List.append_toArray, List.nil_append, List.cons_append]
  refine wpIn_wide.2 ?_
  by_cases h1 : 256 < N
  · have q1 : decide ((256 : Int) < (N : Int)) = true := decide_eq_true (by omega)
    have HX := Lib.hid (show E = 131 by rw [← HE.out]; unfold checkX; rw [if_pos (by have := HNN.out; omega)])
    clear h1
    go_wp2_with (go_at_call 14; refine (HND.out _ (Below.refl _ _)).mono ?_; rintro en w1 ⟨rfl, hb1⟩; have HB1 := Lib.hid hb1; obtain ⟨f0, f1⟩ := HN.out _ hb1; clear hb1)
    have z := (Cell1.set ⟨f0, f1⟩ (.int .i64 131)).c
    exact ⟨.int .i64 131, by simp [results, Tryz.results12, go_sem, z], by rw [HX.out], (HBW.out.trans (HB1.out.mono (by omega))).setCell (Nat.le_succ _) _⟩
  · have q1 : decide ((256 : Int) < (N : Int)) = false := decide_eq_false (by omega)
    by_cases h2 : 16 < dep e
    · have q2 : decide ((16 : Int) < (dep e : Int)) = true := decide_eq_true (by omega)
      rw [q2] at HDP
      have HX := Lib.hid (show E = 131 by rw [← HE.out]; unfold checkX; rw [if_pos (by omega)])
      clear h1 h2 q2
      go_wp2_with (first
        | (go_at_call 14; refine (HND.out _ (Below.refl _ _)).mono ?_; rintro en w1 ⟨rfl, hb1⟩; have HB1 := Lib.hid hb1; obtain ⟨f0, f1⟩ := HN.out _ hb1; obtain ⟨g0, g1, g2, g3, g4, g5⟩ := obj_cells (HQ.out _ hb1); clear hb1 c0 c1 c2 c3 c4 c5)
        | (go_at_call 32; refine (HDP.out _ HB1.out).mono ?_; rintro en w2 ⟨rfl, hb2⟩; have HB2 := Lib.hid (hop0 HB1.out hb2); clear hb2 f0 f1; obtain ⟨f0, f1⟩ := HN.out _ HB2.out))
      have z := (Cell1.set ⟨f0, f1⟩ (.int .i64 131)).c
      exact ⟨.int .i64 131, by simp [results, Tryz.results12, go_sem, z], by rw [HX.out], (HBW.out.trans (HB2.out.mono (by omega))).setCell (Nat.le_succ _) _⟩
    · have q2 : decide ((16 : Int) < (dep e : Int)) = false := decide_eq_false (by omega)
      rw [q2] at HDP
      have HE2 := Lib.hid (show E = if formX e = false then 130 else 0 by rw [← HE.out]; unfold checkX; rw [if_neg (by have := HNN.out; omega)])
      have HWI := Lib.hid (within_any e A c)
      unfold X.val X.obj at HWI
      clear h1 h2 q2
      go_wp2_with (first
        | (go_at_call 14; refine (HND.out _ (Below.refl _ _)).mono ?_; rintro en w1 ⟨rfl, hb1⟩; have HB1 := Lib.hid hb1; obtain ⟨f0, f1⟩ := HN.out _ hb1; obtain ⟨g0, g1, g2, g3, g4, g5⟩ := obj_cells (HQ.out _ hb1); clear hb1 c0 c1 c2 c3 c4 c5)
        | (go_at_call 32; refine (HDP.out _ HB1.out).mono ?_; rintro en w2 ⟨rfl, hb2⟩; have HB2 := Lib.hid (hop0 HB1.out hb2); clear hb2 f0 f1 g0 g1 g2 g3 g4 g5)
        | (go_at_call 33; refine (rules_any _).mono ?_; rintro en w3 ⟨rfl, hb3⟩; have HB3 := Lib.hid (hop0 HB2.out hb3); obtain ⟨g0, g1, g2, g3, g4, g5⟩ := obj_cells (HQ.out _ HB3.out); have g6 : W.heap.size < w3.heap.size := (by have := HB3.out.size; omega); clear hb3)
        | (refine wpList_store_row (by rfl) _ _ _ (by rfl) w3.heap.size rulesL.toArray (by rfl) (by rfl) 66 _ (World.alloc_heap_new w3 _) (by kernel_rfl) (by kernel_rfl) rulesL_one ?_; rw [World.setRow_alloc_new])
        | (go_at_call 34; go_loud (refine (HWI.out _).mono ?_; rintro e w1 ⟨rfl, rfl⟩)))
      obtain ⟨R, hR⟩ : ∃ R, w3.heap.size = R := ⟨_, rfl⟩
      rw [hR]
      obtain ⟨W4, hW4⟩ : ∃ W4, (w3.alloc (.cells rulesL.toArray 66)).alloc (.cells #[.int .i64 e.op, .string e.nm, .int .i64 e.v.k, .int .i64 e.v.n, .string e.v.s, .slice A e.ks.length c] 26) = W4 := ⟨_, rfl⟩
      rw [hW4]
      have hsz4 : W4.heap.size = R + 2 := by rw [← hW4, ← hR]; simp
      have hb4 : Below w3.heap.size w3 W4 := by rw [← hW4]; exact ((Below.refl _ w3).alloc (Nat.le_refl _) _).alloc (by simp) _
      have hq4 : W4.heap[R + 1]? = some (e.obj A c) := by
        rw [← hW4, ← hR]
        have := World.alloc_heap_new (w3.alloc (.cells rulesL.toArray 66)) (e.obj A c)
        rwa [World.size_alloc] at this
      have hr4 : W4.heap[R]? = some (.cells rulesL.toArray 66) := by
        rw [← hW4, ← hR]
        exact (Below.heap_alloc _ _ _ (by simp)).trans (World.alloc_heap_new w3 _)
      have hB4 : Below W0.heap.size W0 W4 := HB3.out.trans (hb4.mono HB3.out.size)
      have hRs : W.heap.size + 2 ≤ R := by have := HB3.out.size; omega
      have HBW4 := Lib.hid (HBW.out.trans (hB4.mono (by omega)))
      have HK4 := Lib.hid (HKW.out W4 hB4)
      have HN4 := Lib.hid (HN.out W4 hB4)
      have HKB : Hid (KidsAt W4 W.heap.size e A c) := Lib.hid (HK0.out.below (HBW4.out))
      clear hW4 hb4 HWI HBW HKW HND HDP HQ HN HB1 HB2 HB3 hB4 g0 g1 g2 g3 g4 g5 g6
      refine (wpIn_wide (n := 8)).1 ?_
      refine range_nest2 rfl (by omega) (gf := 89) (lb := #[.pointer (some ⟨R + 1, 0, none⟩)]) (by simp [Act.eval]) trivial (enters_of Tryz.func89 (by kernel_rfl) rfl)
        (encs := XA.enc) (Y := Yx e W.heap.size) (Kp := Kt (W4.heap.size + 2) (fun q => q < W.heap.size ∨ q = R + 1) 29) (done := fun xs' => xs'.map XA.e = allX e)
        (fun W1 hg hs1 => by
          have h := within_seq e 7 (by decide) W.heap.size (R + 1) (fun q => q < W.heap.size ∨ q = R + 1) 29 (by decide) (by decide) A c W1 ((hg.block _ (by omega) (by simp)).trans hq4) (HKB.out.below (below_of_grown hg (fun r e => by cases e) (by omega)))
            (by omega) (fun k hk => .inl hk) (.inr rfl) (fun q hq => by omega)
          rw [hs1] at h
          exact h)
        (fun x => rfl) Kt.trans Kt.grown (fun U o => Kt.put (fun q hq => by omega) rfl (by omega) o)
        (fun pre U => ((Below W.heap.size W U ∧ Cell1 (W.heap.size + 1) (.int .i64 0) U) ∧ U.heap[R]? = some (.cells rulesL.toArray 66)) ∧ Hid (∀ x ∈ pre, headX x.e = true))
        (fun c2 pre U => c2 = .ret ∧ (Below W.heap.size W U ∧ Cell1 (W.heap.size + 1) (.int .i64 130) U) ∧ Hid (formX e = false))
        ((((LoopOwn.below (by omega) (Nat.le_refl _)).and (Cell1.own (f := fun _ => .int .i64 0) (by omega))).and (LoopOwn.blk (by omega))).and (LoopOwn.pure_ _))
        (fun c3 => (LoopOwn.pure_ (fun _ => c3 = .ret)).and (((LoopOwn.below (by omega) (Nat.le_refl _)).and (Cell1.own (f := fun _ => .int .i64 130) (by omega))).and (LoopOwn.pure_ _)))
        (fun pre => Yx.own (by omega) pre) ?start boxX (fun x U => World.grownBy_alloc U _ none) AtX (fun x U r r' hb => AtX.made hb.lt _) ?a1 ?assign ?body ?done ?stop
      case start =>
        intro W1 hg hs1
        exact ⟨⟨⟨HBW4.out.trans (below_of_grown hg (fun r e => by cases e) (by omega)), HN4.out.blk (hg.block _ (by omega) (by simp))⟩, (hg.block _ (by omega) (by simp)).trans hr4⟩, Lib.hid (fun x hx => by simp at hx)⟩
      case assign =>
        intro l0 x U K hK
        unfold XA.enc X.val
        gi_wp2
        exact hK
      case body =>
        rintro l0 pre x U V2 ⟨⟨⟨hB2, hc2⟩, hr2⟩, hp2⟩ ⟨⟨post, hpre⟩, hkx, hBx⟩ hat ⟨rb, hbk⟩
        have hmem : x.e ∈ allX e := by rw [hpre]; simp
        have hwx : x.e.wf := wf_all e HWF.out _ hmem
        obtain ⟨d0, d1, d2, d3, d4, d5⟩ := obj_cells hat
        have hlt : R < V2.heap.size := (Array.getElem?_eq_some_iff.1 hr2).1
        have hD1 : W4.heap.size + 1 < V2.heap.size := hbk.lt
        have hkeep : ∀ V3, Below V2.heap.size V2 V3 → BookKept W4.heap.size V2 V3 ∧ Kt (W4.heap.size + 2) (fun q => q < W.heap.size ∨ q = R + 1) 29 V2 V3 ∧ Below W.heap.size W V3 ∧ Cell1 (W.heap.size + 1) (.int .i64 0) V3 ∧ V3.heap[R]? = some (.cells rulesL.toArray 66) := fun V3 h =>
          ⟨⟨h.block _ (by omega), h.block _ (by omega)⟩, Kt.grown (grown_of_below h), hB2.trans (h.mono hB2.size), hc2.blk (h.block _ hc2.lt), (h.block _ hlt).trans hr2⟩
        have HFAIL := Lib.hid (fun (V3 : World) (h : Below V2.heap.size V2 V3) (hh : headX x.e = false) => show BookKept W4.heap.size V2 (V3.setCell ⟨W.heap.size + 1, 0, none⟩ (.int .i64 130)) ∧ Kt (W4.heap.size + 2) (fun q => q < W.heap.size ∨ q = R + 1) 29 V2 (V3.setCell ⟨W.heap.size + 1, 0, none⟩ (.int .i64 130)) ∧
            (.ret : Code) = .ret ∧ (Below W.heap.size W (V3.setCell ⟨W.heap.size + 1, 0, none⟩ (.int .i64 130)) ∧ Cell1 (W.heap.size + 1) (.int .i64 130) (V3.setCell ⟨W.heap.size + 1, 0, none⟩ (.int .i64 130))) ∧ Hid (formX e = false) from by
          obtain ⟨h1, h2, h3, h4, h5⟩ := hkeep V3 h
          have h6 := BookKept.set (D := W4.heap.size) (U := V3) (q := W.heap.size + 1) (i := 0) (by omega) (.int .i64 130)
          refine ⟨⟨h6.1.trans h1.1, h6.2.trans h1.2⟩, h2.trans (Kt.set (by omega) (by omega) _), rfl, ⟨h3.setCell (Nat.le_succ _) _, h4.set _⟩, Lib.hid ?_⟩
          rw [form_all, List.all_eq_false]
          exact ⟨x.e, hmem, by rw [hh]; decide⟩)
        have HGOOD := Lib.hid (fun (V3 : World) (h : Below V2.heap.size V2 V3) (hh : headX x.e = true) => show BookKept W4.heap.size V2 V3 ∧ Kt (W4.heap.size + 2) (fun q => q < W.heap.size ∨ q = R + 1) 29 V2 V3 ∧
            (((Below W.heap.size W V3 ∧ Cell1 (W.heap.size + 1) (.int .i64 0) V3) ∧ V3.heap[R]? = some (.cells rulesL.toArray 66)) ∧ Hid (∀ y ∈ pre ++ [x], headX y.e = true)) from by
          obtain ⟨h1, h2, h3, h4, h5⟩ := hkeep V3 h
          refine ⟨h1, h2, ⟨⟨h3, h4⟩, h5⟩, Lib.hid fun y hy => ?_⟩
          rcases List.mem_append.1 hy with hy | hy
          · exact hp2.out y hy
          · simp at hy; subst hy; exact hh)
        have HC := Lib.hid (fun (V3 : World) (h : Below V2.heap.size V2 V3) => (hkeep V3 h).2.2.2.1)
        have z0 := hc2.c
        have z1 := hc2.f
        have HRC := Lib.hid (fun (j : Nat) (r : Value) (h : rulesL[j]? = some r) => show V2.cell? ⟨R, j, none⟩ = some r from by simp [World.cell?, hr2]; simpa using h)
        have HAX := Lib.hid (fun (j : Nat) (h : j ≤ 20) (he : x.e.op = (j : Int)) => allows_x h x.e he hwx x.A x.c)
        have HOUT := Lib.hid (fun h => head_out (e := x.e) h)
        have hin : in64 x.e.op := hwx.head.1
        unfold X.val at HAX
        obtain ⟨hh, hhh⟩ : ∃ hh, headX x.e = hh := ⟨_, rfl⟩
        rw [hhh] at HFAIL HGOOD HAX HOUT
        obtain ⟨o, ho⟩ : ∃ o, x.e.op = o := ⟨_, rfl⟩
        rw [ho] at d0 HAX HOUT hin
        clear hkeep hB2 hc2 hr2 hp2 hpre hkx hBx hat hbk hmem hwx hhh ho
        by_cases h0 : o < 0
        · have HF := Lib.hid (HOUT.out (.inl h0))
          have q0 : o < 0 := h0
          gi_wp2
          have hS : V2.drew.cell? ⟨U.heap.size, 0, none⟩ = some (.int .i64 o) := d0
          refine held_round 17 (fun W => W.cell? ⟨U.heap.size, 0, none⟩ = some (.int .i64 o)) rfl (by kernel_rfl) (by simp) (by simp [LetsOut, Exit.then, Exit.inBlock, nestPost]) ?_
          refine held_take (i := 0) (t := 16) (v := (.pointer (some ⟨U.heap.size, 0, none⟩))) (fuel := 16) rfl rfl (by kernel_rfl) (by kernel_rfl) (by kernel_rfl) (fun _ _ _ h => h) (.inl ⟨rfl, fun W hW => by have d0 := hW; simp [execOp, Act.eval, go_sem, d0]⟩) hS ?_
          simp only [List.setIfInBounds_toArray, List.set_cons_succ, List.set_cons_zero]
          refine held_take (i := 1) (t := 17) (v := (.int .i64 o)) (fuel := 15) rfl rfl (by kernel_rfl) (by kernel_rfl) (by kernel_rfl) (fun _ _ _ h => h) (.inl ⟨rfl, fun W hW => by have d0 := hW; simp [execOp, Act.eval, go_sem, d0]⟩) hS ?_
          simp only [List.setIfInBounds_toArray, List.set_cons_succ, List.set_cons_zero]
          refine held_take (i := 2) (t := 18) (v := (.bool true)) (fuel := 14) rfl rfl (by kernel_rfl) (by kernel_rfl) (by kernel_rfl) (fun _ _ _ h => h) (.inl ⟨rfl, fun W hW => by have d0 := hW; simp [execOp, Act.eval, go_sem, d0, q0]⟩) hS ?_
          simp only [List.setIfInBounds_toArray, List.set_cons_succ, List.set_cons_zero]
          refine held_take (i := 3) (t := 19) (v := (.bool true)) (fuel := 13) rfl rfl (by kernel_rfl) (by kernel_rfl) (by kernel_rfl) (fun _ _ _ h => h) (.inl ⟨rfl, fun W hW => by have d0 := hW; simp [execOp, Act.eval, go_sem, d0]⟩) hS ?_
          simp only [List.setIfInBounds_toArray, List.set_cons_succ, List.set_cons_zero]
          refine held_take (i := 4) (t := 20) (v := undef) (fuel := 12) rfl rfl (by kernel_rfl) (by kernel_rfl) (by kernel_rfl) (fun _ _ _ h => h) (.inr ⟨rfl, rfl⟩) hS ?_
          simp only [List.setIfInBounds_toArray, List.set_cons_succ, List.set_cons_zero]
          refine held_take (i := 5) (t := 21) (v := undef) (fuel := 11) rfl rfl (by kernel_rfl) (by kernel_rfl) (by kernel_rfl) (fun _ _ _ h => h) (.inr ⟨rfl, rfl⟩) hS ?_
          simp only [List.setIfInBounds_toArray, List.set_cons_succ, List.set_cons_zero]
          refine held_take (i := 6) (t := 22) (v := undef) (fuel := 10) rfl rfl (by kernel_rfl) (by kernel_rfl) (by kernel_rfl) (fun _ _ _ h => h) (.inr ⟨rfl, rfl⟩) hS ?_
          simp only [List.setIfInBounds_toArray, List.set_cons_succ, List.set_cons_zero]
          refine held_take (i := 7) (t := 23) (v := (.bool true)) (fuel := 9) rfl rfl (by kernel_rfl) (by kernel_rfl) (by kernel_rfl) (fun _ _ _ h => h) (.inl ⟨rfl, fun W hW => by have d0 := hW; simp [execOp, Act.eval, go_sem, d0]⟩) hS ?_
          simp only [List.setIfInBounds_toArray, List.set_cons_succ, List.set_cons_zero]
          refine held_take (i := 8) (t := 24) (v := (.bool true)) (fuel := 8) rfl rfl (by kernel_rfl) (by kernel_rfl) (by kernel_rfl) (fun _ _ _ h => h) (.inl ⟨rfl, fun W hW => by have d0 := hW; simp [execOp, Act.eval, go_sem, d0]⟩) hS ?_
          simp only [List.setIfInBounds_toArray, List.set_cons_succ, List.set_cons_zero]
          refine held_take (i := 9) (t := 25) (v := undef) (fuel := 7) rfl rfl (by kernel_rfl) (by kernel_rfl) (by kernel_rfl) (fun _ _ _ h => h) (.inr ⟨rfl, rfl⟩) hS ?_
          simp only [List.setIfInBounds_toArray, List.set_cons_succ, List.set_cons_zero]
          refine held_take (i := 10) (t := 26) (v := undef) (fuel := 6) rfl rfl (by kernel_rfl) (by kernel_rfl) (by kernel_rfl) (fun _ _ _ h => h) (.inr ⟨rfl, rfl⟩) hS ?_
          simp only [List.setIfInBounds_toArray, List.set_cons_succ, List.set_cons_zero]
          refine held_take (i := 11) (t := 27) (v := undef) (fuel := 5) rfl rfl (by kernel_rfl) (by kernel_rfl) (by kernel_rfl) (fun _ _ _ h => h) (.inr ⟨rfl, rfl⟩) hS ?_
          simp only [List.setIfInBounds_toArray, List.set_cons_succ, List.set_cons_zero]
          refine held_take (i := 12) (t := 28) (v := undef) (fuel := 4) rfl rfl (by kernel_rfl) (by kernel_rfl) (by kernel_rfl) (fun _ _ _ h => h) (.inr ⟨rfl, rfl⟩) hS ?_
          simp only [List.setIfInBounds_toArray, List.set_cons_succ, List.set_cons_zero]
          refine held_take (i := 13) (t := 29) (v := undef) (fuel := 3) rfl rfl (by kernel_rfl) (by kernel_rfl) (by kernel_rfl) (fun _ _ _ h => h) (.inr ⟨rfl, rfl⟩) hS ?_
          simp only [List.setIfInBounds_toArray, List.set_cons_succ, List.set_cons_zero]
          refine held_take (i := 14) (t := 30) (v := undef) (fuel := 2) rfl rfl (by kernel_rfl) (by kernel_rfl) (by kernel_rfl) (fun _ _ _ h => h) (.inr ⟨rfl, rfl⟩) hS ?_
          simp only [List.setIfInBounds_toArray, List.set_cons_succ, List.set_cons_zero]
          refine held_take (i := 15) (t := 31) (v := undef) (fuel := 1) rfl rfl (by kernel_rfl) (by kernel_rfl) (by kernel_rfl) (fun _ _ _ h => h) (.inr ⟨rfl, rfl⟩) hS ?_
          simp only [List.setIfInBounds_toArray, List.set_cons_succ, List.set_cons_zero]
          refine held_take (i := 16) (t := 32) (v := (.bool true)) (fuel := 0) rfl rfl (by kernel_rfl) (by kernel_rfl) (by kernel_rfl) (fun _ _ _ h => h) (.inl ⟨rfl, fun W hW => by have d0 := hW; simp [execOp, Act.eval, go_sem, d0]⟩) hS ?_
          simp only [List.setIfInBounds_toArray, List.set_cons_succ, List.set_cons_zero]
          refine wpAnyH_done (by kernel_rfl) ?_ 0
          gi_wp2
          have hz := HFAIL.out _ (Below.refl _ V2).drew HF.out
          exact ⟨hz.1, hz.2.1, rfl, hz.2.2.2⟩
        · by_cases h20 : 20 < o
          · have HF := Lib.hid (HOUT.out (.inr h20))
            have q0 : ¬ o < 0 := h0
            have q1 : 21 ≤ o := h20
            gi_wp2
            have hS : V2.drew.cell? ⟨U.heap.size, 0, none⟩ = some (.int .i64 o) := d0
            refine held_round 17 (fun W => W.cell? ⟨U.heap.size, 0, none⟩ = some (.int .i64 o)) rfl (by kernel_rfl) (by simp) (by simp [LetsOut, Exit.then, Exit.inBlock, nestPost]) ?_
            refine held_take (i := 0) (t := 16) (v := (.pointer (some ⟨U.heap.size, 0, none⟩))) (fuel := 16) rfl rfl (by kernel_rfl) (by kernel_rfl) (by kernel_rfl) (fun _ _ _ h => h) (.inl ⟨rfl, fun W hW => by have d0 := hW; simp [execOp, Act.eval, go_sem, d0]⟩) hS ?_
            simp only [List.setIfInBounds_toArray, List.set_cons_succ, List.set_cons_zero]
            refine held_take (i := 1) (t := 17) (v := (.int .i64 o)) (fuel := 15) rfl rfl (by kernel_rfl) (by kernel_rfl) (by kernel_rfl) (fun _ _ _ h => h) (.inl ⟨rfl, fun W hW => by have d0 := hW; simp [execOp, Act.eval, go_sem, d0]⟩) hS ?_
            simp only [List.setIfInBounds_toArray, List.set_cons_succ, List.set_cons_zero]
            refine held_take (i := 2) (t := 18) (v := (.bool false)) (fuel := 14) rfl rfl (by kernel_rfl) (by kernel_rfl) (by kernel_rfl) (fun _ _ _ h => h) (.inl ⟨rfl, fun W hW => by have d0 := hW; simp [execOp, Act.eval, go_sem, d0, q0]⟩) hS ?_
            simp only [List.setIfInBounds_toArray, List.set_cons_succ, List.set_cons_zero]
            refine held_take (i := 3) (t := 19) (v := (.bool false)) (fuel := 13) rfl rfl (by kernel_rfl) (by kernel_rfl) (by kernel_rfl) (fun _ _ _ h => h) (.inl ⟨rfl, fun W hW => by have d0 := hW; simp [execOp, Act.eval, go_sem, d0]⟩) hS ?_
            simp only [List.setIfInBounds_toArray, List.set_cons_succ, List.set_cons_zero]
            refine held_take (i := 4) (t := 20) (v := (.pointer (some ⟨U.heap.size, 0, none⟩))) (fuel := 12) rfl rfl (by kernel_rfl) (by kernel_rfl) (by kernel_rfl) (fun _ _ _ h => h) (.inl ⟨rfl, fun W hW => by have d0 := hW; simp [execOp, Act.eval, go_sem, d0]⟩) hS ?_
            simp only [List.setIfInBounds_toArray, List.set_cons_succ, List.set_cons_zero]
            refine held_take (i := 5) (t := 21) (v := (.int .i64 o)) (fuel := 11) rfl rfl (by kernel_rfl) (by kernel_rfl) (by kernel_rfl) (fun _ _ _ h => h) (.inl ⟨rfl, fun W hW => by have d0 := hW; simp [execOp, Act.eval, go_sem, d0]⟩) hS ?_
            simp only [List.setIfInBounds_toArray, List.set_cons_succ, List.set_cons_zero]
            refine held_take (i := 6) (t := 22) (v := (.bool true)) (fuel := 10) rfl rfl (by kernel_rfl) (by kernel_rfl) (by kernel_rfl) (fun _ _ _ h => h) (.inl ⟨rfl, fun W hW => by have d0 := hW; simp [execOp, Act.eval, go_sem, d0, q1]⟩) hS ?_
            simp only [List.setIfInBounds_toArray, List.set_cons_succ, List.set_cons_zero]
            refine held_take (i := 7) (t := 23) (v := (.bool true)) (fuel := 9) rfl rfl (by kernel_rfl) (by kernel_rfl) (by kernel_rfl) (fun _ _ _ h => h) (.inl ⟨rfl, fun W hW => by have d0 := hW; simp [execOp, Act.eval, go_sem, d0]⟩) hS ?_
            simp only [List.setIfInBounds_toArray, List.set_cons_succ, List.set_cons_zero]
            refine held_take (i := 8) (t := 24) (v := (.bool true)) (fuel := 8) rfl rfl (by kernel_rfl) (by kernel_rfl) (by kernel_rfl) (fun _ _ _ h => h) (.inl ⟨rfl, fun W hW => by have d0 := hW; simp [execOp, Act.eval, go_sem, d0]⟩) hS ?_
            simp only [List.setIfInBounds_toArray, List.set_cons_succ, List.set_cons_zero]
            refine held_take (i := 9) (t := 25) (v := undef) (fuel := 7) rfl rfl (by kernel_rfl) (by kernel_rfl) (by kernel_rfl) (fun _ _ _ h => h) (.inr ⟨rfl, rfl⟩) hS ?_
            simp only [List.setIfInBounds_toArray, List.set_cons_succ, List.set_cons_zero]
            refine held_take (i := 10) (t := 26) (v := undef) (fuel := 6) rfl rfl (by kernel_rfl) (by kernel_rfl) (by kernel_rfl) (fun _ _ _ h => h) (.inr ⟨rfl, rfl⟩) hS ?_
            simp only [List.setIfInBounds_toArray, List.set_cons_succ, List.set_cons_zero]
            refine held_take (i := 11) (t := 27) (v := undef) (fuel := 5) rfl rfl (by kernel_rfl) (by kernel_rfl) (by kernel_rfl) (fun _ _ _ h => h) (.inr ⟨rfl, rfl⟩) hS ?_
            simp only [List.setIfInBounds_toArray, List.set_cons_succ, List.set_cons_zero]
            refine held_take (i := 12) (t := 28) (v := undef) (fuel := 4) rfl rfl (by kernel_rfl) (by kernel_rfl) (by kernel_rfl) (fun _ _ _ h => h) (.inr ⟨rfl, rfl⟩) hS ?_
            simp only [List.setIfInBounds_toArray, List.set_cons_succ, List.set_cons_zero]
            refine held_take (i := 13) (t := 29) (v := undef) (fuel := 3) rfl rfl (by kernel_rfl) (by kernel_rfl) (by kernel_rfl) (fun _ _ _ h => h) (.inr ⟨rfl, rfl⟩) hS ?_
            simp only [List.setIfInBounds_toArray, List.set_cons_succ, List.set_cons_zero]
            refine held_take (i := 14) (t := 30) (v := undef) (fuel := 2) rfl rfl (by kernel_rfl) (by kernel_rfl) (by kernel_rfl) (fun _ _ _ h => h) (.inr ⟨rfl, rfl⟩) hS ?_
            simp only [List.setIfInBounds_toArray, List.set_cons_succ, List.set_cons_zero]
            refine held_take (i := 15) (t := 31) (v := undef) (fuel := 1) rfl rfl (by kernel_rfl) (by kernel_rfl) (by kernel_rfl) (fun _ _ _ h => h) (.inr ⟨rfl, rfl⟩) hS ?_
            simp only [List.setIfInBounds_toArray, List.set_cons_succ, List.set_cons_zero]
            refine held_take (i := 16) (t := 32) (v := (.bool true)) (fuel := 0) rfl rfl (by kernel_rfl) (by kernel_rfl) (by kernel_rfl) (fun _ _ _ h => h) (.inl ⟨rfl, fun W hW => by have d0 := hW; simp [execOp, Act.eval, go_sem, d0]⟩) hS ?_
            simp only [List.setIfInBounds_toArray, List.set_cons_succ, List.set_cons_zero]
            refine wpAnyH_done (by kernel_rfl) ?_ 0
            gi_wp2
            have hz := HFAIL.out _ (Below.refl _ V2).drew HF.out
            exact ⟨hz.1, hz.2.1, rfl, hz.2.2.2⟩
          · obtain ⟨j, rfl⟩ : ∃ j : Nat, o = (j : Int) := ⟨o.toNat, by omega⟩
            obtain ⟨r0, r1, r2, r3, i0, i1, i2, i3, hal⟩ := HAX.out j (by omega) rfl
            have HAL := Lib.hid hal
            have s0 := HRC.out _ _ i0
            have s1 := HRC.out _ _ i1
            have s2 := HRC.out _ _ i2
            have s3 := HRC.out _ _ i3
            clear hal i0 i1 i2 i3
            have q0 : ¬ (j : Int) < 0 := h0
            have q1 : ¬ 21 ≤ (j : Int) := by omega
            have b0 : (0 : Int) ≤ (j : Int) := by omega
            have b1 : (j : Int) < 21 := by omega
            gi_wp2
            have hS : (V2.drew.cell? ⟨U.heap.size, 0, none⟩ = some (.int .i64 (j : Int)) ∧ V2.drew.cell? ⟨U.heap.size, 1, none⟩ = some (.string x.e.nm) ∧ V2.drew.cell? ⟨U.heap.size, 2, none⟩ = some (.int .i64 x.e.v.k) ∧ V2.drew.cell? ⟨U.heap.size, 3, none⟩ = some (.int .i64 x.e.v.n) ∧ V2.drew.cell? ⟨U.heap.size, 4, none⟩ = some (.string x.e.v.s) ∧
              V2.drew.cell? ⟨U.heap.size, 5, none⟩ = some (.slice x.A x.e.ks.length x.c) ∧ V2.drew.cell? ⟨R, j * 4, none⟩ = some r0 ∧ V2.drew.cell? ⟨R, j * 4 + 1, none⟩ = some r1 ∧ V2.drew.cell? ⟨R, j * 4 + 2, none⟩ = some r2 ∧ V2.drew.cell? ⟨R, j * 4 + 3, none⟩ = some r3) ∧ Below V2.heap.size V2 V2.drew := ⟨⟨d0, d1, d2, d3, d4, d5, s0, s1, s2, s3⟩, (Below.refl _ V2).drew⟩
            refine held_round 17 (fun W => (W.cell? ⟨U.heap.size, 0, none⟩ = some (.int .i64 (j : Int)) ∧ W.cell? ⟨U.heap.size, 1, none⟩ = some (.string x.e.nm) ∧ W.cell? ⟨U.heap.size, 2, none⟩ = some (.int .i64 x.e.v.k) ∧ W.cell? ⟨U.heap.size, 3, none⟩ = some (.int .i64 x.e.v.n) ∧ W.cell? ⟨U.heap.size, 4, none⟩ = some (.string x.e.v.s) ∧ W.cell? ⟨U.heap.size, 5, none⟩ = some (.slice x.A x.e.ks.length x.c) ∧ W.cell? ⟨R, j * 4, none⟩ = some r0 ∧ W.cell? ⟨R, j * 4 + 1, none⟩ = some r1 ∧ W.cell? ⟨R, j * 4 + 2, none⟩ = some r2 ∧ W.cell? ⟨R, j * 4 + 3, none⟩ = some r3) ∧ Below V2.heap.size V2 W) rfl (by kernel_rfl) (by simp) (by simp [LetsOut, Exit.then, Exit.inBlock, nestPost]) ?_
            refine held_take (i := 0) (t := 16) (v := (.pointer (some ⟨U.heap.size, 0, none⟩))) (fuel := 16) rfl rfl (by kernel_rfl) (by kernel_rfl) (by kernel_rfl) (fun _ _ _ h => h) (.inl ⟨rfl, fun W hW => by simp [execOp, Act.eval, go_sem]⟩) hS ?_
            simp only [List.setIfInBounds_toArray, List.set_cons_succ, List.set_cons_zero]
            refine held_take (i := 1) (t := 17) (v := (.int .i64 (j : Int))) (fuel := 15) rfl rfl (by kernel_rfl) (by kernel_rfl) (by kernel_rfl) (fun _ _ _ h => h) (.inl ⟨rfl, fun W hW => by simp [execOp, Act.eval, go_sem, hW.1.1]⟩) hS ?_
            simp only [List.setIfInBounds_toArray, List.set_cons_succ, List.set_cons_zero]
            refine held_take (i := 2) (t := 18) (v := (.bool false)) (fuel := 14) rfl rfl (by kernel_rfl) (by kernel_rfl) (by kernel_rfl) (fun _ _ _ h => h) (.inl ⟨rfl, fun W hW => by simp [execOp, Act.eval, go_sem, q0]⟩) hS ?_
            simp only [List.setIfInBounds_toArray, List.set_cons_succ, List.set_cons_zero]
            refine held_take (i := 3) (t := 19) (v := (.bool false)) (fuel := 13) rfl rfl (by kernel_rfl) (by kernel_rfl) (by kernel_rfl) (fun _ _ _ h => h) (.inl ⟨rfl, fun W hW => by simp [execOp, Act.eval, go_sem]⟩) hS ?_
            simp only [List.setIfInBounds_toArray, List.set_cons_succ, List.set_cons_zero]
            refine held_take (i := 4) (t := 20) (v := (.pointer (some ⟨U.heap.size, 0, none⟩))) (fuel := 12) rfl rfl (by kernel_rfl) (by kernel_rfl) (by kernel_rfl) (fun _ _ _ h => h) (.inl ⟨rfl, fun W hW => by simp [execOp, Act.eval, go_sem]⟩) hS ?_
            simp only [List.setIfInBounds_toArray, List.set_cons_succ, List.set_cons_zero]
            refine held_take (i := 5) (t := 21) (v := (.int .i64 (j : Int))) (fuel := 11) rfl rfl (by kernel_rfl) (by kernel_rfl) (by kernel_rfl) (fun _ _ _ h => h) (.inl ⟨rfl, fun W hW => by simp [execOp, Act.eval, go_sem, hW.1.1]⟩) hS ?_
            simp only [List.setIfInBounds_toArray, List.set_cons_succ, List.set_cons_zero]
            refine held_take (i := 6) (t := 22) (v := (.bool false)) (fuel := 10) rfl rfl (by kernel_rfl) (by kernel_rfl) (by kernel_rfl) (fun _ _ _ h => h) (.inl ⟨rfl, fun W hW => by simp [execOp, Act.eval, go_sem, q1]⟩) hS ?_
            simp only [List.setIfInBounds_toArray, List.set_cons_succ, List.set_cons_zero]
            refine held_take (i := 7) (t := 23) (v := (.bool false)) (fuel := 9) rfl rfl (by kernel_rfl) (by kernel_rfl) (by kernel_rfl) (fun _ _ _ h => h) (.inl ⟨rfl, fun W hW => by simp [execOp, Act.eval, go_sem]⟩) hS ?_
            simp only [List.setIfInBounds_toArray, List.set_cons_succ, List.set_cons_zero]
            refine held_take (i := 8) (t := 24) (v := (.bool false)) (fuel := 8) rfl rfl (by kernel_rfl) (by kernel_rfl) (by kernel_rfl) (fun _ _ _ h => h) (.inl ⟨rfl, fun W hW => by simp [execOp, Act.eval, go_sem]⟩) hS ?_
            simp only [List.setIfInBounds_toArray, List.set_cons_succ, List.set_cons_zero]
            refine held_take (i := 9) (t := 25) (v := (.pointer (some ⟨U.heap.size, 0, none⟩))) (fuel := 7) rfl rfl (by kernel_rfl) (by kernel_rfl) (by kernel_rfl) (fun _ _ _ h => h) (.inl ⟨rfl, fun W hW => by simp [execOp, Act.eval, go_sem]⟩) hS ?_
            simp only [List.setIfInBounds_toArray, List.set_cons_succ, List.set_cons_zero]
            refine held_take (i := 10) (t := 26) (v := (.int .i64 (j : Int))) (fuel := 6) rfl rfl (by kernel_rfl) (by kernel_rfl) (by kernel_rfl) (fun _ _ _ h => h) (.inl ⟨rfl, fun W hW => by simp [execOp, Act.eval, go_sem, hW.1.1]⟩) hS ?_
            simp only [List.setIfInBounds_toArray, List.set_cons_succ, List.set_cons_zero]
            refine held_take (i := 11) (t := 27) (v := (.pointer (some ⟨R, j * 4, none⟩))) (fuel := 5) rfl rfl (by kernel_rfl) (by kernel_rfl) (by kernel_rfl) (fun _ _ _ h => h) (.inl ⟨rfl, fun W hW => by simp [execOp, Act.eval, go_sem, b0, b1]⟩) hS ?_
            simp only [List.setIfInBounds_toArray, List.set_cons_succ, List.set_cons_zero]
            refine held_take (i := 12) (t := 28) (v := (.agg #[r0, r1, r2, r3])) (fuel := 4) rfl rfl (by kernel_rfl) (by kernel_rfl) (by kernel_rfl) (fun _ _ _ h => h) (.inl ⟨rfl, fun W hW => by simp [execOp, Act.eval, go_sem, hW.1.2.2.2.2.2.2.1, hW.1.2.2.2.2.2.2.2.1, hW.1.2.2.2.2.2.2.2.2.1, hW.1.2.2.2.2.2.2.2.2.2]⟩) hS ?_
            simp only [List.setIfInBounds_toArray, List.set_cons_succ, List.set_cons_zero]
            refine held_take (i := 13) (t := 29) (v := (.agg #[.int .i64 (j : Int), .string x.e.nm, .int .i64 x.e.v.k, .int .i64 x.e.v.n, .string x.e.v.s, .slice x.A x.e.ks.length x.c])) (fuel := 3) rfl rfl (by kernel_rfl) (by kernel_rfl) (by kernel_rfl) (fun _ _ _ h => h) (.inl ⟨rfl, fun W hW => by simp [execOp, Act.eval, go_sem, hW.1.1, hW.1.2.1, hW.1.2.2.1, hW.1.2.2.2.1, hW.1.2.2.2.2.1, hW.1.2.2.2.2.2.1]⟩) hS ?_
            simp only [List.setIfInBounds_toArray, List.set_cons_succ, List.set_cons_zero]
            refine held_call (i := 14) rfl (by kernel_rfl) (by kernel_rfl) ?_
            simp [Oper.wp, execOp, Act.eval, Act.put, go_sem]
            refine (HAL.out _).mono ?_
            rintro en w5 ⟨rfl, hb5⟩
            have hb6 := hop0 (Below.refl _ V2).drew hb5
            have HB6 := Lib.hid hb6
            have hS : (w5.cell? ⟨U.heap.size, 0, none⟩ = some (.int .i64 (j : Int)) ∧ w5.cell? ⟨U.heap.size, 1, none⟩ = some (.string x.e.nm) ∧ w5.cell? ⟨U.heap.size, 2, none⟩ = some (.int .i64 x.e.v.k) ∧ w5.cell? ⟨U.heap.size, 3, none⟩ = some (.int .i64 x.e.v.n) ∧ w5.cell? ⟨U.heap.size, 4, none⟩ = some (.string x.e.v.s) ∧ w5.cell? ⟨U.heap.size, 5, none⟩ = some (.slice x.A x.e.ks.length x.c) ∧ w5.cell? ⟨R, j * 4, none⟩ = some r0 ∧ w5.cell? ⟨R, j * 4 + 1, none⟩ = some r1 ∧ w5.cell? ⟨R, j * 4 + 2, none⟩ = some r2 ∧ w5.cell? ⟨R, j * 4 + 3, none⟩ = some r3) ∧ Below V2.heap.size V2 w5 :=
              ⟨⟨later_cell hb6 d0, later_cell hb6 d1, later_cell hb6 d2, later_cell hb6 d3, later_cell hb6 d4, later_cell hb6 d5, later_cell hb6 s0, later_cell hb6 s1, later_cell hb6 s2, later_cell hb6 s3⟩, hb6⟩
            have hc6 := HC.out _ hb6
            have y0 := hc6.c
            have y1 := hc6.f
            clear hb5 hb6 hc6
            refine ⟨hS, ?_⟩
            try simp only [List.setIfInBounds_toArray, List.set_cons_succ, List.set_cons_zero]
            refine held_take (i := 15) (t := 31) (v := (.bool (!hh))) (fuel := 1) rfl rfl (by kernel_rfl) (by kernel_rfl) (by kernel_rfl) (fun _ _ _ h => h) (.inl ⟨rfl, fun W hW => by simp [execOp, Act.eval, go_sem]⟩) hS ?_
            simp only [List.setIfInBounds_toArray, List.set_cons_succ, List.set_cons_zero]
            refine held_take (i := 16) (t := 32) (v := (.bool (!hh))) (fuel := 0) rfl rfl (by kernel_rfl) (by kernel_rfl) (by kernel_rfl) (fun _ _ _ h => h) (.inl ⟨rfl, fun W hW => by simp [execOp, Act.eval, go_sem]⟩) hS ?_
            simp only [List.setIfInBounds_toArray, List.set_cons_succ, List.set_cons_zero]
            refine wpAnyH_done (by kernel_rfl) ?_ 0
            cases hh
            · gi_wp2
              have hz := HFAIL.out _ HB6.out (by first | rfl | trivial)
              rw [hsz4] at hz
              exact ⟨hz.1, hz.2.1, rfl, hz.2.2.2⟩
            · gi_wp2
              have hz := HGOOD.out _ HB6.out (by first | rfl | trivial)
              rw [hsz4] at hz
              exact hz
      case done =>
        rintro xs V hxs ⟨⟨⟨hB2, hc2⟩, hr2⟩, hp2⟩ hK
        have e0 := hc2.c
        have e1 := hc2.f
        have hxs2 : xs.map XA.e = allX e := hxs
        have HX := Lib.hid (show E = 0 from by
          rw [HE2.out, form_all, if_neg]
          rw [← hxs2, Bool.not_eq_false, List.all_eq_true]
          intro y hy
          obtain ⟨z, hz, rfl⟩ := List.mem_map.1 hy
          exact hp2.out z hz)
        have HK2 := Lib.hid ((Below.heap_setCell V ⟨W.heap.size + 1, 0, none⟩ (.int .i64 0) W4.heap.size (by show W4.heap.size ≠ W.heap.size + 1; omega)).trans hK)
        have HB2 := Lib.hid (hB2.setCell (p := ⟨W.heap.size + 1, 0, none⟩) (Nat.le_succ _) (.int .i64 0))
        have HC2 := Lib.hid (hc2.set (.int .i64 0))
        clear hxs hxs2 hB2 hc2 hr2 hp2 hK
        go_wp2
        refine ⟨by simp, .inl ⟨_, _, rfl, run_takeDeferred HK2.out, ?_⟩⟩
        have z := (HC2.out.blk (World.putObj_heap_other (by omega) : ((V.setCell ⟨W.heap.size + 1, 0, none⟩ (.int .i64 0)).putObj W4.heap.size (.deferred none)).heap[W.heap.size + 1]? = _)).c
        exact ⟨.int .i64 0, by simp [results, Tryz.results12, go_sem, z], by rw [HX.out], below_put HB2.out (Nat.le_refl _) (by omega) _⟩
      case stop =>
        rintro c2 pre V ⟨rfl, ⟨hB2, hc2⟩, hcn⟩ hK
        have HX := Lib.hid (show E = 130 from by rw [HE2.out, if_pos hcn.out])
        have HK2 := Lib.hid hK
        have HB2 := Lib.hid hB2
        have HC2 := Lib.hid hc2
        clear hB2 hc2 hcn hK
        refine wpIn_wide.2 ?_
        go_wp2
        refine ⟨by simp, .inl ⟨_, _, rfl, run_takeDeferred HK2.out, ?_⟩⟩
        have z := (HC2.out.blk (World.putObj_heap_other (by omega) : (V.putObj W4.heap.size (.deferred none)).heap[W.heap.size + 1]? = _)).c
        exact ⟨.int .i64 130, by simp [results, Tryz.results12, go_sem, z], by rw [HX.out], below_put HB2.out (Nat.le_refl _) (by omega) _⟩
end Go.Proofs.YtclcabdekeegdaaGreat
