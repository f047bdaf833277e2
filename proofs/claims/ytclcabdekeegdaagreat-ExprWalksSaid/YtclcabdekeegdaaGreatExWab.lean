/- Several texts in one: ExWa, ExWb. -/
import Derived.Test.YtclcabdekeegdaaGreatExKS
/- Layer 13, walked: worths: what one part comes to. -/
namespace Go.Proofs.YtclcabdekeegdaaGreat
open Go.ChangeShapes Go.WideShapes Go.ChangeAt Go.RowKit
set_option linter.unusedVariables false
set_option linter.unusedSimpArgs false

/-- A value, or given up. -/
def endW (r : V × Int) : Ending := if r.2 = 0 then .returned r.1.val else .panicked [gaveUp r.2]
theorem endW_ok {r : V × Int} (h : r.2 = 0) : endW r = .returned r.1.val := if_pos h
theorem endW_no {r : V × Int} (h : r.2 ≠ 0) : endW r = .panicked [gaveUp r.2] := if_neg h
/-- A value in a block of its own, which may be written. -/
def Box3 (w : World) (g : Nat) (v : V) : Prop := w.heap[g]? = some (.cells #[.int .i64 v.k, .int .i64 v.n, .string v.s] 23 (0, 0))
section
variable {w : World} {g : Nat} {v : V}
theorem Box3.lt (h : Box3 w g v) : g < w.heap.size := (Array.getElem?_eq_some_iff.1 h).1
theorem Box3.set (h : Box3 w g v) (u : V) : Box3 (((w.setCell ⟨g, 0, none⟩ (.int .i64 u.k)).setCell ⟨g, 1, none⟩ (.int .i64 u.n)).setCell ⟨g, 2, none⟩ (.string u.s)) g u :=
  heap_set (heap_set (heap_set h _) _) _
theorem Box3.c0 (h : Box3 w g v) : w.cell? ⟨g, 0, none⟩ = some (.int .i64 v.k) := by simp [World.cell?, show w.heap[g]? = _ from h]
theorem Box3.c1 (h : Box3 w g v) : w.cell? ⟨g, 1, none⟩ = some (.int .i64 v.n) := by simp [World.cell?, show w.heap[g]? = _ from h]
theorem Box3.c2 (h : Box3 w g v) : w.cell? ⟨g, 2, none⟩ = some (.string v.s) := by simp [World.cell?, show w.heap[g]? = _ from h]
theorem Box3.free (h : Box3 w g v) (i : Nat) : w.frozen? ⟨g, i, none⟩ = false := by simp [World.frozen?, show w.heap[g]? = _ from h]
theorem Box3.below {w2 : World} (h : Box3 w g v) (hb : Below w.heap.size w w2) : Box3 w2 g v := (hb.block g h.lt).trans h
theorem Box3.new (w : World) (v : V) : Box3 (w.alloc (.cells #[.int .i64 v.k, .int .i64 v.n, .string v.s] 23)) w.heap.size v := World.alloc_heap_new _ _
end
theorem set3_below {B g : Nat} {W U : World} (h : Below B W U) (hg : B ≤ g) (x y z : Value) : Below B W (((U.setCell ⟨g, 0, none⟩ x).setCell ⟨g, 1, none⟩ y).setCell ⟨g, 2, none⟩ z) := Below.row (Below.row (Below.row h hg x) hg y) hg z
def zV : V := ⟨0, 0, ⟨#[]⟩⟩
theorem Box3.alloc {w : World} {g : Nat} {v : V} (h : Box3 w g v) (o : Obj) : Box3 (w.alloc o) g v := h.below ((Below.refl _ w).alloc (Nat.le_refl _) o)
theorem ret_row {f : Func} {p : Nat} (hres : f.results = #[.cell p 23]) {tmps : Array Value} {W : World} {g : Nat} {u : V} (hp : tmps.getD p undef = .pointer (some ⟨g, 0, none⟩)) (hb : Box3 W g u) : (results f tmps).run Tryz.prog W = .ok u.val W :=
  results_cell_row hres tmps W g 23 #[.int .i64 u.k, .int .i64 u.n, .string u.s] (0, 0) _ hp hb Tryz.underlying23 rfl (by kernel_rfl)
section
variable (cs : List C) (row : List V) (cA : Option Addr) (cc : Nat) (rA : Option Addr) (rc : Nat) (B b : Nat)
/-- A part is worth r. -/
def WK (x : X) (r : V × Int) : Prop := ∀ (A2 : Option Addr) (c2 : Nat) (W : World), Sc cs row cA cc rA rc B b W → KidsAt W W.heap.size x A2 c2 →
  Calls Tryz.prog 46 #[.pointer (some ⟨b, 0, none⟩), x.val A2 c2] W fun en w' => en = endW r ∧ Below W.heap.size W w'
def oneR (r0 : V × Int) (F : V → V × Int) : V × Int := if r0.2 ≠ 0 then (nulV, r0.2) else if r0.1.k = 0 then (r0.1, 0) else F r0.1
/-- The frame of a function over an expression: the expression's block, the answer's. -/
structure Fr (o : Int) (n : ByteArray) (v : V) (ks : List X) (A : Option Addr) (c : Nat) (x0 r0 : Nat) (u : V) (w W : World) : Prop where
  x : W.heap[x0]? = some ((X.mk o n v ks).obj A c)
  r : Box3 W r0 u
  b : Below w.heap.size w W
  h0 : w.heap.size ≤ r0
theorem Fr.below {o : Int} {n : ByteArray} {v : V} {ks : List X} {A : Option Addr} {c x0 r0 : Nat} {u : V} {w W W' : World} (h : Fr o n v ks A c x0 r0 u w W) (hb : Below W.heap.size W W') : Fr o n v ks A c x0 r0 u w W' :=
  ⟨(hb.block _ (Array.getElem?_eq_some_iff.1 h.x).1).trans h.x, h.r.below hb, hop0 h.b hb, h.h0⟩
theorem Fr.new (o : Int) (n : ByteArray) (v : V) (ks : List X) (A : Option Addr) (c : Nat) (w : World) : Fr o n v ks A c w.heap.size (w.heap.size + 1) zV w ((w.alloc ((X.mk o n v ks).obj A c)).alloc (.cells #[.int .i64 0, .int .i64 0, .string ⟨#[]⟩] 23)) :=
  ⟨(Below.heap_alloc _ _ _ (by simp)).trans (World.alloc_heap_new w _), by
    have := Box3.new (w.alloc ((X.mk o n v ks).obj A c)) zV
    rwa [World.size_alloc] at this, two_boxes _ _ _, by omega⟩
set_option maxHeartbeats 4000000 in
set_option maxRecDepth 20000 in
theorem one_any (o : Int) (n : ByteArray) (v : V) (ks : List X) (h0 : 0 < ks.length) (A : Option Addr) (c : Nat) (w : World) (hs : Sc cs row cA cc rA rc B b w) (hk : KidsAt w w.heap.size (.mk o n v ks) A c) (r0 : V × Int) (hx : WK cs row cA cc rA rc B b ks[0] r0)
    (g : Nat) (eg : ∀ args W, (callFunc g args).run Tryz.prog W = .ok (.enter g args) W) (F : V → V × Int) (hF : r0.2 = 0 → r0.1.k ≠ 0 → ∀ W, Calls Tryz.prog g #[r0.1.val] W fun en w' => en = endW (F r0.1) ∧ Below W.heap.size W w') :
    Calls Tryz.prog 109 #[.pointer (some ⟨b, 0, none⟩), eV o n v ks.length A c, .func (.func g) #[] #[]] w fun en w' => en = endW (oneR r0 F) ∧ Below w.heap.size w w' := by
  obtain ⟨bk, off, A2, c2, rfl, hbk, hk2, c0, c1, c2', c3, c4, c5⟩ := hk.at6m 0 h0
  obtain ⟨x, hxx⟩ : ∃ x, ks[0] = x := ⟨_, rfl⟩
  rw [hxx] at hx hk2 c0 c1 c2' c3 c4 c5
  simp only [Nat.zero_mul, Nat.add_zero] at c0 c1 c2' c3 c4 c5
  obtain ⟨W1, hW1⟩ : ∃ W1, (w.alloc ((X.mk o n v ks).obj (some ⟨bk, off, none⟩) c)).alloc (.cells #[.int .i64 0, .int .i64 0, .string ⟨#[]⟩] 23) = W1 := ⟨_, rfl⟩
  have hfr : Fr o n v ks (some ⟨bk, off, none⟩) c w.heap.size (w.heap.size + 1) zV w W1 := by rw [← hW1]; exact Fr.new o n v ks _ c w
  have HC := Lib.hid (hx A2 c2 W1 (hs.below hfr.b) (KidsAt.more (Nat.le_trans (Nat.le_refl _) hfr.b.size) (hk2.below hfr.b)))
  have HFR := Lib.hid hfr
  have HF := Lib.hid hF
  obtain ⟨E, hE⟩ : ∃ E, endW (oneR r0 F) = E := ⟨_, rfl⟩
  rw [hE]
  have HE := Lib.hid hE
  obtain ⟨a, er⟩ := r0
  obtain ⟨p0, p1, p2, p3, p4, p5⟩ := obj_cells hfr.x
  replace c0 := later_cell hfr.b c0
  replace c1 := later_cell hfr.b c1
  replace c2' := later_cell hfr.b c2'
  replace c3 := later_cell hfr.b c3
  replace c4 := later_cell hfr.b c4
  replace c5 := later_cell hfr.b c5
  simp only [X.op, X.nm, X.v, X.ks] at p0 p1 p2 p3 p4 p5
  have i1 : (0 : Int) < (ks.length : Int) := by omega
  have HKL := Lib.hid h0
  have hen := eg
  clear hF hE hx hk hk2 hs hxx hfr eg
  unfold X.obj at hW1
  simp only [X.op, X.nm, X.v, X.ks] at hW1
  unfold X.val at HC
  unfold eV
  dsimp only at HF HC
  by_cases he : er = 0
  · subst he
    rw [endW_ok rfl] at HC
    dsimp only at HC
    unfold V.val at HC
    by_cases hz : a.k = 0
    · have HX := Lib.hid (show E = .returned a.val by rw [← HE.out]; unfold oneR; simp [hz, endW])
      have q0 : (a.k == 0) = true := by simpa using hz
      clear hz
      go_enter Tryz.func109, Tryz.ntmps109
      go_wp2_with (go_at_call 46; go_loud (refine HC.out.mono ?_; rintro e w2 ⟨rfl, hb2⟩; have HB2 := Lib.hid (HFR.out.below hb2); have s0 := HB2.out.r.c0; have s1 := HB2.out.r.c1; have s2 := HB2.out.r.c2; have f0 := HB2.out.r.free 0; have f1 := HB2.out.r.free 1; have f2 := HB2.out.r.free 2; have hlt := HB2.out.r.lt; clear hb2))
      exact bodyPost_ret (ret_row rfl (by rfl) ((HB2.out.r.set a).alloc _)) rfl ⟨HX.out.symm, (set3_below HB2.out.b (Nat.le_succ _) _ _ _).alloc (by have := HB2.out.b.size; simp [World.setCell]; omega) _⟩
    · have q0 : (a.k == 0) = false := by simpa using hz
      have HG := Lib.hid (HF.out rfl hz)
      obtain ⟨⟨y, ey⟩, hy⟩ : ∃ z, F a = z := ⟨_, rfl⟩
      rw [hy] at HG
      have HX := Lib.hid (show E = endW (y, ey) by rw [← HE.out]; unfold oneR; rw [if_neg (by simp), if_neg hz, hy])
      unfold V.val at HG
      clear hz hy
      by_cases hey : ey = 0
      · subst hey
        rw [endW_ok rfl] at HG HX
        dsimp only at HG HX
        unfold V.val at HG
        go_enter Tryz.func109, Tryz.ntmps109
        go_wp2_with (first
          | (go_at_call 46; go_loud (refine HC.out.mono ?_; rintro e w2 ⟨rfl, hb2⟩; have HB2 := Lib.hid (HFR.out.below hb2); clear hb2))
          | (go_at_fn g; refine (HG.out _).mono ?_; rintro e w4 ⟨rfl, hb4⟩; have HB4 := Lib.hid ((HB2.out.below ((Below.refl _ _).alloc (Nat.le_refl _) _)).below hb4); have s0 := HB4.out.r.c0; have s1 := HB4.out.r.c1; have s2 := HB4.out.r.c2; have f0 := HB4.out.r.free 0; have f1 := HB4.out.r.free 1; have f2 := HB4.out.r.free 2; clear hb4))
        exact bodyPost_ret (ret_row rfl (by rfl) (HB4.out.r.set y)) rfl ⟨HX.out.symm, set3_below HB4.out.b (Nat.le_succ _) _ _ _⟩
      · rw [endW_no hey] at HG HX
        go_enter Tryz.func109, Tryz.ntmps109
        go_wp2_with (first
          | (go_at_call 46; go_loud (refine HC.out.mono ?_; rintro e w2 ⟨rfl, hb2⟩; have HB2 := Lib.hid (HFR.out.below hb2); clear hb2))
          | (go_at_fn g; refine (HG.out _).mono ?_; rintro e w4 ⟨rfl, hb4⟩; have HB4 := Lib.hid ((HB2.out.below ((Below.refl _ _).alloc (Nat.le_refl _) _)).below hb4); clear hb4))
        exact ⟨rfl, HX.out.symm, HB4.out.b⟩
  · have HX := Lib.hid (show E = .panicked [gaveUp er] by rw [← HE.out]; unfold oneR; rw [if_pos he, endW_no he])
    rw [endW_no he] at HC
    go_enter Tryz.func109, Tryz.ntmps109
    go_wp2_with (go_at_call 46; go_loud (refine HC.out.mono ?_; rintro e w2 ⟨rfl, hb2⟩; have HB2 := Lib.hid (HFR.out.below hb2); clear hb2))
    exact ⟨rfl, HX.out.symm, HB2.out.b⟩
end
end Go.Proofs.YtclcabdekeegdaaGreat

/- Layer 13, walked: worths: what two parts come to (wip/gen/XExWb.py). -/
namespace Go.Proofs.YtclcabdekeegdaaGreat
open Go.ChangeShapes Go.WideShapes Go.ChangeAt Go.RowKit
set_option linter.unusedVariables false
set_option linter.unusedSimpArgs false

theorem held_two {P : Program} {ops : Array Oper} {Q : Exit → Act → World → Prop} {md : Region.Mode} {S : World → Prop} {i j : Nat} {oi oj : Oper} {fuel : Nat} {listed : Array Bool} {a : Act} {w : World} (hi : ops[i]? = some oi) (hj : ops[j]? = some oj) (hr : Region.ready md ops listed = [i, j])
    (hwi : Region.wanted oi (yielded ops a.tmps) = true) (hwj : Region.wanted oj (yielded ops a.tmps) = true)
    (h1 : oi.wp P a w (fun a' w' => S w' ∧ wpAnyH P md ops Q S fuel (listed.setIfInBounds i true) a' w') Q)
    (h2 : oj.wp P a w (fun a' w' => S w' ∧ wpAnyH P md ops Q S fuel (listed.setIfInBounds j true) a' w') Q) : wpAnyH P md ops Q S (fuel + 1) listed a w :=
  wpAnyH_all hr (by simp) (fun k hk => by
    have h : k = i ∨ k = j := by simpa using hk
    rcases h with rfl | rfl
    · unfold wpOp; simp only [hi]; rw [if_pos hwi]; exact .inl h1
    · unfold wpOp; simp only [hj]; rw [if_pos hwj]; exact .inl h2)
theorem held_three {P : Program} {ops : Array Oper} {Q : Exit → Act → World → Prop} {md : Region.Mode} {S : World → Prop} {i j l : Nat} {oi oj ol : Oper} {fuel : Nat} {listed : Array Bool} {a : Act} {w : World} (hi : ops[i]? = some oi) (hj : ops[j]? = some oj) (hl : ops[l]? = some ol) (hr : Region.ready md ops listed = [i, j, l])
    (hwi : Region.wanted oi (yielded ops a.tmps) = true) (hwj : Region.wanted oj (yielded ops a.tmps) = true) (hwl : Region.wanted ol (yielded ops a.tmps) = true)
    (h1 : oi.wp P a w (fun a' w' => S w' ∧ wpAnyH P md ops Q S fuel (listed.setIfInBounds i true) a' w') Q)
    (h2 : oj.wp P a w (fun a' w' => S w' ∧ wpAnyH P md ops Q S fuel (listed.setIfInBounds j true) a' w') Q)
    (h3 : ol.wp P a w (fun a' w' => S w' ∧ wpAnyH P md ops Q S fuel (listed.setIfInBounds l true) a' w') Q) : wpAnyH P md ops Q S (fuel + 1) listed a w :=
  wpAnyH_all hr (by simp) (fun k hk => by
    have h : k = i ∨ k = j ∨ k = l := by simpa using hk
    rcases h with rfl | rfl | rfl
    · unfold wpOp; simp only [hi]; rw [if_pos hwi]; exact .inl h1
    · unfold wpOp; simp only [hj]; rw [if_pos hwj]; exact .inl h2
    · unfold wpOp; simp only [hl]; rw [if_pos hwl]; exact .inl h3)
theorem Fr.set3 {o : Int} {n : ByteArray} {v : V} {ks : List X} {A : Option Addr} {c x0 r0 : Nat} {u : V} {w W : World} (h : Fr o n v ks A c x0 r0 u w W) {g : Nat} (h1 : g ≠ x0) (h2 : g ≠ r0) (h3 : w.heap.size ≤ g) (y : V) : Fr o n v ks A c x0 r0 u w (((W.setCell ⟨g, 0, none⟩ (.int .i64 y.k)).setCell ⟨g, 1, none⟩ (.int .i64 y.n)).setCell ⟨g, 2, none⟩ (.string y.s)) := by
  have e : ∀ q, g ≠ q → (((W.setCell ⟨g, 0, none⟩ (.int .i64 y.k)).setCell ⟨g, 1, none⟩ (.int .i64 y.n)).setCell ⟨g, 2, none⟩ (.string y.s)).heap[q]? = W.heap[q]? := fun q hq =>
    (Below.heap_setCell _ _ _ _ (Ne.symm hq)).trans ((Below.heap_setCell _ _ _ _ (Ne.symm hq)).trans (Below.heap_setCell _ _ _ _ (Ne.symm hq)))
  exact ⟨(e _ h1).trans h.x, (e _ h2).trans h.r, set3_below h.b h3 _ _ _, h.h0⟩
theorem Box3.set3 {W : World} {q : Nat} {u : V} (h : Box3 W q u) {g : Nat} (h1 : g ≠ q) (y : V) : Box3 (((W.setCell ⟨g, 0, none⟩ (.int .i64 y.k)).setCell ⟨g, 1, none⟩ (.int .i64 y.n)).setCell ⟨g, 2, none⟩ (.string y.s)) q u :=
  ((Below.heap_setCell _ _ _ _ (Ne.symm h1)).trans ((Below.heap_setCell _ _ _ _ (Ne.symm h1)).trans (Below.heap_setCell _ _ _ _ (Ne.symm h1)))).trans h
def twoR (r0 r1 : V × Int) (F : V → V → V × Int) : V × Int := if r0.2 ≠ 0 then (nulV, r0.2) else if r1.2 ≠ 0 then (nulV, r1.2) else if r0.1.k = 0 ∨ r1.1.k = 0 then (nulV, 0) else F r0.1 r1.1
section
variable (cs : List C) (row : List V) (cA : Option Addr) (cc : Nat) (rA : Option Addr) (rc : Nat) (B b : Nat)
end
end Go.Proofs.YtclcabdekeegdaaGreat
