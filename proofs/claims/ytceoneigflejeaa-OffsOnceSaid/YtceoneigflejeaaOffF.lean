/- The walk of Follows: a range over an iterator of two. -/
import Derived.Test.YtceoneigflejeaaOffN
import Derived.Test.YtceoneigflejeaaRangeV
import Derived.Shelf.Abstract
namespace Go.Proofs.Ytceoneigflejeaa
attribute [local go_sem] Oper.semAt_some
open Go.ChangeShapes Go.WideShapes Go.ChangeAt Go.RowKit Go.Shelf
set_option linter.unusedVariables false

/-- Between two rounds: below the loop's own blocks all lies as it lay where the loop began. -/
structure RunI (w W0 W : World) : Prop where
  low : Low W0.heap.size W0 W
  below : Below w.heap.size w W
  size : W0.heap.size + 2 ≤ W.heap.size
/-- Behind a round that has left the loop: the answer's box. -/
structure RunX (w W0 W : World) : Prop where
  box : Boxed W w.heap.size 4 (.bool false)
  below : Below w.heap.size w W
  size : W0.heap.size + 2 ≤ W.heap.size
section
variable {w W0 W V : World}
theorem RunI.start (hb : Below w.heap.size w W0) (hg : W0.grownBy V none) (hs : V.heap.size = W0.heap.size + 2) : RunI w W0 V :=
  ⟨⟨hg.size, fun k hk => hg.block k hk (by simp)⟩, hb.grown hg hb.size (fun k e => by cases e), by omega⟩
theorem RunI.grown (h : RunI w W0 W) (hg : W.grownBy V none) : RunI w W0 V :=
  ⟨h.low.trans (h.low.grown (Nat.le_refl _) hg), h.below.grown hg h.below.size (fun k e => by cases e), Nat.le_trans h.size hg.size⟩
theorem RunX.grown (h : RunX w W0 W) (hg : W.grownBy V none) : RunX w W0 V :=
  ⟨h.box.kept hg (by simp), h.below.grown hg h.below.size (fun k e => by cases e), Nat.le_trans h.size hg.size⟩
theorem low_put {D : Nat} (W : World) (o : Obj) : Low D W (W.putObj (D + 1) o) := ⟨by simp, fun k h2 => World.putObj_heap_other (by omega)⟩
theorem below_put {B D : Nat} {w W : World} (h : Below B w W) (hB : B ≤ D) (o : Obj) : Below B w (W.putObj D o) :=
  ⟨h.os, h.tape, h.output, by simpa using h.size, fun k h2 => (World.putObj_heap_other (by omega)).trans (h.block k h2)⟩
theorem RunI.put (h : RunI w W0 W) (hw : w.heap.size ≤ W0.heap.size) (o : Obj) : RunI w W0 (W.putObj (W0.heap.size + 1) o) :=
  ⟨h.low.trans (low_put W o), below_put h.below (by omega) o, by simpa using h.size⟩
theorem RunX.put (h : RunX w W0 W) (hw : w.heap.size < W0.heap.size) (o : Obj) : RunX w W0 (W.putObj (W0.heap.size + 1) o) :=
  ⟨(World.putObj_heap_other (by omega)).trans h.box, below_put h.below (by omega) o, by simpa using h.size⟩
theorem RunI.box {v : Value} {T : TypeId} {B : Nat} (h : RunI w W0 W) (hb : Boxed W0 B T v) : Boxed W B T v := (h.low.block _ hb.lt).trans hb
/-- A round goes on. -/
theorem RunI.next (h : RunI w W0 W) (hb : Below W.heap.size W V) : BookKept W0.heap.size W V ∧ Low W0.heap.size W V ∧ RunI w W0 V := by
  have hs := h.size
  refine ⟨⟨hb.block _ (by omega), hb.block _ (by omega)⟩, Low.of_below (by omega) hb, h.grown (grown_of_below hb)⟩
/-- A round leaves the loop. -/
theorem RunI.leave (h : RunI w W0 W) (hb : Below W.heap.size W V) (h0 : Boxed W0 w.heap.size 4 (.bool false)) :
    BookKept W0.heap.size W (V.setCell ⟨w.heap.size, 0, none⟩ (.bool false)) ∧ RunX w W0 (V.setCell ⟨w.heap.size, 0, none⟩ (.bool false)) := by
  have hs := h.size
  have h2 := h.grown (grown_of_below hb)
  have hlt := h0.lt
  refine ⟨⟨(Below.heap_setCell _ _ _ _ (by simp; omega)).trans (hb.block _ (by omega)), (Below.heap_setCell _ _ _ _ (by simp; omega)).trans (hb.block _ (by omega))⟩, (h2.box h0).set _, h2.below.setCell (by simp) _, by simpa using h2.size⟩
/-- What is left where the answer is read. -/
theorem RunX.end_ (h : RunX w W0 W) (hlt : w.heap.size < W0.heap.size) (o : Obj) : (W.putObj W0.heap.size o).cell? ⟨w.heap.size, 0, none⟩ = some (.bool false) ∧ Below w.heap.size w (W.putObj W0.heap.size o) := by
  have hb : Boxed (W.putObj W0.heap.size o) w.heap.size 4 (.bool false) := (World.putObj_heap_other (by omega)).trans h.box
  exact ⟨hb.cell, below_put h.below (by omega) o⟩
theorem RunI.end_ (h : RunI w W0 W) (h0 : Boxed W0 w.heap.size 4 (.bool false)) (hK : W.heap[W0.heap.size]? = some (.deferred (some []))) (b : Value) (o : Obj) :
    (W.setCell ⟨w.heap.size, 0, none⟩ b).heap[W0.heap.size]? = some (.deferred (some [])) ∧ ((W.setCell ⟨w.heap.size, 0, none⟩ b).putObj W0.heap.size o).cell? ⟨w.heap.size, 0, none⟩ = some b ∧ Below w.heap.size w ((W.setCell ⟨w.heap.size, 0, none⟩ b).putObj W0.heap.size o) := by
  have hlt := h0.lt
  have hb : Boxed ((W.setCell ⟨w.heap.size, 0, none⟩ b).putObj W0.heap.size o) w.heap.size 4 b := (World.putObj_heap_other (by omega)).trans ((h.box h0).set b)
  exact ⟨(Below.heap_setCell _ _ _ _ (by simp; omega)).trans hK, hb.cell, below_put (h.below.setCell (by simp) b) (by omega) o⟩
end
theorem nbR_walk (A1 A2 : Option Addr) (n1 c1 n2 c2 : Nat) (w : World) :
    Calls Try.prog 22 #[.slice A1 n1 c1, .slice A2 n2 c2] w fun e w' => e = .returned (.func (.func 28) #[] #[.pointer (some ⟨w.heap.size, 0, none⟩), .pointer (some ⟨w.heap.size + 1, 0, none⟩)]) ∧
      w' = (w.alloc (.cells #[.slice A1 n1 c1] 22)).alloc (.cells #[.slice A2 n2 c2] 22) := by
  go_enter Try.func22, Try.ntmps22
  go_wp2
  go_ret
  exact ⟨rfl, rfl⟩
/-- The loop's two variables, in boxes. -/
def boxR (x : Rg × Rg) (W : World) : World := (W.alloc (.cells #[.int .i64 x.1.f, .int .i64 x.1.t] 26)).alloc (.cells #[.int .i64 x.2.f, .int .i64 x.2.t] 26)
theorem boxR_below (x : Rg × Rg) (W : World) : Below W.heap.size W (boxR x W) := ((Below.refl _ W).alloc (Nat.le_refl _) _).alloc (by simp) _
structure AtR (x : Rg × Rg) (U W : World) : Prop where
  c0 : W.cell? ⟨U.heap.size, 0, none⟩ = some (.int .i64 x.1.f)
  c1 : W.cell? ⟨U.heap.size, 1, none⟩ = some (.int .i64 x.1.t)
  d0 : W.cell? ⟨U.heap.size + 1, 0, none⟩ = some (.int .i64 x.2.f)
  d1 : W.cell? ⟨U.heap.size + 1, 1, none⟩ = some (.int .i64 x.2.t)
theorem cell_putObj {W : World} {k : Nat} {p : Addr} {v : Value} (o : Obj) (h : W.cell? p = some v) (hne : p.block ≠ k) : (W.putObj k o).cell? p = some v :=
  (World.cell?_of_block (World.putObj_heap_other hne)).trans h
theorem AtR.made {x : Rg × Rg} {W : World} {D : Nat} (h : D + 1 < W.heap.size) (o : Obj) : AtR x W ((boxR x W).putObj (D + 1) o) := by
  refine ⟨cell_putObj o ?_ ?_, cell_putObj o ?_ ?_, cell_putObj o ?_ ?_, cell_putObj o ?_ ?_⟩
  all_goals first | (show _ ≠ _; dsimp only; omega) | (unfold boxR; simp [go_sem])
theorem meets_pre {l m : List Rg} {pre : List (Rg × Rg)} {x y : Rg} (h : MeetTo l m pre.length) (hx : NextIn l m pre (x, y)) (e : x.t = y.f) : MeetTo l m (pre ++ [(x, y)]).length := by
  obtain ⟨h1, h2, he⟩ := hx
  injection he with hx hy
  rw [List.length_append]
  exact h.next h1 h2 (by rw [← hx, ← hy]; exact e)
theorem meets_not {l m : List Rg} {pre : List (Rg × Rg)} {x y : Rg} (hx : NextIn l m pre (x, y)) (e : x.t ≠ y.f) : folB l m = false := by
  obtain ⟨h1, h2, he⟩ := hx
  injection he with hx hy
  exact fol_at h1 h2 (by rw [← hx, ← hy]; exact e)

set_option maxRecDepth 100000 in
set_option maxHeartbeats 4000000 in
theorem follows_walk (l m : List Rg) (A A2 : Option Addr) (n c n2 c2 : Nat) (w : World) (hn : n = l.length) (hm : n ≤ maxLen) (hat : RowC rgCells 2 w w.heap.size A l)
    (hn2 : n2 = m.length) (hm2 : n2 ≤ maxLen) (hat2 : RowC rgCells 2 w w.heap.size A2 m) :
    Calls Try.prog 14 #[.slice A n c, .slice A2 n2 c2] w fun e w' => e = .returned (.bool (folB l m)) ∧ Below w.heap.size w w' := by
  have HN := Lib.hid hn
  have HA := Lib.hid hat
  have HN2 := Lib.hid hn2
  have HA2 := Lib.hid hat2
  have hn9 : n ≤ 9223372036854775807 := by unfold maxLen at hm; omega
  have HC := Lib.hid (fun W (h : Below w.heap.size w W) => check_walk l A n c W HN.out hm ((HA.out.below h).more h.size))
  have HC2 := Lib.hid (fun W (h : Below w.heap.size w W) => check_walk m A2 n2 c2 W HN2.out hm2 ((HA2.out.below h).more h.size))
  have HB0 := Lib.hid ((Below.refl w.heap.size w).alloc (Nat.le_refl _) (.cells #[.bool false] 4))
  have HX0 := Lib.hid (Boxed.new w 4 (.bool false))
  clear hat hn hm hat2 hn2 hm2
  cases hr : rightB l with
  | false =>
    have HF := Lib.hid (fol_no1 (b := m) hr)
    have HE := Lib.hid (chkO_no hr)
    rw [HE.out] at HC
    clear hr
    go_enter Try.func14, Try.ntmps14
    go_wp2_with (go_at_call 9; refine (HC.out _ HB0.out).mono ?_; rintro e w1 ⟨rfl, hb1⟩; have HB := Lib.hid (HB0.out.trans (hb1.mono HB0.out.size)); have HX := Lib.hid (show Boxed w1 w.heap.size 4 (.bool false) from (hb1.block _ HX0.out.lt).trans HX0.out); have x0 := HX.out.cell; have x1 := HX.out.frozen; clear hb1)
    have y0 := (HX.out.set (.bool false)).cell
    exact bodyPost_ret (v := .bool false) (by simp [results, Try.results14, go_sem, y0]) rfl ⟨by rw [HF.out], HB.out.setCell (by simp) _⟩
  | true =>
  have HR1 := Lib.hid hr
  have HE := Lib.hid (chkO_yes hr)
  rw [HE.out] at HC
  clear hr HE
  cases hr2 : rightB m with
  | false =>
    have HF := Lib.hid (fol_no2 (a := l) hr2)
    have HE := Lib.hid (chkO_no hr2)
    rw [HE.out] at HC2
    clear hr2
    go_enter Try.func14, Try.ntmps14
    go_wp2_with (first | (go_at_call 9; refine (HC2.out _ HB.out).mono ?_; rintro e w2 ⟨rfl, hb2⟩; have HB2 := Lib.hid (hop HB.out hb2); have HX2 := Lib.hid (show Boxed w2 w.heap.size 4 (.bool false) from (hb2.block _ HX.out.lt).trans HX.out); have x2 := HX2.out.cell; have x3 := HX2.out.frozen; clear hb2) | (go_at_call 9; refine (HC.out _ HB0.out).mono ?_; rintro e w1 ⟨rfl, hb1⟩; have HB := Lib.hid (hop HB0.out hb1); have HX := Lib.hid (show Boxed w1 w.heap.size 4 (.bool false) from (hb1.block _ HX0.out.lt).trans HX0.out); clear hb1))
    have y0 := (HX2.out.set (.bool false)).cell
    exact bodyPost_ret (v := .bool false) (by simp [results, Try.results14, go_sem, y0]) rfl ⟨by rw [HF.out], HB2.out.setCell (by simp) _⟩
  | true =>
  have HR2 := Lib.hid hr2
  have HE := Lib.hid (chkO_yes hr2)
  rw [HE.out] at HC2
  clear hr2 HE
  by_cases hl : n = n2
  · subst hl
    refine (callsIn_wide (n := 6)).1 ?_
    refine callsIn_of_wp_marks Try.func14 rfl trivial ?_ rfl
    simp only [Try.ntmps14, List.size_toArray, List.length_cons, List.length_nil, Nat.reduceAdd, Nat.reduceSub, Array.replicate_succ, Array.replicate_zero, List.push_toArray, List.append_toArray, List.nil_append, List.cons_append]
    gi_wp2_with (first | (refine ⟨trivial, ?_⟩; gi_at_call 9; refine (callsIn_wide.2 (HC2.out _ HB.out)).mono ?_; rintro e w2 ⟨rfl, hb2⟩; have HB2 := Lib.hid (hop HB.out hb2); have HX2 := Lib.hid (show Boxed w2 w.heap.size 4 (.bool false) from (hb2.block _ HX.out.lt).trans HX.out); clear hb2) | (refine ⟨trivial, ?_⟩; gi_at_call 9; refine (callsIn_wide.2 (HC.out _ HB0.out)).mono ?_; rintro e w1 ⟨rfl, hb1⟩; have HB := Lib.hid (hop HB0.out hb1); have HX := Lib.hid (show Boxed w1 w.heap.size 4 (.bool false) from (hb1.block _ HX0.out.lt).trans HX0.out); clear hb1))
    refine ⟨trivial, ?_⟩
    gi_at_call 22
    refine (callsIn_wide.2 (nbR_walk _ _ _ _ _ _ w2)).mono ?_
    rintro e W0 ⟨rfl, hW0⟩
    obtain ⟨q, hq⟩ : ∃ q, w2.heap.size = q := ⟨_, rfl⟩
    have hsz : W0.heap.size = q + 2 := by rw [hW0, ← hq]; simp
    have hbW : Below w2.heap.size w2 W0 := by rw [hW0]; exact ((Below.refl _ w2).alloc (Nat.le_refl _) _).alloc (by simp) _
    have hwq : w.heap.size < q := by rw [← hq]; exact HX2.out.lt
    have z1 : W0.cell? ⟨q, 0, none⟩ = some (.slice A n c) := by rw [hW0, ← hq]; simp [go_sem]
    have z2 : W0.cell? ⟨q + 1, 0, none⟩ = some (.slice A2 n c2) := by rw [hW0, ← hq]; simp [go_sem]
    have hBW := hop HB2.out hbW
    have hbox : Boxed W0 w.heap.size 4 (.bool false) := (hbW.block _ HX2.out.lt).trans HX2.out
    have hrow1 := (HA.out.below hBW).more (B' := q + 2) (by omega)
    have hrow2 := (HA2.out.below hBW).more (B' := q + 2) (by omega)
    have HBW := Lib.hid hBW
    have HBX := Lib.hid hbox
    have HSZ := Lib.hid hsz
    have HN9 := Lib.hid hn9
    rw [hq]
    clear hW0 hsz hq
    gi_wp2
    have hsz := HSZ.out
    refine range_box rfl (by omega) (gf := 28) (lb := #[.pointer (some ⟨q, 0, none⟩), .pointer (some ⟨q + 1, 0, none⟩)]) rfl trivial (enters_of Try.func28 (by kernel_rfl) rfl)
      (nbR_seq _ (by omega) l m n HN.out HN2.out hn9 q (q + 1) c c2 (q + 2) A A2 W0 (by omega) (by omega) (by omega) z1 z2 hrow1 hrow2) (fun _ => rfl)
      Low.trans (Low.refl _ W0) (fun h hg => h.grown (by omega) hg) (fun U o => by rw [hsz]; exact low_put U o)
      (fun pre W => RunI w W0 W ∧ MeetTo l m pre.length) (fun c pre W => c = .ret ∧ RunX w W0 W ∧ folB l m = false)
      (fun _ _ _ hi hg => ⟨hi.1.grown hg, hi.2⟩) (fun _ _ _ _ hi hg => ⟨hi.1, hi.2.1.grown hg, hi.2.2⟩) (fun _ _ _ _ hi _ => ⟨hi.1.put (by omega) _, hi.2⟩) (fun _ _ _ _ _ hi _ => ⟨hi.1, hi.2.1.put (by omega) _, hi.2.2⟩)
      (fun _ _ _ _ _ hy _ => hy) (fun _ _ _ _ hy _ => hy) ?start boxR (fun x W => grown_of_below (boxR_below x W)) AtR (fun x W r r' hb => AtR.made hb.lt _) ?a1 ?assign ?body ?done ?stop
    case start =>
      intro W1 hg hs1
      exact ⟨RunI.start hBW hg hs1, fun j _ _ h => absurd h (by simp)⟩
    case assign =>
      intro l0 x W K hK
      gi_wp2
      exact hK
    case body =>
      rintro l0 pre ⟨x, y⟩ U W ⟨hI, hM⟩ hx hat
      have c0 := hat.c0
      have c1 := hat.c1
      have d0 := hat.d0
      have d1 := hat.d1
      dsimp only at c0 c1 d0 d1
      have HI := Lib.hid hI
      have HP := Lib.hid (fun e => meets_pre hM hx e)
      have HQ := Lib.hid (fun e => meets_not hx e)
      have x0 := (hI.box hbox).cell
      have x1 := (hI.box hbox).frozen
      have hws : w.heap.size < W.heap.size := by have := hI.size; omega
      have HB2 := Lib.hid (Below.refl W.heap.size W)
      clear hat hI hM hx hbW z1 z2 hBW hrow1 hrow2 hbox
      by_cases he : x.t = y.f
      · have HP2 := Lib.hid (HP.out he)
        have e1 : (x.t != y.f) = false := by rw [he]; simp
        have e2 : (x.t == y.f) = true := by rw [he]; simp
        clear he
        gi_wp2
        obtain ⟨r1, r2, r3⟩ := HI.out.next HB2.out
        rw [← HSZ.out]
        exact ⟨r1, r2, r3, HP2.out⟩
      · have HQ2 := Lib.hid (HQ.out he)
        have e1 : (x.t != y.f) = true := by rw [bne_iff_ne]; exact he
        have e2 : (x.t == y.f) = false := by rw [beq_eq_false_iff_ne]; exact he
        clear he
        gi_wp2
        obtain ⟨r1, r2⟩ := HI.out.leave HB2.out HBX.out
        exact ⟨r1, rfl, r2, HQ2.out⟩
    case done =>
      rintro xs W hxs ⟨hI, hM⟩ hK
      have HF := Lib.hid (hM.all (by rw [hxs, HN.out]; exact Nat.le_refl _) (by rw [← HN.out, ← HN2.out]) HR1.out HR2.out)
      obtain ⟨r1, r2, r3⟩ := hI.end_ hbox hK (.bool true) (.deferred none)
      have x0 := (hI.box hbox).cell
      have x1 := (hI.box hbox).frozen
      gi_wp2
      refine ⟨by simp, .inl ⟨_, _, rfl, run_takeDeferred r1, ?_⟩⟩
      exact ⟨.bool true, by simp [results, Try.results14, go_sem, r2], by rw [HF.out], r3⟩
    case stop =>
      rintro c pre W ⟨rfl, hX, hF⟩ hK
      obtain ⟨r2, r3⟩ := hX.end_ (by omega) (.deferred none)
      gi_wp2
      refine ⟨by simp, .inl ⟨_, _, rfl, run_takeDeferred hK, ?_⟩⟩
      exact ⟨.bool false, by simp [results, Try.results14, go_sem, r2], by rw [hF], r3⟩
  · have HF := Lib.hid (fol_no3 (a := l) (b := m) (by rw [← HN.out, ← HN2.out]; exact hl))
    have e1 : ((n : Int) != (n2 : Int)) = true := by rw [bne_iff_ne]; omega
    have e2 : ((n : Int) == (n2 : Int)) = false := by rw [beq_eq_false_iff_ne]; omega
    have e3 : (n == n2) = false := by rw [beq_eq_false_iff_ne]; omega
    have e4 : (n != n2) = true := by rw [bne_iff_ne]; omega
    clear hl
    go_enter Try.func14, Try.ntmps14
    go_wp2_with (first | (go_at_call 9; refine (HC2.out _ HB.out).mono ?_; rintro e w2 ⟨rfl, hb2⟩; have HB2 := Lib.hid (hop HB.out hb2); have HX2 := Lib.hid (show Boxed w2 w.heap.size 4 (.bool false) from (hb2.block _ HX.out.lt).trans HX.out); have x2 := HX2.out.cell; have x3 := HX2.out.frozen; clear hb2) | (go_at_call 9; refine (HC.out _ HB0.out).mono ?_; rintro e w1 ⟨rfl, hb1⟩; have HB := Lib.hid (hop HB0.out hb1); have HX := Lib.hid (show Boxed w1 w.heap.size 4 (.bool false) from (hb1.block _ HX0.out.lt).trans HX0.out); clear hb1))
    have y0 := (HX2.out.set (.bool false)).cell
    exact bodyPost_ret (v := .bool false) (by simp [results, Try.results14, go_sem, y0]) rfl ⟨by rw [HF.out], HB2.out.setCell (by simp) _⟩
end Go.Proofs.Ytceoneigflejeaa
