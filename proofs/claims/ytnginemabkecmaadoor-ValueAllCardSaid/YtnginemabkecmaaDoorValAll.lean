/- The walk of the law that All visits a row as it was. -/
import Derived.Test.YtnginemabkecmaaDoorValBack
import Derived.Test.YtnginemabkecmaaDoorValAllC
import Derived.Sort.QuietTacIn
import Derived.LoopNIn
import Derived.Laws.ResultCell
namespace Go.Proofs.YtnginemabkecmaaDoor
attribute [local go_sem] Oper.semAt_some
open Go.ChangeShapes Go.WideShapes Go.ChangeAt Go.RowKit Go.Shelf
set_option linter.unusedVariables false

section
variable {F : Fence} {n : Nat} {P : Program} {ops : Array Oper} {md : Region.Mode} {C : World → Prop}
/-- In a round, too, a region that only reads is walked once. -/
theorem any_of_quiet {Q : Act → Prop} {Q' : Exit → Act → World → Prop} (hnd : ∀ (i : Nat) (o : Oper), ops[i]? = some o → ∀ c, o.op ≠ .defer c) (hQ : ∀ a w, C w → Q a → Q' .normal a w) : ∀ (fuel : Nat) (listed : Array Bool) (a : Act) (w : World), C w →
    wpAnyQIn F n P md ops C Q fuel listed a → wpAnyIn F n P md ops Q' fuel listed a w
  | 0, _, _, _, hw, h => ⟨h.1, hQ _ _ hw h.2⟩
  | fuel + 1, listed, a, w, hw, h => by
    refine ⟨fun h0 => hQ _ _ hw (h.1 h0), fun i hi => ?_⟩
    have h2 := h.2 i hi
    have ih := fun l2 a2 w2 => any_of_quiet hnd hQ fuel l2 a2 w2
    unfold qOpIn at h2
    unfold wpOpIn
    cases ho : ops[i]? with
    | none => rw [ho] at h2; exact ih _ _ _ hw h2
    | some o =>
      rw [ho] at h2
      dsimp only at h2 ⊢
      obtain ⟨hask, h3⟩ := h2
      by_cases hwt : Region.wanted o (yielded ops a.tmps) = true
      · rw [if_pos hwt] at h3 ⊢
        obtain ⟨v, hv, hK⟩ := h3
        have hv1 := hv w hw
        unfold Oper.quietAtIn at hv1
        refine ⟨hask w hw, ?_⟩
        rw [Oper.semAt_eq _ _ _ (hnd i o ho)]
        revert hv1
        generalize (execOp a.eval o).run P w = r
        intro hv1
        cases r with
        | halt x w' => exact hv1.elim
        | ok x w' =>
          cases x <;> try exact hv1.elim
          · obtain ⟨e1, e2⟩ := hv1
            subst e1 e2
            exact ih _ _ _ hw hK
          · obtain ⟨e1, e2⟩ := hv1
            subst e1 e2
            exact ih _ _ _ hw hK
          · obtain ⟨e1, hd, hc⟩ := hv1
            subst e1
            refine ⟨hd, hc.mono ?_⟩
            rintro e w2 ⟨rfl, hw2⟩
            exact ih _ _ _ hw2 hK
      · rw [if_neg hwt] at h3 ⊢
        exact ⟨hask w hw, ih _ _ _ hw h3⟩
theorem region_quiet {id : Nat} {Q : Exit → Act → World → Prop} {a : Act} {w : World} {l : List Oper} (hnd : ∀ o ∈ l, ∀ c, o.op ≠ .defer c) (hm : P.follows .mixedOrders = true) (hB : Region.lexB .any l.toArray = true)
    (h : wpQuietIn F n P l.toArray (fun w' => ∃ n, w' = w.drewN n) (fun a' => ∀ w', (∃ n, w' = w.drewN n) → Q .normal a' w') l a) : (Code.region id l.toArray true).wpIn F n P Q a w := by
  simp only [Region.lexB, Bool.and_eq_true] at hB
  refine wpIn_region_any hm (any_of_quiet (C := fun w' => ∃ n, w' = w.drewN n) (Q := fun a' => ∀ w', (∃ n, w' = w.drewN n) → Q .normal a' w') (fun i o h => hnd o (List.mem_of_getElem? (by simpa using h))) (fun _ w' hw' h => h w' hw') _ _ _ _ ⟨1, rfl⟩ ?_)
  have := wpAnyQIn_lex (F := F) (n := n) (P := P) (C := fun w' => ∃ n, w' = w.drewN n) (Q := fun a' => ∀ w', (∃ n, w' = w.drewN n) → Q .normal a' w') (md := .any) hB.1 l 0 (Array.replicate l.toArray.size false) a (by simp) (by simpa using hB.2) h
  simpa using this
end

/-- A round's value: the place and what lay there. -/
def At (l : List V) := {p : Nat × V // p.2 = l.getD p.1 noV}
def atOf (l : List V) (k : Nat) : At l := ⟨(k, l.getD k noV), rfl⟩
theorem atOf_val (l : List V) (k : Nat) (h : k < l.length) : (atOf l k).1 = (k, l[k]) := by
  unfold atOf
  simp only [getD_at h]
theorem upto_last {l : List V} {k : Nat} {pre : List (At l)} {x : At l} (h : pre ++ [x] = upto (atOf l) k) : x.1.1 = pre.length := by
  have hl := congrArg List.length h
  rw [upto_length, List.length_append, List.length_singleton] at hl
  subst hl
  rw [upto_succ] at h
  have h2 := List.append_inj' h rfl
  have h3 : x = atOf l pre.length := by simpa using h2.2
  rw [h3]
  rfl

theorem spare_own {α : Type} (g D : Nat) (w : World) (hD : D ≤ w.heap.size) : OwnFrom w.heap.size (fun (_ : List α) W => Spare g D w W) := by
  intro s X Y row hs hgr hr
  refine hs.trans ⟨hgr.os, hgr.tape, hgr.output, hgr.size, fun k hk _ => ?_⟩
  exact hgr.block k (by have := hs.size; omega) (fun e => by have := (hr k e.symm).1; omega)
/-- Between two rounds: the count is the rounds' number; nothing else has turned. -/
def Counted {α : Type} (g D : Nat) (w : World) (pre : List α) (W : World) : Prop :=
  Boxed W g 3 (.int .i64 (pre.length : Int)) ∧ Spare g D w W
theorem counted_own {α : Type} (g D : Nat) (w : World) (hD : D ≤ w.heap.size) : OwnFrom w.heap.size (Counted (α := α) g D w) :=
  OwnFrom.and (Own.from (boxed_own g 3 (fun (pre : List α) => .int .i64 (pre.length : Int))) _) (spare_own g D w hD)
/-- What a round that stops leaves: it was the break of the first turn, or a round that never comes. -/
def Stopped {l : List V} (turn : Nat) (g D : Nat) (w : World) (c : Code) (pre : List (At l)) (W : World) : Prop :=
  (∃ (pre0 : List (At l)) (x : At l), pre = pre0 ++ [x] ∧ x.1.1 ≠ pre0.length) ∨ (turn = 0 ∧ c = .exit 4 ∧ Counted g D w pre W)
theorem stopped_own {l : List V} (turn g D : Nat) (w : World) (c : Code) (hD : D ≤ w.heap.size) : OwnFrom w.heap.size (Stopped (l := l) turn g D w c) := by
  intro s X Y row hs hgr hr
  rcases hs with h | ⟨h1, h2, h3⟩
  · exact .inl h
  · exact .inr ⟨h1, h2, counted_own g D w hD s X Y row h3 hgr hr⟩

/-- What the iterator's maker hands back, the copy's block in its bounds. -/
def AllPost2 (l : List V) (w : World) (e : Ending) (w' : World) : Prop :=
  ∃ A c, e = .returned (.func (.func 38) #[] #[.pointer (some ⟨w'.heap.size - 1, 0, none⟩)]) ∧ w.heap.size + 1 ≤ w'.heap.size ∧ Boxed w' (w'.heap.size - 1) 24 (.slice A l.length c) ∧
    Row3 w' (w'.heap.size - 1) A l ∧ (∀ a, A = some a → w.heap.size ≤ a.block ∧ a.block < w'.heap.size) ∧ Below w.heap.size w w'
theorem all_any2 (l : List V) (len c : Nat) (A : Option Addr) (w : World) (hl : len = l.length) (hm : len ≤ 65536) (hr : Row3 w w.heap.size A l) :
    Calls Tryd.prog 29 #[.slice A len c] w (AllPost2 l w) := by
  have H := Lib.hid (clone_any l len c A w hl hm hr)
  clear hl hr
  go_enter Tryd.func29, Tryd.ntmps29
  go_wp2_with (go_at_call 37; refine H.out.mono ?_; rintro e w1 ⟨A1, c1, rfl, ho, hb⟩; have HO := Lib.hid ho; have HB := Lib.hid hb; clear ho hb)
  go_ret
  have hr1 := (row3_of_own HO.out).2
  refine ⟨A1, c1, by simp, by have := HB.out.size; simp; omega, by simp; exact Boxed.new _ _ _, ?_, fun a ha => ⟨(HO.out.lt _ (by rw [ha]; rfl)).1, by have := (HO.out.lt _ (by rw [ha]; rfl)).2; simp; omega⟩, HB.out.alloc HB.out.size _⟩
  simp
  exact hr1.below ((Below.refl _ _).alloc (Nat.le_refl _) _)
theorem boxed_less {W W' : World} {g D : Nat} {t : TypeId} {v : Value} (h : Boxed W g t v) (hb : Below D W W') (hg : g < D) : Boxed W' g t v := (hb.block g hg).trans h

theorem keeps_drew (W : World) (n : Nat) (B : Nat) (p : Addr) (v : Value) : KeepsFrom B W ((W.drewN n).setCell p v) :=
  KeepsFrom.trans (Y := W.drewN n) ⟨Nat.le_refl _, fun _ _ _ h _ => h⟩ ((KeepsOthers.setCell _ _ _).from _)
theorem spare_drew {g D : Nat} {w W : World} (h : Spare g D w W) (n : Nat) (v : Value) : Spare g D w ((W.drewN n).setCell ⟨g, 0, none⟩ v) :=
  Spare.set (w := W.drewN n) ⟨h.os, h.tape, h.output, h.size, h.block⟩ v
theorem boxed_drew {W : World} {g : Nat} {t : TypeId} {u : Value} (h : Boxed W g t u) (n : Nat) (v : Value) : Boxed ((W.drewN n).setCell ⟨g, 0, none⟩ v) g t v := by
  have h2 : Boxed (W.drewN n) g t u := h
  exact h2.set v
theorem counted_drew {α : Type} {g D : Nat} {w W : World} {pre : List α} (h : Counted g D w pre W) (n : Nat) (x : α) : Counted g D w (pre ++ [x]) ((W.drewN n).setCell ⟨g, 0, none⟩ (.int .i64 ((pre.length : Int) + 1))) := by
  refine ⟨?_, spare_drew h.2 n _⟩
  have := boxed_drew h.1 n (.int .i64 ((pre.length : Int) + 1))
  simpa using this
theorem u8_wf {n : Int} (h : (Lit.int .u8 n).wf = true) : 0 ≤ n ∧ n ≤ 255 := by
  simpa [Lit.wf, IntKind.min, IntKind.max, IntKind.signed, IntKind.bits] using h
/-- What stands while the turns run. -/
structure Ground (A A3 : Option Addr) (l : List V) (c1 c3 : Nat) (k : Int) (b Bs : Nat) (W : World) : Prop where
  own : Boxed W b 24 (.slice A l.length c1)
  byte : Boxed W (b + 1) 5 (.int .u8 k)
  out : Boxed W (b + 1 + 1) 4 (.bool false)
  it : Boxed W Bs 24 (.slice A3 l.length c3)
  row : Row3 W b A l
  row3 : Row3 W Bs A3 l
  block : ∀ a, A3 = some a → a.block < W.heap.size
  lt : b + 1 + 1 < Bs
  lt2 : Bs < W.heap.size
theorem Ground.less {A A3 : Option Addr} {l : List V} {c1 c3 : Nat} {k : Int} {b Bs D : Nat} {W W' : World} (h : Ground A A3 l c1 c3 k b Bs W) (hb : Below D W W') (hD : W.heap.size ≤ D) : Ground A A3 l c1 c3 k b Bs W' := by
  have h1 := h.lt
  have h2 := h.lt2
  have h3 := hb.size
  exact ⟨boxed_less h.own hb (by omega), boxed_less h.byte hb (by omega), boxed_less h.out hb (by omega), boxed_less h.it hb (by omega), h.row.below (hb.mono (by omega)), h.row3.below (hb.mono (by omega)), fun a e => by have := h.block a e; omega, h1, by omega⟩
theorem Spare.less {g D D' : Nat} {w w' : World} (h : Spare g D w w') (hD : D' ≤ D) : Spare g D' w w' := ⟨h.os, h.tape, h.output, h.size, fun k h1 h2 => h.block k (by omega) h2⟩

set_option maxRecDepth 100000 in
set_option maxHeartbeats 4000000 in
theorem all_walk (l : List V) (hwl : ∀ u ∈ l, u.wf) (n1 c1 : Nat) (A : Option Addr) (k : Int) (w : World) (hl : n1 = l.length) (h1 : n1 ≤ maxLen) (hk0 : 0 ≤ k) (hk1 : k < 256) (hA : Row3 w w.heap.size A l) (hM : MaxAt w) :
    Calls Tryd.prog 9 #[.slice A n1 c1, .int .u8 k] w fun e w' => e = .returned (.bool true) ∧ Below w.heap.size w w' := by
  subst hl
  have HWL := Lib.hid hwl
  have H1 := Lib.hid h1
  have HRA := Lib.hid hA
  have HM := Lib.hid hM
  clear hwl h1 hA hM
  refine (callsIn_wide (n := 6)).1 ?_
  refine callsIn_of_wp_marks Tryd.func9 rfl trivial ?_ rfl
  simp only [Tryd.ntmps9, List.size_toArray, List.length_cons, List.length_nil, Nat.reduceAdd, Nat.reduceSub, Array.replicate_succ, Array.replicate_zero, List.push_toArray, List.append_toArray, List.nil_append, List.cons_append]
  obtain ⟨wb, hwb⟩ : ∃ wb, ((w.alloc (.cells #[.slice A l.length c1] 24)).alloc (.cells #[.int .u8 k] 5)).alloc (.cells #[.bool false] 4) = wb := ⟨_, rfl⟩
  have hszb : wb.heap.size = w.heap.size + 3 := by rw [← hwb]; simp
  have hBb : Below w.heap.size w wb := by rw [← hwb]; exact (((Below.refl _ w).alloc (Nat.le_refl _) _).alloc (by simp) _).alloc (by simp; omega) _
  have b0 : Boxed wb w.heap.size 24 (.slice A l.length c1) := by rw [← hwb]; exact ((Boxed.new w _ _).alloc _).alloc _
  have b1 : Boxed wb (w.heap.size + 1) 5 (.int .u8 k) := by rw [← hwb]; have := Boxed.new (w.alloc (.cells #[.slice A l.length c1] 24)) 5 (.int .u8 k); simp only [World.size_alloc] at this; exact this.alloc _
  have b2 : Boxed wb (w.heap.size + 1 + 1) 4 (.bool false) := by rw [← hwb]; have := Boxed.new ((w.alloc (.cells #[.slice A l.length c1] 24)).alloc (.cells #[.int .u8 k] 5)) 4 (.bool false); simp only [World.size_alloc] at this; exact this
  have HX0 := Lib.hid b0
  have HX1 := Lib.hid b1
  have HX2 := Lib.hid b2
  have HBb := Lib.hid hBb
  clear b0 b1 b2 hBb
  by_cases hbig : bigB l = true
  · have HBG := Lib.hid hbig
    clear hbig
    gi_wp2_with (first | (refine ⟨trivial, ?_⟩; gi_at_call 10; refine (callsIn_wide.2 (alive_any _ (HM.out.later HBb.out))).mono ?_; rintro e w1 ⟨rfl, hb1⟩; have hs1 := hb1.size; have p0 := boxed_less HX0.out hb1 (by omega); have p1 := boxed_less HX1.out hb1 (by omega); have p2 := boxed_less HX2.out hb1 (by omega); have v0 := p0.cell; have v1 := p1.cell; have v2 := p2.cell; have f2 := p2.frozen; have HP0 := Lib.hid p0; have HP1 := Lib.hid p1; have HP2 := Lib.hid p2; have HB1 := Lib.hid (HBb.out.trans (hb1.mono (by omega))); clear hb1 p0 p1 p2) | (refine ⟨trivial, ?_⟩; gi_at_call 22; refine (callsIn_wide.2 (big_any l HWL.out _ c1 A _ rfl H1.out ((HRA.out.below HB1.out).more HB1.out.size))).mono ?_; rw [HBG.out]; rintro e w' ⟨rfl, rfl⟩))
    have r := (HP2.out.set (.bool true)).cell
    exact ⟨.bool true, by simp [results, Tryd.results9, go_sem, r], rfl, HB1.out.setCell (p := ⟨w.heap.size + 1 + 1, 0, none⟩) (by simp; omega) _⟩
  · have HBG := Lib.hid (show bigB l = false by simpa using hbig)
    have H40 := Lib.hid (show l.length ≤ 65536 by unfold bigB at hbig; simp at hbig; omega)
    clear hbig
    gi_wp2_with (first | (refine ⟨trivial, ?_⟩; gi_at_call 10; refine (callsIn_wide.2 (alive_any _ (HM.out.later HBb.out))).mono ?_; rintro e w1 ⟨rfl, hb1⟩; have hs1 := hb1.size; have p0 := boxed_less HX0.out hb1 (by omega); have p1 := boxed_less HX1.out hb1 (by omega); have p2 := boxed_less HX2.out hb1 (by omega); have v0 := p0.cell; have v1 := p1.cell; have v2 := p2.cell; have f2 := p2.frozen; have HP0 := Lib.hid p0; have HP1 := Lib.hid p1; have HP2 := Lib.hid p2; have HB1 := Lib.hid (HBb.out.trans (hb1.mono (by omega))); clear hb1 p0 p1 p2) | (refine ⟨trivial, ?_⟩; gi_at_call 22; refine (callsIn_wide.2 (big_any l HWL.out _ c1 A _ rfl H1.out ((HRA.out.below HB1.out).more HB1.out.size))).mono ?_; rw [HBG.out]; rintro e w' ⟨rfl, rfl⟩) | (refine ⟨trivial, ?_⟩; gi_at_call 28; refine (callsIn_wide.2 (rcopy_any l _ c1 A _ rfl H40.out ((HRA.out.below HB1.out).more HB1.out.size))).mono ?_; rintro e w2 ⟨A2, c2, rfl, ho2, hlt2, hb2⟩; have HO2 := Lib.hid ho2; have HL2 := Lib.hid hlt2; have HB2 := Lib.hid hb2; clear ho2 hlt2 hb2) | (refine ⟨trivial, ?_⟩; gi_at_call 29; refine (callsIn_wide.2 (all_any2 l _ c2 A2 _ rfl H40.out (row3_of_own HO2.out).2)).mono ?_; rintro e w3 ⟨A3, c3, rfl, k1, k2, k3, k4, k5⟩; have K1 := Lib.hid k1; have K2 := Lib.hid k2; have K3 := Lib.hid k3; have K4 := Lib.hid k4; have K5 := Lib.hid k5; clear k1 k2 k3 k4 k5))
    have hL2 := HL2.out
    have hK1 := K1.out
    obtain ⟨g, hg1, hg2, hgA⟩ := own_one HO2.out HL2.out
    have HGA := Lib.hid hgA
    have HO3 := Lib.hid (own_below HO2.out K5.out)
    clear hgA
    gi_loopw [7] (fun iv wr => ∃ (j : Nat) (xs : List Value), j ≤ l.length ∧ iv = .int .i64 (j : Int) ∧ Hid (wr.ownsRow w1.heap.size 23 3 (.slice A2 l.length c2) l.length xs ∧ Spare g w3.heap.size w3 wr)) (fun iv _ => l.length - (intOf iv).toNat)
    case atStart => exact ⟨0, _, Nat.zero_le _, rfl, Lib.hid ⟨HO3.out, Spare.refl _ _ _⟩⟩
    case round =>
      obtain ⟨j, xs, hj, rfl, HK⟩ := hrel
      by_cases hlt : j < l.length
      · have hA2 : A2 = some ⟨g, 0, none⟩ := by
          obtain ⟨g2, cap, e, _, _⟩ := HK.out.1.form (by omega)
          injection e with e1 _ _
          rw [e1, HGA.out _ e1]
        subst hA2
        have ho := HK.out.1
        have hxl := ho.1
        obtain ⟨u0, e0⟩ : ∃ u, xs[j * 3]? = some u := ⟨_, List.getElem?_eq_getElem (by omega)⟩
        obtain ⟨u1, e1⟩ : ∃ u, xs[j * 3 + 1]? = some u := ⟨_, List.getElem?_eq_getElem (by omega)⟩
        obtain ⟨u2, e2⟩ : ∃ u, xs[j * 3 + 2]? = some u := ⟨_, List.getElem?_eq_getElem (by omega)⟩
        have z0 : wr.cell? ⟨g, j * 3, none⟩ = some u0 := (ho.cellAt _ (by omega)).trans e0
        have z1 : wr.cell? ⟨g, j * 3 + 1, none⟩ = some u1 := (ho.cellAt _ (by omega)).trans e1
        have z2 : wr.cell? ⟨g, j * 3 + 2, none⟩ = some u2 := (ho.cellAt _ (by omega)).trans e2
        have y0 := ho.frozenAt (j * 3)
        have y1 := ho.frozenAt (j * 3 + 1)
        have y2 := ho.frozenAt (j * 3 + 2)
        have HOx := Lib.hid ho
        have h40 := H40.out
        clear ho e0 e1 e2
        gi_wp2
        go_roundw
        case rel => exact ⟨j + 1, ((xs.set (j * 3) (.int .i64 9)).set (j * 3 + 1) (.int .i64 0)).set (j * 3 + 2) (.string ⟨#[]⟩), by omega, by go_num, Lib.hid ⟨((((HOx.out.stored _ _).1.stored _ _).1).stored _ _).1, ((HK.out.2.setAt _ _).setAt _ _).setAt _ _⟩⟩
        case measure => simp [intOf]; omega
      · obtain rfl : j = l.length := by omega
        have hsp := HK.out.2
        have hb0 : Below w.heap.size w wr := Spare.to_below (HB1.out.trans ((HB2.out.mono (by omega)).trans (K5.out.mono (by omega)))) hsp (by omega) (by omega)
        have hb12 : Below w1.heap.size w1 wr := Spare.to_below (HB2.out.trans (K5.out.mono (by omega))) hsp (by omega) (by omega)
        have p0 := boxed_less HP0.out hb12 (by omega)
        have p1 := boxed_less HP1.out hb12 (by omega)
        have p2 := boxed_less HP2.out hb12 (by omega)
        have p3 : Boxed wr (w3.heap.size - 1) 24 (.slice A3 l.length c3) := (hsp.block _ (by omega) (by omega)).trans K2.out
        have hr := HRA.out.below hb0
        have hr3 := K3.out.spare (fun a ha => by have := (K4.out a ha).1; omega) (hsp.less (by omega))
        have ha3 : ∀ a, A3 = some a → a.block < wr.heap.size := fun a ha => by have := (K4.out a ha).2; have := hsp.size; omega
        have hs3 := hsp.size
        have HG := Lib.hid (show Ground A A3 l c1 c3 k w.heap.size (w3.heap.size - 1) wr from ⟨p0, p1, p2, p3, hr, hr3, ha3, by omega, by omega⟩)
        have HBW := Lib.hid hb0
        clear hsp hb0 hb12 p0 p1 p2 p3 hr hr3 ha3
        clear HK HO3 HGA K1 K2 K3 K4 K5 HO2 HL2 HB2 HP0 HP1 HP2 v0 v1 v2 f2
        gi_wp2
        have hwa := Boxed.new wr 3 (.int .i64 0)
        have hba : Below wr.heap.size wr (wr.alloc (.cells #[.int .i64 0] 3)) := (Below.refl _ _).alloc (Nat.le_refl _) _
        have hGa := HG.out.less hba (Nat.le_refl _)
        have hBa := HBW.out.trans (hba.mono (by omega))
        have hza : wr.heap.size < (wr.alloc (.cells #[.int .i64 0] 3)).heap.size := by simp
        obtain ⟨wa, hwa2⟩ : ∃ wa, wr.alloc (.cells #[.int .i64 0] 3) = wa := ⟨_, rfl⟩
        rw [hwa2] at hwa hGa hBa hza ⊢
        obtain ⟨tb, htb⟩ : ∃ tb, wr.heap.size = tb := ⟨_, rfl⟩
        obtain ⟨Bs, hBs⟩ : ∃ Bs, w3.heap.size - 1 = Bs := ⟨_, rfl⟩
        rw [htb] at hwa hza ⊢
        rw [hBs] at hGa ⊢
        have HGa := Lib.hid hGa
        have HBa := Lib.hid hBa
        have v8 := hwa.cell
        have HTa := Lib.hid hwa
        clear hba hGa hBa hwa2 hwa HG HBW htb hBs hs3 hL2 hK1 hg1 hg2
        refine wpIn_loop_rounds 3 ?_
        rw [roundsIn_succ]
        gi_wp2
        have hn0 := Boxed.new wa 3 (.int .i64 0)
        have hd0 : Below wa.heap.size wa (wa.alloc (.cells #[.int .i64 0] 3)) := (Below.refl _ _).alloc (Nat.le_refl _) _
        have hz0 : (wa.alloc (.cells #[.int .i64 0] 3)).heap.size = wa.heap.size + 1 := by simp
        obtain ⟨W0, hW0⟩ : ∃ W0, wa.alloc (.cells #[.int .i64 0] 3) = W0 := ⟨_, rfl⟩
        rw [hW0] at hn0 hd0 hz0 ⊢
        clear hW0
        have HD0 := Lib.hid hd0
        have hg0 := HGa.out.less hd0 (Nat.le_refl _)
        refine wpIn_mono (Q := fun e a' W => (e = .normal ∨ e = .exit 4) ∧ ∃ D9, a' = { tmps := #[.slice A l.length c1, .int .u8 k, .pointer (some ⟨w.heap.size, 0, none⟩), .pointer (some ⟨w.heap.size + 1, 0, none⟩), .pointer (some ⟨w.heap.size + 1 + 1, 0, none⟩), .slice A2 l.length c2, .func (.func 38) #[] #[.pointer (some ⟨Bs, 0, none⟩)], .int .i64 (l.length : Int), .pointer (some ⟨tb, 0, none⟩), .pointer (some ⟨wa.heap.size, 0, none⟩), undef, undef, .bool true, .bool false, .slice A l.length c1, .bool false, .slice A l.length c1, .slice A2 l.length c2, .slice A2 l.length c2, .func (.func 38) #[] #[.pointer (some ⟨Bs, 0, none⟩)], .int .i64 (l.length : Int), .slice A2 l.length c2, .int .i64 (l.length : Int), .bool false, u24, u25, u26, u27, u28, u29, .int .i64 0, .bool true, undef, undef, .func (.func 38) #[] #[.pointer (some ⟨Bs, 0, none⟩)], undef, undef, undef, undef, undef, undef, undef, undef, undef, undef, undef, undef, undef, undef, undef, undef, undef, undef, undef, undef, undef, undef, undef, undef, undef, undef, undef, undef, undef, undef, undef, undef, undef, undef, undef, undef, undef, undef], defers := { target := .collected D9, args := #[] } :: [] } ∧ Below wa.heap.size W0 W ∧  W0.heap.size ≤ D9 ∧ W.heap[D9]? = some (.deferred (some []))) ?range0 ?rest0
        case range0 =>
          refine wpIn_rangeFunc_ownH rfl (by omega) (gf := 38) (lb := #[.pointer (some ⟨Bs, 0, none⟩)]) rfl trivial (enters_of Tryd.func38 (by kernel_rfl) rfl)
            (all_stops (fun x : At l => x.1) (atOf l) _ (by omega) Bs wa.heap.size W0.heap.size c3 A3 l H40.out (fun k h => atOf_val l k h) W0 (by have := HGa.out.lt2; omega) (Nat.le_refl _) hg0.it (hg0.row3.more (by have := HGa.out.lt2; omega)) (fun a ha => by have := HGa.out.block a ha; omega))
            Spare.trans (fun W i o o' h1 h2 h3 h4 => Spare.putObj (w := W0) W i o o' (Nat.le_refl _) h1 h2 h3 h4) (Below.refl _ _) (fun _ => rfl)
            (Counted wa.heap.size W0.heap.size W0) (Stopped 0 wa.heap.size W0.heap.size W0) (counted_own _ _ _ (Nat.le_refl _)) (fun c => stopped_own _ _ _ _ c (Nat.le_refl _))
            ⟨hn0, Spare.refl _ _ _⟩
            (fun x a' W => ∃ Bx, W0.heap.size ≤ Bx ∧ Box W Bx x.1.2 ∧ a' = { tmps := #[.slice A l.length c1, .int .u8 k, .pointer (some ⟨w.heap.size, 0, none⟩), .pointer (some ⟨w.heap.size + 1, 0, none⟩), .pointer (some ⟨w.heap.size + 1 + 1, 0, none⟩), .slice A2 l.length c2, .func (.func 38) #[] #[.pointer (some ⟨Bs, 0, none⟩)], .int .i64 (l.length : Int), .pointer (some ⟨tb, 0, none⟩), .pointer (some ⟨wa.heap.size, 0, none⟩), .int .i64 (x.1.1 : Int), .pointer (some ⟨Bx, 0, none⟩), .bool true, .bool false, .slice A l.length c1, .bool false, .slice A l.length c1, .slice A2 l.length c2, .slice A2 l.length c2, .func (.func 38) #[] #[.pointer (some ⟨Bs, 0, none⟩)], .int .i64 (l.length : Int), .slice A2 l.length c2, .int .i64 (l.length : Int), .bool false, u24, u25, u26, u27, u28, u29, .int .i64 0, .bool true, undef, undef, .func (.func 38) #[] #[.pointer (some ⟨Bs, 0, none⟩)], .int .i64 (x.1.1 : Int), .agg #[.int .i64 x.1.2.k, .int .i64 x.1.2.n, .string x.1.2.s], undef, undef, undef, undef, undef, undef, undef, undef, undef, undef, undef, undef, undef, undef, undef, undef, undef, undef, undef, undef, undef, undef, undef, undef, undef, undef, undef, undef, undef, undef, undef, undef, undef, undef, undef, undef], defers := [] })
            ?hax0 ?assign0 ?body0 ?done0 ?stop0
          case hax0 =>
            rintro x a' s X Y row ⟨Bx, h1, h2, h3⟩ hg hr
            refine ⟨Bx, h1, (hg.block Bx h2.lt (fun e => ?_)).trans h2, h3⟩
            obtain ⟨_, o, ho, hc⟩ := hr Bx e.symm
            rw [show X.heap[Bx]? = _ from h2] at ho
            cases ho
            cases hc
          case assign0 =>
            intro l0 pre x W K hi hK
            have hsz := hi.2.size
            gi_wp2
            exact hK _ _ ((KeepsOthers.alloc _ _).from _) ((Spare.refl _ _ _).alloc hsz _) ⟨hi.1.alloc _, hi.2.alloc hsz _⟩ ⟨W.heap.size, hsz, Box.new W x.1.2, rfl⟩
          case body0 =>
            rintro l0 pre x a' W hl0 _ hI ⟨Bx, hBx, hX, rfl⟩ hlt
            obtain ⟨v, hv⟩ : ∃ v, x.1.2 = v := ⟨_, rfl⟩
            obtain ⟨i, hi⟩ : ∃ i, x.1.1 = i := ⟨_, rfl⟩
            have hs := hI.2
            have hbw := (HD0.out).trans (Spare.to_below (Below.refl wa.heap.size W0) hs (Nat.le_refl _) (by omega))
            have hG := HGa.out.less hbw (Nat.le_refl _)
            have hT := boxed_less HTa.out hbw (by omega)
            have hvl : i = pre.length → v = l[pre.length] := fun e => by rw [← hv, x.2, hi, e, getD_at hlt]
            rw [hv] at hX ⊢
            rw [hi] at ⊢
            have o0 := hG.own.cell
            have o1 := hG.byte.cell
            have o2 := hG.out.cell
            have o2f := hG.out.frozen
            have t0 := hT.cell
            have n0 := hI.1.cell
            have nf := hI.1.frozen
            have x0 := hX.k
            have x1 := hX.n
            have x2 := hX.s
            have HI := Lib.hid hI
            have HS := Lib.hid hs
            have HV := Lib.hid hv
            have HII := Lib.hid hi
            have HOUT := Lib.hid hG.out
            have hlt2 := hG.lt
            have hlt3 := hG.lt2
            have hlt4 := HGa.out.lt2
            have h40 := H40.out
            have HROW := Lib.hid hG.row
            have hsz := hs.size
            have HZ := Lib.hid hz0
            clear hz0
            clear hI hs hv hi hG hX hbw hT
            by_cases hx : i = pre.length
            · obtain ⟨bo, off, hAe, hB, c0, c1', c2'⟩ := HROW.out pre.length hlt
              rw [← hvl hx] at c0 c1' c2'
              subst hx
              clear hvl
              subst hAe
              obtain ⟨q, hq⟩ : ∃ q, pre.length = q := ⟨_, rfl⟩
              rw [hq] at c0 c1' c2' hlt n0 ⊢
              have HQ := Lib.hid hq
              clear hq
              have hd1 : ((q : Int) != (q : Int)) = false := by simp
              have hd2 : decide ((l.length : Int) ≤ (q : Int)) = false := decide_eq_false (by omega)
              gi_wp2_with (fail)
              refine region_quiet (by simp) (by kernel_rfl) (by kernel_rfl) ?_
              repeat (quiet_step_in (fail))
              refine wpQuietIn_nil ?_
              rintro _ ⟨nq, rfl⟩
              by_cases hkq : (k : Int) < (q : Int) + 1
              · have hd3 : decide ((k : Int) < (q : Int) + 1) = true := decide_eq_true hkq
                gi_wp2
                have hq := HQ.out
                subst hq
                exact ⟨keeps_drew _ _ _ _ _, .inr ⟨rfl, rfl, counted_drew HI.out nq x⟩⟩
              · have hd3 : decide ((k : Int) < (q : Int) + 1) = false := decide_eq_false hkq
                gi_wp2
                have hq := HQ.out
                subst hq
                exact ⟨keeps_drew _ _ _ _ _, spare_drew (Spare.refl _ _ _) nq _, counted_drew HI.out nq x⟩
            · have hd1 : ((i : Int) != (pre.length : Int)) = true := by rw [bne_iff_ne]; omega
              gi_wp2_with (fail)
              refine region_quiet (by simp) (by kernel_rfl) (by kernel_rfl) ?_
              repeat (quiet_step_in (fail))
              refine wpQuietIn_nil ?_
              rintro _ ⟨nq, rfl⟩
              gi_wp2
              exact ⟨keeps_drew _ _ _ _ _, .inl ⟨pre, x, rfl, by rw [HII.out]; exact hx⟩⟩
          case done0 =>
            rintro D xs W hD rfl hI hK
            exact ⟨.inl rfl, D, rfl, Spare.to_below (Below.refl _ _) hI.2 (Nat.le_refl _) (by omega), hD, hK⟩
          case stop0 =>
            rintro D c pre W hD ⟨kk, hkk, hpre⟩ hix hK
            rcases hix with ⟨pre0, x, hp, hne⟩ | ⟨_, rfl, hI⟩
            · exact absurd (upto_last (hp.symm.trans hpre)) hne
            · exact wpIn_exit ⟨.inr rfl, D, rfl, Spare.to_below (Below.refl _ _) hI.2 (Nat.le_refl _) (by omega), hD, hK⟩
        case rest0 =>
          rintro e a' W ⟨he, D2, rfl, hbw, hD2, hK2⟩
          have hn : ∀ (Q : Exit → Act → World → Prop) (a : Act) (W : World), Exit.inBlock 4 Q .normal a W → Exit.inBlock 4 Q e a W := by rcases he with rfl | rfl <;> intro Q a W h <;> simpa [Exit.inBlock] using h
          refine hn _ _ _ ?_
          clear hn he
          have hbw2 := HD0.out.trans hbw
          have hG := HGa.out.less hbw2 (Nat.le_refl _)
          have hT := boxed_less HTa.out hbw2 (by omega)
          have t0 := hT.cell
          have o0 := hG.own.cell
          have o2 := hG.out.cell
          have o2f := hG.out.frozen
          have hlt4 := HGa.out.lt2
          have hlt5 := HGa.out.lt
          have hB := HBa.out.trans (hbw2.mono (by omega))
          have hDlt := (Array.getElem?_eq_some_iff.1 hK2).1
          have HG0 := Lib.hid hG
          have HB0 := Lib.hid hB
          have HK0 := Lib.hid hK2
          have HDL0 := Lib.hid hDlt
          have HNE2 := Lib.hid (show wa.heap.size < D2 ∧ w.heap.size + 1 + 1 < wa.heap.size from ⟨by omega, by omega⟩)
          skip
          skip
          skip
          clear hbw hbw2 hG hT hB hK2 hDlt
          gi_wp2
          have hw := Boxed.new W 3 (.int .i64 1)
          have hb : Below W.heap.size W (W.alloc (.cells #[.int .i64 1] 3)) := (Below.refl _ _).alloc (Nat.le_refl _) _
          have hG := HG0.out.less hb (Nat.le_refl _)
          have hB := HB0.out.trans (hb.mono (by have := HB0.out.size; omega))
          have hz : W.heap.size < (W.alloc (.cells #[.int .i64 1] 3)).heap.size := by simp
          have hK : (W.alloc (.cells #[.int .i64 1] 3)).heap[D2]? = some (.deferred (some [])) := (hb.block _ HDL0.out).trans HK0.out
          skip
          have hDl := HDL0.out
          obtain ⟨wc, hw2⟩ : ∃ wc, W.alloc (.cells #[.int .i64 1] 3) = wc := ⟨_, rfl⟩
          rw [hw2] at hw hG hB hz hK ⊢
          obtain ⟨tc, ht⟩ : ∃ tc, W.heap.size = tc := ⟨_, rfl⟩
          rw [ht] at hw hz hDl ⊢
          have HGc := Lib.hid hG
          have HBc := Lib.hid hB
          have HTc := Lib.hid hw
          have HKc := Lib.hid hK
          have HDLc := Lib.hid (Nat.lt_trans hDl hz)
          skip
          have v8 := hw.cell
          have o2 := hG.out.cell
          have o2f := hG.out.frozen
          have hlt6 := hG.lt
          have hlt7 := hG.lt2
          clear hw hb hG hB hK hDl hw2 ht t0 o0
          rw [roundsIn_succ]
          gi_wp2
          have hn1 := Boxed.new wc 3 (.int .i64 0)
          have hd1 : Below wc.heap.size wc (wc.alloc (.cells #[.int .i64 0] 3)) := (Below.refl _ _).alloc (Nat.le_refl _) _
          have hz1 : (wc.alloc (.cells #[.int .i64 0] 3)).heap.size = wc.heap.size + 1 := by simp
          obtain ⟨V0, hW1⟩ : ∃ W0, wc.alloc (.cells #[.int .i64 0] 3) = W0 := ⟨_, rfl⟩
          rw [hW1] at hn1 hd1 hz1 ⊢
          clear hW1
          have HD1 := Lib.hid hd1
          have hg1 := HGc.out.less hd1 (Nat.le_refl _)
          refine wpIn_mono (Q := fun e a' W => (e = .normal ∨ e = .exit 4) ∧ ∃ D9, a' = { tmps := #[.slice A l.length c1, .int .u8 k, .pointer (some ⟨w.heap.size, 0, none⟩), .pointer (some ⟨w.heap.size + 1, 0, none⟩), .pointer (some ⟨w.heap.size + 1 + 1, 0, none⟩), .slice A2 l.length c2, .func (.func 38) #[] #[.pointer (some ⟨Bs, 0, none⟩)], .int .i64 (l.length : Int), .pointer (some ⟨tc, 0, none⟩), .pointer (some ⟨wc.heap.size, 0, none⟩), undef, undef, .bool true, .bool false, .slice A l.length c1, .bool false, .slice A l.length c1, .slice A2 l.length c2, .slice A2 l.length c2, .func (.func 38) #[] #[.pointer (some ⟨Bs, 0, none⟩)], .int .i64 (l.length : Int), .slice A2 l.length c2, .int .i64 (l.length : Int), .bool false, u24, u25, u26, u27, u28, u29, .int .i64 1, .bool true, .int .i64 0, .int .i64 1, .func (.func 38) #[] #[.pointer (some ⟨Bs, 0, none⟩)], undef, undef, undef, undef, undef, undef, undef, undef, undef, undef, undef, undef, undef, undef, undef, undef, undef, undef, undef, undef, undef, undef, undef, undef, undef, undef, undef, undef, undef, .int .i64 0, .bool false, .bool false, undef, undef, undef, undef, .bool false, .int .i64 0], defers := { target := .collected D9, args := #[] } :: [{ target := .collected D2, args := #[] }] } ∧ Below wc.heap.size V0 W ∧ Boxed W wc.heap.size 3 (.int .i64 (l.length : Int)) ∧  V0.heap.size ≤ D9 ∧ W.heap[D9]? = some (.deferred (some []))) ?range1 ?rest1
          case range1 =>
            refine wpIn_rangeFunc_ownH rfl (by omega) (gf := 38) (lb := #[.pointer (some ⟨Bs, 0, none⟩)]) rfl trivial (enters_of Tryd.func38 (by kernel_rfl) rfl)
              (all_stops (fun x : At l => x.1) (atOf l) _ (by omega) Bs wc.heap.size V0.heap.size c3 A3 l H40.out (fun k h => atOf_val l k h) V0 (by have := HGc.out.lt2; omega) (Nat.le_refl _) hg1.it (hg1.row3.more (by have := HGc.out.lt2; omega)) (fun a ha => by have := HGc.out.block a ha; omega))
              Spare.trans (fun W i o o' h1 h2 h3 h4 => Spare.putObj (w := V0) W i o o' (Nat.le_refl _) h1 h2 h3 h4) (Below.refl _ _) (fun _ => rfl)
              (Counted wc.heap.size V0.heap.size V0) (Stopped 1 wc.heap.size V0.heap.size V0) (counted_own _ _ _ (Nat.le_refl _)) (fun c => stopped_own _ _ _ _ c (Nat.le_refl _))
              ⟨hn1, Spare.refl _ _ _⟩
              (fun x a' W => ∃ Bx, V0.heap.size ≤ Bx ∧ Box W Bx x.1.2 ∧ a' = { tmps := #[.slice A l.length c1, .int .u8 k, .pointer (some ⟨w.heap.size, 0, none⟩), .pointer (some ⟨w.heap.size + 1, 0, none⟩), .pointer (some ⟨w.heap.size + 1 + 1, 0, none⟩), .slice A2 l.length c2, .func (.func 38) #[] #[.pointer (some ⟨Bs, 0, none⟩)], .int .i64 (l.length : Int), .pointer (some ⟨tc, 0, none⟩), .pointer (some ⟨wc.heap.size, 0, none⟩), .int .i64 (x.1.1 : Int), .pointer (some ⟨Bx, 0, none⟩), .bool true, .bool false, .slice A l.length c1, .bool false, .slice A l.length c1, .slice A2 l.length c2, .slice A2 l.length c2, .func (.func 38) #[] #[.pointer (some ⟨Bs, 0, none⟩)], .int .i64 (l.length : Int), .slice A2 l.length c2, .int .i64 (l.length : Int), .bool false, u24, u25, u26, u27, u28, u29, .int .i64 1, .bool true, .int .i64 0, .int .i64 1, .func (.func 38) #[] #[.pointer (some ⟨Bs, 0, none⟩)], .int .i64 (x.1.1 : Int), .agg #[.int .i64 x.1.2.k, .int .i64 x.1.2.n, .string x.1.2.s], undef, undef, undef, undef, undef, undef, undef, undef, undef, undef, undef, undef, undef, undef, undef, undef, undef, undef, undef, undef, undef, undef, undef, undef, undef, undef, undef, .int .i64 0, .bool false, .bool false, undef, undef, undef, undef, .bool false, .int .i64 0], defers := [] })
              ?hax1 ?assign1 ?body1 ?done1 ?stop1
            case hax1 =>
              rintro x a' s X Y row ⟨Bx, h1, h2, h3⟩ hg hr
              refine ⟨Bx, h1, (hg.block Bx h2.lt (fun e => ?_)).trans h2, h3⟩
              obtain ⟨_, o, ho, hc⟩ := hr Bx e.symm
              rw [show X.heap[Bx]? = _ from h2] at ho
              cases ho
              cases hc
            case assign1 =>
              intro l0 pre x W K hi hK
              have hsz := hi.2.size
              gi_wp2
              exact hK _ _ ((KeepsOthers.alloc _ _).from _) ((Spare.refl _ _ _).alloc hsz _) ⟨hi.1.alloc _, hi.2.alloc hsz _⟩ ⟨W.heap.size, hsz, Box.new W x.1.2, rfl⟩
            case body1 =>
              rintro l0 pre x a' W hl0 _ hI ⟨Bx, hBx, hX, rfl⟩ hlt
              obtain ⟨v, hv⟩ : ∃ v, x.1.2 = v := ⟨_, rfl⟩
              obtain ⟨i, hi⟩ : ∃ i, x.1.1 = i := ⟨_, rfl⟩
              have hs := hI.2
              have hbw := (HD1.out).trans (Spare.to_below (Below.refl wc.heap.size V0) hs (Nat.le_refl _) (by omega))
              have hG := HGc.out.less hbw (Nat.le_refl _)
              have hT := boxed_less HTc.out hbw (by omega)
              have hvl : i = pre.length → v = l[pre.length] := fun e => by rw [← hv, x.2, hi, e, getD_at hlt]
              rw [hv] at hX ⊢
              rw [hi] at ⊢
              have o0 := hG.own.cell
              have o1 := hG.byte.cell
              have o2 := hG.out.cell
              have o2f := hG.out.frozen
              have t0 := hT.cell
              have n0 := hI.1.cell
              have nf := hI.1.frozen
              have x0 := hX.k
              have x1 := hX.n
              have x2 := hX.s
              have HI := Lib.hid hI
              have HS := Lib.hid hs
              have HV := Lib.hid hv
              have HII := Lib.hid hi
              have HOUT := Lib.hid hG.out
              have hlt2 := hG.lt
              have hlt3 := hG.lt2
              have hlt4 := HGc.out.lt2
              have h40 := H40.out
              have HROW := Lib.hid hG.row
              have hsz := hs.size
              have HZ := Lib.hid hz1
              clear hz1
              clear hI hs hv hi hG hX hbw hT
              by_cases hx : i = pre.length
              · obtain ⟨bo, off, hAe, hB, c0, c1', c2'⟩ := HROW.out pre.length hlt
                rw [← hvl hx] at c0 c1' c2'
                subst hx
                clear hvl
                subst hAe
                obtain ⟨q, hq⟩ : ∃ q, pre.length = q := ⟨_, rfl⟩
                rw [hq] at c0 c1' c2' hlt n0 ⊢
                have HQ := Lib.hid hq
                clear hq
                have hd1 : ((q : Int) != (q : Int)) = false := by simp
                have hd2 : decide ((l.length : Int) ≤ (q : Int)) = false := decide_eq_false (by omega)
                gi_wp2_with (fail)
                refine region_quiet (by simp) (by kernel_rfl) (by kernel_rfl) ?_
                repeat (quiet_step_in (fail))
                refine wpQuietIn_nil ?_
                rintro _ ⟨nq, rfl⟩
                gi_wp2
                have hq := HQ.out
                subst hq
                exact ⟨keeps_drew _ _ _ _ _, spare_drew (Spare.refl _ _ _) nq _, counted_drew HI.out nq x⟩
              · have hd1 : ((i : Int) != (pre.length : Int)) = true := by rw [bne_iff_ne]; omega
                gi_wp2_with (fail)
                refine region_quiet (by simp) (by kernel_rfl) (by kernel_rfl) ?_
                repeat (quiet_step_in (fail))
                refine wpQuietIn_nil ?_
                rintro _ ⟨nq, rfl⟩
                gi_wp2
                exact ⟨keeps_drew _ _ _ _ _, .inl ⟨pre, x, rfl, by rw [HII.out]; exact hx⟩⟩
            case done1 =>
              rintro D xs W hD rfl hI hK
              refine ⟨.inl rfl, D, rfl, Spare.to_below (Below.refl _ _) hI.2 (Nat.le_refl _) (by omega), ?_, hD, hK⟩
              have := hI.1
              rw [upto_length] at this
              exact this
            case stop1 =>
              rintro D c pre W hD ⟨kk, hkk, hpre⟩ hix hK
              rcases hix with ⟨pre0, x, hp, hne⟩ | ⟨h10, _, _⟩
              · exact absurd (upto_last (hp.symm.trans hpre)) hne
              · exact absurd h10 (by decide)
          case rest1 =>
            rintro e a' W ⟨he, D3, rfl, hbw, hbn, hD2, hK2⟩
            have hn : ∀ (Q : Exit → Act → World → Prop) (a : Act) (W : World), Exit.inBlock 4 Q .normal a W → Exit.inBlock 4 Q e a W := by rcases he with rfl | rfl <;> intro Q a W h <;> simpa [Exit.inBlock] using h
            refine hn _ _ _ ?_
            clear hn he
            have hbw2 := HD1.out.trans hbw
            have hG := HGc.out.less hbw2 (Nat.le_refl _)
            have hT := boxed_less HTc.out hbw2 (by omega)
            have t0 := hT.cell
            have o0 := hG.own.cell
            have o2 := hG.out.cell
            have o2f := hG.out.frozen
            have hlt4 := HGc.out.lt2
            have hlt5 := HGc.out.lt
            have hB := HBc.out.trans (hbw2.mono (by omega))
            have hDlt := (Array.getElem?_eq_some_iff.1 hK2).1
            have HG1 := Lib.hid hG
            have HB1 := Lib.hid hB
            have HK1 := Lib.hid hK2
            have HDL1 := Lib.hid hDlt
            have HNE3 := Lib.hid (show wc.heap.size < D3 ∧ w.heap.size + 1 + 1 < wc.heap.size from ⟨by omega, by omega⟩)
            have n0 := hbn.cell
            have HK9 := Lib.hid ((hbw2.block _ HDLc.out).trans HKc.out)
            have hsz9 := hbw2.size
            clear hbw hbw2 hG hT hB hK2 hDlt
            gi_wp2
            have hw := Boxed.new W 3 (.int .i64 2)
            have hb : Below W.heap.size W (W.alloc (.cells #[.int .i64 2] 3)) := (Below.refl _ _).alloc (Nat.le_refl _) _
            have hG := HG1.out.less hb (Nat.le_refl _)
            have hB := HB1.out.trans (hb.mono (by have := HB1.out.size; omega))
            have hz : W.heap.size < (W.alloc (.cells #[.int .i64 2] 3)).heap.size := by simp
            have hK : (W.alloc (.cells #[.int .i64 2] 3)).heap[D3]? = some (.deferred (some [])) := (hb.block _ HDL1.out).trans HK1.out
            have hK0 := (hb.block _ (by have := HDLc.out; have := hsz9; omega)).trans HK9.out
            have hDl := HDL1.out
            obtain ⟨we, hw2⟩ : ∃ wc, W.alloc (.cells #[.int .i64 2] 3) = wc := ⟨_, rfl⟩
            rw [hw2] at hw hG hB hz hK hK0 ⊢
            obtain ⟨te, ht⟩ : ∃ tc, W.heap.size = tc := ⟨_, rfl⟩
            rw [ht] at hw hz hDl ⊢
            have HGe := Lib.hid hG
            have HBe := Lib.hid hB
            have HTe := Lib.hid hw
            have HKe := Lib.hid hK
            have HDLe := Lib.hid (Nat.lt_trans hDl hz)
            have HK00 := Lib.hid hK0
            have v8 := hw.cell
            have o2 := hG.out.cell
            have o2f := hG.out.frozen
            have hlt6 := hG.lt
            have hlt7 := hG.lt2
            clear hw hb hG hB hK hDl hw2 ht t0 o0
            rw [roundsIn_succ]
            gi_wp2
            have r := (HGe.out.out.set (.bool true)).cell
            have hBe := HBe.out.setCell (p := ⟨w.heap.size + 1 + 1, 0, none⟩) (by simp; omega) (.bool true)
            have hne3 : D3 ≠ w.heap.size + 1 + 1 := by have := HNE3.out; omega
            have hne2 : D2 ≠ w.heap.size + 1 + 1 := by have := HNE2.out; omega
            have hk3 := (Below.heap_setCell we ⟨w.heap.size + 1 + 1, 0, none⟩ (.bool true) D3 hne3).trans HKe.out
            have hk2 := (Below.heap_setCell we ⟨w.heap.size + 1 + 1, 0, none⟩ (.bool true) D2 hne2).trans HK00.out
            have hne : D2 ≠ D3 := by have := HNE3.out; have := HDLc.out; omega
            refine ⟨by simp, .inl ⟨_, _, rfl, run_takeDeferred hk3, ?_⟩⟩
            have hk22 := (World.putObj_heap_other (w := we.setCell ⟨w.heap.size + 1 + 1, 0, none⟩ (.bool true)) (o := .deferred none) hne).trans hk2
            refine ⟨by simp, .inl ⟨_, _, rfl, run_takeDeferred hk22, ?_⟩⟩
            have hb3 := Spare.to_below (g := w.heap.size) hBe (Spare.putObj (g := w.heap.size) (w := w) _ D3 _ (.deferred none) (Nat.le_refl _) (by have := HNE3.out; omega) hk3 rfl rfl) (Nat.le_refl _) (Nat.le_refl _)
            have hb2 := Spare.to_below (g := w.heap.size) hb3 (Spare.putObj (g := w.heap.size) (w := w) _ D2 _ (.deferred none) (Nat.le_refl _) (by have := HNE2.out; omega) hk22 rfl rfl) (Nat.le_refl _) (Nat.le_refl _)
            have hc := (World.cell?_of_block (a := ⟨w.heap.size + 1 + 1, 0, none⟩) ((World.putObj_heap_other (w := (we.setCell ⟨w.heap.size + 1 + 1, 0, none⟩ (.bool true)).putObj D3 (.deferred none)) (o := .deferred none) (Ne.symm hne2)).trans (World.putObj_heap_other (w := we.setCell ⟨w.heap.size + 1 + 1, 0, none⟩ (.bool true)) (o := .deferred none) (Ne.symm hne3)))).trans r
            exact ⟨.bool true, by simp [results, Tryd.results9, go_sem, hc], rfl, hb2⟩
end Go.Proofs.YtnginemabkecmaaDoor
