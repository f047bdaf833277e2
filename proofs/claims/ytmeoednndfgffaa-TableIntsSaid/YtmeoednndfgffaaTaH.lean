/- Layer 17: has a table just these pairs? -/
import Derived.Test.YtmeoednndfgffaaTaC
import Derived.RangeFuncNested
namespace Go.Proofs.Ytmeoednndfgffaa
attribute [local go_sem] Oper.semAt_some
open Go Go.ChangeShapes Go.WideShapes Go.ChangeAt Go.RowKit
set_option linter.unusedVariables false
set_option linter.unusedSimpArgs false
def limH : Nat := 1000
theorem lt_of_heap {W : World} {b : Nat} {o : Obj} (h : W.heap[b]? = some o) : b < W.heap.size := (Array.getElem?_eq_some_iff.1 h).1
theorem three_boxes (w : World) (a b c : Obj) : Below w.heap.size w (((w.alloc a).alloc b).alloc c) := (two_boxes w a b).alloc (by simp; omega) _
theorem below_putH {s0 : Nat} {W V : World} (h : Below s0 W V) (hW : s0 ≤ W.heap.size) {q : Nat} (hq : s0 ≤ q) (o : Obj) : Below s0 W (V.putObj q o) :=
  h.trans (below_of_grown (grown_put V q o) (fun r e => by cases e; exact hq) (Nat.le_trans hW h.size))
/-- What 'has' has of its own. -/
structure Ha (w : World) (A : Option Addr) (n c : Nat) (W : World) : Prop where
  t : W.heap[w.heap.size]? = some (.cells #[.slice A n c] 27)
  r : W.heap[w.heap.size + 1]? = some (.cells #[.bool false] 4)
  b : Below w.heap.size w W
section
variable {w W W' : World} {A : Option Addr} {n c : Nat}
theorem Ha.below (h : Ha w A n c W) (hb : Below W.heap.size W W') : Ha w A n c W' :=
  ⟨(hb.block _ (lt_of_heap h.t)).trans h.t, (hb.block _ (lt_of_heap h.r)).trans h.r, hop0 h.b hb⟩
theorem Ha.tc (h : Ha w A n c W) : W.cell? ⟨w.heap.size, 0, none⟩ = some (.slice A n c) := by simp [World.cell?, h.t]
theorem Ha.rc (h : Ha w A n c W) : W.cell? ⟨w.heap.size + 1, 0, none⟩ = some (.bool false) := by simp [World.cell?, h.r]
theorem Ha.rf (h : Ha w A n c W) : W.frozen? ⟨w.heap.size + 1, 0, none⟩ = false := by simp [World.frozen?, h.r]
end
/-- Between two rounds. -/
structure HaI (w : World) (A : Option Addr) (n c M : Nat) (pre : List Kp) (U : World) : Prop where
  h : Ha w A n c U
  n : Cell1 (w.heap.size + 2) (.int .i64 (pre.length : Nat)) U
  sz : M ≤ U.heap.size
theorem HaI.own {w : World} {A : Option Addr} {n c M D : Nat} (hD : w.heap.size + 2 < D) : LoopOwn D (HaI w A n c M) := fun pre U V row h hg hr =>
  ⟨⟨(hg.block _ (lt_of_heap h.h.t) (fun e => by have := (hr _ e.symm).1; omega)).trans h.h.t, (hg.block _ (lt_of_heap h.h.r) (fun e => by have := (hr _ e.symm).1; omega)).trans h.h.r, (LoopOwn.below (β := Unit) (B := D) (by omega) (Nat.le_refl _)) () U V row h.h.b hg hr⟩, h.n.blk (hg.block _ h.n.lt (fun e => by have := (hr _ e.symm).1; omega)), Nat.le_trans h.sz hg.size⟩
theorem has_ln {pre : List Kp} {x : Kp} {m : Nat} (hm : pre.length = m) : (.int .i64 ((pre ++ [x]).length : Nat) : Value) = .int .i64 ((m : Int) + 1) := by
  rw [List.length_append, hm]; simp
/-- What a round leaves. -/
theorem has_step {w V2 : World} {A : Option Addr} {n c m M D : Nat} {S : Blks} {pre : List Kp} {x : Kp} (hI : HaI w A n c M pre V2) (hm : pre.length = m) (hS : ¬ S (w.heap.size + 2)) (hD : w.heap.size + 2 < D) :
    BookKept D V2 (V2.setCell ⟨w.heap.size + 2, 0, none⟩ (.int .i64 ((m : Int) + 1))) ∧ Ks S V2 (V2.setCell ⟨w.heap.size + 2, 0, none⟩ (.int .i64 ((m : Int) + 1))) ∧ HaI w A n c M (pre ++ [x]) (V2.setCell ⟨w.heap.size + 2, 0, none⟩ (.int .i64 ((m : Int) + 1))) := by
  have hs2 : (V2.setCell ⟨w.heap.size + 2, 0, none⟩ (.int .i64 ((m : Int) + 1))).heap.size = V2.heap.size := by simp [World.setCell]
  have hh : ∀ k, k ≠ w.heap.size + 2 → (V2.setCell ⟨w.heap.size + 2, 0, none⟩ (.int .i64 ((m : Int) + 1))).heap[k]? = V2.heap[k]? := fun k hk => Below.heap_setCell _ _ _ _ hk
  refine ⟨BookKept.set (D := D) (U := V2) (q := w.heap.size + 2) (i := 0) hD _, ⟨by omega, fun k hk _ => hh k (fun e => hS (e ▸ hk))⟩, ⟨⟨(hh _ (by omega)).trans hI.h.t, (hh _ (by omega)).trans hI.h.r, hI.h.b.setCell (by simp) _⟩, ?_, by have := hI.sz; omega⟩⟩
  rw [has_ln hm]
  exact hI.n.set _
section
variable {TabS : Blks → Blks → World → Value → List Kp → Prop} {w0 w : World} {v : Value} {A : Option Addr} {n c : Nat} {l : List Kp}
set_option maxHeartbeats 4000000 in
set_option maxRecDepth 100000 in
theorem has_core (hl0 : n = l.length) (hr0 : PRow w w.heap.size A l) (hn : n ≤ 1000)
    (hall : ∀ U : World, Below w.heap.size w U → Calls Try.prog 25 #[v] U fun e w' => ∃ gf lb, ∃ S : Blks, e = .returned (.func (.func gf) #[] lb) ∧ (∀ args W, (callFunc gf args).run Try.prog W = .ok (.enter gf args) W) ∧ Below U.heap.size U w' ∧ (∀ k, S k → k < w.heap.size ∨ U.heap.size ≤ k ∧ k < w'.heap.size) ∧
      ∀ W, (∀ k, S k → W.heap[k]? = w'.heap[k]?) → SeqAt Fence.wide 7 Try.prog gf lb encK (NextK l) (Ks S) (fun xs => xs.length = l.length) W)
    (hlen : ∀ U : World, Below w.heap.size w U → Calls Try.prog 26 #[v] U fun e w' => e = .returned (.int .i64 n) ∧ Below U.heap.size U w') :
    Calls Try.prog 19 #[v, .slice A n c] w fun e w' => e = .returned (.bool true) ∧ Below w.heap.size w w' := by
  refine (callsIn_wide (n := 8)).1 ?_
  have HL := Lib.hid hl0
  have HN := Lib.hid (show n ≤ limH from hn)
  have HROW := Lib.hid hr0
  have HALL := Lib.hid hall
  have HLEN := Lib.hid hlen
  clear hall hlen
  obtain ⟨W3, hW3⟩ : ∃ W3, ((w.alloc (.cells #[.slice A n c] 27)).alloc (.cells #[.bool false] 4)).alloc (.cells #[.int .i64 0] 3) = W3 := ⟨_, rfl⟩
  have H3 : Hid (Ha w A n c W3 ∧ Cell1 (w.heap.size + 2) (.int .i64 0) W3) := Lib.hid (by
    rw [← hW3]
    refine ⟨⟨?_, ?_, three_boxes _ _ _ _⟩, ⟨by simp [go_sem], by simp [go_sem]⟩⟩
    · exact (Below.heap_alloc _ _ _ (by simp; omega)).trans ((Below.heap_alloc _ _ _ (by simp)).trans (World.alloc_heap_new w _))
    · have := World.alloc_heap_new (w.alloc (.cells #[.slice A n c] 27)) (.cells #[.bool false] 4)
      rw [World.size_alloc] at this
      exact (Below.heap_alloc _ _ _ (by simp)).trans this)
  have HS3 : Hid (W3.heap.size = w.heap.size + 3) := Lib.hid (by rw [← hW3]; simp)
  have HW3 := Lib.hid hW3
  clear hl0 hr0 hn hW3
  refine callsIn_of_wp_marks Try.func19 rfl trivial ?_ rfl
  simp only [Try.ntmps19, List.size_toArray, List.length_cons, List.length_nil, Nat.reduceAdd, Nat.reduceSub, Array.replicate_succ, Array.replicate_zero, List.push_toArray, List.append_toArray, List.nil_append, List.cons_append]
  refine wpIn_wide.2 ?_
  go_wp2_with (go_at_call 25; go_loud (rw [HW3.out]; refine (HALL.out _ H3.out.1.b).mono ?_; rintro en w9 ⟨gf, lb, S, rfl, he9, hb9, hs9, hq9⟩; have HE9 := Lib.hid he9; have HB9 := Lib.hid hb9; have HS9 := Lib.hid hs9; have HQ9 := Lib.hid hq9; clear he9 hb9 hs9 hq9))
  have hA9 := H3.out.1.below HB9.out
  have hn9 : Cell1 (w.heap.size + 2) (.int .i64 0) w9 := H3.out.2.blk (HB9.out.block _ H3.out.2.lt)
  have hsz : w.heap.size + 2 < w9.heap.size := hn9.lt
  have HA9 := Lib.hid hA9
  have HN9 := Lib.hid hn9
  have hS2 : ¬ S (w.heap.size + 2) := fun h => by have := HS9.out _ h; have := HS3.out; omega
  have HNS := Lib.hid hS2
  have HSB := Lib.hid (show ∀ k, S k → k < w9.heap.size from fun k hk => by have := HS9.out k hk; omega)
  clear hA9 hn9 hS2 HW3
  refine (wpIn_wide (n := 8)).1 ?_
  refine range_nest2 rfl (by omega) (gf := gf) (lb := lb) (by simp [Act.eval]) trivial HE9.out
    (encs := encK) (Y := NextK l) (Kp := Ks S) (done := fun xs => xs.length = l.length)
    (fun W1 hg hs1 => HQ9.out W1 (fun k hk => hg.block k (HSB.out k hk) (by simp)))
    (fun x => rfl) Ks.trans Ks.grown (fun U o => Ks.put (fun h => by have := HSB.out _ h; omega) o)
    (HaI w A n c (w9.heap.size + 2))
    (fun _ _ _ => False)
    (HaI.own hsz)
    (fun _ _ _ _ _ h _ _ => h)
    (fun pre => NextK.own pre) ?sta (fun _ U => U) (fun x U => ⟨rfl, rfl, rfl, Nat.le_refl _, fun _ _ _ => rfl⟩) (fun _ _ _ => True) (fun x U r r' hb => trivial) ?aa1 ?asa ?boa ?doa ?spa
  case sta =>
    intro W1 hg hs1
    exact ⟨HA9.out.below (below_of_grown hg (fun r e => by cases e) (Nat.le_refl _)), HN9.out.blk (hg.block _ hsz (by simp)), by omega⟩
  case asa =>
    intro l0 x U K hK
    gi_wp2
    exact hK
  case boa =>
    rintro l0 pre x U V2 hI hY _ hbk
    have hY2 : l[pre.length]? = some x := hY
    obtain ⟨hpl, hpe⟩ := List.getElem?_eq_some_iff.1 hY2
    have hlb := hI.h.tc
    obtain ⟨gb, og, rfl, _, k0, k1⟩ := (HROW.out.below hI.h.b) pre.length hpl
    rw [hpe] at k0 k1
    have n0 := hI.n.c
    have n1 := hI.n.lt
    have n2 := hI.n.f
    obtain ⟨m, hm⟩ : ∃ q, pre.length = q := ⟨_, rfl⟩
    have HST := Lib.hid (has_step (x := x) hI hm HNS.out hsz)
    rw [hm] at n0 k0 k1 hpl
    rw [← HL.out] at hpl
    obtain ⟨xk, xv⟩ := x
    have i1 : (0 : Int) ≤ (m : Int) := by omega
    have i2 : (m : Int) < (n : Int) := by omega
    have i3 : m + 1 ≤ 9223372036854775807 := by have := HN.out; unfold limH at this; omega
    have q1 : decide ((n : Int) ≤ (m : Int)) = false := decide_eq_false (by omega)
    dsimp only at k0 k1
    clear hI hY hY2 hpe hbk hm
    gi_wp2
    exact ⟨HST.out.1, HST.out.2.1, HST.out.2.2⟩
  case spa =>
    rintro cc pre V2 h
    exact h.elim
  case doa =>
    rintro xs V hxs hI hK
    have hxl : xs.length = n := by
      have h2 : xs.length = l.length := hxs
      rw [h2, HL.out]
    have n0 := hI.n.c
    rw [hxl] at n0
    have HIH := Lib.hid hI.h
    have HK := Lib.hid hK
    have HC := Lib.hid (show ∀ U : World, Below V.heap.size V U → U.cell? ⟨w.heap.size + 1 + 1, 0, none⟩ = some (.int .i64 n) ∧ U.cell? ⟨w.heap.size, 0, none⟩ = some (.slice A n c) from fun U hU => ⟨(hU.cell (p := ⟨w.heap.size + 2, 0, none⟩) hI.n.lt).trans n0, (hI.h.below hU).tc⟩)
    have HD9 := Lib.hid hsz
    clear hxs hI hK n0 hxl hsz
    go_wp2
    have hS := HC.out V.drew (Below.refl _ V).drew
    refine wp_mono ?_ noPanic_le
    refine held_begin 11 (fun W => W.cell? ⟨w.heap.size + 1 + 1, 0, none⟩ = some (.int .i64 n) ∧ W.cell? ⟨w.heap.size, 0, none⟩ = some (.slice A n c)) rfl (by kernel_rfl) ?_
    refine held_take (i := 0) (t := 28) (v := (.int .i64 (n : Int))) (fuel := 10) rfl rfl (by kernel_rfl) (by kernel_rfl) (by kernel_rfl) (fun _ _ _ h => h) (.inl ⟨rfl, fun W hW => by obtain ⟨s0, s1⟩ := hW; simp [execOp, Act.eval, go_sem, s0, s1]⟩) hS ?_
    simp only [List.setIfInBounds_toArray, List.set_cons_succ, List.set_cons_zero]
    refine held_take (i := 1) (t := 29) (v := (.slice A n c)) (fuel := 9) rfl rfl (by kernel_rfl) (by kernel_rfl) (by kernel_rfl) (fun _ _ _ h => h) (.inl ⟨rfl, fun W hW => by obtain ⟨s0, s1⟩ := hW; simp [execOp, Act.eval, go_sem, s0, s1]⟩) hS ?_
    simp only [List.setIfInBounds_toArray, List.set_cons_succ, List.set_cons_zero]
    refine held_take (i := 2) (t := 30) (v := (.int .i64 (n : Int))) (fuel := 8) rfl rfl (by kernel_rfl) (by kernel_rfl) (by kernel_rfl) (fun _ _ _ h => h) (.inl ⟨rfl, fun W hW => by obtain ⟨s0, s1⟩ := hW; simp [execOp, Act.eval, go_sem, s0, s1]⟩) hS ?_
    simp only [List.setIfInBounds_toArray, List.set_cons_succ, List.set_cons_zero]
    refine held_take (i := 3) (t := 31) (v := (.bool true)) (fuel := 7) rfl rfl (by kernel_rfl) (by kernel_rfl) (by kernel_rfl) (fun _ _ _ h => h) (.inl ⟨rfl, fun W hW => by obtain ⟨s0, s1⟩ := hW; simp [execOp, Act.eval, go_sem, s0, s1]⟩) hS ?_
    simp only [List.setIfInBounds_toArray, List.set_cons_succ, List.set_cons_zero]
    refine held_take (i := 4) (t := 32) (v := (.bool true)) (fuel := 6) rfl rfl (by kernel_rfl) (by kernel_rfl) (by kernel_rfl) (fun _ _ _ h => h) (.inl ⟨rfl, fun W hW => by obtain ⟨s0, s1⟩ := hW; simp [execOp, Act.eval, go_sem, s0, s1]⟩) hS ?_
    simp only [List.setIfInBounds_toArray, List.set_cons_succ, List.set_cons_zero]
    refine held_take (i := 5) (t := 33) (v := v) (fuel := 5) rfl rfl (by kernel_rfl) (by kernel_rfl) (by kernel_rfl) (fun _ _ _ h => h) (.inl ⟨rfl, fun W hW => by obtain ⟨s0, s1⟩ := hW; simp [execOp, Act.eval, go_sem, s0, s1]⟩) hS ?_
    simp only [List.setIfInBounds_toArray, List.set_cons_succ, List.set_cons_zero]
    refine held_take (i := 7) (t := 35) (v := (.int .i64 (n : Int))) (fuel := 4) rfl rfl (by kernel_rfl) (by kernel_rfl) (by kernel_rfl) (fun _ _ _ h => h) (.inl ⟨rfl, fun W hW => by obtain ⟨s0, s1⟩ := hW; simp [execOp, Act.eval, go_sem, s0, s1]⟩) hS ?_
    simp only [List.setIfInBounds_toArray, List.set_cons_succ, List.set_cons_zero]
    refine held_call (i := 6) rfl (by kernel_rfl) (by kernel_rfl) ?_
    simp [Oper.wp, execOp, Act.eval, Act.put, go_sem]
    refine (HLEN.out _ HIH.out.b.drew).mono ?_
    rintro e w4 ⟨rfl, hb4⟩
    have hb5 : Below V.heap.size V w4 := (Below.refl _ V).drew.trans hb4
    have hS2 := HC.out _ hb5
    refine ⟨hS2, ?_⟩
    have HI4 := Lib.hid (HIH.out.below hb5)
    have HK4 := Lib.hid ((hb5.block _ (lt_of_heap HK.out)).trans HK.out)
    have r0 := HI4.out.rc
    have r1 := HI4.out.rf
    have hlr := lt_of_heap HI4.out.r
    have hS3 : ∀ u, (w4.setCell ⟨w.heap.size + 1, 0, none⟩ u).cell? ⟨w.heap.size + 1 + 1, 0, none⟩ = some (.int .i64 n) ∧ (w4.setCell ⟨w.heap.size + 1, 0, none⟩ u).cell? ⟨w.heap.size, 0, none⟩ = some (.slice A n c) := fun u => ⟨(World.cell?_of_block (a := ⟨w.heap.size + 1 + 1, 0, none⟩) (Below.heap_setCell _ _ _ _ (by simp))).trans hS2.1, (World.cell?_of_block (a := ⟨w.heap.size, 0, none⟩) (Below.heap_setCell _ _ _ _ (by simp))).trans hS2.2⟩
    have hS := hS2
    clear hb4 hb5 hS2
    try simp only [List.setIfInBounds_toArray, List.set_cons_succ, List.set_cons_zero]
    refine held_take (i := 8) (t := 36) (v := (.bool true)) (fuel := 2) rfl rfl (by kernel_rfl) (by kernel_rfl) (by kernel_rfl) (fun _ _ _ h => h) (.inl ⟨rfl, fun W hW => by obtain ⟨s0, s1⟩ := hW; simp [execOp, Act.eval, go_sem, s0, s1]⟩) hS ?_
    simp only [List.setIfInBounds_toArray, List.set_cons_succ, List.set_cons_zero]
    refine held_take (i := 9) (t := 37) (v := (.bool true)) (fuel := 1) rfl rfl (by kernel_rfl) (by kernel_rfl) (by kernel_rfl) (fun _ _ _ h => h) (.inl ⟨rfl, fun W hW => by obtain ⟨s0, s1⟩ := hW; simp [execOp, Act.eval, go_sem, s0, s1]⟩) hS ?_
    simp only [List.setIfInBounds_toArray, List.set_cons_succ, List.set_cons_zero]
    refine held_call (i := 10) rfl (by kernel_rfl) (by kernel_rfl) ?_
    simp [Oper.wp, execOp, Act.eval, Act.put, go_sem, r0, r1, hlr]
    refine ⟨(by first | exact hS | exact hS3 _), ?_⟩
    clear hS hS3
    try simp only [List.setIfInBounds_toArray, List.set_cons_succ, List.set_cons_zero]
    refine wpAnyH_done (by kernel_rfl) ?_ 0
    unfold noPanic
    have hk1 : (w4.setCell ⟨w.heap.size + 1, 0, none⟩ (.bool true)).heap[w9.heap.size]? = some (.deferred (some [])) := (Below.heap_setCell _ _ _ _ (by have := HD9.out; simp; omega)).trans HK4.out
    have hbs : Below w.heap.size w (w4.setCell ⟨w.heap.size + 1, 0, none⟩ (.bool true)) := HI4.out.b.setCell (by simp) _
    have z := (World.cell?_of_block (w := w4.setCell ⟨w.heap.size + 1, 0, none⟩ (.bool true)) (a := ⟨w.heap.size + 1, 0, none⟩) (World.putObj_heap_other (o := .deferred none) (Nat.ne_of_lt (show w.heap.size + 1 < w9.heap.size by have := HD9.out; omega)))).trans (World.cell?_setCell_same _ _ _ r0)
    clear r0 r1 hlr
    go_wp2
    refine ⟨by simp, .inl ⟨_, _, rfl, run_takeDeferred hk1, ?_⟩⟩
    exact ⟨.bool true, by simp [results, Try.results19, go_sem, z], rfl, below_putH hbs (Nat.le_refl _) (by have := HD9.out; omega) _⟩
theorem has_row (HT : TabC TabS) {D R : Blks} (ht0 : TabS D R w v l) (hl0 : n = l.length) (hr0 : PRow w w.heap.size A l) (hn : n ≤ 1000) :
    Calls Try.prog 19 #[v, .slice A n c] w fun e w' => e = .returned (.bool true) ∧ Below w.heap.size w w' := by
  refine has_core hl0 hr0 hn (fun U hU => ?_) (fun U hU => ?_)
  · have hk := HT.lt ht0
    refine (HT.all (HT.ch ht0 (ch_of (S := fun _ => False) hU) (fun _ h => h.elim)) (by omega)).mono ?_
    rintro e w' ⟨gf, lb, S, h1, h2, h3, h4, h5⟩
    exact ⟨gf, lb, S, h1, h2, h3, fun k hs => (h4 k hs).elim (fun h => .inl (hk k h.1)) .inr, h5⟩
  · rw [hl0]
    exact HT.len (HT.ch ht0 (ch_of (S := fun _ => False) hU) (fun _ h => h.elim)) (by omega)
theorem has_any (HT : TabC TabS) (h : Made TabS w0 v l A n c l w) (hn : n ≤ limO) :
    Calls Try.prog 19 #[v, .slice A n c] w fun e w' => e = .returned (.bool true) ∧ Below w.heap.size w w' := by
  obtain ⟨D, R, ht, _⟩ := h.ex
  exact has_row HT ht h.len h.row (Nat.le_trans hn (by decide))
end
end Go.Proofs.Ytmeoednndfgffaa
