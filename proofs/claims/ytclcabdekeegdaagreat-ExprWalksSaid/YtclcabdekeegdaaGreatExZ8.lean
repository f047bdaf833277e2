/- Layer 13: the law Walks, walked. -/
import Derived.Test.YtclcabdekeegdaaGreatExZ7
import Derived.Test.YtclcabdekeegdaaGreatExZ5
import Derived.Test.YtclcabdekeegdaaGreatExZ4
import Derived.Test.YtclcabdekeegdaaGreatExQ8
import Derived.Test.YtclcabdekeegdaaGreatExI
import Derived.BigQuiet
namespace Go.Proofs.YtclcabdekeegdaaGreat
attribute [local go_sem] Oper.semAt_some
open Go Go.ChangeShapes Go.WideShapes Go.ChangeAt Go.RowKit
set_option linter.unusedVariables false
set_option linter.unusedSimpArgs false
/-- What the law has of its own. -/
structure Lw (w : World) (e : X) (A : Option Addr) (c : Nat) (st : Int) (W : World) : Prop where
  x : W.heap[w.heap.size]? = some (e.obj A c)
  t : W.heap[w.heap.size + 1]? = some (.cells #[.int .u8 st] 5)
  r : W.heap[w.heap.size + 2]? = some (.cells #[.bool false] 4)
  b : Below w.heap.size w W
section
variable {w W W' : World} {e : X} {A : Option Addr} {c : Nat} {st : Int}
theorem Lw.below (h : Lw w e A c st W) (hb : Below W.heap.size W W') : Lw w e A c st W' :=
  ⟨(hb.block _ (lt_of_heap h.x)).trans h.x, (hb.block _ (lt_of_heap h.t)).trans h.t, (hb.block _ (lt_of_heap h.r)).trans h.r, hop0 h.b hb⟩
theorem Lw.sc (h : Lw w e A c st W) : W.cell? ⟨w.heap.size + 1, 0, none⟩ = some (.int .u8 st) := by simp [World.cell?, h.t]
theorem Lw.rc (h : Lw w e A c st W) : W.cell? ⟨w.heap.size + 2, 0, none⟩ = some (.bool false) := by simp [World.cell?, h.r]
theorem Lw.rf (h : Lw w e A c st W) : W.frozen? ⟨w.heap.size + 2, 0, none⟩ = false := by simp [World.frozen?, h.r]
theorem Lw.set (h : Lw w e A c st W) (v : Value) : (W.setCell ⟨w.heap.size + 2, 0, none⟩ v).cell? ⟨w.heap.size + 2, 0, none⟩ = some v := by
  have := heap_set (i := 0) h.r v
  simp [World.cell?, this]
theorem Lw.setb (h : Lw w e A c st W) (v : Value) : Below w.heap.size w (W.setCell ⟨w.heap.size + 2, 0, none⟩ v) := h.b.setCell (by simp) v
theorem Lw.setp (h : Lw w e A c st W) (v : Value) {D : Nat} (hD : w.heap.size + 2 < D) (o : Obj) : ((W.setCell ⟨w.heap.size + 2, 0, none⟩ v).putObj D o).cell? ⟨w.heap.size + 2, 0, none⟩ = some v :=
  (World.cell?_of_block (w := W.setCell ⟨w.heap.size + 2, 0, none⟩ v) (a := ⟨w.heap.size + 2, 0, none⟩) (World.putObj_heap_other (by simp; omega))).trans (h.set v)
theorem Lw.own {β : Type} {D : Nat} (hD : w.heap.size + 2 < D) : LoopOwn D (fun (_ : β) U => Lw w e A c st U) := fun s U V row h hg hr =>
  ⟨(LoopOwn.blk (β := β) (B := D) (by omega)) s U V row h.x hg hr, (LoopOwn.blk (β := β) (B := D) (by omega)) s U V row h.t hg hr, (LoopOwn.blk (β := β) (B := D) (by omega)) s U V row h.r hg hr, (LoopOwn.below (β := β) (B := D) (by omega) (Nat.le_refl _)) s U V row h.b hg hr⟩
theorem Lw.mark {D : Nat} {o : Obj} (hD : w.heap.size + 2 < D) (v : Value) (hk : W.heap[D]? = some o) : (W.setCell ⟨w.heap.size + 2, 0, none⟩ v).heap[D]? = some o := (Below.heap_setCell _ _ _ _ (by simp; omega)).trans hk
end
/-- Between two rounds of a turn: n counts. -/
structure WkI (Wt : World) (m : Nat) (pre : List XA) (U : World) : Prop where
  b : Below Wt.heap.size Wt U
  n : Cell1 Wt.heap.size (.int .i64 (pre.length : Nat)) U
  sz : m ≤ U.heap.size
theorem WkI.own {Wt : World} {m D : Nat} (hD : Wt.heap.size < D) : LoopOwn D (WkI Wt m) := fun pre U V row h hg hr =>
  ⟨(LoopOwn.below (β := Unit) (B := D) (by omega) (Nat.le_refl _)) () U V row h.b hg hr, h.n.blk (hg.block _ h.n.lt (fun e => by have := (hr _ e.symm).1; omega)), Nat.le_trans h.sz hg.size⟩
/-- A turn's end: n has counted somewhat. -/
structure WkX (Wt : World) (U : World) : Prop where
  b : Below Wt.heap.size Wt U
  n : ∃ m : Nat, Cell1 Wt.heap.size (.int .i64 m) U
theorem WkX.own {β : Type} {Wt : World} {D : Nat} (hD : Wt.heap.size < D) : LoopOwn D (fun (_ : β) U => WkX Wt U) := fun pre U V row h hg hr =>
  ⟨(LoopOwn.below (β := Unit) (B := D) (by omega) (Nat.le_refl _)) () U V row h.b hg hr, by
    obtain ⟨m, hm⟩ := h.n
    exact ⟨m, hm.blk (hg.block _ hm.lt (fun e => by have := (hr _ e.symm).1; omega))⟩⟩
/-- What a round of a turn leaves. -/
theorem wk_step {Wt V2 w4 : World} {m M D T pw : Nat} {pre : List XA} {x : XA} (hI : WkI Wt M pre V2) (hm : pre.length = m) (hbk : ∃ r, Book D r V2) (hD : Wt.heap.size < D) (hS : Below V2.heap.size V2 w4) :
    BookKept D V2 (w4.setCell ⟨Wt.heap.size, 0, none⟩ (.int .i64 ((m : Int) + 1))) ∧ Kt (D + 2) (fun q => Wt.heap.size + 1 ≤ q ∧ q ≤ pw) T V2 (w4.setCell ⟨Wt.heap.size, 0, none⟩ (.int .i64 ((m : Int) + 1))) ∧ WkI Wt M (pre ++ [x]) (w4.setCell ⟨Wt.heap.size, 0, none⟩ (.int .i64 ((m : Int) + 1))) := by
  obtain ⟨r, hbk⟩ := hbk
  have hlt := hbk.lt
  have h6 := BookKept.set (D := D) (U := w4) (q := Wt.heap.size) (i := 0) hD (.int .i64 ((m : Int) + 1))
  refine ⟨⟨h6.1.trans (hS.block _ (by omega)), h6.2.trans (hS.block _ hlt)⟩, (Kt.grown (grown_of_below hS)).trans (Kt.set (by omega) (by omega) _), ⟨(hI.b.trans (hS.mono hI.b.size)).setCell (Nat.le_refl _) _, ?_, ?_⟩⟩
  · rw [append_len hm]
    exact (hI.n.blk (hS.block _ hI.n.lt)).set _
  · have := hI.sz; have := hS.size
    have h2 : (w4.setCell ⟨Wt.heap.size, 0, none⟩ (.int .i64 ((m : Int) + 1))).heap.size = w4.heap.size := by simp [World.setCell]
    omega
theorem at_pre {e : X} {l pre : List XA} {x : XA} {post : List X} (hl : l.map XA.e = allX e) (hp : allX e = pre.map XA.e ++ x.e :: post) : ∃ h : pre.length < l.length, l[pre.length].e = x.e := by
  have h1 : (l.map XA.e)[pre.length]? = some x.e := by
    rw [hl, hp, List.getElem?_append_right (by simp)]
    simp
  have h2 : pre.length < l.length := by
    have := (List.getElem?_eq_some_iff.1 h1).1
    simpa using this
  refine ⟨h2, ?_⟩
  rw [List.getElem?_map, List.getElem?_eq_getElem h2] at h1
  simpa using h1
set_option maxHeartbeats 16000000 in
set_option maxRecDepth 100000 in
theorem walks_walk (e : X) (hwe : e.wf) (st : Int) (hst : 0 ≤ st ∧ st ≤ 255) (A : Option Addr) (c : Nat) (w : World) (hk : KidsAt w w.heap.size e A c) :
    Calls Tryz.prog 6 #[e.val A c, .int .u8 st] w fun en w' => en = .returned (.bool true) ∧ Below w.heap.size w w' := by
  refine (callsIn_wide (n := 8)).1 ?_
  obtain ⟨W1, hW1⟩ : ∃ W1, ((w.alloc (e.obj A c)).alloc (.cells #[.int .u8 st] 5)).alloc (.cells #[.bool false] 4) = W1 := ⟨_, rfl⟩
  have hl1 : Lw w e A c st W1 := by
    rw [← hW1]
    refine ⟨?_, ?_, ?_, (two_boxes _ _ _).alloc (by simp; omega) _⟩
    · exact (Below.heap_alloc _ _ _ (by simp; omega)).trans ((Below.heap_alloc _ _ _ (by simp)).trans (obj_box _ _ _ _))
    · have := World.alloc_heap_new (w.alloc (e.obj A c)) (.cells #[.int .u8 st] 5)
      rw [World.size_alloc] at this
      exact (Below.heap_alloc _ _ _ (by simp)).trans this
    · have := World.alloc_heap_new ((w.alloc (e.obj A c)).alloc (.cells #[.int .u8 st] 5)) (.cells #[.bool false] 4)
      rwa [World.size_alloc, World.size_alloc] at this
  have HL1 := Lib.hid hl1
  have HKA := Lib.hid hk
  have HFA := Lib.hid (fun (W : World) (h : Below w.heap.size w W) => far_any e hwe [] (by simp) [] (by simp) A c none 0 none 0 W (by decide) (by decide) (KidsAt.more h.size (hk.below h)) (fun j hj => by simp at hj) (fun j hj => by simp at hj))
  have HCO := Lib.hid (fun (W : World) (h : Below w.heap.size w W) => cols_any e hwe A c W (KidsAt.more h.size (hk.below h)))
  have HCK := Lib.hid (fun (W : World) (h : Below w.heap.size w W) => rchk_any e hwe A c W (KidsAt.more h.size (hk.below h)))
  have HWA := Lib.hid (fun (W : World) (h : Below w.heap.size w W) => walk_any e hwe A c W (KidsAt.more h.size (hk.below h)))
  obtain ⟨fz, hfz⟩ : ∃ z, farX e [] [] = z := ⟨_, rfl⟩
  obtain ⟨nm, hnm⟩ : ∃ z, colR e = z := ⟨_, rfl⟩
  rw [hfz] at HFA
  unfold ColsPost at HCO
  simp only [hnm] at HCO
  have HNM := Lib.hid hnm
  unfold WalkPost at HWA
  unfold X.val at HFA HCO HCK HWA ⊢
  simp only [List.length_nil] at HFA
  obtain ⟨p0, p1, p2, p3, p4, p5⟩ := obj_cells hl1.x
  have r0 := hl1.rc
  have r1 := hl1.rf
  have hls := lt_of_heap hl1.x
  have hlr := lt_of_heap hl1.r
  unfold X.obj at hW1
  clear hl1 hk hnm
  cases fz with
  | true =>
    clear hfz
    refine callsIn_of_wp_marks Tryz.func6 rfl trivial ?_ rfl
    simp only [Tryz.ntmps6, List.size_toArray, List.length_cons, List.length_nil, Nat.reduceAdd, Nat.reduceSub, Array.replicate_succ, Array.replicate_zero, List.push_toArray, List.append_toArray, List.nil_append, List.cons_append]
    refine wpIn_wide.2 ?_
    go_wp2_with (first
      | (go_at_call 10; go_loud ((refine (alive_any _).mono ?_; rintro en w2 ⟨rfl, hb2⟩; have HL2 := Lib.hid (HL1.out.below hb2); clear p0 p1 p2 p3 p4 p5 r0 r1; obtain ⟨p0, p1, p2, p3, p4, p5⟩ := obj_cells HL2.out.x; have r0 := HL2.out.rc; have r1 := HL2.out.rf; clear hb2)))
      | (go_at_call 11; go_loud ((refine (HFA.out _ HL2.out.b).mono ?_; rintro en w3 ⟨rfl, hb3⟩; have HL3 := Lib.hid (HL2.out.below hb3); clear p0 p1 p2 p3 p4 p5 r0 r1; obtain ⟨p0, p1, p2, p3, p4, p5⟩ := obj_cells HL3.out.x; have r0 := HL3.out.rc; have r1 := HL3.out.rf; clear hb3)))
      | (go_at_call 20; go_loud ((refine (HCO.out _ HL3.out.b).mono ?_; rintro en w4 ⟨A9, c9, rfl, hr9, hb4⟩; have HL4 := Lib.hid (HL3.out.below hb4); have HR9 := Lib.hid hr9; clear p0 p1 p2 p3 p4 p5 r0 r1; obtain ⟨p0, p1, p2, p3, p4, p5⟩ := obj_cells HL4.out.x; have r0 := HL4.out.rc; have r1 := HL4.out.rf; clear hb4 hr9)))
      | (go_at_call 13; go_loud ((refine (HCK.out _ HL4.out.b).mono ?_; rintro en w5 ⟨rfl, hb5⟩; have HL5 := Lib.hid (HL4.out.below hb5); have HB5 := Lib.hid hb5; clear p0 p1 p2 p3 p4 p5 r0 r1; obtain ⟨p0, p1, p2, p3, p4, p5⟩ := obj_cells HL5.out.x; have r0 := HL5.out.rc; have r1 := HL5.out.rf; have hl5 := lt_of_heap HL5.out.x; have hr5 := lt_of_heap HL5.out.r; clear hb5)))
      | (go_at_call 21; go_loud ((refine (HWA.out _ (HL5.out.below ((Below.refl _ _).alloc (Nat.le_refl _) _)).b).mono ?_; rintro en w6 ⟨hb6, h6⟩; (first | (obtain ⟨_, rfl⟩ := HWN.out _ _ h6) | (obtain ⟨pw, A6, c6, rfl, hw6, hk6, hp6⟩ := HWY.out _ _ h6)); have HB6 := Lib.hid hb6; clear h6 hb6)))
      | (go_at_call 22; go_loud ((refine (HNA.out _ HL5.out.b).mono ?_; rintro en w6 ⟨A7, c7, rfl, hr7, hb6⟩; have HL6 := Lib.hid (HL5.out.below hb6); have HB6 := Lib.hid hb6; have HR7 := Lib.hid hr7; clear p0 p1 p2 p3 p4 p5 r0 r1; obtain ⟨p0, p1, p2, p3, p4, p5⟩ := obj_cells HL6.out.x; have r0 := HL6.out.rc; have r1 := HL6.out.rf; have hl6 := lt_of_heap HL6.out.x; have hr6 := lt_of_heap HL6.out.r; clear hb6 hr7))))
    have z := HL3.out.set (.bool true)
    exact ⟨.bool true, by simp [results, Tryz.results6, go_sem, z], rfl, HL3.out.setb _⟩
  | false =>
    simp only [rcheck_eq (far_forms hfz)] at HCK
    obtain ⟨E, hE⟩ : ∃ E, checkX e = E := ⟨_, rfl⟩
    have HE := Lib.hid hE
    simp only [hE] at HCK HWA
    by_cases h0 : E = 0
    · subst h0
      have HCNT := Lib.hid (cnt_check HE.out)
      have HCN := Lib.hid (show cnt e ≤ lim6 by have := HCNT.out; unfold lim6; omega)
      have HWY := Lib.hid (fun (p q : Prop) (h : ((0 : Int) ≠ 0 ∧ p) ∨ ((0 : Int) = 0 ∧ q)) => h.elim (fun h => absurd rfl h.1) (fun h => h.2))
      have HNA := Lib.hid (fun (W : World) (h : Below w.heap.size w W) => rnames_any e A c W HCN.out (KidsAt.more h.size (HKA.out.below h)))
      have HLI := Lib.hid (fun (W : World) (h : Below w.heap.size w W) => rlist_any w e A c W HCN.out HKA.out h)
      have hnx : namesX e = nm := by rw [← HNM.out]; unfold colR; rw [if_neg (by simp [HE.out])]
      simp only [hnx] at HNA
      have HNL := Lib.hid (show nm.length ≤ limN by rw [← HNM.out]; exact colR_len e)
      unfold ListPost at HLI
      unfold X.val at HNA HLI
      clear hfz hE hnx
      refine callsIn_of_wp_marks Tryz.func6 rfl trivial ?_ rfl
      simp only [Tryz.ntmps6, List.size_toArray, List.length_cons, List.length_nil, Nat.reduceAdd, Nat.reduceSub, Array.replicate_succ, Array.replicate_zero, List.push_toArray, List.append_toArray, List.nil_append, List.cons_append]
      refine wpIn_wide.2 ?_
      go_wp2_with (first
        | (go_at_call 10; go_loud ((refine (alive_any _).mono ?_; rintro en w2 ⟨rfl, hb2⟩; have HL2 := Lib.hid (HL1.out.below hb2); clear p0 p1 p2 p3 p4 p5 r0 r1; obtain ⟨p0, p1, p2, p3, p4, p5⟩ := obj_cells HL2.out.x; have r0 := HL2.out.rc; have r1 := HL2.out.rf; clear hb2)))
        | (go_at_call 11; go_loud ((refine (HFA.out _ HL2.out.b).mono ?_; rintro en w3 ⟨rfl, hb3⟩; have HL3 := Lib.hid (HL2.out.below hb3); clear p0 p1 p2 p3 p4 p5 r0 r1; obtain ⟨p0, p1, p2, p3, p4, p5⟩ := obj_cells HL3.out.x; have r0 := HL3.out.rc; have r1 := HL3.out.rf; clear hb3)))
        | (go_at_call 20; go_loud ((refine (HCO.out _ HL3.out.b).mono ?_; rintro en w4 ⟨A9, c9, rfl, hr9, hb4⟩; have HL4 := Lib.hid (HL3.out.below hb4); have HR9 := Lib.hid hr9; clear p0 p1 p2 p3 p4 p5 r0 r1; obtain ⟨p0, p1, p2, p3, p4, p5⟩ := obj_cells HL4.out.x; have r0 := HL4.out.rc; have r1 := HL4.out.rf; clear hb4 hr9)))
        | (go_at_call 13; go_loud ((refine (HCK.out _ HL4.out.b).mono ?_; rintro en w5 ⟨rfl, hb5⟩; have HL5 := Lib.hid (HL4.out.below hb5); have HB5 := Lib.hid hb5; clear p0 p1 p2 p3 p4 p5 r0 r1; obtain ⟨p0, p1, p2, p3, p4, p5⟩ := obj_cells HL5.out.x; have r0 := HL5.out.rc; have r1 := HL5.out.rf; have hl5 := lt_of_heap HL5.out.x; have hr5 := lt_of_heap HL5.out.r; clear hb5)))
        | (go_at_call 21; go_loud ((refine (HWA.out _ (HL5.out.below ((Below.refl _ _).alloc (Nat.le_refl _) _)).b).mono ?_; rintro en w6 ⟨hb6, h6⟩; (first | (obtain ⟨_, rfl⟩ := HWN.out _ _ h6) | (obtain ⟨pw, A6, c6, rfl, hw6, hk6, hp6⟩ := HWY.out _ _ h6)); have HB6 := Lib.hid hb6; clear h6 hb6)))
        | (go_at_call 22; go_loud ((refine (HNA.out _ HL5.out.b).mono ?_; rintro en w6 ⟨A7, c7, rfl, hr7, hb6⟩; have HL6 := Lib.hid (HL5.out.below hb6); have HB6 := Lib.hid hb6; have HR7 := Lib.hid hr7; clear p0 p1 p2 p3 p4 p5 r0 r1; obtain ⟨p0, p1, p2, p3, p4, p5⟩ := obj_cells HL6.out.x; have r0 := HL6.out.rc; have r1 := HL6.out.rf; have hl6 := lt_of_heap HL6.out.x; have hr6 := lt_of_heap HL6.out.r; clear hb6 hr7))))
      clear p0 p1 p2 p3 p4 p5 r0 r1 hls hlr hl5 hr5 hl6 hr6
      go_loopw [8] (fun iv wr => ∃ i : Nat, iv = .int .i64 i ∧ i ≤ nm.length ∧ Hid (Below w6.heap.size w6 wr)) (fun iv _ => nm.length - (intOf iv).toNat)
      case atStart => exact ⟨0, rfl, Nat.zero_le _, Lib.hid (Below.refl _ _)⟩
      case round =>
        obtain ⟨i, rfl, hi, HB⟩ := hrel
        by_cases hlt : i < nm.length
        · obtain ⟨b9, o9, rfl, hb9, hn9⟩ := (HR9.out.below (hop0 (hop0 HB5.out HB6.out) HB.out)) i hlt
          obtain ⟨b7, o7, rfl, hb7, hn7⟩ := (HR7.out.below HB.out) i hlt
          have n9 := hn9 0 _ rfl
          have n7 := hn7 0 _ rfl
          simp only [Nat.mul_one, Nat.add_zero] at n9 n7
          have i1 : (0 : Int) ≤ (i : Int) := by omega
          have i2 : (i : Int) < (nm.length : Int) := by omega
          have i3 : i + 1 ≤ 9223372036854775807 := by have := HNL.out; unfold limN at this; omega
          clear hn9 hn7 hb9 hb7
          go_wp2
          go_quiet (fail)
          go_wp2
          go_roundw
          case rel => exact ⟨i + 1, by go_num, by omega, Lib.hid (below_more HB.out _)⟩
          case measure => simp [intOf]; omega
        · have HLr := Lib.hid (HL6.out.below HB.out)
          obtain ⟨p0, p1, p2, p3, p4, p5⟩ := obj_cells HLr.out.x
          have hl5 := lt_of_heap HLr.out.x
          have hr5 := lt_of_heap HLr.out.r
          go_wp2_with (go_at_call 23; go_loud ((refine (HLI.out _ HLr.out.b).mono ?_; rintro en w7 ⟨Al, cl, l, rfl, hm7, ho7, hk7, hb7⟩; obtain ⟨gl, cap, hv, hg1, hg2⟩ := ho7.form (cnt_pos e); injection hv with e1 _ e3; subst e1 e3; have HM := Lib.hid hm7; have HO7 := Lib.hid ho7; have HK7 := Lib.hid hk7; have HL7 := Lib.hid (HLr.out.below hb7); clear hm7 ho7 hk7 hb7 hg1 hg2 p0 p1 p2 p3 p4 p5)))
          obtain ⟨N, hN⟩ : ∃ q, cnt e = q := ⟨_, rfl⟩
          have HLN := Lib.hid (show l.length = N by
            have := congrArg List.length HM.out
            rwa [List.length_map, allX_len, hN] at this)
          have HNB := Lib.hid (show N ≤ limN by have := HCNT.out; unfold limN; omega)
          rw [hN] at HO7
          rw [hN]
          obtain ⟨W8, hW8⟩ : ∃ q, (w7.alloc (.cells #[.slice (some ⟨gl, 0, none⟩) N cl] 24)).alloc (.cells #[.int .i64 0] 3) = q := ⟨_, rfl⟩
          have hs8 : W8.heap.size = w7.heap.size + 2 := by rw [← hW8]; simp
          have hb8 : Below w7.heap.size w7 W8 := by rw [← hW8]; exact two_boxes _ _ _
          have hl8 : W8.heap[w7.heap.size]? = some (.cells #[.slice (some ⟨gl, 0, none⟩) N cl] 24) := by rw [← hW8]; exact (Below.heap_alloc _ _ _ (by simp)).trans (World.alloc_heap_new _ _)
          have ht8 : Cell1 (w7.heap.size + 1) (.int .i64 0) W8 := by rw [← hW8]; exact ⟨by simp [go_sem], by simp [go_sem]⟩
          obtain ⟨bl, hbl⟩ : ∃ q, w7.heap.size = q := ⟨_, rfl⟩
          rw [hbl] at hl8 ht8
          have HT := Lib.hid ht8
          have HLB := Lib.hid hl8
          have HL8 := Lib.hid (HL7.out.below hb8)
          have HO8 := Lib.hid (own_below HO7.out hb8)
          have HS8 := Lib.hid (show W8.heap.size = bl + 2 by rw [hs8, hbl])
          rw [hW8]
          rw [hbl]
          obtain ⟨p0, p1, p2, p3, p4, p5⟩ := obj_cells HL8.out.x
          have t0 := ht8.c
          have t1 := ht8.lt
          have hl5 := lt_of_heap HL8.out.x
          clear hW8 hs8 hb8 hl8 ht8 hbl hN hi hlt HB HB5 HB6 HR7 HR9 HNA HLI HCO HCK HFA HL1 HL2 HL3 HL4 HL5 HL6 HL7 HO7 HLr
          refine wp_loop_rounds 3 ?_
          rw [rounds_succ]
          go_wp2_with (go_at_call 21; go_loud ((refine (HWA.out _ (HL8.out.below ((Below.refl _ _).alloc (Nat.le_refl _) _)).b).mono ?_; rintro en w9 ⟨hb9, h9⟩; obtain ⟨pw, A6, c6, rfl, hw9, hk9, hp9⟩ := HWY.out _ _ h9; have HB9 := Lib.hid hb9; have HW9 := Lib.hid hw9; have HK9 := Lib.hid hk9; have HP9 := Lib.hid hp9; clear h9 hb9 hw9 hk9 hp9)))
          have hn9 : Cell1 W8.heap.size (.int .i64 0) w9 := by
            have h1 : Cell1 W8.heap.size (.int .i64 0) (W8.alloc (.cells #[.int .i64 0] 3)) := ⟨by simp [go_sem], by simp [go_sem]⟩
            exact h1.blk (HB9.out.block _ (by simp))
          have hb9 : Below W8.heap.size W8 w9 := hop0 ((Below.refl _ _).alloc (Nat.le_refl _) _) HB9.out
          have HK9 : Hid (KidsP w9 (fun k => W8.heap.size + 1 ≤ k ∧ k < pw) e A6 c6) := Lib.hid (by have := HK9.out; rwa [World.size_alloc] at this)
          have HP9 : Hid (W8.heap.size + 1 ≤ pw) := Lib.hid (by have := HP9.out; rwa [World.size_alloc] at this)
          have hpw : pw < w9.heap.size := lt_of_heap HW9.out
          have hn9s := hn9.lt
          have HN9 := Lib.hid hn9
          have HB99 := Lib.hid hb9
          have HPW := Lib.hid (And.intro HP9.out hpw)
          clear hn9 hb9 p0 p1 p2 p3 p4 p5 t0 t1 hl5
          refine (wpIn_wide (n := 8)).1 ?_
          refine range_nest2 rfl (by omega) (gf := 52) (lb := #[.pointer (some ⟨pw, 0, none⟩)]) (by simp [Act.eval]) trivial (enters_of Tryz.func52 (by kernel_rfl) rfl)
            (encs := XA.enc) (Y := Yw e) (Kp := Kt (w9.heap.size + 2) (fun q => W8.heap.size + 1 ≤ q ∧ q ≤ pw) 3) (done := fun xs' => xs'.map XA.e = allX e)
            (fun W1 hg hs1 => by
              have h := walk2_seq e HCN.out 7 (by decide) (fun k => W8.heap.size + 1 ≤ k ∧ k < pw) pw (fun q => W8.heap.size + 1 ≤ q ∧ q ≤ pw) 3 (by decide) (by decide) A6 c6 W1 ((hg.block _ hpw (by simp)).trans HW9.out) (HK9.out.stay (fun k h1 h2 => hg.block k h2 (by simp)))
                (fun k h1 => by omega) (fun k hk => ⟨hk.1, Nat.le_of_lt hk.2⟩) ⟨HP9.out, Nat.le_refl _⟩ (fun q hq => by omega)
              rw [hs1] at h
              exact h)
            (fun x => rfl) Kt.trans Kt.grown (fun U o => Kt.put (fun q hq => by omega) rfl (by omega) o)
            (WkI W8 (w9.heap.size + 2))
            (fun c2 _ U => c2 = .exit 6 ∧ WkX W8 U)
            (WkI.own hn9s)
            (fun c3 => (LoopOwn.pure_ (fun _ => c3 = .exit 6)).and (WkX.own hn9s))
            (fun pre => Yw.own pre) ?sta2 boxX (fun x U => World.grownBy_alloc U _ none) AtX (fun x U r r' hb => AtX.made hb.lt _) ?a2 ?asa2 ?boa2 ?doa2 ?spa2
          case sta2 =>
            intro W1 hg hs1
            exact ⟨HB99.out.trans (below_of_grown hg (fun r e => by cases e) (by omega)), HN9.out.blk (hg.block _ hn9s (by simp)), by omega⟩
          case asa2 =>
            intro l0 x U K hK
            unfold XA.enc X.val
            gi_wp2
            exact hK
          case boa2 =>
            rintro l0 pre x U V2 hI ⟨⟨post, hpre⟩, hkx⟩ hat hbk
            obtain ⟨hpl, hpe⟩ := at_pre HM.out hpre
            have HLV := Lib.hid (HL8.out.below hI.b)
            have t0 := (HT.out.blk (hI.b.block _ HT.out.lt)).c
            have hlb := (hI.b.block _ (lt_of_heap HLB.out)).trans HLB.out
            have b0 : V2.cell? ⟨bl, 0, none⟩ = some (.slice (some ⟨gl, 0, none⟩) N cl) := by simp [World.cell?, hlb]
            have s0 := HLV.out.sc
            have n0 := hI.n.c
            have HO2 := own_below HO8.out hI.b
            obtain ⟨k0, k1, k2, k3, k4, k5⟩ := own_at6 HO2 hpl
            rw [hpe] at k0 k1 k2 k3 k4 k5
            have hkl := HK7.out _ (List.getElem_mem hpl)
            rw [hpe] at hkl
            obtain ⟨qA, hqA⟩ : ∃ q, l[pre.length].A = q := ⟨_, rfl⟩
            obtain ⟨qc, hqc⟩ : ∃ q, l[pre.length].c = q := ⟨_, rfl⟩
            rw [hqA, hqc] at k5 hkl
            obtain ⟨m, hm⟩ : ∃ q, pre.length = q := ⟨_, rfl⟩
            have hmN : m < N := by have := HLN.out; omega
            rw [hm] at n0 k0 k1 k2 k3 k4 k5
            obtain ⟨d0, d1, d2, d3, d4, d5⟩ := obj_cells hat
            have HSM := Lib.hid (fun (W : World) (hb : Below V2.heap.size V2 W) => rsame_any x.e x.A x.c qA qc W (KidsAt.more hb.size (hkx.below hb)) (KidsAt.more (Nat.le_trans HLV.out.b.size hb.size) (hkl.below (HLV.out.b.trans (hb.mono HLV.out.b.size)))))
            have HNX := Lib.hid (show Cell1 W8.heap.size (.int .i64 (m : Nat)) V2 by rw [← hm]; exact hI.n)
            have HST := Lib.hid (fun (w4 : World) (hS : Below V2.heap.size V2 w4) => wk_step (T := 3) (pw := pw) (x := x) hI hm hbk hn9s hS)
            have i1 : (0 : Int) ≤ (m : Int) := by omega
            have i2 : (m : Int) < (N : Int) := by omega
            have i3 : m + 1 ≤ 9223372036854775807 := by have := HNB.out; unfold limN at this; omega
            have q1 : decide ((N : Int) ≤ (m : Int)) = false := decide_eq_false (by omega)
            unfold X.val at HSM
            clear hI hpre hkx hat hbk hpl hpe hlb HO2 hkl hqA hqc hm
            gi_wp2
            have hS : Below V2.heap.size V2 V2.drew := (Below.refl _ V2).drew
            refine held_round 13 (fun W => Below V2.heap.size V2 W) rfl (by kernel_rfl) (by simp) (by simp [LetsOut, Exit.then, Exit.inBlock, nestPost] <;> exact fun _ _ h => h) ?_
            refine held_take (i := 0) (t := 65) (v := (.int .i64 (m : Int))) (fuel := 12) rfl rfl (by kernel_rfl) (by kernel_rfl) (by kernel_rfl) (fun _ _ _ h => h) (.inl ⟨rfl, fun W hW => by simp [execOp, Act.eval, go_sem, later_cell hW n0]⟩) hS ?_
            simp only [List.setIfInBounds_toArray, List.set_cons_succ, List.set_cons_zero]
            refine held_take (i := 1) (t := 66) (v := (.slice (some ⟨gl, 0, none⟩) N cl)) (fuel := 11) rfl rfl (by kernel_rfl) (by kernel_rfl) (by kernel_rfl) (fun _ _ _ h => h) (.inl ⟨rfl, fun W hW => by simp [execOp, Act.eval, go_sem, later_cell hW b0]⟩) hS ?_
            simp only [List.setIfInBounds_toArray, List.set_cons_succ, List.set_cons_zero]
            refine held_take (i := 2) (t := 67) (v := (.int .i64 (N : Int))) (fuel := 10) rfl rfl (by kernel_rfl) (by kernel_rfl) (by kernel_rfl) (fun _ _ _ h => h) (.inl ⟨rfl, fun W hW => by simp [execOp, Act.eval, go_sem]⟩) hS ?_
            simp only [List.setIfInBounds_toArray, List.set_cons_succ, List.set_cons_zero]
            refine held_take (i := 3) (t := 68) (v := (.bool false)) (fuel := 9) rfl rfl (by kernel_rfl) (by kernel_rfl) (by kernel_rfl) (fun _ _ _ h => h) (.inl ⟨rfl, fun W hW => by simp [execOp, Act.eval, go_sem, q1, hmN]⟩) hS ?_
            simp only [List.setIfInBounds_toArray, List.set_cons_succ, List.set_cons_zero]
            refine held_take (i := 4) (t := 69) (v := (.bool false)) (fuel := 8) rfl rfl (by kernel_rfl) (by kernel_rfl) (by kernel_rfl) (fun _ _ _ h => h) (.inl ⟨rfl, fun W hW => by simp [execOp, Act.eval, go_sem]⟩) hS ?_
            simp only [List.setIfInBounds_toArray, List.set_cons_succ, List.set_cons_zero]
            refine held_take (i := 5) (t := 70) (v := (.agg #[.int .i64 x.e.op, .string x.e.nm, .int .i64 x.e.v.k, .int .i64 x.e.v.n, .string x.e.v.s, .slice x.A x.e.ks.length x.c])) (fuel := 7) rfl rfl (by kernel_rfl) (by kernel_rfl) (by kernel_rfl) (fun _ _ _ h => h) (.inl ⟨rfl, fun W hW => by simp [execOp, Act.eval, go_sem, later_cell hW d0, later_cell hW d1, later_cell hW d2, later_cell hW d3, later_cell hW d4, later_cell hW d5]⟩) hS ?_
            simp only [List.setIfInBounds_toArray, List.set_cons_succ, List.set_cons_zero]
            refine held_take (i := 6) (t := 71) (v := (.slice (some ⟨gl, 0, none⟩) N cl)) (fuel := 6) rfl rfl (by kernel_rfl) (by kernel_rfl) (by kernel_rfl) (fun _ _ _ h => h) (.inl ⟨rfl, fun W hW => by simp [execOp, Act.eval, go_sem, later_cell hW b0]⟩) hS ?_
            simp only [List.setIfInBounds_toArray, List.set_cons_succ, List.set_cons_zero]
            refine held_take (i := 7) (t := 72) (v := (.int .i64 (m : Int))) (fuel := 5) rfl rfl (by kernel_rfl) (by kernel_rfl) (by kernel_rfl) (fun _ _ _ h => h) (.inl ⟨rfl, fun W hW => by simp [execOp, Act.eval, go_sem, later_cell hW n0]⟩) hS ?_
            simp only [List.setIfInBounds_toArray, List.set_cons_succ, List.set_cons_zero]
            refine held_take (i := 8) (t := 73) (v := (.pointer (some ⟨gl, m * 6, none⟩))) (fuel := 4) rfl rfl (by kernel_rfl) (by kernel_rfl) (by kernel_rfl) (fun _ _ _ h => h) (.inl ⟨rfl, fun W hW => by simp [execOp, Act.eval, go_sem, i1, i2]⟩) hS ?_
            simp only [List.setIfInBounds_toArray, List.set_cons_succ, List.set_cons_zero]
            refine held_take (i := 9) (t := 74) (v := (.agg #[.int .i64 x.e.op, .string x.e.nm, .int .i64 x.e.v.k, .int .i64 x.e.v.n, .string x.e.v.s, .slice qA x.e.ks.length qc])) (fuel := 3) rfl rfl (by kernel_rfl) (by kernel_rfl) (by kernel_rfl) (fun _ _ _ h => h) (.inl ⟨rfl, fun W hW => by simp [execOp, Act.eval, go_sem, later_cell hW k0, later_cell hW k1, later_cell hW k2, later_cell hW k3, later_cell hW k4, later_cell hW k5]⟩) hS ?_
            simp only [List.setIfInBounds_toArray, List.set_cons_succ, List.set_cons_zero]
            refine held_call (i := 10) rfl (by kernel_rfl) (by kernel_rfl) ?_
            simp [Oper.wp, execOp, Act.eval, Act.put, go_sem]
            refine (HSM.out _ hS).mono ?_
            rintro en w4 ⟨rfl, hb4⟩
            have hS : Below V2.heap.size V2 w4 := hop0 hS hb4
            refine ⟨hS, ?_⟩
            try simp only [List.setIfInBounds_toArray, List.set_cons_succ, List.set_cons_zero]
            refine held_take (i := 11) (t := 76) (v := (.bool false)) (fuel := 1) rfl rfl (by kernel_rfl) (by kernel_rfl) (by kernel_rfl) (fun _ _ _ h => h) (.inl ⟨rfl, fun W hW => by simp [execOp, Act.eval, go_sem]⟩) hS ?_
            simp only [List.setIfInBounds_toArray, List.set_cons_succ, List.set_cons_zero]
            refine held_take (i := 12) (t := 77) (v := (.bool false)) (fuel := 0) rfl rfl (by kernel_rfl) (by kernel_rfl) (by kernel_rfl) (fun _ _ _ h => h) (.inl ⟨rfl, fun W hW => by simp [execOp, Act.eval, go_sem]⟩) hS ?_
            simp only [List.setIfInBounds_toArray, List.set_cons_succ, List.set_cons_zero]
            refine wpAnyH_done (by kernel_rfl) ?_ 0
            have HST4 := Lib.hid (HST.out w4 hS)
            have hn4 := HNX.out.blk (hS.block _ HNX.out.lt)
            have n1 := hn4.c
            have n2 := hn4.f
            have n3 := hn4.lt
            have t4 := later_cell hS t0
            have s4 := later_cell hS s0
            have u1 := Nat.ne_of_lt HT.out.lt
            have u2 : w.heap.size + 1 ≠ W8.heap.size := Nat.ne_of_lt (lt_of_heap HL8.out.t)
            clear hS hb4 hn4 n0 t0 s0 b0 d0 d1 d2 d3 d4 d5 k0 k1 k2 k3 k4 k5 HST
            by_cases hgt : st < (m : Int) + 1
            · have q2 : decide (st < (m : Int) + 1) = true := decide_eq_true hgt
              gi_wp2
              exact ⟨HST4.out.1, HST4.out.2.1, rfl, ⟨HST4.out.2.2.b, ⟨_, HST4.out.2.2.n⟩⟩⟩
            · have q2 : decide (st < (m : Int) + 1) = false := decide_eq_false hgt
              gi_wp2
              exact ⟨HST4.out.1, HST4.out.2.1, HST4.out.2.2⟩
          case spa2 =>
            rintro cc pre V ⟨rfl, hX⟩ hK
            obtain ⟨mm, hn⟩ := hX.n
            have hb := hX.b
            have HK := Lib.hid hK
            have n0 := hn.c
            have n1 := hn.lt
            clear hX hK hn
            have HLV := Lib.hid (HL8.out.below hb)
            have HTV := Lib.hid (HT.out.blk (hb.block _ HT.out.lt))
            have HLBV := Lib.hid ((hb.block _ (lt_of_heap HLB.out)).trans HLB.out)
            have HOV := Lib.hid (own_below HO8.out hb)
            obtain ⟨p0, p1, p2, p3, p4, p5⟩ := obj_cells HLV.out.x
            have hl5 := lt_of_heap HLV.out.x
            have t0 := HTV.out.c
            have t1 := HTV.out.lt
            have b0 : V.cell? ⟨bl, 0, none⟩ = some (.slice (some ⟨gl, 0, none⟩) N cl) := by simp [World.cell?, HLBV.out]
            have r0 := HLV.out.rc
            have r1 := HLV.out.rf
            have hlr := lt_of_heap HLV.out.r
            gi_wp2
            go_wp2
            obtain ⟨Wv, hWv⟩ : ∃ q, V.alloc (.cells #[.int .i64 1] 3) = q := ⟨_, rfl⟩
            have hbv : Below V.heap.size V Wv := by rw [← hWv]; exact (Below.refl _ _).alloc (Nat.le_refl _) _
            have ht8 : Cell1 V.heap.size (.int .i64 1) Wv := by rw [← hWv]; exact ⟨by simp [go_sem], by simp [go_sem]⟩
            have HTn := Lib.hid ht8
            have HLBn := Lib.hid ((hbv.block _ (lt_of_heap HLBV.out)).trans HLBV.out)
            have HLn := Lib.hid (HLV.out.below hbv)
            have HOn := Lib.hid (own_below HOV.out hbv)
            have HKn := Lib.hid ((hbv.block _ (lt_of_heap HK.out)).trans HK.out)
            rw [hWv]
            have HD0 := Lib.hid (show w.heap.size + 2 < w9.heap.size from Nat.lt_of_lt_of_le (lt_of_heap HL8.out.r) HB99.out.size)
            obtain ⟨D0, hD0⟩ : ∃ q, w9.heap.size = q := ⟨_, rfl⟩
            rw [hD0] at HKn HD0
            rw [hD0]
            obtain ⟨bt, hbt⟩ : ∃ q, V.heap.size = q := ⟨_, rfl⟩
            rw [hbt] at HTn
            rw [hbt]
            clear p0 p1 p2 p3 p4 p5 r0 r1 hlr t0 t1 b0 n0 n1 hl5 hb hn9s hpw HB9 HW9 HK9 HP9 HN9 HB99 HPW HK HLV HTV HLBV HOV
            obtain ⟨p0, p1, p2, p3, p4, p5⟩ := obj_cells HLn.out.x
            have t0 := HTn.out.c
            have t1 := HTn.out.lt
            have hl5 := lt_of_heap HLn.out.x
            clear hWv hbv ht8 hD0 hbt
            rw [rounds_succ]
            go_wp2_with (go_at_call 21; go_loud ((refine (HWA.out _ (HLn.out.below ((Below.refl _ _).alloc (Nat.le_refl _) _)).b).mono ?_; rintro en w9 ⟨hb9, h9⟩; obtain ⟨pw, A6, c6, rfl, hw9, hk9, hp9⟩ := HWY.out _ _ h9; have HB9 := Lib.hid hb9; have HW9 := Lib.hid hw9; have HK9 := Lib.hid hk9; have HP9 := Lib.hid hp9; clear h9 hb9 hw9 hk9 hp9)))
            have hn9 : Cell1 Wv.heap.size (.int .i64 0) w9 := by
              have h1 : Cell1 Wv.heap.size (.int .i64 0) (Wv.alloc (.cells #[.int .i64 0] 3)) := ⟨by simp [go_sem], by simp [go_sem]⟩
              exact h1.blk (HB9.out.block _ (by simp))
            have hb9 : Below Wv.heap.size Wv w9 := hop0 ((Below.refl _ _).alloc (Nat.le_refl _) _) HB9.out
            have HK9 : Hid (KidsP w9 (fun k => Wv.heap.size + 1 ≤ k ∧ k < pw) e A6 c6) := Lib.hid (by have := HK9.out; rwa [World.size_alloc] at this)
            have HP9 : Hid (Wv.heap.size + 1 ≤ pw) := Lib.hid (by have := HP9.out; rwa [World.size_alloc] at this)
            have hpw : pw < w9.heap.size := lt_of_heap HW9.out
            have hn9s := hn9.lt
            have HN9 := Lib.hid hn9
            have HB99 := Lib.hid hb9
            have HPW := Lib.hid (And.intro HP9.out hpw)
            clear hn9 hb9 p0 p1 p2 p3 p4 p5 t0 t1 hl5
            refine (wpIn_wide (n := 8)).1 ?_
            refine range_nest2 rfl (by omega) (gf := 52) (lb := #[.pointer (some ⟨pw, 0, none⟩)]) (by simp [Act.eval]) trivial (enters_of Tryz.func52 (by kernel_rfl) rfl)
              (encs := XA.enc) (Y := Yw e) (Kp := Kt (w9.heap.size + 2) (fun q => Wv.heap.size + 1 ≤ q ∧ q ≤ pw) 3) (done := fun xs' => xs'.map XA.e = allX e)
              (fun W1 hg hs1 => by
                have h := walk2_seq e HCN.out 7 (by decide) (fun k => Wv.heap.size + 1 ≤ k ∧ k < pw) pw (fun q => Wv.heap.size + 1 ≤ q ∧ q ≤ pw) 3 (by decide) (by decide) A6 c6 W1 ((hg.block _ hpw (by simp)).trans HW9.out) (HK9.out.stay (fun k h1 h2 => hg.block k h2 (by simp)))
                  (fun k h1 => by omega) (fun k hk => ⟨hk.1, Nat.le_of_lt hk.2⟩) ⟨HP9.out, Nat.le_refl _⟩ (fun q hq => by omega)
                rw [hs1] at h
                exact h)
              (fun x => rfl) Kt.trans Kt.grown (fun U o => Kt.put (fun q hq => by omega) rfl (by omega) o)
              (WkI Wv (w9.heap.size + 2))
              (fun _ _ _ => False)
              (WkI.own hn9s)
              (fun _ _ _ _ _ h _ _ => h)
              (fun pre => Yw.own pre) ?sta4 boxX (fun x U => World.grownBy_alloc U _ none) AtX (fun x U r r' hb => AtX.made hb.lt _) ?a4 ?asa4 ?boa4 ?doa4 ?spa4
            case sta4 =>
              intro W1 hg hs1
              exact ⟨HB99.out.trans (below_of_grown hg (fun r e => by cases e) (by omega)), HN9.out.blk (hg.block _ hn9s (by simp)), by omega⟩
            case asa4 =>
              intro l0 x U K hK
              unfold XA.enc X.val
              gi_wp2
              exact hK
            case boa4 =>
              rintro l0 pre x U V2 hI ⟨⟨post, hpre⟩, hkx⟩ hat hbk
              obtain ⟨hpl, hpe⟩ := at_pre HM.out hpre
              have HLV := Lib.hid (HLn.out.below hI.b)
              have t0 := (HTn.out.blk (hI.b.block _ HTn.out.lt)).c
              have hlb := (hI.b.block _ (lt_of_heap HLBn.out)).trans HLBn.out
              have b0 : V2.cell? ⟨bl, 0, none⟩ = some (.slice (some ⟨gl, 0, none⟩) N cl) := by simp [World.cell?, hlb]
              have s0 := HLV.out.sc
              have n0 := hI.n.c
              have HO2 := own_below HOn.out hI.b
              obtain ⟨k0, k1, k2, k3, k4, k5⟩ := own_at6 HO2 hpl
              rw [hpe] at k0 k1 k2 k3 k4 k5
              have hkl := HK7.out _ (List.getElem_mem hpl)
              rw [hpe] at hkl
              obtain ⟨qA, hqA⟩ : ∃ q, l[pre.length].A = q := ⟨_, rfl⟩
              obtain ⟨qc, hqc⟩ : ∃ q, l[pre.length].c = q := ⟨_, rfl⟩
              rw [hqA, hqc] at k5 hkl
              obtain ⟨m, hm⟩ : ∃ q, pre.length = q := ⟨_, rfl⟩
              have hmN : m < N := by have := HLN.out; omega
              rw [hm] at n0 k0 k1 k2 k3 k4 k5
              obtain ⟨d0, d1, d2, d3, d4, d5⟩ := obj_cells hat
              have HSM := Lib.hid (fun (W : World) (hb : Below V2.heap.size V2 W) => rsame_any x.e x.A x.c qA qc W (KidsAt.more hb.size (hkx.below hb)) (KidsAt.more (Nat.le_trans HLV.out.b.size hb.size) (hkl.below (HLV.out.b.trans (hb.mono HLV.out.b.size)))))
              have HNX := Lib.hid (show Cell1 Wv.heap.size (.int .i64 (m : Nat)) V2 by rw [← hm]; exact hI.n)
              have HST := Lib.hid (fun (w4 : World) (hS : Below V2.heap.size V2 w4) => wk_step (T := 3) (pw := pw) (x := x) hI hm hbk hn9s hS)
              have i1 : (0 : Int) ≤ (m : Int) := by omega
              have i2 : (m : Int) < (N : Int) := by omega
              have i3 : m + 1 ≤ 9223372036854775807 := by have := HNB.out; unfold limN at this; omega
              have q1 : decide ((N : Int) ≤ (m : Int)) = false := decide_eq_false (by omega)
              unfold X.val at HSM
              clear hI hpre hkx hat hbk hpl hpe hlb HO2 hkl hqA hqc hm
              gi_wp2
              have hS : Below V2.heap.size V2 V2.drew := (Below.refl _ V2).drew
              refine held_round 13 (fun W => Below V2.heap.size V2 W) rfl (by kernel_rfl) (by simp) (by simp [LetsOut, Exit.then, Exit.inBlock, nestPost] <;> exact fun _ _ h => h) ?_
              refine held_take (i := 0) (t := 65) (v := (.int .i64 (m : Int))) (fuel := 12) rfl rfl (by kernel_rfl) (by kernel_rfl) (by kernel_rfl) (fun _ _ _ h => h) (.inl ⟨rfl, fun W hW => by simp [execOp, Act.eval, go_sem, later_cell hW n0]⟩) hS ?_
              simp only [List.setIfInBounds_toArray, List.set_cons_succ, List.set_cons_zero]
              refine held_take (i := 1) (t := 66) (v := (.slice (some ⟨gl, 0, none⟩) N cl)) (fuel := 11) rfl rfl (by kernel_rfl) (by kernel_rfl) (by kernel_rfl) (fun _ _ _ h => h) (.inl ⟨rfl, fun W hW => by simp [execOp, Act.eval, go_sem, later_cell hW b0]⟩) hS ?_
              simp only [List.setIfInBounds_toArray, List.set_cons_succ, List.set_cons_zero]
              refine held_take (i := 2) (t := 67) (v := (.int .i64 (N : Int))) (fuel := 10) rfl rfl (by kernel_rfl) (by kernel_rfl) (by kernel_rfl) (fun _ _ _ h => h) (.inl ⟨rfl, fun W hW => by simp [execOp, Act.eval, go_sem]⟩) hS ?_
              simp only [List.setIfInBounds_toArray, List.set_cons_succ, List.set_cons_zero]
              refine held_take (i := 3) (t := 68) (v := (.bool false)) (fuel := 9) rfl rfl (by kernel_rfl) (by kernel_rfl) (by kernel_rfl) (fun _ _ _ h => h) (.inl ⟨rfl, fun W hW => by simp [execOp, Act.eval, go_sem, q1, hmN]⟩) hS ?_
              simp only [List.setIfInBounds_toArray, List.set_cons_succ, List.set_cons_zero]
              refine held_take (i := 4) (t := 69) (v := (.bool false)) (fuel := 8) rfl rfl (by kernel_rfl) (by kernel_rfl) (by kernel_rfl) (fun _ _ _ h => h) (.inl ⟨rfl, fun W hW => by simp [execOp, Act.eval, go_sem]⟩) hS ?_
              simp only [List.setIfInBounds_toArray, List.set_cons_succ, List.set_cons_zero]
              refine held_take (i := 5) (t := 70) (v := (.agg #[.int .i64 x.e.op, .string x.e.nm, .int .i64 x.e.v.k, .int .i64 x.e.v.n, .string x.e.v.s, .slice x.A x.e.ks.length x.c])) (fuel := 7) rfl rfl (by kernel_rfl) (by kernel_rfl) (by kernel_rfl) (fun _ _ _ h => h) (.inl ⟨rfl, fun W hW => by simp [execOp, Act.eval, go_sem, later_cell hW d0, later_cell hW d1, later_cell hW d2, later_cell hW d3, later_cell hW d4, later_cell hW d5]⟩) hS ?_
              simp only [List.setIfInBounds_toArray, List.set_cons_succ, List.set_cons_zero]
              refine held_take (i := 6) (t := 71) (v := (.slice (some ⟨gl, 0, none⟩) N cl)) (fuel := 6) rfl rfl (by kernel_rfl) (by kernel_rfl) (by kernel_rfl) (fun _ _ _ h => h) (.inl ⟨rfl, fun W hW => by simp [execOp, Act.eval, go_sem, later_cell hW b0]⟩) hS ?_
              simp only [List.setIfInBounds_toArray, List.set_cons_succ, List.set_cons_zero]
              refine held_take (i := 7) (t := 72) (v := (.int .i64 (m : Int))) (fuel := 5) rfl rfl (by kernel_rfl) (by kernel_rfl) (by kernel_rfl) (fun _ _ _ h => h) (.inl ⟨rfl, fun W hW => by simp [execOp, Act.eval, go_sem, later_cell hW n0]⟩) hS ?_
              simp only [List.setIfInBounds_toArray, List.set_cons_succ, List.set_cons_zero]
              refine held_take (i := 8) (t := 73) (v := (.pointer (some ⟨gl, m * 6, none⟩))) (fuel := 4) rfl rfl (by kernel_rfl) (by kernel_rfl) (by kernel_rfl) (fun _ _ _ h => h) (.inl ⟨rfl, fun W hW => by simp [execOp, Act.eval, go_sem, i1, i2]⟩) hS ?_
              simp only [List.setIfInBounds_toArray, List.set_cons_succ, List.set_cons_zero]
              refine held_take (i := 9) (t := 74) (v := (.agg #[.int .i64 x.e.op, .string x.e.nm, .int .i64 x.e.v.k, .int .i64 x.e.v.n, .string x.e.v.s, .slice qA x.e.ks.length qc])) (fuel := 3) rfl rfl (by kernel_rfl) (by kernel_rfl) (by kernel_rfl) (fun _ _ _ h => h) (.inl ⟨rfl, fun W hW => by simp [execOp, Act.eval, go_sem, later_cell hW k0, later_cell hW k1, later_cell hW k2, later_cell hW k3, later_cell hW k4, later_cell hW k5]⟩) hS ?_
              simp only [List.setIfInBounds_toArray, List.set_cons_succ, List.set_cons_zero]
              refine held_call (i := 10) rfl (by kernel_rfl) (by kernel_rfl) ?_
              simp [Oper.wp, execOp, Act.eval, Act.put, go_sem]
              refine (HSM.out _ hS).mono ?_
              rintro en w4 ⟨rfl, hb4⟩
              have hS : Below V2.heap.size V2 w4 := hop0 hS hb4
              refine ⟨hS, ?_⟩
              try simp only [List.setIfInBounds_toArray, List.set_cons_succ, List.set_cons_zero]
              refine held_take (i := 11) (t := 76) (v := (.bool false)) (fuel := 1) rfl rfl (by kernel_rfl) (by kernel_rfl) (by kernel_rfl) (fun _ _ _ h => h) (.inl ⟨rfl, fun W hW => by simp [execOp, Act.eval, go_sem]⟩) hS ?_
              simp only [List.setIfInBounds_toArray, List.set_cons_succ, List.set_cons_zero]
              refine held_take (i := 12) (t := 77) (v := (.bool false)) (fuel := 0) rfl rfl (by kernel_rfl) (by kernel_rfl) (by kernel_rfl) (fun _ _ _ h => h) (.inl ⟨rfl, fun W hW => by simp [execOp, Act.eval, go_sem]⟩) hS ?_
              simp only [List.setIfInBounds_toArray, List.set_cons_succ, List.set_cons_zero]
              refine wpAnyH_done (by kernel_rfl) ?_ 0
              have HST4 := Lib.hid (HST.out w4 hS)
              have hn4 := HNX.out.blk (hS.block _ HNX.out.lt)
              have n1 := hn4.c
              have n2 := hn4.f
              have n3 := hn4.lt
              have t4 := later_cell hS t0
              have s4 := later_cell hS s0
              have u1 := Nat.ne_of_lt HTn.out.lt
              have u2 : w.heap.size + 1 ≠ Wv.heap.size := Nat.ne_of_lt (lt_of_heap HLn.out.t)
              clear hS hb4 hn4 n0 t0 s0 b0 d0 d1 d2 d3 d4 d5 k0 k1 k2 k3 k4 k5 HST
              gi_wp2
              exact ⟨HST4.out.1, HST4.out.2.1, HST4.out.2.2⟩
            case spa4 =>
              rintro cc pre V2 h
              exact h.elim
            case doa4 =>
              rintro xs V hxs hI hK
              have hxl : xs.length = N := by
                have hxs2 : xs.map XA.e = allX e := hxs
                have h := congrArg List.length hxs2
                have h2 := congrArg List.length HM.out
                rw [List.length_map] at h h2
                have := HLN.out
                omega
              have hn := hI.n
              rw [hxl] at hn
              have hb := hI.b
              have HK := Lib.hid hK
              have n0 := hn.c
              have n1 := hn.lt
              clear hxs hxl hI hK hn
              have HLV := Lib.hid (HLn.out.below hb)
              have HTV := Lib.hid (HTn.out.blk (hb.block _ HTn.out.lt))
              have HLBV := Lib.hid ((hb.block _ (lt_of_heap HLBn.out)).trans HLBn.out)
              have HOV := Lib.hid (own_below HOn.out hb)
              obtain ⟨p0, p1, p2, p3, p4, p5⟩ := obj_cells HLV.out.x
              have hl5 := lt_of_heap HLV.out.x
              have t0 := HTV.out.c
              have t1 := HTV.out.lt
              have b0 : V.cell? ⟨bl, 0, none⟩ = some (.slice (some ⟨gl, 0, none⟩) N cl) := by simp [World.cell?, HLBV.out]
              have r0 := HLV.out.rc
              have r1 := HLV.out.rf
              have hlr := lt_of_heap HLV.out.r
              have HK0 := Lib.hid ((hb.block _ (lt_of_heap HKn.out)).trans HKn.out)
              have hne : D0 ≠ w9.heap.size := Nat.ne_of_lt (Nat.lt_of_lt_of_le (lt_of_heap HKn.out) HB99.out.size)
              have HD9 := Lib.hid (show w.heap.size + 2 < w9.heap.size from Nat.lt_of_lt_of_le (lt_of_heap HLn.out.r) HB99.out.size)
              clear hb
              go_wp2
              rw [rounds_succ]
              go_wp2
              obtain ⟨Wf, hWf⟩ : ∃ q, (V.setCell ⟨w.heap.size + 1 + 1, 0, none⟩ (.bool true)).alloc (.cells #[.int .i64 2] 3) = q := ⟨_, rfl⟩
              have hm1 := Lw.mark (w := w) HD9.out (.bool true) HK.out
              have hm0 := Lw.mark (w := w) HD0.out (.bool true) HK0.out
              have hsb := HLV.out.setb (.bool true)
              have hbs : Below w.heap.size w Wf := by rw [← hWf]; exact hsb.alloc hsb.size _
              have hk1 : Wf.heap[w9.heap.size]? = some (.deferred (some [])) := by rw [← hWf]; exact (Below.heap_alloc _ _ _ (lt_of_heap hm1)).trans hm1
              have hk0 : Wf.heap[D0]? = some (.deferred (some [])) := by rw [← hWf]; exact (Below.heap_alloc _ _ _ (lt_of_heap hm0)).trans hm0
              have hz : Wf.cell? ⟨w.heap.size + 2, 0, none⟩ = some (.bool true) := by
                rw [← hWf]
                have h := HLV.out.set (.bool true)
                exact (World.cell?_of_block (w := V.setCell ⟨w.heap.size + 2, 0, none⟩ (.bool true)) (a := ⟨w.heap.size + 2, 0, none⟩) (Below.heap_alloc _ _ _ (World.block_lt_of_cell? _ _ h))).trans h
              rw [hWf]
              refine ⟨by simp, .inl ⟨_, _, rfl, run_takeDeferred hk1, ?_⟩⟩
              refine ⟨by simp, .inl ⟨_, _, rfl, run_takeDeferred ((World.putObj_heap_other hne).trans hk0), ?_⟩⟩
              have z0 := (World.cell?_of_block (w := Wf) (a := ⟨w.heap.size + 2, 0, none⟩) (World.putObj_heap_other (o := .deferred none) (Nat.ne_of_lt HD9.out))).trans hz
              have z := (World.cell?_of_block (w := Wf.putObj w9.heap.size (.deferred none)) (a := ⟨w.heap.size + 2, 0, none⟩) (World.putObj_heap_other (o := .deferred none) (Nat.ne_of_lt HD0.out))).trans z0
              exact ⟨.bool true, by simp [results, Tryz.results6, go_sem, z], rfl, below_put (below_put hbs (Nat.le_refl _) (by have := HD9.out; omega) _) (Nat.le_refl _) (by have := HD0.out; omega) _⟩
          case doa2 =>
            rintro xs V hxs hI hK
            have hxl : xs.length = N := by
              have hxs2 : xs.map XA.e = allX e := hxs
              have h := congrArg List.length hxs2
              have h2 := congrArg List.length HM.out
              rw [List.length_map] at h h2
              have := HLN.out
              omega
            have hn := hI.n
            rw [hxl] at hn
            have hb := hI.b
            have HK := Lib.hid hK
            have n0 := hn.c
            have n1 := hn.lt
            clear hxs hxl hI hK hn
            have HLV := Lib.hid (HL8.out.below hb)
            have HTV := Lib.hid (HT.out.blk (hb.block _ HT.out.lt))
            have HLBV := Lib.hid ((hb.block _ (lt_of_heap HLB.out)).trans HLB.out)
            have HOV := Lib.hid (own_below HO8.out hb)
            obtain ⟨p0, p1, p2, p3, p4, p5⟩ := obj_cells HLV.out.x
            have hl5 := lt_of_heap HLV.out.x
            have t0 := HTV.out.c
            have t1 := HTV.out.lt
            have b0 : V.cell? ⟨bl, 0, none⟩ = some (.slice (some ⟨gl, 0, none⟩) N cl) := by simp [World.cell?, HLBV.out]
            have r0 := HLV.out.rc
            have r1 := HLV.out.rf
            have hlr := lt_of_heap HLV.out.r
            go_wp2
            obtain ⟨Wv, hWv⟩ : ∃ q, V.alloc (.cells #[.int .i64 1] 3) = q := ⟨_, rfl⟩
            have hbv : Below V.heap.size V Wv := by rw [← hWv]; exact (Below.refl _ _).alloc (Nat.le_refl _) _
            have ht8 : Cell1 V.heap.size (.int .i64 1) Wv := by rw [← hWv]; exact ⟨by simp [go_sem], by simp [go_sem]⟩
            have HTn := Lib.hid ht8
            have HLBn := Lib.hid ((hbv.block _ (lt_of_heap HLBV.out)).trans HLBV.out)
            have HLn := Lib.hid (HLV.out.below hbv)
            have HOn := Lib.hid (own_below HOV.out hbv)
            have HKn := Lib.hid ((hbv.block _ (lt_of_heap HK.out)).trans HK.out)
            rw [hWv]
            have HD0 := Lib.hid (show w.heap.size + 2 < w9.heap.size from Nat.lt_of_lt_of_le (lt_of_heap HL8.out.r) HB99.out.size)
            obtain ⟨D0, hD0⟩ : ∃ q, w9.heap.size = q := ⟨_, rfl⟩
            rw [hD0] at HKn HD0
            rw [hD0]
            obtain ⟨bt, hbt⟩ : ∃ q, V.heap.size = q := ⟨_, rfl⟩
            rw [hbt] at HTn
            rw [hbt]
            clear p0 p1 p2 p3 p4 p5 r0 r1 hlr t0 t1 b0 n0 n1 hl5 hb hn9s hpw HB9 HW9 HK9 HP9 HN9 HB99 HPW HK HLV HTV HLBV HOV
            obtain ⟨p0, p1, p2, p3, p4, p5⟩ := obj_cells HLn.out.x
            have t0 := HTn.out.c
            have t1 := HTn.out.lt
            have hl5 := lt_of_heap HLn.out.x
            clear hWv hbv ht8 hD0 hbt
            rw [rounds_succ]
            go_wp2_with (go_at_call 21; go_loud ((refine (HWA.out _ (HLn.out.below ((Below.refl _ _).alloc (Nat.le_refl _) _)).b).mono ?_; rintro en w9 ⟨hb9, h9⟩; obtain ⟨pw, A6, c6, rfl, hw9, hk9, hp9⟩ := HWY.out _ _ h9; have HB9 := Lib.hid hb9; have HW9 := Lib.hid hw9; have HK9 := Lib.hid hk9; have HP9 := Lib.hid hp9; clear h9 hb9 hw9 hk9 hp9)))
            have hn9 : Cell1 Wv.heap.size (.int .i64 0) w9 := by
              have h1 : Cell1 Wv.heap.size (.int .i64 0) (Wv.alloc (.cells #[.int .i64 0] 3)) := ⟨by simp [go_sem], by simp [go_sem]⟩
              exact h1.blk (HB9.out.block _ (by simp))
            have hb9 : Below Wv.heap.size Wv w9 := hop0 ((Below.refl _ _).alloc (Nat.le_refl _) _) HB9.out
            have HK9 : Hid (KidsP w9 (fun k => Wv.heap.size + 1 ≤ k ∧ k < pw) e A6 c6) := Lib.hid (by have := HK9.out; rwa [World.size_alloc] at this)
            have HP9 : Hid (Wv.heap.size + 1 ≤ pw) := Lib.hid (by have := HP9.out; rwa [World.size_alloc] at this)
            have hpw : pw < w9.heap.size := lt_of_heap HW9.out
            have hn9s := hn9.lt
            have HN9 := Lib.hid hn9
            have HB99 := Lib.hid hb9
            have HPW := Lib.hid (And.intro HP9.out hpw)
            clear hn9 hb9 p0 p1 p2 p3 p4 p5 t0 t1 hl5
            refine (wpIn_wide (n := 8)).1 ?_
            refine range_nest2 rfl (by omega) (gf := 52) (lb := #[.pointer (some ⟨pw, 0, none⟩)]) (by simp [Act.eval]) trivial (enters_of Tryz.func52 (by kernel_rfl) rfl)
              (encs := XA.enc) (Y := Yw e) (Kp := Kt (w9.heap.size + 2) (fun q => Wv.heap.size + 1 ≤ q ∧ q ≤ pw) 3) (done := fun xs' => xs'.map XA.e = allX e)
              (fun W1 hg hs1 => by
                have h := walk2_seq e HCN.out 7 (by decide) (fun k => Wv.heap.size + 1 ≤ k ∧ k < pw) pw (fun q => Wv.heap.size + 1 ≤ q ∧ q ≤ pw) 3 (by decide) (by decide) A6 c6 W1 ((hg.block _ hpw (by simp)).trans HW9.out) (HK9.out.stay (fun k h1 h2 => hg.block k h2 (by simp)))
                  (fun k h1 => by omega) (fun k hk => ⟨hk.1, Nat.le_of_lt hk.2⟩) ⟨HP9.out, Nat.le_refl _⟩ (fun q hq => by omega)
                rw [hs1] at h
                exact h)
              (fun x => rfl) Kt.trans Kt.grown (fun U o => Kt.put (fun q hq => by omega) rfl (by omega) o)
              (WkI Wv (w9.heap.size + 2))
              (fun _ _ _ => False)
              (WkI.own hn9s)
              (fun _ _ _ _ _ h _ _ => h)
              (fun pre => Yw.own pre) ?sta3 boxX (fun x U => World.grownBy_alloc U _ none) AtX (fun x U r r' hb => AtX.made hb.lt _) ?a3 ?asa3 ?boa3 ?doa3 ?spa3
            case sta3 =>
              intro W1 hg hs1
              exact ⟨HB99.out.trans (below_of_grown hg (fun r e => by cases e) (by omega)), HN9.out.blk (hg.block _ hn9s (by simp)), by omega⟩
            case asa3 =>
              intro l0 x U K hK
              unfold XA.enc X.val
              gi_wp2
              exact hK
            case boa3 =>
              rintro l0 pre x U V2 hI ⟨⟨post, hpre⟩, hkx⟩ hat hbk
              obtain ⟨hpl, hpe⟩ := at_pre HM.out hpre
              have HLV := Lib.hid (HLn.out.below hI.b)
              have t0 := (HTn.out.blk (hI.b.block _ HTn.out.lt)).c
              have hlb := (hI.b.block _ (lt_of_heap HLBn.out)).trans HLBn.out
              have b0 : V2.cell? ⟨bl, 0, none⟩ = some (.slice (some ⟨gl, 0, none⟩) N cl) := by simp [World.cell?, hlb]
              have s0 := HLV.out.sc
              have n0 := hI.n.c
              have HO2 := own_below HOn.out hI.b
              obtain ⟨k0, k1, k2, k3, k4, k5⟩ := own_at6 HO2 hpl
              rw [hpe] at k0 k1 k2 k3 k4 k5
              have hkl := HK7.out _ (List.getElem_mem hpl)
              rw [hpe] at hkl
              obtain ⟨qA, hqA⟩ : ∃ q, l[pre.length].A = q := ⟨_, rfl⟩
              obtain ⟨qc, hqc⟩ : ∃ q, l[pre.length].c = q := ⟨_, rfl⟩
              rw [hqA, hqc] at k5 hkl
              obtain ⟨m, hm⟩ : ∃ q, pre.length = q := ⟨_, rfl⟩
              have hmN : m < N := by have := HLN.out; omega
              rw [hm] at n0 k0 k1 k2 k3 k4 k5
              obtain ⟨d0, d1, d2, d3, d4, d5⟩ := obj_cells hat
              have HSM := Lib.hid (fun (W : World) (hb : Below V2.heap.size V2 W) => rsame_any x.e x.A x.c qA qc W (KidsAt.more hb.size (hkx.below hb)) (KidsAt.more (Nat.le_trans HLV.out.b.size hb.size) (hkl.below (HLV.out.b.trans (hb.mono HLV.out.b.size)))))
              have HNX := Lib.hid (show Cell1 Wv.heap.size (.int .i64 (m : Nat)) V2 by rw [← hm]; exact hI.n)
              have HST := Lib.hid (fun (w4 : World) (hS : Below V2.heap.size V2 w4) => wk_step (T := 3) (pw := pw) (x := x) hI hm hbk hn9s hS)
              have i1 : (0 : Int) ≤ (m : Int) := by omega
              have i2 : (m : Int) < (N : Int) := by omega
              have i3 : m + 1 ≤ 9223372036854775807 := by have := HNB.out; unfold limN at this; omega
              have q1 : decide ((N : Int) ≤ (m : Int)) = false := decide_eq_false (by omega)
              unfold X.val at HSM
              clear hI hpre hkx hat hbk hpl hpe hlb HO2 hkl hqA hqc hm
              gi_wp2
              have hS : Below V2.heap.size V2 V2.drew := (Below.refl _ V2).drew
              refine held_round 13 (fun W => Below V2.heap.size V2 W) rfl (by kernel_rfl) (by simp) (by simp [LetsOut, Exit.then, Exit.inBlock, nestPost] <;> exact fun _ _ h => h) ?_
              refine held_take (i := 0) (t := 65) (v := (.int .i64 (m : Int))) (fuel := 12) rfl rfl (by kernel_rfl) (by kernel_rfl) (by kernel_rfl) (fun _ _ _ h => h) (.inl ⟨rfl, fun W hW => by simp [execOp, Act.eval, go_sem, later_cell hW n0]⟩) hS ?_
              simp only [List.setIfInBounds_toArray, List.set_cons_succ, List.set_cons_zero]
              refine held_take (i := 1) (t := 66) (v := (.slice (some ⟨gl, 0, none⟩) N cl)) (fuel := 11) rfl rfl (by kernel_rfl) (by kernel_rfl) (by kernel_rfl) (fun _ _ _ h => h) (.inl ⟨rfl, fun W hW => by simp [execOp, Act.eval, go_sem, later_cell hW b0]⟩) hS ?_
              simp only [List.setIfInBounds_toArray, List.set_cons_succ, List.set_cons_zero]
              refine held_take (i := 2) (t := 67) (v := (.int .i64 (N : Int))) (fuel := 10) rfl rfl (by kernel_rfl) (by kernel_rfl) (by kernel_rfl) (fun _ _ _ h => h) (.inl ⟨rfl, fun W hW => by simp [execOp, Act.eval, go_sem]⟩) hS ?_
              simp only [List.setIfInBounds_toArray, List.set_cons_succ, List.set_cons_zero]
              refine held_take (i := 3) (t := 68) (v := (.bool false)) (fuel := 9) rfl rfl (by kernel_rfl) (by kernel_rfl) (by kernel_rfl) (fun _ _ _ h => h) (.inl ⟨rfl, fun W hW => by simp [execOp, Act.eval, go_sem, q1, hmN]⟩) hS ?_
              simp only [List.setIfInBounds_toArray, List.set_cons_succ, List.set_cons_zero]
              refine held_take (i := 4) (t := 69) (v := (.bool false)) (fuel := 8) rfl rfl (by kernel_rfl) (by kernel_rfl) (by kernel_rfl) (fun _ _ _ h => h) (.inl ⟨rfl, fun W hW => by simp [execOp, Act.eval, go_sem]⟩) hS ?_
              simp only [List.setIfInBounds_toArray, List.set_cons_succ, List.set_cons_zero]
              refine held_take (i := 5) (t := 70) (v := (.agg #[.int .i64 x.e.op, .string x.e.nm, .int .i64 x.e.v.k, .int .i64 x.e.v.n, .string x.e.v.s, .slice x.A x.e.ks.length x.c])) (fuel := 7) rfl rfl (by kernel_rfl) (by kernel_rfl) (by kernel_rfl) (fun _ _ _ h => h) (.inl ⟨rfl, fun W hW => by simp [execOp, Act.eval, go_sem, later_cell hW d0, later_cell hW d1, later_cell hW d2, later_cell hW d3, later_cell hW d4, later_cell hW d5]⟩) hS ?_
              simp only [List.setIfInBounds_toArray, List.set_cons_succ, List.set_cons_zero]
              refine held_take (i := 6) (t := 71) (v := (.slice (some ⟨gl, 0, none⟩) N cl)) (fuel := 6) rfl rfl (by kernel_rfl) (by kernel_rfl) (by kernel_rfl) (fun _ _ _ h => h) (.inl ⟨rfl, fun W hW => by simp [execOp, Act.eval, go_sem, later_cell hW b0]⟩) hS ?_
              simp only [List.setIfInBounds_toArray, List.set_cons_succ, List.set_cons_zero]
              refine held_take (i := 7) (t := 72) (v := (.int .i64 (m : Int))) (fuel := 5) rfl rfl (by kernel_rfl) (by kernel_rfl) (by kernel_rfl) (fun _ _ _ h => h) (.inl ⟨rfl, fun W hW => by simp [execOp, Act.eval, go_sem, later_cell hW n0]⟩) hS ?_
              simp only [List.setIfInBounds_toArray, List.set_cons_succ, List.set_cons_zero]
              refine held_take (i := 8) (t := 73) (v := (.pointer (some ⟨gl, m * 6, none⟩))) (fuel := 4) rfl rfl (by kernel_rfl) (by kernel_rfl) (by kernel_rfl) (fun _ _ _ h => h) (.inl ⟨rfl, fun W hW => by simp [execOp, Act.eval, go_sem, i1, i2]⟩) hS ?_
              simp only [List.setIfInBounds_toArray, List.set_cons_succ, List.set_cons_zero]
              refine held_take (i := 9) (t := 74) (v := (.agg #[.int .i64 x.e.op, .string x.e.nm, .int .i64 x.e.v.k, .int .i64 x.e.v.n, .string x.e.v.s, .slice qA x.e.ks.length qc])) (fuel := 3) rfl rfl (by kernel_rfl) (by kernel_rfl) (by kernel_rfl) (fun _ _ _ h => h) (.inl ⟨rfl, fun W hW => by simp [execOp, Act.eval, go_sem, later_cell hW k0, later_cell hW k1, later_cell hW k2, later_cell hW k3, later_cell hW k4, later_cell hW k5]⟩) hS ?_
              simp only [List.setIfInBounds_toArray, List.set_cons_succ, List.set_cons_zero]
              refine held_call (i := 10) rfl (by kernel_rfl) (by kernel_rfl) ?_
              simp [Oper.wp, execOp, Act.eval, Act.put, go_sem]
              refine (HSM.out _ hS).mono ?_
              rintro en w4 ⟨rfl, hb4⟩
              have hS : Below V2.heap.size V2 w4 := hop0 hS hb4
              refine ⟨hS, ?_⟩
              try simp only [List.setIfInBounds_toArray, List.set_cons_succ, List.set_cons_zero]
              refine held_take (i := 11) (t := 76) (v := (.bool false)) (fuel := 1) rfl rfl (by kernel_rfl) (by kernel_rfl) (by kernel_rfl) (fun _ _ _ h => h) (.inl ⟨rfl, fun W hW => by simp [execOp, Act.eval, go_sem]⟩) hS ?_
              simp only [List.setIfInBounds_toArray, List.set_cons_succ, List.set_cons_zero]
              refine held_take (i := 12) (t := 77) (v := (.bool false)) (fuel := 0) rfl rfl (by kernel_rfl) (by kernel_rfl) (by kernel_rfl) (fun _ _ _ h => h) (.inl ⟨rfl, fun W hW => by simp [execOp, Act.eval, go_sem]⟩) hS ?_
              simp only [List.setIfInBounds_toArray, List.set_cons_succ, List.set_cons_zero]
              refine wpAnyH_done (by kernel_rfl) ?_ 0
              have HST4 := Lib.hid (HST.out w4 hS)
              have hn4 := HNX.out.blk (hS.block _ HNX.out.lt)
              have n1 := hn4.c
              have n2 := hn4.f
              have n3 := hn4.lt
              have t4 := later_cell hS t0
              have s4 := later_cell hS s0
              have u1 := Nat.ne_of_lt HTn.out.lt
              have u2 : w.heap.size + 1 ≠ Wv.heap.size := Nat.ne_of_lt (lt_of_heap HLn.out.t)
              clear hS hb4 hn4 n0 t0 s0 b0 d0 d1 d2 d3 d4 d5 k0 k1 k2 k3 k4 k5 HST
              gi_wp2
              exact ⟨HST4.out.1, HST4.out.2.1, HST4.out.2.2⟩
            case spa3 =>
              rintro cc pre V2 h
              exact h.elim
            case doa3 =>
              rintro xs V hxs hI hK
              have hxl : xs.length = N := by
                have hxs2 : xs.map XA.e = allX e := hxs
                have h := congrArg List.length hxs2
                have h2 := congrArg List.length HM.out
                rw [List.length_map] at h h2
                have := HLN.out
                omega
              have hn := hI.n
              rw [hxl] at hn
              have hb := hI.b
              have HK := Lib.hid hK
              have n0 := hn.c
              have n1 := hn.lt
              clear hxs hxl hI hK hn
              have HLV := Lib.hid (HLn.out.below hb)
              have HTV := Lib.hid (HTn.out.blk (hb.block _ HTn.out.lt))
              have HLBV := Lib.hid ((hb.block _ (lt_of_heap HLBn.out)).trans HLBn.out)
              have HOV := Lib.hid (own_below HOn.out hb)
              obtain ⟨p0, p1, p2, p3, p4, p5⟩ := obj_cells HLV.out.x
              have hl5 := lt_of_heap HLV.out.x
              have t0 := HTV.out.c
              have t1 := HTV.out.lt
              have b0 : V.cell? ⟨bl, 0, none⟩ = some (.slice (some ⟨gl, 0, none⟩) N cl) := by simp [World.cell?, HLBV.out]
              have r0 := HLV.out.rc
              have r1 := HLV.out.rf
              have hlr := lt_of_heap HLV.out.r
              have HK0 := Lib.hid ((hb.block _ (lt_of_heap HKn.out)).trans HKn.out)
              have hne : D0 ≠ w9.heap.size := Nat.ne_of_lt (Nat.lt_of_lt_of_le (lt_of_heap HKn.out) HB99.out.size)
              have HD9 := Lib.hid (show w.heap.size + 2 < w9.heap.size from Nat.lt_of_lt_of_le (lt_of_heap HLn.out.r) HB99.out.size)
              clear hb
              go_wp2
              rw [rounds_succ]
              go_wp2
              obtain ⟨Wf, hWf⟩ : ∃ q, (V.setCell ⟨w.heap.size + 1 + 1, 0, none⟩ (.bool true)).alloc (.cells #[.int .i64 2] 3) = q := ⟨_, rfl⟩
              have hm1 := Lw.mark (w := w) HD9.out (.bool true) HK.out
              have hm0 := Lw.mark (w := w) HD0.out (.bool true) HK0.out
              have hsb := HLV.out.setb (.bool true)
              have hbs : Below w.heap.size w Wf := by rw [← hWf]; exact hsb.alloc hsb.size _
              have hk1 : Wf.heap[w9.heap.size]? = some (.deferred (some [])) := by rw [← hWf]; exact (Below.heap_alloc _ _ _ (lt_of_heap hm1)).trans hm1
              have hk0 : Wf.heap[D0]? = some (.deferred (some [])) := by rw [← hWf]; exact (Below.heap_alloc _ _ _ (lt_of_heap hm0)).trans hm0
              have hz : Wf.cell? ⟨w.heap.size + 2, 0, none⟩ = some (.bool true) := by
                rw [← hWf]
                have h := HLV.out.set (.bool true)
                exact (World.cell?_of_block (w := V.setCell ⟨w.heap.size + 2, 0, none⟩ (.bool true)) (a := ⟨w.heap.size + 2, 0, none⟩) (Below.heap_alloc _ _ _ (World.block_lt_of_cell? _ _ h))).trans h
              rw [hWf]
              refine ⟨by simp, .inl ⟨_, _, rfl, run_takeDeferred hk1, ?_⟩⟩
              refine ⟨by simp, .inl ⟨_, _, rfl, run_takeDeferred ((World.putObj_heap_other hne).trans hk0), ?_⟩⟩
              have z0 := (World.cell?_of_block (w := Wf) (a := ⟨w.heap.size + 2, 0, none⟩) (World.putObj_heap_other (o := .deferred none) (Nat.ne_of_lt HD9.out))).trans hz
              have z := (World.cell?_of_block (w := Wf.putObj w9.heap.size (.deferred none)) (a := ⟨w.heap.size + 2, 0, none⟩) (World.putObj_heap_other (o := .deferred none) (Nat.ne_of_lt HD0.out))).trans z0
              exact ⟨.bool true, by simp [results, Tryz.results6, go_sem, z], rfl, below_put (below_put hbs (Nat.le_refl _) (by have := HD9.out; omega) _) (Nat.le_refl _) (by have := HD0.out; omega) _⟩
    · have q0 : (E != 0) = true := by simpa using h0
      have HNIL := Lib.hid (show nm = [] by rw [← HNM.out]; unfold colR; rw [if_pos (by rw [HE.out]; exact h0)])
      have HWN := Lib.hid (fun (p q : Prop) (h : (E ≠ 0 ∧ p) ∨ (E = 0 ∧ q)) => h.elim id (fun h => absurd h.1 h0))
      have hnl : nm.length = 0 := by rw [HNIL.out]; rfl
      clear hfz hE h0
      simp only [hnl] at HCO
      refine callsIn_of_wp_marks Tryz.func6 rfl trivial ?_ rfl
      simp only [Tryz.ntmps6, List.size_toArray, List.length_cons, List.length_nil, Nat.reduceAdd, Nat.reduceSub, Array.replicate_succ, Array.replicate_zero, List.push_toArray, List.append_toArray, List.nil_append, List.cons_append]
      refine wpIn_wide.2 ?_
      go_wp2_with (first
        | (go_at_call 10; go_loud ((refine (alive_any _).mono ?_; rintro en w2 ⟨rfl, hb2⟩; have HL2 := Lib.hid (HL1.out.below hb2); clear p0 p1 p2 p3 p4 p5 r0 r1; obtain ⟨p0, p1, p2, p3, p4, p5⟩ := obj_cells HL2.out.x; have r0 := HL2.out.rc; have r1 := HL2.out.rf; clear hb2)))
        | (go_at_call 11; go_loud ((refine (HFA.out _ HL2.out.b).mono ?_; rintro en w3 ⟨rfl, hb3⟩; have HL3 := Lib.hid (HL2.out.below hb3); clear p0 p1 p2 p3 p4 p5 r0 r1; obtain ⟨p0, p1, p2, p3, p4, p5⟩ := obj_cells HL3.out.x; have r0 := HL3.out.rc; have r1 := HL3.out.rf; clear hb3)))
        | (go_at_call 20; go_loud ((refine (HCO.out _ HL3.out.b).mono ?_; rintro en w4 ⟨A9, c9, rfl, hr9, hb4⟩; have HL4 := Lib.hid (HL3.out.below hb4); have HR9 := Lib.hid hr9; clear p0 p1 p2 p3 p4 p5 r0 r1; obtain ⟨p0, p1, p2, p3, p4, p5⟩ := obj_cells HL4.out.x; have r0 := HL4.out.rc; have r1 := HL4.out.rf; clear hb4 hr9)))
        | (go_at_call 13; go_loud ((refine (HCK.out _ HL4.out.b).mono ?_; rintro en w5 ⟨rfl, hb5⟩; have HL5 := Lib.hid (HL4.out.below hb5); have HB5 := Lib.hid hb5; clear p0 p1 p2 p3 p4 p5 r0 r1; obtain ⟨p0, p1, p2, p3, p4, p5⟩ := obj_cells HL5.out.x; have r0 := HL5.out.rc; have r1 := HL5.out.rf; have hl5 := lt_of_heap HL5.out.x; have hr5 := lt_of_heap HL5.out.r; clear hb5)))
        | (go_at_call 21; go_loud ((refine (HWA.out _ (HL5.out.below ((Below.refl _ _).alloc (Nat.le_refl _) _)).b).mono ?_; rintro en w6 ⟨hb6, h6⟩; (first | (obtain ⟨_, rfl⟩ := HWN.out _ _ h6) | (obtain ⟨pw, A6, c6, rfl, hw6, hk6, hp6⟩ := HWY.out _ _ h6)); have HB6 := Lib.hid hb6; clear h6 hb6)))
        | (go_at_call 22; go_loud ((refine (HNA.out _ HL5.out.b).mono ?_; rintro en w6 ⟨A7, c7, rfl, hr7, hb6⟩; have HL6 := Lib.hid (HL5.out.below hb6); have HB6 := Lib.hid hb6; have HR7 := Lib.hid hr7; clear p0 p1 p2 p3 p4 p5 r0 r1; obtain ⟨p0, p1, p2, p3, p4, p5⟩ := obj_cells HL6.out.x; have r0 := HL6.out.rc; have r1 := HL6.out.rf; have hl6 := lt_of_heap HL6.out.x; have hr6 := lt_of_heap HL6.out.r; clear hb6 hr7))))
      obtain ⟨bn, hbn⟩ : ∃ q, w5.heap.size = q := ⟨_, rfl⟩
      have hn6 : Cell1 bn (.int .i64 0) w6 := by
        have h1 : Cell1 w5.heap.size (.int .i64 0) (w5.alloc (.cells #[.int .i64 0] 3)) := ⟨by simp [go_sem], by simp [go_sem]⟩
        rw [← hbn]
        exact h1.blk (HB6.out.block _ (by simp))
      have hl6 := Lib.hid ((HL5.out.below ((Below.refl _ _).alloc (Nat.le_refl _) (.cells #[.int .i64 0] 3))).below HB6.out)
      have hs6 : bn < w6.heap.size := hn6.lt
      have hr6 : w.heap.size + 2 < w6.heap.size := lt_of_heap hl6.out.r
      rw [hbn]
      clear p0 p1 p2 p3 p4 p5 r0 r1 hl5 hr5 hbn hls hlr
      refine (wpIn_wide (n := 8)).1 ?_
      refine range_nest2 rfl (by omega) (gf := 50) (lb := #[]) (by simp [Act.eval]) trivial (enters_of Tryz.func50 (by kernel_rfl) rfl)
        (encs := XA.enc) (Y := fun _ _ _ => False) (Kp := fun _ _ => True) (done := fun xs => xs = []) (fun W1 hg hs1 => walk1_seq _ (by decide) W1) (fun x => rfl) (fun _ _ => trivial) (fun _ => trivial) (fun _ _ => trivial)
        (fun _ U => Lw w e A c st U ∧ Cell1 bn (.int .i64 0) U) (fun _ _ _ => False) ((Lw.own hr6).and (Cell1.own (f := fun _ => .int .i64 0) hs6)) (fun _ _ _ _ _ h _ _ => h) (fun _ _ _ _ _ h _ _ => h)
        ?start (fun x U => U) (fun x U => grown_self U) (fun _ _ _ => True) (fun x U r r' hb => trivial) ?a1 ?assign ?body ?done ?stop
      case start =>
        intro W1 hg hs1
        exact ⟨hl6.out.below ⟨hg.os, hg.tape, hg.output, hg.size, fun k h => hg.block k h (by simp)⟩, hn6.blk (hg.block _ hs6 (by simp))⟩
      case assign =>
        intro l0 x U K hK
        unfold XA.enc X.val
        gi_wp2
        exact hK
      case body =>
        rintro l0 pre x U V2 _ h
        exact h.elim
      case done =>
        rintro xs V hxs ⟨hL, hN⟩ hK
        have e0 := hN.c
        have r0 := hL.rc
        have r1 := hL.rf
        have hlr := lt_of_heap hL.r
        have HL := Lib.hid hL
        have HK := Lib.hid (Lw.mark hr6 (.bool true) hK)
        clear hxs hL hN hK hnl
        go_wp2
        refine ⟨by simp, .inl ⟨_, _, rfl, run_takeDeferred HK.out, ?_⟩⟩
        have z := HL.out.setp (.bool true) hr6 (.deferred none)
        exact ⟨.bool true, by simp [results, Tryz.results6, go_sem, z], rfl, below_put (HL.out.setb _) (Nat.le_refl _) (by omega) _⟩
      case stop =>
        rintro cc pre V h
        exact h.elim
end Go.Proofs.YtclcabdekeegdaaGreat
