/- Layer 13: the law Turns, walked (wip/gen/XExTw.py). -/
import Derived.Test.YtclcabdekeegdaaGreatExTp
namespace Go.Proofs.YtclcabdekeegdaaGreat
open Go.ChangeShapes Go.WideShapes Go.ChangeAt Go.RowKit
set_option linter.unusedVariables false
set_option linter.unusedSimpArgs false
theorem laid1q {w : World} {x : X} {A : Option Addr} {c : Nat} (hx : KidsAt w w.heap.size x A c) {q T : Nat} (o : Int) (n : ByteArray) (v : V) (hq : w.heap[q]? = some (.cells (xs6 x A c).toArray T)) :
    KidsAt w w.heap.size (.mk o n v [x]) (some ⟨q, 0, none⟩) 1 := by
  refine kids_of_block (lt_of_heap hq) (by simp) (by decide) fun j hj => ?_
  match j, hj with
  | 0, _ => exact ⟨A, c, xcells_at (j := 0) hq x A c rfl rfl rfl rfl rfl rfl, hx⟩
theorem laid2q {w : World} {x y : X} {A A2 : Option Addr} {c c2 : Nat} (hx : KidsAt w w.heap.size x A c) (hy : KidsAt w w.heap.size y A2 c2) {q T : Nat} (o : Int) (n : ByteArray) (v : V) (hq : w.heap[q]? = some (.cells (xs6 x A c ++ xs6 y A2 c2).toArray T)) :
    KidsAt w w.heap.size (.mk o n v [x, y]) (some ⟨q, 0, none⟩) 2 := by
  refine kids_of_block (lt_of_heap hq) (by simp) (by decide) fun j hj => ?_
  match j, hj with
  | 0, _ => exact ⟨A, c, xcells_at (j := 0) hq x A c rfl rfl rfl rfl rfl rfl, hx⟩
  | 1, _ => exact ⟨A2, c2, xcells_at (j := 1) hq y A2 c2 rfl rfl rfl rfl rfl rfl, hy⟩
theorem no_any (e : X) (A : Option Addr) (c : Nat) (w : World) :
    Calls Tryz.prog 28 #[e.val A c] w fun en w' => ∃ q : Nat, en = .returned (.agg #[.int .i64 16, .string ⟨#[]⟩, .int .i64 0, .int .i64 0, .string ⟨#[]⟩, .slice (some ⟨q, 0, none⟩) 1 1]) ∧ w'.heap[q]? = some (.cells (xs6 e A c).toArray 26) ∧ w.heap.size ≤ q ∧ Below w.heap.size w w' := by
  obtain ⟨W1, hW1⟩ : ∃ W1, w.alloc (e.obj A c) = W1 := ⟨_, rfl⟩
  have hq1 : W1.heap[w.heap.size]? = some (e.obj A c) := by rw [← hW1]; exact obj_box _ _ _ _
  obtain ⟨p0, p1, p2, p3, p4, p5⟩ := obj_cells hq1
  have hlt := lt_of_heap hq1
  clear hq1
  unfold X.obj at hW1
  unfold X.val
  go_enter Tryz.func28, Tryz.ntmps28
  go_wp2
  have hb1 : Below w.heap.size w W1 := by rw [← hW1]; exact (Below.refl _ _).alloc (Nat.le_refl _) _
  have hb2 := two_boxes W1 (.cells #[.int .i64 16, .string ⟨#[]⟩, .int .i64 0, .int .i64 0, .string ⟨#[]⟩, .slice (some ⟨W1.heap.size + 1, 0, none⟩) 1 1] 26) (.cells #[.int .i64 e.op, .string e.nm, .int .i64 e.v.k, .int .i64 e.v.n, .string e.v.s, .slice A e.ks.length c] 26)
  have hb := hop0 hb1 hb2
  refine bodyPost_ret (ret_row6 rfl (by rfl) ((Below.heap_alloc _ _ _ (by simp)).trans (World.alloc_heap_new W1 _))) rfl ⟨W1.heap.size + 1, rfl, ?_, by omega, hb⟩
  have := World.alloc_heap_new (W1.alloc (.cells #[.int .i64 16, .string ⟨#[]⟩, .int .i64 0, .int .i64 0, .string ⟨#[]⟩, .slice (some ⟨W1.heap.size + 1, 0, none⟩) 1 1] 26)) (.cells #[.int .i64 e.op, .string e.nm, .int .i64 e.v.k, .int .i64 e.v.n, .string e.v.s, .slice A e.ks.length c] 26)
  rwa [World.size_alloc] at this
/-- The two expressions' boxes; what not (a and b) lies in. -/
structure Tx (a b : X) (A1 : Option Addr) (c1 : Nat) (A2 : Option Addr) (c2 : Nat) (w W : World) (sx qx bx : Nat) : Prop where
  xa : W.heap[w.heap.size]? = some (a.obj A1 c1)
  xb : W.heap[w.heap.size + 1]? = some (b.obj A2 c2)
  s : W.heap[sx]? = some (.cells (xs6 a A1 c1 ++ xs6 b A2 c2).toArray 26)
  q : W.heap[qx]? = some (.cells (xs6 (andE a b) (some ⟨sx, 0, none⟩) 2).toArray 26)
  x : W.heap[bx]? = some ((notX (andE a b)).obj (some ⟨qx, 0, none⟩) 1)
  bel : Below w.heap.size w W
/-- And (not a) or (not b). -/
structure Tw (a b : X) (A1 : Option Addr) (c1 : Nat) (A2 : Option Addr) (c2 : Nat) (w W : World) (sx qx bx q1 q2 qy byy : Nat) : Prop where
  t : Tx a b A1 c1 A2 c2 w W sx qx bx
  n1 : W.heap[q1]? = some (.cells (xs6 a A1 c1).toArray 26)
  n2 : W.heap[q2]? = some (.cells (xs6 b A2 c2).toArray 26)
  o : W.heap[qy]? = some (.cells (xs6 (notX a) (some ⟨q1, 0, none⟩) 1 ++ xs6 (notX b) (some ⟨q2, 0, none⟩) 1).toArray 26)
  y : W.heap[byy]? = some ((orE (notX a) (notX b)).obj (some ⟨qy, 0, none⟩) 2)
section
variable {a b : X} {A1 : Option Addr} {c1 : Nat} {A2 : Option Addr} {c2 : Nat} {w W : World} {sx qx bx q1 q2 qy byy : Nat}
theorem blk_of {W2 : World} {q : Nat} {o : Obj} (hb : Below W.heap.size W W2) (h : W.heap[q]? = some o) : W2.heap[q]? = some o := (hb.block _ (lt_of_heap h)).trans h
theorem Tx.below {W2 : World} (h : Tx a b A1 c1 A2 c2 w W sx qx bx) (hb : Below W.heap.size W W2) : Tx a b A1 c1 A2 c2 w W2 sx qx bx :=
  ⟨blk_of hb h.xa, blk_of hb h.xb, blk_of hb h.s, blk_of hb h.q, blk_of hb h.x, hop0 h.bel hb⟩
theorem Tw.below {W2 : World} (h : Tw a b A1 c1 A2 c2 w W sx qx bx q1 q2 qy byy) (hb : Below W.heap.size W W2) : Tw a b A1 c1 A2 c2 w W2 sx qx bx q1 q2 qy byy :=
  ⟨h.t.below hb, blk_of hb h.n1, blk_of hb h.n2, blk_of hb h.o, blk_of hb h.y⟩
theorem Tx.ka (h : Tx a b A1 c1 A2 c2 w W sx qx bx) (hka : KidsAt w w.heap.size a A1 c1) : KidsAt W W.heap.size a A1 c1 := KidsAt.more h.bel.size (hka.below h.bel)
theorem Tx.kx (h : Tx a b A1 c1 A2 c2 w W sx qx bx) (hka : KidsAt w w.heap.size a A1 c1) (hkb : KidsAt w w.heap.size b A2 c2) : KidsAt W W.heap.size (notX (andE a b)) (some ⟨qx, 0, none⟩) 1 :=
  laid1q (laid2q (h.ka hka) (KidsAt.more h.bel.size (hkb.below h.bel)) 14 emp ⟨0, 0, emp⟩ h.s) 16 emp ⟨0, 0, emp⟩ h.q
theorem Tw.ky (h : Tw a b A1 c1 A2 c2 w W sx qx bx q1 q2 qy byy) (hka : KidsAt w w.heap.size a A1 c1) (hkb : KidsAt w w.heap.size b A2 c2) : KidsAt W W.heap.size (orE (notX a) (notX b)) (some ⟨qy, 0, none⟩) 2 :=
  laid2q (laid1q (h.t.ka hka) 16 emp ⟨0, 0, emp⟩ h.n1) (laid1q (KidsAt.more h.t.bel.size (hkb.below h.t.bel)) 16 emp ⟨0, 0, emp⟩ h.n2) 15 emp ⟨0, 0, emp⟩ h.o
theorem Tx.cx (h : Tx a b A1 c1 A2 c2 w W sx qx bx) : W.cell? ⟨bx, 0, none⟩ = some (.int .i64 16) ∧ W.cell? ⟨bx, 1, none⟩ = some (.string ⟨#[]⟩) ∧ W.cell? ⟨bx, 2, none⟩ = some (.int .i64 0) ∧ W.cell? ⟨bx, 3, none⟩ = some (.int .i64 0) ∧ W.cell? ⟨bx, 4, none⟩ = some (.string ⟨#[]⟩) ∧ W.cell? ⟨bx, 5, none⟩ = some (.slice (some ⟨qx, 0, none⟩) 1 1) := obj_cells h.x
theorem Tw.cy (h : Tw a b A1 c1 A2 c2 w W sx qx bx q1 q2 qy byy) : W.cell? ⟨byy, 0, none⟩ = some (.int .i64 15) ∧ W.cell? ⟨byy, 1, none⟩ = some (.string ⟨#[]⟩) ∧ W.cell? ⟨byy, 2, none⟩ = some (.int .i64 0) ∧ W.cell? ⟨byy, 3, none⟩ = some (.int .i64 0) ∧ W.cell? ⟨byy, 4, none⟩ = some (.string ⟨#[]⟩) ∧ W.cell? ⟨byy, 5, none⟩ = some (.slice (some ⟨qy, 0, none⟩) 2 2) := obj_cells h.y
/-- The six cells of a box. -/
def st6 (W : World) (g : Nat) (qy : Nat) : World := (((((W.setCell ⟨g, 0, none⟩ (.int .i64 15)).setCell ⟨g, 1, none⟩ (.string ⟨#[]⟩)).setCell ⟨g, 2, none⟩ (.int .i64 0)).setCell ⟨g, 3, none⟩ (.int .i64 0)).setCell ⟨g, 4, none⟩ (.string ⟨#[]⟩)).setCell ⟨g, 5, none⟩ (.slice (some ⟨qy, 0, none⟩) 2 2)
theorem st6_other {g q : Nat} (h : q ≠ g) : (st6 W g qy).heap[q]? = W.heap[q]? := by
  have e : ∀ (U : World) (i : Nat) (v : Value), (U.setCell ⟨g, i, none⟩ v).heap[q]? = U.heap[q]? := fun U i v => Below.heap_setCell _ _ _ _ (by simpa using h)
  unfold st6
  rw [e, e, e, e, e, e]
theorem st6_same {g : Nat} (h : W.heap[g]? = some (.cells #[.int .i64 0, .string ⟨#[]⟩, .int .i64 0, .int .i64 0, .string ⟨#[]⟩, .slice none 0 0] 26 (0, 0))) : (st6 W g qy).heap[g]? = some ((orE (notX a) (notX b)).obj (some ⟨qy, 0, none⟩) 2) :=
  heap_set (heap_set (heap_set (heap_set (heap_set (heap_set h _) _) _) _) _) _
theorem st6_below {B g : Nat} {U : World} (h : Below B W U) (hg : B ≤ g) : Below B W (st6 U g qy) := Below.row (Below.row (Below.row (Below.row (Below.row (Below.row h hg _) hg _) hg _) hg _) hg _) hg _
theorem Tw.made {g : Nat} (h : Tx a b A1 c1 A2 c2 w W sx qx bx) (hg : w.heap.size + 1 < g ∧ sx ≠ g ∧ qx ≠ g ∧ bx ≠ g) (n1 : W.heap[q1]? = some (.cells (xs6 a A1 c1).toArray 26)) (e1 : q1 ≠ g) (n2 : W.heap[q2]? = some (.cells (xs6 b A2 c2).toArray 26)) (e2 : q2 ≠ g)
    (ho : W.heap[qy]? = some (.cells (xs6 (notX a) (some ⟨q1, 0, none⟩) 1 ++ xs6 (notX b) (some ⟨q2, 0, none⟩) 1).toArray 26)) (e3 : qy ≠ g) (hy : W.heap[g]? = some (.cells #[.int .i64 0, .string ⟨#[]⟩, .int .i64 0, .int .i64 0, .string ⟨#[]⟩, .slice none 0 0] 26 (0, 0))) :
    Tw a b A1 c1 A2 c2 w (st6 W g qy) sx qx bx q1 q2 qy g :=
  ⟨⟨(st6_other (by omega)).trans h.xa, (st6_other (by omega)).trans h.xb, (st6_other hg.2.1).trans h.s, (st6_other hg.2.2.1).trans h.q, (st6_other hg.2.2.2).trans h.x, st6_below h.bel (by omega)⟩,
    (st6_other e1).trans n1, (st6_other e2).trans n2, (st6_other e3).trans ho, st6_same hy⟩
end
set_option maxHeartbeats 16000000 in
set_option maxRecDepth 100000 in
theorem turns_walk (a b : X) (hwa : a.wf) (hwb : b.wf) (cs : List C) (hwc : ∀ c ∈ cs, c.wf) (row : List V) (hwr : ∀ v ∈ row, v.wf) (A1 : Option Addr) (c1 : Nat) (A2 : Option Addr) (c2 : Nat) (cA : Option Addr) (cc : Nat) (rA : Option Addr) (rc : Nat) (w : World) (hcc : cs.length ≤ cc) (hcm : cc ≤ maxLen) (hrl : row.length ≤ maxLen)
    (hka : KidsAt w w.heap.size a A1 c1) (hkb : KidsAt w w.heap.size b A2 c2) (hc : Row2 w w.heap.size cA cs) (hr : Row3 w w.heap.size rA row) :
    Calls Tryz.prog 9 #[a.val A1 c1, b.val A2 c2, .slice cA cs.length cc, .slice rA row.length rc] w fun en w' => en = .returned (.bool true) ∧ Below w.heap.size w w' := by
  have hcl : cs.length ≤ maxLen := Nat.le_trans hcc hcm
  have TOK : Hid True := Lib.hid trivial
  obtain ⟨W1, hW1⟩ : ∃ W1, (w.alloc (a.obj A1 c1)).alloc (b.obj A2 c2) = W1 := ⟨_, rfl⟩
  have hb1 : Below w.heap.size w W1 := by rw [← hW1]; exact two_boxes _ _ _
  have hqa : W1.heap[w.heap.size]? = some (a.obj A1 c1) := by rw [← hW1]; exact (Below.heap_alloc _ _ _ (by simp)).trans (obj_box _ _ _ _)
  have hqb : W1.heap[w.heap.size + 1]? = some (b.obj A2 c2) := by
    rw [← hW1]
    have := obj_box (w.alloc (a.obj A1 c1)) b A2 c2
    rwa [World.size_alloc] at this
  have HB1 := Lib.hid hb1
  have HQA := Lib.hid (fun (W : World) (hb : Below W1.heap.size W1 W) => show W.heap[w.heap.size]? = some (a.obj A1 c1) from (hb.block _ (lt_of_heap hqa)).trans hqa)
  have HQB := Lib.hid (fun (W : World) (hb : Below W1.heap.size W1 W) => show W.heap[w.heap.size + 1]? = some (b.obj A2 c2) from (hb.block _ (lt_of_heap hqb)).trans hqb)
  have HFA := Lib.hid (fun (W : World) (h : Below w.heap.size w W) => far_any a hwa cs hwc row hwr A1 c1 cA cc rA rc W hcl hrl (KidsAt.more h.size (hka.below h)) ((hc.below h).more h.size) ((hr.below h).more h.size))
  have HFB := Lib.hid (fun (W : World) (h : Below w.heap.size w W) => far_any b hwb cs hwc [] (by simp) A2 c2 cA cc none 0 W hcl (by decide) (KidsAt.more h.size (hkb.below h)) ((hc.below h).more h.size) (fun j hj => by simp at hj))
  have HKA := Lib.hid (fun (W : World) (h : Below w.heap.size w W) => kind_pub a hwa cs hwc A1 c1 cA cc W hcl hcc hcm (KidsAt.more h.size (hka.below h)) ((hc.below h).more h.size))
  have HKB := Lib.hid (fun (W : World) (h : Below w.heap.size w W) => kind_pub b hwb cs hwc A2 c2 cA cc W hcl hcc hcm (KidsAt.more h.size (hkb.below h)) ((hc.below h).more h.size))
  have HCE := Lib.hid (fun (e : X) (he : e.wf) (A : Option Addr) (c : Nat) (W : World) (hk : KidsAt W W.heap.size e A c) => check_any_x e he A c W hk)
  have HWO := Lib.hid (fun (e : X) (he : e.wf) (A : Option Addr) (c : Nat) (W : World) (h : Below w.heap.size w W) (hk : KidsAt W W.heap.size e A c) => worth_pub e he cs hwc row hwr A c cA cc rA rc W hcl hcc hcm hrl hk ((hc.below h).more h.size) ((hr.below h).more h.size))
  have HKS := Lib.hid (And.intro hka hkb)
  have HWF := Lib.hid (And.intro hwa hwb)
  have HPL := Lib.hid (turns_plain (a := a) (b := b) (cs := cs) (row := row))
  obtain ⟨p0, p1, p2, p3, p4, p5⟩ := obj_cells hqa
  obtain ⟨r0, r1, r2, r3, r4, r5⟩ := obj_cells hqb
  have hla := lt_of_heap hqa
  have hlb := lt_of_heap hqb
  obtain ⟨fz, hfz⟩ : ∃ z, farX a cs row = z := ⟨_, rfl⟩
  obtain ⟨gz, hgz⟩ : ∃ z, farX b cs [] = z := ⟨_, rfl⟩
  rw [hfz] at HFA
  rw [hgz] at HFB
  unfold endI at HKA HKB
  unfold X.val at HFA HFB HKA HKB ⊢
  simp only [List.length_nil] at HFB
  unfold X.obj at hW1
  clear hfz hgz hka hkb hc hr hcl hcc hcm hrl hqa hqb hb1
  cases fz with
  | true =>
    go_enter Tryz.func9, Tryz.ntmps9
    go_wp2_with (first
      | (go_at_call 10; refine (alive_any _).mono ?_; rintro en w2 ⟨rfl, hb2⟩; clear p0 p1 p2 p3 p4 p5 r0 r1 r2 r3 r4 r5; obtain ⟨p0, p1, p2, p3, p4, p5⟩ := obj_cells (HQA.out _ hb2); obtain ⟨r0, r1, r2, r3, r4, r5⟩ := obj_cells (HQB.out _ hb2); have HB2 := Lib.hid (hop0 HB1.out hb2); clear hb2)
      | (go_at_call 11; refine (HFA.out _ HB2.out).mono ?_; rintro en w3 ⟨rfl, hb3⟩; have HB3 := Lib.hid (hop0 HB2.out hb3); clear hb3))
    go_ret
    exact ⟨rfl, HB3.out⟩
  | false =>
    cases gz with
    | true =>
      go_enter Tryz.func9, Tryz.ntmps9
      go_wp2_with (first
        | (go_at_call 10; refine (alive_any _).mono ?_; rintro en w2 ⟨rfl, hb2⟩; clear p0 p1 p2 p3 p4 p5 r0 r1 r2 r3 r4 r5; have HQA2 := Lib.hid (HQA.out _ hb2); have HQB2 := Lib.hid (HQB.out _ hb2); obtain ⟨p0, p1, p2, p3, p4, p5⟩ := obj_cells HQA2.out; obtain ⟨r0, r1, r2, r3, r4, r5⟩ := obj_cells HQB2.out; have HB2 := Lib.hid (hop0 HB1.out hb2); clear hb2)
        | (have T1 := TOK; clear TOK; go_at_call 11; refine (HFA.out _ HB2.out).mono ?_; rintro en w3 ⟨rfl, hb3⟩; clear p0 p1 p2 p3 p4 p5 r0 r1 r2 r3 r4 r5; have HQB3 := Lib.hid ((hb3.block _ (lt_of_heap HQB2.out)).trans HQB2.out); obtain ⟨r0, r1, r2, r3, r4, r5⟩ := obj_cells HQB3.out; have HB3 := Lib.hid (hop0 HB2.out hb3); clear hb3)
        | (have T2 := T1; go_at_call 11; refine (HFB.out _ HB3.out).mono ?_; rintro en w4 ⟨rfl, hb4⟩; have HB4 := Lib.hid (hop0 HB3.out hb4); clear hb4))
      go_ret
      exact ⟨rfl, HB4.out⟩
    | false =>
      go_enter Tryz.func9, Tryz.ntmps9
      go_wp2_with (first
        | (go_at_call 10; refine (alive_any _).mono ?_; rintro en w2 ⟨rfl, hb2⟩; clear p0 p1 p2 p3 p4 p5 r0 r1 r2 r3 r4 r5; have HQA2 := Lib.hid (HQA.out _ hb2); have HQB2 := Lib.hid (HQB.out _ hb2); obtain ⟨p0, p1, p2, p3, p4, p5⟩ := obj_cells HQA2.out; obtain ⟨r0, r1, r2, r3, r4, r5⟩ := obj_cells HQB2.out; have HB2 := Lib.hid (hop0 HB1.out hb2); clear hb2)
        | (have T1 := TOK; clear TOK; go_at_call 11; refine (HFA.out _ HB2.out).mono ?_; rintro en w3 ⟨rfl, hb3⟩; clear p0 p1 p2 p3 p4 p5 r0 r1 r2 r3 r4 r5; have HQA3 := Lib.hid ((hb3.block _ (lt_of_heap HQA2.out)).trans HQA2.out); have HQB3 := Lib.hid ((hb3.block _ (lt_of_heap HQB2.out)).trans HQB2.out); obtain ⟨r0, r1, r2, r3, r4, r5⟩ := obj_cells HQB3.out; have HB3 := Lib.hid (hop0 HB2.out hb3); clear hb3)
        | (have T2 := T1; clear T1; go_at_call 11; refine (HFB.out _ HB3.out).mono ?_; rintro en w4 ⟨rfl, hb4⟩; clear r0 r1 r2 r3 r4 r5; have HQA4 := Lib.hid ((hb4.block _ (lt_of_heap HQA3.out)).trans HQA3.out); have HQB4 := Lib.hid ((hb4.block _ (lt_of_heap HQB3.out)).trans HQB3.out); obtain ⟨p0, p1, p2, p3, p4, p5⟩ := obj_cells HQA4.out; obtain ⟨r0, r1, r2, r3, r4, r5⟩ := obj_cells HQB4.out; have HB4 := Lib.hid (hop0 HB3.out hb4); have hla4 := lt_of_heap HQA4.out; have hlb4 := lt_of_heap HQB4.out; clear hb4))
      obtain ⟨U, hU⟩ : ∃ q, w4.alloc (.cells #[.int .i64 a.op, .string a.nm, .int .i64 a.v.k, .int .i64 a.v.n, .string a.v.s, .slice A1 a.ks.length c1, .int .i64 b.op, .string b.nm, .int .i64 b.v.k, .int .i64 b.v.n, .string b.v.s, .slice A2 b.ks.length c2] 26) = q := ⟨_, rfl⟩
      have hbU : Below w4.heap.size w4 U := by rw [← hU]; exact (Below.refl _ _).alloc (Nat.le_refl _) _
      have hs : U.heap[w4.heap.size]? = some (.cells (xs6 a A1 c1 ++ xs6 b A2 c2).toArray 26) := by rw [← hU]; exact World.alloc_heap_new _ _
      rw [hU]
      refine (no_any (andE a b) (some ⟨w4.heap.size, 0, none⟩) 2 U).mono ?_
      rintro en w6 ⟨qx, rfl, hq6, hlq, hb6⟩
      dsimp only
      go_wp2_with fail
      rename_i K hK
      obtain ⟨V0, hV0⟩ : ∃ q, w6.alloc (.cells #[.int .i64 16, .string ⟨#[]⟩, .int .i64 0, .int .i64 0, .string ⟨#[]⟩, .slice (some ⟨qx, 0, none⟩) 1 1] 26) = q := ⟨_, rfl⟩
      have hT : Tx a b A1 c1 A2 c2 w V0 w4.heap.size qx w6.heap.size := by
        rw [← hV0]
        have hb7 : Below w6.heap.size w6 (w6.alloc (.cells #[.int .i64 16, .string ⟨#[]⟩, .int .i64 0, .int .i64 0, .string ⟨#[]⟩, .slice (some ⟨qx, 0, none⟩) 1 1] 26)) := (Below.refl _ _).alloc (Nat.le_refl _) _
        exact ⟨blk_of hb7 (blk_of hb6 (blk_of hbU HQA4.out)), blk_of hb7 (blk_of hb6 (blk_of hbU HQB4.out)), blk_of hb7 (blk_of hb6 hs), blk_of hb7 hq6, World.alloc_heap_new _ _, hop0 HB4.out (hop0 hbU (hop0 hb6 hb7))⟩
      rw [hV0]
      obtain ⟨sx, hsx⟩ : ∃ q, w4.heap.size = q := ⟨_, rfl⟩
      obtain ⟨bx, hbx⟩ : ∃ q, w6.heap.size = q := ⟨_, rfl⟩
      rw [hsx, hbx] at hT
      rw [hsx, hbx]
      clear hs hU hV0 hsx hbx hbU hq6 hlq hb6 p0 p1 p2 p3 p4 p5 r0 r1 r2 r3 r4 r5 hla4 hlb4 hla hlb HQA HQB HQA2 HQB2 HQA3 HQB3 HQA4 HQB4 HFA HFB HB1 HB2 HB3 HB4 hW1
      have HREST : ∀ (u0 u1 u6 u7 u8 u12 u13 u14 u15 u16 u17 u18 u19 u20 u21 u22 u23 u24 u25 u26 u27 u28 u29 u30 u31 u32 u33 u34 u35 u36 u37 u38 u39 u40 u41 u42 u43 u44 u45 u46 u47 u48 u49 u50 u51 u52 u53 u54 u55 u56 u57 u58 u59 u60 u61 u62 u63 u64 u65 u66 u67 u68 u69 u70 u71 u72 u73 u74 u75 u76 u77 u78 u79 u80 u81 u82 u83 u84 u85 u86 u87 u88 u89 u90 u91 u92 u93 u94 u95 u96 u97 u98 u99 u100 u101 u102 u103 u104 u105 u106 u107 u108 u109 u110 u111 u112 u113 u114 u115 u116 u117 u118 u119 u120 u121 u122 u123 u124 u125 u126 u127 u128 u129 : Value) (q1 q2 qy byy : Nat) (W : World), Tw a b A1 c1 A2 c2 w W sx qx bx q1 q2 qy byy → K ⟨#[u0, u1, .slice cA cs.length cc, .slice rA row.length rc, .pointer (some ⟨w.heap.size, 0, none⟩), .pointer (some ⟨w.heap.size + 1, 0, none⟩), u6, u7, u8, .func (.func 28) #[] #[], .pointer (some ⟨bx, 0, none⟩), .pointer (some ⟨byy, 0, none⟩), u12, u13, u14, u15, u16, u17, u18, u19, u20, u21, u22, u23, u24, u25, u26, u27, u28, u29, u30, u31, u32, u33, u34, u35, u36, u37, u38, u39, u40, u41, u42, u43, u44, u45, u46, u47, u48, u49, u50, u51, u52, u53, u54, u55, u56, u57, u58, u59, u60, u61, u62, u63, u64, u65, u66, u67, u68, u69, u70, u71, u72, u73, u74, u75, u76, u77, u78, u79, u80, u81, u82, u83, u84, u85, u86, u87, u88, u89, u90, u91, u92, u93, u94, u95, u96, u97, u98, u99, u100, u101, u102, u103, u104, u105, u106, u107, u108, u109, u110, u111, u112, u113, u114, u115, u116, u117, u118, u119, u120, u121, u122, u123, u124, u125, u126, u127, u128, u129], []⟩ W := by
        clear hT
        intro u0 u1 u6 u7 u8 u12 u13 u14 u15 u16 u17 u18 u19 u20 u21 u22 u23 u24 u25 u26 u27 u28 u29 u30 u31 u32 u33 u34 u35 u36 u37 u38 u39 u40 u41 u42 u43 u44 u45 u46 u47 u48 u49 u50 u51 u52 u53 u54 u55 u56 u57 u58 u59 u60 u61 u62 u63 u64 u65 u66 u67 u68 u69 u70 u71 u72 u73 u74 u75 u76 u77 u78 u79 u80 u81 u82 u83 u84 u85 u86 u87 u88 u89 u90 u91 u92 u93 u94 u95 u96 u97 u98 u99 u100 u101 u102 u103 u104 u105 u106 u107 u108 u109 u110 u111 u112 u113 u114 u115 u116 u117 u118 u119 u120 u121 u122 u123 u124 u125 u126 u127 u128 u129 q1 q2 qy byy W hT
        apply hK
        clear hK
        have HT := Lib.hid hT
        clear hT
        obtain ⟨p0, p1, p2, p3, p4, p5⟩ := obj_cells HT.out.t.xa
        obtain ⟨r0, r1, r2, r3, r4, r5⟩ := obj_cells HT.out.t.xb
        obtain ⟨s0, s1, s2, s3, s4, s5⟩ := HT.out.t.cx
        obtain ⟨t0, t1, t2, t3, t4, t5⟩ := HT.out.cy
        have hl1 := lt_of_heap HT.out.t.x
        have hl2 := lt_of_heap HT.out.y
        have HCX := Lib.hid (fun (V : World) (h : Tw a b A1 c1 A2 c2 w V sx qx bx q1 q2 qy byy) => show Calls Tryz.prog 12 #[.agg #[.int .i64 16, .string ⟨#[]⟩, .int .i64 0, .int .i64 0, .string ⟨#[]⟩, .slice (some ⟨qx, 0, none⟩) 1 1]] V (fun en w' => en = .returned (.int .i64 (checkX (notX (andE a b)))) ∧ Below V.heap.size V w') from HCE.out (notX (andE a b)) (not_wf (two_wf (by omega) HWF.out.1 HWF.out.2)) (some ⟨qx, 0, none⟩) 1 V (h.t.kx HKS.out.1 HKS.out.2))
        have HCY := Lib.hid (fun (V : World) (h : Tw a b A1 c1 A2 c2 w V sx qx bx q1 q2 qy byy) => show Calls Tryz.prog 12 #[.agg #[.int .i64 15, .string ⟨#[]⟩, .int .i64 0, .int .i64 0, .string ⟨#[]⟩, .slice (some ⟨qy, 0, none⟩) 2 2]] V (fun en w' => en = .returned (.int .i64 (checkX (orE (notX a) (notX b)))) ∧ Below V.heap.size V w') from HCE.out (orE (notX a) (notX b)) (two_wf (by omega) (not_wf HWF.out.1) (not_wf HWF.out.2)) (some ⟨qy, 0, none⟩) 2 V (h.ky HKS.out.1 HKS.out.2))
        have HWX := Lib.hid (fun (V : World) (h : Tw a b A1 c1 A2 c2 w V sx qx bx q1 q2 qy byy) => show Calls Tryz.prog 18 #[.agg #[.int .i64 16, .string ⟨#[]⟩, .int .i64 0, .int .i64 0, .string ⟨#[]⟩, .slice (some ⟨qx, 0, none⟩) 1 1], .slice cA cs.length cc, .slice rA row.length rc] V (fun en w' => en = endV (worthX (notX (andE a b)) cs row) ∧ Below V.heap.size V w') from HWO.out (notX (andE a b)) (not_wf (two_wf (by omega) HWF.out.1 HWF.out.2)) (some ⟨qx, 0, none⟩) 1 V h.t.bel (h.t.kx HKS.out.1 HKS.out.2))
        have HWY := Lib.hid (fun (V : World) (h : Tw a b A1 c1 A2 c2 w V sx qx bx q1 q2 qy byy) => show Calls Tryz.prog 18 #[.agg #[.int .i64 15, .string ⟨#[]⟩, .int .i64 0, .int .i64 0, .string ⟨#[]⟩, .slice (some ⟨qy, 0, none⟩) 2 2], .slice cA cs.length cc, .slice rA row.length rc] V (fun en w' => en = endV (worthX (orE (notX a) (notX b)) cs row) ∧ Below V.heap.size V w') from HWO.out (orE (notX a) (notX b)) (two_wf (by omega) (not_wf HWF.out.1) (not_wf HWF.out.2)) (some ⟨qy, 0, none⟩) 2 V h.t.bel (h.ky HKS.out.1 HKS.out.2))
        have HWZ := Lib.hid (fun (V : World) (h : Tw a b A1 c1 A2 c2 w V sx qx bx q1 q2 qy byy) (qz qw : Nat) (hz : V.heap[qz]? = some (.cells (xs6 (notX (andE a b)) (some ⟨qx, 0, none⟩) 1).toArray 26)) (hw : V.heap[qw]? = some (.cells (xs6 (notX (notX (andE a b))) (some ⟨qz, 0, none⟩) 1).toArray 26)) => show Calls Tryz.prog 18 #[.agg #[.int .i64 16, .string ⟨#[]⟩, .int .i64 0, .int .i64 0, .string ⟨#[]⟩, .slice (some ⟨qw, 0, none⟩) 1 1], .slice cA cs.length cc, .slice rA row.length rc] V (fun en w' => en = endV (worthX (notX (notX (notX (andE a b)))) cs row) ∧ Below V.heap.size V w') from HWO.out (notX (notX (notX (andE a b)))) (not_wf (not_wf (not_wf (two_wf (by omega) HWF.out.1 HWF.out.2)))) (some ⟨qw, 0, none⟩) 1 V h.t.bel (laid1q (laid1q (h.t.kx HKS.out.1 HKS.out.2) 16 emp ⟨0, 0, emp⟩ hz) 16 emp ⟨0, 0, emp⟩ hw))
        obtain ⟨⟨ka, da⟩, hkka⟩ : ∃ z, kindE a cs = z := ⟨_, rfl⟩
        obtain ⟨⟨kb, db⟩, hkkb⟩ : ∃ z, kindE b cs = z := ⟨_, rfl⟩
        obtain ⟨x, hx⟩ : ∃ x, checkX (notX (andE a b)) = x := ⟨_, rfl⟩
        obtain ⟨y, hy⟩ : ∃ y, checkX (orE (notX a) (notX b)) = y := ⟨_, rfl⟩
        rw [hkka] at HKA HPL
        rw [hkkb] at HKB HPL
        rw [hx] at HCX HPL
        rw [hy] at HCY HPL
        dsimp only at HKA HKB
        clear hkka hkkb hx hy HCE HWO
        by_cases hda : da = 0
        ·
          by_cases hdb : db = 0
          ·
            by_cases hk1 : ka = 2
            ·
              by_cases hk2 : kb = 2
              ·
                by_cases hx0 : x = 0
                ·
                  by_cases hy0 : y = 0
                  ·
                    subst hda hdb hk1 hk2 hx0 hy0
                    have HPL := Lib.hid (HPL.out rfl rfl rfl rfl)
                    rw [← HPL.out.1] at HWY
                    obtain ⟨⟨v, e⟩, hve⟩ : ∃ z, worthX (notX (andE a b)) cs row = z := ⟨_, rfl⟩
                    have HP2 := Lib.hid HPL.out.2
                    rw [hve] at HWX HWY HP2
                    clear hve HPL
                    obtain ⟨⟨z, g⟩, hzg⟩ : ∃ z, worthX (notX (notX (notX (andE a b)))) cs row = z := ⟨_, rfl⟩
                    rw [hzg] at HWZ HP2
                    clear hzg
                    unfold endV V.val at HWX HWY HWZ
                    dsimp only at HWX HWY HWZ HP2
                    by_cases hg : g = 131
                    ·
                      clear HP2
                      subst hg
                      go_wp2_with (first
                        | (have T1 := T2; clear T2; go_at_call 16; refine (HKA.out _ HT.out.t.bel).mono ?_; rintro en v1 ⟨rfl, hb⟩; clear p0 p1 p2 p3 p4 p5 r0 r1 r2 r3 r4 r5 s0 s1 s2 s3 s4 s5 t0 t1 t2 t3 t4 t5; have HT1 := Lib.hid (HT.out.below hb); clear hb; obtain ⟨p0, p1, p2, p3, p4, p5⟩ := obj_cells HT1.out.t.xa; obtain ⟨r0, r1, r2, r3, r4, r5⟩ := obj_cells HT1.out.t.xb; obtain ⟨s0, s1, s2, s3, s4, s5⟩ := HT1.out.t.cx; obtain ⟨t0, t1, t2, t3, t4, t5⟩ := HT1.out.cy; have hl1 := lt_of_heap HT1.out.t.x; have hl2 := lt_of_heap HT1.out.y)
                        | (have T3 := T1; clear T1; go_at_call 16; refine (HKB.out _ HT1.out.t.bel).mono ?_; rintro en v2 ⟨rfl, hb⟩; clear p0 p1 p2 p3 p4 p5 r0 r1 r2 r3 r4 r5 s0 s1 s2 s3 s4 s5 t0 t1 t2 t3 t4 t5; have HT2 := Lib.hid (HT1.out.below hb); clear hb; obtain ⟨p0, p1, p2, p3, p4, p5⟩ := obj_cells HT2.out.t.xa; obtain ⟨r0, r1, r2, r3, r4, r5⟩ := obj_cells HT2.out.t.xb; obtain ⟨s0, s1, s2, s3, s4, s5⟩ := HT2.out.t.cx; obtain ⟨t0, t1, t2, t3, t4, t5⟩ := HT2.out.cy; have hl1 := lt_of_heap HT2.out.t.x; have hl2 := lt_of_heap HT2.out.y)
                        | (have T4 := T3; clear T3; go_at_call 12; refine (HCX.out _ HT2.out).mono ?_; rintro en v3 ⟨rfl, hb⟩; clear p0 p1 p2 p3 p4 p5 r0 r1 r2 r3 r4 r5 s0 s1 s2 s3 s4 s5 t0 t1 t2 t3 t4 t5; have HT3 := Lib.hid (HT2.out.below hb); clear hb; obtain ⟨p0, p1, p2, p3, p4, p5⟩ := obj_cells HT3.out.t.xa; obtain ⟨r0, r1, r2, r3, r4, r5⟩ := obj_cells HT3.out.t.xb; obtain ⟨s0, s1, s2, s3, s4, s5⟩ := HT3.out.t.cx; obtain ⟨t0, t1, t2, t3, t4, t5⟩ := HT3.out.cy; have hl1 := lt_of_heap HT3.out.t.x; have hl2 := lt_of_heap HT3.out.y)
                        | (have T5 := T4; clear T4; go_at_call 12; refine (HCY.out _ HT3.out).mono ?_; rintro en v4 ⟨rfl, hb⟩; clear p0 p1 p2 p3 p4 p5 r0 r1 r2 r3 r4 r5 s0 s1 s2 s3 s4 s5 t0 t1 t2 t3 t4 t5; have HT4 := Lib.hid (HT3.out.below hb); clear hb; obtain ⟨p0, p1, p2, p3, p4, p5⟩ := obj_cells HT4.out.t.xa; obtain ⟨r0, r1, r2, r3, r4, r5⟩ := obj_cells HT4.out.t.xb; obtain ⟨s0, s1, s2, s3, s4, s5⟩ := HT4.out.t.cx; obtain ⟨t0, t1, t2, t3, t4, t5⟩ := HT4.out.cy; have hl1 := lt_of_heap HT4.out.t.x; have hl2 := lt_of_heap HT4.out.y)
                        | (have T6 := T5; clear T5; go_at_call 18; refine (HWX.out _ HT4.out).mono ?_; rintro en v5 ⟨rfl, hb⟩; clear p0 p1 p2 p3 p4 p5 r0 r1 r2 r3 r4 r5 s0 s1 s2 s3 s4 s5 t0 t1 t2 t3 t4 t5; have HT5 := Lib.hid (HT4.out.below hb); clear hb; obtain ⟨p0, p1, p2, p3, p4, p5⟩ := obj_cells HT5.out.t.xa; obtain ⟨r0, r1, r2, r3, r4, r5⟩ := obj_cells HT5.out.t.xb; obtain ⟨s0, s1, s2, s3, s4, s5⟩ := HT5.out.t.cx; obtain ⟨t0, t1, t2, t3, t4, t5⟩ := HT5.out.cy; have hl1 := lt_of_heap HT5.out.t.x; have hl2 := lt_of_heap HT5.out.y)
                        | (have T7 := T6; clear T6; have hbn : Below v5.heap.size v5 (v5.alloc (.cells #[.int .i64 v.k, .int .i64 v.n, .string v.s] 23)) := (Below.refl _ _).alloc (Nat.le_refl _) _; go_at_call 18; refine (HWY.out _ (HT5.out.below hbn)).mono ?_; rintro en v6 ⟨rfl, hb⟩; clear p0 p1 p2 p3 p4 p5 r0 r1 r2 r3 r4 r5 s0 s1 s2 s3 s4 s5 t0 t1 t2 t3 t4 t5; have HT6 := Lib.hid ((HT5.out.below hbn).below hb); have HX6 := Lib.hid ((Box3.new v5 v).below hb); clear hb hbn; obtain ⟨p0, p1, p2, p3, p4, p5⟩ := obj_cells HT6.out.t.xa; obtain ⟨r0, r1, r2, r3, r4, r5⟩ := obj_cells HT6.out.t.xb; obtain ⟨s0, s1, s2, s3, s4, s5⟩ := HT6.out.t.cx; obtain ⟨t0, t1, t2, t3, t4, t5⟩ := HT6.out.cy; have hl1 := lt_of_heap HT6.out.t.x; have hl2 := lt_of_heap HT6.out.y)
                        | (have T8 := T7; clear T7; have hbn : Below v6.heap.size v6 (v6.alloc (.cells #[.int .i64 v.k, .int .i64 v.n, .string v.s] 23)) := (Below.refl _ _).alloc (Nat.le_refl _) _; go_at_call 28; refine (no_any (notX (andE a b)) (some ⟨qx, 0, none⟩) 1 _).mono ?_; rintro en v7 ⟨qz, rfl, hqz, hlz, hb⟩; clear p0 p1 p2 p3 p4 p5 r0 r1 r2 r3 r4 r5 s0 s1 s2 s3 s4 s5 t0 t1 t2 t3 t4 t5; have HT7 := Lib.hid ((HT6.out.below hbn).below hb); have HX7 := Lib.hid ((HX6.out.below hbn).below hb); have HY7 := Lib.hid ((Box3.new v6 v).below hb); have HZ7 := Lib.hid hqz; clear hb hbn hqz hlz)
                        | (have T9 := T8; clear T8; go_at_call 28; refine (no_any (notX (notX (andE a b))) (some ⟨qz, 0, none⟩) 1 _).mono ?_; rintro en v8 ⟨qw, rfl, hqw, hlw, hb⟩; have HT8 := Lib.hid (HT7.out.below hb); have HX8 := Lib.hid (HX7.out.below hb); have HY8 := Lib.hid (HY7.out.below hb); have HZ8 := Lib.hid (blk_of hb HZ7.out); have HV8 := Lib.hid hqw; clear hb hqw hlw)
                        | (have T10 := T9; clear T9; go_at_call 18; refine (HWZ.out _ HT8.out qz qw HZ8.out HV8.out).mono ?_; rintro en v9 ⟨rfl, hb⟩; have HT9 := Lib.hid (HT8.out.below hb); have HX9 := Lib.hid (HX8.out.below hb); have HY9 := Lib.hid (HY8.out.below hb); have b0 := HX9.out.c0; have b1 := HX9.out.c1; have b2 := HX9.out.c2; have d0 := HY9.out.c0; have d1 := HY9.out.c1; have d2 := HY9.out.c2; have hlx := HX9.out.lt; have hly := HY9.out.lt; clear hb))
                      go_ret
                      exact ⟨by simp, HT9.out.t.bel.alloc (by have := HT9.out.t.bel.size; omega) _⟩
                    ·
                      have hzv := HP2.out.resolve_left hg
                      clear HP2
                      injection hzv with hg1 hg2
                      have hg1 := hg1.symm
                      have hg2 := hg2.symm
                      subst hg1 hg2
                      have hq : (e == 131) = false := by simpa using hg
                      clear hg
                      go_wp2_with (first
                        | (have T1 := T2; clear T2; go_at_call 16; refine (HKA.out _ HT.out.t.bel).mono ?_; rintro en v1 ⟨rfl, hb⟩; clear p0 p1 p2 p3 p4 p5 r0 r1 r2 r3 r4 r5 s0 s1 s2 s3 s4 s5 t0 t1 t2 t3 t4 t5; have HT1 := Lib.hid (HT.out.below hb); clear hb; obtain ⟨p0, p1, p2, p3, p4, p5⟩ := obj_cells HT1.out.t.xa; obtain ⟨r0, r1, r2, r3, r4, r5⟩ := obj_cells HT1.out.t.xb; obtain ⟨s0, s1, s2, s3, s4, s5⟩ := HT1.out.t.cx; obtain ⟨t0, t1, t2, t3, t4, t5⟩ := HT1.out.cy; have hl1 := lt_of_heap HT1.out.t.x; have hl2 := lt_of_heap HT1.out.y)
                        | (have T3 := T1; clear T1; go_at_call 16; refine (HKB.out _ HT1.out.t.bel).mono ?_; rintro en v2 ⟨rfl, hb⟩; clear p0 p1 p2 p3 p4 p5 r0 r1 r2 r3 r4 r5 s0 s1 s2 s3 s4 s5 t0 t1 t2 t3 t4 t5; have HT2 := Lib.hid (HT1.out.below hb); clear hb; obtain ⟨p0, p1, p2, p3, p4, p5⟩ := obj_cells HT2.out.t.xa; obtain ⟨r0, r1, r2, r3, r4, r5⟩ := obj_cells HT2.out.t.xb; obtain ⟨s0, s1, s2, s3, s4, s5⟩ := HT2.out.t.cx; obtain ⟨t0, t1, t2, t3, t4, t5⟩ := HT2.out.cy; have hl1 := lt_of_heap HT2.out.t.x; have hl2 := lt_of_heap HT2.out.y)
                        | (have T4 := T3; clear T3; go_at_call 12; refine (HCX.out _ HT2.out).mono ?_; rintro en v3 ⟨rfl, hb⟩; clear p0 p1 p2 p3 p4 p5 r0 r1 r2 r3 r4 r5 s0 s1 s2 s3 s4 s5 t0 t1 t2 t3 t4 t5; have HT3 := Lib.hid (HT2.out.below hb); clear hb; obtain ⟨p0, p1, p2, p3, p4, p5⟩ := obj_cells HT3.out.t.xa; obtain ⟨r0, r1, r2, r3, r4, r5⟩ := obj_cells HT3.out.t.xb; obtain ⟨s0, s1, s2, s3, s4, s5⟩ := HT3.out.t.cx; obtain ⟨t0, t1, t2, t3, t4, t5⟩ := HT3.out.cy; have hl1 := lt_of_heap HT3.out.t.x; have hl2 := lt_of_heap HT3.out.y)
                        | (have T5 := T4; clear T4; go_at_call 12; refine (HCY.out _ HT3.out).mono ?_; rintro en v4 ⟨rfl, hb⟩; clear p0 p1 p2 p3 p4 p5 r0 r1 r2 r3 r4 r5 s0 s1 s2 s3 s4 s5 t0 t1 t2 t3 t4 t5; have HT4 := Lib.hid (HT3.out.below hb); clear hb; obtain ⟨p0, p1, p2, p3, p4, p5⟩ := obj_cells HT4.out.t.xa; obtain ⟨r0, r1, r2, r3, r4, r5⟩ := obj_cells HT4.out.t.xb; obtain ⟨s0, s1, s2, s3, s4, s5⟩ := HT4.out.t.cx; obtain ⟨t0, t1, t2, t3, t4, t5⟩ := HT4.out.cy; have hl1 := lt_of_heap HT4.out.t.x; have hl2 := lt_of_heap HT4.out.y)
                        | (have T6 := T5; clear T5; go_at_call 18; refine (HWX.out _ HT4.out).mono ?_; rintro en v5 ⟨rfl, hb⟩; clear p0 p1 p2 p3 p4 p5 r0 r1 r2 r3 r4 r5 s0 s1 s2 s3 s4 s5 t0 t1 t2 t3 t4 t5; have HT5 := Lib.hid (HT4.out.below hb); clear hb; obtain ⟨p0, p1, p2, p3, p4, p5⟩ := obj_cells HT5.out.t.xa; obtain ⟨r0, r1, r2, r3, r4, r5⟩ := obj_cells HT5.out.t.xb; obtain ⟨s0, s1, s2, s3, s4, s5⟩ := HT5.out.t.cx; obtain ⟨t0, t1, t2, t3, t4, t5⟩ := HT5.out.cy; have hl1 := lt_of_heap HT5.out.t.x; have hl2 := lt_of_heap HT5.out.y)
                        | (have T7 := T6; clear T6; have hbn : Below v5.heap.size v5 (v5.alloc (.cells #[.int .i64 v.k, .int .i64 v.n, .string v.s] 23)) := (Below.refl _ _).alloc (Nat.le_refl _) _; go_at_call 18; refine (HWY.out _ (HT5.out.below hbn)).mono ?_; rintro en v6 ⟨rfl, hb⟩; clear p0 p1 p2 p3 p4 p5 r0 r1 r2 r3 r4 r5 s0 s1 s2 s3 s4 s5 t0 t1 t2 t3 t4 t5; have HT6 := Lib.hid ((HT5.out.below hbn).below hb); have HX6 := Lib.hid ((Box3.new v5 v).below hb); clear hb hbn; obtain ⟨p0, p1, p2, p3, p4, p5⟩ := obj_cells HT6.out.t.xa; obtain ⟨r0, r1, r2, r3, r4, r5⟩ := obj_cells HT6.out.t.xb; obtain ⟨s0, s1, s2, s3, s4, s5⟩ := HT6.out.t.cx; obtain ⟨t0, t1, t2, t3, t4, t5⟩ := HT6.out.cy; have hl1 := lt_of_heap HT6.out.t.x; have hl2 := lt_of_heap HT6.out.y)
                        | (have T8 := T7; clear T7; have hbn : Below v6.heap.size v6 (v6.alloc (.cells #[.int .i64 v.k, .int .i64 v.n, .string v.s] 23)) := (Below.refl _ _).alloc (Nat.le_refl _) _; go_at_call 28; refine (no_any (notX (andE a b)) (some ⟨qx, 0, none⟩) 1 _).mono ?_; rintro en v7 ⟨qz, rfl, hqz, hlz, hb⟩; clear p0 p1 p2 p3 p4 p5 r0 r1 r2 r3 r4 r5 s0 s1 s2 s3 s4 s5 t0 t1 t2 t3 t4 t5; have HT7 := Lib.hid ((HT6.out.below hbn).below hb); have HX7 := Lib.hid ((HX6.out.below hbn).below hb); have HY7 := Lib.hid ((Box3.new v6 v).below hb); have HZ7 := Lib.hid hqz; clear hb hbn hqz hlz)
                        | (have T9 := T8; clear T8; go_at_call 28; refine (no_any (notX (notX (andE a b))) (some ⟨qz, 0, none⟩) 1 _).mono ?_; rintro en v8 ⟨qw, rfl, hqw, hlw, hb⟩; have HT8 := Lib.hid (HT7.out.below hb); have HX8 := Lib.hid (HX7.out.below hb); have HY8 := Lib.hid (HY7.out.below hb); have HZ8 := Lib.hid (blk_of hb HZ7.out); have HV8 := Lib.hid hqw; clear hb hqw hlw)
                        | (have T10 := T9; clear T9; go_at_call 18; refine (HWZ.out _ HT8.out qz qw HZ8.out HV8.out).mono ?_; rintro en v9 ⟨rfl, hb⟩; have HT9 := Lib.hid (HT8.out.below hb); have HX9 := Lib.hid (HX8.out.below hb); have HY9 := Lib.hid (HY8.out.below hb); have b0 := HX9.out.c0; have b1 := HX9.out.c1; have b2 := HX9.out.c2; have d0 := HY9.out.c0; have d1 := HY9.out.c1; have d2 := HY9.out.c2; have hlx := HX9.out.lt; have hly := HY9.out.lt; clear hb))
                      go_ret
                      exact ⟨by simp, HT9.out.t.bel.alloc (by have := HT9.out.t.bel.size; omega) _⟩
                  ·
                    have e0 : (da != 0) = false := by simpa using hda
                    have e1 : (db != 0) = false := by simpa using hdb
                    have e2 : (ka != 2) = false := by simpa using hk1
                    have e3 : (kb != 2) = false := by simpa using hk2
                    have e4 : (x != 0) = false := by simpa using hx0
                    have e5 : (y != 0) = true := by simpa using hy0
                    clear hda hdb hk1 hk2 hx0 hy0
                    go_wp2_with (first
                      | (have T1 := T2; clear T2; go_at_call 16; refine (HKA.out _ HT.out.t.bel).mono ?_; rintro en v1 ⟨rfl, hb⟩; clear p0 p1 p2 p3 p4 p5 r0 r1 r2 r3 r4 r5 s0 s1 s2 s3 s4 s5 t0 t1 t2 t3 t4 t5; have HT1 := Lib.hid (HT.out.below hb); clear hb; obtain ⟨p0, p1, p2, p3, p4, p5⟩ := obj_cells HT1.out.t.xa; obtain ⟨r0, r1, r2, r3, r4, r5⟩ := obj_cells HT1.out.t.xb; obtain ⟨s0, s1, s2, s3, s4, s5⟩ := HT1.out.t.cx; obtain ⟨t0, t1, t2, t3, t4, t5⟩ := HT1.out.cy; have hl1 := lt_of_heap HT1.out.t.x; have hl2 := lt_of_heap HT1.out.y)
                      | (have T3 := T1; clear T1; go_at_call 16; refine (HKB.out _ HT1.out.t.bel).mono ?_; rintro en v2 ⟨rfl, hb⟩; clear p0 p1 p2 p3 p4 p5 r0 r1 r2 r3 r4 r5 s0 s1 s2 s3 s4 s5 t0 t1 t2 t3 t4 t5; have HT2 := Lib.hid (HT1.out.below hb); clear hb; obtain ⟨p0, p1, p2, p3, p4, p5⟩ := obj_cells HT2.out.t.xa; obtain ⟨r0, r1, r2, r3, r4, r5⟩ := obj_cells HT2.out.t.xb; obtain ⟨s0, s1, s2, s3, s4, s5⟩ := HT2.out.t.cx; obtain ⟨t0, t1, t2, t3, t4, t5⟩ := HT2.out.cy; have hl1 := lt_of_heap HT2.out.t.x; have hl2 := lt_of_heap HT2.out.y)
                      | (have T4 := T3; clear T3; go_at_call 12; refine (HCX.out _ HT2.out).mono ?_; rintro en v3 ⟨rfl, hb⟩; clear p0 p1 p2 p3 p4 p5 r0 r1 r2 r3 r4 r5 s0 s1 s2 s3 s4 s5 t0 t1 t2 t3 t4 t5; have HT3 := Lib.hid (HT2.out.below hb); clear hb; obtain ⟨p0, p1, p2, p3, p4, p5⟩ := obj_cells HT3.out.t.xa; obtain ⟨r0, r1, r2, r3, r4, r5⟩ := obj_cells HT3.out.t.xb; obtain ⟨s0, s1, s2, s3, s4, s5⟩ := HT3.out.t.cx; obtain ⟨t0, t1, t2, t3, t4, t5⟩ := HT3.out.cy; have hl1 := lt_of_heap HT3.out.t.x; have hl2 := lt_of_heap HT3.out.y)
                      | (have T5 := T4; clear T4; go_at_call 12; refine (HCY.out _ HT3.out).mono ?_; rintro en v4 ⟨rfl, hb⟩; clear p0 p1 p2 p3 p4 p5 r0 r1 r2 r3 r4 r5 s0 s1 s2 s3 s4 s5 t0 t1 t2 t3 t4 t5; have HT4 := Lib.hid (HT3.out.below hb); clear hb; obtain ⟨p0, p1, p2, p3, p4, p5⟩ := obj_cells HT4.out.t.xa; obtain ⟨r0, r1, r2, r3, r4, r5⟩ := obj_cells HT4.out.t.xb; obtain ⟨s0, s1, s2, s3, s4, s5⟩ := HT4.out.t.cx; obtain ⟨t0, t1, t2, t3, t4, t5⟩ := HT4.out.cy; have hl1 := lt_of_heap HT4.out.t.x; have hl2 := lt_of_heap HT4.out.y))
                    go_ret
                    exact ⟨rfl, HT4.out.t.bel⟩
                ·
                  have e0 : (da != 0) = false := by simpa using hda
                  have e1 : (db != 0) = false := by simpa using hdb
                  have e2 : (ka != 2) = false := by simpa using hk1
                  have e3 : (kb != 2) = false := by simpa using hk2
                  have e4 : (x != 0) = true := by simpa using hx0
                  clear hda hdb hk1 hk2 hx0
                  go_wp2_with (first
                    | (have T1 := T2; clear T2; go_at_call 16; refine (HKA.out _ HT.out.t.bel).mono ?_; rintro en v1 ⟨rfl, hb⟩; clear p0 p1 p2 p3 p4 p5 r0 r1 r2 r3 r4 r5 s0 s1 s2 s3 s4 s5 t0 t1 t2 t3 t4 t5; have HT1 := Lib.hid (HT.out.below hb); clear hb; obtain ⟨p0, p1, p2, p3, p4, p5⟩ := obj_cells HT1.out.t.xa; obtain ⟨r0, r1, r2, r3, r4, r5⟩ := obj_cells HT1.out.t.xb; obtain ⟨s0, s1, s2, s3, s4, s5⟩ := HT1.out.t.cx; obtain ⟨t0, t1, t2, t3, t4, t5⟩ := HT1.out.cy; have hl1 := lt_of_heap HT1.out.t.x; have hl2 := lt_of_heap HT1.out.y)
                    | (have T3 := T1; clear T1; go_at_call 16; refine (HKB.out _ HT1.out.t.bel).mono ?_; rintro en v2 ⟨rfl, hb⟩; clear p0 p1 p2 p3 p4 p5 r0 r1 r2 r3 r4 r5 s0 s1 s2 s3 s4 s5 t0 t1 t2 t3 t4 t5; have HT2 := Lib.hid (HT1.out.below hb); clear hb; obtain ⟨p0, p1, p2, p3, p4, p5⟩ := obj_cells HT2.out.t.xa; obtain ⟨r0, r1, r2, r3, r4, r5⟩ := obj_cells HT2.out.t.xb; obtain ⟨s0, s1, s2, s3, s4, s5⟩ := HT2.out.t.cx; obtain ⟨t0, t1, t2, t3, t4, t5⟩ := HT2.out.cy; have hl1 := lt_of_heap HT2.out.t.x; have hl2 := lt_of_heap HT2.out.y)
                    | (have T4 := T3; clear T3; go_at_call 12; refine (HCX.out _ HT2.out).mono ?_; rintro en v3 ⟨rfl, hb⟩; clear p0 p1 p2 p3 p4 p5 r0 r1 r2 r3 r4 r5 s0 s1 s2 s3 s4 s5 t0 t1 t2 t3 t4 t5; have HT3 := Lib.hid (HT2.out.below hb); clear hb; obtain ⟨p0, p1, p2, p3, p4, p5⟩ := obj_cells HT3.out.t.xa; obtain ⟨r0, r1, r2, r3, r4, r5⟩ := obj_cells HT3.out.t.xb; obtain ⟨s0, s1, s2, s3, s4, s5⟩ := HT3.out.t.cx; obtain ⟨t0, t1, t2, t3, t4, t5⟩ := HT3.out.cy; have hl1 := lt_of_heap HT3.out.t.x; have hl2 := lt_of_heap HT3.out.y))
                  go_ret
                  exact ⟨rfl, HT3.out.t.bel⟩
              ·
                have e0 : (da != 0) = false := by simpa using hda
                have e1 : (db != 0) = false := by simpa using hdb
                have e2 : (ka != 2) = false := by simpa using hk1
                have e3 : (kb != 2) = true := by simpa using hk2
                clear hda hdb hk1 hk2
                go_wp2_with (first
                  | (have T1 := T2; clear T2; go_at_call 16; refine (HKA.out _ HT.out.t.bel).mono ?_; rintro en v1 ⟨rfl, hb⟩; clear p0 p1 p2 p3 p4 p5 r0 r1 r2 r3 r4 r5 s0 s1 s2 s3 s4 s5 t0 t1 t2 t3 t4 t5; have HT1 := Lib.hid (HT.out.below hb); clear hb; obtain ⟨p0, p1, p2, p3, p4, p5⟩ := obj_cells HT1.out.t.xa; obtain ⟨r0, r1, r2, r3, r4, r5⟩ := obj_cells HT1.out.t.xb; obtain ⟨s0, s1, s2, s3, s4, s5⟩ := HT1.out.t.cx; obtain ⟨t0, t1, t2, t3, t4, t5⟩ := HT1.out.cy; have hl1 := lt_of_heap HT1.out.t.x; have hl2 := lt_of_heap HT1.out.y)
                  | (have T3 := T1; clear T1; go_at_call 16; refine (HKB.out _ HT1.out.t.bel).mono ?_; rintro en v2 ⟨rfl, hb⟩; clear p0 p1 p2 p3 p4 p5 r0 r1 r2 r3 r4 r5 s0 s1 s2 s3 s4 s5 t0 t1 t2 t3 t4 t5; have HT2 := Lib.hid (HT1.out.below hb); clear hb; obtain ⟨p0, p1, p2, p3, p4, p5⟩ := obj_cells HT2.out.t.xa; obtain ⟨r0, r1, r2, r3, r4, r5⟩ := obj_cells HT2.out.t.xb; obtain ⟨s0, s1, s2, s3, s4, s5⟩ := HT2.out.t.cx; obtain ⟨t0, t1, t2, t3, t4, t5⟩ := HT2.out.cy; have hl1 := lt_of_heap HT2.out.t.x; have hl2 := lt_of_heap HT2.out.y))
                go_ret
                exact ⟨rfl, HT2.out.t.bel⟩
            ·
              have e0 : (da != 0) = false := by simpa using hda
              have e1 : (db != 0) = false := by simpa using hdb
              have e2 : (ka != 2) = true := by simpa using hk1
              clear hda hdb hk1
              go_wp2_with (first
                | (have T1 := T2; clear T2; go_at_call 16; refine (HKA.out _ HT.out.t.bel).mono ?_; rintro en v1 ⟨rfl, hb⟩; clear p0 p1 p2 p3 p4 p5 r0 r1 r2 r3 r4 r5 s0 s1 s2 s3 s4 s5 t0 t1 t2 t3 t4 t5; have HT1 := Lib.hid (HT.out.below hb); clear hb; obtain ⟨p0, p1, p2, p3, p4, p5⟩ := obj_cells HT1.out.t.xa; obtain ⟨r0, r1, r2, r3, r4, r5⟩ := obj_cells HT1.out.t.xb; obtain ⟨s0, s1, s2, s3, s4, s5⟩ := HT1.out.t.cx; obtain ⟨t0, t1, t2, t3, t4, t5⟩ := HT1.out.cy; have hl1 := lt_of_heap HT1.out.t.x; have hl2 := lt_of_heap HT1.out.y)
                | (have T3 := T1; clear T1; go_at_call 16; refine (HKB.out _ HT1.out.t.bel).mono ?_; rintro en v2 ⟨rfl, hb⟩; clear p0 p1 p2 p3 p4 p5 r0 r1 r2 r3 r4 r5 s0 s1 s2 s3 s4 s5 t0 t1 t2 t3 t4 t5; have HT2 := Lib.hid (HT1.out.below hb); clear hb; obtain ⟨p0, p1, p2, p3, p4, p5⟩ := obj_cells HT2.out.t.xa; obtain ⟨r0, r1, r2, r3, r4, r5⟩ := obj_cells HT2.out.t.xb; obtain ⟨s0, s1, s2, s3, s4, s5⟩ := HT2.out.t.cx; obtain ⟨t0, t1, t2, t3, t4, t5⟩ := HT2.out.cy; have hl1 := lt_of_heap HT2.out.t.x; have hl2 := lt_of_heap HT2.out.y))
              go_ret
              exact ⟨rfl, HT2.out.t.bel⟩
          ·
            have e0 : (da != 0) = false := by simpa using hda
            have e1 : (db != 0) = true := by simpa using hdb
            clear hda hdb
            go_wp2_with (first
              | (have T1 := T2; clear T2; go_at_call 16; refine (HKA.out _ HT.out.t.bel).mono ?_; rintro en v1 ⟨rfl, hb⟩; clear p0 p1 p2 p3 p4 p5 r0 r1 r2 r3 r4 r5 s0 s1 s2 s3 s4 s5 t0 t1 t2 t3 t4 t5; have HT1 := Lib.hid (HT.out.below hb); clear hb; obtain ⟨p0, p1, p2, p3, p4, p5⟩ := obj_cells HT1.out.t.xa; obtain ⟨r0, r1, r2, r3, r4, r5⟩ := obj_cells HT1.out.t.xb; obtain ⟨s0, s1, s2, s3, s4, s5⟩ := HT1.out.t.cx; obtain ⟨t0, t1, t2, t3, t4, t5⟩ := HT1.out.cy; have hl1 := lt_of_heap HT1.out.t.x; have hl2 := lt_of_heap HT1.out.y)
              | (have T3 := T1; clear T1; go_at_call 16; refine (HKB.out _ HT1.out.t.bel).mono ?_; rintro en v2 ⟨rfl, hb⟩; clear p0 p1 p2 p3 p4 p5 r0 r1 r2 r3 r4 r5 s0 s1 s2 s3 s4 s5 t0 t1 t2 t3 t4 t5; have HT2 := Lib.hid (HT1.out.below hb); clear hb; obtain ⟨p0, p1, p2, p3, p4, p5⟩ := obj_cells HT2.out.t.xa; obtain ⟨r0, r1, r2, r3, r4, r5⟩ := obj_cells HT2.out.t.xb; obtain ⟨s0, s1, s2, s3, s4, s5⟩ := HT2.out.t.cx; obtain ⟨t0, t1, t2, t3, t4, t5⟩ := HT2.out.cy; have hl1 := lt_of_heap HT2.out.t.x; have hl2 := lt_of_heap HT2.out.y))
            go_ret
            exact ⟨rfl, HT2.out.t.bel⟩
        ·
          have e0 : (da != 0) = true := by simpa using hda
          clear hda
          go_wp2_with (first
            | (have T1 := T2; clear T2; go_at_call 16; refine (HKA.out _ HT.out.t.bel).mono ?_; rintro en v1 ⟨rfl, hb⟩; clear p0 p1 p2 p3 p4 p5 r0 r1 r2 r3 r4 r5 s0 s1 s2 s3 s4 s5 t0 t1 t2 t3 t4 t5; have HT1 := Lib.hid (HT.out.below hb); clear hb; obtain ⟨p0, p1, p2, p3, p4, p5⟩ := obj_cells HT1.out.t.xa; obtain ⟨r0, r1, r2, r3, r4, r5⟩ := obj_cells HT1.out.t.xb; obtain ⟨s0, s1, s2, s3, s4, s5⟩ := HT1.out.t.cx; obtain ⟨t0, t1, t2, t3, t4, t5⟩ := HT1.out.cy; have hl1 := lt_of_heap HT1.out.t.x; have hl2 := lt_of_heap HT1.out.y)
            | (have T3 := T1; clear T1; go_at_call 16; refine (HKB.out _ HT1.out.t.bel).mono ?_; rintro en v2 ⟨rfl, hb⟩; clear p0 p1 p2 p3 p4 p5 r0 r1 r2 r3 r4 r5 s0 s1 s2 s3 s4 s5 t0 t1 t2 t3 t4 t5; have HT2 := Lib.hid (HT1.out.below hb); clear hb; obtain ⟨p0, p1, p2, p3, p4, p5⟩ := obj_cells HT2.out.t.xa; obtain ⟨r0, r1, r2, r3, r4, r5⟩ := obj_cells HT2.out.t.xb; obtain ⟨s0, s1, s2, s3, s4, s5⟩ := HT2.out.t.cx; obtain ⟨t0, t1, t2, t3, t4, t5⟩ := HT2.out.cy; have hl1 := lt_of_heap HT2.out.t.x; have hl2 := lt_of_heap HT2.out.y))
          go_ret
          exact ⟨rfl, HT2.out.t.bel⟩
      clear hK HPL HWF HKS HCE HWO HKA HKB
      have hS : Tx a b A1 c1 A2 c2 w V0.drew sx qx bx := hT.below (Below.refl _ _).drew
      clear hT
      refine held_begin 10 (fun W => Tx a b A1 c1 A2 c2 w W sx qx bx) rfl (by kernel_rfl) ?_
      obtain ⟨V1, hV1⟩ : ∃ q, V0.drew = q := ⟨_, rfl⟩
      rw [hV1] at hS ⊢
      clear hV1
      refine held_take (i := 0) (t := 39) (v := (.func (.func 28) #[] #[])) (fuel := 9) rfl rfl (by kernel_rfl) (by kernel_rfl) (by kernel_rfl) (fun _ _ _ h => h) (.inl ⟨rfl, fun W hW => by simp [execOp, Act.eval, go_sem]⟩) hS ?_
      simp only [List.setIfInBounds_toArray, List.set_cons_succ, List.set_cons_zero]
      refine held_take (i := 1) (t := 40) (v := (.agg #[.int .i64 a.op, .string a.nm, .int .i64 a.v.k, .int .i64 a.v.n, .string a.v.s, .slice A1 a.ks.length c1])) (fuel := 8) rfl rfl (by kernel_rfl) (by kernel_rfl) (by kernel_rfl) (fun _ _ _ h => h) (.inl ⟨rfl, fun W hW => by simp [execOp, Act.eval, go_sem, (obj_cells hW.xa).1, (obj_cells hW.xa).2.1, (obj_cells hW.xa).2.2.1, (obj_cells hW.xa).2.2.2.1, (obj_cells hW.xa).2.2.2.2.1, (obj_cells hW.xa).2.2.2.2.2]⟩) hS ?_
      simp only [List.setIfInBounds_toArray, List.set_cons_succ, List.set_cons_zero]
      refine held_take (i := 3) (t := 42) (v := (.func (.func 28) #[] #[])) (fuel := 7) rfl rfl (by kernel_rfl) (by kernel_rfl) (by kernel_rfl) (fun _ _ _ h => h) (.inl ⟨rfl, fun W hW => by simp [execOp, Act.eval, go_sem]⟩) hS ?_
      simp only [List.setIfInBounds_toArray, List.set_cons_succ, List.set_cons_zero]
      refine held_take (i := 4) (t := 43) (v := (.agg #[.int .i64 b.op, .string b.nm, .int .i64 b.v.k, .int .i64 b.v.n, .string b.v.s, .slice A2 b.ks.length c2])) (fuel := 6) rfl rfl (by kernel_rfl) (by kernel_rfl) (by kernel_rfl) (fun _ _ _ h => h) (.inl ⟨rfl, fun W hW => by simp [execOp, Act.eval, go_sem, (obj_cells hW.xb).1, (obj_cells hW.xb).2.1, (obj_cells hW.xb).2.2.1, (obj_cells hW.xb).2.2.2.1, (obj_cells hW.xb).2.2.2.2.1, (obj_cells hW.xb).2.2.2.2.2]⟩) hS ?_
      simp only [List.setIfInBounds_toArray, List.set_cons_succ, List.set_cons_zero]
      have hen : ∀ args W, (callFunc 28 args).run Tryz.prog W = .ok (.enter 28 args) W := enters_of Tryz.func28 (by kernel_rfl) rfl
      have hlt : w.heap.size + 1 < V1.heap.size ∧ sx < V1.heap.size ∧ qx < V1.heap.size ∧ bx < V1.heap.size := ⟨lt_of_heap hS.xb, lt_of_heap hS.s, lt_of_heap hS.q, lt_of_heap hS.x⟩
      refine held_two (i := 2) (j := 8) rfl rfl (by kernel_rfl) (by kernel_rfl) (by kernel_rfl) ?_ ?_
      · simp [Oper.wp, execOp, Act.eval, Act.put, go_sem, hen]
        refine (no_any a A1 c1 V1).mono ?_
        rintro en Y1 ⟨q1, rfl, hq, hl, hb⟩
        have hS := hS.below hb
        have h1 := hq
        clear hb hq hl
        refine ⟨hS, ?_⟩
        try simp only [List.setIfInBounds_toArray, List.set_cons_succ, List.set_cons_zero]
        have hlt : w.heap.size + 1 < Y1.heap.size ∧ sx < Y1.heap.size ∧ qx < Y1.heap.size ∧ bx < Y1.heap.size := ⟨lt_of_heap hS.xb, lt_of_heap hS.s, lt_of_heap hS.q, lt_of_heap hS.x⟩
        have h1o := h1
        refine held_two (i := 5) (j := 8) rfl rfl (by kernel_rfl) (by kernel_rfl) (by kernel_rfl) ?_ ?_
        · simp [Oper.wp, execOp, Act.eval, Act.put, go_sem, hen]
          refine (no_any b A2 c2 Y1).mono ?_
          rintro en Y2 ⟨q2, rfl, hq, hl, hb⟩
          have h1 := blk_of hb h1
          have hS := hS.below hb
          have h2 := hq
          clear hb hq hl
          refine ⟨hS, ?_⟩
          try simp only [List.setIfInBounds_toArray, List.set_cons_succ, List.set_cons_zero]
          have hlt : w.heap.size + 1 < Y2.heap.size ∧ sx < Y2.heap.size ∧ qx < Y2.heap.size ∧ bx < Y2.heap.size := ⟨lt_of_heap hS.xb, lt_of_heap hS.s, lt_of_heap hS.q, lt_of_heap hS.x⟩
          have h1o := h1
          have h2o := h2
          refine held_two (i := 6) (j := 8) rfl rfl (by kernel_rfl) (by kernel_rfl) (by kernel_rfl) ?_ ?_
          · simp [Oper.wp, execOp, Act.eval, Act.put, go_sem]
            have hb : Below Y2.heap.size Y2 (Y2.alloc (.cells #[.int .i64 16, .string ⟨#[]⟩, .int .i64 0, .int .i64 0, .string ⟨#[]⟩, .slice (some ⟨q1, 0, none⟩) 1 1, .int .i64 16, .string ⟨#[]⟩, .int .i64 0, .int .i64 0, .string ⟨#[]⟩, .slice (some ⟨q2, 0, none⟩) 1 1] 26)) := (Below.refl _ _).alloc (Nat.le_refl _) _
            have h1 := blk_of hb h1
            have h2 := blk_of hb h2
            have hS := hS.below hb
            have h3 : (Y2.alloc (.cells #[.int .i64 16, .string ⟨#[]⟩, .int .i64 0, .int .i64 0, .string ⟨#[]⟩, .slice (some ⟨q1, 0, none⟩) 1 1, .int .i64 16, .string ⟨#[]⟩, .int .i64 0, .int .i64 0, .string ⟨#[]⟩, .slice (some ⟨q2, 0, none⟩) 1 1] 26)).heap[Y2.heap.size]? = some (.cells (xs6 (notX a) (some ⟨q1, 0, none⟩) 1 ++ xs6 (notX b) (some ⟨q2, 0, none⟩) 1).toArray 26) := World.alloc_heap_new _ _
            obtain ⟨Y3, hU⟩ : ∃ q, Y2.alloc (.cells #[.int .i64 16, .string ⟨#[]⟩, .int .i64 0, .int .i64 0, .string ⟨#[]⟩, .slice (some ⟨q1, 0, none⟩) 1 1, .int .i64 16, .string ⟨#[]⟩, .int .i64 0, .int .i64 0, .string ⟨#[]⟩, .slice (some ⟨q2, 0, none⟩) 1 1] 26) = q := ⟨_, rfl⟩
            rw [hU] at hS h1 h2 h3 ⊢
            clear hU hb
            obtain ⟨qy, eqy⟩ : ∃ q, Y2.heap.size = q := ⟨_, rfl⟩
            rw [eqy] at h3 ⊢
            clear eqy
            refine ⟨hS, ?_⟩
            try simp only [List.setIfInBounds_toArray, List.set_cons_succ, List.set_cons_zero]
            refine held_take (i := 7) (t := 46) (v := (.agg #[.int .i64 15, .string ⟨#[]⟩, .int .i64 0, .int .i64 0, .string ⟨#[]⟩, .slice (some ⟨qy, 0, none⟩) 2 2])) (fuel := 2) rfl rfl (by kernel_rfl) (by kernel_rfl) (by kernel_rfl) (fun _ _ _ h => h) (.inl ⟨rfl, fun W hW => by simp [execOp, Act.eval, go_sem]⟩) hS ?_
            simp only [List.setIfInBounds_toArray, List.set_cons_succ, List.set_cons_zero]
            have hlt : w.heap.size + 1 < Y3.heap.size ∧ sx < Y3.heap.size ∧ qx < Y3.heap.size ∧ bx < Y3.heap.size := ⟨lt_of_heap hS.xb, lt_of_heap hS.s, lt_of_heap hS.q, lt_of_heap hS.x⟩
            have h1o := h1
            have h2o := h2
            have h3o := h3
            refine held_call (i := 8) rfl (by kernel_rfl) (by kernel_rfl) ?_
            simp [Oper.wp, execOp, Act.eval, Act.put, go_sem]
            have hb : Below Y3.heap.size Y3 (Y3.alloc (.cells #[.int .i64 0, .string ⟨#[]⟩, .int .i64 0, .int .i64 0, .string ⟨#[]⟩, .slice none 0 0] 26)) := (Below.refl _ _).alloc (Nat.le_refl _) _
            have h1 := blk_of hb h1
            have h2 := blk_of hb h2
            have h3 := blk_of hb h3
            have hS := hS.below hb
            have hX : (Y3.alloc (.cells #[.int .i64 0, .string ⟨#[]⟩, .int .i64 0, .int .i64 0, .string ⟨#[]⟩, .slice none 0 0] 26)).heap[Y3.heap.size]? = some (.cells #[.int .i64 0, .string ⟨#[]⟩, .int .i64 0, .int .i64 0, .string ⟨#[]⟩, .slice none 0 0] 26) := World.alloc_heap_new _ _
            have hg : w.heap.size + 1 < Y3.heap.size ∧ sx ≠ Y3.heap.size ∧ qx ≠ Y3.heap.size ∧ bx ≠ Y3.heap.size := ⟨hlt.1, by omega, by omega, by omega⟩
            have e1 : q1 ≠ Y3.heap.size := by have := lt_of_heap h1o; omega
            have e2 : q2 ≠ Y3.heap.size := by have := lt_of_heap h2o; omega
            have e3 : qy ≠ Y3.heap.size := by have := lt_of_heap h3o; omega
            obtain ⟨Y4, hU⟩ : ∃ q, Y3.alloc (.cells #[.int .i64 0, .string ⟨#[]⟩, .int .i64 0, .int .i64 0, .string ⟨#[]⟩, .slice none 0 0] 26) = q := ⟨_, rfl⟩
            rw [hU] at hS h1 h2 h3 hX ⊢
            clear hU hb
            obtain ⟨g, egg⟩ : ∃ q, Y3.heap.size = q := ⟨_, rfl⟩
            rw [egg] at hX hg e1 e2 e3 ⊢
            clear egg
            have hgl : g < Y4.heap.size := lt_of_heap hX
            refine ⟨hS, ?_⟩
            try simp only [List.setIfInBounds_toArray, List.set_cons_succ, List.set_cons_zero]
            have hlt : w.heap.size + 1 < Y4.heap.size ∧ sx < Y4.heap.size ∧ qx < Y4.heap.size ∧ bx < Y4.heap.size := ⟨lt_of_heap hS.xb, lt_of_heap hS.s, lt_of_heap hS.q, lt_of_heap hS.x⟩
            have h1o := h1
            have h2o := h2
            have h3o := h3
            refine held_call (i := 9) rfl (by kernel_rfl) (by kernel_rfl) ?_
            have s0 : Y4.cell? ⟨g, 0, none⟩ = some (.int .i64 0) := by simp [World.cell?, hX]
            have f0 : Y4.frozen? ⟨g, 0, none⟩ = false := by simp [World.frozen?, hX]
            have s1 : Y4.cell? ⟨g, 1, none⟩ = some (.string ⟨#[]⟩) := by simp [World.cell?, hX]
            have f1 : Y4.frozen? ⟨g, 1, none⟩ = false := by simp [World.frozen?, hX]
            have s2 : Y4.cell? ⟨g, 2, none⟩ = some (.int .i64 0) := by simp [World.cell?, hX]
            have f2 : Y4.frozen? ⟨g, 2, none⟩ = false := by simp [World.frozen?, hX]
            have s3 : Y4.cell? ⟨g, 3, none⟩ = some (.int .i64 0) := by simp [World.cell?, hX]
            have f3 : Y4.frozen? ⟨g, 3, none⟩ = false := by simp [World.frozen?, hX]
            have s4 : Y4.cell? ⟨g, 4, none⟩ = some (.string ⟨#[]⟩) := by simp [World.cell?, hX]
            have f4 : Y4.frozen? ⟨g, 4, none⟩ = false := by simp [World.frozen?, hX]
            have s5 : Y4.cell? ⟨g, 5, none⟩ = some (.slice none 0 0) := by simp [World.cell?, hX]
            have f5 : Y4.frozen? ⟨g, 5, none⟩ = false := by simp [World.frozen?, hX]
            simp [Oper.wp, execOp, Act.eval, Act.put, go_sem, s0, s1, s2, s3, s4, s5, f0, f1, f2, f3, f4, f5]
            have hTw := Tw.made hS hg h1 e1 h2 e2 h3 e3 hX
            obtain ⟨Z, hZ⟩ : ∃ q, st6 Y4 g qy = q := ⟨_, rfl⟩
            rw [hZ] at hTw
            unfold st6 at hZ
            rw [hZ]
            refine ⟨hTw.t, ?_⟩
            try simp only [List.setIfInBounds_toArray, List.set_cons_succ, List.set_cons_zero]
            refine wpAnyH_done (by kernel_rfl) ?_ 0
            exact HREST _ _ _ _ _ _ _ _ _ _ _ _ _ _ _ _ _ _ _ _ _ _ _ _ _ _ _ _ _ _ _ _ _ _ _ _ _ _ _ _ _ _ _ _ _ _ _ _ _ _ _ _ _ _ _ _ _ _ _ _ _ _ _ _ _ _ _ _ _ _ _ _ _ _ _ _ _ _ _ _ _ _ _ _ _ _ _ _ _ _ _ _ _ _ _ _ _ _ _ _ _ _ _ _ _ _ _ _ _ _ _ _ _ _ _ _ _ _ _ _ _ _ _ q1 q2 qy g Z hTw
          · simp [Oper.wp, execOp, Act.eval, Act.put, go_sem]
            have hb : Below Y2.heap.size Y2 (Y2.alloc (.cells #[.int .i64 0, .string ⟨#[]⟩, .int .i64 0, .int .i64 0, .string ⟨#[]⟩, .slice none 0 0] 26)) := (Below.refl _ _).alloc (Nat.le_refl _) _
            have h1 := blk_of hb h1
            have h2 := blk_of hb h2
            have hS := hS.below hb
            have hX : (Y2.alloc (.cells #[.int .i64 0, .string ⟨#[]⟩, .int .i64 0, .int .i64 0, .string ⟨#[]⟩, .slice none 0 0] 26)).heap[Y2.heap.size]? = some (.cells #[.int .i64 0, .string ⟨#[]⟩, .int .i64 0, .int .i64 0, .string ⟨#[]⟩, .slice none 0 0] 26) := World.alloc_heap_new _ _
            have hg : w.heap.size + 1 < Y2.heap.size ∧ sx ≠ Y2.heap.size ∧ qx ≠ Y2.heap.size ∧ bx ≠ Y2.heap.size := ⟨hlt.1, by omega, by omega, by omega⟩
            have e1 : q1 ≠ Y2.heap.size := by have := lt_of_heap h1o; omega
            have e2 : q2 ≠ Y2.heap.size := by have := lt_of_heap h2o; omega
            obtain ⟨Y5, hU⟩ : ∃ q, Y2.alloc (.cells #[.int .i64 0, .string ⟨#[]⟩, .int .i64 0, .int .i64 0, .string ⟨#[]⟩, .slice none 0 0] 26) = q := ⟨_, rfl⟩
            rw [hU] at hS h1 h2 hX ⊢
            clear hU hb
            obtain ⟨g, egg⟩ : ∃ q, Y2.heap.size = q := ⟨_, rfl⟩
            rw [egg] at hX hg e1 e2 ⊢
            clear egg
            have hgl : g < Y5.heap.size := lt_of_heap hX
            refine ⟨hS, ?_⟩
            try simp only [List.setIfInBounds_toArray, List.set_cons_succ, List.set_cons_zero]
            have hlt : w.heap.size + 1 < Y5.heap.size ∧ sx < Y5.heap.size ∧ qx < Y5.heap.size ∧ bx < Y5.heap.size := ⟨lt_of_heap hS.xb, lt_of_heap hS.s, lt_of_heap hS.q, lt_of_heap hS.x⟩
            have h1o := h1
            have h2o := h2
            refine held_call (i := 6) rfl (by kernel_rfl) (by kernel_rfl) ?_
            simp [Oper.wp, execOp, Act.eval, Act.put, go_sem]
            have hb : Below Y5.heap.size Y5 (Y5.alloc (.cells #[.int .i64 16, .string ⟨#[]⟩, .int .i64 0, .int .i64 0, .string ⟨#[]⟩, .slice (some ⟨q1, 0, none⟩) 1 1, .int .i64 16, .string ⟨#[]⟩, .int .i64 0, .int .i64 0, .string ⟨#[]⟩, .slice (some ⟨q2, 0, none⟩) 1 1] 26)) := (Below.refl _ _).alloc (Nat.le_refl _) _
            have h1 := blk_of hb h1
            have h2 := blk_of hb h2
            have hX := blk_of hb hX
            have hS := hS.below hb
            have h3 : (Y5.alloc (.cells #[.int .i64 16, .string ⟨#[]⟩, .int .i64 0, .int .i64 0, .string ⟨#[]⟩, .slice (some ⟨q1, 0, none⟩) 1 1, .int .i64 16, .string ⟨#[]⟩, .int .i64 0, .int .i64 0, .string ⟨#[]⟩, .slice (some ⟨q2, 0, none⟩) 1 1] 26)).heap[Y5.heap.size]? = some (.cells (xs6 (notX a) (some ⟨q1, 0, none⟩) 1 ++ xs6 (notX b) (some ⟨q2, 0, none⟩) 1).toArray 26) := World.alloc_heap_new _ _
            have e3 : Y5.heap.size ≠ g := by have := hgl; omega
            obtain ⟨Y6, hU⟩ : ∃ q, Y5.alloc (.cells #[.int .i64 16, .string ⟨#[]⟩, .int .i64 0, .int .i64 0, .string ⟨#[]⟩, .slice (some ⟨q1, 0, none⟩) 1 1, .int .i64 16, .string ⟨#[]⟩, .int .i64 0, .int .i64 0, .string ⟨#[]⟩, .slice (some ⟨q2, 0, none⟩) 1 1] 26) = q := ⟨_, rfl⟩
            rw [hU] at hS h1 h2 h3 hX ⊢
            clear hU hb
            obtain ⟨qy, eqy⟩ : ∃ q, Y5.heap.size = q := ⟨_, rfl⟩
            rw [eqy] at h3 e3 ⊢
            clear eqy
            have hgl : g < Y6.heap.size := lt_of_heap hX
            refine ⟨hS, ?_⟩
            try simp only [List.setIfInBounds_toArray, List.set_cons_succ, List.set_cons_zero]
            refine held_take (i := 7) (t := 46) (v := (.agg #[.int .i64 15, .string ⟨#[]⟩, .int .i64 0, .int .i64 0, .string ⟨#[]⟩, .slice (some ⟨qy, 0, none⟩) 2 2])) (fuel := 1) rfl rfl (by kernel_rfl) (by kernel_rfl) (by kernel_rfl) (fun _ _ _ h => h) (.inl ⟨rfl, fun W hW => by simp [execOp, Act.eval, go_sem]⟩) hS ?_
            simp only [List.setIfInBounds_toArray, List.set_cons_succ, List.set_cons_zero]
            have hlt : w.heap.size + 1 < Y6.heap.size ∧ sx < Y6.heap.size ∧ qx < Y6.heap.size ∧ bx < Y6.heap.size := ⟨lt_of_heap hS.xb, lt_of_heap hS.s, lt_of_heap hS.q, lt_of_heap hS.x⟩
            have h1o := h1
            have h2o := h2
            have h3o := h3
            refine held_call (i := 9) rfl (by kernel_rfl) (by kernel_rfl) ?_
            have s0 : Y6.cell? ⟨g, 0, none⟩ = some (.int .i64 0) := by simp [World.cell?, hX]
            have f0 : Y6.frozen? ⟨g, 0, none⟩ = false := by simp [World.frozen?, hX]
            have s1 : Y6.cell? ⟨g, 1, none⟩ = some (.string ⟨#[]⟩) := by simp [World.cell?, hX]
            have f1 : Y6.frozen? ⟨g, 1, none⟩ = false := by simp [World.frozen?, hX]
            have s2 : Y6.cell? ⟨g, 2, none⟩ = some (.int .i64 0) := by simp [World.cell?, hX]
            have f2 : Y6.frozen? ⟨g, 2, none⟩ = false := by simp [World.frozen?, hX]
            have s3 : Y6.cell? ⟨g, 3, none⟩ = some (.int .i64 0) := by simp [World.cell?, hX]
            have f3 : Y6.frozen? ⟨g, 3, none⟩ = false := by simp [World.frozen?, hX]
            have s4 : Y6.cell? ⟨g, 4, none⟩ = some (.string ⟨#[]⟩) := by simp [World.cell?, hX]
            have f4 : Y6.frozen? ⟨g, 4, none⟩ = false := by simp [World.frozen?, hX]
            have s5 : Y6.cell? ⟨g, 5, none⟩ = some (.slice none 0 0) := by simp [World.cell?, hX]
            have f5 : Y6.frozen? ⟨g, 5, none⟩ = false := by simp [World.frozen?, hX]
            simp [Oper.wp, execOp, Act.eval, Act.put, go_sem, s0, s1, s2, s3, s4, s5, f0, f1, f2, f3, f4, f5]
            have hTw := Tw.made hS hg h1 e1 h2 e2 h3 e3 hX
            obtain ⟨Z, hZ⟩ : ∃ q, st6 Y6 g qy = q := ⟨_, rfl⟩
            rw [hZ] at hTw
            unfold st6 at hZ
            rw [hZ]
            refine ⟨hTw.t, ?_⟩
            try simp only [List.setIfInBounds_toArray, List.set_cons_succ, List.set_cons_zero]
            refine wpAnyH_done (by kernel_rfl) ?_ 0
            exact HREST _ _ _ _ _ _ _ _ _ _ _ _ _ _ _ _ _ _ _ _ _ _ _ _ _ _ _ _ _ _ _ _ _ _ _ _ _ _ _ _ _ _ _ _ _ _ _ _ _ _ _ _ _ _ _ _ _ _ _ _ _ _ _ _ _ _ _ _ _ _ _ _ _ _ _ _ _ _ _ _ _ _ _ _ _ _ _ _ _ _ _ _ _ _ _ _ _ _ _ _ _ _ _ _ _ _ _ _ _ _ _ _ _ _ _ _ _ _ _ _ _ _ _ q1 q2 qy g Z hTw
        · simp [Oper.wp, execOp, Act.eval, Act.put, go_sem]
          have hb : Below Y1.heap.size Y1 (Y1.alloc (.cells #[.int .i64 0, .string ⟨#[]⟩, .int .i64 0, .int .i64 0, .string ⟨#[]⟩, .slice none 0 0] 26)) := (Below.refl _ _).alloc (Nat.le_refl _) _
          have h1 := blk_of hb h1
          have hS := hS.below hb
          have hX : (Y1.alloc (.cells #[.int .i64 0, .string ⟨#[]⟩, .int .i64 0, .int .i64 0, .string ⟨#[]⟩, .slice none 0 0] 26)).heap[Y1.heap.size]? = some (.cells #[.int .i64 0, .string ⟨#[]⟩, .int .i64 0, .int .i64 0, .string ⟨#[]⟩, .slice none 0 0] 26) := World.alloc_heap_new _ _
          have hg : w.heap.size + 1 < Y1.heap.size ∧ sx ≠ Y1.heap.size ∧ qx ≠ Y1.heap.size ∧ bx ≠ Y1.heap.size := ⟨hlt.1, by omega, by omega, by omega⟩
          have e1 : q1 ≠ Y1.heap.size := by have := lt_of_heap h1o; omega
          obtain ⟨Y7, hU⟩ : ∃ q, Y1.alloc (.cells #[.int .i64 0, .string ⟨#[]⟩, .int .i64 0, .int .i64 0, .string ⟨#[]⟩, .slice none 0 0] 26) = q := ⟨_, rfl⟩
          rw [hU] at hS h1 hX ⊢
          clear hU hb
          obtain ⟨g, egg⟩ : ∃ q, Y1.heap.size = q := ⟨_, rfl⟩
          rw [egg] at hX hg e1 ⊢
          clear egg
          have hgl : g < Y7.heap.size := lt_of_heap hX
          refine ⟨hS, ?_⟩
          try simp only [List.setIfInBounds_toArray, List.set_cons_succ, List.set_cons_zero]
          have hlt : w.heap.size + 1 < Y7.heap.size ∧ sx < Y7.heap.size ∧ qx < Y7.heap.size ∧ bx < Y7.heap.size := ⟨lt_of_heap hS.xb, lt_of_heap hS.s, lt_of_heap hS.q, lt_of_heap hS.x⟩
          have h1o := h1
          refine held_call (i := 5) rfl (by kernel_rfl) (by kernel_rfl) ?_
          simp [Oper.wp, execOp, Act.eval, Act.put, go_sem, hen]
          refine (no_any b A2 c2 Y7).mono ?_
          rintro en Y8 ⟨q2, rfl, hq, hl, hb⟩
          have h1 := blk_of hb h1
          have hX := blk_of hb hX
          have hS := hS.below hb
          have h2 := hq
          have e2 : q2 ≠ g := by have := hgl; omega
          have hgl : g < Y8.heap.size := lt_of_heap hX
          clear hb hq hl
          refine ⟨hS, ?_⟩
          try simp only [List.setIfInBounds_toArray, List.set_cons_succ, List.set_cons_zero]
          have hlt : w.heap.size + 1 < Y8.heap.size ∧ sx < Y8.heap.size ∧ qx < Y8.heap.size ∧ bx < Y8.heap.size := ⟨lt_of_heap hS.xb, lt_of_heap hS.s, lt_of_heap hS.q, lt_of_heap hS.x⟩
          have h1o := h1
          have h2o := h2
          refine held_call (i := 6) rfl (by kernel_rfl) (by kernel_rfl) ?_
          simp [Oper.wp, execOp, Act.eval, Act.put, go_sem]
          have hb : Below Y8.heap.size Y8 (Y8.alloc (.cells #[.int .i64 16, .string ⟨#[]⟩, .int .i64 0, .int .i64 0, .string ⟨#[]⟩, .slice (some ⟨q1, 0, none⟩) 1 1, .int .i64 16, .string ⟨#[]⟩, .int .i64 0, .int .i64 0, .string ⟨#[]⟩, .slice (some ⟨q2, 0, none⟩) 1 1] 26)) := (Below.refl _ _).alloc (Nat.le_refl _) _
          have h1 := blk_of hb h1
          have h2 := blk_of hb h2
          have hX := blk_of hb hX
          have hS := hS.below hb
          have h3 : (Y8.alloc (.cells #[.int .i64 16, .string ⟨#[]⟩, .int .i64 0, .int .i64 0, .string ⟨#[]⟩, .slice (some ⟨q1, 0, none⟩) 1 1, .int .i64 16, .string ⟨#[]⟩, .int .i64 0, .int .i64 0, .string ⟨#[]⟩, .slice (some ⟨q2, 0, none⟩) 1 1] 26)).heap[Y8.heap.size]? = some (.cells (xs6 (notX a) (some ⟨q1, 0, none⟩) 1 ++ xs6 (notX b) (some ⟨q2, 0, none⟩) 1).toArray 26) := World.alloc_heap_new _ _
          have e3 : Y8.heap.size ≠ g := by have := hgl; omega
          obtain ⟨Y9, hU⟩ : ∃ q, Y8.alloc (.cells #[.int .i64 16, .string ⟨#[]⟩, .int .i64 0, .int .i64 0, .string ⟨#[]⟩, .slice (some ⟨q1, 0, none⟩) 1 1, .int .i64 16, .string ⟨#[]⟩, .int .i64 0, .int .i64 0, .string ⟨#[]⟩, .slice (some ⟨q2, 0, none⟩) 1 1] 26) = q := ⟨_, rfl⟩
          rw [hU] at hS h1 h2 h3 hX ⊢
          clear hU hb
          obtain ⟨qy, eqy⟩ : ∃ q, Y8.heap.size = q := ⟨_, rfl⟩
          rw [eqy] at h3 e3 ⊢
          clear eqy
          have hgl : g < Y9.heap.size := lt_of_heap hX
          refine ⟨hS, ?_⟩
          try simp only [List.setIfInBounds_toArray, List.set_cons_succ, List.set_cons_zero]
          refine held_take (i := 7) (t := 46) (v := (.agg #[.int .i64 15, .string ⟨#[]⟩, .int .i64 0, .int .i64 0, .string ⟨#[]⟩, .slice (some ⟨qy, 0, none⟩) 2 2])) (fuel := 1) rfl rfl (by kernel_rfl) (by kernel_rfl) (by kernel_rfl) (fun _ _ _ h => h) (.inl ⟨rfl, fun W hW => by simp [execOp, Act.eval, go_sem]⟩) hS ?_
          simp only [List.setIfInBounds_toArray, List.set_cons_succ, List.set_cons_zero]
          have hlt : w.heap.size + 1 < Y9.heap.size ∧ sx < Y9.heap.size ∧ qx < Y9.heap.size ∧ bx < Y9.heap.size := ⟨lt_of_heap hS.xb, lt_of_heap hS.s, lt_of_heap hS.q, lt_of_heap hS.x⟩
          have h1o := h1
          have h2o := h2
          have h3o := h3
          refine held_call (i := 9) rfl (by kernel_rfl) (by kernel_rfl) ?_
          have s0 : Y9.cell? ⟨g, 0, none⟩ = some (.int .i64 0) := by simp [World.cell?, hX]
          have f0 : Y9.frozen? ⟨g, 0, none⟩ = false := by simp [World.frozen?, hX]
          have s1 : Y9.cell? ⟨g, 1, none⟩ = some (.string ⟨#[]⟩) := by simp [World.cell?, hX]
          have f1 : Y9.frozen? ⟨g, 1, none⟩ = false := by simp [World.frozen?, hX]
          have s2 : Y9.cell? ⟨g, 2, none⟩ = some (.int .i64 0) := by simp [World.cell?, hX]
          have f2 : Y9.frozen? ⟨g, 2, none⟩ = false := by simp [World.frozen?, hX]
          have s3 : Y9.cell? ⟨g, 3, none⟩ = some (.int .i64 0) := by simp [World.cell?, hX]
          have f3 : Y9.frozen? ⟨g, 3, none⟩ = false := by simp [World.frozen?, hX]
          have s4 : Y9.cell? ⟨g, 4, none⟩ = some (.string ⟨#[]⟩) := by simp [World.cell?, hX]
          have f4 : Y9.frozen? ⟨g, 4, none⟩ = false := by simp [World.frozen?, hX]
          have s5 : Y9.cell? ⟨g, 5, none⟩ = some (.slice none 0 0) := by simp [World.cell?, hX]
          have f5 : Y9.frozen? ⟨g, 5, none⟩ = false := by simp [World.frozen?, hX]
          simp [Oper.wp, execOp, Act.eval, Act.put, go_sem, s0, s1, s2, s3, s4, s5, f0, f1, f2, f3, f4, f5]
          have hTw := Tw.made hS hg h1 e1 h2 e2 h3 e3 hX
          obtain ⟨Z, hZ⟩ : ∃ q, st6 Y9 g qy = q := ⟨_, rfl⟩
          rw [hZ] at hTw
          unfold st6 at hZ
          rw [hZ]
          refine ⟨hTw.t, ?_⟩
          try simp only [List.setIfInBounds_toArray, List.set_cons_succ, List.set_cons_zero]
          refine wpAnyH_done (by kernel_rfl) ?_ 0
          exact HREST _ _ _ _ _ _ _ _ _ _ _ _ _ _ _ _ _ _ _ _ _ _ _ _ _ _ _ _ _ _ _ _ _ _ _ _ _ _ _ _ _ _ _ _ _ _ _ _ _ _ _ _ _ _ _ _ _ _ _ _ _ _ _ _ _ _ _ _ _ _ _ _ _ _ _ _ _ _ _ _ _ _ _ _ _ _ _ _ _ _ _ _ _ _ _ _ _ _ _ _ _ _ _ _ _ _ _ _ _ _ _ _ _ _ _ _ _ _ _ _ _ _ _ q1 q2 qy g Z hTw
      · simp [Oper.wp, execOp, Act.eval, Act.put, go_sem]
        have hb : Below V1.heap.size V1 (V1.alloc (.cells #[.int .i64 0, .string ⟨#[]⟩, .int .i64 0, .int .i64 0, .string ⟨#[]⟩, .slice none 0 0] 26)) := (Below.refl _ _).alloc (Nat.le_refl _) _
        have hS := hS.below hb
        have hX : (V1.alloc (.cells #[.int .i64 0, .string ⟨#[]⟩, .int .i64 0, .int .i64 0, .string ⟨#[]⟩, .slice none 0 0] 26)).heap[V1.heap.size]? = some (.cells #[.int .i64 0, .string ⟨#[]⟩, .int .i64 0, .int .i64 0, .string ⟨#[]⟩, .slice none 0 0] 26) := World.alloc_heap_new _ _
        have hg : w.heap.size + 1 < V1.heap.size ∧ sx ≠ V1.heap.size ∧ qx ≠ V1.heap.size ∧ bx ≠ V1.heap.size := ⟨hlt.1, by omega, by omega, by omega⟩
        obtain ⟨Y10, hU⟩ : ∃ q, V1.alloc (.cells #[.int .i64 0, .string ⟨#[]⟩, .int .i64 0, .int .i64 0, .string ⟨#[]⟩, .slice none 0 0] 26) = q := ⟨_, rfl⟩
        rw [hU] at hS hX ⊢
        clear hU hb
        obtain ⟨g, egg⟩ : ∃ q, V1.heap.size = q := ⟨_, rfl⟩
        rw [egg] at hX hg  ⊢
        clear egg
        have hgl : g < Y10.heap.size := lt_of_heap hX
        refine ⟨hS, ?_⟩
        try simp only [List.setIfInBounds_toArray, List.set_cons_succ, List.set_cons_zero]
        have hlt : w.heap.size + 1 < Y10.heap.size ∧ sx < Y10.heap.size ∧ qx < Y10.heap.size ∧ bx < Y10.heap.size := ⟨lt_of_heap hS.xb, lt_of_heap hS.s, lt_of_heap hS.q, lt_of_heap hS.x⟩
        refine held_call (i := 2) rfl (by kernel_rfl) (by kernel_rfl) ?_
        simp [Oper.wp, execOp, Act.eval, Act.put, go_sem, hen]
        refine (no_any a A1 c1 Y10).mono ?_
        rintro en Y11 ⟨q1, rfl, hq, hl, hb⟩
        have hX := blk_of hb hX
        have hS := hS.below hb
        have h1 := hq
        have e1 : q1 ≠ g := by have := hgl; omega
        have hgl : g < Y11.heap.size := lt_of_heap hX
        clear hb hq hl
        refine ⟨hS, ?_⟩
        try simp only [List.setIfInBounds_toArray, List.set_cons_succ, List.set_cons_zero]
        have hlt : w.heap.size + 1 < Y11.heap.size ∧ sx < Y11.heap.size ∧ qx < Y11.heap.size ∧ bx < Y11.heap.size := ⟨lt_of_heap hS.xb, lt_of_heap hS.s, lt_of_heap hS.q, lt_of_heap hS.x⟩
        have h1o := h1
        refine held_call (i := 5) rfl (by kernel_rfl) (by kernel_rfl) ?_
        simp [Oper.wp, execOp, Act.eval, Act.put, go_sem, hen]
        refine (no_any b A2 c2 Y11).mono ?_
        rintro en Y12 ⟨q2, rfl, hq, hl, hb⟩
        have h1 := blk_of hb h1
        have hX := blk_of hb hX
        have hS := hS.below hb
        have h2 := hq
        have e2 : q2 ≠ g := by have := hgl; omega
        have hgl : g < Y12.heap.size := lt_of_heap hX
        clear hb hq hl
        refine ⟨hS, ?_⟩
        try simp only [List.setIfInBounds_toArray, List.set_cons_succ, List.set_cons_zero]
        have hlt : w.heap.size + 1 < Y12.heap.size ∧ sx < Y12.heap.size ∧ qx < Y12.heap.size ∧ bx < Y12.heap.size := ⟨lt_of_heap hS.xb, lt_of_heap hS.s, lt_of_heap hS.q, lt_of_heap hS.x⟩
        have h1o := h1
        have h2o := h2
        refine held_call (i := 6) rfl (by kernel_rfl) (by kernel_rfl) ?_
        simp [Oper.wp, execOp, Act.eval, Act.put, go_sem]
        have hb : Below Y12.heap.size Y12 (Y12.alloc (.cells #[.int .i64 16, .string ⟨#[]⟩, .int .i64 0, .int .i64 0, .string ⟨#[]⟩, .slice (some ⟨q1, 0, none⟩) 1 1, .int .i64 16, .string ⟨#[]⟩, .int .i64 0, .int .i64 0, .string ⟨#[]⟩, .slice (some ⟨q2, 0, none⟩) 1 1] 26)) := (Below.refl _ _).alloc (Nat.le_refl _) _
        have h1 := blk_of hb h1
        have h2 := blk_of hb h2
        have hX := blk_of hb hX
        have hS := hS.below hb
        have h3 : (Y12.alloc (.cells #[.int .i64 16, .string ⟨#[]⟩, .int .i64 0, .int .i64 0, .string ⟨#[]⟩, .slice (some ⟨q1, 0, none⟩) 1 1, .int .i64 16, .string ⟨#[]⟩, .int .i64 0, .int .i64 0, .string ⟨#[]⟩, .slice (some ⟨q2, 0, none⟩) 1 1] 26)).heap[Y12.heap.size]? = some (.cells (xs6 (notX a) (some ⟨q1, 0, none⟩) 1 ++ xs6 (notX b) (some ⟨q2, 0, none⟩) 1).toArray 26) := World.alloc_heap_new _ _
        have e3 : Y12.heap.size ≠ g := by have := hgl; omega
        obtain ⟨Y13, hU⟩ : ∃ q, Y12.alloc (.cells #[.int .i64 16, .string ⟨#[]⟩, .int .i64 0, .int .i64 0, .string ⟨#[]⟩, .slice (some ⟨q1, 0, none⟩) 1 1, .int .i64 16, .string ⟨#[]⟩, .int .i64 0, .int .i64 0, .string ⟨#[]⟩, .slice (some ⟨q2, 0, none⟩) 1 1] 26) = q := ⟨_, rfl⟩
        rw [hU] at hS h1 h2 h3 hX ⊢
        clear hU hb
        obtain ⟨qy, eqy⟩ : ∃ q, Y12.heap.size = q := ⟨_, rfl⟩
        rw [eqy] at h3 e3 ⊢
        clear eqy
        have hgl : g < Y13.heap.size := lt_of_heap hX
        refine ⟨hS, ?_⟩
        try simp only [List.setIfInBounds_toArray, List.set_cons_succ, List.set_cons_zero]
        refine held_take (i := 7) (t := 46) (v := (.agg #[.int .i64 15, .string ⟨#[]⟩, .int .i64 0, .int .i64 0, .string ⟨#[]⟩, .slice (some ⟨qy, 0, none⟩) 2 2])) (fuel := 1) rfl rfl (by kernel_rfl) (by kernel_rfl) (by kernel_rfl) (fun _ _ _ h => h) (.inl ⟨rfl, fun W hW => by simp [execOp, Act.eval, go_sem]⟩) hS ?_
        simp only [List.setIfInBounds_toArray, List.set_cons_succ, List.set_cons_zero]
        have hlt : w.heap.size + 1 < Y13.heap.size ∧ sx < Y13.heap.size ∧ qx < Y13.heap.size ∧ bx < Y13.heap.size := ⟨lt_of_heap hS.xb, lt_of_heap hS.s, lt_of_heap hS.q, lt_of_heap hS.x⟩
        have h1o := h1
        have h2o := h2
        have h3o := h3
        refine held_call (i := 9) rfl (by kernel_rfl) (by kernel_rfl) ?_
        have s0 : Y13.cell? ⟨g, 0, none⟩ = some (.int .i64 0) := by simp [World.cell?, hX]
        have f0 : Y13.frozen? ⟨g, 0, none⟩ = false := by simp [World.frozen?, hX]
        have s1 : Y13.cell? ⟨g, 1, none⟩ = some (.string ⟨#[]⟩) := by simp [World.cell?, hX]
        have f1 : Y13.frozen? ⟨g, 1, none⟩ = false := by simp [World.frozen?, hX]
        have s2 : Y13.cell? ⟨g, 2, none⟩ = some (.int .i64 0) := by simp [World.cell?, hX]
        have f2 : Y13.frozen? ⟨g, 2, none⟩ = false := by simp [World.frozen?, hX]
        have s3 : Y13.cell? ⟨g, 3, none⟩ = some (.int .i64 0) := by simp [World.cell?, hX]
        have f3 : Y13.frozen? ⟨g, 3, none⟩ = false := by simp [World.frozen?, hX]
        have s4 : Y13.cell? ⟨g, 4, none⟩ = some (.string ⟨#[]⟩) := by simp [World.cell?, hX]
        have f4 : Y13.frozen? ⟨g, 4, none⟩ = false := by simp [World.frozen?, hX]
        have s5 : Y13.cell? ⟨g, 5, none⟩ = some (.slice none 0 0) := by simp [World.cell?, hX]
        have f5 : Y13.frozen? ⟨g, 5, none⟩ = false := by simp [World.frozen?, hX]
        simp [Oper.wp, execOp, Act.eval, Act.put, go_sem, s0, s1, s2, s3, s4, s5, f0, f1, f2, f3, f4, f5]
        have hTw := Tw.made hS hg h1 e1 h2 e2 h3 e3 hX
        obtain ⟨Z, hZ⟩ : ∃ q, st6 Y13 g qy = q := ⟨_, rfl⟩
        rw [hZ] at hTw
        unfold st6 at hZ
        rw [hZ]
        refine ⟨hTw.t, ?_⟩
        try simp only [List.setIfInBounds_toArray, List.set_cons_succ, List.set_cons_zero]
        refine wpAnyH_done (by kernel_rfl) ?_ 0
        exact HREST _ _ _ _ _ _ _ _ _ _ _ _ _ _ _ _ _ _ _ _ _ _ _ _ _ _ _ _ _ _ _ _ _ _ _ _ _ _ _ _ _ _ _ _ _ _ _ _ _ _ _ _ _ _ _ _ _ _ _ _ _ _ _ _ _ _ _ _ _ _ _ _ _ _ _ _ _ _ _ _ _ _ _ _ _ _ _ _ _ _ _ _ _ _ _ _ _ _ _ _ _ _ _ _ _ _ _ _ _ _ _ _ _ _ _ _ _ _ _ _ _ _ _ q1 q2 qy g Z hTw
end Go.Proofs.YtclcabdekeegdaaGreat
