/- Layer 13, walked: clone. -/
import Derived.Test.YtclcabdekeegdaaGreatExZ1
import Derived.Test.YtclcabdekeegdaaGreatExKS
namespace Go.Proofs.YtclcabdekeegdaaGreat
open Go Go.ChangeShapes Go.WideShapes Go.ChangeAt Go.RowKit
set_option linter.unusedVariables false
set_option linter.unusedSimpArgs false
/-- It lies in blocks from B on: where these stay, it stays. -/
def Fresh (B : Nat) (w : World) (e : X) (A : Option Addr) (c : Nat) : Prop := ∀ W : World, w.heap.size ≤ W.heap.size → (∀ k, B ≤ k → k < w.heap.size → W.heap[k]? = w.heap[k]?) → KidsAt W W.heap.size e A c
section
variable {B B' : Nat} {w w' : World} {e : X} {A : Option Addr} {c : Nat}
theorem Fresh.kids (h : Fresh B w e A c) : KidsAt w w.heap.size e A c := h w (Nat.le_refl _) fun _ _ _ => rfl
theorem Fresh.below (h : Fresh B w e A c) (hb : Below w.heap.size w w') : Fresh B w' e A c := fun W hs ha =>
  h W (Nat.le_trans hb.size hs) fun k h1 h2 => (ha k h1 (Nat.lt_of_lt_of_le h2 hb.size)).trans (hb.block k h2)
theorem Fresh.lower (h : Fresh B w e A c) (hB : B' ≤ B) : Fresh B' w e A c := fun W hs ha => h W hs fun k h1 h2 => ha k (Nat.le_trans hB h1) h2
theorem Fresh.move (h : Fresh B w e A c) (hs : w.heap.size ≤ w'.heap.size) (ha : ∀ k, B ≤ k → k < w.heap.size → w'.heap[k]? = w.heap[k]?) : Fresh B w' e A c := fun W h1 h2 =>
  h W (Nat.le_trans hs h1) fun k h3 h4 => (h2 k h3 (Nat.lt_of_lt_of_le h4 hs)).trans (ha k h3 h4)
end
theorem own_move {w W : World} {B : Nat} {E : TypeId} {sz n : Nat} {v : Value} {xs : List Value} (h : w.ownsRow B E sz v n xs) (ha : ∀ k, B ≤ k → k < w.heap.size → W.heap[k]? = w.heap[k]?) : W.ownsRow B E sz v n xs := by
  refine ⟨h.1, h.2.imp id fun ⟨g, cap, cur, h1, h2, h3, h4⟩ => ⟨g, cap, cur, h1, h2, ?_, h4⟩⟩
  exact (ha g h2 (Array.getElem?_eq_some_iff.1 h3).1).trans h3
theorem cnt_kid {o : Int} {n : ByteArray} {v : V} {ks : List X} : (∀ k ∈ ks, cnt k < cnt (.mk o n v ks)) ∧ ks.length < cnt (.mk o n v ks) := by
  have h : ∀ l : List X, (∀ k ∈ l, cnt k ≤ cntL l) ∧ l.length ≤ cntL l := by
    intro l
    induction l with
    | nil => simp [cntL]
    | cons x l ih =>
      simp only [cntL, List.length_cons, List.mem_cons]
      refine ⟨fun k hk => ?_, ?_⟩
      · rcases hk with rfl | hk
        · omega
        · have := ih.1 k hk; omega
      · have := cnt_pos x; omega
  have e : cnt (.mk o n v ks) = 1 + cntL ks := by simp [cnt]; omega
  refine ⟨fun k hk => ?_, ?_⟩
  · have := (h ks).1 k hk; omega
  · have := (h ks).2; omega
/-- Kids so far: those ahead of k are new, the others as they were. -/
def Mid2 (B k : Nat) (w W : World) (m : List XA) : Prop := ∀ j (hj : j < m.length), if j < k then Fresh B W m[j].e m[j].A m[j].c else KidsAt w w.heap.size m[j].e m[j].A m[j].c
theorem Mid2.below {B k : Nat} {w W W' : World} {m : List XA} (h : Mid2 B k w W m) (hb : Below W.heap.size W W') : Mid2 B k w W' m := fun j hj => by
  have := h j hj
  split
  · rename_i h1; rw [if_pos h1] at this; exact this.below hb
  · rename_i h1; rw [if_neg h1] at this; exact this
theorem Mid2.step {B k : Nat} {w W W' : World} {m : List XA} {x : XA} (h : Mid2 B k w W m) (hs : W.heap.size ≤ W'.heap.size) (hk : k < m.length) (ha : ∀ i, B ≤ i → i < W.heap.size → W'.heap[i]? = W.heap[i]?) (hx : Fresh B W' x.e x.A x.c) : Mid2 B (k + 1) w W' (m.set k x) := fun j hj => by
  rw [List.length_set] at hj
  have := h j hj
  by_cases hjk : j = k
  · subst hjk
    rw [if_pos (by omega)]
    simpa using hx
  · rw [List.getElem_set_ne (fun e => hjk e.symm)]
    by_cases h1 : j < k
    · rw [if_pos (by omega)]
      rw [if_pos h1] at this
      exact this.move hs ha
    · rw [if_neg (by omega)]
      rwa [if_neg h1] at this
/-- Six cells of a row. -/
def st6c (W : World) (g k : Nat) (x : XA) : World := (((((W.setCell ⟨g, k * 6, none⟩ (.int .i64 x.e.op)).setCell ⟨g, k * 6 + 1, none⟩ (.string x.e.nm)).setCell ⟨g, k * 6 + 2, none⟩ (.int .i64 x.e.v.k)).setCell ⟨g, k * 6 + 3, none⟩ (.int .i64 x.e.v.n)).setCell ⟨g, k * 6 + 4, none⟩ (.string x.e.v.s)).setCell ⟨g, k * 6 + 5, none⟩ (.slice x.A x.e.ks.length x.c)
theorem st6c_other {W : World} {g k i : Nat} {x : XA} (h : i ≠ g) : (st6c W g k x).heap[i]? = W.heap[i]? := by
  have e : ∀ (U : World) (j : Nat) (v : Value), (U.setCell ⟨g, j, none⟩ v).heap[i]? = U.heap[i]? := fun U j v => Below.heap_setCell _ _ _ _ (by simpa using h)
  unfold st6c
  rw [e, e, e, e, e, e]
theorem st6c_size {W : World} {g k : Nat} {x : XA} : (st6c W g k x).heap.size = W.heap.size := by simp [st6c, World.setCell]
theorem st6c_below {W U : World} {g k B : Nat} {x : XA} (h : Below B W U) (hg : B ≤ g) : Below B W (st6c U g k x) := Below.row (Below.row (Below.row (Below.row (Below.row (Below.row h hg _) hg _) hg _) hg _) hg _) hg _
theorem st6c_own {W : World} {base g n c k : Nat} {l : List XA} {x : XA} (h : W.ownsRow base 26 6 (.slice (some ⟨g, 0, none⟩) n c) n (l.flatMap xaCells)) (hk : k < l.length) :
    (st6c W g k x).ownsRow base 26 6 (.slice (some ⟨g, 0, none⟩) n c) n ((l.set k x).flatMap xaCells) := by
  rw [← flat_set6 x l k hk]
  exact (World.ownsRow.stored (World.ownsRow.stored (World.ownsRow.stored (World.ownsRow.stored (World.ownsRow.stored (World.ownsRow.stored h _ _).1 _ _).1 _ _).1 _ _).1 _ _).1 _ _).1
theorem own_at6 {W : World} {base g n c : Nat} {l : List XA} (h : W.ownsRow base 26 6 (.slice (some ⟨g, 0, none⟩) n c) n (l.flatMap xaCells)) {k : Nat} (hk : k < l.length) :
    W.cell? ⟨g, k * 6, none⟩ = some (.int .i64 l[k].e.op) ∧ W.cell? ⟨g, k * 6 + 1, none⟩ = some (.string l[k].e.nm) ∧ W.cell? ⟨g, k * 6 + 2, none⟩ = some (.int .i64 l[k].e.v.k) ∧ W.cell? ⟨g, k * 6 + 3, none⟩ = some (.int .i64 l[k].e.v.n) ∧ W.cell? ⟨g, k * 6 + 4, none⟩ = some (.string l[k].e.v.s) ∧ W.cell? ⟨g, k * 6 + 5, none⟩ = some (.slice l[k].A l[k].e.ks.length l[k].c) := by
  obtain ⟨_, hr⟩ := RowC.own xa_len (by decide) h
  obtain ⟨b, off, e, hb, hc⟩ := hr k hk
  injection e with e
  injection e with e1 e2 _
  subst e1 e2
  have h0 := hc 0 _ rfl
  have h1 := hc 1 _ rfl
  have h2 := hc 2 _ rfl
  have h3 := hc 3 _ rfl
  have h4 := hc 4 _ rfl
  have h5 := hc 5 _ rfl
  rw [Nat.zero_add] at h0 h1 h2 h3 h4 h5
  exact ⟨h0, h1, h2, h3, h4, h5⟩
def zeroX : Obj := .cells #[.int .i64 0, .string ⟨#[]⟩, .int .i64 0, .int .i64 0, .string ⟨#[]⟩, .slice none 0 0] 26
/-- What clone answers. -/
def ClonePost2 (e : X) (w : World) (en : Ending) (w' : World) : Prop := ∃ A2 c2, en = .returned (e.val A2 c2) ∧ Fresh w.heap.size w' e A2 c2 ∧ Below w.heap.size w w'
set_option maxHeartbeats 8000000 in
set_option maxRecDepth 40000 in
theorem clone_any : ∀ (e : X) (A : Option Addr) (c : Nat) (w : World), cnt e ≤ lim6 → KidsAt w w.heap.size e A c → Calls Tryz.prog 51 #[e.val A c] w (ClonePost2 e w) := by
  refine X.ind ?_
  intro o nm v ks ih A c w hcn hk
  obtain ⟨l, hl, hrow⟩ := kids_row hk
  have hl2 : l.map XA.e = ks := hl
  have hll : l.length = ks.length := by rw [← hl2, List.length_map]
  have hkc := cnt_kid (o := o) (n := nm) (v := v) (ks := ks)
  obtain ⟨W1, hW1⟩ : ∃ W1, (w.alloc ((X.mk o nm v ks).obj A c)).alloc zeroX = W1 := ⟨_, rfl⟩
  have hb1 : Below w.heap.size w W1 := by rw [← hW1]; exact two_boxes _ _ _
  have hq1 : W1.heap[w.heap.size]? = some ((X.mk o nm v ks).obj A c) := by rw [← hW1]; exact (Below.heap_alloc _ _ _ (by simp)).trans (World.alloc_heap_new w _)
  have hz1 : W1.heap[w.heap.size + 1]? = some zeroX := by
    rw [← hW1]
    have := World.alloc_heap_new (w.alloc ((X.mk o nm v ks).obj A c)) zeroX
    rwa [World.size_alloc] at this
  have hsz : W1.heap.size = w.heap.size + 2 := by rw [← hW1]; simp
  have HCL := Lib.hid (xclone_any l ks.length c A W1 hll.symm (by have := hkc.2; unfold lim6 at hcn; omega) ((hrow.row.below hb1).more hb1.size))
  have HIH := Lib.hid (fun k (hk : k ∈ ks) A2 c2 W h => ih k hk A2 c2 W (by have := hkc.1 k hk; omega) h)
  have HL2 := Lib.hid hl2
  have HKD := Lib.hid hrow.kids
  have HQ := Lib.hid hq1
  have HZ := Lib.hid hz1
  have HB1 := Lib.hid hb1
  have HSZ := Lib.hid hsz
  have HLM := Lib.hid (show ks.length ≤ lim6 by have := hkc.2; omega)
  obtain ⟨p0, p1, p2, p3, p4, p5⟩ := obj_cells hq1
  simp only [X.op, X.nm, X.v, X.ks] at p0 p1 p2 p3 p4 p5
  unfold ClonePost2 at HIH
  clear hcn hk hl hl2 hll hrow hkc hb1 hq1 hz1 hsz ih
  unfold X.obj zeroX at hW1
  simp only [X.op, X.nm, X.v, X.ks] at hW1
  unfold X.val at HIH ⊢
  simp only [X.op, X.nm, X.v, X.ks]
  go_enter Tryz.func51, Tryz.ntmps51
  go_wp2_with (go_at_call 103; go_loud ((refine HCL.out.mono ?_; rintro en w2 ⟨A', c', rfl, ho, hb2⟩; have hq2 := (hb2.block _ (lt_of_heap HQ.out)).trans HQ.out; have HZ2 := Lib.hid ((hb2.block _ (lt_of_heap HZ.out)).trans HZ.out); have HQ2 := Lib.hid hq2; have HO2 := Lib.hid ho; have HB2 := Lib.hid (hop0 HB1.out hb2); clear p0 p1 p2 p3 p4 p5; obtain ⟨p0, p1, p2, p3, p4, p5⟩ := obj_cells hq2; simp only [X.op, X.nm, X.v, X.ks] at p0 p1 p2 p3 p4 p5; have f5 : w2.frozen? ⟨w.heap.size, 5, none⟩ = false := (by simp [World.frozen?, hq2, X.obj]); have hlq := lt_of_heap hq2; clear ho hb2 hq2)))
  obtain ⟨W3, hW3⟩ : ∃ q, w2.setCell ⟨w.heap.size, 5, none⟩ (.slice A' ks.length c') = q := ⟨_, rfl⟩
  have hq3 : W3.heap[w.heap.size]? = some ((X.mk o nm v ks).obj A' c') := by rw [← hW3]; exact heap_set HQ2.out _
  have hz3 : W3.heap[w.heap.size + 1]? = some zeroX := by rw [← hW3]; exact (Below.heap_setCell _ _ _ _ (by simp)).trans HZ2.out
  have ho3 : W3.ownsRow (w.heap.size + 2) 26 6 (.slice A' ks.length c') ks.length (l.flatMap xaCells) := by
    rw [← HSZ.out, ← hW3]
    exact own_move HO2.out fun i h1 h2 => Below.heap_setCell _ _ _ _ (by rw [HSZ.out] at h1; simp; omega)
  have hb3 : Below w.heap.size w W3 := by rw [← hW3]; exact HB2.out.setCell (Nat.le_refl _) _
  have HQ3 := Lib.hid hq3
  have HZ3 := Lib.hid hz3
  have HO3 := Lib.hid ho3
  have HB3 := Lib.hid hb3
  have hs3 : w.heap.size + 2 ≤ W3.heap.size := by have := lt_of_heap hz3; omega
  have HS3 := Lib.hid hs3
  rw [hW3]
  clear hW3 hq3 hz3 ho3 hb3 hs3 p0 p1 p2 p3 p4 p5 f5 hlq HO2 HB2 HQ2 HZ2 HCL HQ HZ HB1 HSZ hW1
  go_loopw [12] (fun iv wr => ∃ (k : Nat) (m : List XA), iv = .int .i64 k ∧ k ≤ ks.length ∧ Hid (m.map XA.e = ks) ∧ Hid (wr.ownsRow (w.heap.size + 2) 26 6 (.slice A' ks.length c') ks.length (m.flatMap xaCells)) ∧ Hid (∀ g, (Value.slice A' ks.length c').ownBlock = some g → Mid2 (g + 1) k w wr m) ∧ Hid (Below (w.heap.size + 2) W3 wr)) (fun iv _ => ks.length - (intOf iv).toNat)
  case atStart => exact ⟨0, l, rfl, Nat.zero_le _, HL2, HO3, Lib.hid (fun g _ j hj => by rw [if_neg (by omega)]; exact HKD.out _ (List.getElem_mem hj)), Lib.hid (Below.refl _ _)⟩
  case round =>
    obtain ⟨k, m, rfl, hk, HM, HO, HF, HB⟩ := hrel
    have HBW := Lib.hid (HB3.out.trans (HB.out.mono (by omega)))
    by_cases hlt : k < ks.length
    · have hml : m.length = ks.length := by rw [← HM.out, List.length_map]
      obtain ⟨g, cap, hv, hg1, hg2⟩ := HO.out.form (by omega)
      injection hv with e1 _ e3
      subst e1 e3
      have hkm : k < m.length := by omega
      obtain ⟨c0, c1, c2, c3, c4, c5⟩ := own_at6 HO.out hkm
      have hmem : m[k].e ∈ ks := by rw [← HM.out]; exact List.mem_map.2 ⟨_, List.getElem_mem hkm, rfl⟩
      have HF2 := Lib.hid (HF.out g rfl)
      have hkx := HF2.out k hkm
      rw [if_neg (by omega)] at hkx
      have HIHk := Lib.hid (HIH.out m[k].e hmem m[k].A m[k].c)
      have HME := Lib.hid (show ∀ (x : XA), x.e = m[k].e → (m.set k x).map XA.e = ks from fun x hx => by
        rw [List.map_set, hx, ← HM.out]
        have := List.getElem_map XA.e (h := by simpa using hkm) (l := m) (i := k)
        rw [← this, List.set_getElem_self])
      obtain ⟨x, hx⟩ : ∃ x, m[k] = x := ⟨_, rfl⟩
      rw [hx] at c0 c1 c2 c3 c4 c5 hkx HIHk HME
      have HKX := Lib.hid (fun (U : World) (h : Below wr.heap.size wr U) => KidsAt.more (Nat.le_trans HBW.out.size h.size) (hkx.below (HBW.out.trans (h.mono HBW.out.size))))
      have HKM := Lib.hid hkm
      have i1 : (0 : Int) ≤ (k : Int) := by omega
      have i2 : (k : Int) < (ks.length : Int) := by omega
      have i3 : k + 1 ≤ 9223372036854775807 := by have := HLM.out; unfold lim6 at this; omega
      have hq := (HB.out.block _ (by omega)).trans HQ3.out
      obtain ⟨p0, p1, p2, p3, p4, p5⟩ := obj_cells hq
      simp only [X.op, X.nm, X.v, X.ks] at p0 p1 p2 p3 p4 p5
      have hls := lt_of_heap hq
      clear hml hkm hmem hkx hx hq hlt
      go_wp2
      obtain ⟨U0, hU0⟩ : ∃ q, wr.alloc (.cells #[.int .i64 x.e.op, .string x.e.nm, .int .i64 x.e.v.k, .int .i64 x.e.v.n, .string x.e.v.s, .slice x.A x.e.ks.length x.c] 26) = q := ⟨_, rfl⟩
      have hx0 : U0.heap[wr.heap.size]? = some (x.e.obj x.A x.c) := by rw [← hU0]; exact obj_box _ _ _ _
      have hb0 : Below wr.heap.size wr U0 := by rw [← hU0]; exact (Below.refl _ _).alloc (Nat.le_refl _) _
      obtain ⟨d0, d1, d2, d3, d4, d5⟩ := obj_cells hx0
      have q5 := later_cell hb0 p5
      have HO0 := Lib.hid (own_below HO.out hb0)
      have HB0 := Lib.hid hb0
      have HSU := Lib.hid (show U0.heap.size = wr.heap.size + 1 by rw [← hU0]; simp)
      rw [hU0]
      clear hU0 hx0 hb0 p0 p1 p2 p3 p4 p5 hls c0 c1 c2 c3 c4 c5
      have hS : Below U0.heap.size U0 U0.drew := (Below.refl _ _).drew
      refine till_begin 7 6 (fun W => Below U0.heap.size U0 W) rfl (by kernel_rfl) ?_
      refine till_take (i := 0) (t := 17) (v := (.pointer (some ⟨w.heap.size, 5, none⟩))) (fuel := 6) rfl rfl (by kernel_rfl) (by kernel_rfl) (by kernel_rfl) (by kernel_rfl) (fun _ _ _ h => h) (.inl ⟨rfl, fun W hW => by simp [execOp, Act.eval, go_sem]⟩) hS ?_
      simp only [List.setIfInBounds_toArray, List.set_cons_succ, List.set_cons_zero]
      refine till_take (i := 1) (t := 18) (v := (.slice (some ⟨g, 0, none⟩) ks.length c')) (fuel := 5) rfl rfl (by kernel_rfl) (by kernel_rfl) (by kernel_rfl) (by kernel_rfl) (fun _ _ _ h => h) (.inl ⟨rfl, fun W hW => by simp [execOp, Act.eval, go_sem, later_cell hW q5]⟩) hS ?_
      simp only [List.setIfInBounds_toArray, List.set_cons_succ, List.set_cons_zero]
      refine till_take (i := 2) (t := 19) (v := (.int .i64 (k : Int))) (fuel := 4) rfl rfl (by kernel_rfl) (by kernel_rfl) (by kernel_rfl) (by kernel_rfl) (fun _ _ _ h => h) (.inl ⟨rfl, fun W hW => by simp [execOp, Act.eval, go_sem]⟩) hS ?_
      simp only [List.setIfInBounds_toArray, List.set_cons_succ, List.set_cons_zero]
      refine till_take (i := 3) (t := 20) (v := (.agg #[.int .i64 x.e.op, .string x.e.nm, .int .i64 x.e.v.k, .int .i64 x.e.v.n, .string x.e.v.s, .slice x.A x.e.ks.length x.c])) (fuel := 3) rfl rfl (by kernel_rfl) (by kernel_rfl) (by kernel_rfl) (by kernel_rfl) (fun _ _ _ h => h) (.inl ⟨rfl, fun W hW => by simp [execOp, Act.eval, go_sem, later_cell hW d0, later_cell hW d1, later_cell hW d2, later_cell hW d3, later_cell hW d4, later_cell hW d5]⟩) hS ?_
      simp only [List.setIfInBounds_toArray, List.set_cons_succ, List.set_cons_zero]
      refine till_one (i := 4) rfl (by kernel_rfl) (by kernel_rfl) ?_
      simp [Oper.wp, execOp, Act.eval, Act.put, go_sem]
      refine (HIHk.out _ (HKX.out _ (hop0 HB0.out hS))).mono ?_
      rintro en w4 ⟨A2, c2, rfl, hf4, hb4⟩
      have hfr : Fresh U0.heap.size w4 x.e A2 c2 := hf4
      have hS : Below U0.heap.size U0 w4 := hop0 hS hb4
      refine ⟨hS, ?_⟩
      try simp only [List.setIfInBounds_toArray, List.set_cons_succ, List.set_cons_zero]
      refine till_take (i := 5) (t := 22) (v := (.pointer (some ⟨g, k * 6, none⟩))) (fuel := 1) rfl rfl (by kernel_rfl) (by kernel_rfl) (by kernel_rfl) (by kernel_rfl) (fun _ _ _ h => h) (.inl ⟨rfl, fun W hW => by simp [execOp, Act.eval, go_sem, i1, i2]⟩) hS ?_
      simp only [List.setIfInBounds_toArray, List.set_cons_succ, List.set_cons_zero]
      refine till_one (i := 6) rfl (by kernel_rfl) (by kernel_rfl) ?_
      have HO4 := Lib.hid (own_below HO0.out hS)
      obtain ⟨e0, e1, e2, e3, e4, e5⟩ := own_at6 HO4.out HKM.out
      have z0 := HO4.out.frozenAt (k * 6); have z1 := HO4.out.frozenAt (k * 6 + 1); have z2 := HO4.out.frozenAt (k * 6 + 2); have z3 := HO4.out.frozenAt (k * 6 + 3); have z4 := HO4.out.frozenAt (k * 6 + 4); have z5 := HO4.out.frozenAt (k * 6 + 5)
      simp [Oper.wp, execOp, Act.eval, Act.put, go_sem, e0, e1, e2, e3, e4, e5, z0, z1, z2, z3, z4, z5]
      refine till_done (by kernel_rfl) ?_
      have HN1 := Lib.hid (st6c_own (x := ⟨x.e, A2, c2⟩) HO4.out HKM.out)
      have hgU : g + 1 ≤ U0.heap.size := by have := HSU.out; omega
      have hmv : ∀ i, g + 1 ≤ i → i < w4.heap.size → (st6c w4 g k ⟨x.e, A2, c2⟩).heap[i]? = w4.heap[i]? := fun i h1 h2 => st6c_other (by omega)
      have HN2 := Lib.hid (Mid2.step (x := ⟨x.e, A2, c2⟩) (HF2.out.below (hop0 HB0.out hS)) (by rw [st6c_size]; exact Nat.le_refl _) HKM.out hmv ((hfr.lower hgU).move (by rw [st6c_size]; exact Nat.le_refl _) hmv))
      have HN3 := Lib.hid (st6c_below (g := g) (k := k) (x := ⟨x.e, A2, c2⟩) (HB.out.trans ((hop0 HB0.out hS).mono (by have := HB.out.size; have := HS3.out; omega))) hg1)
      have HN4 := Lib.hid (HME.out ⟨x.e, A2, c2⟩ rfl)
      clear hS hgU hmv e0 e1 e2 e3 e4 e5 z0 z1 z2 z3 z4 z5 d0 d1 d2 d3 d4 d5 q5 hfr hf4 hb4
      go_wp2
      go_roundw
      case rel => exact ⟨k + 1, m.set k ⟨x.e, A2, c2⟩, by go_num, by omega, HN4, HN1, Lib.hid (fun g' hg' => by obtain rfl : g = g' := (by simpa [Value.ownBlock] using hg'); exact HN2.out), HN3⟩
      case measure => simp [intOf]; omega
    · have hq := (HB.out.block _ (by omega)).trans HQ3.out
      have hz := (HB.out.block _ (by omega)).trans HZ3.out
      obtain ⟨p0, p1, p2, p3, p4, p5⟩ := obj_cells hq
      simp only [X.op, X.nm, X.v, X.ks] at p0 p1 p2 p3 p4 p5
      have hls := lt_of_heap hq
      have hlz := lt_of_heap hz
      have e0 : wr.cell? ⟨w.heap.size + 1, 0, none⟩ = some (.int .i64 0) := by simp [World.cell?, hz, zeroX]
      have e1 : wr.cell? ⟨w.heap.size + 1, 1, none⟩ = some (.string ⟨#[]⟩) := by simp [World.cell?, hz, zeroX]
      have e2 : wr.cell? ⟨w.heap.size + 1, 2, none⟩ = some (.int .i64 0) := by simp [World.cell?, hz, zeroX]
      have e3 : wr.cell? ⟨w.heap.size + 1, 3, none⟩ = some (.int .i64 0) := by simp [World.cell?, hz, zeroX]
      have e4 : wr.cell? ⟨w.heap.size + 1, 4, none⟩ = some (.string ⟨#[]⟩) := by simp [World.cell?, hz, zeroX]
      have e5 : wr.cell? ⟨w.heap.size + 1, 5, none⟩ = some (.slice none 0 0) := by simp [World.cell?, hz, zeroX]
      have z0 : wr.frozen? ⟨w.heap.size + 1, 0, none⟩ = false := by simp [World.frozen?, hz, zeroX]
      have z1 : wr.frozen? ⟨w.heap.size + 1, 1, none⟩ = false := by simp [World.frozen?, hz, zeroX]
      have z2 : wr.frozen? ⟨w.heap.size + 1, 2, none⟩ = false := by simp [World.frozen?, hz, zeroX]
      have z3 : wr.frozen? ⟨w.heap.size + 1, 3, none⟩ = false := by simp [World.frozen?, hz, zeroX]
      have z4 : wr.frozen? ⟨w.heap.size + 1, 4, none⟩ = false := by simp [World.frozen?, hz, zeroX]
      have z5 : wr.frozen? ⟨w.heap.size + 1, 5, none⟩ = false := by simp [World.frozen?, hz, zeroX]
      have HZ5 := Lib.hid hz
      have HK := Lib.hid (show k = ks.length by omega)
      have HF5 := Lib.hid (show Fresh w.heap.size (st6c wr (w.heap.size + 1) 0 ⟨.mk o nm v ks, A', c'⟩) (.mk o nm v ks) A' c' from fun W5 hs5 ha5 => by
        have hoth : ∀ i, w.heap.size + 2 ≤ i → i < wr.heap.size → W5.heap[i]? = wr.heap[i]? := fun i h1 h2 =>
          (ha5 i (by omega) (by rw [st6c_size]; exact h2)).trans (st6c_other (by omega))
        have hcap := own_cap HO.out
        have ho5 := own_move HO.out hoth
        refine row_kids (XRow.own ho5 fun y hy => ?_).2 HM.out hcap.1 hcap.2
        obtain ⟨j, hj, rfl⟩ := List.mem_iff_getElem.1 hy
        have hml : m.length = ks.length := by rw [← HM.out, List.length_map]
        obtain ⟨g, cap, hv, hg1, hg2⟩ := HO.out.form (by omega)
        have h2 := HF.out g (by rw [hv]; rfl) j hj
        rw [if_pos (by have := HK.out; omega)] at h2
        exact h2 W5 (by rw [st6c_size] at hs5; exact hs5) fun i h3 h4 => hoth i (by omega) h4)
      clear hq hz hk
      go_wp2
      exact bodyPost_ret (ret_row6 rfl (by rfl) (heap_set (heap_set (heap_set (heap_set (heap_set (heap_set HZ5.out _) _) _) _) _) _)) rfl ⟨A', c', rfl, HF5.out, st6c_below (k := 0) (x := ⟨.mk o nm v ks, A', c'⟩) HBW.out (Nat.le_succ _)⟩
end Go.Proofs.YtclcabdekeegdaaGreat
