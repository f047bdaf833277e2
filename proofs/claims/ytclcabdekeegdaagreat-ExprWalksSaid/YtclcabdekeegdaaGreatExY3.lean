/- Layer 13, walked: Cols. -/
import Derived.Test.YtclcabdekeegdaaGreatExY2
import Derived.Test.YtclcabdekeegdaaGreatExC
import Derived.OwnWalkIn
namespace Go.Proofs.YtclcabdekeegdaaGreat
attribute [local go_sem] Oper.semAt_some
open Go Go.ChangeShapes Go.WideShapes Go.ChangeAt Go.RowKit Go.Sort
set_option linter.unusedVariables false
set_option linter.unusedSimpArgs false
/-- The names so far. -/
def cn (pre : List XA) : List (List UInt8) := ((pre.map XA.e).filter fun x => decide (x.op = 1)).map fun x => x.nm.data.toList
theorem cn_all {e : X} {pre : List XA} (h : pre.map XA.e = allX e) : cn pre = colsX e := by unfold cn colsX; rw [h]
theorem cn_yes {pre : List XA} {x : XA} (h : x.e.op = 1) : cn (pre ++ [x]) = cn pre ++ [x.e.nm.data.toList] := by simp [cn, h]
theorem cn_no {pre : List XA} {x : XA} (h : ¬ x.e.op = 1) : cn (pre ++ [x]) = cn pre := by simp [cn, h]
theorem cn_len (pre : List XA) : (cn pre).length ≤ pre.length := by
  unfold cn
  rw [List.length_map]
  exact Nat.le_trans (List.length_filter_le _ _) (by simp)
theorem enc_nm (s : ByteArray) : encStr s.data.toList = .string s := by simp [encStr]
/-- Between two rounds: the box and the names. -/
structure ColI (s bl : Nat) (w : World) (pre : List XA) (U : World) : Prop where
  bel : Below s w U
  row : ∃ v, Boxed U bl 44 v ∧ U.ownsRow (bl + 2) 9 1 v (cn pre).length ((cn pre).map encStr)
  lt : s ≤ bl
theorem row_not_book {W : World} {base : Nat} {e : TypeId} {size k : Nat} {v : Value} {xs : List Value} (h : W.ownsRow base e size v k xs) {r : Nat} {o : Obj} (ho : W.heap[r]? = some o) (hb : bookish o) : v.ownBlock = none ∨ v.ownBlock ≠ some r := by
  rcases h.2 with ⟨rfl, _⟩ | ⟨g, cap, cur, rfl, _, hgb, _⟩
  · exact .inl rfl
  · refine .inr fun e' => ?_
    obtain rfl : g = r := by simpa [Value.ownBlock] using e'
    rw [hgb] at ho
    cases ho
    exact hb
theorem ColI.own {s bl : Nat} {w : World} (hs : s ≤ w.heap.size) : LoopOwn (bl + 2) (ColI s bl w) := fun pre U V row h hg hr => by
  obtain ⟨hB, ⟨v, hv, hrow⟩, hl⟩ := h
  refine ⟨hB.trans (below_of_grown hg (fun r e => by have := (hr r e).1; omega) (Nat.le_trans hs hB.size)), ⟨v, (hg.block bl hv.lt (fun e => by have := (hr bl e.symm).1; omega)).trans hv, ?_⟩, hl⟩
  cases row with
  | none => exact hrow.kept hg (by cases v.ownBlock <;> simp)
  | some r =>
    obtain ⟨_, o, ho, hb⟩ := hr r rfl
    exact hrow.kept hg (row_not_book hrow ho hb)
/-- One name more. -/
theorem col_step {s bl : Nat} {w W w3 : World} {pre : List XA} {x : XA} {v v' : Value} {tmp : Obj} {S : Nat → Prop} (hI : ColI s bl w pre W) (hx : x.e.op = 1) (hbk : ∃ r, Book (bl + 2) r W) (hS : ∀ k, S k → k < s ∨ k = bl + 1)
    (hv : Boxed W bl 44 v) (hrow : W.ownsRow (bl + 2) 9 1 v (cn pre).length ((cn pre).map encStr))
    (hown : w3.ownsRow (bl + 2) 9 1 v' ((cn pre).length + 1) ((cn pre).map encStr ++ [.string x.e.nm])) (hgrow : (W.alloc tmp).grownBy w3 v.ownBlock) :
    Boxed w3 bl 44 v ∧ BookKept (bl + 2) W (w3.setCell ⟨bl, 0, none⟩ v') ∧ Kt (bl + 2 + 2) S 9 W (w3.setCell ⟨bl, 0, none⟩ v') ∧ ColI s bl w (pre ++ [x]) (w3.setCell ⟨bl, 0, none⟩ v') := by
  obtain ⟨r, hbk⟩ := hbk
  have hD := hbk.lt
  have hrowt : ∀ r, v.ownBlock = some r → bl + 2 ≤ r ∧ ∃ d fr, W.heap[r]? = some (.cells d 9 fr) := fun r e => by
    rcases hrow.2 with ⟨rfl, _⟩ | ⟨g, cap, cur, rfl, hb, hgb, _⟩
    · simp [Value.ownBlock] at e
    · obtain rfl : g = r := by simpa [Value.ownBlock] using e
      exact ⟨hb, _, _, hgb⟩
  have hal : ∀ k, k < W.heap.size → (W.alloc tmp).heap[k]? = W.heap[k]? := fun k hk => Below.heap_alloc _ tmp k hk
  have hblk : ∀ k, k < W.heap.size → v.ownBlock ≠ some k → w3.heap[k]? = W.heap[k]? := fun k hk hn =>
    (hgrow.block k (by rw [World.size_alloc]; omega) (fun e => hn e.symm)).trans (hal k hk)
  have hblo : ∀ k, k < W.heap.size → k < bl + 2 → w3.heap[k]? = W.heap[k]? := fun k hk h2 => hblk k hk (fun e => by have := (hrowt k e).1; omega)
  have l0 : bl < W.heap.size := hv.lt
  have b0 : Boxed w3 bl 44 v := (hblo bl l0 (by omega)).trans hv
  have hg1 := grownBy_setCell' w3 bl v'
  have hW' : ∀ k, k ≠ bl → (w3.setCell ⟨bl, 0, none⟩ v').heap[k]? = w3.heap[k]? := fun k hk => Below.heap_setCell _ _ _ k hk
  have hsz : W.heap.size ≤ (w3.setCell ⟨bl, 0, none⟩ v').heap.size := by
    have h1 := hgrow.size
    rw [World.size_alloc] at h1
    have h2 := hg1.size
    omega
  have hbd : ∀ k o, W.heap[k]? = some o → bookish o → k ≠ bl → (w3.setCell ⟨bl, 0, none⟩ v').heap[k]? = W.heap[k]? := fun k o ho hb hk => by
    refine (hW' k hk).trans (hblk k (Array.getElem?_eq_some_iff.1 ho).1 (fun e => ?_))
    obtain ⟨_, d, fr, hd⟩ := hrowt k e
    rw [hd] at ho
    cases ho
    exact hb
  have hos : W.os = (W.alloc tmp).os := rfl
  refine ⟨b0, ⟨hbd _ _ hbk.dfr trivial (by omega), hbd _ _ hbk.rcd trivial (by omega)⟩, ⟨hg1.os.trans hgrow.os, hg1.tape.trans hgrow.tape, hg1.output.trans hgrow.output, hsz, fun k hk hs => ?_⟩, ?_⟩
  · rcases hs with h | ⟨h1, h2⟩
    · have := hI.lt
      rcases hS k h with h3 | h3
      · exact (hW' k (by omega)).trans (hblo k hk (by omega))
      · exact (hW' k (by omega)).trans (hblo k hk (by omega))
    · refine (hW' k (by omega)).trans (hblk k hk (fun e => ?_))
      obtain ⟨_, d, fr, hd⟩ := hrowt k e
      exact h2 _ _ hd
  · have hb1 : Below s W (W.alloc tmp) := (Below.refl s W).alloc (by have := hI.lt; omega) tmp
    refine ⟨hI.bel.trans ((hb1.grown hgrow (by rw [World.size_alloc]; have := hI.lt; omega) (fun k e => by have := (hrowt k e).1; have := hI.lt; omega)).setCell (p := ⟨bl, 0, none⟩) hI.lt v'), ⟨v', b0.set v', ?_⟩, hI.lt⟩
    rw [cn_yes hx, List.length_append, List.map_append]
    have e : [x.e.nm.data.toList].map encStr = [.string x.e.nm] := by simp [enc_nm]
    rw [e]
    exact hown.kept hg1 (.inr fun e => by have := (hown.lt _ e).1; omega)
theorem info_s : (Tryz.prog.info? 9).map (fun i => (i.zero, i.size, i.bytes)) = some (some (.string ⟨#[]⟩), 1, 16) := by kernel_rfl
theorem RowC.put {α : Type} {f : α → List Value} {sz : Nat} {w : World} {B D : Nat} {A : Option Addr} {l : List α} {o : Obj} (h : RowC f sz w B A l) (hd : w.heap[D]? = some o) (ho : bookish o) (o' : Obj) (hf : ∀ a, (f a).length = sz) (hs : 0 < sz) : RowC f sz (w.putObj D o') B A l := by
  intro j hj
  obtain ⟨b, off, h1, h2, h3⟩ := h j hj
  refine ⟨b, off, h1, h2, fun i v hv => ?_⟩
  have h4 := h3 i v hv
  by_cases hb : b = D
  · subst hb
    cases o <;> simp_all [bookish, World.cell?]
  · exact (World.cell?_of_block (w := w) (a := ⟨b, _, none⟩) (World.putObj_heap_other hb)).trans h4
theorem cnt_check {e : X} (h : checkX e = 0) : cnt e ≤ 256 := by
  unfold checkX at h
  split at h
  · cases h
  · omega
def limN : Nat := 256
theorem colR_len (e : X) : (colR e).length ≤ limN := by
  unfold colR limN
  by_cases h : checkX e = 0
  · rw [if_neg (by simp [h]), ← colN_eq]
    have h1 := Lib.compact_length_le (srtS (colsX e))
    rw [srtS_len] at h1
    have h2 : (colsX e).length ≤ (allX e).length := by
      unfold colsX
      rw [List.length_map]
      exact List.length_filter_le _ _
    rw [allX_len] at h2
    have := cnt_check h
    omega
  · rw [if_pos h]; simp
def lim6 : Nat := 1000000
/-- What Cols answers, in memory. -/
def ColsPost (e : X) (w : World) (en : Ending) (w' : World) : Prop := ∃ A2 c2, en = .returned (.slice A2 (colR e).length c2) ∧ RowC eC 1 w' w'.heap.size A2 (colR e) ∧ Below w.heap.size w w'
set_option maxRecDepth 100000 in
set_option maxHeartbeats 16000000 in
theorem cols_any (e : X) (hw : e.wf) (A : Option Addr) (c : Nat) (W : World) (hk : KidsAt W W.heap.size e A c) :
    Calls Tryz.prog 20 #[e.val A c] W (ColsPost e W) := by
  refine (callsIn_wide (n := 8)).1 ?_
  obtain ⟨W0, hW0⟩ : ∃ W0, W.alloc (e.obj A c) = W0 := ⟨_, rfl⟩
  have hbw : Below W.heap.size W W0 := by rw [← hW0]; exact (Below.refl _ W).alloc (Nat.le_refl _) _
  have hq0 : W0.heap[W.heap.size]? = some (e.obj A c) := by rw [← hW0]; exact World.alloc_heap_new W _
  have HCK := Lib.hid (check_any_x e hw A c W0 (KidsAt.more hbw.size (hk.below hbw)))
  have HBW := Lib.hid hbw
  have HQ := Lib.hid hq0
  have HK0 := Lib.hid hk
  obtain ⟨c0, c1, c2, c3, c4, c5⟩ := obj_cells hq0
  have hsz0 : W0.heap.size = W.heap.size + 1 := by rw [← hW0]; simp
  have HSZ := Lib.hid hsz0
  have HWI := Lib.hid (within_any e A c)
  obtain ⟨E, hE⟩ : ∃ E, checkX e = E := ⟨_, rfl⟩
  have HE := Lib.hid hE
  rw [hE] at HCK
  unfold X.val X.obj at HWI
  unfold X.val at HCK ⊢
  clear hk hbw hq0 hE hw hsz0
  unfold X.obj at hW0
  refine callsIn_of_wp_marks Tryz.func20 rfl trivial ?_ rfl
  simp only [Tryz.ntmps20, List.size_toArray, List.length_cons, List.length_nil, Nat.reduceAdd, Nat.reduceSub, Array.replicate_succ, Array.replicate_zero, List.push_toArray, List.append_toArray, List.nil_append, List.cons_append]
  refine wpIn_wide.2 ?_
  by_cases h0 : E = 0
  · subst h0
    go_wp2_with (first
      | (go_at_call 12; go_loud ((refine HCK.out.mono ?_; rintro en w1 ⟨rfl, hb1⟩; have HB1 := Lib.hid (hop0 HBW.out hb1); have hq1 := (hb1.block _ (Array.getElem?_eq_some_iff.1 HQ.out).1).trans HQ.out; clear c0 c1 c2 c3 c4 c5; obtain ⟨c0, c1, c2, c3, c4, c5⟩ := obj_cells hq1; have hl1 := (Array.getElem?_eq_some_iff.1 hq1).1; clear hb1 hq1)))
      | (go_at_call 34; go_loud (refine (HWI.out _).mono ?_; rintro e w2 ⟨rfl, rfl⟩)))
    obtain ⟨bl, hbl⟩ : ∃ bl, w1.heap.size = bl := ⟨_, rfl⟩
    obtain ⟨W4, hW4⟩ : ∃ W4, (w1.alloc (.cells #[.slice none 0 0] 44)).alloc (.cells #[.int .i64 e.op, .string e.nm, .int .i64 e.v.k, .int .i64 e.v.n, .string e.v.s, .slice A e.ks.length c] 26) = W4 := ⟨_, rfl⟩
    have hsz4 : W4.heap.size = bl + 2 := by rw [← hW4, ← hbl]; simp
    have hb4 : Below w1.heap.size w1 W4 := by rw [← hW4]; exact ((Below.refl _ w1).alloc (Nat.le_refl _) _).alloc (by simp) _
    have hq4 : W4.heap[bl + 1]? = some (e.obj A c) := by
      rw [← hW4, ← hbl]
      have := World.alloc_heap_new (w1.alloc (.cells #[.slice none 0 0] 44)) (e.obj A c)
      rwa [World.size_alloc] at this
    have hl4 : Boxed W4 bl 44 (.slice none 0 0) := by
      rw [← hW4, ← hbl]
      exact (Below.heap_alloc _ _ _ (by simp)).trans (World.alloc_heap_new w1 _)
    have hs1 : W.heap.size ≤ bl := by rw [← hbl]; exact HB1.out.size
    have HBW4 := Lib.hid (hop0 HB1.out hb4)
    have HKB : Hid (KidsAt W4 W.heap.size e A c) := Lib.hid (HK0.out.below HBW4.out)
    have HCN := Lib.hid (cnt_check HE.out)
    have HL := Lib.hid (allX_len e)
    have HCR := Lib.hid (show colR e = Lib.compact (srtS (colsX e)) by unfold colR; rw [if_neg (by simp [HE.out]), colN_eq])
    rw [hW4]
    rw [hbl] at *
    clear hW4 hb4 HWI hW0 HBW HQ HSZ HCK HB1 c0 c1 c2 c3 c4 c5 hbl HE
    refine (wpIn_wide (n := 8)).1 ?_
    refine range_nest2 rfl (by omega) (gf := 89) (lb := #[.pointer (some ⟨bl + 1, 0, none⟩)]) (by simp [Act.eval]) trivial (enters_of Tryz.func89 (by kernel_rfl) rfl)
      (encs := XA.enc) (Y := Yx e W.heap.size) (Kp := Kt (W4.heap.size + 2) (fun q => q < W.heap.size ∨ q = bl + 1) 9) (done := fun xs' => xs'.map XA.e = allX e)
      (fun W1 hg hs1 => by
        have h := within_seq e 7 (by decide) W.heap.size (bl + 1) (fun q => q < W.heap.size ∨ q = bl + 1) 9 (by decide) (by decide) A c W1 ((hg.block _ (by omega) (by simp)).trans hq4) (HKB.out.below (below_of_grown hg (fun r e => by cases e) (by omega)))
          (by omega) (fun k hk => .inl hk) (.inr rfl) (fun q hq => by omega)
        rw [hs1] at h
        exact h)
      (fun x => rfl) Kt.trans Kt.grown (fun U o => Kt.put (fun q hq => by omega) rfl (by omega) o)
      (fun pre U => ColI W.heap.size bl W pre U ∧ pre.length ≤ 256)
      (fun _ _ _ => False)
      (by rw [hsz4]; exact (ColI.own (Nat.le_refl _)).and (LoopOwn.pure_ _))
      (fun _ _ _ _ _ h _ _ => h)
      (fun pre => Yx.own (by omega) pre) ?start boxX (fun x U => World.grownBy_alloc U _ none) AtX (fun x U r r' hb => AtX.made hb.lt _) ?a1 ?assign ?body ?done ?stop
    case start =>
      intro W1 hg hs2
      exact ⟨⟨HBW4.out.trans (below_of_grown hg (fun r e => by cases e) (by omega)), ⟨_, (hg.block _ (by omega) (by simp)).trans hl4, World.ownsRow_nil _ _ _ _⟩, hs1⟩, by simp⟩
    case assign =>
      intro l0 x U K hK
      unfold XA.enc X.val
      gi_wp2
      exact hK
    case body =>
      rintro l0 pre x U V2 ⟨hI, hlen⟩ ⟨⟨post, hpre⟩, hkx, hBx⟩ hat hbk
      have hlen2 : (pre ++ [x]).length ≤ 256 := by
        have h1 := HL.out
        rw [hpre] at h1
        have := HCN.out
        simp at h1 ⊢
        omega
      obtain ⟨d0, d1, d2, d3, d4, d5⟩ := obj_cells hat
      have hlt := (Array.getElem?_eq_some_iff.1 hat).1
      obtain ⟨v, hv, hrow⟩ := hI.row
      obtain ⟨Av, cv, rfl⟩ := own_slice hrow
      have v0 := hv.cell
      have hcl := cn_len pre
      rw [hsz4] at hbk ⊢
      have HBK := Lib.hid hbk
      have HI := Lib.hid hI
      have HV := Lib.hid hv
      have HROW := Lib.hid hrow
      have HL2 := Lib.hid hlen2
      have HD := Lib.hid (show bl + 2 ≤ V2.heap.size by obtain ⟨r, h⟩ := hbk; have := h.lt; omega)
      obtain ⟨i0, hi, hz0, hz1, hz2⟩ := info_parts info_s
      have HI0 := Lib.hid hi
      have HZ0 := Lib.hid hz0
      have HZ1 := Lib.hid hz1
      have HZ2 := Lib.hid hz2
      clear hI hpre hkx hBx hat hbk hv hrow hi hz0 hz1 hz2 hlen2
      by_cases hop : x.e.op = 1
      · have q0 : (x.e.op == 1) = true := by simpa using hop
        have HOP := Lib.hid hop
        clear hop
        gi_wp2_with (gi_at_builtin; go_loud ((refine wpListIn_append_own _ rfl _ _ 44 rfl (bl + 2) 9 i0 _ 1 16 Tryz.underlying44 HI0.out HZ0.out HZ1.out HZ2.out rfl (by decide) _ (cn pre).length ((cn pre).map encStr) rfl (HROW.out.alloc _) ⟨V2.heap.size, 0, none⟩ 1 1 [.string x.e.nm] rfl rfl (new_cells V2 [.string x.e.nm] 9) (sCells_one x.e.nm) (by unfold maxLen; omega) (by omega) (by have := HD.out; simp; omega) ?_); intro v' w1 hown' hgrow _; have HSTEP := Lib.hid (col_step (S := fun q => q < W.heap.size ∨ q = bl + 1) HI.out HOP.out HBK.out (fun k h => h) HV.out HROW.out hown' hgrow); have q1 := HSTEP.out.1.cell; have q2 := HSTEP.out.1.frozen; obtain ⟨g', cap', rfl⟩ := ownsRow_succ hown'; clear hown' hgrow))
        obtain ⟨_, h2, h3, h4⟩ := HSTEP.out
        exact ⟨h2, h3, h4, HL2.out⟩
      · have q0 : (x.e.op == 1) = false := by simpa using hop
        have HI2 := Lib.hid (show ColI W.heap.size bl W (pre ++ [x]) V2 from ⟨HI.out.bel, by rw [cn_no hop]; exact HI.out.row, HI.out.lt⟩)
        clear hop
        gi_wp2
        exact ⟨⟨rfl, rfl⟩, Kt.grown (grown_self _), HI2.out, HL2.out⟩
    case done =>
      rintro xs V hxs ⟨hI, hlen⟩ hK
      have hxs2 : xs.map XA.e = allX e := hxs
      obtain ⟨v, hv, hrow⟩ := hI.row
      have hlc := cn_len xs
      rw [cn_all hxs2] at hrow hlc
      obtain ⟨Av, cv, rfl⟩ := own_slice hrow
      have v0 := hv.cell
      have hbv := hv.lt
      rw [hsz4] at hK
      obtain ⟨cl, hcl⟩ : ∃ cl, colsX e = cl := ⟨_, rfl⟩
      rw [hcl] at HCR hrow hlc v0 hv
      have HLC := Lib.hid (show cl.length ≤ lim6 by unfold lim6; omega)
      have HROW := Lib.hid hrow
      have HV := Lib.hid hv
      have HK2 := Lib.hid hK
      have HB2 := Lib.hid hI.bel
      have HS1 := Lib.hid hs1
      clear hI hxs hxs2 hrow hK hlen hcl hv hlc
      rw [hsz4]
      go_wp2_with (first
        | (go_at_call 48; go_loud ((refine (sort_s cl Av cv (bl + 2) V HROW.out (by have := HLC.out; unfold lim6 at this; exact this)).mono ?_; rintro en w2 ⟨rfl, hr2, hb2, hk2⟩; have hv2 := (hb2.block bl (by omega)).trans HV.out; have v1 := (show Boxed w2 bl 44 (.slice Av cl.length cv) from hv2).cell; have HR2 := Lib.hid hr2; have HB3 := Lib.hid (HB2.out.trans (hb2.mono (by have := HS1.out; omega))); have HK3 := Lib.hid ((hk2 _ (Array.getElem?_eq_some_iff.1 HK2.out).1 (fun cs fr h => by rw [HK2.out] at h; cases h)).trans HK2.out); clear hr2 hb2 hk2 hv2)))
        | (go_at_call 49; go_loud ((have HCC := compact_s (srtS cl) Av cv (bl + 2) w2 (by rw [srtS_len]; exact HR2.out) (by have := HLC.out; unfold lim6 at this; rw [srtS_len]; exact this); rw [srtS_len] at HCC; refine HCC.mono ?_; clear HCC; rintro en w3 ⟨rfl, hr3, hb3, hk3⟩; have HR3 := Lib.hid hr3; have HB4 := Lib.hid (HB3.out.trans (hb3.mono (by have := HS1.out; omega))); have HK4 := Lib.hid ((hk3 _ (Array.getElem?_eq_some_iff.1 HK3.out).1 (fun cs fr h => by rw [HK3.out] at h; cases h)).trans HK3.out); clear hr3 hb3 hk3))))
      refine ⟨by simp, .inl ⟨_, _, rfl, run_takeDeferred HK4.out, ?_⟩⟩
      exact ⟨_, results_tmp rfl _ _ _, Av, cv, by rw [HCR.out]; rfl, by rw [HCR.out]; exact (HR3.out.put HK4.out trivial _ eC_length (by decide)).more (by simp [World.putObj]), below_put HB4.out (Nat.le_refl _) (by have := HS1.out; omega) _⟩
    case stop =>
      intro c2 pre V h
      exact h.elim
  · have q0 : (E != 0) = true := by simpa using h0
    have HX := Lib.hid (show colR e = [] by unfold colR; rw [if_pos (by rw [HE.out]; exact h0)])
    clear h0 HWI
    go_wp2_with (go_at_call 12; refine HCK.out.mono ?_; rintro en w1 ⟨rfl, hb1⟩; have HB1 := Lib.hid (hop0 HBW.out hb1); clear hb1)
    exact ⟨_, results_tmp rfl _ _ _, none, 0, by rw [HX.out]; rfl, by rw [HX.out]; exact RowC.nil _ _ _, HB1.out⟩
end Go.Proofs.YtclcabdekeegdaaGreat
