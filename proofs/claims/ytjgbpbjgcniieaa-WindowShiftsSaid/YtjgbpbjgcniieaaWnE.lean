/- Layer 14, walked: Of. -/
import Derived.Test.YtjgbpbjgcniieaaWnD
import Derived.Shelf.Abstract
namespace Go.Proofs.Ytjgbpbjgcniieaa
attribute [local go_sem] Oper.semAt_some
open Go Go.ChangeShapes Go.WideShapes Go.ChangeAt Go.RowKit
set_option linter.unusedVariables false
set_option linter.unusedSimpArgs false
def iC (x : Int) : List Value := [.int .i64 x]
theorem iC_length (x : Int) : (iC x).length = 1 := rfl
theorem iC_one (x : Int) : ∀ u ∈ iC x, u.oneCell' = true := by simp [iC, Value.oneCell']
theorem info_i : (Try.prog.info? 2).map (fun i => (i.zero, i.size, i.bytes)) = some (some (.int .i64 0), 1, 8) := by kernel_rfl
/-- The windows so far. -/
def PreW (t size slide : Int) (pre : List Int) : Prop := pre = (List.range pre.length).map (winS t size slide)
theorem PreW.more {t size slide : Int} {pre : List Int} {x : Int} {U : World} (h : PreW t size slide pre) (hx : Yn t size slide pre x U) : PreW t size slide (pre ++ [x]) := by
  unfold PreW at h ⊢
  rw [List.length_append, List.length_singleton, List.range_succ, List.map_append, ← h, hx.2]
  rfl
theorem PreW.all {t size slide : Int} {pre : List Int} (h : PreW t size slide pre) (hn : pre.length = winN t size slide) : pre = winO t size slide := by
  rw [winO_is, ← hn]; exact h
/-- Between two rounds: the box and the windows. -/
structure OfI (s bl D : Nat) (w : World) (pre : List Int) (U : World) : Prop where
  bel : Below s w U
  row : ∃ v, Boxed U bl 23 v ∧ U.ownsRow D 2 1 v pre.length (pre.flatMap iC)
  lt : s ≤ bl
  lb : bl < D
theorem OfI.own {s bl D : Nat} {w : World} (hs : s ≤ w.heap.size) : LoopOwn D (OfI s bl D w) := fun pre U V row h hg hr => by
  obtain ⟨hB, ⟨v, hv, hrow⟩, hl, hb⟩ := h
  refine ⟨hB.trans (below_of_grown hg (fun r e => by have := (hr r e).1; omega) (Nat.le_trans hs hB.size)), ⟨v, (hg.block bl hv.lt (fun e => by have := (hr bl e.symm).1; omega)).trans hv, ?_⟩, hl, hb⟩
  cases row with
  | none => exact hrow.kept hg (by cases v.ownBlock <;> simp)
  | some r =>
    obtain ⟨_, o, ho, hb⟩ := hr r rfl
    exact hrow.kept hg (row_not_book hrow ho hb)
/-- One window more. -/
theorem of_step {s bl D : Nat} {w W w3 : World} {pre : List Int} {x : Int} {v v' : Value} {tmp : Obj} (hI : OfI s bl D w pre W) (hbk : ∃ r, Book D r W)
    (hv : Boxed W bl 23 v) (hrow : W.ownsRow D 2 1 v pre.length (pre.flatMap iC))
    (hown : w3.ownsRow D 2 1 v' (pre.length + 1) (pre.flatMap iC ++ [.int .i64 x])) (hgrow : (W.alloc tmp).grownBy w3 v.ownBlock) :
    Boxed w3 bl 23 v ∧ BookKept D W (w3.setCell ⟨bl, 0, none⟩ v') ∧ Ks (fun q => bl < q ∧ q < D) W (w3.setCell ⟨bl, 0, none⟩ v') ∧ OfI s bl D w (pre ++ [x]) (w3.setCell ⟨bl, 0, none⟩ v') := by
  obtain ⟨r, hbk⟩ := hbk
  have hD := hbk.lt
  have hbD := hI.lb
  have hrowt : ∀ r, v.ownBlock = some r → D ≤ r ∧ ∃ d fr, W.heap[r]? = some (.cells d 2 fr) := fun r e => by
    rcases hrow.2 with ⟨rfl, _⟩ | ⟨g, cap, cur, rfl, hb, hgb, _⟩
    · simp [Value.ownBlock] at e
    · obtain rfl : g = r := by simpa [Value.ownBlock] using e
      exact ⟨hb, _, _, hgb⟩
  have hal : ∀ k, k < W.heap.size → (W.alloc tmp).heap[k]? = W.heap[k]? := fun k hk => Below.heap_alloc _ tmp k hk
  have hblk : ∀ k, k < W.heap.size → v.ownBlock ≠ some k → w3.heap[k]? = W.heap[k]? := fun k hk hn =>
    (hgrow.block k (by rw [World.size_alloc]; omega) (fun e => hn e.symm)).trans (hal k hk)
  have hblo : ∀ k, k < W.heap.size → k < D → w3.heap[k]? = W.heap[k]? := fun k hk h2 => hblk k hk (fun e => by have := (hrowt k e).1; omega)
  have l0 : bl < W.heap.size := hv.lt
  have b0 : Boxed w3 bl 23 v := (hblo bl l0 (by omega)).trans hv
  have hg1 := grownBy_setCell' w3 bl v'
  have hW' : ∀ k, k ≠ bl → (w3.setCell ⟨bl, 0, none⟩ v').heap[k]? = w3.heap[k]? := fun k hk => Below.heap_setCell _ _ _ k hk
  have hsz : W.heap.size ≤ (w3.setCell ⟨bl, 0, none⟩ v').heap.size := by
    have h1 := hgrow.size
    rw [World.size_alloc] at h1
    have h2 := hg1.size
    omega
  have hbd : ∀ k o, W.heap[k]? = some o → bookish o → k ≠ bl → (w3.setCell ⟨bl, 0, none⟩ v').heap[k]? = W.heap[k]? := fun k o ho hb hk => by
    refine (hW' k hk).trans (hblk k (Array.getElem?_eq_some_iff.1 ho).1 (fun e => ?_))
    obtain ⟨_, d, fr, hd⟩ := hrowt k e
    rw [hd] at ho
    cases ho
    exact hb
  refine ⟨b0, ⟨hbd _ _ hbk.dfr trivial (by omega), hbd _ _ hbk.rcd trivial (by omega)⟩, ⟨hsz, fun k hs hk => (hW' k (by omega)).trans (hblo k hk hs.2)⟩, ?_⟩
  have hb1 : Below s W (W.alloc tmp) := (Below.refl s W).alloc (by have := hI.lt; omega) tmp
  refine ⟨hI.bel.trans ((hb1.grown hgrow (by rw [World.size_alloc]; have := hI.lt; omega) (fun k e => by have := (hrowt k e).1; have := hI.lt; omega)).setCell (p := ⟨bl, 0, none⟩) hI.lt v'), ⟨v', b0.set v', ?_⟩, hI.lt, hI.lb⟩
  rw [List.length_append, List.flatMap_append]
  exact hown.kept hg1 (.inr fun e => by have := (hown.lt _ e).1; omega)
/-- What Of answers, in memory. -/
def OfPost (t size slide : Int) (w : World) (en : Ending) (w' : World) : Prop :=
  ∃ A c, en = .returned (.tuple #[.slice A (winN t size slide) c, .int .i64 (winE t size slide)]) ∧ RowC iC 1 w' w'.heap.size A (winO t size slide) ∧ Below w.heap.size w w'
set_option maxRecDepth 100000 in
set_option maxHeartbeats 4000000 in
theorem of_any (t size slide : Int) (ht : In64 t) (hz : In64 size) (hs : In64 slide) (w : World) :
    Calls Try.prog 8 #[.int .i64 t, .int .i64 size, .int .i64 slide] w (OfPost t size slide w) := by
  refine (callsIn_wide (n := 8)).1 ?_
  have HF := Lib.hid (fun W => fits_any t size slide ht hz hs W)
  have HA := Lib.hid (fun W => all_any t size slide W)
  have HSQ := Lib.hid (fun (b : Nat) (S : Nat → Prop) (hS : ∀ k, b ≤ k → k ≤ b + 2 → S k) (W : World) (hB : Bx b t size slide W) => all_seq 7 (by decide) t size slide ht hz hs b S hS W hB)
  obtain ⟨E, hE⟩ : ∃ E, winE t size slide = E := ⟨_, rfl⟩
  have HE := Lib.hid hE
  rw [hE] at HF
  clear ht hz hs hE
  refine callsIn_of_wp_marks Try.func8 rfl trivial ?_ rfl
  simp only [Try.ntmps8, List.size_toArray, List.length_cons, List.length_nil, Nat.reduceAdd, Nat.reduceSub, Array.replicate_succ, Array.replicate_zero, List.push_toArray, List.append_toArray, List.nil_append, List.cons_append]
  refine wpIn_wide.2 ?_
  by_cases h0 : E = 0
  · subst h0
    go_wp2_with (first
      | (go_at_call 15; go_loud (refine (HF.out _).mono ?_; rintro en w1 ⟨rfl, rfl⟩))
      | (go_at_call 14; go_loud (refine (HA.out _).mono ?_; rintro en w4 ⟨rfl, hbx, hb4⟩; have HBX := Lib.hid hbx; have HB4 := Lib.hid hb4; clear hbx hb4)))
    have hbl : Boxed w4 w.heap.size 23 (.slice none 0 0) := (HB4.out.block _ (by simp)).trans (World.alloc_heap_new w _)
    have hbw : Below w.heap.size w w4 := hop0 ((Below.refl _ _).alloc (Nat.le_refl _) _) HB4.out
    have hbx : Bx (w.heap.size + 1) t size slide w4 := by have := HBX.out; rwa [World.size_alloc] at this
    have hlx := hbx.lt
    have HBL := Lib.hid hbl
    have HBW := Lib.hid hbw
    have HBX2 := Lib.hid hbx
    obtain ⟨D, hD⟩ : ∃ D, w4.heap.size = D := ⟨_, rfl⟩
    have HD := Lib.hid hD
    rw [hD] at hlx
    clear HBX HB4 HF HA hbl hbw hbx
    refine (wpIn_wide (n := 8)).1 ?_
    refine range_nest2 rfl (by omega) (gf := 17) (lb := #[.pointer (some ⟨w.heap.size + 1, 0, none⟩), .pointer (some ⟨w.heap.size + 1 + 1, 0, none⟩), .pointer (some ⟨w.heap.size + 1 + 2, 0, none⟩)]) (by simp [Act.eval]) trivial (enters_of Try.func17 (by kernel_rfl) rfl)
      (encs := encI) (Y := Yn t size slide) (Kp := Ks (fun q => w.heap.size < q ∧ q < w4.heap.size)) (done := fun xs => xs.length = winN t size slide)
      (fun W1 hg hs1 => HSQ.out _ _ (fun k h1 h2 => ⟨by omega, by rw [hD]; omega⟩) W1 (HBX2.out.stay fun k h1 h2 h3 => hg.block k h3 (by simp)))
      (fun x => rfl) Ks.trans Ks.grown (fun U o => Ks.put (fun h => by omega) o)
      (fun pre U => OfI w.heap.size w.heap.size w4.heap.size w pre U ∧ PreW t size slide pre)
      (fun _ _ _ => False)
      ((OfI.own (Nat.le_refl _)).and (LoopOwn.pure_ _))
      (fun _ _ _ _ _ h _ _ => h)
      (fun pre => Yn.own pre) ?start (fun _ U => U) (fun x U => ⟨rfl, rfl, rfl, Nat.le_refl _, fun _ _ _ => rfl⟩) (fun _ _ _ => True) (fun x U r r' hb => trivial) ?a1 ?assign ?body ?done ?stop
    case start =>
      intro W1 hg hs2
      exact ⟨⟨HBW.out.trans (below_of_grown hg (fun r e => by cases e) (by omega)), ⟨_, (hg.block _ (by omega) (by simp)).trans HBL.out, World.ownsRow_nil _ _ _ _⟩, Nat.le_refl _, by omega⟩, rfl⟩
    case assign =>
      intro l0 x U K hK
      gi_wp2
      exact hK
    case body =>
      rintro l0 pre x U V2 ⟨hI, hpre⟩ hy _ hbk
      have hpre2 := hpre.more hy
      have hlen : pre.length < lim64 := by have := hy.1; have := winN_le t size slide; unfold lim64; omega
      obtain ⟨v, hv, hrow⟩ := hI.row
      obtain ⟨Av, cv, rfl⟩ := own_slice hrow
      have v0 := hv.cell
      have HBK := Lib.hid hbk
      have HI := Lib.hid hI
      have HV := Lib.hid hv
      have HROW := Lib.hid hrow
      have HP2 := Lib.hid hpre2
      have HLN := Lib.hid hlen
      have HDV := Lib.hid (show w4.heap.size ≤ V2.heap.size by obtain ⟨r, h⟩ := hbk; have := h.lt; omega)
      have hvl := hv.lt
      obtain ⟨i0, hi, hz0, hz1, hz2⟩ := info_parts info_i
      have HI0 := Lib.hid hi
      have HZ0 := Lib.hid hz0
      have HZ1 := Lib.hid hz1
      have HZ2 := Lib.hid hz2
      clear hI hpre hpre2 hy hbk hv hrow hi hz0 hz1 hz2 hlen hlx hD
      gi_wp2_with (gi_at_builtin; go_loud ((refine wpListIn_append_own _ rfl _ _ 23 rfl w4.heap.size 2 i0 _ 1 8 Try.underlying23 HI0.out HZ0.out HZ1.out HZ2.out rfl (by decide) _ pre.length (pre.flatMap iC) rfl (HROW.out.alloc _) ⟨V2.heap.size, 0, none⟩ 1 1 [.int .i64 x] rfl rfl (new_cells V2 [.int .i64 x] 2) (iC_one x) (by have := HLN.out; unfold lim64 at this; unfold maxLen; omega) (by have := HLN.out; unfold lim64 at this; omega) (by have := HDV.out; simp; omega) ?_); intro v' w1 hown' hgrow _; have HSTEP := Lib.hid (of_step HI.out HBK.out HV.out HROW.out hown' hgrow); have q1 := HSTEP.out.1.cell; have q2 := HSTEP.out.1.frozen; obtain ⟨g', cap', rfl⟩ := ownsRow_succ hown'; clear hown' hgrow))
      obtain ⟨_, h2, h3, h4⟩ := HSTEP.out
      exact ⟨h2, h3, h4, HP2.out⟩
    case done =>
      rintro xs V hxs ⟨hI, hpre⟩ hK
      have hxl : xs.length = winN t size slide := hxs
      have HXS := Lib.hid (hpre.all hxl)
      have HXL := Lib.hid hxl
      obtain ⟨v, hv, hrow⟩ := hI.row
      obtain ⟨Av, cv, rfl⟩ := own_slice hrow
      have v0 := hv.cell
      have hbv := hv.lt
      have HROW := Lib.hid hrow
      have HK2 := Lib.hid hK
      have HB2 := Lib.hid hI.bel
      clear hI hxs hxl hrow hK hv hpre
      go_wp2
      refine ⟨by simp, .inl ⟨_, _, rfl, run_takeDeferred HK2.out, ?_⟩⟩
      have hr := (RowC.own iC_length (by decide) HROW.out).2
      rw [HXS.out] at hr
      exact ⟨_, results_tmp2 rfl _ _ _, Av, cv, by rw [HE.out, ← HXL.out]; rfl, (hr.put HK2.out trivial _ iC_length (by decide)).more (by simp [World.putObj]), below_put HB2.out (Nat.le_refl _) (by omega) _⟩
    case stop =>
      intro c2 pre V h
      exact h.elim
  · have q0 : (E != 0) = true := by simpa using h0
    have HX := Lib.hid (show winN t size slide = 0 by unfold winN; rw [if_neg (by rw [HE.out]; exact h0)])
    have HO := Lib.hid (show winO t size slide = [] by unfold winO; rw [if_pos (by rw [HE.out]; exact h0)])
    clear h0 HSQ HA
    go_wp2_with (go_at_call 15; go_loud (refine (HF.out _).mono ?_; rintro en w1 ⟨rfl, rfl⟩))
    exact ⟨_, results_tmp2 rfl _ _ _, none, 0, by rw [HX.out, HE.out]; rfl, by rw [HO.out]; exact RowC.nil _ _ _, Below.refl _ _⟩
end Go.Proofs.Ytjgbpbjgcniieaa
