/- The walk of Tiles. -/
import Derived.Test.YtceoneigflejeaaOffS
namespace Go.Proofs.Ytceoneigflejeaa
attribute [local go_sem] Oper.semAt_some
open Go.ChangeShapes Go.WideShapes Go.ChangeAt Go.RowKit Go.Shelf
set_option linter.unusedVariables false

theorem infoRs : (Try.prog.info? 22).map (fun i => (i.zero, i.size, i.bytes)) = some (some (Value.slice none 0 0), 1, 24) := by kernel_rfl
theorem tile_first {rs : List Rs} (h0 : 0 < rs.length) (h : rs[0].l.length < 1 ∨ 4 < rs[0].l.length) : tileB (lsOf rs) = false := by
  refine tile_at (k := 0) (by rw [lsOf_len]; exact h0) ?_
  rw [lsOf_get h0]
  exact fol_no2 (right_none h)
theorem tiles_pre {st : Rs} {rs : List Rs} (h0 : 0 < rs.length) (hst : st.l = List.replicate ((lsOf rs).getD 0 []).length noRg) {pre : List (Rs × Rs)} {x y : Rs} (h : TileTo (lsOf rs) pre.length) (hx : NextIn (aheadS st rs) rs pre (x, y)) (e : folB x.l y.l = true) :
    TileTo (lsOf rs) (pre ++ [(x, y)]).length := by
  obtain ⟨h1, h2, he⟩ := hx
  injection he with hx hy
  rw [List.length_append]
  refine h.next ?_
  rw [lsOf_get h2, ← hy, ← aheadS_get hst h1 h2, ← hx]
  exact e
theorem tiles_not {st : Rs} {rs : List Rs} (h0 : 0 < rs.length) (hst : st.l = List.replicate ((lsOf rs).getD 0 []).length noRg) {pre : List (Rs × Rs)} {x y : Rs} (hx : NextIn (aheadS st rs) rs pre (x, y)) (e : folB x.l y.l = false) : tileB (lsOf rs) = false := by
  obtain ⟨h1, h2, he⟩ := hx
  injection he with hx hy
  refine tile_at (k := pre.length) (by rw [lsOf_len]; exact h2) ?_
  rw [lsOf_get h2, ← hy, ← aheadS_get hst h1 h2, ← hx]
  exact e
theorem NextIn.mem {α : Type} {l m : List α} {pre : List (α × α)} {x y : α} (h : NextIn l m pre (x, y)) : x ∈ l ∧ y ∈ m := by
  obtain ⟨h1, h2, he⟩ := h
  injection he with hx hy
  exact ⟨by rw [hx]; exact List.getElem_mem _, by rw [hy]; exact List.getElem_mem _⟩
theorem AllRs.ahead {w : World} {B : Nat} {st : Rs} {rs : List Rs} (h : AllRs w B rs) (hs : goodRs w B st) : AllRs w B (aheadS st rs) := by
  intro r hr
  rcases List.mem_cons.1 hr with rfl | hr
  · exact hs
  · exact h r (List.mem_of_mem_take hr)

theorem flat_one (rs : List Rs) : ∀ u ∈ rs.flatMap rsCells, u.oneCell' = true := by
  intro u hu
  obtain ⟨r, _, hr⟩ := List.mem_flatMap.1 hu
  exact rsCells_one r u hr

set_option maxRecDepth 100000 in
set_option maxHeartbeats 4000000 in
theorem tiles_walk (rs : List Rs) (A : Option Addr) (n c : Nat) (w : World) (hn : n = rs.length) (hm : n ≤ 1048576) (hnc : n ≤ c) (hcm : c ≤ maxLen) (hat : RowC rsCells 1 w w.heap.size A rs) (hall : AllRs w w.heap.size rs) :
    Calls Try.prog 16 #[.slice A n c] w fun e w' => e = .returned (.bool (tileB (lsOf rs))) ∧ Below w.heap.size w w' := by
  have HN := Lib.hid hn
  have HA := Lib.hid hat
  have HALL := Lib.hid hall
  have hc9 : c ≤ 9223372036854775807 := by unfold maxLen at hcm; omega
  have HB0 := Lib.hid ((Below.refl w.heap.size w).alloc (Nat.le_refl _) (.cells #[.bool false] 4))
  have HX0 := Lib.hid (Boxed.new w 4 (.bool false))
  by_cases h0 : n = 0
  · subst h0
    have HT := Lib.hid (show tileB (lsOf rs) = true by
      have : rs = [] := List.eq_nil_of_length_eq_zero hn.symm
      rw [this]; rfl)
    clear hn hat hall
    have x0 := HX0.out.cell
    have x1 := HX0.out.frozen
    go_enter Try.func16, Try.ntmps16
    go_wp2
    exact bodyPost_ret (v := .bool true) (by simp [results, Try.results16, go_sem]) rfl ⟨by rw [HT.out], (Below.refl _ _).alloc (Nat.le_refl _) _⟩
  have h00 : 0 < rs.length := by omega
  obtain ⟨b, off, rfl, hB, hcc⟩ := (hat.below HB0.out) 0 h00
  have c0 := hcc 0 _ rfl
  simp only [Nat.zero_mul, Nat.add_zero] at c0
  have hg0 := hall rs[0] (List.getElem_mem h00)
  have HFS := Lib.hid (tile_first h00)
  have HG0 := Lib.hid (lsOf_get h00)
  obtain ⟨x, hx⟩ : ∃ x, rs[0] = x := ⟨_, rfl⟩
  simp only [hx] at c0 hg0 HFS HG0
  have hxm := hg0.2
  obtain ⟨p, hp⟩ : ∃ p, x.l.length = p := ⟨_, rfl⟩
  rw [hp] at c0 hxm HFS
  have HP := Lib.hid hp
  have hz0 : (n == 0) = false := by rw [beq_eq_false_iff_ne]; exact h0
  have hz1 : ((n : Int) == 0) = false := by rw [beq_eq_false_iff_ne]; omega
  have i2 : (0 : Int) < (n : Int) := by omega
  clear hx hcc hg0 hp
  have HC1 := HX0.out.cell
  have HC2 := HX0.out.frozen
  by_cases hp4 : p < 1 ∨ 4 < p
  · have HT := Lib.hid (HFS.out hp4)
    have HS := Lib.hid (fun W => start_no (p : Int) W (by omega))
    clear hn hat hall hp4
    go_enter Try.func16, Try.ntmps16
    go_wp2_with (go_at_call 11; refine (HS.out _).mono ?_; rintro e w2 ⟨rfl, rfl⟩)
    exact bodyPost_ret (v := .bool false) (by simp [results, Try.results16, go_sem]) rfl ⟨by rw [HT.out], (Below.refl _ _).alloc (Nat.le_refl _) _⟩
  · have HS := Lib.hid (fun W => start_yes p W (by omega) (by omega))
    obtain ⟨m, rfl⟩ : ∃ m, n = m + 1 := ⟨n - 1, by omega⟩
    obtain ⟨i0, hi, hz0', hz1', hz2'⟩ := info_parts infoRs
    have HI0 := Lib.hid hi
    have HZ0 := Lib.hid hz0'
    have HZ1 := Lib.hid hz1'
    have HZ2 := Lib.hid hz2'
    have hP4 : p ≤ 4 := by omega
    have s1 : IntKind.i64.wrap ((m : Int) + 1 - 1) = (m : Int) := by rw [IntKind.wrap_i64]; omega
    have s2 : ((m : Int) + 1 - 1) = (m : Int) := by omega
    have s3 : ¬ c = 0 := by omega
    have s4 : (m : Int) ≤ (c : Int) := by omega
    clear hn hat hall hp4 hi hz0' hz1' hz2'
    refine (callsIn_wide (n := 6)).1 ?_
    refine callsIn_of_wp_marks Try.func16 rfl trivial ?_ rfl
    simp only [Try.ntmps16, List.size_toArray, List.length_cons, List.length_nil, Nat.reduceAdd, Nat.reduceSub, Array.replicate_succ, Array.replicate_zero, List.push_toArray, List.append_toArray, List.nil_append, List.cons_append]
    gi_wp2_with (first
      | (refine ⟨trivial, ?_⟩; gi_at_call 11; refine (callsIn_wide.2 (HS.out _)).mono ?_; rintro e w2 ⟨As, cs, rfl, hr2, hb2⟩; have HR2 := Lib.hid hr2; have HB2 := Lib.hid (hop HB0.out hb2); have HX2 := Lib.hid (show Boxed w2 w.heap.size 4 (.bool false) from (hb2.block _ HX0.out.lt).trans HX0.out); clear hr2 hb2)
      | (gi_at_builtin; go_loud (refine wpListIn_append_own _ rfl _ _ 35 rfl w.heap.size 22 i0 _ 1 24 Try.underlying35 HI0.out HZ0.out HZ1.out HZ2.out rfl (by decide) _ 1 [.slice As p cs] rfl (World.ownsRow_lit w2 #[.slice As p cs] 1 HB2.out.size (by decide) rfl) ⟨b, off, none⟩ m c ((rs.take m).flatMap rsCells) rfl (by rw [flat_length rsCells_length, List.length_take, ← HN.out, Nat.mul_one]; omega) (row_cells rsCells_length ((HA.out.below (HB2.out.alloc HB2.out.size _)).take m)) (flat_one _) (by unfold maxLen; omega) (by omega) (by simp; have := HB2.out.size; omega) ?_); intro v3 w3 hown hg _; have HO3 := Lib.hid hown; have HG3 := Lib.hid hg; obtain ⟨A3, c3, rfl⟩ := own_slice hown; clear hown hg))
    have hb3 : Below w2.heap.size w2 w3 := ((Below.refl _ w2).alloc (Nat.le_refl _) _).grown HG3.out (by simp) (fun k e => by cases e; exact Nat.le_refl _)
    obtain ⟨st, hst⟩ : ∃ st : Rs, st = ⟨As, cs, List.replicate p noRg⟩ := ⟨_, rfl⟩
    have hstl : st.l = List.replicate ((lsOf rs).getD 0 []).length noRg := by rw [HG0.out, HP.out, hst]
    have hah : (aheadS st rs).flatMap rsCells = [.slice As p cs] ++ (rs.take m).flatMap rsCells := by
      unfold aheadS
      rw [List.flatMap_cons, hst, ← HN.out, Nat.add_sub_cancel]
      simp [rsCells]
    have hown := HO3.out
    rw [← hah, show 1 + m = m + 1 by omega] at hown
    have hrow3 := (RowC.own rsCells_length (by decide) hown).2
    have hgood : goodRs w2 w2.heap.size st := by
      rw [hst]
      exact ⟨HR2.out, by simp; unfold maxLen; omega⟩
    have hall3 : AllRs w3 w3.heap.size (aheadS st rs) := ((HALL.out.below HB2.out HB2.out.size).ahead hgood).below hb3 hb3.size
    have hall4 : AllRs w3 w3.heap.size rs := HALL.out.below (hop HB2.out hb3) (hop HB2.out hb3).size
    have HB3 := Lib.hid (hop HB2.out hb3)
    have HX3 := Lib.hid (show Boxed w3 w.heap.size 4 (.bool false) from (hb3.block _ HX2.out.lt).trans HX2.out)
    have HROW3 := Lib.hid hrow3
    have HALL3 := Lib.hid hall3
    have HALL4 := Lib.hid hall4
    have HST := Lib.hid hstl
    rw [show 1 + m = m + 1 by omega]
    clear hb3 hst hstl hah hown hrow3 hgood hall3 hall4
    refine ⟨trivial, ?_⟩
    gi_at_call 23
    refine (callsIn_wide.2 (nbS_walk _ _ _ _ _ _ w3)).mono ?_
    rintro e W0 ⟨rfl, hW0⟩
    obtain ⟨q, hq⟩ : ∃ q, w3.heap.size = q := ⟨_, rfl⟩
    have hsz : W0.heap.size = q + 2 := by rw [hW0, ← hq]; simp
    have hbW : Below w3.heap.size w3 W0 := by rw [hW0]; exact ((Below.refl _ w3).alloc (Nat.le_refl _) _).alloc (by simp) _
    have hwq : w.heap.size < q := by rw [← hq]; exact HX3.out.lt
    have z1 : W0.cell? ⟨q, 0, none⟩ = some (.slice A3 (m + 1) c3) := by rw [hW0, ← hq]; simp [go_sem]
    have z2 : W0.cell? ⟨q + 1, 0, none⟩ = some (.slice (some ⟨b, off, none⟩) (m + 1) c) := by rw [hW0, ← hq]; simp [go_sem]
    have hBW := hop HB3.out hbW
    have hbox : Boxed W0 w.heap.size 4 (.bool false) := (hbW.block _ HX3.out.lt).trans HX3.out
    have hrow1 := (HROW3.out.below hbW).more (B' := q + 2) (by omega)
    have hrow2 := (HA.out.below hBW).more (B' := q + 2) (by omega)
    have HAL1 := Lib.hid (HALL3.out.below hbW hbW.size)
    have HAL2 := Lib.hid (HALL4.out.below hbW hbW.size)
    have HBW := Lib.hid hBW
    have HBX := Lib.hid hbox
    have HSZ := Lib.hid hsz
    have HLA := Lib.hid (aheadS_len (st := st) h00)
    rw [hq]
    clear hW0 hsz hq
    gi_wp2
    have hsz := HSZ.out
    refine range_keep rfl (by omega) (gf := 29) (lb := #[.pointer (some ⟨q, 0, none⟩), .pointer (some ⟨q + 1, 0, none⟩)]) rfl trivial (enters_of Try.func29 (by kernel_rfl) rfl)
      (nbS_seq _ (by omega) (aheadS st rs) rs (m + 1) (by rw [HLA.out, HN.out]) HN.out (by omega) q (q + 1) c3 c (q + 2) A3 _ W0 (by omega) (by omega) (by omega) z1 z2 hrow1 hrow2) (fun _ => rfl)
      Low.trans (Low.refl _ W0) (fun h hg => h.grown (by omega) hg) (fun U o => by rw [hsz]; exact low_put U o)
      (fun pre W => RunI w W0 W ∧ TileTo (lsOf rs) pre.length) (fun c pre W => c = .ret ∧ RunX w W0 W ∧ tileB (lsOf rs) = false)
      (fun _ _ _ hi hg => ⟨hi.1.grown hg, hi.2⟩) (fun _ _ _ _ hi hg => ⟨hi.1, hi.2.1.grown hg, hi.2.2⟩) (fun _ _ _ _ hi _ => ⟨hi.1.put (by omega) _, hi.2⟩) (fun _ _ _ _ _ hi _ => ⟨hi.1, hi.2.1.put (by omega) _, hi.2.2⟩)
      (fun _ _ _ _ _ hy _ => hy) ?start ?a1 ?assign ?body ?done ?stop
    case start =>
      intro W1 hg hs1
      exact ⟨RunI.start hBW hg hs1, fun j h _ => absurd h (by simp)⟩
    case assign =>
      intro l0 x W K hK
      gi_wp2
      exact hK
    case body =>
      rintro l0 pre ⟨x2, y⟩ W ⟨hI, hM⟩ hx
      have HI := Lib.hid hI
      have HPP := Lib.hid (fun e => tiles_pre h00 HST.out hM hx e)
      have HQ := Lib.hid (fun e => tiles_not h00 HST.out hx e)
      have hlow := hI.low
      have hDs : W0.heap.size ≤ W.heap.size := by have := hI.size; omega
      have hgx := (HAL1.out.low hlow hDs) _ hx.mem.1
      have hgy := (HAL2.out.low hlow hDs) _ hx.mem.2
      have HF := Lib.hid (follows_walk x2.l y.l x2.a y.a x2.l.length x2.c y.l.length y.c W rfl hgx.2 hgx.1 rfl hgy.2 hgy.1)
      have HBI := Lib.hid (hI.box hbox)
      clear hI hM hx hlow hDs hgx hgy hbW z1 z2 hBW hrow1 hrow2 hbox
      cases hf : folB x2.l y.l with
      | true =>
        have HP2 := Lib.hid (HPP.out hf)
        rw [hf] at HF
        clear hf
        gi_wp2_with (first | (refine ⟨trivial, ?_⟩; gi_at_call 14; refine (CallsIn.inRound l0 (callsIn_wide.2 HF.out)).mono ?_; rintro e V ⟨rfl, hbV⟩; have HBV := Lib.hid hbV; clear hbV))
        obtain ⟨r1, r2, r3⟩ := HI.out.next HBV.out
        rw [← HSZ.out]
        exact ⟨r1, r2, r3, HP2.out⟩
      | false =>
        have HQ2 := Lib.hid (HQ.out hf)
        rw [hf] at HF
        clear hf
        gi_wp2_with (first | (refine ⟨trivial, ?_⟩; gi_at_call 14; refine (CallsIn.inRound l0 (callsIn_wide.2 HF.out)).mono ?_; rintro e V ⟨rfl, hbV⟩; have HBV := Lib.hid hbV; have HB5 := Lib.hid (show Boxed V w.heap.size 4 (.bool false) from (hbV.block _ HBI.out.lt).trans HBI.out); have y0 := HB5.out.cell; have y1 := HB5.out.frozen; clear hbV))
        obtain ⟨r1, r2⟩ := HI.out.leave HBV.out HBX.out
        exact ⟨r1, rfl, r2, HQ2.out⟩
    case done =>
      rintro xs W hxs ⟨hI, hM⟩ hK
      have HF := Lib.hid (hM.all (by rw [hxs, lsOf_len, HN.out]; exact Nat.le_refl _))
      obtain ⟨r1, r2, r3⟩ := hI.end_ hbox hK (.bool true) (.deferred none)
      have x0 := (hI.box hbox).cell
      have x1 := (hI.box hbox).frozen
      gi_wp2
      refine ⟨by simp, .inl ⟨_, _, rfl, run_takeDeferred r1, ?_⟩⟩
      exact ⟨.bool true, by simp [results, Try.results16, go_sem, r2], by rw [HF.out], r3⟩
    case stop =>
      rintro c pre W ⟨rfl, hX, hF⟩ hK
      obtain ⟨r2, r3⟩ := hX.end_ (by omega) (.deferred none)
      gi_wp2
      refine ⟨by simp, .inl ⟨_, _, rfl, run_takeDeferred hK, ?_⟩⟩
      exact ⟨.bool false, by simp [results, Try.results16, go_sem, r2], by rw [hF], r3⟩
end Go.Proofs.Ytceoneigflejeaa
