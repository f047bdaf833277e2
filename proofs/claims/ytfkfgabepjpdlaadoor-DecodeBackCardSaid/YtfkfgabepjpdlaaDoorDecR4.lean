/- Layer 12, walked: rows of records, by the document. -/
import Derived.Test.YtfkfgabepjpdlaaDoorDecR3
namespace Go.Proofs.YtfkfgabepjpdlaaDoor
open Go.ChangeShapes Go.WideShapes Go.ChangeAt Go.RowKit
set_option linter.unusedVariables false

theorem held_two {P : Program} {ops : Array Oper} {Q : Exit → Act → World → Prop} {md : Region.Mode} {S : World → Prop} {i j : Nat} {oi oj : Oper} {fuel : Nat} {listed : Array Bool} {a : Act} {w : World} (hi : ops[i]? = some oi) (hj : ops[j]? = some oj) (hr : Region.ready md ops listed = [i, j])
    (hwi : Region.wanted oi (yielded ops a.tmps) = true) (hwj : Region.wanted oj (yielded ops a.tmps) = true)
    (h1 : oi.wp P a w (fun a' w' => S w' ∧ wpAnyH P md ops Q S fuel (listed.setIfInBounds i true) a' w') Q)
    (h2 : oj.wp P a w (fun a' w' => S w' ∧ wpAnyH P md ops Q S fuel (listed.setIfInBounds j true) a' w') Q) : wpAnyH P md ops Q S (fuel + 1) listed a w :=
  wpAnyH_all hr (by simp) (fun k hk => by
    have h : k = i ∨ k = j := by simpa using hk
    rcases h with rfl | rfl
    · unfold wpOp; simp only [hi]; rw [if_pos hwi]; exact .inl h1
    · unfold wpOp; simp only [hj]; rw [if_pos hwj]; exact .inl h2)
theorem v_one (v : V) : ∀ u ∈ v.cells, u.oneCell' = true := by simp [V.cells, Value.oneCell']
theorem v_len (v : V) : v.cells.length = 3 := rfl
set_option maxHeartbeats 4000000 in
set_option maxRecDepth 20000 in
theorem rrow_cols (l : List C) (hw : ∀ c ∈ l, c.wf) (len cap : Nat) (A : Option Addr) (s : ByteArray) (w : World) (hl : len = l.length) (hm : len ≤ maxLen) (hr : Row2 w w.heap.size A l) (hs : s.size ≤ 1048576) :
    Calls Tryd.prog 17 #[.slice A len cap, .string s] w (RowPost (rowE l s.data.toList) (rowV l s.data.toList) w) := by
  have HRG := Lib.hid (rright_any l hw len cap A w hl hm hr)
  have HSPL := Lib.hid (rsplit_any s (by omega))
  have HSZ := Lib.hid (size_eq s)
  obtain ⟨bs, hbs⟩ : ∃ bs, s.data.toList = bs := ⟨_, rfl⟩
  rw [hbs] at HSPL HSZ ⊢
  clear hbs
  obtain ⟨g, hg⟩ : ∃ g, rightB l = g := ⟨_, rfl⟩
  rw [hg] at HRG
  have HG := Lib.hid hg
  clear hg
  cases g
  · have HX := Lib.hid (show rowE l bs = 120 by unfold rowE; rw [if_pos HG.out])
    have HX2 := Lib.hid (show rowV l bs = [] by unfold rowV; rw [HX.out, if_neg (by decide)])
    clear hl hm hr hw
    go_enter Tryd.func17, Tryd.ntmps17
    go_wp2_with (go_at_call 10; refine HRG.out.mono ?_; rintro e w1 ⟨rfl, rfl⟩)
    go_ret2
    rw [HX.out, HX2.out]
    exact row_err rfl rfl (Below.refl _ _)
  · obtain ⟨hl1, hl12⟩ := rightB_len HG.out
    have hlen : len ≤ 12 := by omega
    have HR := Lib.hid hr
    have HL := Lib.hid hl
    obtain ⟨fs, hfs⟩ : ∃ fs, splitL bs = fs := ⟨_, rfl⟩
    have HFS := Lib.hid hfs
    have HFL := Lib.hid (show ∀ f ∈ fs, f.length ≤ 1048576 from fun f hf => by
      rw [← hfs] at hf
      have h1 := congrArg List.length (jn_split bs)
      have h2 : f.length ≤ (jn (splitL bs)).length := len_jn hf
      have := HSZ.out
      omega)
    rw [hfs] at HSPL
    by_cases hc : fs.length = l.length
    · have HFC := Lib.hid hc
      have hmap : (fs.map txt).length = len := by rw [List.length_map, hc, hl]
      have HMAP := Lib.hid hmap
      clear hr hl hw hl1 hl12 hm hfs hc hmap
      have hq0 : ((len : Int) != (len : Int)) = false := by simp
      go_enter Tryd.func17, Tryd.ntmps17
      go_wp2_with (first
        | (go_at_call 10; refine HRG.out.mono ?_; rintro e w1 ⟨rfl, rfl⟩)
        | (go_at_call 19; refine (HSPL.out _).mono ?_; rintro e w2 ⟨A2, n2, c2, rfl, hn2, ho2, hb2⟩; have HB2 := Lib.hid hb2; rw [HMAP.out] at hn2; replace hn2 := hn2.symm; subst hn2; have HO2 := Lib.hid ho2; clear ho2 hb2))
      have HRC := Lib.hid (RowC.own sCells_length (by decide) HO2.out).2
      clear hq0
      go_loopw [7, 8] (fun lv iv wr => ∃ (A1 : Option Addr) (c1x : Nat) (vs : List V) (k : Nat), lv = .slice A1 k c1x ∧ iv = .int .i64 ((k : Nat) : Int) ∧ k ≤ len ∧ Hid (vs.length = k ∧ (∀ i (hi : i < l.length) (hf : i < fs.length) (hv : i < vs.length), saysV l[i].k fs[i] = some vs[i])) ∧ Hid (wr.ownsRow w2.heap.size 53 3 (.slice A1 k c1x) k (vs.flatMap V.cells)) ∧ Hid (Below w2.heap.size w2 wr)) (fun _ iv _ => len - (intOf iv).toNat)
      case atStart => exact ⟨none, 0, [], 0, rfl, rfl, Nat.zero_le _, Lib.hid ⟨rfl, fun i _ _ h => by simp at h⟩, Lib.hid (World.ownsRow_nil _ _ _ 3), Lib.hid (Below.refl _ _)⟩
      case round =>
        obtain ⟨A1, c1x, vs, k, rfl, rfl, hk, HV, HO, HBR⟩ := hrel
        by_cases hlt : k < len
        · have hkl : k < l.length := by rw [← HL.out]; exact hlt
          have hkf : k < fs.length := by rw [HFC.out]; exact hkl
          obtain ⟨b, off, rfl, hBb, d0, d1⟩ := (HR.out.below (hop0 HB2.out HBR.out)) k hkl
          obtain ⟨b2, off2, rfl, hBb2, d2⟩ := strs_cell (HRC.out.below HBR.out) k (by rw [List.length_map]; exact hkf)
          rw [List.getElem_map] at d2
          obtain ⟨c, HC⟩ : ∃ c, Hid (l[k] = c) := ⟨_, Lib.hid rfl⟩
          obtain ⟨f, HF⟩ : ∃ f, Hid (fs[k] = f) := ⟨_, Lib.hid rfl⟩
          rw [HC.out] at d0 d1
          rw [HF.out] at d2
          have HSAY := Lib.hid (fun W => rsays_any (txt f) (by
            have := HFL.out f (by rw [← HF.out]; exact List.getElem_mem hkf)
            rw [txt_size]; omega) c.k (rightB_kinds HG.out c (by rw [← HC.out]; exact List.getElem_mem hkl)) W)
          rw [txt_list] at HSAY
          obtain ⟨sv, HSV⟩ : ∃ sv, Hid (saysV c.k f = sv) := ⟨_, Lib.hid rfl⟩
          rw [HSV.out] at HSAY
          have i1 : (0 : Int) ≤ (k : Int) := by omega
          have i2 : (k : Int) < (len : Int) := by omega
          clear d0
          have D1 := Lib.hid d1
          have D2 := Lib.hid d2
          go_wp2_with fail
          have HB0 := Lib.hid (show Below wr.heap.size wr wr.drew from (Below.refl _ _).drew)
          have hS : Hid (wr.drew.cell? ⟨b, off + k * 2 + 1, none⟩ = some (.int .i64 c.k) ∧ wr.drew.cell? ⟨b2, off2 + k, none⟩ = some (.string (txt f))) := Lib.hid ⟨d1, d2⟩
          refine held_begin 16 (fun W => Hid (W.cell? ⟨b, off + k * 2 + 1, none⟩ = some (.int .i64 c.k) ∧ W.cell? ⟨b2, off2 + k, none⟩ = some (.string (txt f)))) rfl (by kernel_rfl) ?_
          refine held_take (i := 0) (t := 28) (v := (.slice (some ⟨b, off, none⟩) len cap)) (fuel := 15) rfl rfl (by kernel_rfl) (by kernel_rfl) (by kernel_rfl) (fun _ _ _ h => h) (.inl ⟨rfl, fun W hW => by simp [execOp, Act.eval, go_sem]⟩) hS ?_
          simp only [List.setIfInBounds_toArray, List.set_cons_succ, List.set_cons_zero]
          refine held_take (i := 1) (t := 29) (v := (.int .i64 (k : Int))) (fuel := 14) rfl rfl (by kernel_rfl) (by kernel_rfl) (by kernel_rfl) (fun _ _ _ h => h) (.inl ⟨rfl, fun W hW => by simp [execOp, Act.eval, go_sem]⟩) hS ?_
          simp only [List.setIfInBounds_toArray, List.set_cons_succ, List.set_cons_zero]
          refine held_take (i := 2) (t := 30) (v := (.pointer (some ⟨b, off + k * 2, none⟩))) (fuel := 13) rfl rfl (by kernel_rfl) (by kernel_rfl) (by kernel_rfl) (fun _ _ _ h => h) (.inl ⟨rfl, fun W hW => by simp [execOp, Act.eval, go_sem, i1, i2]⟩) hS ?_
          simp only [List.setIfInBounds_toArray, List.set_cons_succ, List.set_cons_zero]
          refine held_take (i := 3) (t := 31) (v := (.pointer (some ⟨b, off + k * 2 + 1, none⟩))) (fuel := 12) rfl rfl (by kernel_rfl) (by kernel_rfl) (by kernel_rfl) (fun _ _ _ h => h) (.inl ⟨rfl, fun W hW => by simp [execOp, Act.eval, go_sem]⟩) hS ?_
          simp only [List.setIfInBounds_toArray, List.set_cons_succ, List.set_cons_zero]
          refine held_take (i := 4) (t := 32) (v := (.int .i64 c.k)) (fuel := 11) rfl rfl (by kernel_rfl) (by kernel_rfl) (by kernel_rfl) (fun _ _ _ h => h) (.inl ⟨rfl, fun W hW => by simp [execOp, Act.eval, go_sem, hW.out.1]⟩) hS ?_
          simp only [List.setIfInBounds_toArray, List.set_cons_succ, List.set_cons_zero]
          refine held_take (i := 5) (t := 33) (v := (.slice (some ⟨b2, off2, none⟩) len c2)) (fuel := 10) rfl rfl (by kernel_rfl) (by kernel_rfl) (by kernel_rfl) (fun _ _ _ h => h) (.inl ⟨rfl, fun W hW => by simp [execOp, Act.eval, go_sem]⟩) hS ?_
          simp only [List.setIfInBounds_toArray, List.set_cons_succ, List.set_cons_zero]
          refine held_take (i := 6) (t := 34) (v := (.int .i64 (k : Int))) (fuel := 9) rfl rfl (by kernel_rfl) (by kernel_rfl) (by kernel_rfl) (fun _ _ _ h => h) (.inl ⟨rfl, fun W hW => by simp [execOp, Act.eval, go_sem]⟩) hS ?_
          simp only [List.setIfInBounds_toArray, List.set_cons_succ, List.set_cons_zero]
          refine held_take (i := 7) (t := 35) (v := (.pointer (some ⟨b2, off2 + k, none⟩))) (fuel := 8) rfl rfl (by kernel_rfl) (by kernel_rfl) (by kernel_rfl) (fun _ _ _ h => h) (.inl ⟨rfl, fun W hW => by simp [execOp, Act.eval, go_sem, i1, i2]⟩) hS ?_
          simp only [List.setIfInBounds_toArray, List.set_cons_succ, List.set_cons_zero]
          refine held_take (i := 8) (t := 36) (v := (.string (txt f))) (fuel := 7) rfl rfl (by kernel_rfl) (by kernel_rfl) (by kernel_rfl) (fun _ _ _ h => h) (.inl ⟨rfl, fun W hW => by simp [execOp, Act.eval, go_sem, hW.out.2]⟩) hS ?_
          simp only [List.setIfInBounds_toArray, List.set_cons_succ, List.set_cons_zero]
          refine held_two (i := 9) (j := 13) rfl rfl (by kernel_rfl) (by kernel_rfl) (by kernel_rfl) ?_ ?_
          · simp [Oper.wp, execOp, Act.eval, Act.put, go_sem]
            refine (HSAY.out _).mono ?_
            rintro e w3 ⟨v, ok, rfl, hy, hno, hb3⟩
            have HY := Lib.hid hy
            have HNO := Lib.hid hno
            have HB3 := Lib.hid (hop0 HB0.out hb3)
            have hS : Hid (w3.cell? ⟨b, off + k * 2 + 1, none⟩ = some (.int .i64 c.k) ∧ w3.cell? ⟨b2, off2 + k, none⟩ = some (.string (txt f))) := Lib.hid ⟨later_cell hb3 hS.out.1, later_cell hb3 hS.out.2⟩
            clear hy hno hb3
            refine ⟨hS, ?_⟩
            try simp only [List.setIfInBounds_toArray, List.set_cons_succ, List.set_cons_zero]
            refine held_take (i := 10) (t := 27) (v := (.tuple #[.agg #[.int .i64 v.k, .int .i64 v.n, .string v.s], .bool ok])) (fuel := 5) rfl rfl (by kernel_rfl) (by kernel_rfl) (by kernel_rfl) (fun _ _ _ h => h) (.inl ⟨rfl, fun W hW => by simp [execOp, Act.eval, go_sem]⟩) hS ?_
            simp only [List.setIfInBounds_toArray, List.set_cons_succ, List.set_cons_zero]
            refine held_take (i := 11) (t := 38) (v := (.agg #[.int .i64 v.k, .int .i64 v.n, .string v.s])) (fuel := 4) rfl rfl (by kernel_rfl) (by kernel_rfl) (by kernel_rfl) (fun _ _ _ h => h) (.inl ⟨rfl, fun W hW => by simp [execOp, Act.eval, go_sem]⟩) hS ?_
            simp only [List.setIfInBounds_toArray, List.set_cons_succ, List.set_cons_zero]
            refine held_take (i := 12) (t := 39) (v := (.bool ok)) (fuel := 3) rfl rfl (by kernel_rfl) (by kernel_rfl) (by kernel_rfl) (fun _ _ _ h => h) (.inl ⟨rfl, fun W hW => by simp [execOp, Act.eval, go_sem]⟩) hS ?_
            simp only [List.setIfInBounds_toArray, List.set_cons_succ, List.set_cons_zero]
            refine held_call (i := 13) rfl (by kernel_rfl) (by kernel_rfl) ?_
            simp [Oper.wp, execOp, Act.put, go_sem]
            have HBX0 := Lib.hid (box_zero w3)
            have HB4 := Lib.hid (HB3.out.alloc HB3.out.size (.cells #[.int .i64 0, .int .i64 0, .string ⟨#[]⟩] 53))
            have hS := Lib.hid (show (w3.alloc (.cells #[.int .i64 0, .int .i64 0, .string ⟨#[]⟩] 53)).cell? ⟨b, off + k * 2 + 1, none⟩ = some (.int .i64 c.k) ∧ (w3.alloc (.cells #[.int .i64 0, .int .i64 0, .string ⟨#[]⟩] 53)).cell? ⟨b2, off2 + k, none⟩ = some (.string (txt f)) from
              ⟨later_cell ((Below.refl _ w3).alloc (Nat.le_refl _) _) hS.out.1, later_cell ((Below.refl _ w3).alloc (Nat.le_refl _) _) hS.out.2⟩)
            have HG4 := Lib.hid (show wr.heap.size ≤ w3.heap.size from HB3.out.size)
            obtain ⟨g, hg⟩ : ∃ g, w3.heap.size = g := ⟨_, rfl⟩
            rw [hg] at HBX0 HG4
            obtain ⟨W4, hW4⟩ : ∃ W4, w3.alloc (.cells #[.int .i64 0, .int .i64 0, .string ⟨#[]⟩] 53) = W4 := ⟨_, rfl⟩
            rw [hW4] at HBX0 HB4 hS
            rw [hW4]
            refine ⟨hS, ?_⟩
            try simp only [List.setIfInBounds_toArray, List.set_cons_succ, List.set_cons_zero]
            rw [hg]
            clear hW4 hg HB3
            have c0 := HBX0.out.c0
            have c1 := HBX0.out.c1
            have c2 := HBX0.out.c2
            have f0 := HBX0.out.free 0
            have f1 := HBX0.out.free 1
            have f2 := HBX0.out.free 2
            have hlt4 := HBX0.out.lt
            unfold zV at c0 c1 c2
            refine held_call (i := 14) rfl (by kernel_rfl) (by kernel_rfl) ?_
            simp [Oper.wp, execOp, Act.eval, Act.put, go_sem, c0, c1, c2, f0, f1, f2]
            have HBX := Lib.hid (HBX0.out.set v)
            have HBf := Lib.hid (below_set3 HB4.out HG4.out v)
            have hS := Lib.hid (show (((W4.setCell ⟨g, 0, none⟩ (.int .i64 v.k)).setCell ⟨g, 1, none⟩ (.int .i64 v.n)).setCell ⟨g, 2, none⟩ (.string v.s)).cell? ⟨b, off + k * 2 + 1, none⟩ = some (.int .i64 c.k) ∧ (((W4.setCell ⟨g, 0, none⟩ (.int .i64 v.k)).setCell ⟨g, 1, none⟩ (.int .i64 v.n)).setCell ⟨g, 2, none⟩ (.string v.s)).cell? ⟨b2, off2 + k, none⟩ = some (.string (txt f)) from
              ⟨later_cell HBf.out D1.out, later_cell HBf.out D2.out⟩)
            obtain ⟨W5, hW5⟩ : ∃ W5, ((W4.setCell ⟨g, 0, none⟩ (.int .i64 v.k)).setCell ⟨g, 1, none⟩ (.int .i64 v.n)).setCell ⟨g, 2, none⟩ (.string v.s) = W5 := ⟨_, rfl⟩
            rw [hW5] at HBX HBf hS
            rw [hW5]
            refine ⟨hS, ?_⟩
            try simp only [List.setIfInBounds_toArray, List.set_cons_succ, List.set_cons_zero]
            clear hW5 c0 c1 c2 f0 f1 f2 hlt4
            refine held_take (i := 15) (t := 10) (v := (.bool ok)) (fuel := 0) rfl rfl (by kernel_rfl) (by kernel_rfl) (by kernel_rfl) (fun _ _ _ h => h) (.inl ⟨rfl, fun W hW => by simp [execOp, Act.eval, go_sem]⟩) hS ?_
            simp only [List.setIfInBounds_toArray, List.set_cons_succ, List.set_cons_zero]
            refine wpAnyH_done (by kernel_rfl) ?_ 0
            have HBL := Lib.hid (hop0 HBR.out HBf.out)
            have HO5 := Lib.hid (own_below HO.out HBf.out)
            clear hS
            cases ok
            · have HX0 := Lib.hid (show rowsV l fs = none from rowsV_bad hkl hkf (by rw [HC.out, HF.out, HSV.out]; exact HNO.out rfl))
              have HX := Lib.hid (show rowE l bs = 122 by unfold rowE; rw [if_neg (by simp [HG.out]), HFS.out, if_neg (by rw [HFC.out]; simp), if_pos HX0.out])
              have HX2 := Lib.hid (show rowV l bs = [] by unfold rowV; rw [HX.out, if_neg (by decide)])
              go_wp2
              go_ret2
              rw [HX.out, HX2.out]
              exact row_err rfl rfl (hop0 HB2.out HBL.out)
            · have HV2 := Lib.hid (show (vs ++ [v]).length = k + 1 ∧ (∀ i (hi : i < l.length) (hf : i < fs.length) (hv : i < (vs ++ [v]).length), saysV l[i].k fs[i] = some (vs ++ [v])[i]) by
                obtain ⟨a1, a2⟩ := HV.out
                refine ⟨by simp [a1], fun i hi hf hv => ?_⟩
                by_cases h : i < vs.length
                · rw [List.getElem_append_left h]; exact a2 i hi hf h
                · obtain rfl : i = k := by simp at hv; omega
                  rw [List.getElem_append_right (by omega), HC.out, HF.out, HSV.out]
                  simp only [a1, Nat.sub_self, List.getElem_cons_zero]
                  exact HY.out rfl)
              have c0 := HBX.out.c0
              have c1 := HBX.out.c1
              have c2 := HBX.out.c2
              have hbx := HBX.out.lt
              go_wp2_with (at_builtin; go_loud (refine append_item Tryd.underlying32 infoVal rfl (by decide) v_len v_one rfl _ _ rfl w2.heap.size A1 k c1x vs rfl _ v HO5.out HBL.out.size _ rfl rfl (by omega) (by unfold maxLen; omega) [_, _, _] rfl ?_); intro A3 n3 c3 w9 hn3 ho3 hb3 _; have HO9 := Lib.hid ho3; have HB9 := Lib.hid (HBL.out.trans hb3); clear ho3 hb3; subst hn3)
              go_roundw
              case rel => exact ⟨_, _, vs ++ [v], k + 1, rfl, by go_num, by omega, HV2, HO9, HB9⟩
              case measure => simp [intOf]; omega
          · simp [Oper.wp, execOp, Act.put, go_sem]
            have HBX0 := Lib.hid (show Box3 (wr.alloc (.cells #[.int .i64 0, .int .i64 0, .string ⟨#[]⟩] 53)).drew wr.heap.size zV from box_zero wr)
            have HB3 := Lib.hid (show Below wr.heap.size wr (wr.alloc (.cells #[.int .i64 0, .int .i64 0, .string ⟨#[]⟩] 53)).drew from ((Below.refl _ wr).alloc (Nat.le_refl _) _).drew)
            have hS := Lib.hid (show (wr.alloc (.cells #[.int .i64 0, .int .i64 0, .string ⟨#[]⟩] 53)).cell? ⟨b, off + k * 2 + 1, none⟩ = some (.int .i64 c.k) ∧ (wr.alloc (.cells #[.int .i64 0, .int .i64 0, .string ⟨#[]⟩] 53)).cell? ⟨b2, off2 + k, none⟩ = some (.string (txt f)) from
              ⟨later_cell ((Below.refl _ wr).alloc (Nat.le_refl _) _) D1.out, later_cell ((Below.refl _ wr).alloc (Nat.le_refl _) _) D2.out⟩)
            refine ⟨hS, ?_⟩
            obtain ⟨g, hg⟩ : ∃ g, wr.heap.size = g := ⟨_, rfl⟩
            have HG4 := Lib.hid (show wr.heap.size ≤ g by omega)
            rw [hg] at HBX0
            obtain ⟨W3, hW3⟩ : ∃ W3, (wr.alloc (.cells #[.int .i64 0, .int .i64 0, .string ⟨#[]⟩] 53)).drew = W3 := ⟨_, rfl⟩
            rw [hW3] at HBX0 HB3 ⊢
            rw [hg]
            replace hS := Lib.hid (show W3.cell? ⟨b, off + k * 2 + 1, none⟩ = some (.int .i64 c.k) ∧ W3.cell? ⟨b2, off2 + k, none⟩ = some (.string (txt f)) from ⟨later_cell HB3.out D1.out, later_cell HB3.out D2.out⟩)
            have HGR := Lib.hid hg
            clear hW3 hg
            try simp only [List.setIfInBounds_toArray, List.set_cons_succ, List.set_cons_zero]
            refine held_call (i := 9) rfl (by kernel_rfl) (by kernel_rfl) ?_
            simp [Oper.wp, execOp, Act.eval, Act.put, go_sem]
            refine (HSAY.out _).mono ?_
            rintro e W4 ⟨v, ok, rfl, hy, hno, hb3⟩
            have HY := Lib.hid hy
            have HNO := Lib.hid hno
            have HB4 := Lib.hid (hop0 HB3.out hb3)
            replace HBX0 := Lib.hid (HBX0.out.below hb3)
            have hS : Hid (W4.cell? ⟨b, off + k * 2 + 1, none⟩ = some (.int .i64 c.k) ∧ W4.cell? ⟨b2, off2 + k, none⟩ = some (.string (txt f))) := Lib.hid ⟨later_cell hb3 hS.out.1, later_cell hb3 hS.out.2⟩
            clear hy hno hb3 HB3
            refine ⟨hS, ?_⟩
            try simp only [List.setIfInBounds_toArray, List.set_cons_succ, List.set_cons_zero]
            refine held_take (i := 10) (t := 27) (v := (.tuple #[.agg #[.int .i64 v.k, .int .i64 v.n, .string v.s], .bool ok])) (fuel := 4) rfl rfl (by kernel_rfl) (by kernel_rfl) (by kernel_rfl) (fun _ _ _ h => h) (.inl ⟨rfl, fun W hW => by simp [execOp, Act.eval, go_sem]⟩) hS ?_
            simp only [List.setIfInBounds_toArray, List.set_cons_succ, List.set_cons_zero]
            refine held_take (i := 11) (t := 38) (v := (.agg #[.int .i64 v.k, .int .i64 v.n, .string v.s])) (fuel := 3) rfl rfl (by kernel_rfl) (by kernel_rfl) (by kernel_rfl) (fun _ _ _ h => h) (.inl ⟨rfl, fun W hW => by simp [execOp, Act.eval, go_sem]⟩) hS ?_
            simp only [List.setIfInBounds_toArray, List.set_cons_succ, List.set_cons_zero]
            refine held_take (i := 12) (t := 39) (v := (.bool ok)) (fuel := 2) rfl rfl (by kernel_rfl) (by kernel_rfl) (by kernel_rfl) (fun _ _ _ h => h) (.inl ⟨rfl, fun W hW => by simp [execOp, Act.eval, go_sem]⟩) hS ?_
            simp only [List.setIfInBounds_toArray, List.set_cons_succ, List.set_cons_zero]
            have c0 := HBX0.out.c0
            have c1 := HBX0.out.c1
            have c2 := HBX0.out.c2
            have f0 := HBX0.out.free 0
            have f1 := HBX0.out.free 1
            have f2 := HBX0.out.free 2
            have hlt4 := HBX0.out.lt
            unfold zV at c0 c1 c2
            refine held_call (i := 14) rfl (by kernel_rfl) (by kernel_rfl) ?_
            simp [Oper.wp, execOp, Act.eval, Act.put, go_sem, c0, c1, c2, f0, f1, f2]
            have HBX := Lib.hid (HBX0.out.set v)
            have HBf := Lib.hid (below_set3 HB4.out HG4.out v)
            have hS := Lib.hid (show (((W4.setCell ⟨g, 0, none⟩ (.int .i64 v.k)).setCell ⟨g, 1, none⟩ (.int .i64 v.n)).setCell ⟨g, 2, none⟩ (.string v.s)).cell? ⟨b, off + k * 2 + 1, none⟩ = some (.int .i64 c.k) ∧ (((W4.setCell ⟨g, 0, none⟩ (.int .i64 v.k)).setCell ⟨g, 1, none⟩ (.int .i64 v.n)).setCell ⟨g, 2, none⟩ (.string v.s)).cell? ⟨b2, off2 + k, none⟩ = some (.string (txt f)) from
              ⟨later_cell HBf.out D1.out, later_cell HBf.out D2.out⟩)
            obtain ⟨W5, hW5⟩ : ∃ W5, ((W4.setCell ⟨g, 0, none⟩ (.int .i64 v.k)).setCell ⟨g, 1, none⟩ (.int .i64 v.n)).setCell ⟨g, 2, none⟩ (.string v.s) = W5 := ⟨_, rfl⟩
            rw [hW5] at HBX HBf hS
            rw [hW5]
            refine ⟨hS, ?_⟩
            try simp only [List.setIfInBounds_toArray, List.set_cons_succ, List.set_cons_zero]
            clear hW5 c0 c1 c2 f0 f1 f2 hlt4
            refine held_take (i := 15) (t := 10) (v := (.bool ok)) (fuel := 0) rfl rfl (by kernel_rfl) (by kernel_rfl) (by kernel_rfl) (fun _ _ _ h => h) (.inl ⟨rfl, fun W hW => by simp [execOp, Act.eval, go_sem]⟩) hS ?_
            simp only [List.setIfInBounds_toArray, List.set_cons_succ, List.set_cons_zero]
            refine wpAnyH_done (by kernel_rfl) ?_ 0
            have HBL := Lib.hid (hop0 HBR.out HBf.out)
            have HO5 := Lib.hid (own_below HO.out HBf.out)
            clear hS
            cases ok
            · have HX0 := Lib.hid (show rowsV l fs = none from rowsV_bad hkl hkf (by rw [HC.out, HF.out, HSV.out]; exact HNO.out rfl))
              have HX := Lib.hid (show rowE l bs = 122 by unfold rowE; rw [if_neg (by simp [HG.out]), HFS.out, if_neg (by rw [HFC.out]; simp), if_pos HX0.out])
              have HX2 := Lib.hid (show rowV l bs = [] by unfold rowV; rw [HX.out, if_neg (by decide)])
              go_wp2
              go_ret2
              rw [HX.out, HX2.out]
              exact row_err rfl rfl (hop0 HB2.out HBL.out)
            · have HV2 := Lib.hid (show (vs ++ [v]).length = k + 1 ∧ (∀ i (hi : i < l.length) (hf : i < fs.length) (hv : i < (vs ++ [v]).length), saysV l[i].k fs[i] = some (vs ++ [v])[i]) by
                obtain ⟨a1, a2⟩ := HV.out
                refine ⟨by simp [a1], fun i hi hf hv => ?_⟩
                by_cases h : i < vs.length
                · rw [List.getElem_append_left h]; exact a2 i hi hf h
                · obtain rfl : i = k := by simp at hv; omega
                  rw [List.getElem_append_right (by omega), HC.out, HF.out, HSV.out]
                  simp only [a1, Nat.sub_self, List.getElem_cons_zero]
                  exact HY.out rfl)
              have c0 := HBX.out.c0
              have c1 := HBX.out.c1
              have c2 := HBX.out.c2
              have hbx := HBX.out.lt
              go_wp2_with (at_builtin; go_loud (refine append_item Tryd.underlying32 infoVal rfl (by decide) v_len v_one rfl _ _ rfl w2.heap.size A1 k c1x vs rfl _ v HO5.out HBL.out.size _ rfl rfl (by omega) (by unfold maxLen; omega) [_, _, _] rfl ?_); intro A3 n3 c3 w9 hn3 ho3 hb3 _; have HO9 := Lib.hid ho3; have HB9 := Lib.hid (HBL.out.trans hb3); clear ho3 hb3; subst hn3)
              go_roundw
              case rel => exact ⟨_, _, vs ++ [v], k + 1, rfl, by go_num, by omega, HV2, HO9, HB9⟩
              case measure => simp [intOf]; omega
        · have HV2 := Lib.hid (show rowsV l fs = some vs ∧ k = vs.length by
            obtain ⟨a1, a2⟩ := HV.out
            have hkl2 : k = len := by omega
            exact ⟨rowsV_of (by rw [a1, hkl2, HL.out]) HFC.out (fun i hi => a2 i hi (by rw [HFC.out]; exact hi) (by rw [a1, hkl2, HL.out]; exact hi)), a1.symm⟩)
          have HX := Lib.hid (show rowE l bs = 0 by unfold rowE; rw [if_neg (by simp [HG.out]), HFS.out, if_neg (by rw [HFC.out]; simp), if_neg (by rw [HV2.out.1]; simp)])
          have HX2 := Lib.hid (show rowV l bs = vs by unfold rowV; rw [if_pos HX.out, HFS.out, HV2.out.1]; rfl)
          go_wp2
          go_ret2
          rw [HX.out, HX2.out]
          exact ⟨_, _, _, rfl, HV2.out.2, HO.out.mono HB2.out.size, hop0 HB2.out HBR.out⟩
    · have HX := Lib.hid (show rowE l bs = 121 by unfold rowE; rw [if_neg (by simp [HG.out]), hfs, if_pos hc])
      have HX2 := Lib.hid (show rowV l bs = [] by unfold rowV; rw [HX.out, if_neg (by decide)])
      obtain ⟨nf, hnf⟩ : ∃ nf, (fs.map txt).length = nf := ⟨_, rfl⟩
      have hne : ((nf : Int) != (len : Int)) = true := by
        rw [bne_iff_ne]
        simp at hnf
        omega
      have HNF := Lib.hid hnf
      clear hc hnf hr hl hw hl1 hl12 hm hfs
      go_enter Tryd.func17, Tryd.ntmps17
      go_wp2_with (first
        | (go_at_call 10; refine HRG.out.mono ?_; rintro e w1 ⟨rfl, rfl⟩)
        | (go_at_call 19; refine (HSPL.out _).mono ?_; rintro e w2 ⟨A2, n2, c2, rfl, hn2, ho2, hb2⟩; have HB2 := Lib.hid hb2; rw [HNF.out] at hn2; subst hn2; clear ho2 hb2))
      go_ret2
      rw [HX.out, HX2.out]
      exact row_err rfl rfl HB2.out
end Go.Proofs.YtfkfgabepjpdlaaDoor
