/- Layer 17, walked: the document's Apply. -/
import Derived.Test.YtmeoednndfgffaaTaR2
namespace Go.Proofs.Ytmeoednndfgffaa
open Go Go.ChangeShapes Go.WideShapes Go.ChangeAt Go.RowKit
set_option linter.unusedVariables false
set_option linter.unusedSimpArgs false
theorem setK_len : ∀ (l : List Kp) (k v : ByteArray), (setK l k v).length ≤ l.length + 1
  | [], k, v => by simp [setK]
  | d :: r, k, v => by
    have := setK_len r k v
    simp only [setK]
    split
    · simpa using this
    · split <;> simp
theorem dropK_len (l : List Kp) (k : ByteArray) : (dropK l k).length ≤ l.length := List.length_filter_le _ _
set_option maxHeartbeats 4000000 in
set_option maxRecDepth 40000 in
theorem rapply_any (l : List Kp) (hr : RiseK l) (cs : List Kc) (n0 c0 nc cc : Nat) (A0 Ac : Option Addr) (w : World) (hl : n0 = l.length) (hc : nc = cs.length) (hn : n0 + nc ≤ 998) (hA : PRow w w.heap.size A0 l) (hC : CRow w w.heap.size Ac cs) :
    Calls Try.prog 24 #[.slice A0 n0 c0, .slice Ac nc cc] w (PairsPost w (applyK l cs)) := by
  have HC := Lib.hid hC
  have HLC := Lib.hid hc
  have HN0 := Lib.hid (show n0 + nc + 2 ≤ limT by unfold limT; omega)
  obtain ⟨R, hR⟩ : ∃ R, applyK l cs = R := ⟨_, rfl⟩
  have HS0 := Lib.hid (show applyK l (cs.drop 0) = R from hR)
  rw [hR]
  have HRI := Lib.hid hr
  have HL := Lib.hid hl
  have HA := Lib.hid hA
  clear hC hc hn hR hr hl hA
  go_enter Try.func24, Try.ntmps24
  go_wp2
  go_loopw [0, 5] (fun lv iv wr => ∃ A n c m i, lv = .slice A n c ∧ iv = .int .i64 ((i : Nat) : Int) ∧ i ≤ nc ∧ Hid (n = m.length) ∧ Hid (n ≤ n0 + i) ∧ Hid (applyK m (cs.drop i) = R) ∧ Hid (RiseK m) ∧ Hid (PRow wr wr.heap.size A m) ∧ Hid (Below w.heap.size w wr)) (fun _ iv _ => nc - (intOf iv).toNat)
  case atStart => exact ⟨_, _, _, l, 0, rfl, rfl, Nat.zero_le _, HL, Lib.hid (Nat.le_refl _), HS0, HRI, HA, Lib.hid (Below.refl _ _)⟩
  case round =>
    obtain ⟨A, n, c, m, i, rfl, rfl, hi, HNM, HNI, HAP, HRM, HAM, HB⟩ := hrel
    by_cases hlt : i < nc
    · have hil : i < cs.length := by rw [← HLC.out]; exact hlt
      obtain ⟨bc, oc, rfl, hbc, k0, k1, k2⟩ := (HC.out.below HB.out) i hil
      have HN := Lib.hid (show n ≤ n0 + i ∧ n0 + i + 2 < limT + 1 ∧ i < limT from ⟨HNI.out, by have := HN0.out; omega, by have := HN0.out; omega⟩)
      have HX := Lib.hid (show applyK (doK m cs[i]) (cs.drop (i + 1)) = R by
        have h := HAP.out
        rw [List.drop_eq_getElem_cons hil] at h
        exact h)
      have HDR := Lib.hid (doK_rise HRM.out cs[i])
      obtain ⟨⟨xk, xv, xg⟩, hx⟩ : ∃ x, cs[i]'hil = x := ⟨_, rfl⟩
      rw [hx] at k0 k1 k2 HX HDR
      have i1 : (0 : Int) ≤ (i : Int) := by omega
      have i2 : (i : Int) < (nc : Int) := by omega
      have i3 : i + 1 ≤ 9223372036854775807 := by have := HN.out.2.2; unfold limT at this; omega
      clear hx hil
      dsimp only at k0 k1 k2
      cases xg with
      | true =>
        have HD := Lib.hid (rdrop_any m xk n c A wr HNM.out (by have := HN.out; unfold limT at this; omega) HAM.out)
        clear hbc
        go_wp2_with (go_at_call 16; go_loud (refine HD.out.mono ?_; rintro e w3 ⟨A3, c3, rfl, hr3, hb3⟩; have HR3 := Lib.hid hr3; have HB3 := Lib.hid (HB.out.trans (hb3.mono HB.out.size)); clear hr3 hb3))
        go_roundw
        case rel => exact ⟨_, _, _, dropK m xk, i + 1, rfl, by go_num, by omega, Lib.hid rfl, Lib.hid (by have := dropK_len m xk; have := HNI.out; have := HNM.out; omega), HX, HDR, HR3, HB3⟩
        case measure => simp [intOf]; omega
      | false =>
        have HD := Lib.hid (fun (U : World) (h : PRow U U.heap.size A m) => rset_any m HRM.out xk xv n c A U HNM.out (by have := HN.out; unfold limT at this; omega) h)
        have HSK := Lib.hid (show ∀ U : World, Below w.heap.size wr U → U.cell? ⟨bc, oc + i * 3, none⟩ = some (.string xk) ∧ U.cell? ⟨bc, oc + i * 3 + 1, none⟩ = some (.string xv) from fun U hU => ⟨(hU.cell (p := ⟨bc, _, none⟩) hbc).trans k0, (hU.cell (p := ⟨bc, _, none⟩) hbc).trans k1⟩)
        clear hbc
        go_wp2
        have hS := HSK.out wr.drew (Below.refl w.heap.size wr).drew
        refine held_begin 13 (fun W => W.cell? ⟨bc, oc + i * 3, none⟩ = some (.string xk) ∧ W.cell? ⟨bc, oc + i * 3 + 1, none⟩ = some (.string xv)) rfl (by kernel_rfl) ?_
        refine held_take (i := 0) (t := 24) (v := (.slice A n c)) (fuel := 12) rfl rfl (by kernel_rfl) (by kernel_rfl) (by kernel_rfl) (fun _ _ _ h => h) (.inl ⟨rfl, fun W hW => by obtain ⟨s0, s1⟩ := hW; simp [execOp, Act.eval, go_sem, s0, s1]⟩) hS ?_
        simp only [List.setIfInBounds_toArray, List.set_cons_succ, List.set_cons_zero]
        refine held_take (i := 1) (t := 25) (v := (.slice (some ⟨bc, oc, none⟩) nc cc)) (fuel := 11) rfl rfl (by kernel_rfl) (by kernel_rfl) (by kernel_rfl) (fun _ _ _ h => h) (.inl ⟨rfl, fun W hW => by obtain ⟨s0, s1⟩ := hW; simp [execOp, Act.eval, go_sem, s0, s1]⟩) hS ?_
        simp only [List.setIfInBounds_toArray, List.set_cons_succ, List.set_cons_zero]
        refine held_take (i := 2) (t := 26) (v := (.int .i64 (i : Int))) (fuel := 10) rfl rfl (by kernel_rfl) (by kernel_rfl) (by kernel_rfl) (fun _ _ _ h => h) (.inl ⟨rfl, fun W hW => by obtain ⟨s0, s1⟩ := hW; simp [execOp, Act.eval, go_sem, s0, s1]⟩) hS ?_
        simp only [List.setIfInBounds_toArray, List.set_cons_succ, List.set_cons_zero]
        refine held_take (i := 3) (t := 27) (v := (.pointer (some ⟨bc, oc + i * 3, none⟩))) (fuel := 9) rfl rfl (by kernel_rfl) (by kernel_rfl) (by kernel_rfl) (fun _ _ _ h => h) (.inl ⟨rfl, fun W hW => by obtain ⟨s0, s1⟩ := hW; simp [execOp, Act.eval, go_sem, s0, s1, i1, i2, hlt]⟩) hS ?_
        simp only [List.setIfInBounds_toArray, List.set_cons_succ, List.set_cons_zero]
        refine held_take (i := 4) (t := 28) (v := (.pointer (some ⟨bc, oc + i * 3, none⟩))) (fuel := 8) rfl rfl (by kernel_rfl) (by kernel_rfl) (by kernel_rfl) (fun _ _ _ h => h) (.inl ⟨rfl, fun W hW => by obtain ⟨s0, s1⟩ := hW; simp [execOp, Act.eval, go_sem, s0, s1]⟩) hS ?_
        simp only [List.setIfInBounds_toArray, List.set_cons_succ, List.set_cons_zero]
        refine held_take (i := 5) (t := 29) (v := (.string xk)) (fuel := 7) rfl rfl (by kernel_rfl) (by kernel_rfl) (by kernel_rfl) (fun _ _ _ h => h) (.inl ⟨rfl, fun W hW => by obtain ⟨s0, s1⟩ := hW; simp [execOp, Act.eval, go_sem, s0, s1]⟩) hS ?_
        simp only [List.setIfInBounds_toArray, List.set_cons_succ, List.set_cons_zero]
        refine held_take (i := 6) (t := 30) (v := (.slice (some ⟨bc, oc, none⟩) nc cc)) (fuel := 6) rfl rfl (by kernel_rfl) (by kernel_rfl) (by kernel_rfl) (fun _ _ _ h => h) (.inl ⟨rfl, fun W hW => by obtain ⟨s0, s1⟩ := hW; simp [execOp, Act.eval, go_sem, s0, s1]⟩) hS ?_
        simp only [List.setIfInBounds_toArray, List.set_cons_succ, List.set_cons_zero]
        refine held_take (i := 7) (t := 31) (v := (.int .i64 (i : Int))) (fuel := 5) rfl rfl (by kernel_rfl) (by kernel_rfl) (by kernel_rfl) (fun _ _ _ h => h) (.inl ⟨rfl, fun W hW => by obtain ⟨s0, s1⟩ := hW; simp [execOp, Act.eval, go_sem, s0, s1]⟩) hS ?_
        simp only [List.setIfInBounds_toArray, List.set_cons_succ, List.set_cons_zero]
        refine held_take (i := 8) (t := 32) (v := (.pointer (some ⟨bc, oc + i * 3, none⟩))) (fuel := 4) rfl rfl (by kernel_rfl) (by kernel_rfl) (by kernel_rfl) (fun _ _ _ h => h) (.inl ⟨rfl, fun W hW => by obtain ⟨s0, s1⟩ := hW; simp [execOp, Act.eval, go_sem, s0, s1, i1, i2, hlt]⟩) hS ?_
        simp only [List.setIfInBounds_toArray, List.set_cons_succ, List.set_cons_zero]
        refine held_take (i := 9) (t := 33) (v := (.pointer (some ⟨bc, oc + i * 3 + 1, none⟩))) (fuel := 3) rfl rfl (by kernel_rfl) (by kernel_rfl) (by kernel_rfl) (fun _ _ _ h => h) (.inl ⟨rfl, fun W hW => by obtain ⟨s0, s1⟩ := hW; simp [execOp, Act.eval, go_sem, s0, s1]⟩) hS ?_
        simp only [List.setIfInBounds_toArray, List.set_cons_succ, List.set_cons_zero]
        refine held_take (i := 10) (t := 34) (v := (.string xv)) (fuel := 2) rfl rfl (by kernel_rfl) (by kernel_rfl) (by kernel_rfl) (fun _ _ _ h => h) (.inl ⟨rfl, fun W hW => by obtain ⟨s0, s1⟩ := hW; simp [execOp, Act.eval, go_sem, s0, s1]⟩) hS ?_
        simp only [List.setIfInBounds_toArray, List.set_cons_succ, List.set_cons_zero]
        refine held_call (i := 11) rfl (by kernel_rfl) (by kernel_rfl) ?_
        simp [Oper.wp, execOp, Act.eval, Act.put, go_sem]
        refine (HD.out _ (HAM.out.on (Below.refl _ _).drew)).mono ?_
        rintro e w3 ⟨A3, c3, rfl, hr3, hb3⟩
        have HR3 := Lib.hid hr3
        have hb4 : Below w.heap.size wr w3 := (Below.refl w.heap.size wr).drew.trans (hb3.mono HB.out.size)
        have HB3 := Lib.hid (HB.out.trans hb4)
        have hS2 := HSK.out _ hb4
        refine ⟨hS2, ?_⟩
        clear hS hr3 hb3 hb4
        try simp only [List.setIfInBounds_toArray, List.set_cons_succ, List.set_cons_zero]
        refine held_call (i := 12) rfl (by kernel_rfl) (by kernel_rfl) ?_
        simp [Oper.wp, execOp, Act.eval, Act.put, go_sem]
        refine ⟨hS2, ?_⟩
        clear hS2
        try simp only [List.setIfInBounds_toArray, List.set_cons_succ, List.set_cons_zero]
        refine wpAnyH_done (by kernel_rfl) ?_ 0
        go_wp2
        go_roundw
        case rel => exact ⟨_, _, _, setK m xk xv, i + 1, rfl, by go_num, by omega, Lib.hid rfl, Lib.hid (by have := setK_len m xk xv; have := HNI.out; have := HNM.out; omega), HX, HDR, HR3, HB3⟩
        case measure => simp [intOf]; omega
    · have HD := Lib.hid (show m = R by
        have h := HAP.out
        rw [List.drop_of_length_le (by rw [← HLC.out]; omega)] at h
        exact h)
      have HAR := HAM
      rw [HD.out] at HAR
      have HNR := HNM
      rw [HD.out] at HNR
      go_wp2
      go_ret
      obtain rfl := HNR.out
      exact ⟨_, _, rfl, HAR.out, HB.out⟩
end Go.Proofs.Ytmeoednndfgffaa
