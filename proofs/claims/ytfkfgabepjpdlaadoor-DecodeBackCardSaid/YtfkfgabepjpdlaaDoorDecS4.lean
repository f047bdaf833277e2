/- Layer 12, walked: the record of a row, by the document. -/
import Derived.Test.YtfkfgabepjpdlaaDoorDecS3
namespace Go.Proofs.YtfkfgabepjpdlaaDoor
open Go.ChangeShapes Go.WideShapes Go.ChangeAt Go.RowKit
set_option linter.unusedVariables false

def RRecPost (E : Int) (bs : List UInt8) (w : World) (e : Ending) (w' : World) : Prop :=
  e = .returned (.tuple #[.string (txt bs), .int .i64 E]) ∧ Below w.heap.size w w'
theorem rrec_err {w w' : World} {E E2 : Int} {bs : List UInt8} (h : E = E2) (h2 : bs = []) (hb : Below w.heap.size w w') : RRecPost E bs w (.returned (.tuple #[.string ⟨#[]⟩, .int .i64 E2])) w' := by
  subst h h2
  exact ⟨rfl, hb⟩
theorem esc_take {x : List UInt8} {j : Nat} (hj : j < x.length) : escT (x.take (j + 1)) = escT (x.take j) ++ (if x[j] = 44 ∨ x[j] = 92 then [92, x[j]] else [x[j]]) := by
  rw [List.take_succ_eq_append_getElem hj, escT_snoc]
theorem one_of {s : ByteArray} {j : Nat} (h : j < s.size) : s.extract j (j + 1) = txt [s[j]] := by
  rw [sub_txt]
  have hl : j < s.data.toList.length := by rw [← size_eq]; exact h
  rw [List.drop_eq_getElem_cons hl, list_at h, show j + 1 - j = 1 by omega]
  rfl
set_option maxHeartbeats 8000000 in
set_option maxRecDepth 20000 in
theorem rrec_cols (l : List C) (hw : ∀ c ∈ l, c.wf) (len cap : Nat) (A : Option Addr) (vs : List V) (hwv : ∀ v ∈ vs, v.wf) (m cv : Nat) (Av : Option Addr) (w : World) (hl : len = l.length) (hm : len ≤ maxLen) (hr : Row2 w w.heap.size A l)
    (hmv : m = vs.length) (hmm : m ≤ maxLen) (hv : Row3 w w.heap.size Av vs) :
    Calls Tryd.prog 24 #[.slice A len cap, .slice Av m cv] w (RRecPost (recE l vs) (recV l vs) w) := by
  have HRG := Lib.hid (rright_any l hw len cap A w hl hm hr)
  obtain ⟨gg, hgg⟩ : ∃ gg, rightB l = gg := ⟨_, rfl⟩
  rw [hgg] at HRG
  have HG := Lib.hid hgg
  clear hgg
  cases gg
  · have HX := Lib.hid (show recE l vs = 120 by unfold recE; rw [if_pos HG.out])
    have HX2 := Lib.hid (show recV l vs = [] by unfold recV; rw [HX.out, if_neg (by decide)])
    clear hl hm hr hw hv hmv hwv
    go_enter Tryd.func24, Tryd.ntmps24
    go_wp2_with (go_at_call 10; refine HRG.out.mono ?_; rintro e w1 ⟨rfl, rfl⟩)
    go_ret2
    rw [HX.out, HX2.out]
    exact rrec_err rfl rfl (Below.refl _ _)
  · obtain ⟨hl1, hl12⟩ := rightB_len HG.out
    have HR := Lib.hid hr
    have HRV := Lib.hid hv
    have HL := Lib.hid hl
    have HW := Lib.hid hw
    have HWV := Lib.hid hwv
    have HMV := Lib.hid hmv
    have hlen : len ≤ 12 := by omega
    have hm63 : m ≤ 9223372036854775807 := by unfold maxLen at hmm; omega
    by_cases hc : vs.length = l.length
    · have HVC := Lib.hid hc
      have hml : m = len := by omega
      clear hr hv hl hw hwv hmv hl1 hl12 hc hm hmm hm63
      subst hml
      have hq0 : ((m : Int) != (m : Int)) = false := by simp
      go_enter Tryd.func24, Tryd.ntmps24
      go_wp2_with (go_at_call 10; refine HRG.out.mono ?_; rintro e w1 ⟨rfl, rfl⟩)
      clear hq0
      go_loopw [6, 7] (fun sv iv wr_ => ∃ (k : Nat) (S : ByteArray), k ≤ m ∧ iv = .int .i64 (k : Int) ∧ sv = .string S ∧ S.size ≤ k * 401 ∧ Hid (∀ j (hj : j < l.length) (hv : j < vs.length), j < k → fits l[j] vs[j] = true) ∧ Hid (S = txt (jnK vs k)) ∧ Hid (Below w.heap.size w wr_)) (fun _ iv _ => m - (intOf iv).toNat)
      case atStart => exact ⟨0, ⟨#[]⟩, Nat.zero_le _, rfl, rfl, by decide, Lib.hid (fun j _ _ h => by omega), Lib.hid rfl, Lib.hid (Below.refl _ _)⟩
      case round =>
        obtain ⟨wz, rfl⟩ : ∃ x, x = wr := ⟨_, rfl⟩
        obtain ⟨k, S, hk, rfl, rfl, hSZ, HA, HSJ, HBR⟩ := hrel
        by_cases hlt : k < m
        · have hkv : k < vs.length := by rw [← HMV.out]; exact hlt
          have hkl : k < l.length := by rw [← HL.out]; exact hlt
          obtain ⟨b, off, rfl, hBb, d0, d1⟩ := (HR.out.below HBR.out) k hkl
          obtain ⟨b2, off2, rfl, hBb2, v0, v1, v2⟩ := (HRV.out.below HBR.out) k hkv
          obtain ⟨c, HC⟩ : ∃ c, Hid (l[k] = c) := ⟨_, Lib.hid rfl⟩
          obtain ⟨v, HV⟩ : ∃ v, Hid (vs[k] = v) := ⟨_, Lib.hid rfl⟩
          rw [HC.out] at d0 d1
          rw [HV.out] at v0 v1 v2
          have hwv : v.wf := HWV.out v (by rw [← HV.out]; exact List.getElem_mem hkv)
          have HWFV := Lib.hid hwv
          have HCV := Lib.hid (fun W => rcheck_any v hwv W)
          unfold V.val at HCV
          have i1 : (0 : Int) ≤ (k : Int) := by omega
          have i2 : (k : Int) < (m : Int) := by omega
          clear hwv d0
          go_wp2_with fail
          have HBX := Lib.hid (new_val wz v)
          have HBV := Lib.hid (show Below wz.heap.size wz (wz.alloc (.cells #[.int .i64 v.k, .int .i64 v.n, .string v.s] 53)) from (Below.refl _ _).alloc (Nat.le_refl _) _)
          have HD1 := Lib.hid (later_cell HBV.out d1)
          have HBW := Lib.hid (hop0 HBR.out HBV.out)
          obtain ⟨W0, hW0⟩ : ∃ W0, wz.alloc (.cells #[.int .i64 v.k, .int .i64 v.n, .string v.s] 53) = W0 := ⟨_, rfl⟩
          obtain ⟨g, hg⟩ : ∃ g, wz.heap.size = g := ⟨_, rfl⟩
          rw [hW0] at HBX HBV HD1 HBW ⊢
          rw [hg] at HBX ⊢
          have HGG := Lib.hid hg
          clear hW0 hg v0 v1 v2 d1
          have hwv := HWFV.out
          by_cases hck : chk v = 0
          · have HCK := Lib.hid hck
            have hkinds : (v.k = 0 ∧ Hid (wr v = nul)) ∨ (v.k = 1 ∧ Hid (wr v = Lib.itoa v.n)) ∨ (v.k = 2 ∧ v.n = 1 ∧ Hid (wr v = tru)) ∨ (v.k = 2 ∧ v.n = 0 ∧ Hid (wr v = fls)) ∨ (v.k = 3 ∧ Hid (wr v = escT v.s.data.toList)) := by
              rcases chk_kinds hck with ⟨a1, _, _⟩ | ⟨a1, _⟩ | ⟨a1, a2 | a2, _⟩ | ⟨a1, _, _⟩
              · exact .inl ⟨a1, Lib.hid (by unfold wr; rw [a1]; rfl)⟩
              · exact .inr (.inl ⟨a1, Lib.hid (by unfold wr; rw [a1]; rfl)⟩)
              · exact .inr (.inr (.inr (.inl ⟨a1, a2, Lib.hid (by unfold wr; rw [a1, a2]; rfl)⟩)))
              · exact .inr (.inr (.inl ⟨a1, a2, Lib.hid (by unfold wr; rw [a1, a2]; rfl)⟩))
              · exact .inr (.inr (.inr (.inr ⟨a1, Lib.hid (by unfold wr; rw [a1]; rfl)⟩)))
            rw [hck] at HCV
            by_cases hk0 : v.k = 0
            · have HFT := Lib.hid (show fits c v = true by rw [fits_of, decide_eq_true hck, decide_eq_true (show v.k = 0 ∨ v.k = c.k from .inl hk0)]; rfl)
              have r1 : (v.k != 0) = false := by rw [hk0]; rfl
              clear hck hk0
              have hS : Hid (Box3 W0.drew g v ∧ W0.drew.cell? ⟨b, off + k * 2 + 1, none⟩ = some (.int .i64 c.k)) := Lib.hid ⟨HBX.out, HD1.out⟩
              refine held_begin 18 (fun W => Hid (Box3 W g v ∧ W.cell? ⟨b, off + k * 2 + 1, none⟩ = some (.int .i64 c.k))) rfl (by kernel_rfl) ?_
              refine held_take (i := 0) (t := 28) (v := (.agg #[.int .i64 v.k, .int .i64 v.n, .string v.s])) (fuel := 17) rfl rfl (by kernel_rfl) (by kernel_rfl) (by kernel_rfl) (fun _ _ _ h => h) (.inl ⟨rfl, fun W hW => by simp [execOp, Act.eval, go_sem, hW.out.1.c0, hW.out.1.c1, hW.out.1.c2]⟩) hS ?_
              simp only [List.setIfInBounds_toArray, List.set_cons_succ, List.set_cons_zero]
              refine held_call (i := 1) rfl (by kernel_rfl) (by kernel_rfl) ?_
              simp [Oper.wp, execOp, Act.eval, Act.put, go_sem]
              refine (HCV.out _).mono ?_
              rintro e W1 ⟨rfl, hb1⟩
              have HB1 := Lib.hid (show Below W0.heap.size W0 W1 from ((Below.refl W0.heap.size W0).drew).trans hb1)
              have hS : Hid (Box3 W1 g v ∧ W1.cell? ⟨b, off + k * 2 + 1, none⟩ = some (.int .i64 c.k)) := Lib.hid ⟨hS.out.1.below hb1, later_cell hb1 hS.out.2⟩
              clear hb1
              refine ⟨hS, ?_⟩
              try simp only [List.setIfInBounds_toArray, List.set_cons_succ, List.set_cons_zero]
              refine held_take (i := 2) (t := 30) (v := (.bool false)) (fuel := 15) rfl rfl (by kernel_rfl) (by kernel_rfl) (by kernel_rfl) (fun _ _ _ h => h) (.inl ⟨rfl, fun W hW => by simp [execOp, Act.eval, go_sem]⟩) hS ?_
              simp only [List.setIfInBounds_toArray, List.set_cons_succ, List.set_cons_zero]
              refine held_take (i := 3) (t := 31) (v := (.bool false)) (fuel := 14) rfl rfl (by kernel_rfl) (by kernel_rfl) (by kernel_rfl) (fun _ _ _ h => h) (.inl ⟨rfl, fun W hW => by simp [execOp, Act.eval, go_sem]⟩) hS ?_
              simp only [List.setIfInBounds_toArray, List.set_cons_succ, List.set_cons_zero]
              refine held_take (i := 4) (t := 32) (v := (.pointer (some ⟨g, 0, none⟩))) (fuel := 13) rfl rfl (by kernel_rfl) (by kernel_rfl) (by kernel_rfl) (fun _ _ _ h => h) (.inl ⟨rfl, fun W hW => by simp [execOp, Act.eval, go_sem]⟩) hS ?_
              simp only [List.setIfInBounds_toArray, List.set_cons_succ, List.set_cons_zero]
              refine held_take (i := 5) (t := 33) (v := (.int .i64 v.k)) (fuel := 12) rfl rfl (by kernel_rfl) (by kernel_rfl) (by kernel_rfl) (fun _ _ _ h => h) (.inl ⟨rfl, fun W hW => by simp [execOp, Act.eval, go_sem, hW.out.1.c0]⟩) hS ?_
              simp only [List.setIfInBounds_toArray, List.set_cons_succ, List.set_cons_zero]
              refine held_take (i := 6) (t := 34) (v := (.bool false)) (fuel := 11) rfl rfl (by kernel_rfl) (by kernel_rfl) (by kernel_rfl) (fun _ _ _ h => h) (.inl ⟨rfl, fun W hW => by simp [execOp, Act.eval, go_sem, r1]⟩) hS ?_
              simp only [List.setIfInBounds_toArray, List.set_cons_succ, List.set_cons_zero]
              refine held_take (i := 7) (t := 35) (v := (.bool false)) (fuel := 10) rfl rfl (by kernel_rfl) (by kernel_rfl) (by kernel_rfl) (fun _ _ _ h => h) (.inl ⟨rfl, fun W hW => by simp [execOp, Act.eval, go_sem]⟩) hS ?_
              simp only [List.setIfInBounds_toArray, List.set_cons_succ, List.set_cons_zero]
              refine held_take (i := 8) (t := 36) (v := undef) (fuel := 9) rfl rfl (by kernel_rfl) (by kernel_rfl) (by kernel_rfl) (fun _ _ _ h => h) (.inr ⟨rfl, rfl⟩) hS ?_
              simp only [List.setIfInBounds_toArray, List.set_cons_succ, List.set_cons_zero]
              refine held_take (i := 9) (t := 37) (v := undef) (fuel := 8) rfl rfl (by kernel_rfl) (by kernel_rfl) (by kernel_rfl) (fun _ _ _ h => h) (.inr ⟨rfl, rfl⟩) hS ?_
              simp only [List.setIfInBounds_toArray, List.set_cons_succ, List.set_cons_zero]
              refine held_take (i := 10) (t := 38) (v := undef) (fuel := 7) rfl rfl (by kernel_rfl) (by kernel_rfl) (by kernel_rfl) (fun _ _ _ h => h) (.inr ⟨rfl, rfl⟩) hS ?_
              simp only [List.setIfInBounds_toArray, List.set_cons_succ, List.set_cons_zero]
              refine held_take (i := 11) (t := 39) (v := undef) (fuel := 6) rfl rfl (by kernel_rfl) (by kernel_rfl) (by kernel_rfl) (fun _ _ _ h => h) (.inr ⟨rfl, rfl⟩) hS ?_
              simp only [List.setIfInBounds_toArray, List.set_cons_succ, List.set_cons_zero]
              refine held_take (i := 12) (t := 40) (v := undef) (fuel := 5) rfl rfl (by kernel_rfl) (by kernel_rfl) (by kernel_rfl) (fun _ _ _ h => h) (.inr ⟨rfl, rfl⟩) hS ?_
              simp only [List.setIfInBounds_toArray, List.set_cons_succ, List.set_cons_zero]
              refine held_take (i := 13) (t := 41) (v := undef) (fuel := 4) rfl rfl (by kernel_rfl) (by kernel_rfl) (by kernel_rfl) (fun _ _ _ h => h) (.inr ⟨rfl, rfl⟩) hS ?_
              simp only [List.setIfInBounds_toArray, List.set_cons_succ, List.set_cons_zero]
              refine held_take (i := 14) (t := 42) (v := undef) (fuel := 3) rfl rfl (by kernel_rfl) (by kernel_rfl) (by kernel_rfl) (fun _ _ _ h => h) (.inr ⟨rfl, rfl⟩) hS ?_
              simp only [List.setIfInBounds_toArray, List.set_cons_succ, List.set_cons_zero]
              refine held_take (i := 15) (t := 43) (v := undef) (fuel := 2) rfl rfl (by kernel_rfl) (by kernel_rfl) (by kernel_rfl) (fun _ _ _ h => h) (.inr ⟨rfl, rfl⟩) hS ?_
              simp only [List.setIfInBounds_toArray, List.set_cons_succ, List.set_cons_zero]
              refine held_take (i := 16) (t := 44) (v := (.bool false)) (fuel := 1) rfl rfl (by kernel_rfl) (by kernel_rfl) (by kernel_rfl) (fun _ _ _ h => h) (.inl ⟨rfl, fun W hW => by simp [execOp, Act.eval, go_sem]⟩) hS ?_
              simp only [List.setIfInBounds_toArray, List.set_cons_succ, List.set_cons_zero]
              refine held_take (i := 17) (t := 45) (v := (.bool false)) (fuel := 0) rfl rfl (by kernel_rfl) (by kernel_rfl) (by kernel_rfl) (fun _ _ _ h => h) (.inl ⟨rfl, fun W hW => by simp [execOp, Act.eval, go_sem]⟩) hS ?_
              simp only [List.setIfInBounds_toArray, List.set_cons_succ, List.set_cons_zero]
              refine wpAnyH_done (by kernel_rfl) ?_ 0
              have HA2 := Lib.hid (show ∀ j (hj : j < l.length) (hv : j < vs.length), j < k + 1 → fits l[j] vs[j] = true from fun j hj hv h => by
                by_cases h2 : j = k
                · subst h2; rw [HC.out, HV.out]; exact HFT.out
                · exact HA.out j hj hv (by omega))
              have c0 := hS.out.1.c0
              have c1 := hS.out.1.c1
              have c2 := hS.out.1.c2
              have HBX1 := Lib.hid hS.out.1
              have HBW1 := Lib.hid (hop0 HBW.out HB1.out)
              have HWL := Lib.hid (wr_len hwv HCK.out)
              have hpre : (decide ((0 : Int) < (k : Int)) = false ∧ k = 0) ∨ (decide ((0 : Int) < (k : Int)) = true ∧ k ≠ 0) := by
                by_cases h : k = 0
                · exact .inl ⟨decide_eq_false (by omega), h⟩
                · exact .inr ⟨decide_eq_true (by omega), h⟩
              obtain ⟨P, hP⟩ : ∃ P, (if k = 0 then [] else jnK vs k ++ [44]) = P := ⟨_, rfl⟩
              have HJ := Lib.hid (show jnK vs (k + 1) = P ++ wr v by rw [jnK_succ hkv, hP, HV.out])
              have hszS : S.size = (jnK vs k).length := by rw [HSJ.out, txt_size]
              have HPL := Lib.hid (show P.length ≤ k * 401 + 1 by rw [← hP]; split <;> simp <;> omega)
              obtain ⟨S1, HS1⟩ : ∃ S1, Hid (txt P = S1) := ⟨_, Lib.hid rfl⟩
              have hs1 : S1.size ≤ k * 401 + 1 := by rw [← HS1.out, txt_size]; exact HPL.out
              clear hS hszS
              rcases hpre with ⟨p1, hk0⟩ | ⟨p1, hk0⟩
              · have HSS := Lib.hid (show S = S1 by rw [HSJ.out, ← HS1.out, ← hP, if_pos hk0, hk0]; rfl)
                rw [HSS.out]
                have hp0 : ¬ 0 < k := by omega
                clear hP hk0
                rcases hkinds with ⟨hk0, HWV0⟩ | ⟨hk0, HWV0⟩ | ⟨hk0, hvn, HWV0⟩ | ⟨hk0, hvn, HWV0⟩ | ⟨hk0, HWV0⟩
                · have hc2 : ∃ S2, S1 ++ ⟨#[92, 78]⟩ = S2 := ⟨_, rfl⟩
                  obtain ⟨S2, hc2⟩ := hc2
                  have HW2 := Lib.hid (show txt (P ++ wr v) = S2 by rw [← hc2, ← HS1.out, HWV0.out]; exact (txt_app P [92, 78]).symm)
                  have hg2 : ¬ 9223372036854775807 < S1.size + (⟨#[92, 78]⟩ : ByteArray).size := by
                    rw [show (⟨#[92, 78]⟩ : ByteArray).size = 2 from rfl]; omega
                  rw [hk0] at c0
                  go_wp2
                  clear hc2 hg2
                  have HN2 := Lib.hid (show S2 = txt (jnK vs (k + 1)) by rw [HJ.out, ← HW2.out])
                  have hs2 : S2.size ≤ (k + 1) * 401 := by rw [HN2.out, txt_size, HJ.out, List.length_append]; have := HPL.out; have := HWL.out; omega
                  go_roundw
                  case rel => exact ⟨k + 1, S2, by omega, by go_num, rfl, hs2, HA2, HN2, HBW1⟩
                  case measure => simp [intOf]; omega
                · have HDG := Lib.hid (fun W => digits_any v.n hwv.2.1 W)
                  have hc2 : ∃ S2, S1 ++ txt (Lib.itoa v.n) = S2 := ⟨_, rfl⟩
                  obtain ⟨S2, hc2⟩ := hc2
                  have HW2 := Lib.hid (show txt (P ++ wr v) = S2 by rw [← hc2, ← HS1.out, HWV0.out]; exact (txt_app P _).symm)
                  have hg2 : ¬ 9223372036854775807 < S1.size + (txt (Lib.itoa v.n)).size := by
                    rw [txt_size]
                    have := HWL.out
                    rw [HWV0.out] at this
                    omega
                  rw [hk0] at c0
                  obtain ⟨SD, hSD⟩ : ∃ SD, txt (Lib.itoa v.n) = SD := ⟨_, rfl⟩
                  rw [hSD] at HDG hc2 hg2
                  clear hSD
                  go_wp2_with (go_at_call 35; refine (HDG.out _).mono ?_; rintro e W2 ⟨rfl, hb2⟩; have HB2 := Lib.hid (hop0 HBW1.out hb2); clear hb2)
                  clear hc2 hg2
                  have HN2 := Lib.hid (show S2 = txt (jnK vs (k + 1)) by rw [HJ.out, ← HW2.out])
                  have hs2 : S2.size ≤ (k + 1) * 401 := by rw [HN2.out, txt_size, HJ.out, List.length_append]; have := HPL.out; have := HWL.out; omega
                  go_roundw
                  case rel => exact ⟨k + 1, S2, by omega, by go_num, rfl, hs2, HA2, HN2, HB2⟩
                  case measure => simp [intOf]; omega
                · have hc2 : ∃ S2, S1 ++ ⟨#[116, 114, 117, 101]⟩ = S2 := ⟨_, rfl⟩
                  obtain ⟨S2, hc2⟩ := hc2
                  have HW2 := Lib.hid (show txt (P ++ wr v) = S2 by rw [← hc2, ← HS1.out, HWV0.out]; exact (txt_app P tru).symm)
                  have hg2 : ¬ 9223372036854775807 < S1.size + (⟨#[116, 114, 117, 101]⟩ : ByteArray).size := by
                    rw [show (⟨#[116, 114, 117, 101]⟩ : ByteArray).size = 4 from rfl]; omega
                  rw [hk0] at c0
                  rw [hvn] at c1
                  go_wp2
                  clear hc2 hg2
                  have HN2 := Lib.hid (show S2 = txt (jnK vs (k + 1)) by rw [HJ.out, ← HW2.out])
                  have hs2 : S2.size ≤ (k + 1) * 401 := by rw [HN2.out, txt_size, HJ.out, List.length_append]; have := HPL.out; have := HWL.out; omega
                  go_roundw
                  case rel => exact ⟨k + 1, S2, by omega, by go_num, rfl, hs2, HA2, HN2, HBW1⟩
                  case measure => simp [intOf]; omega
                · have hc2 : ∃ S2, S1 ++ ⟨#[102, 97, 108, 115, 101]⟩ = S2 := ⟨_, rfl⟩
                  obtain ⟨S2, hc2⟩ := hc2
                  have HW2 := Lib.hid (show txt (P ++ wr v) = S2 by rw [← hc2, ← HS1.out, HWV0.out]; exact (txt_app P fls).symm)
                  have hg2 : ¬ 9223372036854775807 < S1.size + (⟨#[102, 97, 108, 115, 101]⟩ : ByteArray).size := by
                    rw [show (⟨#[102, 97, 108, 115, 101]⟩ : ByteArray).size = 5 from rfl]; omega
                  rw [hk0] at c0
                  rw [hvn] at c1
                  go_wp2
                  clear hc2 hg2
                  have HN2 := Lib.hid (show S2 = txt (jnK vs (k + 1)) by rw [HJ.out, ← HW2.out])
                  have hs2 : S2.size ≤ (k + 1) * 401 := by rw [HN2.out, txt_size, HJ.out, List.length_append]; have := HPL.out; have := HWL.out; omega
                  go_roundw
                  case rel => exact ⟨k + 1, S2, by omega, by go_num, rfl, hs2, HA2, HN2, HBW1⟩
                  case measure => simp [intOf]; omega
                · rw [hk0] at c0
                  obtain ⟨x, hx⟩ : ∃ x, v.s = x := ⟨_, rfl⟩
                  rw [hx] at c2
                  have HWX := Lib.hid (show wr v = escT x.data.toList by rw [← hx]; exact HWV0.out)
                  have hx200 : x.size ≤ 200 := by
                    have h := chk_kinds HCK.out
                    rw [hk0, hx] at h
                    omega
                  have HXS := Lib.hid (size_eq x)
                  clear hx
                  have HT0 := Lib.hid (show S1 = txt (P ++ escT (x.data.toList.take 0)) by rw [← HS1.out, List.take_zero, escT_nil, List.append_nil])
                  go_wp2
                  go_loop [6, 9] (fun sv iv => ∃ (j : Nat) (T : ByteArray), j ≤ x.size ∧ iv = .int .i64 (j : Int) ∧ sv = .string T ∧ Hid (T = txt (P ++ escT (x.data.toList.take j))) ∧ T.size ≤ k * 401 + 1 + 2 * j) (fun _ iv => x.size - (intOf iv).toNat)
                  case atStart => exact ⟨0, S1, Nat.zero_le _, rfl, rfl, HT0, by omega⟩
                  case round =>
                    obtain ⟨j, T, hj, rfl, rfl, HT, hTs⟩ := hrel
                    by_cases hjl : j < x.size
                    · have hjx : j < x.data.toList.length := by rw [← HXS.out]; exact hjl
                      obtain ⟨ch, hch⟩ : ∃ ch, x[j] = ch := ⟨_, rfl⟩
                      have HCH := Lib.hid (show x.data.toList[j] = ch by rw [list_at hjl]; exact hch)
                      have HET := Lib.hid (esc_take hjx)
                      obtain ⟨E, hE⟩ : ∃ E, x.extract j (j + 1) = E := ⟨_, rfl⟩
                      have HE1 := Lib.hid (show E = txt [ch] by rw [← hE, one_of hjl, hch])
                      have hEs : E.size = 1 := by rw [HE1.out]; rfl
                      rw [HCH.out] at HET
                      have i3 : (0 : Int) ≤ (j : Int) := by omega
                      have i4 : (j : Int) ≤ (x.size : Int) := by omega
                      have i5 : (j : Int) + 1 ≤ (x.size : Int) := by omega
                      by_cases hsp : ch = 44 ∨ ch = 92
                      · obtain ⟨T1, hT1⟩ : ∃ T1, T ++ ⟨#[92]⟩ = T1 := ⟨_, rfl⟩
                        have hT1s : T1.size = T.size + 1 := by rw [← hT1, ByteArray.size_append]; rfl
                        obtain ⟨T2, hT2⟩ : ∃ T2, T1 ++ E = T2 := ⟨_, rfl⟩
                        have HT2 := Lib.hid (show T2 = txt (P ++ escT (x.data.toList.take (j + 1))) by
                          rw [HET.out, if_pos hsp, ← hT2, ← hT1, HT.out, HE1.out, show (⟨#[92]⟩ : ByteArray) = txt [92] from rfl, txt_app, txt_app]
                          simp)
                        have hT2s : T2.size ≤ k * 401 + 1 + 2 * (j + 1) := by rw [← hT2, ByteArray.size_append]; omega
                        have hg1 : ¬ 9223372036854775807 < T.size + (⟨#[92]⟩ : ByteArray).size := by rw [show (⟨#[92]⟩ : ByteArray).size = 1 from rfl]; omega
                        have hg2 : ¬ 9223372036854775807 < T1.size + E.size := by omega
                        clear hT1s hEs
                        rcases hsp with h44 | h92
                        · have q1 : ((ch.toNat : Int) == 44) = true := by rw [h44]; rfl
                          clear h44
                          go_wp2
                          go_round
                          case rel => exact ⟨j + 1, T2, by omega, by go_num, rfl, HT2, hT2s⟩
                          case measure => simp [intOf]; omega
                        · have q1 : ((ch.toNat : Int) == 44) = false := by rw [h92]; rfl
                          have q2 : ((ch.toNat : Int) == 92) = true := by rw [h92]; rfl
                          clear h92
                          go_wp2
                          go_round
                          case rel => exact ⟨j + 1, T2, by omega, by go_num, rfl, HT2, hT2s⟩
                          case measure => simp [intOf]; omega
                      · have q1 : ((ch.toNat : Int) == 44) = false := beq44 (fun e => hsp (.inl e))
                        have q2 : ((ch.toNat : Int) == 92) = false := beq92 (fun e => hsp (.inr e))
                        obtain ⟨T2, hT2⟩ : ∃ T2, T ++ E = T2 := ⟨_, rfl⟩
                        have HT2 := Lib.hid (show T2 = txt (P ++ escT (x.data.toList.take (j + 1))) by
                          rw [HET.out, if_neg hsp, ← hT2, HT.out, HE1.out, txt_app]
                          simp)
                        have hT2s : T2.size ≤ k * 401 + 1 + 2 * (j + 1) := by rw [← hT2, ByteArray.size_append]; omega
                        have hg2 : ¬ 9223372036854775807 < T.size + E.size := by omega
                        clear hEs hsp
                        go_wp2
                        go_round
                        case rel => exact ⟨j + 1, T2, by omega, by go_num, rfl, HT2, hT2s⟩
                        case measure => simp [intOf]; omega
                    · obtain ⟨S2, hS2⟩ : ∃ S2, T = S2 := ⟨_, rfl⟩
                      have HW2 := Lib.hid (show txt (P ++ wr v) = S2 by
                        rw [← hS2, HT.out, HWX.out, List.take_of_length_le (by rw [← HXS.out]; omega)])
                      subst hS2
                      obtain ⟨S2, rfl⟩ : ∃ S2, S2 = T := ⟨_, rfl⟩
                      go_wp2
                      have HN2 := Lib.hid (show S2 = txt (jnK vs (k + 1)) by rw [HJ.out, ← HW2.out])
                      have hs2 : S2.size ≤ (k + 1) * 401 := by rw [HN2.out, txt_size, HJ.out, List.length_append]; have := HPL.out; have := HWL.out; omega
                      go_roundw
                      case rel => exact ⟨k + 1, S2, by omega, by go_num, rfl, hs2, HA2, HN2, HBW1⟩
                      case measure => simp [intOf]; omega
              · have hcat : S ++ ⟨#[44]⟩ = S1 := by
                  rw [← HS1.out, ← hP, if_neg hk0, HSJ.out]
                  exact txt_app _ [44]
                have hg0 : ¬ 9223372036854775807 < S.size + (⟨#[44]⟩ : ByteArray).size := by
                  rw [show (⟨#[44]⟩ : ByteArray).size = 1 from rfl]; omega
                have hp0 : 0 < k := by omega
                clear hP hk0
                rcases hkinds with ⟨hk0, HWV0⟩ | ⟨hk0, HWV0⟩ | ⟨hk0, hvn, HWV0⟩ | ⟨hk0, hvn, HWV0⟩ | ⟨hk0, HWV0⟩
                · have hc2 : ∃ S2, S1 ++ ⟨#[92, 78]⟩ = S2 := ⟨_, rfl⟩
                  obtain ⟨S2, hc2⟩ := hc2
                  have HW2 := Lib.hid (show txt (P ++ wr v) = S2 by rw [← hc2, ← HS1.out, HWV0.out]; exact (txt_app P [92, 78]).symm)
                  have hg2 : ¬ 9223372036854775807 < S1.size + (⟨#[92, 78]⟩ : ByteArray).size := by
                    rw [show (⟨#[92, 78]⟩ : ByteArray).size = 2 from rfl]; omega
                  rw [hk0] at c0
                  go_wp2
                  clear hc2 hg2
                  have HN2 := Lib.hid (show S2 = txt (jnK vs (k + 1)) by rw [HJ.out, ← HW2.out])
                  have hs2 : S2.size ≤ (k + 1) * 401 := by rw [HN2.out, txt_size, HJ.out, List.length_append]; have := HPL.out; have := HWL.out; omega
                  go_roundw
                  case rel => exact ⟨k + 1, S2, by omega, by go_num, rfl, hs2, HA2, HN2, HBW1⟩
                  case measure => simp [intOf]; omega
                · have HDG := Lib.hid (fun W => digits_any v.n hwv.2.1 W)
                  have hc2 : ∃ S2, S1 ++ txt (Lib.itoa v.n) = S2 := ⟨_, rfl⟩
                  obtain ⟨S2, hc2⟩ := hc2
                  have HW2 := Lib.hid (show txt (P ++ wr v) = S2 by rw [← hc2, ← HS1.out, HWV0.out]; exact (txt_app P _).symm)
                  have hg2 : ¬ 9223372036854775807 < S1.size + (txt (Lib.itoa v.n)).size := by
                    rw [txt_size]
                    have := HWL.out
                    rw [HWV0.out] at this
                    omega
                  rw [hk0] at c0
                  obtain ⟨SD, hSD⟩ : ∃ SD, txt (Lib.itoa v.n) = SD := ⟨_, rfl⟩
                  rw [hSD] at HDG hc2 hg2
                  clear hSD
                  go_wp2_with (go_at_call 35; refine (HDG.out _).mono ?_; rintro e W2 ⟨rfl, hb2⟩; have HB2 := Lib.hid (hop0 HBW1.out hb2); clear hb2)
                  clear hc2 hg2
                  have HN2 := Lib.hid (show S2 = txt (jnK vs (k + 1)) by rw [HJ.out, ← HW2.out])
                  have hs2 : S2.size ≤ (k + 1) * 401 := by rw [HN2.out, txt_size, HJ.out, List.length_append]; have := HPL.out; have := HWL.out; omega
                  go_roundw
                  case rel => exact ⟨k + 1, S2, by omega, by go_num, rfl, hs2, HA2, HN2, HB2⟩
                  case measure => simp [intOf]; omega
                · have hc2 : ∃ S2, S1 ++ ⟨#[116, 114, 117, 101]⟩ = S2 := ⟨_, rfl⟩
                  obtain ⟨S2, hc2⟩ := hc2
                  have HW2 := Lib.hid (show txt (P ++ wr v) = S2 by rw [← hc2, ← HS1.out, HWV0.out]; exact (txt_app P tru).symm)
                  have hg2 : ¬ 9223372036854775807 < S1.size + (⟨#[116, 114, 117, 101]⟩ : ByteArray).size := by
                    rw [show (⟨#[116, 114, 117, 101]⟩ : ByteArray).size = 4 from rfl]; omega
                  rw [hk0] at c0
                  rw [hvn] at c1
                  go_wp2
                  clear hc2 hg2
                  have HN2 := Lib.hid (show S2 = txt (jnK vs (k + 1)) by rw [HJ.out, ← HW2.out])
                  have hs2 : S2.size ≤ (k + 1) * 401 := by rw [HN2.out, txt_size, HJ.out, List.length_append]; have := HPL.out; have := HWL.out; omega
                  go_roundw
                  case rel => exact ⟨k + 1, S2, by omega, by go_num, rfl, hs2, HA2, HN2, HBW1⟩
                  case measure => simp [intOf]; omega
                · have hc2 : ∃ S2, S1 ++ ⟨#[102, 97, 108, 115, 101]⟩ = S2 := ⟨_, rfl⟩
                  obtain ⟨S2, hc2⟩ := hc2
                  have HW2 := Lib.hid (show txt (P ++ wr v) = S2 by rw [← hc2, ← HS1.out, HWV0.out]; exact (txt_app P fls).symm)
                  have hg2 : ¬ 9223372036854775807 < S1.size + (⟨#[102, 97, 108, 115, 101]⟩ : ByteArray).size := by
                    rw [show (⟨#[102, 97, 108, 115, 101]⟩ : ByteArray).size = 5 from rfl]; omega
                  rw [hk0] at c0
                  rw [hvn] at c1
                  go_wp2
                  clear hc2 hg2
                  have HN2 := Lib.hid (show S2 = txt (jnK vs (k + 1)) by rw [HJ.out, ← HW2.out])
                  have hs2 : S2.size ≤ (k + 1) * 401 := by rw [HN2.out, txt_size, HJ.out, List.length_append]; have := HPL.out; have := HWL.out; omega
                  go_roundw
                  case rel => exact ⟨k + 1, S2, by omega, by go_num, rfl, hs2, HA2, HN2, HBW1⟩
                  case measure => simp [intOf]; omega
                · rw [hk0] at c0
                  obtain ⟨x, hx⟩ : ∃ x, v.s = x := ⟨_, rfl⟩
                  rw [hx] at c2
                  have HWX := Lib.hid (show wr v = escT x.data.toList by rw [← hx]; exact HWV0.out)
                  have hx200 : x.size ≤ 200 := by
                    have h := chk_kinds HCK.out
                    rw [hk0, hx] at h
                    omega
                  have HXS := Lib.hid (size_eq x)
                  clear hx
                  have HT0 := Lib.hid (show S1 = txt (P ++ escT (x.data.toList.take 0)) by rw [← HS1.out, List.take_zero, escT_nil, List.append_nil])
                  go_wp2
                  go_loop [6, 9] (fun sv iv => ∃ (j : Nat) (T : ByteArray), j ≤ x.size ∧ iv = .int .i64 (j : Int) ∧ sv = .string T ∧ Hid (T = txt (P ++ escT (x.data.toList.take j))) ∧ T.size ≤ k * 401 + 1 + 2 * j) (fun _ iv => x.size - (intOf iv).toNat)
                  case atStart => exact ⟨0, S1, Nat.zero_le _, rfl, rfl, HT0, by omega⟩
                  case round =>
                    obtain ⟨j, T, hj, rfl, rfl, HT, hTs⟩ := hrel
                    by_cases hjl : j < x.size
                    · have hjx : j < x.data.toList.length := by rw [← HXS.out]; exact hjl
                      obtain ⟨ch, hch⟩ : ∃ ch, x[j] = ch := ⟨_, rfl⟩
                      have HCH := Lib.hid (show x.data.toList[j] = ch by rw [list_at hjl]; exact hch)
                      have HET := Lib.hid (esc_take hjx)
                      obtain ⟨E, hE⟩ : ∃ E, x.extract j (j + 1) = E := ⟨_, rfl⟩
                      have HE1 := Lib.hid (show E = txt [ch] by rw [← hE, one_of hjl, hch])
                      have hEs : E.size = 1 := by rw [HE1.out]; rfl
                      rw [HCH.out] at HET
                      have i3 : (0 : Int) ≤ (j : Int) := by omega
                      have i4 : (j : Int) ≤ (x.size : Int) := by omega
                      have i5 : (j : Int) + 1 ≤ (x.size : Int) := by omega
                      by_cases hsp : ch = 44 ∨ ch = 92
                      · obtain ⟨T1, hT1⟩ : ∃ T1, T ++ ⟨#[92]⟩ = T1 := ⟨_, rfl⟩
                        have hT1s : T1.size = T.size + 1 := by rw [← hT1, ByteArray.size_append]; rfl
                        obtain ⟨T2, hT2⟩ : ∃ T2, T1 ++ E = T2 := ⟨_, rfl⟩
                        have HT2 := Lib.hid (show T2 = txt (P ++ escT (x.data.toList.take (j + 1))) by
                          rw [HET.out, if_pos hsp, ← hT2, ← hT1, HT.out, HE1.out, show (⟨#[92]⟩ : ByteArray) = txt [92] from rfl, txt_app, txt_app]
                          simp)
                        have hT2s : T2.size ≤ k * 401 + 1 + 2 * (j + 1) := by rw [← hT2, ByteArray.size_append]; omega
                        have hg1 : ¬ 9223372036854775807 < T.size + (⟨#[92]⟩ : ByteArray).size := by rw [show (⟨#[92]⟩ : ByteArray).size = 1 from rfl]; omega
                        have hg2 : ¬ 9223372036854775807 < T1.size + E.size := by omega
                        clear hT1s hEs
                        rcases hsp with h44 | h92
                        · have q1 : ((ch.toNat : Int) == 44) = true := by rw [h44]; rfl
                          clear h44
                          go_wp2
                          go_round
                          case rel => exact ⟨j + 1, T2, by omega, by go_num, rfl, HT2, hT2s⟩
                          case measure => simp [intOf]; omega
                        · have q1 : ((ch.toNat : Int) == 44) = false := by rw [h92]; rfl
                          have q2 : ((ch.toNat : Int) == 92) = true := by rw [h92]; rfl
                          clear h92
                          go_wp2
                          go_round
                          case rel => exact ⟨j + 1, T2, by omega, by go_num, rfl, HT2, hT2s⟩
                          case measure => simp [intOf]; omega
                      · have q1 : ((ch.toNat : Int) == 44) = false := beq44 (fun e => hsp (.inl e))
                        have q2 : ((ch.toNat : Int) == 92) = false := beq92 (fun e => hsp (.inr e))
                        obtain ⟨T2, hT2⟩ : ∃ T2, T ++ E = T2 := ⟨_, rfl⟩
                        have HT2 := Lib.hid (show T2 = txt (P ++ escT (x.data.toList.take (j + 1))) by
                          rw [HET.out, if_neg hsp, ← hT2, HT.out, HE1.out, txt_app]
                          simp)
                        have hT2s : T2.size ≤ k * 401 + 1 + 2 * (j + 1) := by rw [← hT2, ByteArray.size_append]; omega
                        have hg2 : ¬ 9223372036854775807 < T.size + E.size := by omega
                        clear hEs hsp
                        go_wp2
                        go_round
                        case rel => exact ⟨j + 1, T2, by omega, by go_num, rfl, HT2, hT2s⟩
                        case measure => simp [intOf]; omega
                    · obtain ⟨S2, hS2⟩ : ∃ S2, T = S2 := ⟨_, rfl⟩
                      have HW2 := Lib.hid (show txt (P ++ wr v) = S2 by
                        rw [← hS2, HT.out, HWX.out, List.take_of_length_le (by rw [← HXS.out]; omega)])
                      subst hS2
                      obtain ⟨S2, rfl⟩ : ∃ S2, S2 = T := ⟨_, rfl⟩
                      go_wp2
                      have HN2 := Lib.hid (show S2 = txt (jnK vs (k + 1)) by rw [HJ.out, ← HW2.out])
                      have hs2 : S2.size ≤ (k + 1) * 401 := by rw [HN2.out, txt_size, HJ.out, List.length_append]; have := HPL.out; have := HWL.out; omega
                      go_roundw
                      case rel => exact ⟨k + 1, S2, by omega, by go_num, rfl, hs2, HA2, HN2, HBW1⟩
                      case measure => simp [intOf]; omega
            · have r1 : (v.k != 0) = true := by rw [bne_iff_ne]; exact hk0
              by_cases hkk : v.k = c.k
              · have HFT := Lib.hid (show fits c v = true by rw [fits_of, decide_eq_true hck, decide_eq_true (show v.k = 0 ∨ v.k = c.k from .inr hkk)]; rfl)
                have r2 : (v.k != c.k) = false := by rw [hkk]; simp
                clear hck hk0 hkk
                have hS : Hid (Box3 W0.drew g v ∧ W0.drew.cell? ⟨b, off + k * 2 + 1, none⟩ = some (.int .i64 c.k)) := Lib.hid ⟨HBX.out, HD1.out⟩
                refine held_begin 18 (fun W => Hid (Box3 W g v ∧ W.cell? ⟨b, off + k * 2 + 1, none⟩ = some (.int .i64 c.k))) rfl (by kernel_rfl) ?_
                refine held_take (i := 0) (t := 28) (v := (.agg #[.int .i64 v.k, .int .i64 v.n, .string v.s])) (fuel := 17) rfl rfl (by kernel_rfl) (by kernel_rfl) (by kernel_rfl) (fun _ _ _ h => h) (.inl ⟨rfl, fun W hW => by simp [execOp, Act.eval, go_sem, hW.out.1.c0, hW.out.1.c1, hW.out.1.c2]⟩) hS ?_
                simp only [List.setIfInBounds_toArray, List.set_cons_succ, List.set_cons_zero]
                refine held_call (i := 1) rfl (by kernel_rfl) (by kernel_rfl) ?_
                simp [Oper.wp, execOp, Act.eval, Act.put, go_sem]
                refine (HCV.out _).mono ?_
                rintro e W1 ⟨rfl, hb1⟩
                have HB1 := Lib.hid (show Below W0.heap.size W0 W1 from ((Below.refl W0.heap.size W0).drew).trans hb1)
                have hS : Hid (Box3 W1 g v ∧ W1.cell? ⟨b, off + k * 2 + 1, none⟩ = some (.int .i64 c.k)) := Lib.hid ⟨hS.out.1.below hb1, later_cell hb1 hS.out.2⟩
                clear hb1
                refine ⟨hS, ?_⟩
                try simp only [List.setIfInBounds_toArray, List.set_cons_succ, List.set_cons_zero]
                refine held_take (i := 2) (t := 30) (v := (.bool false)) (fuel := 15) rfl rfl (by kernel_rfl) (by kernel_rfl) (by kernel_rfl) (fun _ _ _ h => h) (.inl ⟨rfl, fun W hW => by simp [execOp, Act.eval, go_sem]⟩) hS ?_
                simp only [List.setIfInBounds_toArray, List.set_cons_succ, List.set_cons_zero]
                refine held_take (i := 3) (t := 31) (v := (.bool false)) (fuel := 14) rfl rfl (by kernel_rfl) (by kernel_rfl) (by kernel_rfl) (fun _ _ _ h => h) (.inl ⟨rfl, fun W hW => by simp [execOp, Act.eval, go_sem]⟩) hS ?_
                simp only [List.setIfInBounds_toArray, List.set_cons_succ, List.set_cons_zero]
                refine held_take (i := 4) (t := 32) (v := (.pointer (some ⟨g, 0, none⟩))) (fuel := 13) rfl rfl (by kernel_rfl) (by kernel_rfl) (by kernel_rfl) (fun _ _ _ h => h) (.inl ⟨rfl, fun W hW => by simp [execOp, Act.eval, go_sem]⟩) hS ?_
                simp only [List.setIfInBounds_toArray, List.set_cons_succ, List.set_cons_zero]
                refine held_take (i := 5) (t := 33) (v := (.int .i64 v.k)) (fuel := 12) rfl rfl (by kernel_rfl) (by kernel_rfl) (by kernel_rfl) (fun _ _ _ h => h) (.inl ⟨rfl, fun W hW => by simp [execOp, Act.eval, go_sem, hW.out.1.c0]⟩) hS ?_
                simp only [List.setIfInBounds_toArray, List.set_cons_succ, List.set_cons_zero]
                refine held_take (i := 6) (t := 34) (v := (.bool true)) (fuel := 11) rfl rfl (by kernel_rfl) (by kernel_rfl) (by kernel_rfl) (fun _ _ _ h => h) (.inl ⟨rfl, fun W hW => by simp [execOp, Act.eval, go_sem, r1]⟩) hS ?_
                simp only [List.setIfInBounds_toArray, List.set_cons_succ, List.set_cons_zero]
                refine held_take (i := 7) (t := 35) (v := (.bool true)) (fuel := 10) rfl rfl (by kernel_rfl) (by kernel_rfl) (by kernel_rfl) (fun _ _ _ h => h) (.inl ⟨rfl, fun W hW => by simp [execOp, Act.eval, go_sem]⟩) hS ?_
                simp only [List.setIfInBounds_toArray, List.set_cons_succ, List.set_cons_zero]
                refine held_take (i := 8) (t := 36) (v := (.pointer (some ⟨g, 0, none⟩))) (fuel := 9) rfl rfl (by kernel_rfl) (by kernel_rfl) (by kernel_rfl) (fun _ _ _ h => h) (.inl ⟨rfl, fun W hW => by simp [execOp, Act.eval, go_sem]⟩) hS ?_
                simp only [List.setIfInBounds_toArray, List.set_cons_succ, List.set_cons_zero]
                refine held_take (i := 9) (t := 37) (v := (.int .i64 v.k)) (fuel := 8) rfl rfl (by kernel_rfl) (by kernel_rfl) (by kernel_rfl) (fun _ _ _ h => h) (.inl ⟨rfl, fun W hW => by simp [execOp, Act.eval, go_sem, hW.out.1.c0]⟩) hS ?_
                simp only [List.setIfInBounds_toArray, List.set_cons_succ, List.set_cons_zero]
                refine held_take (i := 10) (t := 38) (v := (.slice (some ⟨b, off, none⟩) m cap)) (fuel := 7) rfl rfl (by kernel_rfl) (by kernel_rfl) (by kernel_rfl) (fun _ _ _ h => h) (.inl ⟨rfl, fun W hW => by simp [execOp, Act.eval, go_sem]⟩) hS ?_
                simp only [List.setIfInBounds_toArray, List.set_cons_succ, List.set_cons_zero]
                refine held_take (i := 11) (t := 39) (v := (.int .i64 (k : Int))) (fuel := 6) rfl rfl (by kernel_rfl) (by kernel_rfl) (by kernel_rfl) (fun _ _ _ h => h) (.inl ⟨rfl, fun W hW => by simp [execOp, Act.eval, go_sem]⟩) hS ?_
                simp only [List.setIfInBounds_toArray, List.set_cons_succ, List.set_cons_zero]
                refine held_take (i := 12) (t := 40) (v := (.pointer (some ⟨b, off + k * 2, none⟩))) (fuel := 5) rfl rfl (by kernel_rfl) (by kernel_rfl) (by kernel_rfl) (fun _ _ _ h => h) (.inl ⟨rfl, fun W hW => by simp [execOp, Act.eval, go_sem, i1, i2]⟩) hS ?_
                simp only [List.setIfInBounds_toArray, List.set_cons_succ, List.set_cons_zero]
                refine held_take (i := 13) (t := 41) (v := (.pointer (some ⟨b, off + k * 2 + 1, none⟩))) (fuel := 4) rfl rfl (by kernel_rfl) (by kernel_rfl) (by kernel_rfl) (fun _ _ _ h => h) (.inl ⟨rfl, fun W hW => by simp [execOp, Act.eval, go_sem]⟩) hS ?_
                simp only [List.setIfInBounds_toArray, List.set_cons_succ, List.set_cons_zero]
                refine held_take (i := 14) (t := 42) (v := (.int .i64 c.k)) (fuel := 3) rfl rfl (by kernel_rfl) (by kernel_rfl) (by kernel_rfl) (fun _ _ _ h => h) (.inl ⟨rfl, fun W hW => by simp [execOp, Act.eval, go_sem, hW.out.2]⟩) hS ?_
                simp only [List.setIfInBounds_toArray, List.set_cons_succ, List.set_cons_zero]
                refine held_take (i := 15) (t := 43) (v := (.bool false)) (fuel := 2) rfl rfl (by kernel_rfl) (by kernel_rfl) (by kernel_rfl) (fun _ _ _ h => h) (.inl ⟨rfl, fun W hW => by simp [execOp, Act.eval, go_sem, r2]⟩) hS ?_
                simp only [List.setIfInBounds_toArray, List.set_cons_succ, List.set_cons_zero]
                refine held_take (i := 16) (t := 44) (v := (.bool false)) (fuel := 1) rfl rfl (by kernel_rfl) (by kernel_rfl) (by kernel_rfl) (fun _ _ _ h => h) (.inl ⟨rfl, fun W hW => by simp [execOp, Act.eval, go_sem]⟩) hS ?_
                simp only [List.setIfInBounds_toArray, List.set_cons_succ, List.set_cons_zero]
                refine held_take (i := 17) (t := 45) (v := (.bool false)) (fuel := 0) rfl rfl (by kernel_rfl) (by kernel_rfl) (by kernel_rfl) (fun _ _ _ h => h) (.inl ⟨rfl, fun W hW => by simp [execOp, Act.eval, go_sem]⟩) hS ?_
                simp only [List.setIfInBounds_toArray, List.set_cons_succ, List.set_cons_zero]
                refine wpAnyH_done (by kernel_rfl) ?_ 0
                have HA2 := Lib.hid (show ∀ j (hj : j < l.length) (hv : j < vs.length), j < k + 1 → fits l[j] vs[j] = true from fun j hj hv h => by
                  by_cases h2 : j = k
                  · subst h2; rw [HC.out, HV.out]; exact HFT.out
                  · exact HA.out j hj hv (by omega))
                have c0 := hS.out.1.c0
                have c1 := hS.out.1.c1
                have c2 := hS.out.1.c2
                have HBX1 := Lib.hid hS.out.1
                have HBW1 := Lib.hid (hop0 HBW.out HB1.out)
                have HWL := Lib.hid (wr_len hwv HCK.out)
                have hpre : (decide ((0 : Int) < (k : Int)) = false ∧ k = 0) ∨ (decide ((0 : Int) < (k : Int)) = true ∧ k ≠ 0) := by
                  by_cases h : k = 0
                  · exact .inl ⟨decide_eq_false (by omega), h⟩
                  · exact .inr ⟨decide_eq_true (by omega), h⟩
                obtain ⟨P, hP⟩ : ∃ P, (if k = 0 then [] else jnK vs k ++ [44]) = P := ⟨_, rfl⟩
                have HJ := Lib.hid (show jnK vs (k + 1) = P ++ wr v by rw [jnK_succ hkv, hP, HV.out])
                have hszS : S.size = (jnK vs k).length := by rw [HSJ.out, txt_size]
                have HPL := Lib.hid (show P.length ≤ k * 401 + 1 by rw [← hP]; split <;> simp <;> omega)
                obtain ⟨S1, HS1⟩ : ∃ S1, Hid (txt P = S1) := ⟨_, Lib.hid rfl⟩
                have hs1 : S1.size ≤ k * 401 + 1 := by rw [← HS1.out, txt_size]; exact HPL.out
                clear hS hszS
                rcases hpre with ⟨p1, hk0⟩ | ⟨p1, hk0⟩
                · have HSS := Lib.hid (show S = S1 by rw [HSJ.out, ← HS1.out, ← hP, if_pos hk0, hk0]; rfl)
                  rw [HSS.out]
                  have hp0 : ¬ 0 < k := by omega
                  clear hP hk0
                  rcases hkinds with ⟨hk0, HWV0⟩ | ⟨hk0, HWV0⟩ | ⟨hk0, hvn, HWV0⟩ | ⟨hk0, hvn, HWV0⟩ | ⟨hk0, HWV0⟩
                  · have hc2 : ∃ S2, S1 ++ ⟨#[92, 78]⟩ = S2 := ⟨_, rfl⟩
                    obtain ⟨S2, hc2⟩ := hc2
                    have HW2 := Lib.hid (show txt (P ++ wr v) = S2 by rw [← hc2, ← HS1.out, HWV0.out]; exact (txt_app P [92, 78]).symm)
                    have hg2 : ¬ 9223372036854775807 < S1.size + (⟨#[92, 78]⟩ : ByteArray).size := by
                      rw [show (⟨#[92, 78]⟩ : ByteArray).size = 2 from rfl]; omega
                    rw [hk0] at c0
                    go_wp2
                    clear hc2 hg2
                    have HN2 := Lib.hid (show S2 = txt (jnK vs (k + 1)) by rw [HJ.out, ← HW2.out])
                    have hs2 : S2.size ≤ (k + 1) * 401 := by rw [HN2.out, txt_size, HJ.out, List.length_append]; have := HPL.out; have := HWL.out; omega
                    go_roundw
                    case rel => exact ⟨k + 1, S2, by omega, by go_num, rfl, hs2, HA2, HN2, HBW1⟩
                    case measure => simp [intOf]; omega
                  · have HDG := Lib.hid (fun W => digits_any v.n hwv.2.1 W)
                    have hc2 : ∃ S2, S1 ++ txt (Lib.itoa v.n) = S2 := ⟨_, rfl⟩
                    obtain ⟨S2, hc2⟩ := hc2
                    have HW2 := Lib.hid (show txt (P ++ wr v) = S2 by rw [← hc2, ← HS1.out, HWV0.out]; exact (txt_app P _).symm)
                    have hg2 : ¬ 9223372036854775807 < S1.size + (txt (Lib.itoa v.n)).size := by
                      rw [txt_size]
                      have := HWL.out
                      rw [HWV0.out] at this
                      omega
                    rw [hk0] at c0
                    obtain ⟨SD, hSD⟩ : ∃ SD, txt (Lib.itoa v.n) = SD := ⟨_, rfl⟩
                    rw [hSD] at HDG hc2 hg2
                    clear hSD
                    go_wp2_with (go_at_call 35; refine (HDG.out _).mono ?_; rintro e W2 ⟨rfl, hb2⟩; have HB2 := Lib.hid (hop0 HBW1.out hb2); clear hb2)
                    clear hc2 hg2
                    have HN2 := Lib.hid (show S2 = txt (jnK vs (k + 1)) by rw [HJ.out, ← HW2.out])
                    have hs2 : S2.size ≤ (k + 1) * 401 := by rw [HN2.out, txt_size, HJ.out, List.length_append]; have := HPL.out; have := HWL.out; omega
                    go_roundw
                    case rel => exact ⟨k + 1, S2, by omega, by go_num, rfl, hs2, HA2, HN2, HB2⟩
                    case measure => simp [intOf]; omega
                  · have hc2 : ∃ S2, S1 ++ ⟨#[116, 114, 117, 101]⟩ = S2 := ⟨_, rfl⟩
                    obtain ⟨S2, hc2⟩ := hc2
                    have HW2 := Lib.hid (show txt (P ++ wr v) = S2 by rw [← hc2, ← HS1.out, HWV0.out]; exact (txt_app P tru).symm)
                    have hg2 : ¬ 9223372036854775807 < S1.size + (⟨#[116, 114, 117, 101]⟩ : ByteArray).size := by
                      rw [show (⟨#[116, 114, 117, 101]⟩ : ByteArray).size = 4 from rfl]; omega
                    rw [hk0] at c0
                    rw [hvn] at c1
                    go_wp2
                    clear hc2 hg2
                    have HN2 := Lib.hid (show S2 = txt (jnK vs (k + 1)) by rw [HJ.out, ← HW2.out])
                    have hs2 : S2.size ≤ (k + 1) * 401 := by rw [HN2.out, txt_size, HJ.out, List.length_append]; have := HPL.out; have := HWL.out; omega
                    go_roundw
                    case rel => exact ⟨k + 1, S2, by omega, by go_num, rfl, hs2, HA2, HN2, HBW1⟩
                    case measure => simp [intOf]; omega
                  · have hc2 : ∃ S2, S1 ++ ⟨#[102, 97, 108, 115, 101]⟩ = S2 := ⟨_, rfl⟩
                    obtain ⟨S2, hc2⟩ := hc2
                    have HW2 := Lib.hid (show txt (P ++ wr v) = S2 by rw [← hc2, ← HS1.out, HWV0.out]; exact (txt_app P fls).symm)
                    have hg2 : ¬ 9223372036854775807 < S1.size + (⟨#[102, 97, 108, 115, 101]⟩ : ByteArray).size := by
                      rw [show (⟨#[102, 97, 108, 115, 101]⟩ : ByteArray).size = 5 from rfl]; omega
                    rw [hk0] at c0
                    rw [hvn] at c1
                    go_wp2
                    clear hc2 hg2
                    have HN2 := Lib.hid (show S2 = txt (jnK vs (k + 1)) by rw [HJ.out, ← HW2.out])
                    have hs2 : S2.size ≤ (k + 1) * 401 := by rw [HN2.out, txt_size, HJ.out, List.length_append]; have := HPL.out; have := HWL.out; omega
                    go_roundw
                    case rel => exact ⟨k + 1, S2, by omega, by go_num, rfl, hs2, HA2, HN2, HBW1⟩
                    case measure => simp [intOf]; omega
                  · rw [hk0] at c0
                    obtain ⟨x, hx⟩ : ∃ x, v.s = x := ⟨_, rfl⟩
                    rw [hx] at c2
                    have HWX := Lib.hid (show wr v = escT x.data.toList by rw [← hx]; exact HWV0.out)
                    have hx200 : x.size ≤ 200 := by
                      have h := chk_kinds HCK.out
                      rw [hk0, hx] at h
                      omega
                    have HXS := Lib.hid (size_eq x)
                    clear hx
                    have HT0 := Lib.hid (show S1 = txt (P ++ escT (x.data.toList.take 0)) by rw [← HS1.out, List.take_zero, escT_nil, List.append_nil])
                    go_wp2
                    go_loop [6, 9] (fun sv iv => ∃ (j : Nat) (T : ByteArray), j ≤ x.size ∧ iv = .int .i64 (j : Int) ∧ sv = .string T ∧ Hid (T = txt (P ++ escT (x.data.toList.take j))) ∧ T.size ≤ k * 401 + 1 + 2 * j) (fun _ iv => x.size - (intOf iv).toNat)
                    case atStart => exact ⟨0, S1, Nat.zero_le _, rfl, rfl, HT0, by omega⟩
                    case round =>
                      obtain ⟨j, T, hj, rfl, rfl, HT, hTs⟩ := hrel
                      by_cases hjl : j < x.size
                      · have hjx : j < x.data.toList.length := by rw [← HXS.out]; exact hjl
                        obtain ⟨ch, hch⟩ : ∃ ch, x[j] = ch := ⟨_, rfl⟩
                        have HCH := Lib.hid (show x.data.toList[j] = ch by rw [list_at hjl]; exact hch)
                        have HET := Lib.hid (esc_take hjx)
                        obtain ⟨E, hE⟩ : ∃ E, x.extract j (j + 1) = E := ⟨_, rfl⟩
                        have HE1 := Lib.hid (show E = txt [ch] by rw [← hE, one_of hjl, hch])
                        have hEs : E.size = 1 := by rw [HE1.out]; rfl
                        rw [HCH.out] at HET
                        have i3 : (0 : Int) ≤ (j : Int) := by omega
                        have i4 : (j : Int) ≤ (x.size : Int) := by omega
                        have i5 : (j : Int) + 1 ≤ (x.size : Int) := by omega
                        by_cases hsp : ch = 44 ∨ ch = 92
                        · obtain ⟨T1, hT1⟩ : ∃ T1, T ++ ⟨#[92]⟩ = T1 := ⟨_, rfl⟩
                          have hT1s : T1.size = T.size + 1 := by rw [← hT1, ByteArray.size_append]; rfl
                          obtain ⟨T2, hT2⟩ : ∃ T2, T1 ++ E = T2 := ⟨_, rfl⟩
                          have HT2 := Lib.hid (show T2 = txt (P ++ escT (x.data.toList.take (j + 1))) by
                            rw [HET.out, if_pos hsp, ← hT2, ← hT1, HT.out, HE1.out, show (⟨#[92]⟩ : ByteArray) = txt [92] from rfl, txt_app, txt_app]
                            simp)
                          have hT2s : T2.size ≤ k * 401 + 1 + 2 * (j + 1) := by rw [← hT2, ByteArray.size_append]; omega
                          have hg1 : ¬ 9223372036854775807 < T.size + (⟨#[92]⟩ : ByteArray).size := by rw [show (⟨#[92]⟩ : ByteArray).size = 1 from rfl]; omega
                          have hg2 : ¬ 9223372036854775807 < T1.size + E.size := by omega
                          clear hT1s hEs
                          rcases hsp with h44 | h92
                          · have q1 : ((ch.toNat : Int) == 44) = true := by rw [h44]; rfl
                            clear h44
                            go_wp2
                            go_round
                            case rel => exact ⟨j + 1, T2, by omega, by go_num, rfl, HT2, hT2s⟩
                            case measure => simp [intOf]; omega
                          · have q1 : ((ch.toNat : Int) == 44) = false := by rw [h92]; rfl
                            have q2 : ((ch.toNat : Int) == 92) = true := by rw [h92]; rfl
                            clear h92
                            go_wp2
                            go_round
                            case rel => exact ⟨j + 1, T2, by omega, by go_num, rfl, HT2, hT2s⟩
                            case measure => simp [intOf]; omega
                        · have q1 : ((ch.toNat : Int) == 44) = false := beq44 (fun e => hsp (.inl e))
                          have q2 : ((ch.toNat : Int) == 92) = false := beq92 (fun e => hsp (.inr e))
                          obtain ⟨T2, hT2⟩ : ∃ T2, T ++ E = T2 := ⟨_, rfl⟩
                          have HT2 := Lib.hid (show T2 = txt (P ++ escT (x.data.toList.take (j + 1))) by
                            rw [HET.out, if_neg hsp, ← hT2, HT.out, HE1.out, txt_app]
                            simp)
                          have hT2s : T2.size ≤ k * 401 + 1 + 2 * (j + 1) := by rw [← hT2, ByteArray.size_append]; omega
                          have hg2 : ¬ 9223372036854775807 < T.size + E.size := by omega
                          clear hEs hsp
                          go_wp2
                          go_round
                          case rel => exact ⟨j + 1, T2, by omega, by go_num, rfl, HT2, hT2s⟩
                          case measure => simp [intOf]; omega
                      · obtain ⟨S2, hS2⟩ : ∃ S2, T = S2 := ⟨_, rfl⟩
                        have HW2 := Lib.hid (show txt (P ++ wr v) = S2 by
                          rw [← hS2, HT.out, HWX.out, List.take_of_length_le (by rw [← HXS.out]; omega)])
                        subst hS2
                        obtain ⟨S2, rfl⟩ : ∃ S2, S2 = T := ⟨_, rfl⟩
                        go_wp2
                        have HN2 := Lib.hid (show S2 = txt (jnK vs (k + 1)) by rw [HJ.out, ← HW2.out])
                        have hs2 : S2.size ≤ (k + 1) * 401 := by rw [HN2.out, txt_size, HJ.out, List.length_append]; have := HPL.out; have := HWL.out; omega
                        go_roundw
                        case rel => exact ⟨k + 1, S2, by omega, by go_num, rfl, hs2, HA2, HN2, HBW1⟩
                        case measure => simp [intOf]; omega
                · have hcat : S ++ ⟨#[44]⟩ = S1 := by
                    rw [← HS1.out, ← hP, if_neg hk0, HSJ.out]
                    exact txt_app _ [44]
                  have hg0 : ¬ 9223372036854775807 < S.size + (⟨#[44]⟩ : ByteArray).size := by
                    rw [show (⟨#[44]⟩ : ByteArray).size = 1 from rfl]; omega
                  have hp0 : 0 < k := by omega
                  clear hP hk0
                  rcases hkinds with ⟨hk0, HWV0⟩ | ⟨hk0, HWV0⟩ | ⟨hk0, hvn, HWV0⟩ | ⟨hk0, hvn, HWV0⟩ | ⟨hk0, HWV0⟩
                  · have hc2 : ∃ S2, S1 ++ ⟨#[92, 78]⟩ = S2 := ⟨_, rfl⟩
                    obtain ⟨S2, hc2⟩ := hc2
                    have HW2 := Lib.hid (show txt (P ++ wr v) = S2 by rw [← hc2, ← HS1.out, HWV0.out]; exact (txt_app P [92, 78]).symm)
                    have hg2 : ¬ 9223372036854775807 < S1.size + (⟨#[92, 78]⟩ : ByteArray).size := by
                      rw [show (⟨#[92, 78]⟩ : ByteArray).size = 2 from rfl]; omega
                    rw [hk0] at c0
                    go_wp2
                    clear hc2 hg2
                    have HN2 := Lib.hid (show S2 = txt (jnK vs (k + 1)) by rw [HJ.out, ← HW2.out])
                    have hs2 : S2.size ≤ (k + 1) * 401 := by rw [HN2.out, txt_size, HJ.out, List.length_append]; have := HPL.out; have := HWL.out; omega
                    go_roundw
                    case rel => exact ⟨k + 1, S2, by omega, by go_num, rfl, hs2, HA2, HN2, HBW1⟩
                    case measure => simp [intOf]; omega
                  · have HDG := Lib.hid (fun W => digits_any v.n hwv.2.1 W)
                    have hc2 : ∃ S2, S1 ++ txt (Lib.itoa v.n) = S2 := ⟨_, rfl⟩
                    obtain ⟨S2, hc2⟩ := hc2
                    have HW2 := Lib.hid (show txt (P ++ wr v) = S2 by rw [← hc2, ← HS1.out, HWV0.out]; exact (txt_app P _).symm)
                    have hg2 : ¬ 9223372036854775807 < S1.size + (txt (Lib.itoa v.n)).size := by
                      rw [txt_size]
                      have := HWL.out
                      rw [HWV0.out] at this
                      omega
                    rw [hk0] at c0
                    obtain ⟨SD, hSD⟩ : ∃ SD, txt (Lib.itoa v.n) = SD := ⟨_, rfl⟩
                    rw [hSD] at HDG hc2 hg2
                    clear hSD
                    go_wp2_with (go_at_call 35; refine (HDG.out _).mono ?_; rintro e W2 ⟨rfl, hb2⟩; have HB2 := Lib.hid (hop0 HBW1.out hb2); clear hb2)
                    clear hc2 hg2
                    have HN2 := Lib.hid (show S2 = txt (jnK vs (k + 1)) by rw [HJ.out, ← HW2.out])
                    have hs2 : S2.size ≤ (k + 1) * 401 := by rw [HN2.out, txt_size, HJ.out, List.length_append]; have := HPL.out; have := HWL.out; omega
                    go_roundw
                    case rel => exact ⟨k + 1, S2, by omega, by go_num, rfl, hs2, HA2, HN2, HB2⟩
                    case measure => simp [intOf]; omega
                  · have hc2 : ∃ S2, S1 ++ ⟨#[116, 114, 117, 101]⟩ = S2 := ⟨_, rfl⟩
                    obtain ⟨S2, hc2⟩ := hc2
                    have HW2 := Lib.hid (show txt (P ++ wr v) = S2 by rw [← hc2, ← HS1.out, HWV0.out]; exact (txt_app P tru).symm)
                    have hg2 : ¬ 9223372036854775807 < S1.size + (⟨#[116, 114, 117, 101]⟩ : ByteArray).size := by
                      rw [show (⟨#[116, 114, 117, 101]⟩ : ByteArray).size = 4 from rfl]; omega
                    rw [hk0] at c0
                    rw [hvn] at c1
                    go_wp2
                    clear hc2 hg2
                    have HN2 := Lib.hid (show S2 = txt (jnK vs (k + 1)) by rw [HJ.out, ← HW2.out])
                    have hs2 : S2.size ≤ (k + 1) * 401 := by rw [HN2.out, txt_size, HJ.out, List.length_append]; have := HPL.out; have := HWL.out; omega
                    go_roundw
                    case rel => exact ⟨k + 1, S2, by omega, by go_num, rfl, hs2, HA2, HN2, HBW1⟩
                    case measure => simp [intOf]; omega
                  · have hc2 : ∃ S2, S1 ++ ⟨#[102, 97, 108, 115, 101]⟩ = S2 := ⟨_, rfl⟩
                    obtain ⟨S2, hc2⟩ := hc2
                    have HW2 := Lib.hid (show txt (P ++ wr v) = S2 by rw [← hc2, ← HS1.out, HWV0.out]; exact (txt_app P fls).symm)
                    have hg2 : ¬ 9223372036854775807 < S1.size + (⟨#[102, 97, 108, 115, 101]⟩ : ByteArray).size := by
                      rw [show (⟨#[102, 97, 108, 115, 101]⟩ : ByteArray).size = 5 from rfl]; omega
                    rw [hk0] at c0
                    rw [hvn] at c1
                    go_wp2
                    clear hc2 hg2
                    have HN2 := Lib.hid (show S2 = txt (jnK vs (k + 1)) by rw [HJ.out, ← HW2.out])
                    have hs2 : S2.size ≤ (k + 1) * 401 := by rw [HN2.out, txt_size, HJ.out, List.length_append]; have := HPL.out; have := HWL.out; omega
                    go_roundw
                    case rel => exact ⟨k + 1, S2, by omega, by go_num, rfl, hs2, HA2, HN2, HBW1⟩
                    case measure => simp [intOf]; omega
                  · rw [hk0] at c0
                    obtain ⟨x, hx⟩ : ∃ x, v.s = x := ⟨_, rfl⟩
                    rw [hx] at c2
                    have HWX := Lib.hid (show wr v = escT x.data.toList by rw [← hx]; exact HWV0.out)
                    have hx200 : x.size ≤ 200 := by
                      have h := chk_kinds HCK.out
                      rw [hk0, hx] at h
                      omega
                    have HXS := Lib.hid (size_eq x)
                    clear hx
                    have HT0 := Lib.hid (show S1 = txt (P ++ escT (x.data.toList.take 0)) by rw [← HS1.out, List.take_zero, escT_nil, List.append_nil])
                    go_wp2
                    go_loop [6, 9] (fun sv iv => ∃ (j : Nat) (T : ByteArray), j ≤ x.size ∧ iv = .int .i64 (j : Int) ∧ sv = .string T ∧ Hid (T = txt (P ++ escT (x.data.toList.take j))) ∧ T.size ≤ k * 401 + 1 + 2 * j) (fun _ iv => x.size - (intOf iv).toNat)
                    case atStart => exact ⟨0, S1, Nat.zero_le _, rfl, rfl, HT0, by omega⟩
                    case round =>
                      obtain ⟨j, T, hj, rfl, rfl, HT, hTs⟩ := hrel
                      by_cases hjl : j < x.size
                      · have hjx : j < x.data.toList.length := by rw [← HXS.out]; exact hjl
                        obtain ⟨ch, hch⟩ : ∃ ch, x[j] = ch := ⟨_, rfl⟩
                        have HCH := Lib.hid (show x.data.toList[j] = ch by rw [list_at hjl]; exact hch)
                        have HET := Lib.hid (esc_take hjx)
                        obtain ⟨E, hE⟩ : ∃ E, x.extract j (j + 1) = E := ⟨_, rfl⟩
                        have HE1 := Lib.hid (show E = txt [ch] by rw [← hE, one_of hjl, hch])
                        have hEs : E.size = 1 := by rw [HE1.out]; rfl
                        rw [HCH.out] at HET
                        have i3 : (0 : Int) ≤ (j : Int) := by omega
                        have i4 : (j : Int) ≤ (x.size : Int) := by omega
                        have i5 : (j : Int) + 1 ≤ (x.size : Int) := by omega
                        by_cases hsp : ch = 44 ∨ ch = 92
                        · obtain ⟨T1, hT1⟩ : ∃ T1, T ++ ⟨#[92]⟩ = T1 := ⟨_, rfl⟩
                          have hT1s : T1.size = T.size + 1 := by rw [← hT1, ByteArray.size_append]; rfl
                          obtain ⟨T2, hT2⟩ : ∃ T2, T1 ++ E = T2 := ⟨_, rfl⟩
                          have HT2 := Lib.hid (show T2 = txt (P ++ escT (x.data.toList.take (j + 1))) by
                            rw [HET.out, if_pos hsp, ← hT2, ← hT1, HT.out, HE1.out, show (⟨#[92]⟩ : ByteArray) = txt [92] from rfl, txt_app, txt_app]
                            simp)
                          have hT2s : T2.size ≤ k * 401 + 1 + 2 * (j + 1) := by rw [← hT2, ByteArray.size_append]; omega
                          have hg1 : ¬ 9223372036854775807 < T.size + (⟨#[92]⟩ : ByteArray).size := by rw [show (⟨#[92]⟩ : ByteArray).size = 1 from rfl]; omega
                          have hg2 : ¬ 9223372036854775807 < T1.size + E.size := by omega
                          clear hT1s hEs
                          rcases hsp with h44 | h92
                          · have q1 : ((ch.toNat : Int) == 44) = true := by rw [h44]; rfl
                            clear h44
                            go_wp2
                            go_round
                            case rel => exact ⟨j + 1, T2, by omega, by go_num, rfl, HT2, hT2s⟩
                            case measure => simp [intOf]; omega
                          · have q1 : ((ch.toNat : Int) == 44) = false := by rw [h92]; rfl
                            have q2 : ((ch.toNat : Int) == 92) = true := by rw [h92]; rfl
                            clear h92
                            go_wp2
                            go_round
                            case rel => exact ⟨j + 1, T2, by omega, by go_num, rfl, HT2, hT2s⟩
                            case measure => simp [intOf]; omega
                        · have q1 : ((ch.toNat : Int) == 44) = false := beq44 (fun e => hsp (.inl e))
                          have q2 : ((ch.toNat : Int) == 92) = false := beq92 (fun e => hsp (.inr e))
                          obtain ⟨T2, hT2⟩ : ∃ T2, T ++ E = T2 := ⟨_, rfl⟩
                          have HT2 := Lib.hid (show T2 = txt (P ++ escT (x.data.toList.take (j + 1))) by
                            rw [HET.out, if_neg hsp, ← hT2, HT.out, HE1.out, txt_app]
                            simp)
                          have hT2s : T2.size ≤ k * 401 + 1 + 2 * (j + 1) := by rw [← hT2, ByteArray.size_append]; omega
                          have hg2 : ¬ 9223372036854775807 < T.size + E.size := by omega
                          clear hEs hsp
                          go_wp2
                          go_round
                          case rel => exact ⟨j + 1, T2, by omega, by go_num, rfl, HT2, hT2s⟩
                          case measure => simp [intOf]; omega
                      · obtain ⟨S2, hS2⟩ : ∃ S2, T = S2 := ⟨_, rfl⟩
                        have HW2 := Lib.hid (show txt (P ++ wr v) = S2 by
                          rw [← hS2, HT.out, HWX.out, List.take_of_length_le (by rw [← HXS.out]; omega)])
                        subst hS2
                        obtain ⟨S2, rfl⟩ : ∃ S2, S2 = T := ⟨_, rfl⟩
                        go_wp2
                        have HN2 := Lib.hid (show S2 = txt (jnK vs (k + 1)) by rw [HJ.out, ← HW2.out])
                        have hs2 : S2.size ≤ (k + 1) * 401 := by rw [HN2.out, txt_size, HJ.out, List.length_append]; have := HPL.out; have := HWL.out; omega
                        go_roundw
                        case rel => exact ⟨k + 1, S2, by omega, by go_num, rfl, hs2, HA2, HN2, HBW1⟩
                        case measure => simp [intOf]; omega
              · have HNF := Lib.hid (show fits c v = false by rw [fits_of, decide_eq_false (show ¬ (v.k = 0 ∨ v.k = c.k) by omega), Bool.and_false])
                have r2 : (v.k != c.k) = true := by rw [bne_iff_ne]; exact hkk
                clear hck hk0 hkk hkinds
                have hS : Hid (Box3 W0.drew g v ∧ W0.drew.cell? ⟨b, off + k * 2 + 1, none⟩ = some (.int .i64 c.k)) := Lib.hid ⟨HBX.out, HD1.out⟩
                refine held_begin 18 (fun W => Hid (Box3 W g v ∧ W.cell? ⟨b, off + k * 2 + 1, none⟩ = some (.int .i64 c.k))) rfl (by kernel_rfl) ?_
                refine held_take (i := 0) (t := 28) (v := (.agg #[.int .i64 v.k, .int .i64 v.n, .string v.s])) (fuel := 17) rfl rfl (by kernel_rfl) (by kernel_rfl) (by kernel_rfl) (fun _ _ _ h => h) (.inl ⟨rfl, fun W hW => by simp [execOp, Act.eval, go_sem, hW.out.1.c0, hW.out.1.c1, hW.out.1.c2]⟩) hS ?_
                simp only [List.setIfInBounds_toArray, List.set_cons_succ, List.set_cons_zero]
                refine held_call (i := 1) rfl (by kernel_rfl) (by kernel_rfl) ?_
                simp [Oper.wp, execOp, Act.eval, Act.put, go_sem]
                refine (HCV.out _).mono ?_
                rintro e W1 ⟨rfl, hb1⟩
                have HB1 := Lib.hid (show Below W0.heap.size W0 W1 from ((Below.refl W0.heap.size W0).drew).trans hb1)
                have hS : Hid (Box3 W1 g v ∧ W1.cell? ⟨b, off + k * 2 + 1, none⟩ = some (.int .i64 c.k)) := Lib.hid ⟨hS.out.1.below hb1, later_cell hb1 hS.out.2⟩
                clear hb1
                refine ⟨hS, ?_⟩
                try simp only [List.setIfInBounds_toArray, List.set_cons_succ, List.set_cons_zero]
                refine held_take (i := 2) (t := 30) (v := (.bool false)) (fuel := 15) rfl rfl (by kernel_rfl) (by kernel_rfl) (by kernel_rfl) (fun _ _ _ h => h) (.inl ⟨rfl, fun W hW => by simp [execOp, Act.eval, go_sem]⟩) hS ?_
                simp only [List.setIfInBounds_toArray, List.set_cons_succ, List.set_cons_zero]
                refine held_take (i := 3) (t := 31) (v := (.bool false)) (fuel := 14) rfl rfl (by kernel_rfl) (by kernel_rfl) (by kernel_rfl) (fun _ _ _ h => h) (.inl ⟨rfl, fun W hW => by simp [execOp, Act.eval, go_sem]⟩) hS ?_
                simp only [List.setIfInBounds_toArray, List.set_cons_succ, List.set_cons_zero]
                refine held_take (i := 4) (t := 32) (v := (.pointer (some ⟨g, 0, none⟩))) (fuel := 13) rfl rfl (by kernel_rfl) (by kernel_rfl) (by kernel_rfl) (fun _ _ _ h => h) (.inl ⟨rfl, fun W hW => by simp [execOp, Act.eval, go_sem]⟩) hS ?_
                simp only [List.setIfInBounds_toArray, List.set_cons_succ, List.set_cons_zero]
                refine held_take (i := 5) (t := 33) (v := (.int .i64 v.k)) (fuel := 12) rfl rfl (by kernel_rfl) (by kernel_rfl) (by kernel_rfl) (fun _ _ _ h => h) (.inl ⟨rfl, fun W hW => by simp [execOp, Act.eval, go_sem, hW.out.1.c0]⟩) hS ?_
                simp only [List.setIfInBounds_toArray, List.set_cons_succ, List.set_cons_zero]
                refine held_take (i := 6) (t := 34) (v := (.bool true)) (fuel := 11) rfl rfl (by kernel_rfl) (by kernel_rfl) (by kernel_rfl) (fun _ _ _ h => h) (.inl ⟨rfl, fun W hW => by simp [execOp, Act.eval, go_sem, r1]⟩) hS ?_
                simp only [List.setIfInBounds_toArray, List.set_cons_succ, List.set_cons_zero]
                refine held_take (i := 7) (t := 35) (v := (.bool true)) (fuel := 10) rfl rfl (by kernel_rfl) (by kernel_rfl) (by kernel_rfl) (fun _ _ _ h => h) (.inl ⟨rfl, fun W hW => by simp [execOp, Act.eval, go_sem]⟩) hS ?_
                simp only [List.setIfInBounds_toArray, List.set_cons_succ, List.set_cons_zero]
                refine held_take (i := 8) (t := 36) (v := (.pointer (some ⟨g, 0, none⟩))) (fuel := 9) rfl rfl (by kernel_rfl) (by kernel_rfl) (by kernel_rfl) (fun _ _ _ h => h) (.inl ⟨rfl, fun W hW => by simp [execOp, Act.eval, go_sem]⟩) hS ?_
                simp only [List.setIfInBounds_toArray, List.set_cons_succ, List.set_cons_zero]
                refine held_take (i := 9) (t := 37) (v := (.int .i64 v.k)) (fuel := 8) rfl rfl (by kernel_rfl) (by kernel_rfl) (by kernel_rfl) (fun _ _ _ h => h) (.inl ⟨rfl, fun W hW => by simp [execOp, Act.eval, go_sem, hW.out.1.c0]⟩) hS ?_
                simp only [List.setIfInBounds_toArray, List.set_cons_succ, List.set_cons_zero]
                refine held_take (i := 10) (t := 38) (v := (.slice (some ⟨b, off, none⟩) m cap)) (fuel := 7) rfl rfl (by kernel_rfl) (by kernel_rfl) (by kernel_rfl) (fun _ _ _ h => h) (.inl ⟨rfl, fun W hW => by simp [execOp, Act.eval, go_sem]⟩) hS ?_
                simp only [List.setIfInBounds_toArray, List.set_cons_succ, List.set_cons_zero]
                refine held_take (i := 11) (t := 39) (v := (.int .i64 (k : Int))) (fuel := 6) rfl rfl (by kernel_rfl) (by kernel_rfl) (by kernel_rfl) (fun _ _ _ h => h) (.inl ⟨rfl, fun W hW => by simp [execOp, Act.eval, go_sem]⟩) hS ?_
                simp only [List.setIfInBounds_toArray, List.set_cons_succ, List.set_cons_zero]
                refine held_take (i := 12) (t := 40) (v := (.pointer (some ⟨b, off + k * 2, none⟩))) (fuel := 5) rfl rfl (by kernel_rfl) (by kernel_rfl) (by kernel_rfl) (fun _ _ _ h => h) (.inl ⟨rfl, fun W hW => by simp [execOp, Act.eval, go_sem, i1, i2]⟩) hS ?_
                simp only [List.setIfInBounds_toArray, List.set_cons_succ, List.set_cons_zero]
                refine held_take (i := 13) (t := 41) (v := (.pointer (some ⟨b, off + k * 2 + 1, none⟩))) (fuel := 4) rfl rfl (by kernel_rfl) (by kernel_rfl) (by kernel_rfl) (fun _ _ _ h => h) (.inl ⟨rfl, fun W hW => by simp [execOp, Act.eval, go_sem]⟩) hS ?_
                simp only [List.setIfInBounds_toArray, List.set_cons_succ, List.set_cons_zero]
                refine held_take (i := 14) (t := 42) (v := (.int .i64 c.k)) (fuel := 3) rfl rfl (by kernel_rfl) (by kernel_rfl) (by kernel_rfl) (fun _ _ _ h => h) (.inl ⟨rfl, fun W hW => by simp [execOp, Act.eval, go_sem, hW.out.2]⟩) hS ?_
                simp only [List.setIfInBounds_toArray, List.set_cons_succ, List.set_cons_zero]
                refine held_take (i := 15) (t := 43) (v := (.bool true)) (fuel := 2) rfl rfl (by kernel_rfl) (by kernel_rfl) (by kernel_rfl) (fun _ _ _ h => h) (.inl ⟨rfl, fun W hW => by simp [execOp, Act.eval, go_sem, r2]⟩) hS ?_
                simp only [List.setIfInBounds_toArray, List.set_cons_succ, List.set_cons_zero]
                refine held_take (i := 16) (t := 44) (v := (.bool true)) (fuel := 1) rfl rfl (by kernel_rfl) (by kernel_rfl) (by kernel_rfl) (fun _ _ _ h => h) (.inl ⟨rfl, fun W hW => by simp [execOp, Act.eval, go_sem]⟩) hS ?_
                simp only [List.setIfInBounds_toArray, List.set_cons_succ, List.set_cons_zero]
                refine held_take (i := 17) (t := 45) (v := (.bool true)) (fuel := 0) rfl rfl (by kernel_rfl) (by kernel_rfl) (by kernel_rfl) (fun _ _ _ h => h) (.inl ⟨rfl, fun W hW => by simp [execOp, Act.eval, go_sem]⟩) hS ?_
                simp only [List.setIfInBounds_toArray, List.set_cons_succ, List.set_cons_zero]
                refine wpAnyH_done (by kernel_rfl) ?_ 0
                have HX0 := Lib.hid (show fitsL l vs = false by
                  rw [← Bool.not_eq_true, fitsL_iff HVC.out]
                  intro h
                  have h2 := h k hkl
                  rw [HC.out, HV.out] at h2
                  rw [HNF.out] at h2; cases h2)
                have HX := Lib.hid (show recE l vs = 122 by unfold recE; rw [if_neg (by simp [HG.out]), if_neg (by rw [HVC.out]; simp), if_pos HX0.out])
                have HX2 := Lib.hid (show recV l vs = [] by unfold recV; rw [HX.out, if_neg (by decide)])
                go_wp2
                go_ret2
                rw [HX.out, HX2.out]
                exact rrec_err rfl rfl (hop0 HBW.out HB1.out)
          · have HNF := Lib.hid (show fits c v = false by rw [fits_of, decide_eq_false hck, Bool.false_and])
            have r0 : (chk v != 0) = true := by rw [bne_iff_ne]; exact hck
            clear hck
            have hS : Hid (Box3 W0.drew g v ∧ W0.drew.cell? ⟨b, off + k * 2 + 1, none⟩ = some (.int .i64 c.k)) := Lib.hid ⟨HBX.out, HD1.out⟩
            refine held_begin 18 (fun W => Hid (Box3 W g v ∧ W.cell? ⟨b, off + k * 2 + 1, none⟩ = some (.int .i64 c.k))) rfl (by kernel_rfl) ?_
            refine held_take (i := 0) (t := 28) (v := (.agg #[.int .i64 v.k, .int .i64 v.n, .string v.s])) (fuel := 17) rfl rfl (by kernel_rfl) (by kernel_rfl) (by kernel_rfl) (fun _ _ _ h => h) (.inl ⟨rfl, fun W hW => by simp [execOp, Act.eval, go_sem, hW.out.1.c0, hW.out.1.c1, hW.out.1.c2]⟩) hS ?_
            simp only [List.setIfInBounds_toArray, List.set_cons_succ, List.set_cons_zero]
            refine held_call (i := 1) rfl (by kernel_rfl) (by kernel_rfl) ?_
            simp [Oper.wp, execOp, Act.eval, Act.put, go_sem]
            refine (HCV.out _).mono ?_
            rintro e W1 ⟨rfl, hb1⟩
            have HB1 := Lib.hid (show Below W0.heap.size W0 W1 from ((Below.refl W0.heap.size W0).drew).trans hb1)
            have hS : Hid (Box3 W1 g v ∧ W1.cell? ⟨b, off + k * 2 + 1, none⟩ = some (.int .i64 c.k)) := Lib.hid ⟨hS.out.1.below hb1, later_cell hb1 hS.out.2⟩
            clear hb1
            refine ⟨hS, ?_⟩
            try simp only [List.setIfInBounds_toArray, List.set_cons_succ, List.set_cons_zero]
            refine held_take (i := 2) (t := 30) (v := (.bool true)) (fuel := 15) rfl rfl (by kernel_rfl) (by kernel_rfl) (by kernel_rfl) (fun _ _ _ h => h) (.inl ⟨rfl, fun W hW => by simp [execOp, Act.eval, go_sem, r0]⟩) hS ?_
            simp only [List.setIfInBounds_toArray, List.set_cons_succ, List.set_cons_zero]
            refine held_take (i := 3) (t := 31) (v := (.bool true)) (fuel := 14) rfl rfl (by kernel_rfl) (by kernel_rfl) (by kernel_rfl) (fun _ _ _ h => h) (.inl ⟨rfl, fun W hW => by simp [execOp, Act.eval, go_sem]⟩) hS ?_
            simp only [List.setIfInBounds_toArray, List.set_cons_succ, List.set_cons_zero]
            refine held_take (i := 4) (t := 32) (v := undef) (fuel := 13) rfl rfl (by kernel_rfl) (by kernel_rfl) (by kernel_rfl) (fun _ _ _ h => h) (.inr ⟨rfl, rfl⟩) hS ?_
            simp only [List.setIfInBounds_toArray, List.set_cons_succ, List.set_cons_zero]
            refine held_take (i := 5) (t := 33) (v := undef) (fuel := 12) rfl rfl (by kernel_rfl) (by kernel_rfl) (by kernel_rfl) (fun _ _ _ h => h) (.inr ⟨rfl, rfl⟩) hS ?_
            simp only [List.setIfInBounds_toArray, List.set_cons_succ, List.set_cons_zero]
            refine held_take (i := 6) (t := 34) (v := undef) (fuel := 11) rfl rfl (by kernel_rfl) (by kernel_rfl) (by kernel_rfl) (fun _ _ _ h => h) (.inr ⟨rfl, rfl⟩) hS ?_
            simp only [List.setIfInBounds_toArray, List.set_cons_succ, List.set_cons_zero]
            refine held_take (i := 7) (t := 35) (v := undef) (fuel := 10) rfl rfl (by kernel_rfl) (by kernel_rfl) (by kernel_rfl) (fun _ _ _ h => h) (.inr ⟨rfl, rfl⟩) hS ?_
            simp only [List.setIfInBounds_toArray, List.set_cons_succ, List.set_cons_zero]
            refine held_take (i := 8) (t := 36) (v := undef) (fuel := 9) rfl rfl (by kernel_rfl) (by kernel_rfl) (by kernel_rfl) (fun _ _ _ h => h) (.inr ⟨rfl, rfl⟩) hS ?_
            simp only [List.setIfInBounds_toArray, List.set_cons_succ, List.set_cons_zero]
            refine held_take (i := 9) (t := 37) (v := undef) (fuel := 8) rfl rfl (by kernel_rfl) (by kernel_rfl) (by kernel_rfl) (fun _ _ _ h => h) (.inr ⟨rfl, rfl⟩) hS ?_
            simp only [List.setIfInBounds_toArray, List.set_cons_succ, List.set_cons_zero]
            refine held_take (i := 10) (t := 38) (v := undef) (fuel := 7) rfl rfl (by kernel_rfl) (by kernel_rfl) (by kernel_rfl) (fun _ _ _ h => h) (.inr ⟨rfl, rfl⟩) hS ?_
            simp only [List.setIfInBounds_toArray, List.set_cons_succ, List.set_cons_zero]
            refine held_take (i := 11) (t := 39) (v := undef) (fuel := 6) rfl rfl (by kernel_rfl) (by kernel_rfl) (by kernel_rfl) (fun _ _ _ h => h) (.inr ⟨rfl, rfl⟩) hS ?_
            simp only [List.setIfInBounds_toArray, List.set_cons_succ, List.set_cons_zero]
            refine held_take (i := 12) (t := 40) (v := undef) (fuel := 5) rfl rfl (by kernel_rfl) (by kernel_rfl) (by kernel_rfl) (fun _ _ _ h => h) (.inr ⟨rfl, rfl⟩) hS ?_
            simp only [List.setIfInBounds_toArray, List.set_cons_succ, List.set_cons_zero]
            refine held_take (i := 13) (t := 41) (v := undef) (fuel := 4) rfl rfl (by kernel_rfl) (by kernel_rfl) (by kernel_rfl) (fun _ _ _ h => h) (.inr ⟨rfl, rfl⟩) hS ?_
            simp only [List.setIfInBounds_toArray, List.set_cons_succ, List.set_cons_zero]
            refine held_take (i := 14) (t := 42) (v := undef) (fuel := 3) rfl rfl (by kernel_rfl) (by kernel_rfl) (by kernel_rfl) (fun _ _ _ h => h) (.inr ⟨rfl, rfl⟩) hS ?_
            simp only [List.setIfInBounds_toArray, List.set_cons_succ, List.set_cons_zero]
            refine held_take (i := 15) (t := 43) (v := undef) (fuel := 2) rfl rfl (by kernel_rfl) (by kernel_rfl) (by kernel_rfl) (fun _ _ _ h => h) (.inr ⟨rfl, rfl⟩) hS ?_
            simp only [List.setIfInBounds_toArray, List.set_cons_succ, List.set_cons_zero]
            refine held_take (i := 16) (t := 44) (v := undef) (fuel := 1) rfl rfl (by kernel_rfl) (by kernel_rfl) (by kernel_rfl) (fun _ _ _ h => h) (.inr ⟨rfl, rfl⟩) hS ?_
            simp only [List.setIfInBounds_toArray, List.set_cons_succ, List.set_cons_zero]
            refine held_take (i := 17) (t := 45) (v := (.bool true)) (fuel := 0) rfl rfl (by kernel_rfl) (by kernel_rfl) (by kernel_rfl) (fun _ _ _ h => h) (.inl ⟨rfl, fun W hW => by simp [execOp, Act.eval, go_sem]⟩) hS ?_
            simp only [List.setIfInBounds_toArray, List.set_cons_succ, List.set_cons_zero]
            refine wpAnyH_done (by kernel_rfl) ?_ 0
            have HX0 := Lib.hid (show fitsL l vs = false by
              rw [← Bool.not_eq_true, fitsL_iff HVC.out]
              intro h
              have h2 := h k hkl
              rw [HC.out, HV.out] at h2
              rw [HNF.out] at h2; cases h2)
            have HX := Lib.hid (show recE l vs = 122 by unfold recE; rw [if_neg (by simp [HG.out]), if_neg (by rw [HVC.out]; simp), if_pos HX0.out])
            have HX2 := Lib.hid (show recV l vs = [] by unfold recV; rw [HX.out, if_neg (by decide)])
            go_wp2
            go_ret2
            rw [HX.out, HX2.out]
            exact rrec_err rfl rfl (hop0 HBW.out HB1.out)
        · have HX0 := Lib.hid (show fitsL l vs = true from (fitsL_iff HVC.out).2 fun j hj => HA.out j hj (by rw [HVC.out]; exact hj) (by have := HL.out; omega))
          have HX := Lib.hid (show recE l vs = 0 by unfold recE; rw [if_neg (by simp [HG.out]), if_neg (by rw [HVC.out]; simp), if_neg (by rw [HX0.out]; simp)])
          have HX2 := Lib.hid (show recV l vs = jnK vs k by
            have hkm : k = vs.length := by have := HMV.out; omega
            unfold recV; rw [if_pos HX.out, hkm, jnK_all])
          go_wp2
          go_ret2
          rw [HX.out, HX2.out]
          exact ⟨by rw [← HSJ.out]; rfl, HBR.out⟩
    · have HX := Lib.hid (show recE l vs = 121 by unfold recE; rw [if_neg (by simp [HG.out]), if_pos hc])
      have HX2 := Lib.hid (show recV l vs = [] by unfold recV; rw [HX.out, if_neg (by decide)])
      have hne : ((m : Int) != (len : Int)) = true := by
        rw [bne_iff_ne]
        have := HL.out
        have := HMV.out
        omega
      clear hc hr hv hl hw hwv hmv hl1 hl12 hm hmm
      go_enter Tryd.func24, Tryd.ntmps24
      go_wp2_with (go_at_call 10; refine HRG.out.mono ?_; rintro e w1 ⟨rfl, rfl⟩)
      go_ret2
      rw [HX.out, HX2.out]
      exact rrec_err rfl rfl (Below.refl _ _)
end Go.Proofs.YtfkfgabepjpdlaaDoor
