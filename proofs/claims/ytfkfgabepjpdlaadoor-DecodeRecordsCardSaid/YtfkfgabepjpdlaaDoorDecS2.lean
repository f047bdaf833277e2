/- Layer 12, walked: the record of a row. -/
import Derived.Test.YtfkfgabepjpdlaaDoorDecS1
namespace Go.Proofs.YtfkfgabepjpdlaaDoor
open Go.ChangeShapes Go.WideShapes Go.ChangeAt Go.RowKit
set_option linter.unusedVariables false

/-- A record in new memory, and an error's number. -/
def RecPost (E : Int) (bs : List UInt8) (w : World) (e : Ending) (w' : World) : Prop :=
  ∃ A n c, e = .returned (.tuple #[.slice A n c, .int .i64 E]) ∧ Buf w.heap.size A n c bs w' ∧ Below w.heap.size w w'
theorem rec_err {w w' : World} {E E2 : Int} {bs : List UInt8} (h : E = E2) (h2 : bs = []) (hb : Below w.heap.size w w') : RecPost E bs w (.returned (.tuple #[.slice none 0 0, .int .i64 E2])) w' := by
  subst h h2
  exact ⟨none, 0, 0, rfl, Buf.nil _ _ hb.size, hb⟩
/-- The record so far. -/
def jnK (vs : List V) (k : Nat) : List UInt8 := jn ((vs.take k).map wr)
theorem jnK_zero (vs : List V) : jnK vs 0 = [] := rfl
theorem jnK_succ {vs : List V} {k : Nat} (hk : k < vs.length) : jnK vs (k + 1) = (if k = 0 then [] else jnK vs k ++ [44]) ++ wr vs[k] := by
  unfold jnK
  rw [List.take_succ_eq_append_getElem hk, List.map_append]
  cases k with
  | zero => simp [jn]
  | succ k =>
    rw [if_neg (by omega)]
    show jn (_ ++ [wr vs[k + 1]]) = _
    rw [jn_snoc _ _ (by simp; omega)]
    simp
theorem jnK_first {vs : List V} (hk : 0 < vs.length) : jnK vs 1 = wr vs[0] := by rw [jnK_succ hk]; rfl
theorem jnK_next {vs : List V} {k : Nat} (hk : k < vs.length) (h0 : k ≠ 0) : jnK vs (k + 1) = (jnK vs k ++ [44]) ++ wr vs[k] := by rw [jnK_succ hk, if_neg h0]
theorem jnK_all (vs : List V) : jnK vs vs.length = jn (vs.map wr) := by unfold jnK; rw [List.take_length]
theorem Buf.keepB {B B0 : Nat} {A : Option Addr} {n c : Nat} {bs : List UInt8} {w w' : World} (h : Buf B A n c bs w) (hb : Below w.heap.size w w') : Buf B A n c bs w' := h.below hb
theorem fits_of {c : C} {v : V} : fits c v = (decide (chk v = 0) && decide (v.k = 0 ∨ v.k = c.k)) := rfl
theorem new_val (w : World) (v : V) : Box3 (w.alloc (.cells #[.int .i64 v.k, .int .i64 v.n, .string v.s] 53)) w.heap.size v := Box3.new w v
set_option maxHeartbeats 4000000 in
set_option maxRecDepth 20000 in
theorem rec_cols (l : List C) (hw : ∀ c ∈ l, c.wf) (len cap : Nat) (A : Option Addr) (vs : List V) (hwv : ∀ v ∈ vs, v.wf) (m cv : Nat) (Av : Option Addr) (w : World) (hl : len = l.length) (hm : len ≤ maxLen) (hcap : len ≤ cap) (hcm : cap ≤ maxLen) (hr : Row2 w w.heap.size A l)
    (hmv : m = vs.length) (hmm : m ≤ maxLen) (hv : Row3 w w.heap.size Av vs) {B : Nat} (hE : Env2 B w) (hB : B ≤ w.heap.size) :
    Calls Tryd.prog 23 #[.slice A len cap, .slice Av m cv] w (RecPost (recE l vs) (recV l vs) w) := by
  have HCK0 := Lib.hid (check_cols l hw len cap A w hl hm hcap hcm hr)
  by_cases hg : rightB l = true
  · have HC1 := Lib.hid (check_good HCK0.out hg)
    have HG := Lib.hid hg
    obtain ⟨hl1, hl12⟩ := rightB_len hg
    clear hg HCK0
    have HR := Lib.hid hr
    have HRV := Lib.hid hv
    have HL := Lib.hid hl
    have HW := Lib.hid hw
    have HWV := Lib.hid hwv
    have HMV := Lib.hid hmv
    have HE := Lib.hid (fun W (h : Below w.heap.size w W) => hE.below (h.mono hB))
    have HBB := Lib.hid hB
    have hlen : len ≤ 12 := by omega
    have hm63 : m ≤ 9223372036854775807 := by unfold maxLen at hmm; omega
    by_cases hc : vs.length = l.length
    · have HVC := Lib.hid hc
      have hml : m = len := by omega
      clear hr hv hl hw hwv hmv hE hB hl1 hl12 hc hm hmm hcap hcm hm63
      subst hml
      have hq0 : ((m : Int) != (m : Int)) = false := by simp
      go_enter Tryd.func23, Tryd.ntmps23
      go_wp2_with (go_at_call 15; refine HC1.out.mono ?_; rintro e w1 ⟨rfl, hb1⟩; have HBc := Lib.hid hb1; clear hb1)
      clear hq0
      go_loopw [7, 22] (fun lv iv wr_ => ∃ (k : Nat) (Ab : Option Addr) (n cb : Nat), k ≤ m ∧ iv = .int .i64 (k : Int) ∧ lv = .slice Ab n cb ∧ Hid (∀ j (hj : j < l.length) (hv : j < vs.length), j < k → fits l[j] vs[j] = true) ∧ Hid (Buf w.heap.size Ab n cb (jnK vs k) wr_) ∧ Hid ((jnK vs k).length ≤ k * 401) ∧ Hid (Below w.heap.size w wr_)) (fun _ iv _ => m - (intOf iv).toNat)
      case atStart => exact ⟨0, none, 0, 0, Nat.zero_le _, rfl, rfl, Lib.hid (fun j _ _ h => by omega), Lib.hid (Buf.nil _ _ HBc.out.size), Lib.hid (Nat.zero_le _), HBc⟩
      case round =>
        obtain ⟨wz, rfl⟩ : ∃ x, x = wr := ⟨_, rfl⟩
        obtain ⟨k, Ab, n, cb, hk, rfl, rfl, HA, HBU, HLN, HBR⟩ := hrel
        by_cases hlt : k < m
        · have hkv : k < vs.length := by rw [← HMV.out]; exact hlt
          have hkl : k < l.length := by rw [← HL.out]; exact hlt
          obtain ⟨b, off, rfl, hBb, d0, d1⟩ := (HR.out.below HBR.out) k hkl
          obtain ⟨b2, off2, rfl, hBb2, v0, v1, v2⟩ := (HRV.out.below HBR.out) k hkv
          obtain ⟨c, HC⟩ : ∃ c, Hid (l[k] = c) := ⟨_, Lib.hid rfl⟩
          obtain ⟨v, HV⟩ : ∃ v, Hid (vs[k] = v) := ⟨_, Lib.hid rfl⟩
          rw [HC.out] at d0 d1
          rw [HV.out] at v0 v1 v2
          have hwv : v.wf := HWV.out v (by rw [← HV.out]; exact List.getElem_mem hkv)
          have HWFV := Lib.hid hwv
          have HCV := Lib.hid (fun W => check_any v hwv W)
          unfold V.val at HCV
          have i1 : (0 : Int) ≤ (k : Int) := by omega
          have i2 : (k : Int) < (m : Int) := by omega
          have HD1' := Lib.hid d1
          clear hwv d0
          go_wp2_with fail
          have HBX := Lib.hid (new_val wz v)
          have HBV := Lib.hid (show Below wz.heap.size wz (wz.alloc (.cells #[.int .i64 v.k, .int .i64 v.n, .string v.s] 53)) from (Below.refl _ _).alloc (Nat.le_refl _) _)
          have HD1 := Lib.hid (later_cell HBV.out d1)
          have HBW := Lib.hid (hop0 HBR.out HBV.out)
          obtain ⟨W0, hW0⟩ : ∃ W0, wz.alloc (.cells #[.int .i64 v.k, .int .i64 v.n, .string v.s] 53) = W0 := ⟨_, rfl⟩
          obtain ⟨g, hg⟩ : ∃ g, wz.heap.size = g := ⟨_, rfl⟩
          rw [hW0] at HBX HBV HD1 HBW ⊢
          rw [hg] at HBX ⊢
          have HGG := Lib.hid hg
          clear hW0 hg v0 v1 v2 d1
          have hwv := HWFV.out
          by_cases hck : chk v = 0
          · have HCK := Lib.hid hck
            rw [hck] at HCV
            by_cases hk0 : v.k = 0
            · have HFT := Lib.hid (show fits c v = true by rw [fits_of, decide_eq_true hck, decide_eq_true (show v.k = 0 ∨ v.k = c.k from .inl hk0)]; rfl)
              have r1 : (v.k != 0) = false := by rw [hk0]; rfl
              clear hck hk0
              have hS : Hid (Box3 W0.drew g v ∧ W0.drew.cell? ⟨b, off + k * 2 + 1, none⟩ = some (.int .i64 c.k)) := Lib.hid ⟨HBX.out, HD1.out⟩
              refine held_begin 18 (fun W => Hid (Box3 W g v ∧ W.cell? ⟨b, off + k * 2 + 1, none⟩ = some (.int .i64 c.k))) rfl (by kernel_rfl) ?_
              refine held_take (i := 0) (t := 27) (v := (.agg #[.int .i64 v.k, .int .i64 v.n, .string v.s])) (fuel := 17) rfl rfl (by kernel_rfl) (by kernel_rfl) (by kernel_rfl) (fun _ _ _ h => h) (.inl ⟨rfl, fun W hW => by simp [execOp, Act.eval, go_sem, hW.out.1.c0, hW.out.1.c1, hW.out.1.c2]⟩) hS ?_
              simp only [List.setIfInBounds_toArray, List.set_cons_succ, List.set_cons_zero]
              refine held_call (i := 1) rfl (by kernel_rfl) (by kernel_rfl) ?_
              simp [Oper.wp, execOp, Act.eval, Act.put, go_sem]
              refine (HCV.out _).mono ?_
              rintro e W1 ⟨rfl, hb1⟩
              have HB1 := Lib.hid (show Below W0.heap.size W0 W1 from ((Below.refl W0.heap.size W0).drew).trans hb1)
              have hS : Hid (Box3 W1 g v ∧ W1.cell? ⟨b, off + k * 2 + 1, none⟩ = some (.int .i64 c.k)) := Lib.hid ⟨hS.out.1.below hb1, later_cell hb1 hS.out.2⟩
              clear hb1
              refine ⟨hS, ?_⟩
              try simp only [List.setIfInBounds_toArray, List.set_cons_succ, List.set_cons_zero]
              refine held_take (i := 2) (t := 29) (v := (.bool false)) (fuel := 15) rfl rfl (by kernel_rfl) (by kernel_rfl) (by kernel_rfl) (fun _ _ _ h => h) (.inl ⟨rfl, fun W hW => by simp [execOp, Act.eval, go_sem]⟩) hS ?_
              simp only [List.setIfInBounds_toArray, List.set_cons_succ, List.set_cons_zero]
              refine held_take (i := 3) (t := 30) (v := (.bool false)) (fuel := 14) rfl rfl (by kernel_rfl) (by kernel_rfl) (by kernel_rfl) (fun _ _ _ h => h) (.inl ⟨rfl, fun W hW => by simp [execOp, Act.eval, go_sem]⟩) hS ?_
              simp only [List.setIfInBounds_toArray, List.set_cons_succ, List.set_cons_zero]
              refine held_take (i := 4) (t := 31) (v := (.pointer (some ⟨g, 0, none⟩))) (fuel := 13) rfl rfl (by kernel_rfl) (by kernel_rfl) (by kernel_rfl) (fun _ _ _ h => h) (.inl ⟨rfl, fun W hW => by simp [execOp, Act.eval, go_sem]⟩) hS ?_
              simp only [List.setIfInBounds_toArray, List.set_cons_succ, List.set_cons_zero]
              refine held_take (i := 5) (t := 32) (v := (.int .i64 v.k)) (fuel := 12) rfl rfl (by kernel_rfl) (by kernel_rfl) (by kernel_rfl) (fun _ _ _ h => h) (.inl ⟨rfl, fun W hW => by simp [execOp, Act.eval, go_sem, hW.out.1.c0]⟩) hS ?_
              simp only [List.setIfInBounds_toArray, List.set_cons_succ, List.set_cons_zero]
              refine held_take (i := 6) (t := 33) (v := (.bool false)) (fuel := 11) rfl rfl (by kernel_rfl) (by kernel_rfl) (by kernel_rfl) (fun _ _ _ h => h) (.inl ⟨rfl, fun W hW => by simp [execOp, Act.eval, go_sem, r1]⟩) hS ?_
              simp only [List.setIfInBounds_toArray, List.set_cons_succ, List.set_cons_zero]
              refine held_take (i := 7) (t := 34) (v := (.bool false)) (fuel := 10) rfl rfl (by kernel_rfl) (by kernel_rfl) (by kernel_rfl) (fun _ _ _ h => h) (.inl ⟨rfl, fun W hW => by simp [execOp, Act.eval, go_sem]⟩) hS ?_
              simp only [List.setIfInBounds_toArray, List.set_cons_succ, List.set_cons_zero]
              refine held_take (i := 8) (t := 35) (v := undef) (fuel := 9) rfl rfl (by kernel_rfl) (by kernel_rfl) (by kernel_rfl) (fun _ _ _ h => h) (.inr ⟨rfl, rfl⟩) hS ?_
              simp only [List.setIfInBounds_toArray, List.set_cons_succ, List.set_cons_zero]
              refine held_take (i := 9) (t := 36) (v := undef) (fuel := 8) rfl rfl (by kernel_rfl) (by kernel_rfl) (by kernel_rfl) (fun _ _ _ h => h) (.inr ⟨rfl, rfl⟩) hS ?_
              simp only [List.setIfInBounds_toArray, List.set_cons_succ, List.set_cons_zero]
              refine held_take (i := 10) (t := 37) (v := undef) (fuel := 7) rfl rfl (by kernel_rfl) (by kernel_rfl) (by kernel_rfl) (fun _ _ _ h => h) (.inr ⟨rfl, rfl⟩) hS ?_
              simp only [List.setIfInBounds_toArray, List.set_cons_succ, List.set_cons_zero]
              refine held_take (i := 11) (t := 38) (v := undef) (fuel := 6) rfl rfl (by kernel_rfl) (by kernel_rfl) (by kernel_rfl) (fun _ _ _ h => h) (.inr ⟨rfl, rfl⟩) hS ?_
              simp only [List.setIfInBounds_toArray, List.set_cons_succ, List.set_cons_zero]
              refine held_take (i := 12) (t := 39) (v := undef) (fuel := 5) rfl rfl (by kernel_rfl) (by kernel_rfl) (by kernel_rfl) (fun _ _ _ h => h) (.inr ⟨rfl, rfl⟩) hS ?_
              simp only [List.setIfInBounds_toArray, List.set_cons_succ, List.set_cons_zero]
              refine held_take (i := 13) (t := 40) (v := undef) (fuel := 4) rfl rfl (by kernel_rfl) (by kernel_rfl) (by kernel_rfl) (fun _ _ _ h => h) (.inr ⟨rfl, rfl⟩) hS ?_
              simp only [List.setIfInBounds_toArray, List.set_cons_succ, List.set_cons_zero]
              refine held_take (i := 14) (t := 41) (v := undef) (fuel := 3) rfl rfl (by kernel_rfl) (by kernel_rfl) (by kernel_rfl) (fun _ _ _ h => h) (.inr ⟨rfl, rfl⟩) hS ?_
              simp only [List.setIfInBounds_toArray, List.set_cons_succ, List.set_cons_zero]
              refine held_take (i := 15) (t := 42) (v := undef) (fuel := 2) rfl rfl (by kernel_rfl) (by kernel_rfl) (by kernel_rfl) (fun _ _ _ h => h) (.inr ⟨rfl, rfl⟩) hS ?_
              simp only [List.setIfInBounds_toArray, List.set_cons_succ, List.set_cons_zero]
              refine held_take (i := 16) (t := 43) (v := (.bool false)) (fuel := 1) rfl rfl (by kernel_rfl) (by kernel_rfl) (by kernel_rfl) (fun _ _ _ h => h) (.inl ⟨rfl, fun W hW => by simp [execOp, Act.eval, go_sem]⟩) hS ?_
              simp only [List.setIfInBounds_toArray, List.set_cons_succ, List.set_cons_zero]
              refine held_take (i := 17) (t := 44) (v := (.bool false)) (fuel := 0) rfl rfl (by kernel_rfl) (by kernel_rfl) (by kernel_rfl) (fun _ _ _ h => h) (.inl ⟨rfl, fun W hW => by simp [execOp, Act.eval, go_sem]⟩) hS ?_
              simp only [List.setIfInBounds_toArray, List.set_cons_succ, List.set_cons_zero]
              refine wpAnyH_done (by kernel_rfl) ?_ 0
              have HA2 := Lib.hid (show ∀ j (hj : j < l.length) (hv : j < vs.length), j < k + 1 → fits l[j] vs[j] = true from fun j hj hv h => by
                by_cases h2 : j = k
                · subst h2; rw [HC.out, HV.out]; exact HFT.out
                · exact HA.out j hj hv (by omega))
              have c0 := hS.out.1.c0
              have c1 := hS.out.1.c1
              have c2 := hS.out.1.c2
              have HBW1 := Lib.hid (hop0 HBW.out HB1.out)
              have HBU1 := Lib.hid ((HBU.out.below HBV.out).below HB1.out)
              have HWR := Lib.hid (fun W (h : Below w.heap.size w W) => written_any v hwv HCK.out W (HE.out W h) (by have h1 := HBB.out; have h3 := h.size; omega))
              unfold V.val at HWR
              have HWL := Lib.hid (wr_len hwv HCK.out)
              have HBX1 := Lib.hid hS.out.1
              clear hS
              by_cases hk0 : k = 0
              · subst hk0
                have HJ := Lib.hid (show jnK vs 1 = wr v by rw [jnK_first hkv, HV.out])
                go_wp2_with (first
                  | (go_at_call 33; refine (HWR.out _ HBW1.out).mono ?_; rintro e W2 ⟨rfl, hb2⟩; have HB2 := Lib.hid hb2; have HBU2 := Lib.hid (HBU1.out.below hb2); clear hb2)
                  | (at_builtin; go_loud (refine append_text rfl _ _ rfl w.heap.size Ab n cb [] rfl W2 (txt (wr v)) HBU2.out rfl (by rw [txt_size]; have := HWL.out; simp; omega) ?_); intro A3 n3 c3 W3 hn3 hb3 hk3; have HBU3 := Lib.hid hb3; have HK3 := Lib.hid hk3; clear hb3 hk3 hn3))
                rw [List.nil_append, txt_list, ← HJ.out] at HBU3
                have HLN3 := Lib.hid (show (jnK vs (0 + 1)).length ≤ (0 + 1) * 401 by rw [HJ.out]; have := HWL.out; omega)
                have HB3 := Lib.hid ((hop0 HBW1.out HB2.out).trans HK3.out.below)
                go_roundw
                case rel => exact ⟨0 + 1, _, _, _, by omega, by go_num, rfl, HA2, HBU3, HLN3, HB3⟩
                case measure => simp [intOf]; omega
              · have HJ := Lib.hid (show jnK vs (k + 1) = (jnK vs k ++ [44]) ++ wr v by rw [jnK_next hkv hk0, HV.out])
                have p1 : decide ((0 : Int) < (k : Int)) = true := decide_eq_true (by omega)
                go_wp2_with (first
                  | (go_at_call 33; refine (HWR.out _ (HBW1.out.trans HKc.out.below)).mono ?_; rintro e W2 ⟨rfl, hb2⟩; have HB2 := Lib.hid hb2; have HBU2 := Lib.hid (HBUc.out.below hb2); clear hb2)
                  | (have HSEC := HBU2; at_builtin; go_loud (refine append_text rfl _ _ rfl w.heap.size Ac (n + 1) cc (jnK vs k ++ [44]) rfl W2 (txt (wr v)) HBU2.out rfl (by rw [txt_size]; have := HWL.out; have := HLN.out; simp; omega) ?_); intro A3 n3 c3 W3 hn3 hb3 hk3; have HBU3 := Lib.hid hb3; have HK3 := Lib.hid hk3; clear hb3 hk3 hn3)
                  | (at_builtin; go_loud (refine append_bytes rfl _ _ rfl w.heap.size Ab n cb (jnK vs k) rfl W1 [44] 1 HBU1.out _ rfl rfl rfl [.int .u8 44] rfl (by have := HLN.out; simp; omega) ?_); intro Ac nc cc Wc hnc hbc hkc; subst hnc; have HBUc := Lib.hid hbc; have HKc := Lib.hid hkc; have HBXc := Lib.hid (show Box3 Wc g v from hkc.block _ _ HBX1.out (fun cur f e => by simp only [Obj.cells.injEq] at e; exact absurd e.2.1 (by decide))); clear hbc hkc c0 c1 c2; have c0 := HBXc.out.c0; have c1 := HBXc.out.c1; have c2 := HBXc.out.c2))
                rw [txt_list, ← HJ.out] at HBU3
                have HLN3 := Lib.hid (show (jnK vs (k + 1)).length ≤ (k + 1) * 401 by rw [HJ.out]; have := HWL.out; have := HLN.out; simp; omega)
                have HB3 := Lib.hid ((hop0 (HBW1.out.trans HKc.out.below) HB2.out).trans HK3.out.below)
                go_roundw
                case rel => exact ⟨k + 1, _, _, _, by omega, by go_num, rfl, HA2, HBU3, HLN3, HB3⟩
                case measure => simp [intOf]; omega
            · have r1 : (v.k != 0) = true := by rw [bne_iff_ne]; exact hk0
              by_cases hkk : v.k = c.k
              · have HFT := Lib.hid (show fits c v = true by rw [fits_of, decide_eq_true hck, decide_eq_true (show v.k = 0 ∨ v.k = c.k from .inr hkk)]; rfl)
                have r2 : (v.k != c.k) = false := by rw [hkk]; simp
                clear hck hk0 hkk
                have hS : Hid (Box3 W0.drew g v ∧ W0.drew.cell? ⟨b, off + k * 2 + 1, none⟩ = some (.int .i64 c.k)) := Lib.hid ⟨HBX.out, HD1.out⟩
                refine held_begin 18 (fun W => Hid (Box3 W g v ∧ W.cell? ⟨b, off + k * 2 + 1, none⟩ = some (.int .i64 c.k))) rfl (by kernel_rfl) ?_
                refine held_take (i := 0) (t := 27) (v := (.agg #[.int .i64 v.k, .int .i64 v.n, .string v.s])) (fuel := 17) rfl rfl (by kernel_rfl) (by kernel_rfl) (by kernel_rfl) (fun _ _ _ h => h) (.inl ⟨rfl, fun W hW => by simp [execOp, Act.eval, go_sem, hW.out.1.c0, hW.out.1.c1, hW.out.1.c2]⟩) hS ?_
                simp only [List.setIfInBounds_toArray, List.set_cons_succ, List.set_cons_zero]
                refine held_call (i := 1) rfl (by kernel_rfl) (by kernel_rfl) ?_
                simp [Oper.wp, execOp, Act.eval, Act.put, go_sem]
                refine (HCV.out _).mono ?_
                rintro e W1 ⟨rfl, hb1⟩
                have HB1 := Lib.hid (show Below W0.heap.size W0 W1 from ((Below.refl W0.heap.size W0).drew).trans hb1)
                have hS : Hid (Box3 W1 g v ∧ W1.cell? ⟨b, off + k * 2 + 1, none⟩ = some (.int .i64 c.k)) := Lib.hid ⟨hS.out.1.below hb1, later_cell hb1 hS.out.2⟩
                clear hb1
                refine ⟨hS, ?_⟩
                try simp only [List.setIfInBounds_toArray, List.set_cons_succ, List.set_cons_zero]
                refine held_take (i := 2) (t := 29) (v := (.bool false)) (fuel := 15) rfl rfl (by kernel_rfl) (by kernel_rfl) (by kernel_rfl) (fun _ _ _ h => h) (.inl ⟨rfl, fun W hW => by simp [execOp, Act.eval, go_sem]⟩) hS ?_
                simp only [List.setIfInBounds_toArray, List.set_cons_succ, List.set_cons_zero]
                refine held_take (i := 3) (t := 30) (v := (.bool false)) (fuel := 14) rfl rfl (by kernel_rfl) (by kernel_rfl) (by kernel_rfl) (fun _ _ _ h => h) (.inl ⟨rfl, fun W hW => by simp [execOp, Act.eval, go_sem]⟩) hS ?_
                simp only [List.setIfInBounds_toArray, List.set_cons_succ, List.set_cons_zero]
                refine held_take (i := 4) (t := 31) (v := (.pointer (some ⟨g, 0, none⟩))) (fuel := 13) rfl rfl (by kernel_rfl) (by kernel_rfl) (by kernel_rfl) (fun _ _ _ h => h) (.inl ⟨rfl, fun W hW => by simp [execOp, Act.eval, go_sem]⟩) hS ?_
                simp only [List.setIfInBounds_toArray, List.set_cons_succ, List.set_cons_zero]
                refine held_take (i := 5) (t := 32) (v := (.int .i64 v.k)) (fuel := 12) rfl rfl (by kernel_rfl) (by kernel_rfl) (by kernel_rfl) (fun _ _ _ h => h) (.inl ⟨rfl, fun W hW => by simp [execOp, Act.eval, go_sem, hW.out.1.c0]⟩) hS ?_
                simp only [List.setIfInBounds_toArray, List.set_cons_succ, List.set_cons_zero]
                refine held_take (i := 6) (t := 33) (v := (.bool true)) (fuel := 11) rfl rfl (by kernel_rfl) (by kernel_rfl) (by kernel_rfl) (fun _ _ _ h => h) (.inl ⟨rfl, fun W hW => by simp [execOp, Act.eval, go_sem, r1]⟩) hS ?_
                simp only [List.setIfInBounds_toArray, List.set_cons_succ, List.set_cons_zero]
                refine held_take (i := 7) (t := 34) (v := (.bool true)) (fuel := 10) rfl rfl (by kernel_rfl) (by kernel_rfl) (by kernel_rfl) (fun _ _ _ h => h) (.inl ⟨rfl, fun W hW => by simp [execOp, Act.eval, go_sem]⟩) hS ?_
                simp only [List.setIfInBounds_toArray, List.set_cons_succ, List.set_cons_zero]
                refine held_take (i := 8) (t := 35) (v := (.pointer (some ⟨g, 0, none⟩))) (fuel := 9) rfl rfl (by kernel_rfl) (by kernel_rfl) (by kernel_rfl) (fun _ _ _ h => h) (.inl ⟨rfl, fun W hW => by simp [execOp, Act.eval, go_sem]⟩) hS ?_
                simp only [List.setIfInBounds_toArray, List.set_cons_succ, List.set_cons_zero]
                refine held_take (i := 9) (t := 36) (v := (.int .i64 v.k)) (fuel := 8) rfl rfl (by kernel_rfl) (by kernel_rfl) (by kernel_rfl) (fun _ _ _ h => h) (.inl ⟨rfl, fun W hW => by simp [execOp, Act.eval, go_sem, hW.out.1.c0]⟩) hS ?_
                simp only [List.setIfInBounds_toArray, List.set_cons_succ, List.set_cons_zero]
                refine held_take (i := 10) (t := 37) (v := (.slice (some ⟨b, off, none⟩) m cap)) (fuel := 7) rfl rfl (by kernel_rfl) (by kernel_rfl) (by kernel_rfl) (fun _ _ _ h => h) (.inl ⟨rfl, fun W hW => by simp [execOp, Act.eval, go_sem]⟩) hS ?_
                simp only [List.setIfInBounds_toArray, List.set_cons_succ, List.set_cons_zero]
                refine held_take (i := 11) (t := 38) (v := (.int .i64 (k : Int))) (fuel := 6) rfl rfl (by kernel_rfl) (by kernel_rfl) (by kernel_rfl) (fun _ _ _ h => h) (.inl ⟨rfl, fun W hW => by simp [execOp, Act.eval, go_sem]⟩) hS ?_
                simp only [List.setIfInBounds_toArray, List.set_cons_succ, List.set_cons_zero]
                refine held_take (i := 12) (t := 39) (v := (.pointer (some ⟨b, off + k * 2, none⟩))) (fuel := 5) rfl rfl (by kernel_rfl) (by kernel_rfl) (by kernel_rfl) (fun _ _ _ h => h) (.inl ⟨rfl, fun W hW => by simp [execOp, Act.eval, go_sem, i1, i2]⟩) hS ?_
                simp only [List.setIfInBounds_toArray, List.set_cons_succ, List.set_cons_zero]
                refine held_take (i := 13) (t := 40) (v := (.pointer (some ⟨b, off + k * 2 + 1, none⟩))) (fuel := 4) rfl rfl (by kernel_rfl) (by kernel_rfl) (by kernel_rfl) (fun _ _ _ h => h) (.inl ⟨rfl, fun W hW => by simp [execOp, Act.eval, go_sem]⟩) hS ?_
                simp only [List.setIfInBounds_toArray, List.set_cons_succ, List.set_cons_zero]
                refine held_take (i := 14) (t := 41) (v := (.int .i64 c.k)) (fuel := 3) rfl rfl (by kernel_rfl) (by kernel_rfl) (by kernel_rfl) (fun _ _ _ h => h) (.inl ⟨rfl, fun W hW => by simp [execOp, Act.eval, go_sem, hW.out.2]⟩) hS ?_
                simp only [List.setIfInBounds_toArray, List.set_cons_succ, List.set_cons_zero]
                refine held_take (i := 15) (t := 42) (v := (.bool false)) (fuel := 2) rfl rfl (by kernel_rfl) (by kernel_rfl) (by kernel_rfl) (fun _ _ _ h => h) (.inl ⟨rfl, fun W hW => by simp [execOp, Act.eval, go_sem, r2]⟩) hS ?_
                simp only [List.setIfInBounds_toArray, List.set_cons_succ, List.set_cons_zero]
                refine held_take (i := 16) (t := 43) (v := (.bool false)) (fuel := 1) rfl rfl (by kernel_rfl) (by kernel_rfl) (by kernel_rfl) (fun _ _ _ h => h) (.inl ⟨rfl, fun W hW => by simp [execOp, Act.eval, go_sem]⟩) hS ?_
                simp only [List.setIfInBounds_toArray, List.set_cons_succ, List.set_cons_zero]
                refine held_take (i := 17) (t := 44) (v := (.bool false)) (fuel := 0) rfl rfl (by kernel_rfl) (by kernel_rfl) (by kernel_rfl) (fun _ _ _ h => h) (.inl ⟨rfl, fun W hW => by simp [execOp, Act.eval, go_sem]⟩) hS ?_
                simp only [List.setIfInBounds_toArray, List.set_cons_succ, List.set_cons_zero]
                refine wpAnyH_done (by kernel_rfl) ?_ 0
                have HA2 := Lib.hid (show ∀ j (hj : j < l.length) (hv : j < vs.length), j < k + 1 → fits l[j] vs[j] = true from fun j hj hv h => by
                  by_cases h2 : j = k
                  · subst h2; rw [HC.out, HV.out]; exact HFT.out
                  · exact HA.out j hj hv (by omega))
                have c0 := hS.out.1.c0
                have c1 := hS.out.1.c1
                have c2 := hS.out.1.c2
                have HBW1 := Lib.hid (hop0 HBW.out HB1.out)
                have HBU1 := Lib.hid ((HBU.out.below HBV.out).below HB1.out)
                have HWR := Lib.hid (fun W (h : Below w.heap.size w W) => written_any v hwv HCK.out W (HE.out W h) (by have h1 := HBB.out; have h3 := h.size; omega))
                unfold V.val at HWR
                have HWL := Lib.hid (wr_len hwv HCK.out)
                have HBX1 := Lib.hid hS.out.1
                clear hS
                by_cases hk0 : k = 0
                · subst hk0
                  have HJ := Lib.hid (show jnK vs 1 = wr v by rw [jnK_first hkv, HV.out])
                  go_wp2_with (first
                    | (go_at_call 33; refine (HWR.out _ HBW1.out).mono ?_; rintro e W2 ⟨rfl, hb2⟩; have HB2 := Lib.hid hb2; have HBU2 := Lib.hid (HBU1.out.below hb2); clear hb2)
                    | (at_builtin; go_loud (refine append_text rfl _ _ rfl w.heap.size Ab n cb [] rfl W2 (txt (wr v)) HBU2.out rfl (by rw [txt_size]; have := HWL.out; simp; omega) ?_); intro A3 n3 c3 W3 hn3 hb3 hk3; have HBU3 := Lib.hid hb3; have HK3 := Lib.hid hk3; clear hb3 hk3 hn3))
                  rw [List.nil_append, txt_list, ← HJ.out] at HBU3
                  have HLN3 := Lib.hid (show (jnK vs (0 + 1)).length ≤ (0 + 1) * 401 by rw [HJ.out]; have := HWL.out; omega)
                  have HB3 := Lib.hid ((hop0 HBW1.out HB2.out).trans HK3.out.below)
                  go_roundw
                  case rel => exact ⟨0 + 1, _, _, _, by omega, by go_num, rfl, HA2, HBU3, HLN3, HB3⟩
                  case measure => simp [intOf]; omega
                · have HJ := Lib.hid (show jnK vs (k + 1) = (jnK vs k ++ [44]) ++ wr v by rw [jnK_next hkv hk0, HV.out])
                  have p1 : decide ((0 : Int) < (k : Int)) = true := decide_eq_true (by omega)
                  go_wp2_with (first
                    | (go_at_call 33; refine (HWR.out _ (HBW1.out.trans HKc.out.below)).mono ?_; rintro e W2 ⟨rfl, hb2⟩; have HB2 := Lib.hid hb2; have HBU2 := Lib.hid (HBUc.out.below hb2); clear hb2)
                    | (have HSEC := HBU2; at_builtin; go_loud (refine append_text rfl _ _ rfl w.heap.size Ac (n + 1) cc (jnK vs k ++ [44]) rfl W2 (txt (wr v)) HBU2.out rfl (by rw [txt_size]; have := HWL.out; have := HLN.out; simp; omega) ?_); intro A3 n3 c3 W3 hn3 hb3 hk3; have HBU3 := Lib.hid hb3; have HK3 := Lib.hid hk3; clear hb3 hk3 hn3)
                    | (at_builtin; go_loud (refine append_bytes rfl _ _ rfl w.heap.size Ab n cb (jnK vs k) rfl W1 [44] 1 HBU1.out _ rfl rfl rfl [.int .u8 44] rfl (by have := HLN.out; simp; omega) ?_); intro Ac nc cc Wc hnc hbc hkc; subst hnc; have HBUc := Lib.hid hbc; have HKc := Lib.hid hkc; have HBXc := Lib.hid (show Box3 Wc g v from hkc.block _ _ HBX1.out (fun cur f e => by simp only [Obj.cells.injEq] at e; exact absurd e.2.1 (by decide))); clear hbc hkc c0 c1 c2; have c0 := HBXc.out.c0; have c1 := HBXc.out.c1; have c2 := HBXc.out.c2))
                  rw [txt_list, ← HJ.out] at HBU3
                  have HLN3 := Lib.hid (show (jnK vs (k + 1)).length ≤ (k + 1) * 401 by rw [HJ.out]; have := HWL.out; have := HLN.out; simp; omega)
                  have HB3 := Lib.hid ((hop0 (HBW1.out.trans HKc.out.below) HB2.out).trans HK3.out.below)
                  go_roundw
                  case rel => exact ⟨k + 1, _, _, _, by omega, by go_num, rfl, HA2, HBU3, HLN3, HB3⟩
                  case measure => simp [intOf]; omega
              · have HNF := Lib.hid (show fits c v = false by rw [fits_of, decide_eq_false (show ¬ (v.k = 0 ∨ v.k = c.k) by omega), Bool.and_false])
                have r2 : (v.k != c.k) = true := by rw [bne_iff_ne]; exact hkk
                clear hck hk0 hkk
                have hS : Hid (Box3 W0.drew g v ∧ W0.drew.cell? ⟨b, off + k * 2 + 1, none⟩ = some (.int .i64 c.k)) := Lib.hid ⟨HBX.out, HD1.out⟩
                refine held_begin 18 (fun W => Hid (Box3 W g v ∧ W.cell? ⟨b, off + k * 2 + 1, none⟩ = some (.int .i64 c.k))) rfl (by kernel_rfl) ?_
                refine held_take (i := 0) (t := 27) (v := (.agg #[.int .i64 v.k, .int .i64 v.n, .string v.s])) (fuel := 17) rfl rfl (by kernel_rfl) (by kernel_rfl) (by kernel_rfl) (fun _ _ _ h => h) (.inl ⟨rfl, fun W hW => by simp [execOp, Act.eval, go_sem, hW.out.1.c0, hW.out.1.c1, hW.out.1.c2]⟩) hS ?_
                simp only [List.setIfInBounds_toArray, List.set_cons_succ, List.set_cons_zero]
                refine held_call (i := 1) rfl (by kernel_rfl) (by kernel_rfl) ?_
                simp [Oper.wp, execOp, Act.eval, Act.put, go_sem]
                refine (HCV.out _).mono ?_
                rintro e W1 ⟨rfl, hb1⟩
                have HB1 := Lib.hid (show Below W0.heap.size W0 W1 from ((Below.refl W0.heap.size W0).drew).trans hb1)
                have hS : Hid (Box3 W1 g v ∧ W1.cell? ⟨b, off + k * 2 + 1, none⟩ = some (.int .i64 c.k)) := Lib.hid ⟨hS.out.1.below hb1, later_cell hb1 hS.out.2⟩
                clear hb1
                refine ⟨hS, ?_⟩
                try simp only [List.setIfInBounds_toArray, List.set_cons_succ, List.set_cons_zero]
                refine held_take (i := 2) (t := 29) (v := (.bool false)) (fuel := 15) rfl rfl (by kernel_rfl) (by kernel_rfl) (by kernel_rfl) (fun _ _ _ h => h) (.inl ⟨rfl, fun W hW => by simp [execOp, Act.eval, go_sem]⟩) hS ?_
                simp only [List.setIfInBounds_toArray, List.set_cons_succ, List.set_cons_zero]
                refine held_take (i := 3) (t := 30) (v := (.bool false)) (fuel := 14) rfl rfl (by kernel_rfl) (by kernel_rfl) (by kernel_rfl) (fun _ _ _ h => h) (.inl ⟨rfl, fun W hW => by simp [execOp, Act.eval, go_sem]⟩) hS ?_
                simp only [List.setIfInBounds_toArray, List.set_cons_succ, List.set_cons_zero]
                refine held_take (i := 4) (t := 31) (v := (.pointer (some ⟨g, 0, none⟩))) (fuel := 13) rfl rfl (by kernel_rfl) (by kernel_rfl) (by kernel_rfl) (fun _ _ _ h => h) (.inl ⟨rfl, fun W hW => by simp [execOp, Act.eval, go_sem]⟩) hS ?_
                simp only [List.setIfInBounds_toArray, List.set_cons_succ, List.set_cons_zero]
                refine held_take (i := 5) (t := 32) (v := (.int .i64 v.k)) (fuel := 12) rfl rfl (by kernel_rfl) (by kernel_rfl) (by kernel_rfl) (fun _ _ _ h => h) (.inl ⟨rfl, fun W hW => by simp [execOp, Act.eval, go_sem, hW.out.1.c0]⟩) hS ?_
                simp only [List.setIfInBounds_toArray, List.set_cons_succ, List.set_cons_zero]
                refine held_take (i := 6) (t := 33) (v := (.bool true)) (fuel := 11) rfl rfl (by kernel_rfl) (by kernel_rfl) (by kernel_rfl) (fun _ _ _ h => h) (.inl ⟨rfl, fun W hW => by simp [execOp, Act.eval, go_sem, r1]⟩) hS ?_
                simp only [List.setIfInBounds_toArray, List.set_cons_succ, List.set_cons_zero]
                refine held_take (i := 7) (t := 34) (v := (.bool true)) (fuel := 10) rfl rfl (by kernel_rfl) (by kernel_rfl) (by kernel_rfl) (fun _ _ _ h => h) (.inl ⟨rfl, fun W hW => by simp [execOp, Act.eval, go_sem]⟩) hS ?_
                simp only [List.setIfInBounds_toArray, List.set_cons_succ, List.set_cons_zero]
                refine held_take (i := 8) (t := 35) (v := (.pointer (some ⟨g, 0, none⟩))) (fuel := 9) rfl rfl (by kernel_rfl) (by kernel_rfl) (by kernel_rfl) (fun _ _ _ h => h) (.inl ⟨rfl, fun W hW => by simp [execOp, Act.eval, go_sem]⟩) hS ?_
                simp only [List.setIfInBounds_toArray, List.set_cons_succ, List.set_cons_zero]
                refine held_take (i := 9) (t := 36) (v := (.int .i64 v.k)) (fuel := 8) rfl rfl (by kernel_rfl) (by kernel_rfl) (by kernel_rfl) (fun _ _ _ h => h) (.inl ⟨rfl, fun W hW => by simp [execOp, Act.eval, go_sem, hW.out.1.c0]⟩) hS ?_
                simp only [List.setIfInBounds_toArray, List.set_cons_succ, List.set_cons_zero]
                refine held_take (i := 10) (t := 37) (v := (.slice (some ⟨b, off, none⟩) m cap)) (fuel := 7) rfl rfl (by kernel_rfl) (by kernel_rfl) (by kernel_rfl) (fun _ _ _ h => h) (.inl ⟨rfl, fun W hW => by simp [execOp, Act.eval, go_sem]⟩) hS ?_
                simp only [List.setIfInBounds_toArray, List.set_cons_succ, List.set_cons_zero]
                refine held_take (i := 11) (t := 38) (v := (.int .i64 (k : Int))) (fuel := 6) rfl rfl (by kernel_rfl) (by kernel_rfl) (by kernel_rfl) (fun _ _ _ h => h) (.inl ⟨rfl, fun W hW => by simp [execOp, Act.eval, go_sem]⟩) hS ?_
                simp only [List.setIfInBounds_toArray, List.set_cons_succ, List.set_cons_zero]
                refine held_take (i := 12) (t := 39) (v := (.pointer (some ⟨b, off + k * 2, none⟩))) (fuel := 5) rfl rfl (by kernel_rfl) (by kernel_rfl) (by kernel_rfl) (fun _ _ _ h => h) (.inl ⟨rfl, fun W hW => by simp [execOp, Act.eval, go_sem, i1, i2]⟩) hS ?_
                simp only [List.setIfInBounds_toArray, List.set_cons_succ, List.set_cons_zero]
                refine held_take (i := 13) (t := 40) (v := (.pointer (some ⟨b, off + k * 2 + 1, none⟩))) (fuel := 4) rfl rfl (by kernel_rfl) (by kernel_rfl) (by kernel_rfl) (fun _ _ _ h => h) (.inl ⟨rfl, fun W hW => by simp [execOp, Act.eval, go_sem]⟩) hS ?_
                simp only [List.setIfInBounds_toArray, List.set_cons_succ, List.set_cons_zero]
                refine held_take (i := 14) (t := 41) (v := (.int .i64 c.k)) (fuel := 3) rfl rfl (by kernel_rfl) (by kernel_rfl) (by kernel_rfl) (fun _ _ _ h => h) (.inl ⟨rfl, fun W hW => by simp [execOp, Act.eval, go_sem, hW.out.2]⟩) hS ?_
                simp only [List.setIfInBounds_toArray, List.set_cons_succ, List.set_cons_zero]
                refine held_take (i := 15) (t := 42) (v := (.bool true)) (fuel := 2) rfl rfl (by kernel_rfl) (by kernel_rfl) (by kernel_rfl) (fun _ _ _ h => h) (.inl ⟨rfl, fun W hW => by simp [execOp, Act.eval, go_sem, r2]⟩) hS ?_
                simp only [List.setIfInBounds_toArray, List.set_cons_succ, List.set_cons_zero]
                refine held_take (i := 16) (t := 43) (v := (.bool true)) (fuel := 1) rfl rfl (by kernel_rfl) (by kernel_rfl) (by kernel_rfl) (fun _ _ _ h => h) (.inl ⟨rfl, fun W hW => by simp [execOp, Act.eval, go_sem]⟩) hS ?_
                simp only [List.setIfInBounds_toArray, List.set_cons_succ, List.set_cons_zero]
                refine held_take (i := 17) (t := 44) (v := (.bool true)) (fuel := 0) rfl rfl (by kernel_rfl) (by kernel_rfl) (by kernel_rfl) (fun _ _ _ h => h) (.inl ⟨rfl, fun W hW => by simp [execOp, Act.eval, go_sem]⟩) hS ?_
                simp only [List.setIfInBounds_toArray, List.set_cons_succ, List.set_cons_zero]
                refine wpAnyH_done (by kernel_rfl) ?_ 0
                have HX0 := Lib.hid (show fitsL l vs = false by
                  rw [← Bool.not_eq_true, fitsL_iff HVC.out]
                  intro h
                  have h2 := h k hkl
                  rw [HC.out, HV.out] at h2
                  rw [HNF.out] at h2; cases h2)
                have HX := Lib.hid (show recE l vs = 122 by unfold recE; rw [if_neg (by simp [HG.out]), if_neg (by rw [HVC.out]; simp), if_pos HX0.out])
                have HX2 := Lib.hid (show recV l vs = [] by unfold recV; rw [HX.out, if_neg (by decide)])
                go_wp2
                go_ret2
                rw [HX.out, HX2.out]
                exact rec_err rfl rfl (hop0 HBW.out HB1.out)
          · have HNF := Lib.hid (show fits c v = false by rw [fits_of, decide_eq_false hck, Bool.false_and])
            have r0 : (chk v != 0) = true := by rw [bne_iff_ne]; exact hck
            clear hck
            have hS : Hid (Box3 W0.drew g v ∧ W0.drew.cell? ⟨b, off + k * 2 + 1, none⟩ = some (.int .i64 c.k)) := Lib.hid ⟨HBX.out, HD1.out⟩
            refine held_begin 18 (fun W => Hid (Box3 W g v ∧ W.cell? ⟨b, off + k * 2 + 1, none⟩ = some (.int .i64 c.k))) rfl (by kernel_rfl) ?_
            refine held_take (i := 0) (t := 27) (v := (.agg #[.int .i64 v.k, .int .i64 v.n, .string v.s])) (fuel := 17) rfl rfl (by kernel_rfl) (by kernel_rfl) (by kernel_rfl) (fun _ _ _ h => h) (.inl ⟨rfl, fun W hW => by simp [execOp, Act.eval, go_sem, hW.out.1.c0, hW.out.1.c1, hW.out.1.c2]⟩) hS ?_
            simp only [List.setIfInBounds_toArray, List.set_cons_succ, List.set_cons_zero]
            refine held_call (i := 1) rfl (by kernel_rfl) (by kernel_rfl) ?_
            simp [Oper.wp, execOp, Act.eval, Act.put, go_sem]
            refine (HCV.out _).mono ?_
            rintro e W1 ⟨rfl, hb1⟩
            have HB1 := Lib.hid (show Below W0.heap.size W0 W1 from ((Below.refl W0.heap.size W0).drew).trans hb1)
            have hS : Hid (Box3 W1 g v ∧ W1.cell? ⟨b, off + k * 2 + 1, none⟩ = some (.int .i64 c.k)) := Lib.hid ⟨hS.out.1.below hb1, later_cell hb1 hS.out.2⟩
            clear hb1
            refine ⟨hS, ?_⟩
            try simp only [List.setIfInBounds_toArray, List.set_cons_succ, List.set_cons_zero]
            refine held_take (i := 2) (t := 29) (v := (.bool true)) (fuel := 15) rfl rfl (by kernel_rfl) (by kernel_rfl) (by kernel_rfl) (fun _ _ _ h => h) (.inl ⟨rfl, fun W hW => by simp [execOp, Act.eval, go_sem, r0]⟩) hS ?_
            simp only [List.setIfInBounds_toArray, List.set_cons_succ, List.set_cons_zero]
            refine held_take (i := 3) (t := 30) (v := (.bool true)) (fuel := 14) rfl rfl (by kernel_rfl) (by kernel_rfl) (by kernel_rfl) (fun _ _ _ h => h) (.inl ⟨rfl, fun W hW => by simp [execOp, Act.eval, go_sem]⟩) hS ?_
            simp only [List.setIfInBounds_toArray, List.set_cons_succ, List.set_cons_zero]
            refine held_take (i := 4) (t := 31) (v := undef) (fuel := 13) rfl rfl (by kernel_rfl) (by kernel_rfl) (by kernel_rfl) (fun _ _ _ h => h) (.inr ⟨rfl, rfl⟩) hS ?_
            simp only [List.setIfInBounds_toArray, List.set_cons_succ, List.set_cons_zero]
            refine held_take (i := 5) (t := 32) (v := undef) (fuel := 12) rfl rfl (by kernel_rfl) (by kernel_rfl) (by kernel_rfl) (fun _ _ _ h => h) (.inr ⟨rfl, rfl⟩) hS ?_
            simp only [List.setIfInBounds_toArray, List.set_cons_succ, List.set_cons_zero]
            refine held_take (i := 6) (t := 33) (v := undef) (fuel := 11) rfl rfl (by kernel_rfl) (by kernel_rfl) (by kernel_rfl) (fun _ _ _ h => h) (.inr ⟨rfl, rfl⟩) hS ?_
            simp only [List.setIfInBounds_toArray, List.set_cons_succ, List.set_cons_zero]
            refine held_take (i := 7) (t := 34) (v := undef) (fuel := 10) rfl rfl (by kernel_rfl) (by kernel_rfl) (by kernel_rfl) (fun _ _ _ h => h) (.inr ⟨rfl, rfl⟩) hS ?_
            simp only [List.setIfInBounds_toArray, List.set_cons_succ, List.set_cons_zero]
            refine held_take (i := 8) (t := 35) (v := undef) (fuel := 9) rfl rfl (by kernel_rfl) (by kernel_rfl) (by kernel_rfl) (fun _ _ _ h => h) (.inr ⟨rfl, rfl⟩) hS ?_
            simp only [List.setIfInBounds_toArray, List.set_cons_succ, List.set_cons_zero]
            refine held_take (i := 9) (t := 36) (v := undef) (fuel := 8) rfl rfl (by kernel_rfl) (by kernel_rfl) (by kernel_rfl) (fun _ _ _ h => h) (.inr ⟨rfl, rfl⟩) hS ?_
            simp only [List.setIfInBounds_toArray, List.set_cons_succ, List.set_cons_zero]
            refine held_take (i := 10) (t := 37) (v := undef) (fuel := 7) rfl rfl (by kernel_rfl) (by kernel_rfl) (by kernel_rfl) (fun _ _ _ h => h) (.inr ⟨rfl, rfl⟩) hS ?_
            simp only [List.setIfInBounds_toArray, List.set_cons_succ, List.set_cons_zero]
            refine held_take (i := 11) (t := 38) (v := undef) (fuel := 6) rfl rfl (by kernel_rfl) (by kernel_rfl) (by kernel_rfl) (fun _ _ _ h => h) (.inr ⟨rfl, rfl⟩) hS ?_
            simp only [List.setIfInBounds_toArray, List.set_cons_succ, List.set_cons_zero]
            refine held_take (i := 12) (t := 39) (v := undef) (fuel := 5) rfl rfl (by kernel_rfl) (by kernel_rfl) (by kernel_rfl) (fun _ _ _ h => h) (.inr ⟨rfl, rfl⟩) hS ?_
            simp only [List.setIfInBounds_toArray, List.set_cons_succ, List.set_cons_zero]
            refine held_take (i := 13) (t := 40) (v := undef) (fuel := 4) rfl rfl (by kernel_rfl) (by kernel_rfl) (by kernel_rfl) (fun _ _ _ h => h) (.inr ⟨rfl, rfl⟩) hS ?_
            simp only [List.setIfInBounds_toArray, List.set_cons_succ, List.set_cons_zero]
            refine held_take (i := 14) (t := 41) (v := undef) (fuel := 3) rfl rfl (by kernel_rfl) (by kernel_rfl) (by kernel_rfl) (fun _ _ _ h => h) (.inr ⟨rfl, rfl⟩) hS ?_
            simp only [List.setIfInBounds_toArray, List.set_cons_succ, List.set_cons_zero]
            refine held_take (i := 15) (t := 42) (v := undef) (fuel := 2) rfl rfl (by kernel_rfl) (by kernel_rfl) (by kernel_rfl) (fun _ _ _ h => h) (.inr ⟨rfl, rfl⟩) hS ?_
            simp only [List.setIfInBounds_toArray, List.set_cons_succ, List.set_cons_zero]
            refine held_take (i := 16) (t := 43) (v := undef) (fuel := 1) rfl rfl (by kernel_rfl) (by kernel_rfl) (by kernel_rfl) (fun _ _ _ h => h) (.inr ⟨rfl, rfl⟩) hS ?_
            simp only [List.setIfInBounds_toArray, List.set_cons_succ, List.set_cons_zero]
            refine held_take (i := 17) (t := 44) (v := (.bool true)) (fuel := 0) rfl rfl (by kernel_rfl) (by kernel_rfl) (by kernel_rfl) (fun _ _ _ h => h) (.inl ⟨rfl, fun W hW => by simp [execOp, Act.eval, go_sem]⟩) hS ?_
            simp only [List.setIfInBounds_toArray, List.set_cons_succ, List.set_cons_zero]
            refine wpAnyH_done (by kernel_rfl) ?_ 0
            have HX0 := Lib.hid (show fitsL l vs = false by
              rw [← Bool.not_eq_true, fitsL_iff HVC.out]
              intro h
              have h2 := h k hkl
              rw [HC.out, HV.out] at h2
              rw [HNF.out] at h2; cases h2)
            have HX := Lib.hid (show recE l vs = 122 by unfold recE; rw [if_neg (by simp [HG.out]), if_neg (by rw [HVC.out]; simp), if_pos HX0.out])
            have HX2 := Lib.hid (show recV l vs = [] by unfold recV; rw [HX.out, if_neg (by decide)])
            go_wp2
            go_ret2
            rw [HX.out, HX2.out]
            exact rec_err rfl rfl (hop0 HBW.out HB1.out)
        · have HX0 := Lib.hid (show fitsL l vs = true from (fitsL_iff HVC.out).2 fun j hj => HA.out j hj (by rw [HVC.out]; exact hj) (by have := HL.out; omega))
          have HX := Lib.hid (show recE l vs = 0 by unfold recE; rw [if_neg (by simp [HG.out]), if_neg (by rw [HVC.out]; simp), if_neg (by rw [HX0.out]; simp)])
          have HX2 := Lib.hid (show recV l vs = jnK vs k by
            have hkm : k = vs.length := by have := HMV.out; omega
            unfold recV; rw [if_pos HX.out, hkm, jnK_all])
          go_wp2
          go_ret2
          rw [HX.out, HX2.out]
          exact ⟨_, _, _, rfl, HBU.out, HBR.out⟩
    · have HX := Lib.hid (show recE l vs = 121 by unfold recE; rw [if_neg (by simp [HG.out]), if_pos hc])
      have HX2 := Lib.hid (show recV l vs = [] by unfold recV; rw [HX.out, if_neg (by decide)])
      have hne : ((m : Int) != (len : Int)) = true := by
        rw [bne_iff_ne]
        have := HL.out
        have := HMV.out
        omega
      clear hc hr hv hl hw hwv hmv hE hB hl1 hl12 hm hmm hcap hcm
      go_enter Tryd.func23, Tryd.ntmps23
      go_wp2_with (go_at_call 15; refine HC1.out.mono ?_; rintro e w1 ⟨rfl, hb1⟩; have HBc := Lib.hid hb1; clear hb1)
      go_ret2
      rw [HX.out, HX2.out]
      exact rec_err rfl rfl HBc.out
  · have hg2 : rightB l = false := by simpa using hg
    have HC1 := Lib.hid (check_bad HCK0.out hg2)
    have HX := Lib.hid (show recE l vs = 120 by unfold recE; rw [if_pos hg2])
    have HX2 := Lib.hid (show recV l vs = [] by unfold recV; rw [HX.out, if_neg (by decide)])
    clear hg hg2 HCK0 hr hl hw hE hB hv hmv hwv
    go_enter Tryd.func23, Tryd.ntmps23
    go_wp2_with (go_at_call 15; refine HC1.out.mono ?_; rintro e w1 ⟨rfl, hb1⟩; have HB1 := Lib.hid hb1; clear hb1)
    go_ret2
    rw [HX.out, HX2.out]
    exact rec_err rfl rfl HB1.out
end Go.Proofs.YtfkfgabepjpdlaaDoor
