/- Layer 12, walked: rows of records. -/
import Derived.Test.YtfkfgabepjpdlaaDoorDecW8
import Derived.Laws.OwnMore
namespace Go.Proofs.YtfkfgabepjpdlaaDoor
open Go.ChangeShapes Go.WideShapes Go.ChangeAt Go.RowKit
set_option linter.unusedVariables false

/-- A row of values in new memory, and an error's number. -/
def RowPost (E : Int) (r : List V) (w : World) (e : Ending) (w' : World) : Prop :=
  ∃ A n c, e = .returned (.tuple #[.slice A n c, .int .i64 E]) ∧ n = r.length ∧ w'.ownsRow w.heap.size 53 3 (.slice A n c) n (cellsOf r) ∧ Below w.heap.size w w'
theorem row_err {w w' : World} {E E2 : Int} {r : List V} (h : E = E2) (h2 : r = []) (hb : Below w.heap.size w w') : RowPost E r w (.returned (.tuple #[.slice none 0 0, .int .i64 E2])) w' := by
  subst h h2
  exact ⟨none, 0, 0, rfl, rfl, World.ownsRow_nil _ _ _ 3, hb⟩
theorem cellsOf_snoc (vs : List V) (v : V) : cellsOf (vs ++ [v]) = cellsOf vs ++ [.int .i64 v.k, .int .i64 v.n, .string v.s] := by simp [cellsOf, V.cells]
theorem set_take3 {xs : List Value} {k : Nat} {a b c : Value} (h : k * 3 + 3 ≤ xs.length) : (((xs.set (k * 3) a).set (k * 3 + 1) b).set (k * 3 + 2) c).take ((k + 1) * 3) = xs.take (k * 3) ++ [a, b, c] := by
  apply List.ext_getElem?
  intro i
  rw [List.getElem?_take, List.getElem?_append, List.length_take]
  by_cases h1 : i < k * 3
  · rw [if_pos (by omega), if_pos (by omega), List.getElem?_set_ne (by omega), List.getElem?_set_ne (by omega), List.getElem?_set_ne (by omega), List.getElem?_take, if_pos h1]
  · rw [if_neg (show ¬ i < min (k * 3) xs.length by omega), show min (k * 3) xs.length = k * 3 by omega]
    by_cases h2 : i < (k + 1) * 3
    · rw [if_pos h2]
      rcases (show i = k * 3 ∨ i = k * 3 + 1 ∨ i = k * 3 + 2 by omega) with rfl | rfl | rfl
      · rw [List.getElem?_set_ne (by omega), List.getElem?_set_ne (by omega), List.getElem?_set_self (by omega)]; simp
      · rw [List.getElem?_set_ne (by omega), List.getElem?_set_self (by simp; omega)]; simp
      · rw [List.getElem?_set_self (by simp; omega)]; simp
    · rw [if_neg h2]
      simp
      omega
theorem check_good {l : List C} {len cap : Nat} {A : Option Addr} {w : World} (h : Calls Tryd.prog 15 #[.slice A len cap] w fun e w' => e = .returned (.int .i64 (if rightB l = true then 0 else 120)) ∧ Below w.heap.size w w') (hr : rightB l = true) :
    Calls Tryd.prog 15 #[.slice A len cap] w fun e w' => e = .returned (.int .i64 0) ∧ Below w.heap.size w w' := by
  rw [if_pos hr] at h; exact h
theorem check_bad {l : List C} {len cap : Nat} {A : Option Addr} {w : World} (h : Calls Tryd.prog 15 #[.slice A len cap] w fun e w' => e = .returned (.int .i64 (if rightB l = true then 0 else 120)) ∧ Below w.heap.size w w') (hr : rightB l = false) :
    Calls Tryd.prog 15 #[.slice A len cap] w fun e w' => e = .returned (.int .i64 120) ∧ Below w.heap.size w w' := by
  rw [if_neg (by simp [hr])] at h; exact h
theorem strs_cell {w : World} {B : Nat} {A : Option Addr} {l : List ByteArray} (h : RowC sCells 1 w B A l) (k : Nat) (hk : k < l.length) : ∃ b off, A = some ⟨b, off, none⟩ ∧ b < B ∧ w.cell? ⟨b, off + k, none⟩ = some (.string l[k]) := by
  obtain ⟨b, off, e, hlt, hc⟩ := h k hk
  have := hc 0 _ rfl
  rw [Nat.mul_one, Nat.add_zero] at this
  exact ⟨b, off, e, hlt, this⟩
/-- Between two fields: the row so far. -/
structure RwS (w0 : World) (R len : Nat) (xs : List Value) (wr : World) : Prop where
  below : Below w0.heap.size w0 wr
  own : wr.ownsRow w0.heap.size 53 3 (.slice (some ⟨R, 0, none⟩) len len) len xs
section
variable {w0 wr w1 : World} {R len : Nat} {xs : List Value}
theorem RwS.later (h : RwS w0 R len xs wr) (hb : Below wr.heap.size wr w1) : RwS w0 R len xs w1 := ⟨hop0 h.below hb, own_below h.own hb⟩
theorem RwS.alloc (h : RwS w0 R len xs wr) (o : Obj) : RwS w0 R len xs (wr.alloc o) := ⟨h.below.alloc h.below.size o, h.own.alloc o⟩
theorem RwS.lt (h : RwS w0 R len xs wr) : w0.heap.size ≤ R ∧ R < wr.heap.size := h.own.lt R rfl
theorem RwS.set (h : RwS w0 R len xs wr) (j : Nat) (u : Value) : RwS w0 R len (xs.set j u) (wr.setCell ⟨R, j, none⟩ u) :=
  ⟨h.below.setCell (p := ⟨R, j, none⟩) h.lt.1 u, (h.own.stored j u).1⟩
theorem RwS.cell (h : RwS w0 R len xs wr) (j : Nat) (hj : j < len * 3) : ∃ x, wr.cell? ⟨R, j, none⟩ = some x ∧ wr.frozen? ⟨R, j, none⟩ = false := by
  have h1 := h.own.cellAt j hj
  have h2 := h.own.1
  rw [List.getElem?_eq_getElem (by omega)] at h1
  exact ⟨_, h1, h.own.frozenAt j⟩
theorem RwS.sz (h : RwS w0 R len xs wr) : xs.length = len * 3 := h.own.1
end
set_option maxHeartbeats 4000000 in
set_option maxRecDepth 20000 in
theorem row_cols (l : List C) (hw : ∀ c ∈ l, c.wf) (len cap : Nat) (A : Option Addr) (bs : List UInt8) (n cb : Nat) (Ab : Option Addr) (w : World) (hl : len = l.length) (hm : len ≤ maxLen) (hcap : len ≤ cap) (hcm : cap ≤ maxLen) (hr : Row2 w w.heap.size A l)
    (hn : n = bs.length) (hbl : n ≤ 1048576) (hb : BytesAt w w.heap.size Ab bs) {B : Nat} (hE : Env B w) (hB : B ≤ w.heap.size) :
    Calls Tryd.prog 16 #[.slice A len cap, .slice Ab n cb] w (RowPost (rowE l bs) (rowV l bs) w) := by
  have HCK := Lib.hid (check_cols l hw len cap A w hl hm hcap hcm hr)
  by_cases hg : rightB l = true
  · have HC1 := Lib.hid (check_good HCK.out hg)
    have HG := Lib.hid hg
    clear hg HCK
    obtain ⟨hl1, hl12⟩ := rightB_len HG.out
    have HCV := Lib.hid (fun W (h : Below w.heap.size w W) => string_of_bytes Ab n cb bs W hn ((hb.below h).more h.size))
    have HUP := Lib.hid (fun W => upToS_any (len + 1) (by omega) (txt bs) (by rw [txt_size, ← hn]; omega) W)
    rw [txt_list] at HUP
    have HR := Lib.hid hr
    have HL := Lib.hid hl
    have HW := Lib.hid hw
    have HE := Lib.hid (fun W (h : Below w.heap.size w W) => hE.below (h.mono hB))
    have HBW := Lib.hid hB
    have hlen : len ≤ 12 := by omega
    have wl : IntKind.i64.wrap ((len : Int) + 1) = (len : Int) + 1 := by rw [IntKind.wrap_i64]; omega
    have hcast : ((len + 1 : Nat) : Int) = (len : Int) + 1 := rfl
    rw [hcast] at HUP
    clear hcast
    obtain ⟨fs, hfs⟩ : ∃ fs, splitL bs = fs := ⟨_, rfl⟩
    have HFS := Lib.hid hfs
    have HFP := Lib.hid (show 1 ≤ fs.length by rw [← hfs]; exact (splitT_len false [] bs).1)
    have HFL := Lib.hid (show ∀ f ∈ fs, f.length ≤ 1048576 from fun f hf => by
      rw [← hfs] at hf
      have h1 := congrArg List.length (jn_split bs)
      have h2 : f.length ≤ (jn (splitL bs)).length := len_jn hf
      omega)
    rw [hfs] at HUP
    have HNB := Lib.hid hn
    clear hr hl hw hE hB hb hl1 hl12 hm hfs hn
    by_cases hc : fs.length = l.length
    · have HFC := Lib.hid hc
      have HTK := Lib.hid (show (fs.take (len + 1)).map txt = fs.map txt by rw [List.take_of_length_le (by rw [hc, HL.out]; omega)])
      rw [HTK.out] at HUP
      have hmap : (fs.map txt).length = len := by rw [List.length_map, hc, HL.out]
      have HMAP := Lib.hid hmap
      obtain ⟨i0, hi, hz0, hz1, hz2⟩ := info_parts infoVal
      obtain ⟨M, hM⟩ : ∃ M, M = madeCells (Value.agg #[.int .i64 0, .int .i64 0, .string ⟨#[]⟩]).cells (len * i0.size) := ⟨_, rfl⟩
      have hMs : M.size = len * 3 := by rw [hM, size_madeCells, hz1]
      have hmk : ∀ W : World, (Instr.makeSlice 32 (.int .i64 (len : Int)) (.int .i64 (len : Int))).run Tryd.prog W = .ok (.slice (some ⟨W.heap.size, 0, none⟩) len len) (W.alloc (.cells M 53)) := fun W => by
        have h := run_make (P := Tryd.prog) W 32 53 i0 _ Tryd.underlying32 hi hz0 .i64 .i64 (len : Int) (len : Int) (by omega) (by omega) (by rw [hz2]; omega) (by omega)
        rw [show ((len : Int)).toNat = len by omega, ← hM] at h
        exact h
      have HMS := Lib.hid hMs
      clear hi hz0 hz1 hz2 hM hMs hmap hc
      have hq0 : ((len : Int) != (len : Int)) = false := by simp
      go_enter Tryd.func16, Tryd.ntmps16
      go_wp2_with (first
        | (go_at_call 15; refine HC1.out.mono ?_; rintro e w1 ⟨rfl, hb1⟩; have HB1 := Lib.hid hb1; have hcv := HCV.out w1 hb1; clear hb1)
        | (go_at_call 27; refine (HUP.out _).mono ?_; rintro e w2 ⟨A2, n2, c2, rfl, hn2, ho2, hb2⟩; have HB2 := Lib.hid (hop0 HB1.out hb2); rw [HMAP.out] at hn2; replace hn2 := hn2.symm; subst hn2; have HO2 := Lib.hid ho2; clear ho2 hb2))
      have HRC := Lib.hid (RowC.own sCells_length (by decide) HO2.out).2
      have HS0 := Lib.hid (show RwS w2 w2.heap.size len M.toList (w2.alloc (.cells M 53)) from
        ⟨(Below.refl _ _).alloc (Nat.le_refl _) _, World.ownsRow_lit w2 M len (Nat.le_refl _) (by unfold maxLen; omega) HMS.out⟩)
      have HWF := Lib.hid (fun W (h : Below w2.heap.size w2 W) => HE.out W (hop0 HB2.out h))
      clear hcv hmk hq0 wl
      go_loopw [34] (fun iv wr => ∃ (k : Nat) (vs : List V) (xs : List Value), iv = .int .i64 (k : Int) ∧ k ≤ len ∧ Hid (vs.length = k ∧ (∀ i (hi : i < l.length) (hf : i < fs.length) (hv : i < vs.length), saysV l[i].k fs[i] = some vs[i]) ∧ xs.take (k * 3) = cellsOf vs) ∧ Hid (RwS w2 w2.heap.size len xs wr)) (fun iv _ => len - (intOf iv).toNat)
      case atStart => exact ⟨0, [], _, rfl, Nat.zero_le _, Lib.hid ⟨rfl, fun i _ _ h => by simp at h, by simp [cellsOf]⟩, HS0⟩
      case round =>
        obtain ⟨k, vs, xs, rfl, hk, HV, HS⟩ := hrel
        by_cases hlt : k < len
        · have hkl : k < l.length := by rw [← HL.out]; exact hlt
          have hkf : k < fs.length := by rw [HFC.out]; exact hkl
          obtain ⟨b, off, rfl, hBb, c0, c1⟩ := (HR.out.below (hop0 HB2.out HS.out.below)) k hkl
          obtain ⟨b2, off2, rfl, hBb2, d0⟩ := strs_cell (HRC.out.below HS.out.below) k (by rw [List.length_map]; exact hkf)
          rw [List.getElem_map] at d0
          obtain ⟨c, HC⟩ : ∃ c, Hid (l[k] = c) := ⟨_, Lib.hid rfl⟩
          obtain ⟨f, HF⟩ : ∃ f, Hid (fs[k] = f) := ⟨_, Lib.hid rfl⟩
          rw [HC.out] at c0 c1
          rw [HF.out] at d0
          have HSAY := Lib.hid (fun W (h : Below wr.heap.size wr W) => says_any (txt f) (by
            have := HFL.out f (by rw [← HF.out]; exact List.getElem_mem hkf)
            rw [txt_size]; omega) c.k (rightB_kinds HG.out c (by rw [← HC.out]; exact List.getElem_mem hkl)) W (HWF.out W (hop0 HS.out.below h)) (by have h1 := HBW.out; have h2 := HB2.out.size; have h3 := HS.out.below.size; have h4 := h.size; omega))
          rw [txt_list] at HSAY
          obtain ⟨sv, HSV⟩ : ∃ sv, Hid (saysV c.k f = sv) := ⟨_, Lib.hid rfl⟩
          rw [HSV.out] at HSAY
          have i1 : (0 : Int) ≤ (k : Int) := by omega
          have i2 : (k : Int) < (len : Int) := by omega
          go_wp2_with (go_at_call 28; refine (HSAY.out _ (Below.refl _ _)).mono ?_; rintro e w3 ⟨v, ok, rfl, hy, hno, hb3⟩; have HY := Lib.hid hy; have HNO := Lib.hid hno; have HS3 := Lib.hid (HS.out.later hb3); clear hy hno hb3; obtain ⟨x0, e0, g0⟩ := HS3.out.cell (k * 3) (by omega); obtain ⟨x1, e1, g1⟩ := HS3.out.cell (k * 3 + 1) (by omega); obtain ⟨x2, e2, g2⟩ := HS3.out.cell (k * 3 + 2) (by omega); have hlt3 := HS3.out.lt.2; cases ok)
          · have HX0 := Lib.hid (show rowsV l fs = none from rowsV_bad hkl hkf (by rw [HC.out, HF.out, HSV.out]; exact HNO.out (by simp)))
            have HX := Lib.hid (show rowE l bs = 122 by unfold rowE; rw [if_neg (by simp [HG.out]), HFS.out, if_neg (by rw [HFC.out]; simp), if_pos HX0.out])
            have HX2 := Lib.hid (show rowV l bs = [] by unfold rowV; rw [HX.out, if_neg (by decide)])
            go_ret2
            rw [HX.out, HX2.out]
            exact row_err rfl rfl ((hop0 HB2.out HS3.out.below).alloc (by have h1 := HB2.out.size; have h2 := HS3.out.below.size; omega) _)
          · have HV2 := Lib.hid (show (vs ++ [v]).length = k + 1 ∧ (∀ i (hi : i < l.length) (hf : i < fs.length) (hv : i < (vs ++ [v]).length), saysV l[i].k fs[i] = some (vs ++ [v])[i]) ∧ (((xs.set (k * 3) (.int .i64 v.k)).set (k * 3 + 1) (.int .i64 v.n)).set (k * 3 + 2) (.string v.s)).take ((k + 1) * 3) = cellsOf (vs ++ [v]) by
              obtain ⟨a1, a2, a3⟩ := HV.out
              refine ⟨by simp [a1], fun i hi hf hv => ?_, ?_⟩
              · by_cases h : i < vs.length
                · rw [List.getElem_append_left h]; exact a2 i hi hf h
                · obtain rfl : i = k := by simp at hv; omega
                  rw [List.getElem_append_right (by omega), HC.out, HF.out, HSV.out]
                  simp only [a1, Nat.sub_self, List.getElem_cons_zero]
                  exact HY.out (by simp)
              · rw [set_take3 (by have := HS.out.sz; omega), a3, cellsOf_snoc])
            have HS9 := Lib.hid ((((HS3.out.set (k * 3) (.int .i64 v.k)).set (k * 3 + 1) (.int .i64 v.n)).set (k * 3 + 2) (.string v.s)).alloc (.cells #[.int .i64 v.k, .int .i64 v.n, .string v.s] 53))
            go_roundw
            case rel => exact ⟨k + 1, vs ++ [v], _, by go_num, by omega, HV2, HS9⟩
            case measure => simp [intOf]; omega
        · have HV2 := Lib.hid (show rowsV l fs = some vs ∧ xs = cellsOf vs ∧ len = vs.length by
            obtain ⟨a1, a2, a3⟩ := HV.out
            have hkl2 : k = len := by omega
            refine ⟨rowsV_of (by rw [a1, hkl2, HL.out]) HFC.out (fun i hi => a2 i hi (by rw [HFC.out]; exact hi) (by rw [a1, hkl2, HL.out]; exact hi)), ?_, by omega⟩
            rw [← a3, List.take_of_length_le (by have := HS.out.sz; omega)])
          have HX := Lib.hid (show rowE l bs = 0 by unfold rowE; rw [if_neg (by simp [HG.out]), HFS.out, if_neg (by rw [HFC.out]; simp), if_neg (by rw [HV2.out.1]; simp)])
          have HX2 := Lib.hid (show rowV l bs = vs by unfold rowV; rw [if_pos HX.out, HFS.out, HV2.out.1]; rfl)
          go_wp2
          go_ret2
          rw [HX.out, HX2.out]
          have ho := HS.out.own
          have h2 := HV2.out.2.1
          have h3 := HV2.out.2.2
          subst h2
          exact ⟨_, _, _, rfl, h3, ho.mono HB2.out.size, hop0 HB2.out HS.out.below⟩
    · have HX := Lib.hid (show rowE l bs = 121 by unfold rowE; rw [if_neg (by simp [HG.out]), HFS.out, if_pos hc])
      have HX2 := Lib.hid (show rowV l bs = [] by unfold rowV; rw [HX.out, if_neg (by decide)])
      obtain ⟨nf, hnf⟩ : ∃ nf, ((fs.take (len + 1)).map txt).length = nf := ⟨_, rfl⟩
      have hne : ((nf : Int) != (len : Int)) = true := by
        rw [bne_iff_ne]
        simp at hnf
        have := HL.out
        omega
      have HNF := Lib.hid hnf
      clear hc hnf
      go_enter Tryd.func16, Tryd.ntmps16
      go_wp2_with (first
        | (go_at_call 15; refine HC1.out.mono ?_; rintro e w1 ⟨rfl, hb1⟩; have HB1 := Lib.hid hb1; have hcv := HCV.out w1 hb1; clear hb1)
        | (go_at_call 27; refine (HUP.out _).mono ?_; rintro e w2 ⟨A2, n2, c2, rfl, hn2, ho2, hb2⟩; have HB2 := Lib.hid (hop0 HB1.out hb2); rw [HNF.out] at hn2; subst hn2; clear ho2 hb2))
      go_ret2
      rw [HX.out, HX2.out]
      exact row_err rfl rfl HB2.out
  · have hg2 : rightB l = false := by simpa using hg
    have HC1 := Lib.hid (check_bad HCK.out hg2)
    have HX := Lib.hid (show rowE l bs = 120 by unfold rowE; rw [if_pos hg2])
    have HX2 := Lib.hid (show rowV l bs = [] by unfold rowV; rw [HX.out, if_neg (by decide)])
    clear hg hg2 HCK hr hl hw hE hB hb hn
    go_enter Tryd.func16, Tryd.ntmps16
    go_wp2_with (go_at_call 15; refine HC1.out.mono ?_; rintro e w1 ⟨rfl, hb1⟩; have HB1 := Lib.hid hb1; clear hb1)
    go_ret2
    rw [HX.out, HX2.out]
    exact row_err rfl rfl HB1.out
end Go.Proofs.YtfkfgabepjpdlaaDoor
