/- What a seat needs of several texts. -/
import Derived.Test.YtclcabdekeegdaaGreatDecW2
/- From DecW3. -/
namespace Go.Proofs.YtclcabdekeegdaaGreat
open Go.ChangeShapes Go.WideShapes Go.ChangeAt Go.RowKit
set_option linter.unusedVariables false
theorem hop {B : Nat} {w a b : World} (h : Below B w a) (h2 : Below a.heap.size a b) (hB : B ≤ w.heap.size) : Below B w b := h.trans (h2.mono (Nat.le_trans hB h.size))
theorem hop0 {w a b : World} (h : Below w.heap.size w a) (h2 : Below a.heap.size a b) : Below w.heap.size w b := h.trans (h2.mono h.size)
theorem later_cell {w w' : World} {a : Addr} {v : Value} (hb : Below w.heap.size w w') (h : w.cell? a = some v) : w'.cell? a = some v := (hb.cell (World.block_lt_of_cell? w a h)).trans h
theorem new_col (w : World) (c : C) : (w.alloc (.cells #[.string c.s, .int .i64 c.k] 56)).cell? ⟨w.heap.size, 0, none⟩ = some (.string c.s) ∧ (w.alloc (.cells #[.string c.s, .int .i64 c.k] 56)).cell? ⟨w.heap.size, 1, none⟩ = some (.int .i64 c.k) := by
  constructor <;> (rw [World.cell?_alloc_mark]; rfl)
theorem find_pre (l : List C) (k len cap : Nat) (A : Option Addr) (hk : k < l.length) (hl : len = l.length) (hm : len ≤ maxLen) (W : World) (hr : Row2 W W.heap.size A l) :
    Calls Tryz.prog 92 #[.slice A k cap, .string l[k].s] W fun e w' => (∃ j : Int, e = .returned (.tuple #[.int .i64 j, .bool (!decide (findI l[k].s l = k))])) ∧ Below W.heap.size W w' := by
  refine (find_any (l.take k) l[k].s k cap A W (by rw [List.length_take]; omega) (by omega) (hr.take k)).mono ?_
  rintro e w' ⟨rfl, hb⟩
  refine ⟨⟨fI l[k].s (l.take k), ?_⟩, hb⟩
  have h := twice_iff hk
  unfold fB
  rw [List.length_take, show min k l.length = k by omega]
  by_cases h2 : findI l[k].s l = k
  · rw [decide_eq_true h2, decide_eq_false (by rw [h]; exact fun e => e h2)]; rfl
  · rw [decide_eq_false h2, decide_eq_true (h.2 h2)]; rfl
set_option maxHeartbeats 1000000 in
set_option maxRecDepth 20000 in
theorem check_cols (l : List C) (hw : ∀ c ∈ l, c.wf) (len cap : Nat) (A : Option Addr) (w : World) (hl : len = l.length) (hm : len ≤ maxLen) (hcap : len ≤ cap) (hcm : cap ≤ maxLen) (hr : Row2 w w.heap.size A l) :
    Calls Tryz.prog 38 #[.slice A len cap] w fun e w' => e = .returned (.int .i64 (if rightB l = true then 0 else 120)) ∧ Below w.heap.size w w' := by
  obtain ⟨E, hE⟩ : ∃ E : Int, (if rightB l = true then (0 : Int) else 120) = E := ⟨_, rfl⟩
  have HBAD := Lib.hid (show rightB l = false → E = 120 from fun h => by rw [← hE, h]; rfl)
  have HGOOD := Lib.hid (show rightB l = true → E = 0 from fun h => by rw [← hE, h]; rfl)
  rw [hE]
  clear hE
  have HL := Lib.hid hl
  have HR := Lib.hid hr
  have HW := Lib.hid hw
  have HM := Lib.hid hm
  clear hl hr hw
  unfold maxLen at hm hcm
  by_cases h0 : len < 1
  · have HX := Lib.hid (HBAD.out (rightB_short (by rw [← HL.out]; exact h0)))
    have p1 : decide ((len : Int) < 1) = true := decide_eq_true (by omega)
    go_enter Tryz.func38, Tryz.ntmps38
    go_wp2
    go_ret
    rw [HX.out]
    exact ⟨rfl, Below.refl _ _⟩
  · have p1 : decide ((len : Int) < 1) = false := decide_eq_false (by omega)
    by_cases h12 : 12 < len
    · have HX := Lib.hid (HBAD.out (rightB_long (by rw [← HL.out]; exact h12)))
      have p2 : decide ((12 : Int) < (len : Int)) = true := decide_eq_true (by omega)
      go_enter Tryz.func38, Tryz.ntmps38
      go_wp2
      go_ret
      rw [HX.out]
      exact ⟨rfl, Below.refl _ _⟩
    · have p2 : decide ((12 : Int) < (len : Int)) = false := decide_eq_false (by omega)
      go_enter Tryz.func38, Tryz.ntmps38
      go_wp2
      clear p1 p2
      go_loopw [17] (fun i wr => ∃ k : Nat, k ≤ len ∧ i = .int .i64 k ∧ Hid (∀ j, j < k → goodAt l j = true) ∧ Below w.heap.size w wr) (fun i _ => len - (intOf i).toNat)
      case atStart => exact ⟨0, Nat.zero_le _, rfl, Lib.hid (fun j h => by omega), Below.refl _ _⟩
      case round =>
        obtain ⟨k, hk, rfl, HA, hbel⟩ := hrel
        have HB0 := Lib.hid hbel
        by_cases hlt : k < len
        · have hkl : k < l.length := by rw [← HL.out]; exact hlt
          obtain ⟨b, off, rfl, hB, c0, c1⟩ := (HR.out.below hbel) k hkl
          have HF := Lib.hid (fun (W : World) (h : Below w.heap.size w W ∧ W.cell? ⟨wr.heap.size, 0, none⟩ = some (.string l[k].s) ∧ W.cell? ⟨wr.heap.size, 1, none⟩ = some (.int .i64 l[k].k)) => find_pre l k len cap (some ⟨b, off, none⟩) hkl HL.out HM.out W ((HR.out.below h.1).more h.1.size))
          have i1 : (0 : Int) ≤ (k : Int) := by omega
          have i2 : (k : Int) ≤ (cap : Int) := by omega
          have HG := Lib.hid (goodAt_at hkl)
          obtain ⟨c, HV⟩ : ∃ c, Hid (l[k] = c) := ⟨_, Lib.hid rfl⟩
          rw [HV.out] at c0 c1 HG HF
          have hwc : c.wf := HW.out c (by rw [← HV.out]; exact List.getElem_mem hkl)
          have HN := Lib.hid (name_any c.s hwc.2)
          have HK := Lib.hid (kind_any c.k hwc.1)
          clear hwc
          obtain ⟨tb, htw⟩ : ∃ tb, (!decide (findI c.s l = k)) = tb := ⟨_, rfl⟩
          have htw2 : decide (findI c.s l = k) = !tb := by rw [← htw, Bool.not_not]
          obtain ⟨nm, hnm⟩ : ∃ nm, nameB c.s.data.toList = nm := ⟨_, rfl⟩
          obtain ⟨kd, hkd⟩ : ∃ kd, decide (1 ≤ c.k ∧ c.k ≤ 3) = kd := ⟨_, rfl⟩
          rw [htw] at HF
          rw [htw2] at HG
          rw [hnm] at HN HG
          rw [hkd] at HK HG
          clear htw htw2 hnm hkd
          have HB1 := Lib.hid (hbel.alloc hbel.size (.cells #[.string c.s, .int .i64 c.k] 56))
          obtain ⟨n0, n1⟩ := new_col wr c
          have HN0 := Lib.hid n0
          have HN1 := Lib.hid n1
          clear n0 n1 hbel
          go_wp2_with fail
          have n0 := HN0.out
          have n1 := HN1.out
          go_region_held3 (fun w' => Below w.heap.size w w' ∧ w'.cell? ⟨wr.heap.size, 0, none⟩ = some (.string c.s) ∧ w'.cell? ⟨wr.heap.size, 1, none⟩ = some (.int .i64 c.k))
            (first | exact ⟨HB1.out.drew, n0, n1⟩ | (go_split_ands; refine ⟨hop0 ‹Below w.heap.size w _› hb, later_cell hb ?_, later_cell hb ?_⟩ <;> assumption))
            ((go_at_call 92; (with_reducible refine (HF.out _ ?_).mono ?_); (assumption); rintro e w2 ⟨⟨jj, rfl⟩, hb⟩))
          all_goals
            go_split_ands
            have HB9 := Lib.hid (show Below w.heap.size w _ from by assumption)
            cases tb
          all_goals (first
            | (have HX := Lib.hid (HBAD.out (rightB_bad hkl (by rw [HG.out, Bool.not_true, Bool.and_false, Bool.false_and])))
               go_wp2
               go_ret
               rw [HX.out]
               exact ⟨rfl, HB9.out⟩)
            | (cases nm
               · have HX := Lib.hid (HBAD.out (rightB_bad hkl (by rw [HG.out, Bool.false_and, Bool.false_and])))
                 go_wp2_with (go_at_call 93; refine (HN.out _).mono ?_; rintro e w3 ⟨rfl, rfl⟩)
                 go_ret
                 rw [HX.out]
                 exact ⟨rfl, HB9.out⟩
               · cases kd
                 · have HX := Lib.hid (HBAD.out (rightB_bad hkl (by rw [HG.out, Bool.and_false])))
                   go_wp2_with (first | (go_at_call 93; refine (HN.out _).mono ?_; rintro e w3 ⟨rfl, rfl⟩) | (go_at_call 94; refine (HK.out _).mono ?_; rintro e w3 ⟨rfl, rfl⟩))
                   go_ret
                   rw [HX.out]
                   exact ⟨rfl, HB9.out⟩
                 · have HA2 := Lib.hid (show ∀ j, j < k + 1 → goodAt l j = true from fun j h => by
                     by_cases h2 : j = k
                     · subst h2; rw [HG.out]; rfl
                     · exact HA.out j (by omega))
                   go_wp2_with (first | (go_at_call 93; refine (HN.out _).mono ?_; rintro e w3 ⟨rfl, rfl⟩) | (go_at_call 94; refine (HK.out _).mono ?_; rintro e w3 ⟨rfl, rfl⟩))
                   go_roundw
                   case rel => exact ⟨k + 1, by omega, by go_num, HA2, HB9.out⟩
                   case measure => simp [intOf]; omega))
        · have HX := Lib.hid (HGOOD.out (rightB_good (by rw [← HL.out]; omega) (by rw [← HL.out]; omega) (fun j hj => HA.out j (by rw [HL.out] at hlt; omega))))
          go_wp2
          go_ret
          rw [HX.out]
          exact ⟨rfl, HB0.out⟩
end Go.Proofs.YtclcabdekeegdaaGreat
