/- The walk of the law on bytes as lists. -/
import Derived.Test.YtkpajmgbiepmbaaCodRunRows
import Derived.Test.YtkpajmgbiepmbaaCodOnly
import Derived.Test.YtkpajmgbiepmbaaCodSame
namespace Go.Proofs.Ytkpajmgbiepmbaa
open Go.ChangeShapes Go.WideShapes Go.ChangeAt Go.RowKit
open Go.Lib (byteCells byteCells_length byteCells_append strCells)
set_option linter.unusedVariables false

def erP {β : Type} : Option β → Int
  | none => 41
  | some _ => 0
def xsP {β : Type} : Option (List β) → List β
  | none => []
  | some xs => xs
section
variable {α : Type} {E : TypeId} {sz : Nat} {f : α → List Value} {o : Option (List α)} {w w' : World} {e : Ending}
theorem wholeU (hl : ∀ a, (f a).length = sz) (hs : 0 < sz) (h : WholePost E sz f o w e w') : ∃ A c, e = .returned (.tuple #[.slice A (xsP o).length c, .int .i64 (erP o)]) ∧ RowC f sz w' w'.heap.size A (xsP o) ∧ Below w.heap.size w w' := by
  cases o with
  | none => exact ⟨none, 0, h.1, RowC.nil _ _ _, h.2⟩
  | some xs =>
    obtain ⟨A, c, he, ho, hb⟩ := h
    exact ⟨A, c, he, (RowC.own hl hs ho).2, hb⟩
theorem rwholeU (hl : ∀ a, (f a).length = sz) (hs : 0 < sz) (h : RWhole E sz f o w e w') : ∃ A c, e = .returned (.tuple #[.slice A (xsP o).length c, .bool o.isSome]) ∧ RowC f sz w' w'.heap.size A (xsP o) ∧ Below w.heap.size w w' := by
  cases o with
  | none => exact ⟨none, 0, h.1, RowC.nil _ _ _, h.2⟩
  | some xs =>
    obtain ⟨A, c, he, ho, hb⟩ := h
    exact ⟨A, c, he, (RowC.own hl hs ho).2, hb⟩
end
theorem rowsIn_nil (w : World) (B : Nat) (A : Option Addr) : RowsIn w B A [] := ⟨RowC.nil _ _ _, fun r hr => by simp at hr⟩
section
variable {l : List UInt8} {w w' : World} {e : Ending}
theorem okRs {ls : List (List V)} {rs : List Rw} (hw : whole rRow l = some ls) (h : rs.map Rw.l = ls) : ∀ r ∈ rs, okR r.l := fun r hr =>
  (whole_few row_codec hw).2.2 _ (by rw [← h]; exact List.mem_map_of_mem hr)
theorem wholeRowsU (h : WholeRows (whole rRow l) w e w') : ∃ rs A c, rs.map Rw.l = xsP (whole rRow l) ∧ e = .returned (.tuple #[.slice A rs.length c, .int .i64 (erP (whole rRow l))]) ∧ RowsIn w' w'.heap.size A rs ∧ Below w.heap.size w w' := by
  rcases hw : whole rRow l with _ | ls
  · rw [hw] at h
    exact ⟨[], none, 0, rfl, h.1, rowsIn_nil _ _ _, h.2⟩
  · rw [hw] at h
    obtain ⟨rs, A, c, hr, he, ho, hos, hb⟩ := h
    exact ⟨rs, A, c, hr, he, rows_in (okRs hw hr) ho hos, hb⟩
theorem rwholeRowsU (h : RWholeRows (whole rRow l) w e w') : ∃ rs A c, rs.map Rw.l = xsP (whole rRow l) ∧ e = .returned (.tuple #[.slice A rs.length c, .bool (whole rRow l).isSome]) ∧ RowsIn w' w'.heap.size A rs ∧ Below w.heap.size w w' := by
  rcases hw : whole rRow l with _ | ls
  · rw [hw] at h
    exact ⟨[], none, 0, rfl, h.1, rowsIn_nil _ _ _, h.2⟩
  · rw [hw] at h
    obtain ⟨rs, A, c, hr, he, ho, hos, hb⟩ := h
    exact ⟨rs, A, c, hr, he, rows_in (okRs hw hr) ho hos, hb⟩
end
theorem wrong_walk {β : Type} (o : Option β) (w : World) :
    Calls Try.prog 33 #[.int .i64 (erP o), .bool o.isSome] w fun e w' => e = .returned (.bool true) ∧ w = w' := by
  cases o with
  | none =>
    show Calls Try.prog 33 #[.int .i64 41, .bool false] w _
    go_enter Try.func33, Try.ntmps33
    go_wp2
    go_ret
    exact ⟨rfl, rfl⟩
  | some x =>
    show Calls Try.prog 33 #[.int .i64 0, .bool true] w _
    go_enter Try.func33, Try.ntmps33
    go_wp2
    go_ret
    exact ⟨rfl, rfl⟩
theorem rows_len {rs qs : List Rw} {ls : List (List V)} (h1 : rs.map Rw.l = ls) (h2 : qs.map Rw.l = ls) : qs.map Rw.l = rs.map Rw.l := h2.trans h1.symm
set_option maxRecDepth 4000 in
set_option maxHeartbeats 4000000 in
theorem reads_far (s : ByteArray) (hs : s.size ≤ maxLen) (h2 : 2000 < s.size) (w : World) :
    Calls Try.prog 5 #[.string s] w fun e w' => e = .returned (.bool true) ∧ Below w.heap.size w w' := by
  have hs1 : s.size ≤ 9223372036854775807 := by unfold maxLen at hs; omega
  have hd2 : decide ((2000 : Int) < (s.size : Int)) = true := decide_eq_true (by omega)
  clear hs h2
  go_enter Try.func5, Try.ntmps5
  go_wp2_with (go_at_call 9; refine (alive_any _).mono ?_; rintro e w1 ⟨rfl, hb1⟩; have HB := Lib.hid hb1; clear hb1)
  go_ret
  exact ⟨rfl, HB.out⟩
set_option maxRecDepth 4000 in
set_option maxHeartbeats 4000000 in
theorem reads_near (s : ByteArray) (hs : s.size ≤ maxLen) (hs2 : s.size ≤ 2000) (w : World) :
    Calls Try.prog 5 #[.string s] w fun e w' => e = .returned (.bool true) ∧ Below w.heap.size w w' := by
  have hd2 : decide ((2000 : Int) < (s.size : Int)) = false := decide_eq_false (by omega)
  have HS := Lib.hid hs
  have HLEN := Lib.hid (show (xsP (whole rRow s.data.toList)).length ≤ 2000 by
    rcases hw : whole rRow s.data.toList with _ | ls
    · simp [xsP]
    · have := (whole_few row_codec hw).2.1
      have := size_eq s
      simp only [xsP]
      omega)
  obtain ⟨xc, hxc⟩ : ∃ x, xsP (whole rCol s.data.toList) = x := ⟨_, rfl⟩
  obtain ⟨exc, hexc⟩ : ∃ x, erP (whole rCol s.data.toList) = x := ⟨_, rfl⟩
  obtain ⟨fxc, hfxc⟩ : ∃ x, (whole rCol s.data.toList).isSome = x := ⟨_, rfl⟩
  have HXxc := Lib.hid hxc
  have HExc := Lib.hid hexc
  have HFxc := Lib.hid hfxc
  have HWxc := Lib.hid (fun w => wrong_walk (whole rCol s.data.toList) w)
  rw [hexc, hfxc] at HWxc
  have hlxc : xc.length ≤ 2000 := by
    rw [← hxc]
    rcases hw : whole rCol s.data.toList with _ | ls
    · simp [xsP]
    · have := (whole_few col_codec hw).2.1
      have := size_eq s
      simp only [xsP]
      omega
  obtain ⟨xp, hxp⟩ : ∃ x, xsP (whole rPair s.data.toList) = x := ⟨_, rfl⟩
  obtain ⟨exp, hexp⟩ : ∃ x, erP (whole rPair s.data.toList) = x := ⟨_, rfl⟩
  obtain ⟨fxp, hfxp⟩ : ∃ x, (whole rPair s.data.toList).isSome = x := ⟨_, rfl⟩
  have HXxp := Lib.hid hxp
  have HExp := Lib.hid hexp
  have HFxp := Lib.hid hfxp
  have HWxp := Lib.hid (fun w => wrong_walk (whole rPair s.data.toList) w)
  rw [hexp, hfxp] at HWxp
  have hlxp : xp.length ≤ 2000 := by
    rw [← hxp]
    rcases hw : whole rPair s.data.toList with _ | ls
    · simp [xsP]
    · have := (whole_few pair_codec hw).2.1
      have := size_eq s
      simp only [xsP]
      omega
  obtain ⟨xn, hxn⟩ : ∃ x, xsP (whole rInt s.data.toList) = x := ⟨_, rfl⟩
  obtain ⟨exn, hexn⟩ : ∃ x, erP (whole rInt s.data.toList) = x := ⟨_, rfl⟩
  obtain ⟨fxn, hfxn⟩ : ∃ x, (whole rInt s.data.toList).isSome = x := ⟨_, rfl⟩
  have HXxn := Lib.hid hxn
  have HExn := Lib.hid hexn
  have HFxn := Lib.hid hfxn
  have HWxn := Lib.hid (fun w => wrong_walk (whole rInt s.data.toList) w)
  rw [hexn, hfxn] at HWxn
  have hlxn : xn.length ≤ 2000 := by
    rw [← hxn]
    rcases hw : whole rInt s.data.toList with _ | ls
    · simp [xsP]
    · have := (whole_few int_codec hw).2.1
      have := size_eq s
      simp only [xsP]
      omega
  have HWr := Lib.hid (fun w => wrong_walk (whole rRow s.data.toList) w)
  have hcv := fun W => run_bytes_of_string (P := Try.prog) W 9 27 5 s Try.underlying9 Try.underlying27 Try.underlying5
  clear hs hxc hexc hfxc hxp hexp hfxp hxn hexn hfxn
  go_enter Try.func5, Try.ntmps5
  go_wp2_with (first | (go_at_call 9; refine (alive_any _).mono ?_; rintro e w1 ⟨rfl, hb1⟩; have HB := Lib.hid hb1; clear hb1) | (go_at_call 24; refine (unrows_text s _ _ _ hs2 (grownCap_ge _ _ _ _) (grownCap_le_maxLen _ _ _ _ HS.out) ?c1).mono ?_; (case c1 => exact laid_bytes s _ _ _ _); intro e wc0 hp; obtain ⟨rs, Ac0, cc0, hrs, rfl, hat, hbu⟩ := wholeRowsU hp; have HRS := Lib.hid hrs; clear hrs; have hx := hop (((Below.refl _ _).alloc (Nat.le_refl _) _).drew) hbu; have HB := Lib.hid (hop HB.out hx); have HC0 := Lib.hid hat; clear hp hat hbu hx) | (go_at_call 25; refine (uncols_text s _ _ _ hs2 (grownCap_ge _ _ _ _) (grownCap_le_maxLen _ _ _ _ HS.out) ?c1).mono ?_; (case c1 => exact laid_bytes s _ _ _ _); intro e wc1 hp; obtain ⟨Ac1, cc1, he, hat, hbu⟩ := wholeU cCells_length (by decide) hp; rw [HXxc.out] at he hat; rw [HExc.out] at he; subst he; have hx := hop (((Below.refl _ _).alloc (Nat.le_refl _) _).drew) hbu; have HC0 := Lib.hid ((HC0.out.below hx).more hx.size); have HB := Lib.hid (hop HB.out hx); have HC1 := Lib.hid hat; clear hp hat hbu hx) | (go_at_call 26; refine (unpairs_text s _ _ _ hs2 (grownCap_ge _ _ _ _) (grownCap_le_maxLen _ _ _ _ HS.out) ?c1).mono ?_; (case c1 => exact laid_bytes s _ _ _ _); intro e wc2 hp; obtain ⟨Ac2, cc2, he, hat, hbu⟩ := wholeU pCells_length (by decide) hp; rw [HXxp.out] at he hat; rw [HExp.out] at he; subst he; have hx := hop (((Below.refl _ _).alloc (Nat.le_refl _) _).drew) hbu; have HC0 := Lib.hid ((HC0.out.below hx).more hx.size); have HC1 := Lib.hid ((HC1.out.below hx).more hx.size); have HB := Lib.hid (hop HB.out hx); have HC2 := Lib.hid hat; clear hp hat hbu hx) | (go_at_call 27; refine (unnums_text s _ _ _ hs2 (grownCap_ge _ _ _ _) (grownCap_le_maxLen _ _ _ _ HS.out) ?c1).mono ?_; (case c1 => exact laid_bytes s _ _ _ _); intro e wc3 hp; obtain ⟨Ac3, cc3, he, hat, hbu⟩ := wholeU iCells_length (by decide) hp; rw [HXxn.out] at he hat; rw [HExn.out] at he; subst he; have hx := hop (((Below.refl _ _).alloc (Nat.le_refl _) _).drew) hbu; have HC0 := Lib.hid ((HC0.out.below hx).more hx.size); have HC1 := Lib.hid ((HC1.out.below hx).more hx.size); have HC2 := Lib.hid ((HC2.out.below hx).more hx.size); have HB := Lib.hid (hop HB.out hx); have HC3 := Lib.hid hat; clear hp hat hbu hx) | (go_at_call 28; refine (punrows_walk s (by omega) _).mono ?_; intro e wr0 hp; obtain ⟨qs, Ar0, cr0, hqs, rfl, hat, hbu⟩ := rwholeRowsU hp; have HQS := Lib.hid (rows_len HRS.out hqs); clear hqs; have HC0 := Lib.hid ((HC0.out.below hbu).more hbu.size); have HC1 := Lib.hid ((HC1.out.below hbu).more hbu.size); have HC2 := Lib.hid ((HC2.out.below hbu).more hbu.size); have HC3 := Lib.hid ((HC3.out.below hbu).more hbu.size); have HB := Lib.hid (hop HB.out hbu); have HR0 := Lib.hid hat; clear hp hat hbu) | (go_at_call 29; refine (puncols_walk s (by omega) _).mono ?_; intro e wr1 hp; obtain ⟨Ar1, cr1, he, hat, hbu⟩ := rwholeU cCells_length (by decide) hp; rw [HXxc.out] at he hat; rw [HFxc.out] at he; subst he; have HC0 := Lib.hid ((HC0.out.below hbu).more hbu.size); have HC1 := Lib.hid ((HC1.out.below hbu).more hbu.size); have HC2 := Lib.hid ((HC2.out.below hbu).more hbu.size); have HC3 := Lib.hid ((HC3.out.below hbu).more hbu.size); have HR0 := Lib.hid ((HR0.out.below hbu).more hbu.size); have HB := Lib.hid (hop HB.out hbu); have HR1 := Lib.hid hat; clear hp hat hbu) | (go_at_call 30; refine (punpairs_walk s (by omega) _).mono ?_; intro e wr2 hp; obtain ⟨Ar2, cr2, he, hat, hbu⟩ := rwholeU pCells_length (by decide) hp; rw [HXxp.out] at he hat; rw [HFxp.out] at he; subst he; have HC0 := Lib.hid ((HC0.out.below hbu).more hbu.size); have HC1 := Lib.hid ((HC1.out.below hbu).more hbu.size); have HC2 := Lib.hid ((HC2.out.below hbu).more hbu.size); have HC3 := Lib.hid ((HC3.out.below hbu).more hbu.size); have HR0 := Lib.hid ((HR0.out.below hbu).more hbu.size); have HR1 := Lib.hid ((HR1.out.below hbu).more hbu.size); have HB := Lib.hid (hop HB.out hbu); have HR2 := Lib.hid hat; clear hp hat hbu) | (go_at_call 31; refine (punnums_walk s (by omega) _).mono ?_; intro e wr3 hp; obtain ⟨Ar3, cr3, he, hat, hbu⟩ := rwholeU iCells_length (by decide) hp; rw [HXxn.out] at he hat; rw [HFxn.out] at he; subst he; have HC0 := Lib.hid ((HC0.out.below hbu).more hbu.size); have HC1 := Lib.hid ((HC1.out.below hbu).more hbu.size); have HC2 := Lib.hid ((HC2.out.below hbu).more hbu.size); have HC3 := Lib.hid ((HC3.out.below hbu).more hbu.size); have HR0 := Lib.hid ((HR0.out.below hbu).more hbu.size); have HR1 := Lib.hid ((HR1.out.below hbu).more hbu.size); have HR2 := Lib.hid ((HR2.out.below hbu).more hbu.size); have HB := Lib.hid (hop HB.out hbu); have HR3 := Lib.hid hat; clear hp hat hbu) | (go_at_call 32; refine (rrows_same rs qs Ac0 Ar0 _ cc0 _ cr0 _ rfl rfl (by have := HLEN.out; unfold maxLen; rw [← List.length_map (f := Rw.l), HRS.out]; omega) HQS.out.symm HC0.out HR0.out).mono ?_; rintro e wq ⟨rfl, hbu⟩; have HC1 := Lib.hid ((HC1.out.below hbu).more hbu.size); have HC2 := Lib.hid ((HC2.out.below hbu).more hbu.size); have HC3 := Lib.hid ((HC3.out.below hbu).more hbu.size); have HR1 := Lib.hid ((HR1.out.below hbu).more hbu.size); have HR2 := Lib.hid ((HR2.out.below hbu).more hbu.size); have HR3 := Lib.hid ((HR3.out.below hbu).more hbu.size); have HB := Lib.hid (hop HB.out hbu); clear hbu))
  clear hcv
  go_loopw [19] (fun iv wr => ∃ k : Nat, k ≤ xc.length ∧ iv = .int .i64 (k : Int) ∧ Hid (Below wq.heap.size wq wr)) (fun iv _ => xc.length - (intOf iv).toNat)
  case atStart => exact ⟨0, Nat.zero_le _, rfl, Lib.hid (Below.refl _ _)⟩
  case round =>
    obtain ⟨k1, hk1, rfl, HBel1⟩ := hrel
    by_cases hlt1 : k1 < xc.length
    · obtain ⟨b, off, rfl, hB1, hc⟩ := (HC1.out.below HBel1.out) k1 hlt1
      obtain ⟨b2, off2, rfl, hB2, hc2⟩ := (HR1.out.below HBel1.out) k1 hlt1
      have x0 := hc 0 _ rfl
      have y0 := hc2 0 _ rfl
      have x1 := hc 1 _ rfl
      have y1 := hc2 1 _ rfl
      rw [Nat.add_zero] at x0 y0
      obtain ⟨x, hx⟩ : ∃ x, xc[k1] = x := ⟨_, rfl⟩
      simp only [hx] at x0 y0 x1 y1
      have i1 : (0 : Int) ≤ (k1 : Int) := by omega
      have i2 : (k1 : Int) < (xc.length : Int) := by omega
      clear hc hc2 hx
      go_wp2_with fail
      go_region
      all_goals
        go_wp2
        go_roundw
        case rel => exact ⟨k1 + 1, by omega, by go_num, Lib.hid HBel1.out.drew⟩
        case measure => simp [intOf]; omega
    · go_wp2
      obtain ⟨wv2, HV2⟩ : ∃ x, Hid (x = wr) := ⟨_, Lib.hid rfl⟩
      go_loopw [20] (fun iv wr => ∃ k : Nat, k ≤ xp.length ∧ iv = .int .i64 (k : Int) ∧ Hid (Below wq.heap.size wq wr)) (fun iv _ => xp.length - (intOf iv).toNat)
      case atStart => exact ⟨0, Nat.zero_le _, rfl, HBel1⟩
      case round =>
        obtain ⟨k2, hk2, rfl, HBel2⟩ := hrel
        by_cases hlt2 : k2 < xp.length
        · obtain ⟨b, off, rfl, hB1, hc⟩ := (HC2.out.below HBel2.out) k2 hlt2
          obtain ⟨b2, off2, rfl, hB2, hc2⟩ := (HR2.out.below HBel2.out) k2 hlt2
          have x0 := hc 0 _ rfl
          have y0 := hc2 0 _ rfl
          have x1 := hc 1 _ rfl
          have y1 := hc2 1 _ rfl
          rw [Nat.add_zero] at x0 y0
          obtain ⟨x, hx⟩ : ∃ x, xp[k2] = x := ⟨_, rfl⟩
          simp only [hx] at x0 y0 x1 y1
          have i1 : (0 : Int) ≤ (k2 : Int) := by omega
          have i2 : (k2 : Int) < (xp.length : Int) := by omega
          clear hc hc2 hx
          go_wp2_with fail
          go_region
          all_goals
            go_wp2
            go_roundw
            case rel => exact ⟨k2 + 1, by omega, by go_num, Lib.hid HBel2.out.drew⟩
            case measure => simp [intOf]; omega
        · go_wp2
          obtain ⟨wv3, HV3⟩ : ∃ x, Hid (x = wr) := ⟨_, Lib.hid rfl⟩
          go_loopw [21] (fun iv wr => ∃ k : Nat, k ≤ xn.length ∧ iv = .int .i64 (k : Int) ∧ Hid (Below wq.heap.size wq wr)) (fun iv _ => xn.length - (intOf iv).toNat)
          case atStart => exact ⟨0, Nat.zero_le _, rfl, HBel2⟩
          case round =>
            obtain ⟨k3, hk3, rfl, HBel3⟩ := hrel
            by_cases hlt3 : k3 < xn.length
            · obtain ⟨b, off, rfl, hB1, hc⟩ := (HC3.out.below HBel3.out) k3 hlt3
              obtain ⟨b2, off2, rfl, hB2, hc2⟩ := (HR3.out.below HBel3.out) k3 hlt3
              have x0 := hc 0 _ rfl
              have y0 := hc2 0 _ rfl
              rw [Nat.mul_one, Nat.add_zero] at x0 y0
              obtain ⟨x, hx⟩ : ∃ x, xn[k3] = x := ⟨_, rfl⟩
              simp only [hx] at x0 y0
              have i1 : (0 : Int) ≤ (k3 : Int) := by omega
              have i2 : (k3 : Int) < (xn.length : Int) := by omega
              clear hc hc2 hx
              go_wp2_with fail
              go_region
              all_goals
                go_wp2
                go_roundw
                case rel => exact ⟨k3 + 1, by omega, by go_num, Lib.hid HBel3.out.drew⟩
                case measure => simp [intOf]; omega
            · go_wp2_with (first | (have HSEQ := HQ3; go_at_call 33; refine (HWxn.out _).mono ?_; rintro e ww ⟨rfl, rfl⟩) | (have HSEQ := HQ2; go_at_call 33; refine (HWxp.out _).mono ?_; rintro e ww ⟨rfl, rfl⟩; have HQ3 := True.intro) | (have HSEQ := HQ1; go_at_call 33; refine (HWxc.out _).mono ?_; rintro e ww ⟨rfl, rfl⟩; have HQ2 := True.intro) | (go_at_call 33; refine (HWr.out _).mono ?_; rintro e ww ⟨rfl, rfl⟩; have HQ1 := True.intro))
              go_ret
              exact ⟨rfl, hop HB.out HBel3.out⟩
theorem codereads_walk (s : ByteArray) (hs : s.size ≤ maxLen) (w : World) :
    Calls Try.prog 5 #[.string s] w fun e w' => e = .returned (.bool true) ∧ Below w.heap.size w w' := by
  by_cases h2 : 2000 < s.size
  · exact reads_far s hs h2 w
  · exact reads_near s hs (by omega) w
end Go.Proofs.Ytkpajmgbiepmbaa
