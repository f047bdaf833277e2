/- The walk of the plain text that reads rows. -/
import Derived.Test.YtkpajmgbiepmbaaCodRval
import Derived.Test.YtkpajmgbiepmbaaCodRun
import Derived.Test.YtkpajmgbiepmbaaCodRows
namespace Go.Proofs.Ytkpajmgbiepmbaa
open Go.ChangeShapes Go.WideShapes Go.ChangeAt Go.RowKit
open Go.Lib (byteCells byteCells_length byteCells_append strCells)
set_option linter.unusedVariables false

def RWholeRows (o : Option (List (List V))) (w : World) (e : Ending) (w' : World) : Prop :=
  match o with
  | none => e = .returned (.tuple #[.slice none 0 0, .bool false]) ∧ Below w.heap.size w w'
  | some ls => ∃ rs A c, rs.map Rw.l = ls ∧ e = .returned (.tuple #[.slice A rs.length c, .bool true]) ∧ w'.ownsRow w.heap.size 80 1 (.slice A rs.length c) rs.length (rs.flatMap rCells) ∧ OwnRs w.heap.size rs w' ∧ Below w.heap.size w w'
theorem row_empty (w : World) : (w.alloc (.cells #[] 85)).ownsRow w.heap.size 85 3 (.slice (some ⟨w.heap.size, 0, none⟩) 0 0) 0 (([] : List V).flatMap V.cells) :=
  ⟨rfl, .inr ⟨w.heap.size, 0, #[], rfl, Nat.le_refl _, World.alloc_heap_new _ _, Nat.le_refl _, by decide, rfl, rfl⟩⟩
set_option maxRecDepth 4000 in
set_option maxHeartbeats 4000000 in
theorem punrows_walk (s : ByteArray) (hs : s.size ≤ 16777216) (w : World) :
    Calls Try.prog 28 #[.string s] w (RWholeRows (whole rRow s.data.toList) w) := by
  have HN := Lib.hid (punnum0_walk s (by omega))
  have HSZ := Lib.hid (show s.data.toList.length ≤ 16777216 by rw [← size_eq]; exact hs)
  have hs16 : decide ((16777216 : Int) < (s.size : Int)) = false := decide_eq_false (by omega)
  have ebad : ((-1 : Int) != (s.size : Int)) = true := by rw [bne_iff_ne]; omega
  have ebad2 : ((-1 : Int) == (s.size : Int)) = false := by rw [beq_eq_false_iff_ne]; omega
  rcases hu : unL s.data.toList with _ | ⟨n, m⟩
  · rw [hu] at HN
    rw [whole_none (rList_none hu)]
    clear hu
    go_enter Try.func28, Try.ntmps28
    go_wp2_with (go_at_call 11; refine (HN.out _).mono ?_; unfold rOut; rintro e w2 ⟨rfl, rfl⟩)
    refine wp_loop_rounds 1 ?_
    rw [rounds_succ]
    go_wp2
    go_ret2
    exact ⟨rfl, Below.refl _ _⟩
  · rw [hu] at HN
    have hn := (unL_only hu).2
    have hq0 := (Suf.all s).next num_codec hu
    have HQ0 := Lib.hid hq0
    obtain ⟨o0, ho0⟩ := hq0.at_
    have HO0 := Lib.hid (show s.size - m.length = o0 by omega)
    have HU := Lib.hid hu
    clear hu hq0
    go_enter Try.func28, Try.ntmps28
    go_wp2_with (go_at_call 11; refine (HN.out _).mono ?_; unfold rOut; dsimp only; rw [HO0.out]; rintro e w2 ⟨rfl, rfl⟩)
    go_loopw [5, 6, 7] (fun av ov iv wr => (∃ (k o : Nat) (rs : List Rw) (q : List UInt8) (A : Option Addr) (c : Nat), k ≤ n ∧ k + q.length ≤ s.size ∧ o + q.length = s.size ∧ iv = .int .u64 (k : Int) ∧ av = .int .i64 (o : Int) ∧ ov = .slice A k c ∧ Hid (ManyK rRow n m k (rs.map Rw.l) q) ∧ Hid (Suf s q) ∧ Hid (wr.ownsRow w.heap.size 80 1 (.slice A k c) k (rs.flatMap rCells)) ∧ Hid (OwnRs w.heap.size rs wr) ∧ Hid (Below w.heap.size w wr)) ∨ (∃ k : Nat, k ≤ n ∧ iv = .int .u64 (k : Int) ∧ av = .int .i64 (-1) ∧ Hid (rMany rRow n m = none) ∧ Hid (Below w.heap.size w wr))) (fun _ _ iv _ => n - (intOf iv).toNat)
    case atStart => exact .inl ⟨0, o0, [], m, none, 0, Nat.zero_le _, by omega, ho0, rfl, rfl, rfl, Lib.hid ManyK.start, HQ0, Lib.hid (World.ownsRow_nil _ _ _ _), Lib.hid (fun x hx => by simp at hx), Lib.hid (Below.refl _ _)⟩
    case round =>
      rcases hrel with ⟨k, o, rs, q, A, c, hk, hkq, ho, rfl, rfl, rfl, HM, HQ, HO, HRS, HBel⟩ | ⟨k, hk, rfl, rfl, HF, HBel⟩
      · by_cases hlt : k < n
        · have hbs := HBel.out.size
          have HS := Lib.hid hbs
          have hg0 : decide ((0 : Int) ≤ (o : Int)) = true := decide_eq_true (by omega)
          have HW := punnum_walk s q o ho HQ.out (by omega)
          rcases hd : unL q with _ | ⟨kk, q1⟩
          · rw [hd] at HW
            have HT := Lib.hid HW
            have HF := Lib.hid (HM.out.bad hlt (show rRow q = none from rList_none hd))
            clear HW hd
            go_wp2_with (go_at_call 11; refine (HT.out _).mono ?_; unfold rOut; rintro e w2 ⟨rfl, rfl⟩)
            refine wp_loop_rounds 1 ?_
            rw [rounds_succ]
            go_wp2_with (at_builtin; go_loud (refine append_item Try.underlying33 info_row rfl (by decide) rCells_length rCells_one rfl _ _ rfl w.heap.size A k c rs rfl _ (⟨some ⟨wr.heap.size, 0, none⟩, 0, []⟩ : Rw) (HO.out.alloc _) (Nat.le_trans HS.out (by simp)) _ rfl (by simp) (by omega) (by unfold maxLen; omega) [_] rfl ?_); intro A3 n3 c3 w3 hn3 ho3 hb3 hg3; have HP3 := Lib.hid ((HBel.out.alloc HS.out _).trans hb3); clear ho3 hb3 hg3; subst hn3)
            go_roundw
            case rel => exact .inr ⟨k + 1, by omega, by go_num, rfl, HF, HP3⟩
            case measure => simp [intOf]; omega
          · rw [hd] at HW
            have HT := Lib.hid HW
            have hkk := (unL_only hd).2
            have HQ1 := Lib.hid (HQ.out.next num_codec hd)
            have hlq := num_codec.less hd
            obtain ⟨o1, ho1⟩ := HQ1.out.at_
            have HO1 := Lib.hid (show s.size - q1.length = o1 by omega)
            have HD := Lib.hid hd
            clear HW hd
            go_wp2_with (go_at_call 11; refine (HT.out _).mono ?_; unfold rOut; dsimp only; rw [HO1.out]; rintro e w2 ⟨rfl, rfl⟩)
            have HE0 := Lib.hid (row_empty wr)
            have HB0 := Lib.hid ((Below.refl wr.heap.size wr).alloc (Nat.le_refl _) (.cells #[] 85))
            obtain ⟨w0, rfl⟩ : ∃ x, x = wr := ⟨_, rfl⟩
            go_loopw [5, 9, 10] (fun av rv jv wr => (∃ (j o : Nat) (vs : List V) (r : List UInt8) (A2 : Option Addr) (c2 : Nat), j ≤ kk ∧ j + r.length ≤ q1.length ∧ o + r.length = s.size ∧ jv = .int .u64 (j : Int) ∧ av = .int .i64 (o : Int) ∧ rv = .slice A2 j c2 ∧ Hid (ManyK rVal kk q1 j vs r) ∧ Hid (Suf s r) ∧ Hid (wr.ownsRow w0.heap.size 85 3 (.slice A2 j c2) j (vs.flatMap V.cells)) ∧ Hid (Below w0.heap.size w0 wr)) ∨ (∃ (j : Nat) (l : List V) (A2 : Option Addr) (c2 : Nat), j ≤ kk ∧ jv = .int .u64 (j : Int) ∧ av = .int .i64 (-1) ∧ rv = .slice A2 l.length c2 ∧ Hid (rMany rVal kk q1 = none) ∧ Hid (Below w0.heap.size w0 wr))) (fun _ _ jv _ => kk - (intOf jv).toNat)
            case atStart => exact .inl ⟨0, o1, [], q1, _, _, Nat.zero_le _, by omega, ho1, rfl, rfl, rfl, Lib.hid ManyK.start, HQ1, HE0, HB0⟩
            case round =>
              rcases hrel with ⟨j, o5, vs, r, A2, c2, hj, hjr, ho5, rfl, rfl, rfl, HM5, HQ5, HV5, HB5⟩ | ⟨j, l5, A2, c2, hj, rfl, rfl, rfl, HF5, HB5⟩
              · by_cases hlt5 : j < kk
                · have hbs5 := HB5.out.size
                  have HS5 := Lib.hid hbs5
                  have hg5 : decide ((0 : Int) ≤ (o5 : Int)) = true := decide_eq_true (by omega)
                  have HW5 := punvalue_walk s r o5 ho5 HQ5.out (by omega)
                  rcases hd5 : rVal r with _ | ⟨v, r2⟩
                  · rw [hd5] at HW5
                    have HT5 := Lib.hid HW5
                    have HF5 := Lib.hid (HM5.out.bad hlt5 hd5)
                    clear HW5 hd5
                    go_wp2_with (first | (go_at_call 58; refine (HT5.out _).mono ?_; unfold VPost Vv; dsimp only; rintro e w6 ⟨⟨v, rfl⟩, hb6⟩; have HX6 := (Box.new wr ⟨0, 0, mt⟩).below hb6; have x0 := HX6.k; have x1 := HX6.n; have x2 := HX6.s; have f0 := HX6.frozen 0; have f1 := HX6.frozen 1; have f2 := HX6.frozen 2; have HLV := Lib.hid HM5.out.1; have HB6 := Lib.hid ((((((Below.refl wr.heap.size wr).alloc (Nat.le_refl _) _).trans (hb6.mono (by simp))).setCell (p := ⟨wr.heap.size, 0, none⟩) (Nat.le_refl _) (.int .i64 v.k)).setCell (p := ⟨wr.heap.size, 1, none⟩) (Nat.le_refl _) (.int .i64 v.n)).setCell (p := ⟨wr.heap.size, 2, none⟩) (Nat.le_refl _) (.string v.s)); clear hb6 HX6) | (at_builtin; go_loud (refine append_item Try.underlying80 info_val rfl (by decide) vCells_length vCells_one rfl _ _ rfl w0.heap.size A2 j c2 vs rfl _ v (own_below HV5.out HB6.out) (Nat.le_trans HS5.out HB6.out.size) w6.heap.size rfl (by simp [World.setCell]) (by omega) (by unfold maxLen; omega) [_, _, _] rfl ?_); intro A7 n7 c7 w7 hn7 ho7 hb7 hg7; have HO7 := Lib.hid ho7; have HP7 := Lib.hid ((hop HB5.out HB6.out).trans hb7); clear ho7 hb7 hg7; subst hn7))
                    go_roundw
                    case rel => exact .inr ⟨j + 1, vs ++ [v], A7, c7, by omega, by go_num, rfl, by simp [HLV.out], HF5, HP7⟩
                    case measure => simp [intOf]; omega
                  · rw [hd5] at HW5
                    have HT5 := Lib.hid HW5
                    have HF5 := Lib.hid (HM5.out.next hlt5 hd5)
                    have HQ6 := Lib.hid (HQ5.out.next val_codec hd5)
                    have hlr := val_codec.less hd5
                    obtain ⟨o6, ho6⟩ := HQ6.out.at_
                    have HO6 := Lib.hid (show s.size - r2.length = o6 by omega)
                    clear HW5 hd5
                    go_wp2_with (first | (go_at_call 58; refine (HT5.out _).mono ?_; unfold VPost Vv; dsimp only; rw [HO6.out]; rintro e w6 ⟨rfl, hb6⟩; have HX6 := (Box.new wr ⟨0, 0, mt⟩).below hb6; have x0 := HX6.k; have x1 := HX6.n; have x2 := HX6.s; have f0 := HX6.frozen 0; have f1 := HX6.frozen 1; have f2 := HX6.frozen 2; have HLV := Lib.hid HM5.out.1; have HB6 := Lib.hid ((((((Below.refl wr.heap.size wr).alloc (Nat.le_refl _) _).trans (hb6.mono (by simp))).setCell (p := ⟨wr.heap.size, 0, none⟩) (Nat.le_refl _) (.int .i64 v.k)).setCell (p := ⟨wr.heap.size, 1, none⟩) (Nat.le_refl _) (.int .i64 v.n)).setCell (p := ⟨wr.heap.size, 2, none⟩) (Nat.le_refl _) (.string v.s)); clear hb6 HX6) | (at_builtin; go_loud (refine append_item Try.underlying80 info_val rfl (by decide) vCells_length vCells_one rfl _ _ rfl w0.heap.size A2 j c2 vs rfl _ v (own_below HV5.out HB6.out) (Nat.le_trans HS5.out HB6.out.size) w6.heap.size rfl (by simp [World.setCell]) (by omega) (by unfold maxLen; omega) [_, _, _] rfl ?_); intro A7 n7 c7 w7 hn7 ho7 hb7 hg7; have HO7 := Lib.hid ho7; have HP7 := Lib.hid ((hop HB5.out HB6.out).trans hb7); clear ho7 hb7 hg7; subst hn7))
                    go_roundw
                    case rel => exact .inl ⟨j + 1, o6, _, r2, A7, c7, by omega, by omega, ho6, by go_num, rfl, rfl, HF5, HQ6, HO7, HP7⟩
                    case measure => simp [intOf]; omega
                · have hjk : j = kk := by omega
                  subst hjk
                  have HD5 := Lib.hid (HM5.out.done (Nat.le_refl _))
                  have HLV := Lib.hid HM5.out.1
                  by_cases h12 : 12 < j
                  · have HF := Lib.hid (whole_bad HU.out (HM.out.bad hlt (show rRow q = none from rList_many HD.out h12)))
                    have g12 : decide ((12 : Int) < (j : Int)) = true := decide_eq_true (by omega)
                    clear h12
                    go_wp2
                    go_ret2
                    rw [HF.out]
                    exact ⟨rfl, hop HBel.out HB5.out⟩
                  · have hd8 : rRow q = some (vs, r) := by unfold rRow; rw [rList_some HD.out (by omega)]; exact HD5.out
                    have HF := Lib.hid (HM.out.next hlt hd8)
                    have HQ8 := Lib.hid HQ5.out
                    have HO8 := Lib.hid (own_below HO.out HB5.out)
                    have HR8 := Lib.hid ((HRS.out.below HB5.out).snoc (x := ⟨A2, c2, vs⟩) (show wr.ownsRow w.heap.size 85 3 (.slice A2 vs.length c2) vs.length (vs.flatMap V.cells) by rw [HLV.out]; exact HV5.out.mono HS.out))
                    have HS8 := Lib.hid (Nat.le_trans HS.out HB5.out.size)
                    have g12 : decide ((12 : Int) < (j : Int)) = false := decide_eq_false (by omega)
                    clear hd8 h12
                    go_wp2_with (at_builtin; go_loud (refine append_item Try.underlying33 info_row rfl (by decide) rCells_length rCells_one rfl _ _ rfl w.heap.size A k c rs rfl _ (⟨A2, c2, vs⟩ : Rw) HO8.out HS8.out _ rfl rfl (by omega) (by unfold maxLen; omega) [.slice A2 j c2] (by unfold rCells Rw.val; rw [HLV.out]) ?_); intro A3 n3 c3 w3 hn3 ho3 hb3 hg3; have HO3 := Lib.hid ho3; have HR3 := Lib.hid (OwnRs.grown (HR8.out.alloc _) (HO8.out.alloc _) hg3 (by decide)); have HP3 := Lib.hid ((hop HBel.out HB5.out).trans hb3); clear ho3 hb3 hg3; subst hn3)
                    go_roundw
                    case rel => exact .inl ⟨k + 1, o5, rs ++ [⟨A2, c2, vs⟩], r, A3, c3, by omega, by omega, ho5, by go_num, rfl, rfl, Lib.hid (by rw [List.map_append]; exact HF.out), HQ8, HO3, HR3, HP3⟩
                    case measure => simp [intOf]; omega
              · have GX : True := trivial
                by_cases h12 : 12 < kk
                · have HF := Lib.hid (whole_bad HU.out (HM.out.bad hlt (show rRow q = none from rList_many HD.out h12)))
                  have g12 : decide ((12 : Int) < (kk : Int)) = true := decide_eq_true (by omega)
                  by_cases hlt5 : j < kk
                  · clear h12
                    go_wp2
                    go_ret2
                    rw [HF.out]
                    exact ⟨rfl, hop HBel.out HB5.out⟩
                  · clear h12
                    go_wp2
                    go_ret2
                    rw [HF.out]
                    exact ⟨rfl, hop HBel.out HB5.out⟩
                · have HF := Lib.hid (HM.out.bad hlt (show rRow q = none by unfold rRow; rw [rList_some HD.out (by omega)]; exact HF5.out))
                  have HO8 := Lib.hid (own_below HO.out HB5.out)
                  have HS8 := Lib.hid (Nat.le_trans HS.out HB5.out.size)
                  have g12 : decide ((12 : Int) < (kk : Int)) = false := decide_eq_false (by omega)
                  by_cases hlt5 : j < kk
                  · clear h12
                    go_wp2_with (at_builtin; go_loud (refine append_item Try.underlying33 info_row rfl (by decide) rCells_length rCells_one rfl _ _ rfl w.heap.size A k c rs rfl _ (⟨A2, c2, l5⟩ : Rw) HO8.out HS8.out _ rfl rfl (by omega) (by unfold maxLen; omega) [_] rfl ?_); intro A3 n3 c3 w3 hn3 ho3 hb3 hg3; have HP3 := Lib.hid ((hop HBel.out HB5.out).trans hb3); clear ho3 hb3 hg3; subst hn3)
                    go_roundw
                    case rel => exact .inr ⟨k + 1, by omega, by go_num, rfl, HF, HP3⟩
                    case measure => simp [intOf]; omega
                  · clear h12
                    go_wp2_with (at_builtin; go_loud (refine append_item Try.underlying33 info_row rfl (by decide) rCells_length rCells_one rfl _ _ rfl w.heap.size A k c rs rfl _ (⟨A2, c2, l5⟩ : Rw) HO8.out HS8.out _ rfl rfl (by omega) (by unfold maxLen; omega) [_] rfl ?_); intro A3 n3 c3 w3 hn3 ho3 hb3 hg3; have HP3 := Lib.hid ((hop HBel.out HB5.out).trans hb3); clear ho3 hb3 hg3; subst hn3)
                    go_roundw
                    case rel => exact .inr ⟨k + 1, by omega, by go_num, rfl, HF, HP3⟩
                    case measure => simp [intOf]; omega
        · have hkn : k = n := by omega
          subst hkn
          have HD := Lib.hid (HM.out.done (Nat.le_refl _))
          have HL := Lib.hid (show rs.length = k by have := HM.out.1; rwa [List.length_map] at this)
          by_cases hql : q.length = 0
          · have HF := Lib.hid (whole_all row_codec HSZ.out HU.out HD.out hql)
            have hos : o = s.size := by omega
            subst hos
            clear ho hkq hql
            go_wp2
            go_ret2
            rw [HF.out]
            refine ⟨rs, A, c, rfl, ?_, ?_, HRS.out, HBel.out⟩
            · rw [HL.out]; rfl
            · rw [HL.out]; exact HO.out
          · have HF := Lib.hid (whole_left HU.out HD.out (by omega))
            have e0 : ((o : Int) != (s.size : Int)) = true := by rw [bne_iff_ne]; omega
            have e1 : ((o : Int) == (s.size : Int)) = false := by rw [beq_eq_false_iff_ne]; omega
            clear ho hkq hql
            go_wp2
            go_ret2
            rw [HF.out]
            exact ⟨rfl, HBel.out⟩
      · have HF2 := Lib.hid (whole_bad HU.out HF.out)
        by_cases hlt : k < n
        · go_wp2
          go_ret2
          rw [HF2.out]
          exact ⟨rfl, HBel.out⟩
        · go_wp2
          go_ret2
          rw [HF2.out]
          exact ⟨rfl, HBel.out⟩
end Go.Proofs.Ytkpajmgbiepmbaa
