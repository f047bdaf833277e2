/- The walks of the plain text that reads lists: ints, pairs, columns. -/
import Derived.Test.YtkpajmgbiepmbaaCodRread
import Derived.Test.YtkpajmgbiepmbaaCodWhole
namespace Go.Proofs.Ytkpajmgbiepmbaa
open Go.ChangeShapes Go.WideShapes Go.ChangeAt Go.RowKit
open Go.Lib (byteCells byteCells_length byteCells_append strCells)
set_option linter.unusedVariables false

section
variable {α : Type} {enc : α → List UInt8} {dec : List UInt8 → Option (α × List UInt8)} {ok : α → Prop} {l m q : List UInt8} {n : Nat} {xs : List α}
theorem whole_bad (hu : unL l = some (n, m)) (hm : rMany dec n m = none) : whole dec l = none := by
  by_cases h : n ≤ 16777216
  · exact whole_none (by rw [rList_some hu h, hm])
  · exact whole_none (rList_many hu (by omega))
theorem whole_left (hu : unL l = some (n, m)) (hm : rMany dec n m = some (xs, q)) (hq : 0 < q.length) : whole dec l = none := by
  by_cases h : n ≤ 16777216
  · exact whole_rest (by rw [rList_some hu h, hm]) hq
  · exact whole_none (rList_many hu (by omega))
theorem whole_all (hc : Codec enc dec ok) (hl : l.length ≤ 16777216) (hu : unL l = some (n, m)) (hm : rMany dec n m = some (xs, q)) (hq : q.length = 0) : whole dec l = some xs := by
  have h1 := rMany_le hc hm
  have h2 := num_codec.less hu
  have h3 : q = [] := List.eq_nil_of_length_eq_zero hq
  subst h3
  exact whole_some (by rw [rList_some hu (by omega), hm])
end
theorem punnum0_walk (s : ByteArray) (hs : s.size ≤ 1099511627776) (w : World) :
    Calls Try.prog 11 #[.string s, .int .i64 0] w fun e w' => e = .returned (rOut s.size (unL s.data.toList)) ∧ w = w' :=
  punnum_walk s s.data.toList 0 (by rw [← size_eq]; omega) (Suf.all s) hs w
/-- What the plain text's reading of a list leaves. -/
def RWhole {α : Type} (E : TypeId) (sz : Nat) (f : α → List Value) (o : Option (List α)) (w : World) (e : Ending) (w' : World) : Prop :=
  match o with
  | none => e = .returned (.tuple #[.slice none 0 0, .bool false]) ∧ Below w.heap.size w w'
  | some xs => ∃ A c, e = .returned (.tuple #[.slice A xs.length c, .bool true]) ∧ w'.ownsRow w.heap.size E sz (.slice A xs.length c) xs.length (xs.flatMap f) ∧ Below w.heap.size w w'

set_option maxRecDepth 4000 in
set_option maxHeartbeats 4000000 in
theorem punnums_walk (s : ByteArray) (hs : s.size ≤ 16777216) (w : World) :
    Calls Try.prog 31 #[.string s] w (RWhole 2 1 iCells (whole rInt s.data.toList) w) := by
  have HN := Lib.hid (punnum0_walk s (by omega))
  have HSZ := Lib.hid (show s.data.toList.length ≤ 16777216 by rw [← size_eq]; exact hs)
  have hs16 : decide ((16777216 : Int) < (s.size : Int)) = false := decide_eq_false (by omega)
  have ebad : ((-1 : Int) != (s.size : Int)) = true := by rw [bne_iff_ne]; omega
  have ebad2 : ((-1 : Int) == (s.size : Int)) = false := by rw [beq_eq_false_iff_ne]; omega
  rcases hu : unL s.data.toList with _ | ⟨n, m⟩
  · rw [hu] at HN
    rw [whole_none (rList_none hu)]
    clear hu
    go_enter Try.func31, Try.ntmps31
    go_wp2_with (go_at_call 11; refine (HN.out _).mono ?_; unfold rOut; rintro e w2 ⟨rfl, rfl⟩)
    refine wp_loop_rounds 1 ?_
    rw [rounds_succ]
    go_wp2
    go_ret2
    exact ⟨rfl, Below.refl _ _⟩
  · rw [hu] at HN
    have hn := (unL_only hu).2
    have hq0 := (Suf.all s).next num_codec hu
    have HQ0 := Lib.hid hq0
    obtain ⟨o0, ho0⟩ := hq0.at_
    have HO0 := Lib.hid (show s.size - m.length = o0 by omega)
    have HU := Lib.hid hu
    clear hu hq0
    go_enter Try.func31, Try.ntmps31
    go_wp2_with (go_at_call 11; refine (HN.out _).mono ?_; unfold rOut; dsimp only; rw [HO0.out]; rintro e w2 ⟨rfl, rfl⟩)
    go_loopw [5, 6, 7] (fun av ov iv wr => (∃ (k o : Nat) (xs : List Int) (q : List UInt8) (A : Option Addr) (c : Nat), k ≤ n ∧ k + q.length ≤ s.size ∧ o + q.length = s.size ∧ iv = .int .u64 (k : Int) ∧ av = .int .i64 (o : Int) ∧ ov = .slice A k c ∧ Hid (ManyK rInt n m k xs q) ∧ Hid (Suf s q) ∧ Hid (wr.ownsRow w.heap.size 2 1 (.slice A k c) k (xs.flatMap iCells)) ∧ Hid (Below w.heap.size w wr)) ∨ (∃ k : Nat, k ≤ n ∧ iv = .int .u64 (k : Int) ∧ av = .int .i64 (-1) ∧ Hid (rMany rInt n m = none) ∧ Hid (Below w.heap.size w wr))) (fun _ _ iv _ => n - (intOf iv).toNat)
    case atStart => exact .inl ⟨0, o0, [], m, none, 0, Nat.zero_le _, by omega, ho0, rfl, rfl, rfl, Lib.hid ManyK.start, HQ0, Lib.hid (World.ownsRow_nil _ _ _ _), Lib.hid (Below.refl _ _)⟩
    case round =>
      rcases hrel with ⟨k, o, xs, q, A, c, hk, hkq, ho, rfl, rfl, rfl, HM, HQ, HO, HBel⟩ | ⟨k, hk, rfl, rfl, HF, HBel⟩
      · by_cases hlt : k < n
        · have hbs := HBel.out.size
          have HS := Lib.hid hbs
          have hg0 : decide ((0 : Int) ≤ (o : Int)) = true := decide_eq_true (by omega)
          have HW := punint_walk s q o ho HQ.out (by omega)
          rcases hd : rInt q with _ | ⟨x, q2⟩
          · rw [hd] at HW
            have HT := Lib.hid HW
            have HF := Lib.hid (HM.out.bad hlt hd)
            clear HW hd
            go_wp2_with (first | (go_at_call 60; refine (HT.out _).mono ?_; unfold rdOut iVal; rintro e w2 ⟨rfl, rfl⟩) | (at_builtin; go_loud (refine append_item Try.underlying36 info_int rfl (by decide) iCells_length iCells_one rfl _ _ rfl w.heap.size A k c xs rfl _ (0 : Int) HO.out HS.out _ rfl (by first | rfl | simp) (by omega) (by unfold maxLen; omega) [_] rfl ?_); intro A3 n3 c3 w3 hn3 ho3 hb3 hg3; have HO3 := Lib.hid ho3; have HP3 := Lib.hid (HBel.out.trans hb3); clear ho3 hb3 hg3; subst hn3))
            go_roundw
            case rel => exact .inr ⟨k + 1, by omega, by go_num, rfl, HF, HP3⟩
            case measure => simp [intOf]; omega
          · rw [hd] at HW
            have HT := Lib.hid HW
            have HF := Lib.hid (HM.out.next hlt hd)
            have HQ2 := Lib.hid (HQ.out.next int_codec hd)
            have hlq := int_codec.less hd
            obtain ⟨o2, ho2⟩ := HQ2.out.at_
            have HO2 := Lib.hid (show s.size - q2.length = o2 by omega)
            clear HW hd
            go_wp2_with (first | (go_at_call 60; refine (HT.out _).mono ?_; unfold rdOut iVal; dsimp only; rw [HO2.out]; rintro e w2 ⟨rfl, rfl⟩) | (at_builtin; go_loud (refine append_item Try.underlying36 info_int rfl (by decide) iCells_length iCells_one rfl _ _ rfl w.heap.size A k c xs rfl _ x HO.out HS.out _ rfl (by first | rfl | simp) (by omega) (by unfold maxLen; omega) [_] rfl ?_); intro A3 n3 c3 w3 hn3 ho3 hb3 hg3; have HO3 := Lib.hid ho3; have HP3 := Lib.hid (HBel.out.trans hb3); clear ho3 hb3 hg3; subst hn3))
            go_roundw
            case rel => exact .inl ⟨k + 1, o2, _, q2, A3, c3, by omega, by omega, ho2, by go_num, rfl, rfl, HF, HQ2, HO3, HP3⟩
            case measure => simp [intOf]; omega
        · have hkn : k = n := by omega
          subst hkn
          have HD := Lib.hid (HM.out.done (Nat.le_refl _))
          have HL := Lib.hid HM.out.1
          by_cases hql : q.length = 0
          · have HF := Lib.hid (whole_all int_codec HSZ.out HU.out HD.out hql)
            have hos : o = s.size := by omega
            subst hos
            clear ho hkq hql
            go_wp2
            go_ret2
            rw [HF.out]
            refine ⟨A, c, ?_, ?_, HBel.out⟩
            · rw [HL.out]; rfl
            · rw [HL.out]; exact HO.out
          · have HF := Lib.hid (whole_left HU.out HD.out (by omega))
            have e0 : ((o : Int) != (s.size : Int)) = true := by rw [bne_iff_ne]; omega
            have e1 : ((o : Int) == (s.size : Int)) = false := by rw [beq_eq_false_iff_ne]; omega
            clear ho hkq hql
            go_wp2
            go_ret2
            rw [HF.out]
            exact ⟨rfl, HBel.out⟩
      · have HF2 := Lib.hid (whole_bad HU.out HF.out)
        by_cases hlt : k < n
        · go_wp2
          go_ret2
          rw [HF2.out]
          exact ⟨rfl, HBel.out⟩
        · go_wp2
          go_ret2
          rw [HF2.out]
          exact ⟨rfl, HBel.out⟩

set_option maxRecDepth 4000 in
set_option maxHeartbeats 4000000 in
theorem punpairs_walk (s : ByteArray) (hs : s.size ≤ 16777216) (w : World) :
    Calls Try.prog 30 #[.string s] w (RWhole 70 2 pCells (whole rPair s.data.toList) w) := by
  have HN := Lib.hid (punnum0_walk s (by omega))
  have HSZ := Lib.hid (show s.data.toList.length ≤ 16777216 by rw [← size_eq]; exact hs)
  have hs16 : decide ((16777216 : Int) < (s.size : Int)) = false := decide_eq_false (by omega)
  have ebad : ((-1 : Int) != (s.size : Int)) = true := by rw [bne_iff_ne]; omega
  have ebad2 : ((-1 : Int) == (s.size : Int)) = false := by rw [beq_eq_false_iff_ne]; omega
  rcases hu : unL s.data.toList with _ | ⟨n, m⟩
  · rw [hu] at HN
    rw [whole_none (rList_none hu)]
    clear hu
    go_enter Try.func30, Try.ntmps30
    go_wp2_with (go_at_call 11; refine (HN.out _).mono ?_; unfold rOut; rintro e w2 ⟨rfl, rfl⟩)
    refine wp_loop_rounds 1 ?_
    rw [rounds_succ]
    go_wp2
    go_ret2
    exact ⟨rfl, Below.refl _ _⟩
  · rw [hu] at HN
    have hn := (unL_only hu).2
    have hq0 := (Suf.all s).next num_codec hu
    have HQ0 := Lib.hid hq0
    obtain ⟨o0, ho0⟩ := hq0.at_
    have HO0 := Lib.hid (show s.size - m.length = o0 by omega)
    have HU := Lib.hid hu
    clear hu hq0
    go_enter Try.func30, Try.ntmps30
    go_wp2_with (go_at_call 11; refine (HN.out _).mono ?_; unfold rOut; dsimp only; rw [HO0.out]; rintro e w2 ⟨rfl, rfl⟩)
    go_loopw [5, 6, 7] (fun av ov iv wr => (∃ (k o : Nat) (xs : List Pa) (q : List UInt8) (A : Option Addr) (c : Nat), k ≤ n ∧ k + q.length ≤ s.size ∧ o + q.length = s.size ∧ iv = .int .u64 (k : Int) ∧ av = .int .i64 (o : Int) ∧ ov = .slice A k c ∧ Hid (ManyK rPair n m k xs q) ∧ Hid (Suf s q) ∧ Hid (wr.ownsRow w.heap.size 70 2 (.slice A k c) k (xs.flatMap pCells)) ∧ Hid (Below w.heap.size w wr)) ∨ (∃ k : Nat, k ≤ n ∧ iv = .int .u64 (k : Int) ∧ av = .int .i64 (-1) ∧ Hid (rMany rPair n m = none) ∧ Hid (Below w.heap.size w wr))) (fun _ _ iv _ => n - (intOf iv).toNat)
    case atStart => exact .inl ⟨0, o0, [], m, none, 0, Nat.zero_le _, by omega, ho0, rfl, rfl, rfl, Lib.hid ManyK.start, HQ0, Lib.hid (World.ownsRow_nil _ _ _ _), Lib.hid (Below.refl _ _)⟩
    case round =>
      rcases hrel with ⟨k, o, xs, q, A, c, hk, hkq, ho, rfl, rfl, rfl, HM, HQ, HO, HBel⟩ | ⟨k, hk, rfl, rfl, HF, HBel⟩
      · by_cases hlt : k < n
        · have hbs := HBel.out.size
          have HS := Lib.hid hbs
          have hg0 : decide ((0 : Int) ≤ (o : Int)) = true := decide_eq_true (by omega)
          have HW := punword_walk s q o ho HQ.out (by omega)
          rcases hd : rWord q with _ | ⟨x, q1⟩
          · rw [hd] at HW
            have HT := Lib.hid HW
            have HF := Lib.hid (HM.out.bad hlt (show rPair q = none by unfold rPair; rw [hd]))
            clear HW hd
            go_wp2_with (first | (have HSEC := HFIRST; go_at_call 59; refine (punword_none s _).mono ?_; rintro e w2 ⟨rfl, rfl⟩) | (go_at_call 59; refine (HT.out _).mono ?_; unfold rdOut sVal; rintro e w2 ⟨rfl, rfl⟩; have HFIRST := True.intro) | (at_builtin; go_loud (refine append_item Try.underlying35 info_pair rfl (by decide) pCells_length pCells_one rfl _ _ rfl w.heap.size A k c xs rfl _ (⟨⟨#[]⟩, ⟨#[]⟩⟩ : Pa) (HO.out.alloc _) (Nat.le_trans HS.out (by simp)) _ rfl (by first | rfl | simp) (by omega) (by unfold maxLen; omega) [_, _] rfl ?_); intro A3 n3 c3 w3 hn3 ho3 hb3 hg3; have HO3 := Lib.hid ho3; have HP3 := Lib.hid ((HBel.out.alloc HS.out _).trans hb3); clear ho3 hb3 hg3; subst hn3))
            go_roundw
            case rel => exact .inr ⟨k + 1, by omega, by go_num, rfl, HF, HP3⟩
            case measure => simp [intOf]; omega
          · rw [hd] at HW
            have HQ1 := HQ.out.next word_codec hd
            obtain ⟨o1, ho1⟩ := HQ1.at_
            have HO1 := Lib.hid (show s.size - q1.length = o1 by omega)
            have HW1 := punword_walk s q1 o1 ho1 HQ1 (by omega)
            have HT := Lib.hid HW
            rcases hd1 : rWord q1 with _ | ⟨y, q2⟩
            · rw [hd1] at HW1
              have HT1 := Lib.hid HW1
              have HF := Lib.hid (HM.out.bad hlt (show rPair q = none by unfold rPair; rw [hd]; dsimp only; rw [hd1]; rfl))
              clear HW HW1 hd hd1 ho1 HQ1
              go_wp2_with (first | (have HSEC := HFIRST; go_at_call 59; refine (HT1.out _).mono ?_; unfold rdOut sVal; rintro e w2 ⟨rfl, rfl⟩) | (go_at_call 59; refine (HT.out _).mono ?_; unfold rdOut sVal; dsimp only; rw [HO1.out]; rintro e w2 ⟨rfl, rfl⟩; have HFIRST := True.intro) | (at_builtin; go_loud (refine append_item Try.underlying35 info_pair rfl (by decide) pCells_length pCells_one rfl _ _ rfl w.heap.size A k c xs rfl _ (⟨x, ⟨#[]⟩⟩ : Pa) (HO.out.alloc _) (Nat.le_trans HS.out (by simp)) _ rfl (by first | rfl | simp) (by omega) (by unfold maxLen; omega) [_, _] rfl ?_); intro A3 n3 c3 w3 hn3 ho3 hb3 hg3; have HO3 := Lib.hid ho3; have HP3 := Lib.hid ((HBel.out.alloc HS.out _).trans hb3); clear ho3 hb3 hg3; subst hn3))
              go_roundw
              case rel => exact .inr ⟨k + 1, by omega, by go_num, rfl, HF, HP3⟩
              case measure => simp [intOf]; omega
            · rw [hd1] at HW1
              have HT1 := Lib.hid HW1
              have hd2 : rPair q = some (⟨x, y⟩, q2) := by unfold rPair; rw [hd]; dsimp only; rw [hd1]; rfl
              have HF := Lib.hid (HM.out.next hlt hd2)
              have HQ2 := Lib.hid (HQ.out.next pair_codec hd2)
              have hlq := pair_codec.less hd2
              obtain ⟨o2, ho2⟩ := HQ2.out.at_
              have HO2 := Lib.hid (show s.size - q2.length = o2 by omega)
              clear HW HW1 hd hd1 ho1 HQ1 hd2
              go_wp2_with (first | (have HSEC := HFIRST; go_at_call 59; refine (HT1.out _).mono ?_; unfold rdOut sVal; dsimp only; rw [HO2.out]; rintro e w2 ⟨rfl, rfl⟩) | (go_at_call 59; refine (HT.out _).mono ?_; unfold rdOut sVal; dsimp only; rw [HO1.out]; rintro e w2 ⟨rfl, rfl⟩; have HFIRST := True.intro) | (at_builtin; go_loud (refine append_item Try.underlying35 info_pair rfl (by decide) pCells_length pCells_one rfl _ _ rfl w.heap.size A k c xs rfl _ (⟨x, y⟩ : Pa) (HO.out.alloc _) (Nat.le_trans HS.out (by simp)) _ rfl (by first | rfl | simp) (by omega) (by unfold maxLen; omega) [_, _] rfl ?_); intro A3 n3 c3 w3 hn3 ho3 hb3 hg3; have HO3 := Lib.hid ho3; have HP3 := Lib.hid ((HBel.out.alloc HS.out _).trans hb3); clear ho3 hb3 hg3; subst hn3))
              go_roundw
              case rel => exact .inl ⟨k + 1, o2, _, q2, A3, c3, by omega, by omega, ho2, by go_num, rfl, rfl, HF, HQ2, HO3, HP3⟩
              case measure => simp [intOf]; omega
        · have hkn : k = n := by omega
          subst hkn
          have HD := Lib.hid (HM.out.done (Nat.le_refl _))
          have HL := Lib.hid HM.out.1
          by_cases hql : q.length = 0
          · have HF := Lib.hid (whole_all pair_codec HSZ.out HU.out HD.out hql)
            have hos : o = s.size := by omega
            subst hos
            clear ho hkq hql
            go_wp2
            go_ret2
            rw [HF.out]
            refine ⟨A, c, ?_, ?_, HBel.out⟩
            · rw [HL.out]; rfl
            · rw [HL.out]; exact HO.out
          · have HF := Lib.hid (whole_left HU.out HD.out (by omega))
            have e0 : ((o : Int) != (s.size : Int)) = true := by rw [bne_iff_ne]; omega
            have e1 : ((o : Int) == (s.size : Int)) = false := by rw [beq_eq_false_iff_ne]; omega
            clear ho hkq hql
            go_wp2
            go_ret2
            rw [HF.out]
            exact ⟨rfl, HBel.out⟩
      · have HF2 := Lib.hid (whole_bad HU.out HF.out)
        by_cases hlt : k < n
        · go_wp2
          go_ret2
          rw [HF2.out]
          exact ⟨rfl, HBel.out⟩
        · go_wp2
          go_ret2
          rw [HF2.out]
          exact ⟨rfl, HBel.out⟩

set_option maxRecDepth 4000 in
set_option maxHeartbeats 4000000 in
theorem puncols_walk (s : ByteArray) (hs : s.size ≤ 16777216) (w : World) :
    Calls Try.prog 29 #[.string s] w (RWhole 39 2 cCells (whole rCol s.data.toList) w) := by
  have HN := Lib.hid (punnum0_walk s (by omega))
  have HSZ := Lib.hid (show s.data.toList.length ≤ 16777216 by rw [← size_eq]; exact hs)
  have hs16 : decide ((16777216 : Int) < (s.size : Int)) = false := decide_eq_false (by omega)
  have ebad : ((-1 : Int) != (s.size : Int)) = true := by rw [bne_iff_ne]; omega
  have ebad2 : ((-1 : Int) == (s.size : Int)) = false := by rw [beq_eq_false_iff_ne]; omega
  rcases hu : unL s.data.toList with _ | ⟨n, m⟩
  · rw [hu] at HN
    rw [whole_none (rList_none hu)]
    clear hu
    go_enter Try.func29, Try.ntmps29
    go_wp2_with (go_at_call 11; refine (HN.out _).mono ?_; unfold rOut; rintro e w2 ⟨rfl, rfl⟩)
    refine wp_loop_rounds 1 ?_
    rw [rounds_succ]
    go_wp2
    go_ret2
    exact ⟨rfl, Below.refl _ _⟩
  · rw [hu] at HN
    have hn := (unL_only hu).2
    have hq0 := (Suf.all s).next num_codec hu
    have HQ0 := Lib.hid hq0
    obtain ⟨o0, ho0⟩ := hq0.at_
    have HO0 := Lib.hid (show s.size - m.length = o0 by omega)
    have HU := Lib.hid hu
    clear hu hq0
    go_enter Try.func29, Try.ntmps29
    go_wp2_with (go_at_call 11; refine (HN.out _).mono ?_; unfold rOut; dsimp only; rw [HO0.out]; rintro e w2 ⟨rfl, rfl⟩)
    go_loopw [5, 6, 7] (fun av ov iv wr => (∃ (k o : Nat) (xs : List Co) (q : List UInt8) (A : Option Addr) (c : Nat), k ≤ n ∧ k + q.length ≤ s.size ∧ o + q.length = s.size ∧ iv = .int .u64 (k : Int) ∧ av = .int .i64 (o : Int) ∧ ov = .slice A k c ∧ Hid (ManyK rCol n m k xs q) ∧ Hid (Suf s q) ∧ Hid (wr.ownsRow w.heap.size 39 2 (.slice A k c) k (xs.flatMap cCells)) ∧ Hid (Below w.heap.size w wr)) ∨ (∃ k : Nat, k ≤ n ∧ iv = .int .u64 (k : Int) ∧ av = .int .i64 (-1) ∧ Hid (rMany rCol n m = none) ∧ Hid (Below w.heap.size w wr))) (fun _ _ iv _ => n - (intOf iv).toNat)
    case atStart => exact .inl ⟨0, o0, [], m, none, 0, Nat.zero_le _, by omega, ho0, rfl, rfl, rfl, Lib.hid ManyK.start, HQ0, Lib.hid (World.ownsRow_nil _ _ _ _), Lib.hid (Below.refl _ _)⟩
    case round =>
      rcases hrel with ⟨k, o, xs, q, A, c, hk, hkq, ho, rfl, rfl, rfl, HM, HQ, HO, HBel⟩ | ⟨k, hk, rfl, rfl, HF, HBel⟩
      · by_cases hlt : k < n
        · have hbs := HBel.out.size
          have HS := Lib.hid hbs
          have hg0 : decide ((0 : Int) ≤ (o : Int)) = true := decide_eq_true (by omega)
          have HW := punword_walk s q o ho HQ.out (by omega)
          rcases hd : rWord q with _ | ⟨x, q1⟩
          · rw [hd] at HW
            have HT := Lib.hid HW
            have HF := Lib.hid (whole_bad HU.out (HM.out.bad hlt (show rCol q = none by unfold rCol; rw [hd])))
            clear HW hd
            go_wp2_with (go_at_call 59; refine (HT.out _).mono ?_; unfold rdOut sVal; rintro e w2 ⟨rfl, rfl⟩)
            go_ret2
            rw [HF.out]
            exact ⟨rfl, HBel.out.alloc HS.out _⟩
          · rw [hd] at HW
            have HQ1 := HQ.out.next word_codec hd
            obtain ⟨o1, ho1⟩ := HQ1.at_
            have HO1 := Lib.hid (show s.size - q1.length = o1 by omega)
            have HT := Lib.hid HW
            have g0 : ¬ (o1 : Int) < 0 := by omega
            match q1 with
            | [] =>
              have HF := Lib.hid (whole_bad HU.out (HM.out.bad hlt (show rCol q = none by unfold rCol; rw [hd])))
              have g1 : (s.size : Int) ≤ (o1 : Int) := by simp at ho1; omega
              clear HW hd ho1 HQ1
              go_wp2_with (go_at_call 59; refine (HT.out _).mono ?_; unfold rdOut sVal; dsimp only; rw [HO1.out]; rintro e w2 ⟨rfl, rfl⟩)
              go_ret2
              rw [HF.out]
              exact ⟨rfl, HBel.out.alloc HS.out _⟩
            | y :: q2 =>
              have hlt1 : o1 < s.size := by simp at ho1; omega
              have hidx := HQ1.get ho1 hlt1
              have ho2 : o1 + 1 + q2.length = s.size := by simp at ho1; omega
              have hd2 : rCol q = some (⟨x, (y.toNat : Int)⟩, q2) := by unfold rCol; rw [hd]
              have HF := Lib.hid (HM.out.next hlt hd2)
              have HQ2 := Lib.hid (HQ.out.next col_codec hd2)
              have hlq := col_codec.less hd2
              have hy8 : y.toNat < 256 := y.toNat_lt
              clear HW hd ho1 HQ1 hd2
              go_wp2_with (first | (go_at_call 59; refine (HT.out _).mono ?_; unfold rdOut sVal; dsimp only; rw [HO1.out]; rintro e w2 ⟨rfl, rfl⟩) | (at_builtin; go_loud (refine append_item Try.underlying34 info_col rfl (by decide) cCells_length cCells_one rfl _ _ rfl w.heap.size A k c xs rfl _ (⟨x, (y.toNat : Int)⟩ : Co) (HO.out.alloc _) (Nat.le_trans HS.out (by simp)) _ rfl (by first | rfl | simp) (by omega) (by unfold maxLen; omega) [_, _] rfl ?_); intro A3 n3 c3 w3 hn3 ho3 hb3 hg3; have HO3 := Lib.hid ho3; have HP3 := Lib.hid ((HBel.out.alloc HS.out _).trans hb3); clear ho3 hb3 hg3; subst hn3))
              go_roundw
              case rel => exact .inl ⟨k + 1, o1 + 1, _, q2, A3, c3, by omega, by omega, ho2, by go_num, by go_num, rfl, HF, HQ2, HO3, HP3⟩
              case measure => simp [intOf]; omega
        · have hkn : k = n := by omega
          subst hkn
          have HD := Lib.hid (HM.out.done (Nat.le_refl _))
          have HL := Lib.hid HM.out.1
          by_cases hql : q.length = 0
          · have HF := Lib.hid (whole_all col_codec HSZ.out HU.out HD.out hql)
            have hos : o = s.size := by omega
            subst hos
            clear ho hkq hql
            go_wp2
            go_ret2
            rw [HF.out]
            refine ⟨A, c, ?_, ?_, HBel.out⟩
            · rw [HL.out]; rfl
            · rw [HL.out]; exact HO.out
          · have HF := Lib.hid (whole_left HU.out HD.out (by omega))
            have e0 : ((o : Int) != (s.size : Int)) = true := by rw [bne_iff_ne]; omega
            have e1 : ((o : Int) == (s.size : Int)) = false := by rw [beq_eq_false_iff_ne]; omega
            clear ho hkq hql
            go_wp2
            go_ret2
            rw [HF.out]
            exact ⟨rfl, HBel.out⟩
      · have HF2 := Lib.hid (whole_bad HU.out HF.out)
        by_cases hlt : k < n
        · go_wp2
          go_ret2
          rw [HF2.out]
          exact ⟨rfl, HBel.out⟩
        · go_wp2
          go_ret2
          rw [HF2.out]
          exact ⟨rfl, HBel.out⟩
end Go.Proofs.Ytkpajmgbiepmbaa
