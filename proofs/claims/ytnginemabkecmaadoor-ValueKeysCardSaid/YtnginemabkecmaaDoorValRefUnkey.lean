/- The walk of the document's own reading of a key. -/
import Derived.Test.YtnginemabkecmaaDoorValUnkey
namespace Go.Proofs.YtnginemabkecmaaDoor
open Go.ChangeShapes Go.WideShapes Go.ChangeAt Go.RowKit
open Go.Lib (byteCells byteCells_length byteCells_append strCells)
set_option linter.unusedVariables false

def RUnkeyPost (o : Option (List V)) (w : World) (e : Ending) (w' : World) : Prop :=
  match o with
  | none => e = .returned (.tuple #[.slice none 0 0, .bool false]) ∧ Below w.heap.size w w'
  | some l => ∃ A c, e = .returned (.tuple #[.slice A l.length c, .bool true]) ∧ w'.ownsRow w.heap.size 23 3 (.slice A l.length c) l.length (cellsOf l) ∧ Below w.heap.size w w'

/-- Up to at, the row l has been read; it is right. -/
def RPure (s0 : List UInt8) (l : List V) (at_ n : Nat) : Prop :=
  n = l.length ∧ rowB l = true ∧ (∀ v ∈ l, v.wf) ∧ unkeyG 12 s0 = (unkeyG (12 - n) (s0.drop at_)).map (l ++ ·)
theorem rowB_split {l : List V} (h : rowB l = true) : l.length ≤ 12 ∧ allB l = true := by
  unfold rowB at h
  simp only [Bool.and_eq_true, decide_eq_true_eq] at h
  exact h
theorem RPure.step {s0 : List UInt8} {l : List V} {a n a2 : Nat} {v : V} (h : RPure s0 l a n) (hf : firstL (s0.drop a) = some (v, s0.drop a2)) :
    (rowB (l ++ [v]) = true → RPure s0 (l ++ [v]) a2 (n + 1)) ∧ (rowB (l ++ [v]) = false → unkeyG 12 s0 = none) := by
  obtain ⟨h1, h2, h3, h4⟩ := h
  obtain ⟨hc, hw, hs⟩ := key_first hf
  obtain ⟨q1, q2⟩ := rowB_split h2
  have hne : s0.drop a ≠ [] := by
    intro e
    rw [e] at hf
    simp [firstL] at hf
  have hall : allB (l ++ [v]) = true := by
    unfold allB at q2 ⊢
    rw [List.all_append, q2]
    simp [hc]
  constructor
  · intro hr
    have hl := (rowB_split hr).1
    simp at hl
    refine ⟨by simp [h1], hr, fun u hu => (List.mem_append.1 hu).elim (h3 u) (fun e => by simp at e; rw [e]; exact hw), ?_⟩
    rw [h4, show 12 - n = (12 - (n + 1)) + 1 by omega, unkeyG_step hf]
    cases unkeyG (12 - (n + 1)) (s0.drop a2) <;> simp
  · intro hr
    have hl : ¬ (l ++ [v]).length ≤ 12 := by
      intro hle
      rw [rowB_all hle hall] at hr
      cases hr
    simp at hl
    rw [h4, show 12 - n = 0 by omega, unkeyG_zero hne]
    rfl
theorem RPure.wrong {s0 : List UInt8} {l : List V} {a n : Nat} (h : RPure s0 l a n) (hne : s0.drop a ≠ []) (hf : firstL (s0.drop a) = none) : unkeyG 12 s0 = none := by
  rw [h.2.2.2, unkeyG_bad hne hf]
  rfl
theorem RPure.bad {s0 : List UInt8} {l : List V} {a n a2 : Nat} {v : V} (h : RPure s0 l a n) (hne : s0.drop a ≠ []) (hf : firstL (s0.drop a) = none) (hc : chk v ≠ 0) :
    (rowB (l ++ [v]) = true → RPure s0 (l ++ [v]) a2 (n + 1)) ∧ (rowB (l ++ [v]) = false → unkeyG 12 s0 = none) :=
  ⟨fun hr => (by rw [rowB_bad (v := v) (by simp) hc] at hr; exact absurd hr (by decide)), fun _ => h.wrong hne hf⟩
theorem own_keep {B : Nat} {w w' : World} {base : Nat} {A : Option Addr} {n c : Nat} {l : List V} (h : w.ownsRow base 23 3 (.slice A n c) n (cellsOf l)) (hk : Keep B w w') : w'.ownsRow base 23 3 (.slice A n c) n (cellsOf l) := by
  refine ⟨h.1, ?_⟩
  rcases h.2 with ⟨hv, h0⟩ | ⟨g, cap, cur, hv, hg, hh, rest⟩
  · exact .inl ⟨hv, h0⟩
  · exact .inr ⟨g, cap, cur, hv, hg, hk.block _ _ hh (fun _ _ e => by injection e with _ e2; exact absurd e2 (by decide)), rest⟩

theorem tl_drop (s : ByteArray) (p i q : Nat) (hq : q = p + 1 + i) (h : q < s.size) : (s.data.toList.drop (p + 1)).drop i = s[q] :: (s.data.toList.drop (p + 1)).drop (i + 1) := by
  subst hq
  rw [List.drop_drop, List.drop_drop]
  exact drop_one s (p + 1 + i) h
theorem own_set {w : World} {base g i : Nat} {u : Value} {A : Option Addr} {n c : Nat} {l : List V} (h : w.ownsRow base 23 3 (.slice A n c) n (cellsOf l)) (hg : ∀ k, (Value.slice A n c).ownBlock = some k → k ≠ g) :
    (w.setCell ⟨g, i, none⟩ u).ownsRow base 23 3 (.slice A n c) n (cellsOf l) := by
  refine ⟨h.1, ?_⟩
  rcases h.2 with ⟨hv, h0⟩ | ⟨g2, cap, cur, hv, hg2, hh, rest⟩
  · exact .inl ⟨hv, h0⟩
  · exact .inr ⟨g2, cap, cur, hv, hg2, (Below.heap_setCell w _ u g2 (hg g2 (by rw [hv]; rfl))).trans hh, rest⟩
theorem tl_at (s : ByteArray) (p j q : Nat) (hq : q = p + 1 + j) (h : q < s.size) : (s.data.toList.drop (p + 1))[j]? = some s[q] := by
  subst hq
  have h2 : p + 1 + j < s.data.toList.length := by rw [← size_eq]; exact h
  rw [List.getElem?_drop, List.getElem?_eq_getElem h2]
  rfl

set_option maxHeartbeats 8000000 in
set_option maxRecDepth 100000 in
theorem runkey_any (s : ByteArray) (hs : s.size ≤ 4000) (w : World) :
    Calls Tryd.prog 26 #[.string s] w (RUnkeyPost (unkeyG 12 s.data.toList) w) := by
  obtain ⟨R, hR⟩ : ∃ R, unkeyG 12 s.data.toList = R := ⟨_, rfl⟩
  rw [hR]
  have HR := Lib.hid hR
  clear hR
  go_enter Tryd.func26, Tryd.ntmps26
  go_wp2
  go_loopw [5, 4] (fun av lv wr => ∃ (p : Nat) (l : List V) (A : Option Addr) (n c : Nat), p ≤ s.size ∧ n ≤ 12 ∧ av = .int .i64 (p : Int) ∧ lv = .slice A n c ∧ Below w.heap.size w wr ∧ Hid (RPure s.data.toList l p n ∧ wr.ownsRow w.heap.size 23 3 (.slice A n c) n (cellsOf l))) (fun av _ _ => s.size - (intOf av).toNat)
  case atStart =>
    refine ⟨0, [], none, 0, 0, Nat.zero_le _, by omega, rfl, rfl, Below.refl _ _, Lib.hid ⟨⟨rfl, by decide, by simp, ?_⟩, World.ownsRow_nil _ _ _ _⟩⟩
    simp
  case round =>
    obtain ⟨p, l, A, n, c, hp, hn, rfl, rfl, hbel, HS⟩ := hrel
    have hbs := hbel.size
    have HP := Lib.hid HS.out.1
    have HN := Lib.hid HS.out.1.1
    have HO := Lib.hid HS.out.2
    clear HS
    by_cases hlt : p < s.size
    · have HD := Lib.hid (drop_one s p hlt)
      have hne : Hid (s.data.toList.drop p ≠ []) := Lib.hid (by rw [HD.out]; simp)
      have hb : s[p].toNat < 256 := s[p].toNat_lt
      have HBA := Lib.hid (hbel.alloc hbs (.cells #[.int .i64 0, .int .i64 0, .string mt] 23))
      by_cases k1 : s[p] = 1
      · have e1 : (s[p].toNat : Int) = 1 := by rw [k1]; rfl
        have HT := Lib.hid (HP.out.step (v := ⟨0, 0, mt⟩) (a2 := p + 1) (by rw [HD.out, k1, firstL_cons, if_pos rfl]))
        have HWV := Lib.hid (show V.wf ⟨0, 0, mt⟩ by simp [V.wf, in64, mt_size])
        clear k1 hb
        have HWL2 := Lib.hid (show ∀ u ∈ l ++ [⟨0, 0, mt⟩], u.wf from fun u hu => (List.mem_append.1 hu).elim (HP.out.2.2.1 u) (fun h => by simp at h; rw [h]; exact HWV.out))
        rcases hrow : rowB (l ++ [⟨0, 0, mt⟩]) with _ | _
        · have HROW := Lib.hid hrow
          have HRN := Lib.hid (show R = none by rw [← HR.out]; exact HT.out.2 hrow)
          clear hrow
          go_wp2_with (first | (at_builtin; go_loud (refine append_val rfl _ _ rfl w.heap.size A n c l rfl _ ⟨0, 0, mt⟩ (HO.out.alloc _) (hbel.alloc hbs _).size _ rfl (by simp) (by omega) [_, _, _] rfl ?_); intro A3 n3 c3 w3 hn3 ho3 hb3; have HO3 := Lib.hid ho3; have HB3 := Lib.hid ((hbel.alloc hbs _).trans hb3); clear ho3 hb3; subst hn3) | (go_at_call 14; refine (rrow_any (l ++ [⟨0, 0, mt⟩]) HWL2.out (n + 1) c3 A3 _ (by rw [HN.out]; simp) (by unfold maxLen; omega) (row3_of_own HO3.out).2).mono ?_; rw [HROW.out]; rintro e w4 ⟨rfl, hb4⟩; have HB4 := Lib.hid (HB3.out.trans (hb4.mono HB3.out.size)); have HO4 := Lib.hid (own_below HO3.out hb4); clear hb4))
          go_ret2
          rw [HRN.out]
          exact ⟨rfl, HB4.out⟩
        · have HROW := Lib.hid hrow
          have HP2 := Lib.hid (HT.out.1 hrow)
          have hn12 : n + 1 ≤ 12 := by have h1 := HP2.out.1; have h2 := (rowB_split hrow).1; omega
          clear hrow
          go_wp2_with (first | (at_builtin; go_loud (refine append_val rfl _ _ rfl w.heap.size A n c l rfl _ ⟨0, 0, mt⟩ (HO.out.alloc _) (hbel.alloc hbs _).size _ rfl (by simp) (by omega) [_, _, _] rfl ?_); intro A3 n3 c3 w3 hn3 ho3 hb3; have HO3 := Lib.hid ho3; have HB3 := Lib.hid ((hbel.alloc hbs _).trans hb3); clear ho3 hb3; subst hn3) | (go_at_call 14; refine (rrow_any (l ++ [⟨0, 0, mt⟩]) HWL2.out (n + 1) c3 A3 _ (by rw [HN.out]; simp) (by unfold maxLen; omega) (row3_of_own HO3.out).2).mono ?_; rw [HROW.out]; rintro e w4 ⟨rfl, hb4⟩; have HB4 := Lib.hid (HB3.out.trans (hb4.mono HB3.out.size)); have HO4 := Lib.hid (own_below HO3.out hb4); clear hb4))
          go_roundw
          case rel => exact ⟨p + 1, l ++ [⟨0, 0, mt⟩], A3, n + 1, c3, by omega, hn12, by go_num, rfl, HB4.out, Lib.hid ⟨HP2.out, HO4.out⟩⟩
          case measure => simp [intOf]; omega
      · by_cases k2 : s[p] = 2
        · have e1 : (s[p].toNat : Int) = 2 := by rw [k2]; rfl
          obtain ⟨tl, htl⟩ : ∃ tl, s.data.toList.drop (p + 1) = tl := ⟨_, rfl⟩
          have HTL := Lib.hid htl
          have htlen : tl.length = s.size - (p + 1) := by rw [← htl, List.length_drop, ← size_eq]
          have hf : firstL (s.data.toList.drop p) = if tl.length < 8 then none else some (⟨1, (num (tl.take 8) : Int) - 9223372036854775808, mt⟩, tl.drop 8) := by
            rw [HD.out, k2, htl, firstL_cons, if_neg (by decide), if_pos rfl]
          by_cases h9 : p + 9 ≤ s.size
          · obtain ⟨m, hm⟩ : ∃ m, num (tl.take 8) = m := ⟨_, rfl⟩
            have hmlt : m < 18446744073709551616 := by
              have h1 := num_lt (tl.take 8)
              have h2 : (tl.take 8).length = 8 := by rw [List.length_take]; omega
              rw [h2, hm] at h1
              exact h1
            obtain ⟨x, hx⟩ : ∃ x, (m : Int) - 9223372036854775808 = x := ⟨_, rfl⟩
            have HT := Lib.hid (HP.out.step (v := ⟨1, x, mt⟩) (a2 := p + 9) (by rw [hf, if_neg (by omega), hm, hx, ← htl, List.drop_drop]))
            have HWV := Lib.hid (show V.wf ⟨1, x, mt⟩ by simp only [V.wf, in64, mt_size]; omega)
            have HX2 := Lib.hid (show IntKind.i64.wrap (IntKind.u64.wrap ((m : Int) - 9223372036854775808)) = x by rw [IntKind.wrap_u64, IntKind.wrap_i64]; omega)
            have HM := Lib.hid hm
            clear hx hm hmlt hf htl k1 k2 hb
            go_wp2
            go_loop [5, 7, 8] (fun av nv kv => ∃ (q j : Nat), j ≤ 8 ∧ Hid (q = p + 1 + j) ∧ q ≤ s.size ∧ av = .int .i64 (q : Int) ∧ nv = .int .u64 (num (tl.take j) : Nat) ∧ kv = .int .i64 (j : Int)) (fun _ _ kv => 8 - (intOf kv).toNat)
            case atStart => exact ⟨p + 1, 0, by omega, Lib.hid rfl, by omega, by go_num, rfl, rfl⟩
            case round =>
              obtain ⟨q, j, hj, HQ, hq, rfl, rfl, rfl⟩ := hrel
              by_cases hj8 : j < 8
              · have hqs : q < s.size := by have := HQ.out; omega
                have HTA := Lib.hid (tl_at s p j q HQ.out hqs)
                have HS2 := Lib.hid (show num (tl.take (j + 1)) = num (tl.take j) * 256 + s[q].toNat by
                  rw [List.take_add_one, ← HTL.out, HTA.out]
                  exact num_snoc _ _)
                have hn7 : num (tl.take j) < 72057594037927936 := by
                  have h1 := num_lt (tl.take j)
                  have h2 : (tl.take j).length ≤ 7 := by rw [List.length_take]; omega
                  have h3 : 256 ^ (tl.take j).length ≤ 256 ^ 7 := Nat.pow_le_pow_right (by omega) h2
                  omega
                have hqb : s[q].toNat < 256 := s[q].toNat_lt
                obtain ⟨y, hy⟩ : ∃ y, num (tl.take j) = y := ⟨_, rfl⟩
                rw [hy] at hn7 HS2 ⊢
                clear hy
                go_wp2
                go_round
                case rel => exact ⟨q + 1, j + 1, by omega, Lib.hid (by rw [HQ.out]; omega), by omega, by go_num, by rw [HS2.out]; first | rfl | go_num | simp, by go_num⟩
                case measure => simp [intOf]; omega
              · obtain rfl : j = 8 := by omega
                obtain rfl : q = p + 9 := by have := HQ.out; omega
                rw [HM.out]
                have ht := HX2.out
                have HWL2 := Lib.hid (show ∀ u ∈ l ++ [⟨1, x, mt⟩], u.wf from fun u hu => (List.mem_append.1 hu).elim (HP.out.2.2.1 u) (fun h => by simp at h; rw [h]; exact HWV.out))
                rcases hrow : rowB (l ++ [⟨1, x, mt⟩]) with _ | _
                · have HROW := Lib.hid hrow
                  have HRN := Lib.hid (show R = none by rw [← HR.out]; exact HT.out.2 hrow)
                  clear hrow
                  go_wp2_with (first | (at_builtin; go_loud (refine append_val rfl _ _ rfl w.heap.size A n c l rfl _ ⟨1, x, mt⟩ (HO.out.alloc _) (hbel.alloc hbs _).size _ rfl (by simp) (by omega) [_, _, _] rfl ?_); intro A3 n3 c3 w3 hn3 ho3 hb3; have HO3 := Lib.hid ho3; have HB3 := Lib.hid ((hbel.alloc hbs _).trans hb3); clear ho3 hb3; subst hn3) | (go_at_call 14; refine (rrow_any (l ++ [⟨1, x, mt⟩]) HWL2.out (n + 1) c3 A3 _ (by rw [HN.out]; simp) (by unfold maxLen; omega) (row3_of_own HO3.out).2).mono ?_; rw [HROW.out]; rintro e w4 ⟨rfl, hb4⟩; have HB4 := Lib.hid (HB3.out.trans (hb4.mono HB3.out.size)); have HO4 := Lib.hid (own_below HO3.out hb4); clear hb4))
                  go_ret2
                  rw [HRN.out]
                  exact ⟨rfl, HB4.out⟩
                · have HROW := Lib.hid hrow
                  have HP2 := Lib.hid (HT.out.1 hrow)
                  have hn12 : n + 1 ≤ 12 := by have h1 := HP2.out.1; have h2 := (rowB_split hrow).1; omega
                  clear hrow
                  go_wp2_with (first | (at_builtin; go_loud (refine append_val rfl _ _ rfl w.heap.size A n c l rfl _ ⟨1, x, mt⟩ (HO.out.alloc _) (hbel.alloc hbs _).size _ rfl (by simp) (by omega) [_, _, _] rfl ?_); intro A3 n3 c3 w3 hn3 ho3 hb3; have HO3 := Lib.hid ho3; have HB3 := Lib.hid ((hbel.alloc hbs _).trans hb3); clear ho3 hb3; subst hn3) | (go_at_call 14; refine (rrow_any (l ++ [⟨1, x, mt⟩]) HWL2.out (n + 1) c3 A3 _ (by rw [HN.out]; simp) (by unfold maxLen; omega) (row3_of_own HO3.out).2).mono ?_; rw [HROW.out]; rintro e w4 ⟨rfl, hb4⟩; have HB4 := Lib.hid (HB3.out.trans (hb4.mono HB3.out.size)); have HO4 := Lib.hid (own_below HO3.out hb4); clear hb4))
                  go_roundw
                  case rel => exact ⟨p + 9, l ++ [⟨1, x, mt⟩], A3, n + 1, c3, by omega, hn12, by go_num, rfl, HB4.out, Lib.hid ⟨HP2.out, HO4.out⟩⟩
                  case measure => simp [intOf]; omega
          · have hRn : R = none := by rw [← HR.out]; exact HP.out.wrong hne.out (by rw [hf, if_pos (by omega)])
            rw [hRn]
            clear hRn hf htl k1 k2 hb
            go_wp2
            go_loop [5, 7, 8] (fun av nv kv => ∃ (q j : Nat), j ≤ 8 ∧ Hid (q = p + 1 + j) ∧ q ≤ s.size ∧ av = .int .i64 (q : Int) ∧ nv = .int .u64 (num (tl.take j) : Nat) ∧ kv = .int .i64 (j : Int)) (fun _ _ kv => 8 - (intOf kv).toNat)
            case atStart => exact ⟨p + 1, 0, by omega, Lib.hid rfl, by omega, by go_num, rfl, rfl⟩
            case round =>
              obtain ⟨q, j, hj, HQ, hq, rfl, rfl, rfl⟩ := hrel
              by_cases hj8 : j < 8
              · by_cases hqs : q < s.size
                · have HTA := Lib.hid (tl_at s p j q HQ.out hqs)
                  have HS2 := Lib.hid (show num (tl.take (j + 1)) = num (tl.take j) * 256 + s[q].toNat by
                    rw [List.take_add_one, ← HTL.out, HTA.out]
                    exact num_snoc _ _)
                  have hn7 : num (tl.take j) < 72057594037927936 := by
                    have h1 := num_lt (tl.take j)
                    have h2 : (tl.take j).length ≤ 7 := by rw [List.length_take]; omega
                    have h3 : 256 ^ (tl.take j).length ≤ 256 ^ 7 := Nat.pow_le_pow_right (by omega) h2
                    omega
                  have hqb : s[q].toNat < 256 := s[q].toNat_lt
                  obtain ⟨y, hy⟩ : ∃ y, num (tl.take j) = y := ⟨_, rfl⟩
                  rw [hy] at hn7 HS2 ⊢
                  clear hy
                  go_wp2
                  go_round
                  case rel => exact ⟨q + 1, j + 1, by omega, Lib.hid (by rw [HQ.out]; omega), by omega, by go_num, by rw [HS2.out]; first | rfl | go_num | simp, by go_num⟩
                  case measure => simp [intOf]; omega
                · go_wp2
                  go_ret2
                  exact ⟨rfl, hbel.alloc hbs _⟩
              · exfalso
                have := HQ.out
                omega
        · by_cases k3 : s[p] = 3
          · have e1 : (s[p].toNat : Int) = 3 := by rw [k3]; rfl
            by_cases h2 : p + 1 < s.size
            · obtain ⟨m, hm⟩ : ∃ m, s[p + 1].toNat = m := ⟨_, rfl⟩
              have hm2 : m < 256 := by rw [← hm]; exact s[p + 1].toNat_lt
              have HT : Hid ((rowB (l ++ [⟨2, (m : Int), mt⟩]) = true → RPure s.data.toList (l ++ [⟨2, (m : Int), mt⟩]) (p + 2) (n + 1)) ∧ (rowB (l ++ [⟨2, (m : Int), mt⟩]) = false → unkeyG 12 s.data.toList = none)) := by
                have d2 := drop_one s (p + 1) h2
                have hf : firstL (s.data.toList.drop p) = if s[p + 1] = 0 ∨ s[p + 1] = 1 then some (⟨2, (m : Int), mt⟩, s.data.toList.drop (p + 2)) else none := by
                  rw [HD.out, k3, firstL_cons, if_neg (by decide), if_neg (by decide), if_pos rfl, d2]
                  simp only [hm]
                by_cases h01 : s[p + 1] = 0 ∨ s[p + 1] = 1
                · exact Lib.hid (HP.out.step (by rw [hf, if_pos h01]))
                · refine Lib.hid (HP.out.bad hne.out (by rw [hf, if_neg h01]) ?_)
                  have n0 : m ≠ 0 := fun e => h01 (.inl (UInt8.toNat_inj.1 (by rw [hm, e]; rfl)))
                  have n1 : m ≠ 1 := fun e => h01 (.inr (UInt8.toNat_inj.1 (by rw [hm, e]; rfl)))
                  unfold chk
                  dsimp only
                  rw [if_neg (by omega), if_neg (by omega), if_pos (by right; right; omega)]
                  decide
              have HWV := Lib.hid (show V.wf ⟨2, (m : Int), mt⟩ by simp only [V.wf, in64, mt_size]; omega)
              clear k1 k2 k3 hb
              have HWL2 := Lib.hid (show ∀ u ∈ l ++ [⟨2, (m : Int), mt⟩], u.wf from fun u hu => (List.mem_append.1 hu).elim (HP.out.2.2.1 u) (fun h => by simp at h; rw [h]; exact HWV.out))
              rcases hrow : rowB (l ++ [⟨2, (m : Int), mt⟩]) with _ | _
              · have HROW := Lib.hid hrow
                have HRN := Lib.hid (show R = none by rw [← HR.out]; exact HT.out.2 hrow)
                clear hrow
                go_wp2_with (first | (at_builtin; go_loud (refine append_val rfl _ _ rfl w.heap.size A n c l rfl _ ⟨2, (m : Int), mt⟩ (HO.out.alloc _) (hbel.alloc hbs _).size _ rfl (by simp) (by omega) [_, _, _] rfl ?_); intro A3 n3 c3 w3 hn3 ho3 hb3; have HO3 := Lib.hid ho3; have HB3 := Lib.hid ((hbel.alloc hbs _).trans hb3); clear ho3 hb3; subst hn3) | (go_at_call 14; refine (rrow_any (l ++ [⟨2, (m : Int), mt⟩]) HWL2.out (n + 1) c3 A3 _ (by rw [HN.out]; simp) (by unfold maxLen; omega) (row3_of_own HO3.out).2).mono ?_; rw [HROW.out]; rintro e w4 ⟨rfl, hb4⟩; have HB4 := Lib.hid (HB3.out.trans (hb4.mono HB3.out.size)); have HO4 := Lib.hid (own_below HO3.out hb4); clear hb4))
                go_ret2
                rw [HRN.out]
                exact ⟨rfl, HB4.out⟩
              · have HROW := Lib.hid hrow
                have HP2 := Lib.hid (HT.out.1 hrow)
                have hn12 : n + 1 ≤ 12 := by have h1 := HP2.out.1; have h2 := (rowB_split hrow).1; omega
                clear hrow
                go_wp2_with (first | (at_builtin; go_loud (refine append_val rfl _ _ rfl w.heap.size A n c l rfl _ ⟨2, (m : Int), mt⟩ (HO.out.alloc _) (hbel.alloc hbs _).size _ rfl (by simp) (by omega) [_, _, _] rfl ?_); intro A3 n3 c3 w3 hn3 ho3 hb3; have HO3 := Lib.hid ho3; have HB3 := Lib.hid ((hbel.alloc hbs _).trans hb3); clear ho3 hb3; subst hn3) | (go_at_call 14; refine (rrow_any (l ++ [⟨2, (m : Int), mt⟩]) HWL2.out (n + 1) c3 A3 _ (by rw [HN.out]; simp) (by unfold maxLen; omega) (row3_of_own HO3.out).2).mono ?_; rw [HROW.out]; rintro e w4 ⟨rfl, hb4⟩; have HB4 := Lib.hid (HB3.out.trans (hb4.mono HB3.out.size)); have HO4 := Lib.hid (own_below HO3.out hb4); clear hb4))
                go_roundw
                case rel => exact ⟨p + 2, l ++ [⟨2, (m : Int), mt⟩], A3, n + 1, c3, by omega, hn12, by go_num, rfl, HB4.out, Lib.hid ⟨HP2.out, HO4.out⟩⟩
                case measure => simp [intOf]; omega
            · have hd0 : s.data.toList.drop (p + 1) = [] := List.drop_of_length_le (by rw [← size_eq]; omega)
              rw [show R = none by rw [← HR.out]; exact HP.out.wrong hne.out (by rw [HD.out, k3, hd0, firstL_cons, if_neg (by decide), if_neg (by decide), if_pos rfl])]
              clear k1 k2 k3 hb hd0
              go_wp2
              go_ret2
              exact ⟨rfl, hbel.alloc hbs _⟩
          · by_cases k4 : s[p] = 4
            · have e1 : (s[p].toNat : Int) = 4 := by rw [k4]; rfl
              obtain ⟨tl, htl⟩ : ∃ tl, s.data.toList.drop (p + 1) = tl := ⟨_, rfl⟩
              have HTL := Lib.hid htl
              have htlen : tl.length = s.size - (p + 1) := by rw [← htl, List.length_drop, ← size_eq]
              have HF := Lib.hid (show firstL (s.data.toList.drop p) = textL tl by
                rw [HD.out, k4, htl, firstL_cons, if_neg (by decide), if_neg (by decide), if_neg (by decide), if_pos rfl]
                rfl)
              clear k1 k2 k3 k4 hb htl
              go_wp2
              obtain ⟨w0, rfl⟩ : ∃ x, x = wr := ⟨_, rfl⟩
              have HBA3 := Lib.hid (hbel.alloc hbs (.cells #[.int .i64 3, .int .i64 0, .string mt] 23))
              go_loopw [5, 9, 10, 11] (fun av bv _ _ wr => ∃ (i q : Nat) (L : List UInt8) (A2 : Option Addr) (n2 c2 : Nat), Hid (q = p + 1 + i) ∧ p + 1 ≤ q ∧ q ≤ s.size ∧ L.length ≤ q ∧ av = .int .i64 (q : Int) ∧ bv = .slice A2 n2 c2 ∧
                  Hid (ReadTo tl i L ∧ Buf (w0.heap.size + 1) A2 n2 c2 L wr ∧ Keep (w0.heap.size + 1) (w0.alloc (.cells #[.int .i64 3, .int .i64 0, .string mt] 23)) wr)) (fun av _ _ _ _ => s.size - (intOf av).toNat)
              case atStart =>
                refine ⟨0, p + 1, [], _, _, _, Lib.hid rfl, by omega, by omega, by simp, by go_num, rfl, Lib.hid ⟨?_, ⟨rfl, by simp, ?_⟩, (Keep.refl _ _).alloc (by simp) _⟩⟩
                · unfold ReadTo
                  simp
                · have := World.ownsRow_made (e := 5) (size := 1) (base := w0.heap.size + 1) (w0.alloc (.cells #[.int .i64 3, .int .i64 0, .string mt] 23)) #[] 0 (by simp) (by decide) rfl
                  simp at this
                  exact this
              case round =>
                obtain ⟨i, q, L, A2, n2, c2, HQ, hpq, hq, hLq, rfl, rfl, HRd⟩ := hrel
                have HB2 := Lib.hid (HBA3.out.trans (HRd.out.2.2.below.mono (by omega)))
                by_cases hqs : q < s.size
                · have d1 := tl_drop s p i q HQ.out hqs
                  rw [HTL.out] at d1
                  by_cases hz : s[q] = 0
                  · have e2 : (s[q].toNat : Int) = 0 := by rw [hz]; rfl
                    by_cases hq2 : q + 1 < s.size
                    · have d2 := tl_drop s p (i + 1) (q + 1) (by rw [HQ.out]; omega) hq2
                      rw [HTL.out] at d2
                      by_cases hz2 : s[q + 1] = 0
                      · have e3 : (s[q + 1].toNat : Int) = 0 := by rw [hz2]; rfl
                        have HT : Hid ((rowB (l ++ [⟨3, 0, txt L⟩]) = true → RPure s.data.toList (l ++ [⟨3, 0, txt L⟩]) (q + 2) (n + 1)) ∧ (rowB (l ++ [⟨3, 0, txt L⟩]) = false → unkeyG 12 s.data.toList = none)) := by
                          have hrd := HRd.out.1
                          have hdd : tl.drop i = 0 :: 0 :: tl.drop (i + 2) := by rw [d1, d2, hz, hz2]
                          have hdq : tl.drop (i + 2) = s.data.toList.drop (q + 2) := by rw [← HTL.out, List.drop_drop, HQ.out]; congr 1
                          by_cases h200 : L.length ≤ 200
                          · exact Lib.hid (HP.out.step (by rw [HF.out, hrd.end_ hdd h200, hdq]))
                          · refine Lib.hid (HP.out.bad hne.out (by rw [HF.out]; exact hrd.long (by omega)) ?_)
                            unfold chk
                            dsimp only
                            rw [if_neg (by omega), if_pos rfl, if_pos (by right; rw [txt_size]; omega)]
                            decide
                        have HWV := Lib.hid (show V.wf ⟨3, 0, txt L⟩ by simp only [V.wf, in64, txt_size]; omega)
                        have hcv := string_of_buf HRd.out.2.1
                        have hX : Box wr w0.heap.size ⟨3, 0, mt⟩ := (Box.new w0 ⟨3, 0, mt⟩).keep HRd.out.2.2
                        have x0 := hX.k
                        have x1 := hX.n
                        have x2 := hX.s
                        have f2 := hX.frozen 2
                        have HK2 := Lib.hid HRd.out.2.2
                        have hgg := Lib.hid (show ∀ k, (Value.slice A n c).ownBlock = some k → k ≠ w0.heap.size from fun k e => by have := (HO.out.lt k e).2; omega)
                        clear HRd d1 d2 hz hz2 hX
                        have HWL2 := Lib.hid (show ∀ u ∈ l ++ [⟨3, 0, txt L⟩], u.wf from fun u hu => (List.mem_append.1 hu).elim (HP.out.2.2.1 u) (fun h => by simp at h; rw [h]; exact HWV.out))
                        rcases hrow : rowB (l ++ [⟨3, 0, txt L⟩]) with _ | _
                        · have HROW := Lib.hid hrow
                          have HRN := Lib.hid (show R = none by rw [← HR.out]; exact HT.out.2 hrow)
                          clear hrow
                          go_wp2_with (first | (at_builtin; go_loud (refine append_val rfl _ _ rfl w.heap.size A n c l rfl _ ⟨3, 0, txt L⟩ (own_set (own_keep (HO.out.alloc _) HK2.out) hgg.out) (HB2.out.setCell (p := ⟨w0.heap.size, 2, none⟩) hbs _).size _ rfl (by simp) (by omega) [_, _, _] rfl ?_); intro A3 n3 c3 w3 hn3 ho3 hb3; have HO3 := Lib.hid ho3; have HB3 := Lib.hid ((HB2.out.setCell (p := ⟨w0.heap.size, 2, none⟩) hbs _).trans hb3); clear ho3 hb3; subst hn3) | (go_at_call 14; refine (rrow_any (l ++ [⟨3, 0, txt L⟩]) HWL2.out (n + 1) c3 A3 _ (by rw [HN.out]; simp) (by unfold maxLen; omega) (row3_of_own HO3.out).2).mono ?_; rw [HROW.out]; rintro e w4 ⟨rfl, hb4⟩; have HB4 := Lib.hid (HB3.out.trans (hb4.mono HB3.out.size)); have HO4 := Lib.hid (own_below HO3.out hb4); clear hb4))
                          go_ret2
                          rw [HRN.out]
                          exact ⟨rfl, HB4.out⟩
                        · have HROW := Lib.hid hrow
                          have HP2 := Lib.hid (HT.out.1 hrow)
                          have hn12 : n + 1 ≤ 12 := by have h1 := HP2.out.1; have h2 := (rowB_split hrow).1; omega
                          clear hrow
                          go_wp2_with (first | (at_builtin; go_loud (refine append_val rfl _ _ rfl w.heap.size A n c l rfl _ ⟨3, 0, txt L⟩ (own_set (own_keep (HO.out.alloc _) HK2.out) hgg.out) (HB2.out.setCell (p := ⟨w0.heap.size, 2, none⟩) hbs _).size _ rfl (by simp) (by omega) [_, _, _] rfl ?_); intro A3 n3 c3 w3 hn3 ho3 hb3; have HO3 := Lib.hid ho3; have HB3 := Lib.hid ((HB2.out.setCell (p := ⟨w0.heap.size, 2, none⟩) hbs _).trans hb3); clear ho3 hb3; subst hn3) | (go_at_call 14; refine (rrow_any (l ++ [⟨3, 0, txt L⟩]) HWL2.out (n + 1) c3 A3 _ (by rw [HN.out]; simp) (by unfold maxLen; omega) (row3_of_own HO3.out).2).mono ?_; rw [HROW.out]; rintro e w4 ⟨rfl, hb4⟩; have HB4 := Lib.hid (HB3.out.trans (hb4.mono HB3.out.size)); have HO4 := Lib.hid (own_below HO3.out hb4); clear hb4))
                          go_roundw
                          case rel => exact ⟨q + 2, l ++ [⟨3, 0, txt L⟩], A3, n + 1, c3, by omega, hn12, by go_num, rfl, HB4.out, Lib.hid ⟨HP2.out, HO4.out⟩⟩
                          case measure => simp [intOf]; omega
                      · have q2 : s[q + 1].toNat ≠ 0 := fun e => hz2 (UInt8.toNat_inj.1 e)
                        have e3 : ((s[q + 1].toNat : Int) == 0) = false := by simpa using q2
                        by_cases hz3 : s[q + 1] = 255
                        · have e4 : ((s[q + 1].toNat : Int) != 255) = false := by rw [hz3]; rfl
                          have HN2 := Lib.hid (HRd.out.1.zero (by rw [d1, d2, hz, hz3]))
                          have HB := Lib.hid HRd.out.2.1
                          have HK2 := Lib.hid HRd.out.2.2
                          clear HRd d1 d2 hz hz2 hz3
                          go_wp2_with (at_builtin; go_loud (refine append_bytes rfl _ _ rfl (w0.heap.size + 1) A2 n2 c2 L rfl _ [0] 1 HB.out _ rfl (by simp) rfl [.int .u8 0] rfl (by simp; omega) ?_); intro A3 n3 c3 w3 hn3 hb3 hk3; have H1 := Lib.hid hb3; have K1 := Lib.hid (HK2.out.trans hk3); clear hb3 hk3; subst hn3)
                          go_roundw
                          case rel => exact ⟨i + 2, q + 2, L ++ [0], A3, _, c3, Lib.hid (by rw [HQ.out]; omega), by omega, by omega, by simp; omega, by go_num, rfl, Lib.hid ⟨HN2.out, H1.out, K1.out⟩⟩
                          case measure => simp [intOf]; omega
                        · have q3 : s[q + 1].toNat ≠ 255 := fun e => hz3 (UInt8.toNat_inj.1 e)
                          have e4 : ((s[q + 1].toNat : Int) != 255) = true := by rw [bne_iff_ne]; intro h; exact q3 (by omega)
                          have HRN := Lib.hid (show R = none by rw [← HR.out]; exact HP.out.wrong hne.out (by rw [HF.out]; exact HRd.out.1.bad (by rw [d1, d2, hz]) hz2 hz3))
                          clear HRd d1 d2 hz hz2 hz3
                          go_wp2
                          go_ret2
                          rw [HRN.out]
                          exact ⟨rfl, HB2.out⟩
                    · have HRN := Lib.hid (show R = none by rw [← HR.out]; exact HP.out.wrong hne.out (by rw [HF.out]; exact HRd.out.1.short (by rw [htlen]; have := HQ.out; omega)))
                      clear HRd d1 hz
                      go_wp2
                      go_ret2
                      rw [HRN.out]
                      exact ⟨rfl, HB2.out⟩
                  · have q2 : s[q].toNat ≠ 0 := fun e => hz (UInt8.toNat_inj.1 e)
                    have e2 : ((s[q].toNat : Int) == 0) = false := by simpa using q2
                    have HN2 := Lib.hid (HRd.out.1.plain d1 hz)
                    have HB := Lib.hid HRd.out.2.1
                    have HK2 := Lib.hid HRd.out.2.2
                    clear HRd d1
                    go_wp2_with (at_builtin; go_loud (refine append_bytes rfl _ _ rfl (w0.heap.size + 1) A2 n2 c2 L rfl _ [s[q]] 1 HB.out _ rfl (by simp) rfl [.int .u8 (s[q].toNat : Int)] rfl (by simp; omega) ?_); intro A3 n3 c3 w3 hn3 hb3 hk3; have H1 := Lib.hid hb3; have K1 := Lib.hid (HK2.out.trans hk3); clear hb3 hk3; subst hn3)
                    go_roundw
                    case rel => exact ⟨i + 1, q + 1, L ++ [s[q]], A3, _, c3, Lib.hid (by rw [HQ.out]; omega), by omega, by omega, by simp; omega, by go_num, rfl, Lib.hid ⟨HN2.out, H1.out, K1.out⟩⟩
                    case measure => simp [intOf]; omega
                · have HRN := Lib.hid (show R = none by rw [← HR.out]; exact HP.out.wrong hne.out (by rw [HF.out]; exact HRd.out.1.short (by rw [htlen]; have := HQ.out; omega)))
                  clear HRd
                  go_wp2
                  go_ret2
                  rw [HRN.out]
                  exact ⟨rfl, HB2.out⟩
            · obtain ⟨x, hx⟩ : ∃ x, s[p].toNat = x := ⟨_, rfl⟩
              have c1 := nz_of (n := 1) k1 (by decide)
              have c2 := nz_of (n := 2) k2 (by decide)
              have c3 := nz_of (n := 3) k3 (by decide)
              have c4 := nz_of (n := 4) k4 (by decide)
              rw [hx] at c1 c2 c3 c4 hb
              have HT := Lib.hid (HP.out.bad (v := ⟨(x : Int) - 1, 0, mt⟩) (a2 := p + 1) hne.out (by rw [HD.out, firstL_cons, if_neg k1, if_neg k2, if_neg k3, if_neg k4]) (by unfold chk; dsimp only; split <;> omega))
              have HWV := Lib.hid (show V.wf ⟨(x : Int) - 1, 0, mt⟩ by simp only [V.wf, in64, mt_size]; omega)
              have z1 : ((x : Int) - 1 == 1) = false := by rw [beq_eq_false_iff_ne]; omega
              have z2 : ((x : Int) - 1 == 2) = false := by rw [beq_eq_false_iff_ne]; omega
              have z3 : ((x : Int) - 1 == 3) = false := by rw [beq_eq_false_iff_ne]; omega
              clear c1 c2 c3 c4 k1 k2 k3 k4
              have HWL2 := Lib.hid (show ∀ u ∈ l ++ [⟨(x : Int) - 1, 0, mt⟩], u.wf from fun u hu => (List.mem_append.1 hu).elim (HP.out.2.2.1 u) (fun h => by simp at h; rw [h]; exact HWV.out))
              rcases hrow : rowB (l ++ [⟨(x : Int) - 1, 0, mt⟩]) with _ | _
              · have HROW := Lib.hid hrow
                have HRN := Lib.hid (show R = none by rw [← HR.out]; exact HT.out.2 hrow)
                clear hrow
                go_wp2_with (first | (at_builtin; go_loud (refine append_val rfl _ _ rfl w.heap.size A n c l rfl _ ⟨(x : Int) - 1, 0, mt⟩ (HO.out.alloc _) (hbel.alloc hbs _).size _ rfl (by simp) (by omega) [_, _, _] rfl ?_); intro A3 n3 c3 w3 hn3 ho3 hb3; have HO3 := Lib.hid ho3; have HB3 := Lib.hid ((hbel.alloc hbs _).trans hb3); clear ho3 hb3; subst hn3) | (go_at_call 14; refine (rrow_any (l ++ [⟨(x : Int) - 1, 0, mt⟩]) HWL2.out (n + 1) c3 A3 _ (by rw [HN.out]; simp) (by unfold maxLen; omega) (row3_of_own HO3.out).2).mono ?_; rw [HROW.out]; rintro e w4 ⟨rfl, hb4⟩; have HB4 := Lib.hid (HB3.out.trans (hb4.mono HB3.out.size)); have HO4 := Lib.hid (own_below HO3.out hb4); clear hb4))
                go_ret2
                rw [HRN.out]
                exact ⟨rfl, HB4.out⟩
              · have HROW := Lib.hid hrow
                have HP2 := Lib.hid (HT.out.1 hrow)
                have hn12 : n + 1 ≤ 12 := by have h1 := HP2.out.1; have h2 := (rowB_split hrow).1; omega
                clear hrow
                go_wp2_with (first | (at_builtin; go_loud (refine append_val rfl _ _ rfl w.heap.size A n c l rfl _ ⟨(x : Int) - 1, 0, mt⟩ (HO.out.alloc _) (hbel.alloc hbs _).size _ rfl (by simp) (by omega) [_, _, _] rfl ?_); intro A3 n3 c3 w3 hn3 ho3 hb3; have HO3 := Lib.hid ho3; have HB3 := Lib.hid ((hbel.alloc hbs _).trans hb3); clear ho3 hb3; subst hn3) | (go_at_call 14; refine (rrow_any (l ++ [⟨(x : Int) - 1, 0, mt⟩]) HWL2.out (n + 1) c3 A3 _ (by rw [HN.out]; simp) (by unfold maxLen; omega) (row3_of_own HO3.out).2).mono ?_; rw [HROW.out]; rintro e w4 ⟨rfl, hb4⟩; have HB4 := Lib.hid (HB3.out.trans (hb4.mono HB3.out.size)); have HO4 := Lib.hid (own_below HO3.out hb4); clear hb4))
                go_roundw
                case rel => exact ⟨p + 1, l ++ [⟨(x : Int) - 1, 0, mt⟩], A3, n + 1, c3, by omega, hn12, by go_num, rfl, HB4.out, Lib.hid ⟨HP2.out, HO4.out⟩⟩
                case measure => simp [intOf]; omega
    · have HE := Lib.hid (show R = some l by
        rw [← HR.out, HP.out.2.2.2, List.drop_of_length_le (by rw [← size_eq]; omega), unkeyG_nil]
        simp)
      have hnl := HN.out
      go_wp2
      go_ret2
      rw [HE.out]
      subst hnl
      exact ⟨A, c, rfl, HO.out, hbel⟩
end Go.Proofs.YtnginemabkecmaaDoor
