/- The walks of what is too long, and of comparing lists of rows. -/
import Derived.Test.YtkpajmgbiepmbaaCodNums
namespace Go.Proofs.Ytkpajmgbiepmbaa
open Go.ChangeShapes Go.WideShapes Go.ChangeAt Go.RowKit
open Go.Lib (byteCells byteCells_length byteCells_append strCells)
set_option linter.unusedVariables false

def farP (p : Pa) : Bool := decide (2000 < p.s.size) || decide (2000 < p.t.size)
def longB (rs : List Rw) (ps : List Pa) : Bool := decide (300 < rs.length) || decide (300 < ps.length) || rs.any (fun r => bigB r.l) || ps.any farP
theorem longB_rows {rs : List Rw} {ps : List Pa} (h : 300 < rs.length) : longB rs ps = true := by unfold longB; rw [decide_eq_true h]; simp
theorem longB_pairs {rs : List Rw} {ps : List Pa} (h : 300 < ps.length) : longB rs ps = true := by unfold longB; rw [decide_eq_true h]; simp
theorem longB_row {rs : List Rw} {ps : List Pa} {r : Rw} (hm : r ∈ rs) (h : bigB r.l = true) : longB rs ps = true := by
  unfold longB
  rw [show rs.any (fun r => bigB r.l) = true from List.any_eq_true.2 ⟨r, hm, h⟩]
  simp
theorem longB_pair {rs : List Rw} {ps : List Pa} {p : Pa} (hm : p ∈ ps) (h : farP p = true) : longB rs ps = true := by
  unfold longB
  rw [show ps.any farP = true from List.any_eq_true.2 ⟨p, hm, h⟩]
  simp
theorem longB_no {rs : List Rw} {ps : List Pa} (h1 : rs.length ≤ 300) (h2 : ps.length ≤ 300) (h3 : ∀ r ∈ rs, bigB r.l = false) (h4 : ∀ p ∈ ps, farP p = false) : longB rs ps = false := by
  unfold longB
  rw [decide_eq_false (by omega), decide_eq_false (by omega)]
  rw [show rs.any (fun r => bigB r.l) = false from List.any_eq_false.2 (fun r hr => by rw [h3 r hr]; decide), show ps.any farP = false from List.any_eq_false.2 (fun r hr => by rw [h4 r hr]; decide)]
  rfl
theorem longB_parts {rs : List Rw} {ps : List Pa} (h : longB rs ps = false) : rs.length ≤ 300 ∧ ps.length ≤ 300 ∧ (∀ r ∈ rs, bigB r.l = false) ∧ ∀ p ∈ ps, p.s.size ≤ 2000 ∧ p.t.size ≤ 2000 := by
  refine ⟨?_, ?_, fun r hr => ?_, fun p hp => ?_⟩
  · by_cases hc : 300 < rs.length
    · rw [longB_rows hc] at h; cases h
    · omega
  · by_cases hc : 300 < ps.length
    · rw [longB_pairs hc] at h; cases h
    · omega
  · cases hb : bigB r.l
    · rfl
    · rw [longB_row hr hb] at h; cases h
  · cases hb : farP p
    · unfold farP at hb
      simp at hb
      exact hb
    · rw [longB_pair hp hb] at h; cases h

set_option maxRecDepth 4000 in
set_option maxHeartbeats 4000000 in
theorem long_walk (rs : List Rw) (ps : List Pa) (A B : Option Addr) (n c m d : Nat) (w : World) (hn : n = rs.length) (hm : m = ps.length) (hnm : n ≤ maxLen) (hmm : m ≤ maxLen) (hA : RowsIn w w.heap.size A rs) (hB : RowC pCells 2 w w.heap.size B ps) (hsz : ∀ p ∈ ps, p.s.size ≤ maxLen ∧ p.t.size ≤ maxLen) :
    Calls Try.prog 14 #[.slice A n c, .slice B m d] w fun e w' => e = .returned (.bool (longB rs ps)) ∧ w = w' := by
  have hn2 : n ≤ 9223372036854775807 := by unfold maxLen at hnm; omega
  have hm2 : m ≤ 9223372036854775807 := by unfold maxLen at hmm; omega
  have HN := Lib.hid hn
  have HM := Lib.hid hm
  have HA := Lib.hid hA
  have HB := Lib.hid hB
  have HZ := Lib.hid hsz
  clear hn hm hA hB hsz hnm hmm
  by_cases h1 : 300 < n
  · have HF := Lib.hid (longB_rows (ps := ps) (by rw [← HN.out]; exact h1))
    go_enter Try.func14, Try.ntmps14
    go_wp2
    go_ret
    exact ⟨by rw [HF.out]; rfl, rfl⟩
  · have h1' : decide ((300 : Int) < (n : Int)) = false := decide_eq_false (by omega)
    by_cases h2 : 300 < m
    · have HF := Lib.hid (longB_pairs (rs := rs) (by rw [← HM.out]; exact h2))
      go_enter Try.func14, Try.ntmps14
      go_wp2
      go_ret
      exact ⟨by rw [HF.out]; rfl, rfl⟩
    · have h2' : decide ((300 : Int) < (m : Int)) = false := decide_eq_false (by omega)
      go_enter Try.func14, Try.ntmps14
      go_wp2
      clear h1' h2'
      go_loop [5] (fun iv => ∃ k : Nat, k ≤ n ∧ iv = .int .i64 (k : Int) ∧ Hid (∀ j (h : j < rs.length), j < k → bigB rs[j].l = false)) (fun iv => n - (intOf iv).toNat)
      case atStart => exact ⟨0, Nat.zero_le _, rfl, Lib.hid (fun j _ h => by omega)⟩
      case round =>
        obtain ⟨k, hk, rfl, HK⟩ := hrel
        by_cases hlt : k < n
        · have hkl : k < rs.length := by rw [← HN.out]; exact hlt
          obtain ⟨b, off, rfl, hB1, hc⟩ := HA.out.1 k hkl
          have c0 := hc 0 _ rfl
          rw [Nat.mul_one, Nat.add_zero] at c0
          obtain ⟨x, hx⟩ : ∃ x, rs[k] = x := ⟨_, rfl⟩
          simp only [hx, Rw.val] at c0
          have HX := Lib.hid hx
          have HR := Lib.hid (HA.out.2 x (by rw [← hx]; exact List.getElem_mem hkl))
          have HC := Lib.hid (big_any x.l HR.out.2.1 x.l.length x.c x.a w rfl HR.out.2.2 HR.out.1)
          clear hc hx
          cases hb : bigB x.l
          · have HK2 := Lib.hid (show ∀ j (h : j < rs.length), j < k + 1 → bigB rs[j].l = false by
              intro j hj hjk
              by_cases e : j = k
              · subst e
                rw [HX.out]
                exact hb
              · exact HK.out j hj (by omega))
            rw [hb] at HC
            clear hb
            go_wp2_with (go_at_call 36; refine HC.out.mono ?_; rintro e w' ⟨rfl, rfl⟩)
            go_round
            case rel => exact ⟨k + 1, by omega, by go_num, HK2⟩
            case measure => simp [intOf]; omega
          · have HF := Lib.hid (longB_row (ps := ps) (by rw [← HX.out]; exact List.getElem_mem hkl) hb)
            rw [hb] at HC
            clear hb
            go_wp2_with (go_at_call 36; refine HC.out.mono ?_; rintro e w' ⟨rfl, rfl⟩)
            go_ret
            exact ⟨by rw [HF.out]; rfl, rfl⟩
        · have HK3 := Lib.hid (show ∀ r ∈ rs, bigB r.l = false by
            intro r hr
            obtain ⟨j, hj, rfl⟩ := List.getElem_of_mem hr
            exact HK.out j hj (by rw [← HN.out] at hj; omega))
          go_wp2
          go_loop [6] (fun iv => ∃ k : Nat, k ≤ m ∧ iv = .int .i64 (k : Int) ∧ Hid (∀ j (h : j < ps.length), j < k → farP ps[j] = false)) (fun iv => m - (intOf iv).toNat)
          case atStart => exact ⟨0, Nat.zero_le _, rfl, Lib.hid (fun j _ h => by omega)⟩
          case round =>
            obtain ⟨k', hk', rfl, HK'⟩ := hrel
            by_cases hlt' : k' < m
            · have hkl : k' < ps.length := by rw [← HM.out]; exact hlt'
              obtain ⟨b, off, rfl, hB1, hc⟩ := HB.out k' hkl
              have c0 := hc 0 _ rfl
              have c1 := hc 1 _ rfl
              rw [Nat.add_zero] at c0
              obtain ⟨x, hx⟩ : ∃ x, ps[k'] = x := ⟨_, rfl⟩
              simp only [hx] at c0 c1
              have HX := Lib.hid hx
              have hz := HZ.out x (by rw [← hx]; exact List.getElem_mem hkl)
              have hz1 : x.s.size ≤ 9223372036854775807 := by have := hz.1; unfold maxLen at this; omega
              have hz2 : x.t.size ≤ 9223372036854775807 := by have := hz.2; unfold maxLen at this; omega
              clear hc hx hz
              by_cases hs : 2000 < x.s.size
              · have HF := Lib.hid (longB_pair (rs := rs) (p := x) (by rw [← HX.out]; exact List.getElem_mem hkl) (by unfold farP; rw [decide_eq_true hs]; rfl))
                go_wp2
                go_ret
                exact ⟨by rw [HF.out]; rfl, rfl⟩
              · have hs' : decide ((2000 : Int) < (x.s.size : Int)) = false := decide_eq_false (by omega)
                by_cases ht : 2000 < x.t.size
                · have HF := Lib.hid (longB_pair (rs := rs) (p := x) (by rw [← HX.out]; exact List.getElem_mem hkl) (by unfold farP; rw [decide_eq_true ht, Bool.or_true]))
                  go_wp2
                  go_ret
                  exact ⟨by rw [HF.out]; rfl, rfl⟩
                · have ht' : decide ((2000 : Int) < (x.t.size : Int)) = false := decide_eq_false (by omega)
                  have HK2 := Lib.hid (show ∀ j (h : j < ps.length), j < k' + 1 → farP ps[j] = false by
                    intro j hj hjk
                    by_cases e : j = k'
                    · subst e
                      rw [HX.out]
                      unfold farP
                      rw [decide_eq_false hs, decide_eq_false ht]
                      rfl
                    · exact HK'.out j hj (by omega))
                  go_wp2
                  go_round
                  case rel => exact ⟨k' + 1, by omega, by go_num, HK2⟩
                  case measure => simp [intOf]; omega
            · have HF := Lib.hid (longB_no (rs := rs) (ps := ps) (by rw [← HN.out]; omega) (by rw [← HM.out]; omega) HK3.out (by
                intro r hr
                obtain ⟨j, hj, rfl⟩ := List.getElem_of_mem hr
                exact HK'.out j hj (by rw [← HM.out] at hj; omega)))
              go_wp2
              go_ret
              exact ⟨by rw [HF.out]; rfl, rfl⟩
end Go.Proofs.Ytkpajmgbiepmbaa
