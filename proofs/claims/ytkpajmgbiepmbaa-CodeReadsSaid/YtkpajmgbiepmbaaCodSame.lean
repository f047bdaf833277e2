/- The walk of comparing lists of rows that are the same. -/
import Derived.Test.YtkpajmgbiepmbaaCodLong
namespace Go.Proofs.Ytkpajmgbiepmbaa
open Go.ChangeShapes Go.WideShapes Go.ChangeAt Go.RowKit
open Go.Lib (byteCells byteCells_length byteCells_append strCells)
set_option linter.unusedVariables false

theorem sameB_self (l : List V) : sameB l l = true := by
  unfold sameB
  rw [cmpR_zero.2 rfl, decide_eq_true rfl]
  rfl
set_option maxRecDepth 4000 in
set_option maxHeartbeats 4000000 in
theorem rrows_same (rs qs : List Rw) (A B : Option Addr) (n c m d : Nat) (w : World) (hn : n = rs.length) (hm : m = qs.length) (hnm : n ≤ maxLen) (hsame : rs.map Rw.l = qs.map Rw.l) (hA : RowsIn w w.heap.size A rs) (hB : RowsIn w w.heap.size B qs) :
    Calls Try.prog 32 #[.slice A n c, .slice B m d] w fun e w' => e = .returned (.bool true) ∧ Below w.heap.size w w' := by
  have hlen : m = n := by
    have := congrArg List.length hsame
    simp only [List.length_map] at this
    omega
  subst hlen
  have hn2 : m ≤ 9223372036854775807 := by unfold maxLen at hnm; omega
  have HN := Lib.hid hn
  have HM := Lib.hid hm
  have HA := Lib.hid hA
  have HB := Lib.hid hB
  have HS := Lib.hid hsame
  clear hn hm hA hB hsame hnm
  go_enter Try.func32, Try.ntmps32
  go_wp2
  go_loopw [5] (fun iv wr => ∃ k : Nat, k ≤ m ∧ iv = .int .i64 (k : Int) ∧ Hid (Below w.heap.size w wr)) (fun iv _ => m - (intOf iv).toNat)
  case atStart => exact ⟨0, Nat.zero_le _, rfl, Lib.hid (Below.refl _ _)⟩
  case round =>
    obtain ⟨k, hk, rfl, HBel⟩ := hrel
    by_cases hlt : k < m
    · have hkl : k < rs.length := by rw [← HN.out]; exact hlt
      have hkm : k < qs.length := by rw [← HM.out]; exact hlt
      obtain ⟨b, off, rfl, hB1, hc⟩ := (HA.out.1.below HBel.out) k hkl
      obtain ⟨b2, off2, rfl, hB2, hc2⟩ := (HB.out.1.below HBel.out) k hkm
      have c0 := hc 0 _ rfl
      have d0 := hc2 0 _ rfl
      rw [Nat.mul_one, Nat.add_zero] at c0 d0
      obtain ⟨x, hx⟩ : ∃ x, rs[k] = x := ⟨_, rfl⟩
      obtain ⟨y, hy⟩ : ∃ y, qs[k] = y := ⟨_, rfl⟩
      simp only [hx, Rw.val] at c0
      simp only [hy, Rw.val] at d0
      have hxy : x.l = y.l := by
        have h1 : (rs.map Rw.l)[k]? = some x.l := by rw [List.getElem?_map, List.getElem?_eq_getElem hkl, hx]; rfl
        have h2 : (qs.map Rw.l)[k]? = some y.l := by rw [List.getElem?_map, List.getElem?_eq_getElem hkm, hy]; rfl
        rw [HS.out, h2] at h1
        injection h1 with h1
        exact h1.symm
      have hX := HA.out.2 x (by rw [← hx]; exact List.getElem_mem hkl)
      have hY := HB.out.2 y (by rw [← hy]; exact List.getElem_mem hkm)
      have hsz := HBel.out.size
      have hC := same_any x.l y.l hX.2.1 hY.2.1 x.l.length x.c y.l.length y.c x.a y.a wr.drew rfl rfl hX.2.2 hY.2.2 ((hX.1.below HBel.out).more hsz) ((hY.1.below HBel.out).more hsz)
      rw [hxy, sameB_self] at hC
      rw [hxy] at c0
      obtain ⟨q, hq⟩ : ∃ q, y.l.length = q := ⟨_, rfl⟩
      rw [hq] at hC c0 d0
      have HC := Lib.hid hC
      have i1 : (0 : Int) ≤ (k : Int) := by omega
      have i2 : (k : Int) < (m : Int) := by omega
      clear hc hc2 hx hy hX hY hC hxy hq
      go_wp2_with fail
      go_region_with (go_at_call 61; refine HC.out.mono ?_; rintro e w' ⟨rfl, hb⟩)
      all_goals
        go_wp2
        go_roundw
        case rel => exact ⟨k + 1, by omega, by go_num, Lib.hid (hop HBel.out.drew hb)⟩
        case measure => simp [intOf]; omega
    · go_wp2
      go_ret
      exact ⟨rfl, HBel.out⟩
end Go.Proofs.Ytkpajmgbiepmbaa
