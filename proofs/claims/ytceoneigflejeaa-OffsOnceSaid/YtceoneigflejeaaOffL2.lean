/- The walk of OffsFollows. -/
import Derived.Test.YtceoneigflejeaaOffV
import Derived.Deep.RegionHeld3
namespace Go.Proofs.Ytceoneigflejeaa
open Go.ChangeShapes Go.WideShapes Go.ChangeAt Go.RowKit
set_option linter.unusedVariables false

set_option maxRecDepth 4000 in
set_option maxHeartbeats 4000000 in
theorem offsfollows_walk (rs : List Rs) (A : Option Addr) (n c : Nat) (w : World) (hn : n = rs.length) (hnc : n ≤ c) (hcm : c ≤ maxLen) (hat : RowC rsCells 1 w w.heap.size A rs) (hall : AllRs w w.heap.size rs) :
    Calls Try.prog 4 #[.slice A n c] w fun e w' => e = .returned (.bool true) ∧ Below w.heap.size w w' := by
  have hn9 : n ≤ 9223372036854775807 := by unfold maxLen at hcm; omega
  by_cases hbig : 300 < n
  · have d1 : decide ((300 : Int) < (n : Int)) = true := decide_eq_true (by omega)
    clear hn hnc hcm hat hall hbig
    go_enter Try.func4, Try.ntmps4
    go_wp2_with (go_at_call 7; refine (alive_any _).mono ?_; rintro e w1 ⟨rfl, hb1⟩; have HB := Lib.hid hb1; clear hb1)
    go_ret
    exact ⟨rfl, HB.out⟩
  have HN := Lib.hid hn
  have HA := Lib.hid hat
  have HALL := Lib.hid (fun W (h : Below w.heap.size w W) => AllRs.below hall h h.size)
  have HT := Lib.hid (fun W (h : Below w.heap.size w W) => tiles_walk rs A n c W hn (by omega) hnc hcm ((hat.below h).more h.size) (AllRs.below hall h h.size))
  have HRT := Lib.hid (fun W (h : Below w.heap.size w W) => rtiles_walk rs A n c W hn (by omega) ((hat.below h).more h.size) (AllRs.below hall h h.size))
  have hn300 : n ≤ 300 := by omega
  have d1 : decide ((300 : Int) < (n : Int)) = false := decide_eq_false (by omega)
  clear hn hnc hcm hat hall hbig
  go_enter Try.func4, Try.ntmps4
  go_wp2_with (go_at_call 7; refine (alive_any _).mono ?_; rintro e w1 ⟨rfl, hb1⟩; have HB := Lib.hid hb1; clear hb1)
  go_loopw [3] (fun iv wr => ∃ j : Nat, j ≤ n ∧ iv = .int .i64 ((j : Int) + 1) ∧ Hid (Below w.heap.size w wr)) (fun iv _ => n + 1 - (intOf iv).toNat)
  case atStart => exact ⟨0, Nat.zero_le _, rfl, HB⟩
  case round =>
    obtain ⟨j, hj, rfl, HBel⟩ := hrel
    obtain ⟨k, hjk⟩ : ∃ k, j + 1 = k := ⟨_, rfl⟩
    rw [show (j : Int) + 1 = (k : Int) by omega]
    by_cases hlt : k < n
    · have hkl : k < rs.length := by rw [← HN.out]; exact hlt
      have hjl : j < rs.length := by omega
      obtain ⟨b, off, rfl, hB, hc⟩ := (HA.out.below HBel.out) k hkl
      obtain ⟨b2, off2, e2, hB2, hd⟩ := (HA.out.below HBel.out) j hjl
      simp only [Option.some.injEq, Addr.mk.injEq, and_true] at e2
      obtain ⟨rfl, rfl⟩ := e2
      have c0 := hc 0 _ rfl
      have d0 := hd 0 _ rfl
      rw [Nat.add_zero, Nat.mul_one] at c0 d0
      have HX := Lib.hid (fun W h => HALL.out W h rs[k] (List.getElem_mem hkl))
      have HY := Lib.hid (fun W h => HALL.out W h rs[j] (List.getElem_mem hjl))
      obtain ⟨x, hx⟩ : ∃ x, rs[k] = x := ⟨_, rfl⟩
      obtain ⟨y, hy⟩ : ∃ y, rs[j] = y := ⟨_, rfl⟩
      rw [hx] at HX
      rw [hy] at HY
      simp only [hx] at c0
      simp only [hy] at d0
      obtain ⟨p, hp⟩ : ∃ p, x.l.length = p := ⟨_, rfl⟩
      obtain ⟨q, hq⟩ : ∃ q, y.l.length = q := ⟨_, rfl⟩
      rw [hp] at c0
      rw [hq] at d0
      have hpm := (HX.out w (Below.refl _ _)).2
      have hqm := (HY.out w (Below.refl _ _)).2
      rw [hp] at hpm
      rw [hq] at hqm
      have HF1 := Lib.hid (fun (W : World) (h : Below w.heap.size w W ∧ W.cell? ⟨b, off + k, none⟩ = some (.slice x.a p x.c) ∧ W.cell? ⟨b, off + j, none⟩ = some (.slice y.a q y.c)) => follows_walk y.l x.l y.a x.a q y.c p x.c W hq.symm hqm (HY.out W h.1).1 hp.symm hpm (HX.out W h.1).1)
      have HF2 := Lib.hid (fun (W : World) (h : Below w.heap.size w W ∧ W.cell? ⟨b, off + k, none⟩ = some (.slice x.a p x.c) ∧ W.cell? ⟨b, off + j, none⟩ = some (.slice y.a q y.c)) => rfollows_walk y.l x.l y.a x.a q y.c p x.c W hq.symm hqm (HY.out W h.1).1 hp.symm hpm (HX.out W h.1).1)
      obtain ⟨f, hf⟩ : ∃ f, folB y.l x.l = f := ⟨_, rfl⟩
      rw [hf] at HF1 HF2
      have i1 : (0 : Int) ≤ (k : Int) := by omega
      have i2 : (k : Int) < (n : Int) := by omega
      have i3 : (0 : Int) ≤ (j : Int) := by omega
      have i4 : (j : Int) < (n : Int) := by omega
      have hj1 : IntKind.i64.wrap ((k : Int) - 1) = (j : Int) := by rw [IntKind.wrap_i64]; omega
      have hk1 : k + 1 ≤ n + 1 := by omega
      have HJK := Lib.hid hjk
      clear hx hy hp hq hf hc hd hpm hqm hjk
      go_wp2_with fail
      go_region_held3 (fun w' => Below w.heap.size w w' ∧ w'.cell? ⟨b, off + k, none⟩ = some (.slice x.a p x.c) ∧ w'.cell? ⟨b, off + j, none⟩ = some (.slice y.a q y.c))
        (first | exact ⟨HBel.out.drew, c0, d0⟩ | (go_split_ands; refine ⟨hop ‹Below w.heap.size w _› hb, later_cell hb ?_, later_cell hb ?_⟩ <;> assumption))
        ((first | (go_at_call 14; (with_reducible refine (HF1.out _ ?_).mono ?_); (assumption); rintro e w2 ⟨rfl, hb⟩) | (go_at_call 15; (with_reducible refine (HF2.out _ ?_).mono ?_); (assumption); rintro e w3 ⟨rfl, hb⟩)))
      all_goals
        go_split_ands
        have HB9 := Lib.hid (show Below w.heap.size w _ from by assumption)
        go_wp2
        exact ⟨⟨k, by omega, rfl, HB9⟩, by simp [intOf]; omega⟩
    · clear hjk
      go_wp2_with (first | (go_at_call 16; refine (HT.out _ HBel.out).mono ?_; rintro e w7 ⟨rfl, hb7⟩; have HB7 := Lib.hid (hop HBel.out hb7); clear hb7) | (go_at_call 17; refine (HRT.out _ HB7.out).mono ?_; rintro e w8 ⟨rfl, hb8⟩; have HB8 := Lib.hid (hop HB7.out hb8); clear hb8))
      go_ret
      exact ⟨by simp, HB8.out⟩
end Go.Proofs.Ytceoneigflejeaa
