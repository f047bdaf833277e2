/- The walk of the plain Tiles. -/
import Derived.Test.YtceoneigflejeaaOffT
import Derived.Test.YtceoneigflejeaaRegion
namespace Go.Proofs.Ytceoneigflejeaa
open Go.ChangeShapes Go.WideShapes Go.ChangeAt Go.RowKit
set_option linter.unusedVariables false

theorem folB_min (p : Nat) (l : List Rg) (hp : p = l.length) : folB (List.replicate (min p 5) noRg) l = folB (List.replicate p noRg) l := by
  by_cases h : p ≤ 5
  · rw [Nat.min_eq_left h]
  · rw [fol_no2 (right_none (.inr (by omega))), fol_no2 (right_none (.inr (by omega)))]

set_option maxRecDepth 100000 in
set_option maxHeartbeats 4000000 in
theorem rtiles_walk (rs : List Rs) (A : Option Addr) (n c : Nat) (w : World) (hn : n = rs.length) (hm : n ≤ 1048576) (hat : RowC rsCells 1 w w.heap.size A rs) (hall : AllRs w w.heap.size rs) :
    Calls Try.prog 17 #[.slice A n c] w fun e w' => e = .returned (.bool (tileB (lsOf rs))) ∧ Below w.heap.size w w' := by
  have HN := Lib.hid hn
  have HA := Lib.hid hat
  have HALL := Lib.hid (fun W (h : Below w.heap.size w W) => AllRs.below hall h h.size)
  clear hn hat hall
  go_enter Try.func17, Try.ntmps17
  go_wp2
  go_loopw [3] (fun iv wr => ∃ k : Nat, k ≤ n ∧ iv = .int .i64 (k : Int) ∧ Hid (TileTo (lsOf rs) k) ∧ Hid (Below w.heap.size w wr)) (fun iv _ => n - (intOf iv).toNat)
  case atStart => exact ⟨0, Nat.zero_le _, rfl, Lib.hid (fun j h _ => absurd h (by omega)), Lib.hid (Below.refl _ _)⟩
  case round =>
    obtain ⟨k, hk, rfl, HO, HBel⟩ := hrel
    by_cases hlt : k < n
    · have hkl : k < rs.length := by rw [← HN.out]; exact hlt
      obtain ⟨b, off, rfl, hB, hc⟩ := (HA.out.below HBel.out) k hkl
      have c0 := hc 0 _ rfl
      rw [Nat.add_zero, Nat.mul_one] at c0
      have HX := Lib.hid (fun W h => HALL.out W h rs[k] (List.getElem_mem hkl))
      have HLX := Lib.hid (lsOf_get hkl)
      obtain ⟨x, hx⟩ : ∃ x, rs[k] = x := ⟨_, rfl⟩
      rw [hx] at HX HLX
      simp only [hx] at c0
      obtain ⟨p, hp⟩ : ∃ p, x.l.length = p := ⟨_, rfl⟩
      rw [hp] at c0
      have HP := Lib.hid hp
      clear hx hc hp
      have HNX := Lib.hid (fun h => HO.out.next h)
      have HNO := Lib.hid (fun h => tile_at (ls := lsOf rs) (k := k) (by rw [lsOf_len]; exact hkl) h)
      rw [HLX.out] at HNX HNO
      by_cases h0 : k = 0
      · subst h0
        rw [Nat.add_zero] at c0
        have hpm := (HX.out w (Below.refl _ _)).2
        rw [HP.out] at hpm
        have HFOL := Lib.hid (fun (W : World) (As : Option Addr) (cs : Nat) (h : Below w.heap.size w W ∧ W.cell? ⟨b, off, none⟩ = some (.slice x.a p x.c)) (hr : RowC rgCells 2 W W.heap.size As (List.replicate (min p 5) noRg)) =>
          rfollows_walk (List.replicate (min p 5) noRg) x.l As x.a (min p 5) cs p x.c W (by simp) (by unfold maxLen; omega) hr HP.out.symm hpm (HX.out W h.1).1)
        have HPV := Lib.hid (show folB (prevL (lsOf rs) 0) x.l = folB (List.replicate (min p 5) noRg) x.l by
          rw [folB_min p x.l HP.out.symm]
          unfold prevL
          rw [if_pos rfl, HLX.out, HP.out])
        have hn0 : ¬ n = 0 := by omega
        cases hf : folB (List.replicate (min p 5) noRg) x.l with
        | true =>
          rw [hf] at HPV HFOL
          have HK := Lib.hid (HNX.out HPV.out)
          clear hf
          go_wp2_with fail
          refine held_begin 31 (fun W => Below w.heap.size w W ∧ W.cell? ⟨b, off, none⟩ = some (.slice x.a p x.c)) rfl (by kernel_rfl) ?_
          have hS : Below w.heap.size w wr.drew ∧ wr.drew.cell? ⟨b, off, none⟩ = some (.slice x.a p x.c) := ⟨HBel.out.drew, c0⟩
          refine held_take (i := 0) (t := 10) (v := (.int .i64 0)) (fuel := 30) rfl rfl (by kernel_rfl) (by kernel_rfl) (by kernel_rfl) (fun _ _ _ h => h) (.inl ⟨rfl, fun _ _ => rfl⟩) hS ?_
          simp only [List.setIfInBounds_toArray, List.set_cons_succ, List.set_cons_zero]
          refine held_take (i := 1) (t := 11) (v := (.bool true)) (fuel := 29) rfl rfl (by kernel_rfl) (by kernel_rfl) (by kernel_rfl) (fun _ _ _ h => h) (.inl ⟨rfl, fun W hW => by simp [execOp, Act.eval, go_sem]⟩) hS ?_
          simp only [List.setIfInBounds_toArray, List.set_cons_succ, List.set_cons_zero]
          refine held_take (i := 2) (t := 12) (v := (.bool true)) (fuel := 28) rfl rfl (by kernel_rfl) (by kernel_rfl) (by kernel_rfl) (fun _ _ _ h => h) (.inl ⟨rfl, fun _ _ => rfl⟩) hS ?_
          simp only [List.setIfInBounds_toArray, List.set_cons_succ, List.set_cons_zero]
          refine held_take (i := 3) (t := 13) (v := (.slice (some ⟨b, off, none⟩) n c)) (fuel := 27) rfl rfl (by kernel_rfl) (by kernel_rfl) (by kernel_rfl) (fun _ _ _ h => h) (.inl ⟨rfl, fun _ _ => rfl⟩) hS ?_
          simp only [List.setIfInBounds_toArray, List.set_cons_succ, List.set_cons_zero]
          refine held_take (i := 4) (t := 14) (v := (.pointer (some ⟨b, off, none⟩))) (fuel := 26) rfl rfl (by kernel_rfl) (by kernel_rfl) (by kernel_rfl) (fun _ _ _ h => h) (.inl ⟨rfl, fun W hW => by simp [execOp, Act.eval, go_sem, hn0]⟩) hS ?_
          simp only [List.setIfInBounds_toArray, List.set_cons_succ, List.set_cons_zero]
          refine held_take (i := 5) (t := 15) (v := (.slice x.a p x.c)) (fuel := 25) rfl rfl (by kernel_rfl) (by kernel_rfl) (by kernel_rfl) (fun _ _ _ h => h) (.inl ⟨rfl, fun W hW => by simp [execOp, Act.eval, go_sem, hW.2]⟩) hS ?_
          simp only [List.setIfInBounds_toArray, List.set_cons_succ, List.set_cons_zero]
          refine held_take (i := 6) (t := 16) (v := (.int .i64 (p : Int))) (fuel := 24) rfl rfl (by kernel_rfl) (by kernel_rfl) (by kernel_rfl) (fun _ _ _ h => h) (.inl ⟨rfl, fun W hW => by simp [execOp, Act.eval, go_sem]⟩) hS ?_
          simp only [List.setIfInBounds_toArray, List.set_cons_succ, List.set_cons_zero]
          refine held_take (i := 8) (t := 18) (v := (.slice (some ⟨b, off, none⟩) n c)) (fuel := 23) rfl rfl (by kernel_rfl) (by kernel_rfl) (by kernel_rfl) (fun _ _ _ h => h) (.inl ⟨rfl, fun _ _ => rfl⟩) hS ?_
          simp only [List.setIfInBounds_toArray, List.set_cons_succ, List.set_cons_zero]
          refine held_take (i := 9) (t := 19) (v := (.pointer (some ⟨b, off, none⟩))) (fuel := 22) rfl rfl (by kernel_rfl) (by kernel_rfl) (by kernel_rfl) (fun _ _ _ h => h) (.inl ⟨rfl, fun W hW => by simp [execOp, Act.eval, go_sem, hn0]⟩) hS ?_
          simp only [List.setIfInBounds_toArray, List.set_cons_succ, List.set_cons_zero]
          refine held_take (i := 10) (t := 20) (v := (.slice x.a p x.c)) (fuel := 21) rfl rfl (by kernel_rfl) (by kernel_rfl) (by kernel_rfl) (fun _ _ _ h => h) (.inl ⟨rfl, fun W hW => by simp [execOp, Act.eval, go_sem, hW.2]⟩) hS ?_
          simp only [List.setIfInBounds_toArray, List.set_cons_succ, List.set_cons_zero]
          refine held_call (i := 7) rfl (by kernel_rfl) (by kernel_rfl) ?_
          simp [Oper.wp, execOp, Act.eval, Act.put, go_sem]
          refine (rstart_walk p hpm _).mono ?_
          rintro e w2 ⟨As, cs, rfl, hrs, hb2⟩
          have hS : Below w.heap.size w w2 ∧ w2.cell? ⟨b, off, none⟩ = some (.slice x.a p x.c) := ⟨hop hS.1 hb2, later_cell hb2 hS.2⟩
          refine ⟨hS, ?_⟩
          try simp only [List.setIfInBounds_toArray, List.set_cons_succ, List.set_cons_zero]
          refine held_call (i := 11) rfl (by kernel_rfl) (by kernel_rfl) ?_
          simp [Oper.wp, execOp, Act.eval, Act.put, go_sem]
          refine (HFOL.out _ _ _ hS hrs).mono ?_
          rintro e w3 ⟨rfl, hb3⟩
          have hS : Below w.heap.size w w3 ∧ w3.cell? ⟨b, off, none⟩ = some (.slice x.a p x.c) := ⟨hop hS.1 hb3, later_cell hb3 hS.2⟩
          refine ⟨hS, ?_⟩
          try simp only [List.setIfInBounds_toArray, List.set_cons_succ, List.set_cons_zero]
          refine held_take (i := 12) (t := 22) (v := (.bool false)) (fuel := 18) rfl rfl (by kernel_rfl) (by kernel_rfl) (by kernel_rfl) (fun _ _ _ h => h) (.inl ⟨rfl, fun W hW => by simp [execOp, Act.eval, go_sem]⟩) hS ?_
          simp only [List.setIfInBounds_toArray, List.set_cons_succ, List.set_cons_zero]
          refine held_take (i := 13) (t := 23) (v := (.bool false)) (fuel := 17) rfl rfl (by kernel_rfl) (by kernel_rfl) (by kernel_rfl) (fun _ _ _ h => h) (.inl ⟨rfl, fun W hW => by simp [execOp, Act.eval, go_sem]⟩) hS ?_
          simp only [List.setIfInBounds_toArray, List.set_cons_succ, List.set_cons_zero]
          refine held_take (i := 14) (t := 24) (v := (.bool false)) (fuel := 16) rfl rfl (by kernel_rfl) (by kernel_rfl) (by kernel_rfl) (fun _ _ _ h => h) (.inl ⟨rfl, fun _ _ => rfl⟩) hS ?_
          simp only [List.setIfInBounds_toArray, List.set_cons_succ, List.set_cons_zero]
          refine held_take (i := 15) (t := 25) (v := (.int .i64 0)) (fuel := 15) rfl rfl (by kernel_rfl) (by kernel_rfl) (by kernel_rfl) (fun _ _ _ h => h) (.inl ⟨rfl, fun _ _ => rfl⟩) hS ?_
          simp only [List.setIfInBounds_toArray, List.set_cons_succ, List.set_cons_zero]
          refine held_take (i := 16) (t := 26) (v := (.bool false)) (fuel := 14) rfl rfl (by kernel_rfl) (by kernel_rfl) (by kernel_rfl) (fun _ _ _ h => h) (.inl ⟨rfl, fun W hW => by simp [execOp, Act.eval, go_sem]⟩) hS ?_
          simp only [List.setIfInBounds_toArray, List.set_cons_succ, List.set_cons_zero]
          refine held_take (i := 17) (t := 27) (v := (.bool false)) (fuel := 13) rfl rfl (by kernel_rfl) (by kernel_rfl) (by kernel_rfl) (fun _ _ _ h => h) (.inl ⟨rfl, fun _ _ => rfl⟩) hS ?_
          simp only [List.setIfInBounds_toArray, List.set_cons_succ, List.set_cons_zero]
          refine held_take (i := 18) (t := 28) (v := undef) (fuel := 12) rfl rfl (by kernel_rfl) (by kernel_rfl) (by kernel_rfl) (fun _ _ _ h => h) (.inr ⟨rfl, rfl⟩) hS ?_
          simp only [List.setIfInBounds_toArray, List.set_cons_succ, List.set_cons_zero]
          refine held_take (i := 19) (t := 29) (v := undef) (fuel := 11) rfl rfl (by kernel_rfl) (by kernel_rfl) (by kernel_rfl) (fun _ _ _ h => h) (.inr ⟨rfl, rfl⟩) hS ?_
          simp only [List.setIfInBounds_toArray, List.set_cons_succ, List.set_cons_zero]
          refine held_take (i := 20) (t := 30) (v := undef) (fuel := 10) rfl rfl (by kernel_rfl) (by kernel_rfl) (by kernel_rfl) (fun _ _ _ h => h) (.inr ⟨rfl, rfl⟩) hS ?_
          simp only [List.setIfInBounds_toArray, List.set_cons_succ, List.set_cons_zero]
          refine held_take (i := 21) (t := 31) (v := undef) (fuel := 9) rfl rfl (by kernel_rfl) (by kernel_rfl) (by kernel_rfl) (fun _ _ _ h => h) (.inr ⟨rfl, rfl⟩) hS ?_
          simp only [List.setIfInBounds_toArray, List.set_cons_succ, List.set_cons_zero]
          refine held_take (i := 22) (t := 32) (v := undef) (fuel := 8) rfl rfl (by kernel_rfl) (by kernel_rfl) (by kernel_rfl) (fun _ _ _ h => h) (.inr ⟨rfl, rfl⟩) hS ?_
          simp only [List.setIfInBounds_toArray, List.set_cons_succ, List.set_cons_zero]
          refine held_take (i := 23) (t := 33) (v := undef) (fuel := 7) rfl rfl (by kernel_rfl) (by kernel_rfl) (by kernel_rfl) (fun _ _ _ h => h) (.inr ⟨rfl, rfl⟩) hS ?_
          simp only [List.setIfInBounds_toArray, List.set_cons_succ, List.set_cons_zero]
          refine held_take (i := 24) (t := 34) (v := undef) (fuel := 6) rfl rfl (by kernel_rfl) (by kernel_rfl) (by kernel_rfl) (fun _ _ _ h => h) (.inr ⟨rfl, rfl⟩) hS ?_
          simp only [List.setIfInBounds_toArray, List.set_cons_succ, List.set_cons_zero]
          refine held_take (i := 25) (t := 35) (v := undef) (fuel := 5) rfl rfl (by kernel_rfl) (by kernel_rfl) (by kernel_rfl) (fun _ _ _ h => h) (.inr ⟨rfl, rfl⟩) hS ?_
          simp only [List.setIfInBounds_toArray, List.set_cons_succ, List.set_cons_zero]
          refine held_take (i := 26) (t := 36) (v := undef) (fuel := 4) rfl rfl (by kernel_rfl) (by kernel_rfl) (by kernel_rfl) (fun _ _ _ h => h) (.inr ⟨rfl, rfl⟩) hS ?_
          simp only [List.setIfInBounds_toArray, List.set_cons_succ, List.set_cons_zero]
          refine held_take (i := 27) (t := 37) (v := undef) (fuel := 3) rfl rfl (by kernel_rfl) (by kernel_rfl) (by kernel_rfl) (fun _ _ _ h => h) (.inr ⟨rfl, rfl⟩) hS ?_
          simp only [List.setIfInBounds_toArray, List.set_cons_succ, List.set_cons_zero]
          refine held_take (i := 28) (t := 38) (v := undef) (fuel := 2) rfl rfl (by kernel_rfl) (by kernel_rfl) (by kernel_rfl) (fun _ _ _ h => h) (.inr ⟨rfl, rfl⟩) hS ?_
          simp only [List.setIfInBounds_toArray, List.set_cons_succ, List.set_cons_zero]
          refine held_take (i := 29) (t := 39) (v := (.bool false)) (fuel := 1) rfl rfl (by kernel_rfl) (by kernel_rfl) (by kernel_rfl) (fun _ _ _ h => h) (.inl ⟨rfl, fun W hW => by simp [execOp, Act.eval, go_sem]⟩) hS ?_
          simp only [List.setIfInBounds_toArray, List.set_cons_succ, List.set_cons_zero]
          refine held_take (i := 30) (t := 40) (v := (.bool false)) (fuel := 0) rfl rfl (by kernel_rfl) (by kernel_rfl) (by kernel_rfl) (fun _ _ _ h => h) (.inl ⟨rfl, fun W hW => by simp [execOp, Act.eval, go_sem]⟩) hS ?_
          simp only [List.setIfInBounds_toArray, List.set_cons_succ, List.set_cons_zero]
          refine ⟨by kernel_rfl, ?_⟩
          go_wp2
          go_roundw
          case rel => exact ⟨1, by omega, by go_num, HK, Lib.hid hS.1⟩
          case measure => simp [intOf]; omega
        | false =>
          rw [hf] at HPV HFOL
          have HK := Lib.hid (HNO.out HPV.out)
          clear hf
          go_wp2_with fail
          refine held_begin 31 (fun W => Below w.heap.size w W ∧ W.cell? ⟨b, off, none⟩ = some (.slice x.a p x.c)) rfl (by kernel_rfl) ?_
          have hS : Below w.heap.size w wr.drew ∧ wr.drew.cell? ⟨b, off, none⟩ = some (.slice x.a p x.c) := ⟨HBel.out.drew, c0⟩
          refine held_take (i := 0) (t := 10) (v := (.int .i64 0)) (fuel := 30) rfl rfl (by kernel_rfl) (by kernel_rfl) (by kernel_rfl) (fun _ _ _ h => h) (.inl ⟨rfl, fun _ _ => rfl⟩) hS ?_
          simp only [List.setIfInBounds_toArray, List.set_cons_succ, List.set_cons_zero]
          refine held_take (i := 1) (t := 11) (v := (.bool true)) (fuel := 29) rfl rfl (by kernel_rfl) (by kernel_rfl) (by kernel_rfl) (fun _ _ _ h => h) (.inl ⟨rfl, fun W hW => by simp [execOp, Act.eval, go_sem]⟩) hS ?_
          simp only [List.setIfInBounds_toArray, List.set_cons_succ, List.set_cons_zero]
          refine held_take (i := 2) (t := 12) (v := (.bool true)) (fuel := 28) rfl rfl (by kernel_rfl) (by kernel_rfl) (by kernel_rfl) (fun _ _ _ h => h) (.inl ⟨rfl, fun _ _ => rfl⟩) hS ?_
          simp only [List.setIfInBounds_toArray, List.set_cons_succ, List.set_cons_zero]
          refine held_take (i := 3) (t := 13) (v := (.slice (some ⟨b, off, none⟩) n c)) (fuel := 27) rfl rfl (by kernel_rfl) (by kernel_rfl) (by kernel_rfl) (fun _ _ _ h => h) (.inl ⟨rfl, fun _ _ => rfl⟩) hS ?_
          simp only [List.setIfInBounds_toArray, List.set_cons_succ, List.set_cons_zero]
          refine held_take (i := 4) (t := 14) (v := (.pointer (some ⟨b, off, none⟩))) (fuel := 26) rfl rfl (by kernel_rfl) (by kernel_rfl) (by kernel_rfl) (fun _ _ _ h => h) (.inl ⟨rfl, fun W hW => by simp [execOp, Act.eval, go_sem, hn0]⟩) hS ?_
          simp only [List.setIfInBounds_toArray, List.set_cons_succ, List.set_cons_zero]
          refine held_take (i := 5) (t := 15) (v := (.slice x.a p x.c)) (fuel := 25) rfl rfl (by kernel_rfl) (by kernel_rfl) (by kernel_rfl) (fun _ _ _ h => h) (.inl ⟨rfl, fun W hW => by simp [execOp, Act.eval, go_sem, hW.2]⟩) hS ?_
          simp only [List.setIfInBounds_toArray, List.set_cons_succ, List.set_cons_zero]
          refine held_take (i := 6) (t := 16) (v := (.int .i64 (p : Int))) (fuel := 24) rfl rfl (by kernel_rfl) (by kernel_rfl) (by kernel_rfl) (fun _ _ _ h => h) (.inl ⟨rfl, fun W hW => by simp [execOp, Act.eval, go_sem]⟩) hS ?_
          simp only [List.setIfInBounds_toArray, List.set_cons_succ, List.set_cons_zero]
          refine held_take (i := 8) (t := 18) (v := (.slice (some ⟨b, off, none⟩) n c)) (fuel := 23) rfl rfl (by kernel_rfl) (by kernel_rfl) (by kernel_rfl) (fun _ _ _ h => h) (.inl ⟨rfl, fun _ _ => rfl⟩) hS ?_
          simp only [List.setIfInBounds_toArray, List.set_cons_succ, List.set_cons_zero]
          refine held_take (i := 9) (t := 19) (v := (.pointer (some ⟨b, off, none⟩))) (fuel := 22) rfl rfl (by kernel_rfl) (by kernel_rfl) (by kernel_rfl) (fun _ _ _ h => h) (.inl ⟨rfl, fun W hW => by simp [execOp, Act.eval, go_sem, hn0]⟩) hS ?_
          simp only [List.setIfInBounds_toArray, List.set_cons_succ, List.set_cons_zero]
          refine held_take (i := 10) (t := 20) (v := (.slice x.a p x.c)) (fuel := 21) rfl rfl (by kernel_rfl) (by kernel_rfl) (by kernel_rfl) (fun _ _ _ h => h) (.inl ⟨rfl, fun W hW => by simp [execOp, Act.eval, go_sem, hW.2]⟩) hS ?_
          simp only [List.setIfInBounds_toArray, List.set_cons_succ, List.set_cons_zero]
          refine held_call (i := 7) rfl (by kernel_rfl) (by kernel_rfl) ?_
          simp [Oper.wp, execOp, Act.eval, Act.put, go_sem]
          refine (rstart_walk p hpm _).mono ?_
          rintro e w2 ⟨As, cs, rfl, hrs, hb2⟩
          have hS : Below w.heap.size w w2 ∧ w2.cell? ⟨b, off, none⟩ = some (.slice x.a p x.c) := ⟨hop hS.1 hb2, later_cell hb2 hS.2⟩
          refine ⟨hS, ?_⟩
          try simp only [List.setIfInBounds_toArray, List.set_cons_succ, List.set_cons_zero]
          refine held_call (i := 11) rfl (by kernel_rfl) (by kernel_rfl) ?_
          simp [Oper.wp, execOp, Act.eval, Act.put, go_sem]
          refine (HFOL.out _ _ _ hS hrs).mono ?_
          rintro e w3 ⟨rfl, hb3⟩
          have hS : Below w.heap.size w w3 ∧ w3.cell? ⟨b, off, none⟩ = some (.slice x.a p x.c) := ⟨hop hS.1 hb3, later_cell hb3 hS.2⟩
          refine ⟨hS, ?_⟩
          try simp only [List.setIfInBounds_toArray, List.set_cons_succ, List.set_cons_zero]
          refine held_take (i := 12) (t := 22) (v := (.bool true)) (fuel := 18) rfl rfl (by kernel_rfl) (by kernel_rfl) (by kernel_rfl) (fun _ _ _ h => h) (.inl ⟨rfl, fun W hW => by simp [execOp, Act.eval, go_sem]⟩) hS ?_
          simp only [List.setIfInBounds_toArray, List.set_cons_succ, List.set_cons_zero]
          refine held_take (i := 13) (t := 23) (v := (.bool true)) (fuel := 17) rfl rfl (by kernel_rfl) (by kernel_rfl) (by kernel_rfl) (fun _ _ _ h => h) (.inl ⟨rfl, fun W hW => by simp [execOp, Act.eval, go_sem]⟩) hS ?_
          simp only [List.setIfInBounds_toArray, List.set_cons_succ, List.set_cons_zero]
          refine held_take (i := 14) (t := 24) (v := (.bool true)) (fuel := 16) rfl rfl (by kernel_rfl) (by kernel_rfl) (by kernel_rfl) (fun _ _ _ h => h) (.inl ⟨rfl, fun _ _ => rfl⟩) hS ?_
          simp only [List.setIfInBounds_toArray, List.set_cons_succ, List.set_cons_zero]
          refine held_take (i := 15) (t := 25) (v := undef) (fuel := 15) rfl rfl (by kernel_rfl) (by kernel_rfl) (by kernel_rfl) (fun _ _ _ h => h) (.inr ⟨rfl, rfl⟩) hS ?_
          simp only [List.setIfInBounds_toArray, List.set_cons_succ, List.set_cons_zero]
          refine held_take (i := 16) (t := 26) (v := undef) (fuel := 14) rfl rfl (by kernel_rfl) (by kernel_rfl) (by kernel_rfl) (fun _ _ _ h => h) (.inr ⟨rfl, rfl⟩) hS ?_
          simp only [List.setIfInBounds_toArray, List.set_cons_succ, List.set_cons_zero]
          refine held_take (i := 17) (t := 27) (v := undef) (fuel := 13) rfl rfl (by kernel_rfl) (by kernel_rfl) (by kernel_rfl) (fun _ _ _ h => h) (.inr ⟨rfl, rfl⟩) hS ?_
          simp only [List.setIfInBounds_toArray, List.set_cons_succ, List.set_cons_zero]
          refine held_take (i := 18) (t := 28) (v := undef) (fuel := 12) rfl rfl (by kernel_rfl) (by kernel_rfl) (by kernel_rfl) (fun _ _ _ h => h) (.inr ⟨rfl, rfl⟩) hS ?_
          simp only [List.setIfInBounds_toArray, List.set_cons_succ, List.set_cons_zero]
          refine held_take (i := 19) (t := 29) (v := undef) (fuel := 11) rfl rfl (by kernel_rfl) (by kernel_rfl) (by kernel_rfl) (fun _ _ _ h => h) (.inr ⟨rfl, rfl⟩) hS ?_
          simp only [List.setIfInBounds_toArray, List.set_cons_succ, List.set_cons_zero]
          refine held_take (i := 20) (t := 30) (v := undef) (fuel := 10) rfl rfl (by kernel_rfl) (by kernel_rfl) (by kernel_rfl) (fun _ _ _ h => h) (.inr ⟨rfl, rfl⟩) hS ?_
          simp only [List.setIfInBounds_toArray, List.set_cons_succ, List.set_cons_zero]
          refine held_take (i := 21) (t := 31) (v := undef) (fuel := 9) rfl rfl (by kernel_rfl) (by kernel_rfl) (by kernel_rfl) (fun _ _ _ h => h) (.inr ⟨rfl, rfl⟩) hS ?_
          simp only [List.setIfInBounds_toArray, List.set_cons_succ, List.set_cons_zero]
          refine held_take (i := 22) (t := 32) (v := undef) (fuel := 8) rfl rfl (by kernel_rfl) (by kernel_rfl) (by kernel_rfl) (fun _ _ _ h => h) (.inr ⟨rfl, rfl⟩) hS ?_
          simp only [List.setIfInBounds_toArray, List.set_cons_succ, List.set_cons_zero]
          refine held_take (i := 23) (t := 33) (v := undef) (fuel := 7) rfl rfl (by kernel_rfl) (by kernel_rfl) (by kernel_rfl) (fun _ _ _ h => h) (.inr ⟨rfl, rfl⟩) hS ?_
          simp only [List.setIfInBounds_toArray, List.set_cons_succ, List.set_cons_zero]
          refine held_take (i := 24) (t := 34) (v := undef) (fuel := 6) rfl rfl (by kernel_rfl) (by kernel_rfl) (by kernel_rfl) (fun _ _ _ h => h) (.inr ⟨rfl, rfl⟩) hS ?_
          simp only [List.setIfInBounds_toArray, List.set_cons_succ, List.set_cons_zero]
          refine held_take (i := 25) (t := 35) (v := undef) (fuel := 5) rfl rfl (by kernel_rfl) (by kernel_rfl) (by kernel_rfl) (fun _ _ _ h => h) (.inr ⟨rfl, rfl⟩) hS ?_
          simp only [List.setIfInBounds_toArray, List.set_cons_succ, List.set_cons_zero]
          refine held_take (i := 26) (t := 36) (v := undef) (fuel := 4) rfl rfl (by kernel_rfl) (by kernel_rfl) (by kernel_rfl) (fun _ _ _ h => h) (.inr ⟨rfl, rfl⟩) hS ?_
          simp only [List.setIfInBounds_toArray, List.set_cons_succ, List.set_cons_zero]
          refine held_take (i := 27) (t := 37) (v := undef) (fuel := 3) rfl rfl (by kernel_rfl) (by kernel_rfl) (by kernel_rfl) (fun _ _ _ h => h) (.inr ⟨rfl, rfl⟩) hS ?_
          simp only [List.setIfInBounds_toArray, List.set_cons_succ, List.set_cons_zero]
          refine held_take (i := 28) (t := 38) (v := undef) (fuel := 2) rfl rfl (by kernel_rfl) (by kernel_rfl) (by kernel_rfl) (fun _ _ _ h => h) (.inr ⟨rfl, rfl⟩) hS ?_
          simp only [List.setIfInBounds_toArray, List.set_cons_succ, List.set_cons_zero]
          refine held_take (i := 29) (t := 39) (v := undef) (fuel := 1) rfl rfl (by kernel_rfl) (by kernel_rfl) (by kernel_rfl) (fun _ _ _ h => h) (.inr ⟨rfl, rfl⟩) hS ?_
          simp only [List.setIfInBounds_toArray, List.set_cons_succ, List.set_cons_zero]
          refine held_take (i := 30) (t := 40) (v := (.bool true)) (fuel := 0) rfl rfl (by kernel_rfl) (by kernel_rfl) (by kernel_rfl) (fun _ _ _ h => h) (.inl ⟨rfl, fun W hW => by simp [execOp, Act.eval, go_sem]⟩) hS ?_
          simp only [List.setIfInBounds_toArray, List.set_cons_succ, List.set_cons_zero]
          refine ⟨by kernel_rfl, ?_⟩
          go_wp2
          go_ret
          exact ⟨by rw [HK.out] <;> rfl, hS.1⟩
      · obtain ⟨j, hkk⟩ : ∃ j, j + 1 = k := ⟨k - 1, by omega⟩
        have hjl : j < rs.length := by omega
        obtain ⟨b2, off2, e2, hB2, hd⟩ := (HA.out.below HBel.out) j hjl
        simp only [Option.some.injEq, Addr.mk.injEq, and_true] at e2
        obtain ⟨rfl, rfl⟩ := e2
        have d0 := hd 0 _ rfl
        rw [Nat.add_zero, Nat.mul_one] at d0
        have HY := Lib.hid (fun W h => HALL.out W h rs[j] (List.getElem_mem hjl))
        have HLY := Lib.hid (lsOf_get hjl)
        obtain ⟨y, hy⟩ : ∃ y, rs[j] = y := ⟨_, rfl⟩
        rw [hy] at HY HLY
        simp only [hy] at d0
        obtain ⟨q, hq⟩ : ∃ q, y.l.length = q := ⟨_, rfl⟩
        rw [hq] at d0
        have hpm := (HX.out w (Below.refl _ _)).2
        rw [HP.out] at hpm
        have hqm := (HY.out w (Below.refl _ _)).2
        rw [hq] at hqm
        have HFOL := Lib.hid (fun (W : World) (h : Below w.heap.size w W) => rfollows_walk y.l x.l y.a x.a q y.c p x.c W hq.symm hqm (HY.out W h).1 HP.out.symm hpm (HX.out W h).1)
        have HPV := Lib.hid (show folB (prevL (lsOf rs) k) x.l = folB y.l x.l by
          unfold prevL
          rw [if_neg h0, show k - 1 = j by omega, HLY.out])
        have i1 : (0 : Int) ≤ (k : Int) := by omega
        have i2 : (k : Int) < (n : Int) := by omega
        have i3 : (0 : Int) ≤ (j : Int) := by omega
        have i4 : (j : Int) < (n : Int) := by omega
        have hk0 : (k == 0) = false := by rw [beq_eq_false_iff_ne]; exact h0
        have hk1 : ((k : Int) == 0) = false := by rw [beq_eq_false_iff_ne]; omega
        have hkp : decide ((0 : Int) < (k : Int)) = true := decide_eq_true (by omega)
        have hkp2 : (0 : Nat) < k := by omega
        have hj1 : IntKind.i64.wrap ((k : Int) - 1) = (j : Int) := by rw [IntKind.wrap_i64]; unfold maxLen at *; omega
        clear hy hq hd hkk
        cases hf : folB y.l x.l with
        | true =>
          rw [hf] at HPV HFOL
          have HK := Lib.hid (HNX.out HPV.out)
          clear hf
          go_wp2_with fail
          refine held_begin 31 (fun W => Below w.heap.size w W ∧ W.cell? ⟨b, off + k, none⟩ = some (.slice x.a p x.c) ∧ W.cell? ⟨b, off + j, none⟩ = some (.slice y.a q y.c)) rfl (by kernel_rfl) ?_
          have hS : Below w.heap.size w wr.drew ∧ wr.drew.cell? ⟨b, off + k, none⟩ = some (.slice x.a p x.c) ∧ wr.drew.cell? ⟨b, off + j, none⟩ = some (.slice y.a q y.c) := ⟨HBel.out.drew, c0, d0⟩
          refine held_take (i := 0) (t := 10) (v := (.int .i64 (k : Int))) (fuel := 30) rfl rfl (by kernel_rfl) (by kernel_rfl) (by kernel_rfl) (fun _ _ _ h => h) (.inl ⟨rfl, fun _ _ => rfl⟩) hS ?_
          simp only [List.setIfInBounds_toArray, List.set_cons_succ, List.set_cons_zero]
          refine held_take (i := 1) (t := 11) (v := (.bool false)) (fuel := 29) rfl rfl (by kernel_rfl) (by kernel_rfl) (by kernel_rfl) (fun _ _ _ h => h) (.inl ⟨rfl, fun W hW => by simp [execOp, Act.eval, go_sem, hk1]⟩) hS ?_
          simp only [List.setIfInBounds_toArray, List.set_cons_succ, List.set_cons_zero]
          refine held_take (i := 2) (t := 12) (v := (.bool false)) (fuel := 28) rfl rfl (by kernel_rfl) (by kernel_rfl) (by kernel_rfl) (fun _ _ _ h => h) (.inl ⟨rfl, fun _ _ => rfl⟩) hS ?_
          simp only [List.setIfInBounds_toArray, List.set_cons_succ, List.set_cons_zero]
          refine held_take (i := 3) (t := 13) (v := undef) (fuel := 27) rfl rfl (by kernel_rfl) (by kernel_rfl) (by kernel_rfl) (fun _ _ _ h => h) (.inr ⟨rfl, rfl⟩) hS ?_
          simp only [List.setIfInBounds_toArray, List.set_cons_succ, List.set_cons_zero]
          refine held_take (i := 4) (t := 14) (v := undef) (fuel := 26) rfl rfl (by kernel_rfl) (by kernel_rfl) (by kernel_rfl) (fun _ _ _ h => h) (.inr ⟨rfl, rfl⟩) hS ?_
          simp only [List.setIfInBounds_toArray, List.set_cons_succ, List.set_cons_zero]
          refine held_take (i := 5) (t := 15) (v := undef) (fuel := 25) rfl rfl (by kernel_rfl) (by kernel_rfl) (by kernel_rfl) (fun _ _ _ h => h) (.inr ⟨rfl, rfl⟩) hS ?_
          simp only [List.setIfInBounds_toArray, List.set_cons_succ, List.set_cons_zero]
          refine held_take (i := 6) (t := 16) (v := undef) (fuel := 24) rfl rfl (by kernel_rfl) (by kernel_rfl) (by kernel_rfl) (fun _ _ _ h => h) (.inr ⟨rfl, rfl⟩) hS ?_
          simp only [List.setIfInBounds_toArray, List.set_cons_succ, List.set_cons_zero]
          refine held_take (i := 7) (t := 17) (v := undef) (fuel := 23) rfl rfl (by kernel_rfl) (by kernel_rfl) (by kernel_rfl) (fun _ _ _ h => h) (.inr ⟨rfl, rfl⟩) hS ?_
          simp only [List.setIfInBounds_toArray, List.set_cons_succ, List.set_cons_zero]
          refine held_take (i := 8) (t := 18) (v := undef) (fuel := 22) rfl rfl (by kernel_rfl) (by kernel_rfl) (by kernel_rfl) (fun _ _ _ h => h) (.inr ⟨rfl, rfl⟩) hS ?_
          simp only [List.setIfInBounds_toArray, List.set_cons_succ, List.set_cons_zero]
          refine held_take (i := 9) (t := 19) (v := undef) (fuel := 21) rfl rfl (by kernel_rfl) (by kernel_rfl) (by kernel_rfl) (fun _ _ _ h => h) (.inr ⟨rfl, rfl⟩) hS ?_
          simp only [List.setIfInBounds_toArray, List.set_cons_succ, List.set_cons_zero]
          refine held_take (i := 10) (t := 20) (v := undef) (fuel := 20) rfl rfl (by kernel_rfl) (by kernel_rfl) (by kernel_rfl) (fun _ _ _ h => h) (.inr ⟨rfl, rfl⟩) hS ?_
          simp only [List.setIfInBounds_toArray, List.set_cons_succ, List.set_cons_zero]
          refine held_take (i := 11) (t := 21) (v := undef) (fuel := 19) rfl rfl (by kernel_rfl) (by kernel_rfl) (by kernel_rfl) (fun _ _ _ h => h) (.inr ⟨rfl, rfl⟩) hS ?_
          simp only [List.setIfInBounds_toArray, List.set_cons_succ, List.set_cons_zero]
          refine held_take (i := 12) (t := 22) (v := undef) (fuel := 18) rfl rfl (by kernel_rfl) (by kernel_rfl) (by kernel_rfl) (fun _ _ _ h => h) (.inr ⟨rfl, rfl⟩) hS ?_
          simp only [List.setIfInBounds_toArray, List.set_cons_succ, List.set_cons_zero]
          refine held_take (i := 13) (t := 23) (v := (.bool false)) (fuel := 17) rfl rfl (by kernel_rfl) (by kernel_rfl) (by kernel_rfl) (fun _ _ _ h => h) (.inl ⟨rfl, fun W hW => by simp [execOp, Act.eval, go_sem]⟩) hS ?_
          simp only [List.setIfInBounds_toArray, List.set_cons_succ, List.set_cons_zero]
          refine held_take (i := 14) (t := 24) (v := (.bool false)) (fuel := 16) rfl rfl (by kernel_rfl) (by kernel_rfl) (by kernel_rfl) (fun _ _ _ h => h) (.inl ⟨rfl, fun _ _ => rfl⟩) hS ?_
          simp only [List.setIfInBounds_toArray, List.set_cons_succ, List.set_cons_zero]
          refine held_take (i := 15) (t := 25) (v := (.int .i64 (k : Int))) (fuel := 15) rfl rfl (by kernel_rfl) (by kernel_rfl) (by kernel_rfl) (fun _ _ _ h => h) (.inl ⟨rfl, fun _ _ => rfl⟩) hS ?_
          simp only [List.setIfInBounds_toArray, List.set_cons_succ, List.set_cons_zero]
          refine held_take (i := 16) (t := 26) (v := (.bool true)) (fuel := 14) rfl rfl (by kernel_rfl) (by kernel_rfl) (by kernel_rfl) (fun _ _ _ h => h) (.inl ⟨rfl, fun W hW => by simp [execOp, Act.eval, go_sem, hkp2]⟩) hS ?_
          simp only [List.setIfInBounds_toArray, List.set_cons_succ, List.set_cons_zero]
          refine held_take (i := 17) (t := 27) (v := (.bool true)) (fuel := 13) rfl rfl (by kernel_rfl) (by kernel_rfl) (by kernel_rfl) (fun _ _ _ h => h) (.inl ⟨rfl, fun _ _ => rfl⟩) hS ?_
          simp only [List.setIfInBounds_toArray, List.set_cons_succ, List.set_cons_zero]
          refine held_take (i := 18) (t := 28) (v := (.slice (some ⟨b, off, none⟩) n c)) (fuel := 12) rfl rfl (by kernel_rfl) (by kernel_rfl) (by kernel_rfl) (fun _ _ _ h => h) (.inl ⟨rfl, fun _ _ => rfl⟩) hS ?_
          simp only [List.setIfInBounds_toArray, List.set_cons_succ, List.set_cons_zero]
          refine held_take (i := 19) (t := 29) (v := (.int .i64 (k : Int))) (fuel := 11) rfl rfl (by kernel_rfl) (by kernel_rfl) (by kernel_rfl) (fun _ _ _ h => h) (.inl ⟨rfl, fun _ _ => rfl⟩) hS ?_
          simp only [List.setIfInBounds_toArray, List.set_cons_succ, List.set_cons_zero]
          refine held_take (i := 20) (t := 30) (v := (.int .i64 (j : Int))) (fuel := 10) rfl rfl (by kernel_rfl) (by kernel_rfl) (by kernel_rfl) (fun _ _ _ h => h) (.inl ⟨rfl, fun W hW => by simp [execOp, Act.eval, go_sem, hj1]⟩) hS ?_
          simp only [List.setIfInBounds_toArray, List.set_cons_succ, List.set_cons_zero]
          refine held_take (i := 21) (t := 31) (v := (.pointer (some ⟨b, off + j, none⟩))) (fuel := 9) rfl rfl (by kernel_rfl) (by kernel_rfl) (by kernel_rfl) (fun _ _ _ h => h) (.inl ⟨rfl, fun W hW => by simp [execOp, Act.eval, go_sem, i3, i4]⟩) hS ?_
          simp only [List.setIfInBounds_toArray, List.set_cons_succ, List.set_cons_zero]
          refine held_take (i := 22) (t := 32) (v := (.slice y.a q y.c)) (fuel := 8) rfl rfl (by kernel_rfl) (by kernel_rfl) (by kernel_rfl) (fun _ _ _ h => h) (.inl ⟨rfl, fun W hW => by simp [execOp, Act.eval, go_sem, hW.2.2]⟩) hS ?_
          simp only [List.setIfInBounds_toArray, List.set_cons_succ, List.set_cons_zero]
          refine held_take (i := 23) (t := 33) (v := (.slice (some ⟨b, off, none⟩) n c)) (fuel := 7) rfl rfl (by kernel_rfl) (by kernel_rfl) (by kernel_rfl) (fun _ _ _ h => h) (.inl ⟨rfl, fun _ _ => rfl⟩) hS ?_
          simp only [List.setIfInBounds_toArray, List.set_cons_succ, List.set_cons_zero]
          refine held_take (i := 24) (t := 34) (v := (.int .i64 (k : Int))) (fuel := 6) rfl rfl (by kernel_rfl) (by kernel_rfl) (by kernel_rfl) (fun _ _ _ h => h) (.inl ⟨rfl, fun _ _ => rfl⟩) hS ?_
          simp only [List.setIfInBounds_toArray, List.set_cons_succ, List.set_cons_zero]
          refine held_take (i := 25) (t := 35) (v := (.pointer (some ⟨b, off + k, none⟩))) (fuel := 5) rfl rfl (by kernel_rfl) (by kernel_rfl) (by kernel_rfl) (fun _ _ _ h => h) (.inl ⟨rfl, fun W hW => by simp [execOp, Act.eval, go_sem, i1, i2]⟩) hS ?_
          simp only [List.setIfInBounds_toArray, List.set_cons_succ, List.set_cons_zero]
          refine held_take (i := 26) (t := 36) (v := (.slice x.a p x.c)) (fuel := 4) rfl rfl (by kernel_rfl) (by kernel_rfl) (by kernel_rfl) (fun _ _ _ h => h) (.inl ⟨rfl, fun W hW => by simp [execOp, Act.eval, go_sem, hW.2.1]⟩) hS ?_
          simp only [List.setIfInBounds_toArray, List.set_cons_succ, List.set_cons_zero]
          refine held_call (i := 27) rfl (by kernel_rfl) (by kernel_rfl) ?_
          simp [Oper.wp, execOp, Act.eval, Act.put, go_sem]
          refine (HFOL.out _ hS.1).mono ?_
          rintro e w3 ⟨rfl, hb3⟩
          have hS : Below w.heap.size w w3 ∧ w3.cell? ⟨b, off + k, none⟩ = some (.slice x.a p x.c) ∧ w3.cell? ⟨b, off + j, none⟩ = some (.slice y.a q y.c) := ⟨hop hS.1 hb3, later_cell hb3 hS.2.1, later_cell hb3 hS.2.2⟩
          refine ⟨hS, ?_⟩
          try simp only [List.setIfInBounds_toArray, List.set_cons_succ, List.set_cons_zero]
          refine held_take (i := 28) (t := 38) (v := (.bool false)) (fuel := 2) rfl rfl (by kernel_rfl) (by kernel_rfl) (by kernel_rfl) (fun _ _ _ h => h) (.inl ⟨rfl, fun W hW => by simp [execOp, Act.eval, go_sem]⟩) hS ?_
          simp only [List.setIfInBounds_toArray, List.set_cons_succ, List.set_cons_zero]
          refine held_take (i := 29) (t := 39) (v := (.bool false)) (fuel := 1) rfl rfl (by kernel_rfl) (by kernel_rfl) (by kernel_rfl) (fun _ _ _ h => h) (.inl ⟨rfl, fun W hW => by simp [execOp, Act.eval, go_sem]⟩) hS ?_
          simp only [List.setIfInBounds_toArray, List.set_cons_succ, List.set_cons_zero]
          refine held_take (i := 30) (t := 40) (v := (.bool false)) (fuel := 0) rfl rfl (by kernel_rfl) (by kernel_rfl) (by kernel_rfl) (fun _ _ _ h => h) (.inl ⟨rfl, fun W hW => by simp [execOp, Act.eval, go_sem]⟩) hS ?_
          simp only [List.setIfInBounds_toArray, List.set_cons_succ, List.set_cons_zero]
          refine ⟨by kernel_rfl, ?_⟩
          go_wp2
          go_roundw
          case rel => exact ⟨k + 1, by omega, by go_num, HK, Lib.hid hS.1⟩
          case measure => simp [intOf]; omega
        | false =>
          rw [hf] at HPV HFOL
          have HK := Lib.hid (HNO.out HPV.out)
          clear hf
          go_wp2_with fail
          refine held_begin 31 (fun W => Below w.heap.size w W ∧ W.cell? ⟨b, off + k, none⟩ = some (.slice x.a p x.c) ∧ W.cell? ⟨b, off + j, none⟩ = some (.slice y.a q y.c)) rfl (by kernel_rfl) ?_
          have hS : Below w.heap.size w wr.drew ∧ wr.drew.cell? ⟨b, off + k, none⟩ = some (.slice x.a p x.c) ∧ wr.drew.cell? ⟨b, off + j, none⟩ = some (.slice y.a q y.c) := ⟨HBel.out.drew, c0, d0⟩
          refine held_take (i := 0) (t := 10) (v := (.int .i64 (k : Int))) (fuel := 30) rfl rfl (by kernel_rfl) (by kernel_rfl) (by kernel_rfl) (fun _ _ _ h => h) (.inl ⟨rfl, fun _ _ => rfl⟩) hS ?_
          simp only [List.setIfInBounds_toArray, List.set_cons_succ, List.set_cons_zero]
          refine held_take (i := 1) (t := 11) (v := (.bool false)) (fuel := 29) rfl rfl (by kernel_rfl) (by kernel_rfl) (by kernel_rfl) (fun _ _ _ h => h) (.inl ⟨rfl, fun W hW => by simp [execOp, Act.eval, go_sem, hk1]⟩) hS ?_
          simp only [List.setIfInBounds_toArray, List.set_cons_succ, List.set_cons_zero]
          refine held_take (i := 2) (t := 12) (v := (.bool false)) (fuel := 28) rfl rfl (by kernel_rfl) (by kernel_rfl) (by kernel_rfl) (fun _ _ _ h => h) (.inl ⟨rfl, fun _ _ => rfl⟩) hS ?_
          simp only [List.setIfInBounds_toArray, List.set_cons_succ, List.set_cons_zero]
          refine held_take (i := 3) (t := 13) (v := undef) (fuel := 27) rfl rfl (by kernel_rfl) (by kernel_rfl) (by kernel_rfl) (fun _ _ _ h => h) (.inr ⟨rfl, rfl⟩) hS ?_
          simp only [List.setIfInBounds_toArray, List.set_cons_succ, List.set_cons_zero]
          refine held_take (i := 4) (t := 14) (v := undef) (fuel := 26) rfl rfl (by kernel_rfl) (by kernel_rfl) (by kernel_rfl) (fun _ _ _ h => h) (.inr ⟨rfl, rfl⟩) hS ?_
          simp only [List.setIfInBounds_toArray, List.set_cons_succ, List.set_cons_zero]
          refine held_take (i := 5) (t := 15) (v := undef) (fuel := 25) rfl rfl (by kernel_rfl) (by kernel_rfl) (by kernel_rfl) (fun _ _ _ h => h) (.inr ⟨rfl, rfl⟩) hS ?_
          simp only [List.setIfInBounds_toArray, List.set_cons_succ, List.set_cons_zero]
          refine held_take (i := 6) (t := 16) (v := undef) (fuel := 24) rfl rfl (by kernel_rfl) (by kernel_rfl) (by kernel_rfl) (fun _ _ _ h => h) (.inr ⟨rfl, rfl⟩) hS ?_
          simp only [List.setIfInBounds_toArray, List.set_cons_succ, List.set_cons_zero]
          refine held_take (i := 7) (t := 17) (v := undef) (fuel := 23) rfl rfl (by kernel_rfl) (by kernel_rfl) (by kernel_rfl) (fun _ _ _ h => h) (.inr ⟨rfl, rfl⟩) hS ?_
          simp only [List.setIfInBounds_toArray, List.set_cons_succ, List.set_cons_zero]
          refine held_take (i := 8) (t := 18) (v := undef) (fuel := 22) rfl rfl (by kernel_rfl) (by kernel_rfl) (by kernel_rfl) (fun _ _ _ h => h) (.inr ⟨rfl, rfl⟩) hS ?_
          simp only [List.setIfInBounds_toArray, List.set_cons_succ, List.set_cons_zero]
          refine held_take (i := 9) (t := 19) (v := undef) (fuel := 21) rfl rfl (by kernel_rfl) (by kernel_rfl) (by kernel_rfl) (fun _ _ _ h => h) (.inr ⟨rfl, rfl⟩) hS ?_
          simp only [List.setIfInBounds_toArray, List.set_cons_succ, List.set_cons_zero]
          refine held_take (i := 10) (t := 20) (v := undef) (fuel := 20) rfl rfl (by kernel_rfl) (by kernel_rfl) (by kernel_rfl) (fun _ _ _ h => h) (.inr ⟨rfl, rfl⟩) hS ?_
          simp only [List.setIfInBounds_toArray, List.set_cons_succ, List.set_cons_zero]
          refine held_take (i := 11) (t := 21) (v := undef) (fuel := 19) rfl rfl (by kernel_rfl) (by kernel_rfl) (by kernel_rfl) (fun _ _ _ h => h) (.inr ⟨rfl, rfl⟩) hS ?_
          simp only [List.setIfInBounds_toArray, List.set_cons_succ, List.set_cons_zero]
          refine held_take (i := 12) (t := 22) (v := undef) (fuel := 18) rfl rfl (by kernel_rfl) (by kernel_rfl) (by kernel_rfl) (fun _ _ _ h => h) (.inr ⟨rfl, rfl⟩) hS ?_
          simp only [List.setIfInBounds_toArray, List.set_cons_succ, List.set_cons_zero]
          refine held_take (i := 13) (t := 23) (v := (.bool false)) (fuel := 17) rfl rfl (by kernel_rfl) (by kernel_rfl) (by kernel_rfl) (fun _ _ _ h => h) (.inl ⟨rfl, fun W hW => by simp [execOp, Act.eval, go_sem]⟩) hS ?_
          simp only [List.setIfInBounds_toArray, List.set_cons_succ, List.set_cons_zero]
          refine held_take (i := 14) (t := 24) (v := (.bool false)) (fuel := 16) rfl rfl (by kernel_rfl) (by kernel_rfl) (by kernel_rfl) (fun _ _ _ h => h) (.inl ⟨rfl, fun _ _ => rfl⟩) hS ?_
          simp only [List.setIfInBounds_toArray, List.set_cons_succ, List.set_cons_zero]
          refine held_take (i := 15) (t := 25) (v := (.int .i64 (k : Int))) (fuel := 15) rfl rfl (by kernel_rfl) (by kernel_rfl) (by kernel_rfl) (fun _ _ _ h => h) (.inl ⟨rfl, fun _ _ => rfl⟩) hS ?_
          simp only [List.setIfInBounds_toArray, List.set_cons_succ, List.set_cons_zero]
          refine held_take (i := 16) (t := 26) (v := (.bool true)) (fuel := 14) rfl rfl (by kernel_rfl) (by kernel_rfl) (by kernel_rfl) (fun _ _ _ h => h) (.inl ⟨rfl, fun W hW => by simp [execOp, Act.eval, go_sem, hkp2]⟩) hS ?_
          simp only [List.setIfInBounds_toArray, List.set_cons_succ, List.set_cons_zero]
          refine held_take (i := 17) (t := 27) (v := (.bool true)) (fuel := 13) rfl rfl (by kernel_rfl) (by kernel_rfl) (by kernel_rfl) (fun _ _ _ h => h) (.inl ⟨rfl, fun _ _ => rfl⟩) hS ?_
          simp only [List.setIfInBounds_toArray, List.set_cons_succ, List.set_cons_zero]
          refine held_take (i := 18) (t := 28) (v := (.slice (some ⟨b, off, none⟩) n c)) (fuel := 12) rfl rfl (by kernel_rfl) (by kernel_rfl) (by kernel_rfl) (fun _ _ _ h => h) (.inl ⟨rfl, fun _ _ => rfl⟩) hS ?_
          simp only [List.setIfInBounds_toArray, List.set_cons_succ, List.set_cons_zero]
          refine held_take (i := 19) (t := 29) (v := (.int .i64 (k : Int))) (fuel := 11) rfl rfl (by kernel_rfl) (by kernel_rfl) (by kernel_rfl) (fun _ _ _ h => h) (.inl ⟨rfl, fun _ _ => rfl⟩) hS ?_
          simp only [List.setIfInBounds_toArray, List.set_cons_succ, List.set_cons_zero]
          refine held_take (i := 20) (t := 30) (v := (.int .i64 (j : Int))) (fuel := 10) rfl rfl (by kernel_rfl) (by kernel_rfl) (by kernel_rfl) (fun _ _ _ h => h) (.inl ⟨rfl, fun W hW => by simp [execOp, Act.eval, go_sem, hj1]⟩) hS ?_
          simp only [List.setIfInBounds_toArray, List.set_cons_succ, List.set_cons_zero]
          refine held_take (i := 21) (t := 31) (v := (.pointer (some ⟨b, off + j, none⟩))) (fuel := 9) rfl rfl (by kernel_rfl) (by kernel_rfl) (by kernel_rfl) (fun _ _ _ h => h) (.inl ⟨rfl, fun W hW => by simp [execOp, Act.eval, go_sem, i3, i4]⟩) hS ?_
          simp only [List.setIfInBounds_toArray, List.set_cons_succ, List.set_cons_zero]
          refine held_take (i := 22) (t := 32) (v := (.slice y.a q y.c)) (fuel := 8) rfl rfl (by kernel_rfl) (by kernel_rfl) (by kernel_rfl) (fun _ _ _ h => h) (.inl ⟨rfl, fun W hW => by simp [execOp, Act.eval, go_sem, hW.2.2]⟩) hS ?_
          simp only [List.setIfInBounds_toArray, List.set_cons_succ, List.set_cons_zero]
          refine held_take (i := 23) (t := 33) (v := (.slice (some ⟨b, off, none⟩) n c)) (fuel := 7) rfl rfl (by kernel_rfl) (by kernel_rfl) (by kernel_rfl) (fun _ _ _ h => h) (.inl ⟨rfl, fun _ _ => rfl⟩) hS ?_
          simp only [List.setIfInBounds_toArray, List.set_cons_succ, List.set_cons_zero]
          refine held_take (i := 24) (t := 34) (v := (.int .i64 (k : Int))) (fuel := 6) rfl rfl (by kernel_rfl) (by kernel_rfl) (by kernel_rfl) (fun _ _ _ h => h) (.inl ⟨rfl, fun _ _ => rfl⟩) hS ?_
          simp only [List.setIfInBounds_toArray, List.set_cons_succ, List.set_cons_zero]
          refine held_take (i := 25) (t := 35) (v := (.pointer (some ⟨b, off + k, none⟩))) (fuel := 5) rfl rfl (by kernel_rfl) (by kernel_rfl) (by kernel_rfl) (fun _ _ _ h => h) (.inl ⟨rfl, fun W hW => by simp [execOp, Act.eval, go_sem, i1, i2]⟩) hS ?_
          simp only [List.setIfInBounds_toArray, List.set_cons_succ, List.set_cons_zero]
          refine held_take (i := 26) (t := 36) (v := (.slice x.a p x.c)) (fuel := 4) rfl rfl (by kernel_rfl) (by kernel_rfl) (by kernel_rfl) (fun _ _ _ h => h) (.inl ⟨rfl, fun W hW => by simp [execOp, Act.eval, go_sem, hW.2.1]⟩) hS ?_
          simp only [List.setIfInBounds_toArray, List.set_cons_succ, List.set_cons_zero]
          refine held_call (i := 27) rfl (by kernel_rfl) (by kernel_rfl) ?_
          simp [Oper.wp, execOp, Act.eval, Act.put, go_sem]
          refine (HFOL.out _ hS.1).mono ?_
          rintro e w3 ⟨rfl, hb3⟩
          have hS : Below w.heap.size w w3 ∧ w3.cell? ⟨b, off + k, none⟩ = some (.slice x.a p x.c) ∧ w3.cell? ⟨b, off + j, none⟩ = some (.slice y.a q y.c) := ⟨hop hS.1 hb3, later_cell hb3 hS.2.1, later_cell hb3 hS.2.2⟩
          refine ⟨hS, ?_⟩
          try simp only [List.setIfInBounds_toArray, List.set_cons_succ, List.set_cons_zero]
          refine held_take (i := 28) (t := 38) (v := (.bool true)) (fuel := 2) rfl rfl (by kernel_rfl) (by kernel_rfl) (by kernel_rfl) (fun _ _ _ h => h) (.inl ⟨rfl, fun W hW => by simp [execOp, Act.eval, go_sem]⟩) hS ?_
          simp only [List.setIfInBounds_toArray, List.set_cons_succ, List.set_cons_zero]
          refine held_take (i := 29) (t := 39) (v := (.bool true)) (fuel := 1) rfl rfl (by kernel_rfl) (by kernel_rfl) (by kernel_rfl) (fun _ _ _ h => h) (.inl ⟨rfl, fun W hW => by simp [execOp, Act.eval, go_sem]⟩) hS ?_
          simp only [List.setIfInBounds_toArray, List.set_cons_succ, List.set_cons_zero]
          refine held_take (i := 30) (t := 40) (v := (.bool true)) (fuel := 0) rfl rfl (by kernel_rfl) (by kernel_rfl) (by kernel_rfl) (fun _ _ _ h => h) (.inl ⟨rfl, fun W hW => by simp [execOp, Act.eval, go_sem]⟩) hS ?_
          simp only [List.setIfInBounds_toArray, List.set_cons_succ, List.set_cons_zero]
          refine ⟨by kernel_rfl, ?_⟩
          go_wp2
          go_ret
          exact ⟨by rw [HK.out] <;> rfl, hS.1⟩
    · have HK := Lib.hid (HO.out.all (by rw [lsOf_len, ← HN.out]; omega))
      go_wp2
      go_ret
      exact ⟨by rw [HK.out] <;> rfl, HBel.out⟩
end Go.Proofs.Ytceoneigflejeaa
