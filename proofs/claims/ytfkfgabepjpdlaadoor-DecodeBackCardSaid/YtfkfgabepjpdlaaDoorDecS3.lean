/- Layer 12, walked: the document's digits. -/
import Derived.Test.YtfkfgabepjpdlaaDoorDecS2
import Derived.Test.YtfkfgabepjpdlaaDoorDecA
namespace Go.Proofs.YtfkfgabepjpdlaaDoor
open Go.ChangeShapes Go.WideShapes Go.ChangeAt Go.RowKit
open Go.Lib (byteCells byteCells_length byteCells_append strCells)
set_option linter.unusedVariables false

theorem one_byte (W : World) (d : Nat) (h : d < 10) (z : Int) (hz : z = 48 + (d : Int)) :
    (convert 35 9 (.slice (some ⟨W.heap.size, 0, none⟩) 1 1)).run Tryd.prog (W.alloc (.cells #[.int .u8 z] 5)) = .ok (.string (txt [UInt8.ofNat (48 + d)])) (W.alloc (.cells #[.int .u8 z] 5)) := by
  refine string_of_bytes (some ⟨W.heap.size, 0, none⟩) 1 1 [UInt8.ofNat (48 + d)] _ rfl (lit_bytes W [UInt8.ofNat (48 + d)] #[.int .u8 z] (0, 0) ?_)
  have := ofd d h
  simp only [byteCells, List.map_cons, List.map_nil, this]
  rw [hz]
  rfl
theorem txt_app (a b : List UInt8) : txt a ++ txt b = txt (a ++ b) := str_ext (by simp [txt])
theorem dig_len20 {n : Nat} (h : n < 18446744073709551616) : (Lib.decDigits n).length ≤ 20 := dig_len n 19 (by omega)
set_option maxHeartbeats 2000000 in
set_option maxRecDepth 20000 in
theorem size_walk : ∀ (n : Nat) (hn : n < 18446744073709551616) (w : World),
    Calls Tryd.prog 46 #[.int .u64 (n : Int)] w fun e w' => e = .returned (.string (txt (Lib.decDigits n))) ∧ Below w.heap.size w w' := by
  intro n
  induction n using Nat.strongRecOn with
  | _ n ih =>
    intro hn w
    by_cases h10 : n < 10
    · have p1 : decide ((n : Int) < 10) = true := decide_eq_true (by omega)
      have g1 : IntKind.u64.wrap (48 + (n : Int)) = 48 + (n : Int) := by rw [IntKind.wrap_u64]; omega
      have g2 : IntKind.u8.wrap (48 + (n : Int)) = 48 + (n : Int) := by rw [IntKind.wrap_u8]; omega
      have hcv := one_byte w n h10 _ rfl
      obtain ⟨z8, hz8⟩ : ∃ z8, UInt8.ofNat (48 + n) = z8 := ⟨_, rfl⟩
      have HX := Lib.hid (show Lib.decDigits n = [z8] by rw [← hz8]; exact dig_small h10)
      rw [hz8] at hcv
      clear hz8
      clear ih
      go_enter Tryd.func46, Tryd.ntmps46
      go_wp2
      go_ret
      rw [HX.out]
      exact ⟨rfl, (Below.refl _ _).alloc (Nat.le_refl _) _⟩
    · have p1 : decide ((n : Int) < 10) = false := decide_eq_false (by omega)
      have HI := Lib.hid (fun W => ih (n / 10) (by omega) (by omega) W)
      have HX0 := Lib.hid (dig_big h10)
      obtain ⟨z8, hz8⟩ : ∃ z8, UInt8.ofNat (48 + n % 10) = z8 := ⟨_, rfl⟩
      have HX := Lib.hid (show Lib.decDigits n = Lib.decDigits (n / 10) ++ [z8] by rw [HX0.out, hz8])
      have hd : n % 10 < 10 := Nat.mod_lt _ (by omega)
      obtain ⟨q, hq⟩ : ∃ q, n / 10 = q := ⟨_, rfl⟩
      obtain ⟨r, hr⟩ : ∃ r, n % 10 = r := ⟨_, rfl⟩
      rw [hq] at HI HX
      rw [hr] at hd hz8
      have e1 : (n : Int) / 10 = (q : Int) := by omega
      have e2 : (n : Int) % 10 = (r : Int) := by omega
      have e3 : (n : Int).tdiv 10 = (q : Int) := by rw [Int.tdiv_eq_ediv_of_nonneg (by omega)]; exact e1
      have e4 : (n : Int).tmod 10 = (r : Int) := by rw [Int.tmod_eq_emod_of_nonneg (by omega)]; exact e2
      have g0 : IntKind.u64.wrap (q : Int) = (q : Int) := by rw [IntKind.wrap_u64]; omega
      have g00 : IntKind.u64.wrap (r : Int) = (r : Int) := by rw [IntKind.wrap_u64]; omega
      have g1 : IntKind.u64.wrap (48 + (r : Int)) = 48 + (r : Int) := by rw [IntKind.wrap_u64]; omega
      have g2 : IntKind.u8.wrap (48 + (r : Int)) = 48 + (r : Int) := by rw [IntKind.wrap_u8]; omega
      have g3 : (48 + (r : Int)) % 256 = 48 + (r : Int) := by omega
      have HOB := Lib.hid (show ∀ W : World, (convert 35 9 (.slice (some ⟨W.heap.size, 0, none⟩) 1 1)).run Tryd.prog (W.alloc (.cells #[.int .u8 (48 + (r : Int))] 5)) = .ok (.string (txt [z8])) (W.alloc (.cells #[.int .u8 (48 + (r : Int))] 5)) from fun W => by rw [← hz8]; exact one_byte W r hd _ rfl)
      have HLB := Lib.hid (show ∀ W : World, BytesAt (W.alloc (.cells #[.int .u8 (48 + (r : Int))] 5)) (W.alloc (.cells #[.int .u8 (48 + (r : Int))] 5)).heap.size (some ⟨W.heap.size, 0, none⟩) [z8] from fun W => lit_bytes W [z8] _ (0, 0) (by
        have := ofd r hd
        rw [hz8] at this
        simp only [byteCells, List.map_cons, List.map_nil, this]
        rfl))
      obtain ⟨D, hD⟩ : ∃ D, Lib.decDigits q = D := ⟨_, rfl⟩
      have hDl : ¬ 9223372036854775807 < (txt D).size + (txt [z8]).size := by
        rw [txt_size, txt_size, ← hD]
        have := dig_len20 (n := q) (by omega)
        simp; omega
      rw [hD] at HI HX
      clear ih hq hr hz8 hD HX0
      go_enter Tryd.func46, Tryd.ntmps46
      go_wp2_with fail
      have hS : Hid True := Lib.hid trivial
      refine held_begin 11 (fun W => Hid True) rfl (by kernel_rfl) ?_
      refine held_take (i := 0) (t := 10) (v := (.int .u64 (n : Int))) (fuel := 10) rfl rfl (by kernel_rfl) (by kernel_rfl) (by kernel_rfl) (fun _ _ _ h => h) (.inl ⟨rfl, fun W hW => by simp [execOp, Act.eval, go_sem]⟩) hS ?_
      simp only [List.setIfInBounds_toArray, List.set_cons_succ, List.set_cons_zero]
      refine held_take (i := 1) (t := 11) (v := (.int .u64 (q : Int))) (fuel := 9) rfl rfl (by kernel_rfl) (by kernel_rfl) (by kernel_rfl) (fun _ _ _ h => h) (.inl ⟨rfl, fun W hW => by simp [execOp, Act.eval, go_sem, e3, g0]⟩) hS ?_
      simp only [List.setIfInBounds_toArray, List.set_cons_succ, List.set_cons_zero]
      refine held_take (i := 3) (t := 13) (v := (.int .u64 (n : Int))) (fuel := 8) rfl rfl (by kernel_rfl) (by kernel_rfl) (by kernel_rfl) (fun _ _ _ h => h) (.inl ⟨rfl, fun W hW => by simp [execOp, Act.eval, go_sem]⟩) hS ?_
      simp only [List.setIfInBounds_toArray, List.set_cons_succ, List.set_cons_zero]
      refine held_take (i := 4) (t := 14) (v := (.int .u64 (r : Int))) (fuel := 7) rfl rfl (by kernel_rfl) (by kernel_rfl) (by kernel_rfl) (fun _ _ _ h => h) (.inl ⟨rfl, fun W hW => by simp [execOp, Act.eval, go_sem, e4]⟩) hS ?_
      simp only [List.setIfInBounds_toArray, List.set_cons_succ, List.set_cons_zero]
      refine held_take (i := 5) (t := 15) (v := (.int .u64 (48 + (r : Int)))) (fuel := 6) rfl rfl (by kernel_rfl) (by kernel_rfl) (by kernel_rfl) (fun _ _ _ h => h) (.inl ⟨rfl, fun W hW => by simp [execOp, Act.eval, go_sem, g1]⟩) hS ?_
      simp only [List.setIfInBounds_toArray, List.set_cons_succ, List.set_cons_zero]
      refine held_take (i := 6) (t := 16) (v := (.int .u8 (48 + (r : Int)))) (fuel := 5) rfl rfl (by kernel_rfl) (by kernel_rfl) (by kernel_rfl) (fun _ _ _ h => h) (.inl ⟨rfl, fun W hW => by simp [execOp, Act.eval, go_sem, g2]⟩) hS ?_
      simp only [List.setIfInBounds_toArray, List.set_cons_succ, List.set_cons_zero]
      refine held_two (i := 2) (j := 7) rfl rfl (by kernel_rfl) (by kernel_rfl) (by kernel_rfl) ?_ ?_
      · simp [Oper.wp, execOp, Act.eval, Act.put, go_sem]
        refine (HI.out _).mono ?_
        rintro e w1 ⟨rfl, hb1⟩
        have HB1 := Lib.hid (show Below w.heap.size w w1 from ((Below.refl w.heap.size w).drew).trans hb1)
        refine ⟨hS, ?_⟩
        clear hb1
        try simp only [List.setIfInBounds_toArray, List.set_cons_succ, List.set_cons_zero]
        refine held_call (i := 7) rfl (by kernel_rfl) (by kernel_rfl) ?_
        simp [Oper.wp, execOp, Act.eval, Act.put, go_sem]
        refine ⟨hS, ?_⟩
        try simp only [List.setIfInBounds_toArray, List.set_cons_succ, List.set_cons_zero]
        have hcv := HOB.out w1
        refine held_call (i := 8) rfl (by kernel_rfl) (by kernel_rfl) ?_
        simp [Oper.wp, execOp, Act.eval, Act.put, go_sem, hcv]
        refine ⟨hS, ?_⟩
        try simp only [List.setIfInBounds_toArray, List.set_cons_succ, List.set_cons_zero]
        refine held_take (i := 9) (t := 19) (v := (.string (txt (D ++ [z8])))) (fuel := 1) rfl rfl (by kernel_rfl) (by kernel_rfl) (by kernel_rfl) (fun _ _ _ h => h) (.inl ⟨rfl, fun W hW => by simp [execOp, Act.eval, go_sem, txt_app, hDl]⟩) hS ?_
        simp only [List.setIfInBounds_toArray, List.set_cons_succ, List.set_cons_zero]
        refine held_take (i := 10) (t := 2) (v := (.string (txt (D ++ [z8])))) (fuel := 0) rfl rfl (by kernel_rfl) (by kernel_rfl) (by kernel_rfl) (fun _ _ _ h => h) (.inl ⟨rfl, fun W hW => by simp [execOp, Act.eval, go_sem]⟩) hS ?_
        simp only [List.setIfInBounds_toArray, List.set_cons_succ, List.set_cons_zero]
        refine wpAnyH_done (by kernel_rfl) ?_ 0
        go_wp2
        go_ret
        rw [HX.out]
        exact ⟨rfl, HB1.out.alloc HB1.out.size _⟩
      · simp [Oper.wp, execOp, Act.eval, Act.put, go_sem]
        refine ⟨hS, ?_⟩
        try simp only [List.setIfInBounds_toArray, List.set_cons_succ, List.set_cons_zero]
        have HBA0 := Lib.hid (HLB.out w)
        have HBw0 := Lib.hid (show Below w.heap.size w (w.alloc (.cells #[.int .u8 (48 + (r : Int))] 5)).drew from ((Below.refl _ w).alloc (Nat.le_refl _) _).drew)
        have HBA := Lib.hid (show BytesAt (w.alloc (.cells #[.int .u8 (48 + (r : Int))] 5)).drew (w.alloc (.cells #[.int .u8 (48 + (r : Int))] 5)).drew.heap.size (some ⟨w.heap.size, 0, none⟩) [z8] from HBA0.out)
        obtain ⟨W1, hW1⟩ : ∃ W1, (w.alloc (.cells #[.int .u8 (48 + (r : Int))] 5)).drew = W1 := ⟨_, rfl⟩
        obtain ⟨g, hg⟩ : ∃ g, w.heap.size = g := ⟨_, rfl⟩
        rw [hW1] at HBA HBw0 ⊢
        rw [hg] at HBA ⊢
        have HGR := Lib.hid hg
        clear hW1 hg HBA0 hS
        refine held_more (S' := fun W => Hid ((convert 35 9 (.slice (some ⟨g, 0, none⟩) 1 1)).run Tryd.prog W = .ok (.string (txt [z8])) W)) (fun _ _ => Lib.hid trivial) _ _ _ _ ?_
        have hS : Hid ((convert 35 9 (.slice (some ⟨g, 0, none⟩) 1 1)).run Tryd.prog W1 = .ok (.string (txt [z8])) W1) := Lib.hid (string_of_bytes _ 1 1 [z8] W1 rfl HBA.out)
        refine held_take (i := 8) (t := 18) (v := (.string (txt [z8]))) (fuel := 3) rfl rfl (by kernel_rfl) (by kernel_rfl) (by kernel_rfl) (fun _ _ _ h => h) (.inl ⟨rfl, fun W hW => by simp [execOp, Act.eval, go_sem, hW.out]⟩) hS ?_
        simp only [List.setIfInBounds_toArray, List.set_cons_succ, List.set_cons_zero]
        refine held_call (i := 2) rfl (by kernel_rfl) (by kernel_rfl) ?_
        simp [Oper.wp, execOp, Act.eval, Act.put, go_sem]
        refine (HI.out _).mono ?_
        rintro e W2 ⟨rfl, hb1⟩
        have HB1 := Lib.hid (hop0 HBw0.out hb1)
        have hS : Hid ((convert 35 9 (.slice (some ⟨g, 0, none⟩) 1 1)).run Tryd.prog W2 = .ok (.string (txt [z8])) W2) := Lib.hid (string_of_bytes _ 1 1 [z8] W2 rfl ((HBA.out.below hb1).more hb1.size))
        refine ⟨hS, ?_⟩
        clear hb1
        try simp only [List.setIfInBounds_toArray, List.set_cons_succ, List.set_cons_zero]
        refine held_take (i := 9) (t := 19) (v := (.string (txt (D ++ [z8])))) (fuel := 1) rfl rfl (by kernel_rfl) (by kernel_rfl) (by kernel_rfl) (fun _ _ _ h => h) (.inl ⟨rfl, fun W hW => by simp [execOp, Act.eval, go_sem, txt_app, hDl]⟩) hS ?_
        simp only [List.setIfInBounds_toArray, List.set_cons_succ, List.set_cons_zero]
        refine held_take (i := 10) (t := 2) (v := (.string (txt (D ++ [z8])))) (fuel := 0) rfl rfl (by kernel_rfl) (by kernel_rfl) (by kernel_rfl) (fun _ _ _ h => h) (.inl ⟨rfl, fun W hW => by simp [execOp, Act.eval, go_sem]⟩) hS ?_
        simp only [List.setIfInBounds_toArray, List.set_cons_succ, List.set_cons_zero]
        refine wpAnyH_done (by kernel_rfl) ?_ 0
        go_wp2
        go_ret
        rw [HX.out]
        exact ⟨rfl, HB1.out⟩
set_option maxRecDepth 20000 in
theorem digits_any (n : Int) (hn : in64 n) (w : World) :
    Calls Tryd.prog 35 #[.int .i64 n] w fun e w' => e = .returned (.string (txt (Lib.itoa n))) ∧ Below w.heap.size w w' := by
  unfold in64 at hn
  by_cases h0 : n < 0
  · obtain ⟨u, rfl⟩ : ∃ u : Nat, n = -(u : Int) := ⟨n.natAbs, by omega⟩
    have p1 : 0 < u := by omega
    have HS := Lib.hid (size_walk u (by omega))
    have g1 : IntKind.u64.wrap (-(u : Int)) = 18446744073709551616 - (u : Int) := by rw [IntKind.wrap_u64]; omega
    have g2 : IntKind.u64.wrap (-(18446744073709551616 - (u : Int))) = (u : Int) := by rw [IntKind.wrap_u64]; omega
    have g3 : IntKind.u64.wrap (-IntKind.u64.wrap (-(u : Int))) = (u : Int) := by rw [g1, g2]
    have HX := Lib.hid (show Lib.itoa (-(u : Int)) = 45 :: Lib.decDigits u from Lib.itoa_neg u (by omega))
    have HL := Lib.hid (dig_len20 (n := u) (by omega))
    obtain ⟨D, hD⟩ : ∃ D, Lib.decDigits u = D := ⟨_, rfl⟩
    rw [hD] at HS HX HL
    have hDl : ¬ 9223372036854775807 < (⟨#[45]⟩ : ByteArray).size + (txt D).size := by
      rw [txt_size, show (⟨#[45]⟩ : ByteArray).size = 1 from rfl]
      have := HL.out
      omega
    have ha : (⟨#[45]⟩ : ByteArray) ++ txt D = txt (45 :: D) := txt_app [45] D
    have HG3 := Lib.hid g3
    clear hD h0 g1 g2 g3
    go_enter Tryd.func35, Tryd.ntmps35
    go_wp2_with (go_at_call 46; rw [HG3.out]; refine (HS.out _).mono ?_; rintro e w1 ⟨rfl, hb1⟩; have HB1 := Lib.hid hb1; clear hb1)
    go_ret
    rw [HX.out]
    exact ⟨rfl, HB1.out⟩
  · obtain ⟨u, rfl⟩ : ∃ u : Nat, n = (u : Int) := ⟨n.toNat, by omega⟩
    have p1 : decide ((u : Int) < 0) = false := decide_eq_false h0
    have HS := Lib.hid (size_walk u (by omega))
    have g1 : IntKind.u64.wrap (u : Int) = (u : Int) := by rw [IntKind.wrap_u64]; omega
    have HX := Lib.hid (Lib.itoa_nonneg u)
    go_enter Tryd.func35, Tryd.ntmps35
    go_wp2_with (go_at_call 46; refine (HS.out _).mono ?_; rintro e w1 ⟨rfl, hb1⟩; have HB1 := Lib.hid hb1; clear hb1)
    go_ret
    rw [HX.out]
    exact ⟨rfl, HB1.out⟩
end Go.Proofs.YtfkfgabepjpdlaaDoor
