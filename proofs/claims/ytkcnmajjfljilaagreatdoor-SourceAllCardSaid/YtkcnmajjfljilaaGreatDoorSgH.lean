/- segment: which segment has a record: sort.Search over the firsts. -/
import Derived.Test.YtkcnmajjfljilaaGreatDoorSgM
namespace Go.Proofs.YtkcnmajjfljilaaGreatDoor
open Go Go.ChangeShapes Go.WideShapes Go.ChangeAt Go.RowKit Go.ChangeMaps Go.MapKept
set_option linter.unusedVariables false
set_option linter.unusedSimpArgs false

section
variable {P S : Nat → Prop} {l f : Nat} {dir : Nm} {size len en dur : Int} {fs : List Nat} {w w' : World}
theorem over_any (h : SegAt P l f dir size fs len en dur w) (b1 b2 : Nat) (at_ : Int) (h1 : w.cell? ⟨b1, 0, none⟩ = some (.pointer (some ⟨l, 0, none⟩))) (h2 : w.cell? ⟨b2, 0, none⟩ = some (.int .i64 at_)) (i : Nat) (hi : i < fs.length) :
    Calls Tryz.prog 75 #[.int .i64 (i : Int), .pointer (some ⟨b1, 0, none⟩), .pointer (some ⟨b2, 0, none⟩)] w fun e w' => e = .returned (.bool (decide (at_ < ((fs[i] : Nat) : Int)))) ∧ Below w.heap.size w w' := by
  obtain ⟨A, c, hc, hr, hP⟩ := h.own
  obtain ⟨b, rfl, hcell⟩ := nat_at hr hi
  have c3 : w.cell? ⟨l, 3, none⟩ = some (.slice (some ⟨b, 0, none⟩) fs.length c) := hc.cell 3
  have hl := h.lens
  obtain ⟨v, hv⟩ : ∃ v, fs[i] = v := ⟨_, rfl⟩
  rw [hv] at hcell ⊢
  obtain ⟨m, hm⟩ : ∃ m, fs.length = m := ⟨_, rfl⟩
  rw [hm] at c3 hl hi
  have hi2 : (i : Int) < (m : Int) := by omega
  clear h hc hr hP hv hm
  go_enter Tryz.func75, Tryz.ntmps75
  go_wp2
  go_quiet (fail)
  go_wp2
  go_ret
  exact ⟨rfl, below_drewN _ _⟩
set_option maxHeartbeats 1000000 in
theorem search_any (lb : Array Value) (n : Nat) (p : Nat → Bool) (hn : n ≤ 999999) (hf : ∀ (W : World) (i : Nat), Below w.heap.size w W → i < n → Calls Tryz.prog 75 (#[.int .i64 (i : Int)] ++ lb) W fun e W' => e = .returned (.bool (p i)) ∧ Below W.heap.size W W')
    (hm : ∀ a b, a ≤ b → b < n → p a = true → p b = true) :
    Calls Tryz.prog 74 #[.int .i64 (n : Int), .func (.func 75) #[] lb] w fun e w' => ∃ i : Nat, e = .returned (.int .i64 (i : Int)) ∧ i ≤ n ∧ (∀ k, k < i → p k = false) ∧ (∀ k, i ≤ k → k < n → p k = true) ∧ Below w.heap.size w w' := by
  have HF := Lib.hid hf
  have HM := Lib.hid hm
  clear hf hm
  go_enter Tryz.func74, Tryz.ntmps74
  go_wp2
  go_loopw [5, 6] (fun iv jv wr => ∃ i j : Nat, iv = .int .i64 (i : Int) ∧ jv = .int .i64 (j : Int) ∧ i ≤ j ∧ j ≤ n ∧ Hid (∀ k, k < i → p k = false) ∧ Hid (∀ k, j ≤ k → k < n → p k = true) ∧ Hid (Below w.heap.size w wr)) (fun iv jv _ => (Lib.intOf jv).toNat - (Lib.intOf iv).toNat)
  case atStart => exact ⟨0, n, rfl, rfl, Nat.zero_le _, Nat.le_refl _, Lib.hid (fun k hk => absurd hk (by omega)), Lib.hid (fun k h1 h2 => absurd h2 (by omega)), Lib.hid (Below.refl _ _)⟩
  case round =>
    obtain ⟨i, j, rfl, rfl, hij, hjn, HI, HJ, HB⟩ := hrel
    by_cases hlt : i < j
    · have hlt2 : (i : Int) < (j : Int) := by omega
      obtain ⟨h, hh⟩ : ∃ h, (i + j) / 2 = h := ⟨_, rfl⟩
      have hh2 : ((i : Int) + (j : Int)) / 2 = (h : Int) := by omega
      have h1 : i ≤ h := by omega
      have h2 : h < j := by omega
      have h3 : h ≤ 999999 := by omega
      have HC := HF.out wr h HB.out (by omega)
      rw [← hh2] at HC
      cases hp : p h with
      | false =>
        rw [hp] at HC
        have HC1 := Lib.hid HC
        have HP := Lib.hid hp
        have HH2 := Lib.hid hh2
        clear HC hp hh hh2
        go_wp2_with (go_at_call 75; refine HC1.out.mono ?_; rintro e w1 ⟨rfl, hb⟩; have HB1 := Lib.hid (HB.out.trans (hb.mono HB.out.size)); clear hb)
        rw [HH2.out]
        go_roundw
        case rel => exact ⟨h + 1, j, by go_num, rfl, by omega, hjn, Lib.hid (fun k hk => by
          by_cases e : p k = true
          · have := HM.out k h (by omega) (by omega) e
            rw [HP.out] at this; cases this
          · simpa using e), HJ, HB1⟩
        case measure => simp [Lib.intOf]; omega
      | true =>
        rw [hp] at HC
        have HC1 := Lib.hid HC
        have HP := Lib.hid hp
        have HH2 := Lib.hid hh2
        clear HC hp hh hh2
        go_wp2_with (go_at_call 75; refine HC1.out.mono ?_; rintro e w1 ⟨rfl, hb⟩; have HB1 := Lib.hid (HB.out.trans (hb.mono HB.out.size)); clear hb)
        rw [HH2.out]
        go_roundw
        case rel => exact ⟨i, h, rfl, rfl, h1, by omega, HI, Lib.hid (fun k hk hkn => HM.out h k hk hkn HP.out), HB1⟩
        case measure => simp [Lib.intOf]; omega
    · have hij2 : i = j := by omega
      subst hij2
      have hlt2 : ¬ (i : Int) < (i : Int) := by omega
      go_wp2_with fail
      go_ret
      exact ⟨i, rfl, hjn, HI.out, HJ.out, HB.out⟩
theorem holder_m (h : SegAt P l f dir size fs len en dur w) (hr : fs.Pairwise (· < ·)) (at_ : Int) :
    Calls Tryz.prog 49 #[.pointer (some ⟨l, 0, none⟩), .int .i64 at_] w fun e w' => ∃ i : Nat, e = .returned (.int .i64 ((i : Int) - 1)) ∧ i ≤ fs.length ∧ (∀ (k : Nat) (hk : k < fs.length), k < i → ((fs[k] : Nat) : Int) ≤ at_) ∧ (∀ (k : Nat) (hk : k < fs.length), i ≤ k → at_ < ((fs[k] : Nat) : Int)) ∧ Below w.heap.size w w' := by
  obtain ⟨W0, hW0⟩ : ∃ W0, (w.alloc (.cells #[.pointer (some ⟨l, 0, none⟩)] 68)).alloc (.cells #[.int .i64 at_] 2) = W0 := ⟨_, rfl⟩
  have hb0 : Below w.heap.size w W0 := by rw [← hW0]; exact ((Below.refl _ w).alloc (Nat.le_refl _) _).alloc (by simp) _
  have k1 : W0.cell? ⟨w.heap.size, 0, none⟩ = some (.pointer (some ⟨l, 0, none⟩)) := by rw [← hW0]; exact ((Cells.new w #[.pointer (some ⟨l, 0, none⟩)] 68).alloc _).cell 0
  have k2 : W0.cell? ⟨w.heap.size + 1, 0, none⟩ = some (.int .i64 at_) := by rw [← hW0]; exact (cells_at _ _ (by simp) #[.int .i64 at_] 2).cell 0
  obtain ⟨A, c, hc, _, _⟩ := (h.below hb0).own
  have k3 : W0.cell? ⟨l, 3, none⟩ = some (.slice A fs.length c) := hc.cell 3
  have hlens := h.lens
  have HS := Lib.hid (search_any (w := W0) #[.pointer (some ⟨w.heap.size, 0, none⟩), .pointer (some ⟨w.heap.size + 1, 0, none⟩)] fs.length (fun i => decide (at_ < ((fs.getD i 0 : Nat) : Int))) hlens
    (fun W i hb hi => by
      have := over_any ((h.below hb0).below hb) w.heap.size (w.heap.size + 1) at_ (cell_later hb k1) (cell_later hb k2) i hi
      rw [← getD_at hi] at this
      exact this)
    (fun a b hab hb ha => by
      rw [getD_at hb]
      rw [getD_at (show a < fs.length by omega)] at ha
      have h1 := of_decide_eq_true ha
      have h2 : fs[a] ≤ fs[b] := by
        by_cases e : a = b
        · subst e; exact Nat.le_refl _
        · exact Nat.le_of_lt ((List.pairwise_iff_getElem.1 hr) a b (by omega) hb (by omega))
      exact decide_eq_true (by omega)))
  have HB0 := Lib.hid hb0
  have HW0 := Lib.hid hW0
  obtain ⟨A0, c2, hc0, _, _⟩ := h.own
  have HC3 := Lib.hid (show w.cell? ⟨l, 3, none⟩ = some (.slice A0 fs.length c2) from hc0.cell 3)
  have HLT := Lib.hid (h.lt _ h.pl)
  clear h hr hb0 k1 k2 k3 hc hc0 hW0
  go_enter Tryz.func49, Tryz.ntmps49
  have c0 : w.cell? ⟨l, 3, none⟩ = some (.slice A0 fs.length c2) := HC3.out
  have hl := HLT.out
  go_wp2_with (go_at_call 74; go_loud ((rw [HW0.out]; refine HS.out.mono ?_; rintro e w1 ⟨i, rfl, h1, h2, h3, h4⟩; have HI := Lib.hid h2; have HJ := Lib.hid h3; have HB1 := Lib.hid (HB0.out.trans (h4.mono HB0.out.size)); clear h2 h3 h4)))
  go_ret
  refine ⟨i, rfl, h1, fun k hk hki => ?_, fun k hk hki => ?_, HB1.out⟩
  · have := HI.out k hki
    rw [getD_at hk] at this
    have := of_decide_eq_false this
    omega
  · have := HJ.out k hki hk
    rw [getD_at hk] at this
    exact of_decide_eq_true this
end
end Go.Proofs.YtkcnmajjfljilaaGreatDoor
