/- Ranges: how many places they have, those of nothing, and lists of them that are the same. -/
import Derived.Test.YtceoneigflejeaaOffA
import Derived.Test.YtceoneigflejeaaOffC3
namespace Go.Proofs.Ytceoneigflejeaa
open Go.ChangeShapes Go.WideShapes Go.ChangeAt Go.RowKit
set_option linter.unusedVariables false

def sumK (l : List Rg) (k : Nat) : Int := ((l.take k).map fun r => r.t - r.f).sum
theorem sumK_zero (l : List Rg) : sumK l 0 = 0 := by simp [sumK]
theorem sumK_next {l : List Rg} {k : Nat} (h : k < l.length) : sumK l (k + 1) = sumK l k + (l[k].t - l[k].f) := by
  unfold sumK
  rw [List.take_succ_eq_append_getElem h, List.map_append, List.sum_append]
  simp only [List.map_cons, List.map_nil, List.sum_cons, List.sum_nil, Int.add_zero]
theorem sumK_all {l : List Rg} {k : Nat} (h : l.length ≤ k) : sumK l k = sumK l l.length := by
  unfold sumK
  rw [List.take_of_length_le h, List.take_of_length_le (Nat.le_refl _)]
theorem sumK_le {l : List Rg} (ho : ∀ r ∈ l, okB r = true) : ∀ k, k ≤ l.length → 0 ≤ sumK l k ∧ sumK l k ≤ 1099511627776 * (k : Int)
  | 0, _ => by simp [sumK]
  | k + 1, h => by
    have ih := sumK_le ho k (by omega)
    have hx := (okB_iff l[k]).1 (ho _ (List.getElem_mem (by omega)))
    rw [sumK_next (by omega)]
    omega
def rowsV (l : List Rg) : Int := if rightB l then sumK l l.length else 0
theorem rowsV_no {l : List Rg} (h : rightB l = false) : rowsV l = 0 := by unfold rowsV; rw [h]; rfl
theorem rowsV_yes {l : List Rg} (h : rightB l = true) : rowsV l = sumK l l.length := by unfold rowsV; rw [h]; rfl
theorem wr64 {x : Int} (h : in64 x) : IntKind.i64.wrap x = x := by unfold in64 at h; rw [IntKind.wrap_i64]; omega

set_option maxRecDepth 4000 in
set_option maxHeartbeats 1000000 in
theorem rows_walk (l : List Rg) (A : Option Addr) (n c : Nat) (w : World) (hn : n = l.length) (hm : n ≤ maxLen) (hat : RowC rgCells 2 w w.heap.size A l) :
    Calls Try.prog 10 #[.slice A n c] w fun e w' => e = .returned (.int .i64 (rowsV l)) ∧ Below w.heap.size w w' := by
  have HN := Lib.hid hn
  have HA := Lib.hid hat
  have HC := Lib.hid (check_walk l A n c w hn hm hat)
  have hn9 : n ≤ 9223372036854775807 := by unfold maxLen at hm; omega
  clear hat hn hm
  cases hr : rightB l with
  | false =>
    have HR := Lib.hid (rowsV_no hr)
    have HE := Lib.hid (chkO_no hr)
    rw [HE.out] at HC
    clear hr
    go_enter Try.func10, Try.ntmps10
    go_wp2_with (go_at_call 9; refine HC.out.mono ?_; rintro e w1 ⟨rfl, hb1⟩; have HB := Lib.hid hb1; clear hb1)
    go_ret
    exact ⟨by rw [HR.out] <;> rfl, HB.out⟩
  | true =>
    have HR := Lib.hid (rowsV_yes hr)
    have HE := Lib.hid (chkO_yes hr)
    rw [HE.out] at HC
    have HP := Lib.hid (right_parts hr)
    clear hr
    go_enter Try.func10, Try.ntmps10
    go_wp2_with (go_at_call 9; refine HC.out.mono ?_; rintro e w1 ⟨rfl, hb1⟩; have HB := Lib.hid hb1; clear hb1)
    go_loopw [3, 11] (fun sv iv wr => ∃ k : Nat, k ≤ n ∧ sv = .int .i64 (sumK l k) ∧ iv = .int .i64 (k : Int) ∧ Hid (Below w.heap.size w wr)) (fun _ iv _ => n - (intOf iv).toNat)
    case atStart => exact ⟨0, Nat.zero_le _, by rw [sumK_zero], rfl, HB⟩
    case round =>
      obtain ⟨k, hk, rfl, rfl, HBel⟩ := hrel
      by_cases hlt : k < n
      · have hkl : k < l.length := by rw [← HN.out]; exact hlt
        obtain ⟨b, off, rfl, hB, hc⟩ := (HA.out.below HBel.out) k hkl
        have c0 := hc 0 _ rfl
        have c1 := hc 1 _ rfl
        rw [Nat.add_zero] at c0
        have hx := (okB_iff l[k]).1 (HP.out.2.2 _ (List.getElem_mem hkl))
        have hs := sumK_le HP.out.2.2 k (by omega)
        have hk4 : k ≤ 4 := by have := HP.out.2.1; omega
        have HS := Lib.hid (sumK_next hkl)
        obtain ⟨x, hxx⟩ : ∃ x, l[k] = x := ⟨_, rfl⟩
        rw [hxx] at HS hx
        simp only [hxx] at c0 c1
        obtain ⟨s, hsk⟩ : ∃ s, sumK l k = s := ⟨_, rfl⟩
        rw [hsk] at HS hs ⊢
        have w1 : IntKind.i64.wrap (x.t - x.f) = x.t - x.f := wr64 (by unfold in64; omega)
        have w2 : IntKind.i64.wrap (s + (x.t - x.f)) = s + (x.t - x.f) := wr64 (by unfold in64; omega)
        have hbs := HBel.out.size
        clear hxx hc hx hs hk4 hsk
        go_wp2
        go_roundw
        case rel => exact ⟨k + 1, by omega, by rw [HS.out], by go_num, Lib.hid (HBel.out.alloc hbs _)⟩
        case measure => simp [intOf]; omega
      · have HF := Lib.hid (show sumK l k = rowsV l by rw [HR.out]; exact sumK_all (by rw [← HN.out]; omega))
        go_wp2
        go_ret
        exact ⟨by rw [HF.out] <;> rfl, HBel.out⟩

theorem infoRg : (Try.prog.info? 26).map (fun i => (i.zero, i.size, i.bytes)) = some (some (Value.agg #[.int .i64 0, .int .i64 0]), 2, 16) := by kernel_rfl
def noRg : Rg := ⟨0, 0⟩
theorem right_nones {p : Nat} (h1 : 1 ≤ p) (h4 : p ≤ 4) : rightB (List.replicate p noRg) = true :=
  right_of (by simpa using h1) (by simpa using h4) fun r hr => by rw [List.eq_of_mem_replicate hr]; rfl

theorem made_rg (p : Nat) (h1 : 1 ≤ p) (h4 : p ≤ 4) : madeCells #[.int .i64 0, .int .i64 0] (p * 2) = ((List.replicate p noRg).flatMap rgCells).toArray := by
  rcases (show p = 1 ∨ p = 2 ∨ p = 3 ∨ p = 4 by omega) with rfl | rfl | rfl | rfl <;> kernel_rfl
theorem start_no (p : Int) (w : World) (hp : p < 1 ∨ 4 < p) :
    Calls Try.prog 11 #[.int .i64 p] w fun e w' => e = .returned (.tuple #[.slice none 0 0, .int .i64 80]) ∧ w = w' := by
  by_cases h1 : p < 1
  · have hd1 : decide (p < 1) = true := decide_eq_true h1
    clear h1 hp
    go_enter Try.func11, Try.ntmps11
    go_wp2
    go_ret2
    exact ⟨rfl, rfl⟩
  · have hd1 : decide (p < 1) = false := decide_eq_false h1
    have hd4 : decide (4 < p) = true := decide_eq_true (by omega)
    clear h1 hp
    go_enter Try.func11, Try.ntmps11
    go_wp2
    go_ret2
    exact ⟨rfl, rfl⟩
theorem start_yes (p : Nat) (w : World) (h1 : 1 ≤ p) (h4 : p ≤ 4) :
    Calls Try.prog 11 #[.int .i64 (p : Int)] w fun e w' => ∃ A c, e = .returned (.tuple #[.slice A p c, .int .i64 0]) ∧ RowC rgCells 2 w' w'.heap.size A (List.replicate p noRg) ∧ Below w.heap.size w w' := by
  obtain ⟨i0, hi, hz0, hz1, hz2⟩ := info_parts infoRg
  obtain ⟨M, hM⟩ : ∃ M, madeCells #[.int .i64 0, .int .i64 0] (p * 2) = M := ⟨_, rfl⟩
  have hmk : ∀ W : World, (Instr.makeSlice 22 (.int .i64 (p : Int)) (.int .i64 (p : Int))).run Try.prog W = .ok (.slice (some ⟨W.heap.size, 0, none⟩) p p) (W.alloc (.cells M 26)) := fun W => by
    have h := run_make (P := Try.prog) W 22 26 i0 _ Try.underlying22 hi hz0 .i64 .i64 (p : Int) (p : Int) (by omega) (by omega) (by rw [hz2]; omega) (by omega)
    rw [hz1] at h
    simp only [Int.toNat_natCast] at h
    rw [h, ← hM]
    rfl
  have HM := Lib.hid (show M = ((List.replicate p noRg).flatMap rgCells).toArray by rw [← hM]; exact made_rg p h1 h4)
  have hd1 : decide ((p : Int) < 1) = false := decide_eq_false (by omega)
  have hd4 : decide (4 < (p : Int)) = false := decide_eq_false (by omega)
  clear hi hz0 hz1 hz2 hM
  go_enter Try.func11, Try.ntmps11
  go_wp2
  go_ret2
  exact ⟨_, _, rfl, RowC.new rgCells_length w _ _ _ HM.out, (Below.refl _ w).alloc (Nat.le_refl _) _⟩
end Go.Proofs.Ytceoneigflejeaa
