/- Ranges: which are right, how many places they have, the first of all. -/
import Derived.Test.YtceoneigflejeaaOffC2
import Derived.BigQuiet
import Derived.Laws.OwnMore
namespace Go.Proofs.Ytceoneigflejeaa
open Go.ChangeShapes Go.WideShapes Go.ChangeAt Go.RowKit
set_option linter.unusedVariables false

theorem bd {B : Nat} {w W : World} (h : Below B w W) (n : Nat) : Below B w (W.drewN n) := ⟨h.os, h.tape, h.output, h.size, h.block⟩
structure Rg where
  f : Int
  t : Int
def rgCells (r : Rg) : List Value := [.int .i64 r.f, .int .i64 r.t]
theorem rgCells_length (r : Rg) : (rgCells r).length = 2 := rfl
theorem rgCells_one (r : Rg) : ∀ u ∈ rgCells r, u.oneCell' = true := by simp [rgCells, Value.oneCell']
def Rg.wf (r : Rg) : Prop := in64 r.f ∧ in64 r.t
def okB (r : Rg) : Bool := decide (0 ≤ r.f) && (decide (r.f ≤ r.t) && decide (r.t ≤ 1099511627776))
theorem okB_iff (r : Rg) : okB r = true ↔ 0 ≤ r.f ∧ r.f ≤ r.t ∧ r.t ≤ 1099511627776 := by simp [okB]
theorem okB_no {r : Rg} (h : okB r = false) : r.f < 0 ∨ (0 ≤ r.f ∧ r.t < r.f) ∨ (0 ≤ r.f ∧ r.f ≤ r.t ∧ 1099511627776 < r.t) := by
  have : ¬ (0 ≤ r.f ∧ r.f ≤ r.t ∧ r.t ≤ 1099511627776) := by rw [← okB_iff, h]; simp
  omega
def rightB (l : List Rg) : Bool := decide (1 ≤ l.length) && (decide (l.length ≤ 4) && l.all okB)
theorem right_parts {l : List Rg} (h : rightB l = true) : 1 ≤ l.length ∧ l.length ≤ 4 ∧ ∀ r ∈ l, okB r = true := by
  unfold rightB at h
  simp only [Bool.and_eq_true, decide_eq_true_eq, List.all_eq_true] at h
  exact h
theorem right_of {l : List Rg} (h1 : 1 ≤ l.length) (h2 : l.length ≤ 4) (h3 : ∀ r ∈ l, okB r = true) : rightB l = true := by
  unfold rightB
  simp only [Bool.and_eq_true, decide_eq_true_eq, List.all_eq_true]
  exact ⟨h1, h2, h3⟩
theorem right_none {l : List Rg} (h : l.length < 1 ∨ 4 < l.length) : rightB l = false := by
  cases hr : rightB l with
  | false => rfl
  | true => have := right_parts hr; omega
theorem right_at {l : List Rg} {k : Nat} (hk : k < l.length) (h : okB l[k] = false) : rightB l = false := by
  cases hr : rightB l with
  | false => rfl
  | true =>
    have := (right_parts hr).2.2 _ (List.getElem_mem hk)
    rw [h] at this; cases this
def OkTo (l : List Rg) (k : Nat) : Prop := ∀ j (h : j < l.length), j < k → okB l[j] = true
theorem OkTo.next {l : List Rg} {k : Nat} (h : OkTo l k) (hk : k < l.length) (ho : okB l[k] = true) : OkTo l (k + 1) := by
  intro j hj hjk
  by_cases e : j = k
  · subst e; exact ho
  · exact h j hj (by omega)
theorem OkTo.all {l : List Rg} {k : Nat} (h : OkTo l k) (hk : l.length ≤ k) (h1 : 1 ≤ l.length) (h2 : l.length ≤ 4) : rightB l = true :=
  right_of h1 h2 fun r hr => by
    obtain ⟨j, hj, rfl⟩ := List.getElem_of_mem hr
    exact h j hj (by omega)
def chkO (b : Bool) : Int := if b then 0 else 80
theorem chkO_no {b : Bool} (h : b = false) : chkO b = 80 := by rw [h]; rfl
theorem chkO_yes {b : Bool} (h : b = true) : chkO b = 0 := by rw [h]; rfl

set_option maxRecDepth 4000 in
set_option maxHeartbeats 1000000 in
theorem check_walk (l : List Rg) (A : Option Addr) (n c : Nat) (w : World) (hn : n = l.length) (hm : n ≤ maxLen) (hat : RowC rgCells 2 w w.heap.size A l) :
    Calls Try.prog 9 #[.slice A n c] w fun e w' => e = .returned (.int .i64 (chkO (rightB l))) ∧ Below w.heap.size w w' := by
  have HN := Lib.hid hn
  have HA := Lib.hid hat
  have hn9 : n ≤ 9223372036854775807 := by unfold maxLen at hm; omega
  clear hat hn hm
  by_cases h1 : n < 1
  · have HR := Lib.hid (right_none (l := l) (.inl (by rw [← HN.out]; exact h1)))
    have hd1 : decide ((n : Int) < 1) = true := decide_eq_true (by omega)
    go_enter Try.func9, Try.ntmps9
    go_wp2
    go_ret
    exact ⟨by rw [chkO_no HR.out] <;> rfl, Below.refl _ _⟩
  by_cases h4 : 4 < n
  · have HR := Lib.hid (right_none (l := l) (.inr (by rw [← HN.out]; exact h4)))
    have hd1 : decide ((n : Int) < 1) = false := decide_eq_false (by omega)
    have hd4 : decide (4 < (n : Int)) = true := decide_eq_true (by omega)
    go_enter Try.func9, Try.ntmps9
    go_wp2
    go_ret
    exact ⟨by rw [chkO_no HR.out] <;> rfl, Below.refl _ _⟩
  have hd1 : decide ((n : Int) < 1) = false := decide_eq_false (by omega)
  have hd4 : decide (4 < (n : Int)) = false := decide_eq_false (by omega)
  go_enter Try.func9, Try.ntmps9
  go_wp2
  go_loopw [15] (fun iv wr => ∃ k : Nat, k ≤ n ∧ iv = .int .i64 (k : Int) ∧ Hid (OkTo l k) ∧ Hid (Below w.heap.size w wr)) (fun iv _ => n - (intOf iv).toNat)
  case atStart => exact ⟨0, Nat.zero_le _, rfl, Lib.hid (fun j _ h => absurd h (by omega)), Lib.hid (Below.refl _ _)⟩
  case round =>
    obtain ⟨k, hk, rfl, HO, HBel⟩ := hrel
    by_cases hlt : k < n
    · have hkl : k < l.length := by rw [← HN.out]; exact hlt
      obtain ⟨b, off, rfl, hB, hc⟩ := (HA.out.below HBel.out) k hkl
      have c0 := hc 0 _ rfl
      have c1 := hc 1 _ rfl
      rw [Nat.add_zero] at c0
      have HR := Lib.hid (fun h => right_at (l := l) hkl h)
      have HX := Lib.hid (fun h => HO.out.next hkl h)
      obtain ⟨x, hx⟩ : ∃ x, l[k] = x := ⟨_, rfl⟩
      rw [hx] at HR HX
      simp only [hx] at c0 c1
      have hbs := HBel.out.size
      clear hx hc
      cases ho : okB x with
      | true =>
        have hxo := (okB_iff x).1 ho
        have e1 : decide (x.f < 0) = false := decide_eq_false (by omega)
        have e2 : decide (x.t < x.f) = false := decide_eq_false (by omega)
        have e3 : decide (1099511627776 < x.t) = false := decide_eq_false (by omega)
        have HK := Lib.hid (HX.out ho)
        clear ho hxo
        go_wp2
        go_roundw
        case rel => exact ⟨k + 1, by omega, by go_num, HK, Lib.hid (HBel.out.alloc hbs _)⟩
        case measure => simp [intOf]; omega
      | false =>
        have HK := Lib.hid (HR.out ho)
        rcases okB_no ho with h | ⟨h, h2⟩ | ⟨h, h2, h3⟩
        · have e1 : decide (x.f < 0) = true := decide_eq_true h
          clear ho h
          go_wp2
          go_ret
          exact ⟨by rw [chkO_no HK.out] <;> rfl, HBel.out.alloc hbs _⟩
        · have e1 : decide (x.f < 0) = false := decide_eq_false (by omega)
          have e2 : decide (x.t < x.f) = true := decide_eq_true h2
          clear ho h h2
          go_wp2
          go_ret
          exact ⟨by rw [chkO_no HK.out] <;> rfl, HBel.out.alloc hbs _⟩
        · have e1 : decide (x.f < 0) = false := decide_eq_false (by omega)
          have e2 : decide (x.t < x.f) = false := decide_eq_false (by omega)
          have e3 : decide (1099511627776 < x.t) = true := decide_eq_true h3
          clear ho h h2 h3
          go_wp2
          go_ret
          exact ⟨by rw [chkO_no HK.out] <;> rfl, HBel.out.alloc hbs _⟩
    · have HK := Lib.hid (HO.out.all (by rw [← HN.out]; omega) (by rw [← HN.out]; omega) (by rw [← HN.out]; omega))
      go_wp2
      go_ret
      exact ⟨by rw [chkO_yes HK.out] <;> rfl, HBel.out⟩

set_option maxRecDepth 4000 in
set_option maxHeartbeats 2000000 in
theorem right_walk (l : List Rg) (A : Option Addr) (n c : Nat) (w : World) (hn : n = l.length) (hm : n ≤ maxLen) (hat : RowC rgCells 2 w w.heap.size A l) :
    Calls Try.prog 8 #[.slice A n c] w fun e w' => e = .returned (.bool (rightB l)) ∧ Below w.heap.size w w' := by
  have HN := Lib.hid hn
  have HA := Lib.hid hat
  have hn9 : n ≤ 9223372036854775807 := by unfold maxLen at hm; omega
  clear hat hn hm
  by_cases h1 : n = 0
  · have HR := Lib.hid (right_none (l := l) (.inl (by rw [← HN.out]; omega)))
    subst h1
    go_enter Try.func8, Try.ntmps8
    go_wp2
    go_ret
    exact ⟨by rw [HR.out] <;> rfl, Below.refl _ _⟩
  have hd1 : ((n : Int) == 0) = false := by rw [beq_eq_false_iff_ne]; omega
  have hd1' : (n == 0) = false := by rw [beq_eq_false_iff_ne]; omega
  by_cases h4 : 4 < n
  · have HR := Lib.hid (right_none (l := l) (.inr (by rw [← HN.out]; exact h4)))
    have hd4 : decide (4 < (n : Int)) = true := decide_eq_true (by omega)
    go_enter Try.func8, Try.ntmps8
    go_wp2
    go_ret
    exact ⟨by rw [HR.out] <;> rfl, Below.refl _ _⟩
  have hd4 : decide (4 < (n : Int)) = false := decide_eq_false (by omega)
  go_enter Try.func8, Try.ntmps8
  go_wp2
  clear hd1 hd1' hd4
  go_loopw [3] (fun iv wr => ∃ k : Nat, k ≤ n ∧ iv = .int .i64 (k : Int) ∧ Hid (OkTo l k) ∧ Hid (Below w.heap.size w wr)) (fun iv _ => n - (intOf iv).toNat)
  case atStart => exact ⟨0, Nat.zero_le _, rfl, Lib.hid (fun j _ h => absurd h (by omega)), Lib.hid (Below.refl _ _)⟩
  case round =>
    obtain ⟨k, hk, rfl, HO, HBel⟩ := hrel
    by_cases hlt : k < n
    · have hkl : k < l.length := by rw [← HN.out]; exact hlt
      obtain ⟨b, off, rfl, hB, hc⟩ := (HA.out.below HBel.out) k hkl
      have c0 := hc 0 _ rfl
      have c1 := hc 1 _ rfl
      rw [Nat.add_zero] at c0
      have HR := Lib.hid (fun h => right_at (l := l) hkl h)
      have HX := Lib.hid (fun h => HO.out.next hkl h)
      obtain ⟨x, hx⟩ : ∃ x, l[k] = x := ⟨_, rfl⟩
      rw [hx] at HR HX
      simp only [hx] at c0 c1
      have i1 : (0 : Int) ≤ (k : Int) := by omega
      have i2 : (k : Int) < (n : Int) := by omega
      clear hx hc
      cases ho : okB x with
      | true =>
        have hxo := (okB_iff x).1 ho
        have e1 : decide (x.f < 0) = false := decide_eq_false (by omega)
        have e0 : decide (x.t < 0) = false := decide_eq_false (by omega)
        have e2 : decide (x.t < x.f) = false := decide_eq_false (by omega)
        have e3 : decide (1099511627776 < x.t) = false := decide_eq_false (by omega)
        have HK := Lib.hid (HX.out ho)
        clear ho hxo
        go_wp2_with fail
        go_quiet (fail)
        go_wp2
        go_roundw
        case rel => exact ⟨k + 1, by omega, by go_num, HK, Lib.hid (bd HBel.out _)⟩
        case measure => simp [intOf]; omega
      | false =>
        have HK := Lib.hid (HR.out ho)
        rcases okB_no ho with h | ⟨h, h2⟩ | ⟨h, h2, h3⟩
        · have e1 : decide (x.f < 0) = true := decide_eq_true h
          clear ho h
          go_wp2_with fail
          go_quiet (fail)
          go_wp2
          go_ret
          exact ⟨by rw [HK.out] <;> rfl, bd HBel.out _⟩
        · have e1 : decide (x.f < 0) = false := decide_eq_false (by omega)
          have e2 : decide (x.t < x.f) = true := decide_eq_true h2
          clear ho h
          by_cases h0 : x.t < 0
          · have e0 : decide (x.t < 0) = true := decide_eq_true h0
            clear h0 h2
            go_wp2_with fail
            go_quiet (fail)
            go_wp2
            go_ret
            exact ⟨by rw [HK.out] <;> rfl, bd HBel.out _⟩
          · have e0 : decide (x.t < 0) = false := decide_eq_false h0
            clear h0 h2
            go_wp2_with fail
            go_quiet (fail)
            go_wp2
            go_ret
            exact ⟨by rw [HK.out] <;> rfl, bd HBel.out _⟩
        · have e1 : decide (x.f < 0) = false := decide_eq_false (by omega)
          have e0 : decide (x.t < 0) = false := decide_eq_false (by omega)
          have e2 : decide (x.t < x.f) = false := decide_eq_false (by omega)
          have e3 : decide (1099511627776 < x.t) = true := decide_eq_true h3
          clear ho h h2 h3
          go_wp2_with fail
          go_quiet (fail)
          go_wp2
          go_ret
          exact ⟨by rw [HK.out] <;> rfl, bd HBel.out _⟩
    · have HK := Lib.hid (HO.out.all (by rw [← HN.out]; omega) (by rw [← HN.out]; omega) (by rw [← HN.out]; omega))
      go_wp2
      go_ret
      exact ⟨by rw [HK.out] <;> rfl, HBel.out⟩
end Go.Proofs.Ytceoneigflejeaa
