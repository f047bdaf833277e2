/- Several texts in one: SoRg, SoX, SoN. -/
import Derived.Test.YtkcnmajjfljilaaGreatDoorMem
import Derived.Test.YtkcnmajjfljilaaGreatDoorSoPB
import Derived.BigQuiet
import Derived.Laws.OwnMore
import Derived.Test.YtkcnmajjfljilaaGreatDoorSoOE
import Derived.Test.YtkcnmajjfljilaaGreatDoorRegAll
/- What a seat needs of several texts. -/
/- From OffA. -/
namespace Go.Proofs.YtkcnmajjfljilaaGreatDoor
open Go.ChangeShapes Go.WideShapes Go.ChangeAt Go.RowKit
set_option linter.unusedVariables false
theorem hop {w W w2 : World} (h : Below w.heap.size w W) (hb : Below W.heap.size W w2) : Below w.heap.size w w2 := h.trans (hb.mono h.size)
theorem bd_rg {B : Nat} {w W : World} (h : Below B w W) (n : Nat) : Below B w (W.drewN n) := ⟨h.os, h.tape, h.output, h.size, h.block⟩
structure Rg where
  f : Int
  t : Int
def rgCells (r : Rg) : List Value := [.int .i64 r.f, .int .i64 r.t]
theorem rgCells_length (r : Rg) : (rgCells r).length = 2 := rfl
theorem rgCells_one (r : Rg) : ∀ u ∈ rgCells r, u.oneCell' = true := by simp [rgCells, Value.oneCell']
def okB (r : Rg) : Bool := decide (0 ≤ r.f) && (decide (r.f ≤ r.t) && decide (r.t ≤ 1099511627776))
theorem okB_iff (r : Rg) : okB r = true ↔ 0 ≤ r.f ∧ r.f ≤ r.t ∧ r.t ≤ 1099511627776 := by simp [okB]
theorem okB_no {r : Rg} (h : okB r = false) : r.f < 0 ∨ (0 ≤ r.f ∧ r.t < r.f) ∨ (0 ≤ r.f ∧ r.f ≤ r.t ∧ 1099511627776 < r.t) := by
  have : ¬ (0 ≤ r.f ∧ r.f ≤ r.t ∧ r.t ≤ 1099511627776) := by rw [← okB_iff, h]; simp
  omega
def rightB (l : List Rg) : Bool := decide (1 ≤ l.length) && (decide (l.length ≤ 4) && l.all okB)
theorem right_parts {l : List Rg} (h : rightB l = true) : 1 ≤ l.length ∧ l.length ≤ 4 ∧ ∀ r ∈ l, okB r = true := by
  unfold rightB at h
  simp only [Bool.and_eq_true, decide_eq_true_eq, List.all_eq_true] at h
  exact h
theorem right_of {l : List Rg} (h1 : 1 ≤ l.length) (h2 : l.length ≤ 4) (h3 : ∀ r ∈ l, okB r = true) : rightB l = true := by
  unfold rightB
  simp only [Bool.and_eq_true, decide_eq_true_eq, List.all_eq_true]
  exact ⟨h1, h2, h3⟩
theorem right_none {l : List Rg} (h : l.length < 1 ∨ 4 < l.length) : rightB l = false := by
  cases hr : rightB l with
  | false => rfl
  | true => have := right_parts hr; omega
theorem right_at {l : List Rg} {k : Nat} (hk : k < l.length) (h : okB l[k] = false) : rightB l = false := by
  cases hr : rightB l with
  | false => rfl
  | true =>
    have := (right_parts hr).2.2 _ (List.getElem_mem hk)
    rw [h] at this; cases this
def OkTo (l : List Rg) (k : Nat) : Prop := ∀ j (h : j < l.length), j < k → okB l[j] = true
theorem OkTo.next {l : List Rg} {k : Nat} (h : OkTo l k) (hk : k < l.length) (ho : okB l[k] = true) : OkTo l (k + 1) := by
  intro j hj hjk
  by_cases e : j = k
  · subst e; exact ho
  · exact h j hj (by omega)
theorem OkTo.all {l : List Rg} {k : Nat} (h : OkTo l k) (hk : l.length ≤ k) (h1 : 1 ≤ l.length) (h2 : l.length ≤ 4) : rightB l = true :=
  right_of h1 h2 fun r hr => by
    obtain ⟨j, hj, rfl⟩ := List.getElem_of_mem hr
    exact h j hj (by omega)
def chkO (b : Bool) : Int := if b then 0 else 80
theorem chkO_no {b : Bool} (h : b = false) : chkO b = 80 := by rw [h]; rfl
theorem chkO_yes {b : Bool} (h : b = true) : chkO b = 0 := by rw [h]; rfl
set_option maxRecDepth 4000 in
set_option maxHeartbeats 1000000 in
theorem check_walk (l : List Rg) (A : Option Addr) (n c : Nat) (w : World) (hn : n = l.length) (hm : n ≤ maxLen) (hat : RowC rgCells 2 w w.heap.size A l) :
    Calls Tryz.prog 48 #[.slice A n c] w fun e w' => e = .returned (.int .i64 (chkO (rightB l))) ∧ Below w.heap.size w w' := by
  have HN := Lib.hid hn
  have HA := Lib.hid hat
  have hn9 : n ≤ 9223372036854775807 := by unfold maxLen at hm; omega
  clear hat hn hm
  by_cases h1 : n < 1
  · have HR := Lib.hid (right_none (l := l) (.inl (by rw [← HN.out]; exact h1)))
    have hd1 : decide ((n : Int) < 1) = true := decide_eq_true (by omega)
    go_enter Tryz.func48, Tryz.ntmps48
    go_wp2
    go_ret
    exact ⟨by rw [chkO_no HR.out] <;> rfl, Below.refl _ _⟩
  by_cases h4 : 4 < n
  · have HR := Lib.hid (right_none (l := l) (.inr (by rw [← HN.out]; exact h4)))
    have hd1 : decide ((n : Int) < 1) = false := decide_eq_false (by omega)
    have hd4 : decide (4 < (n : Int)) = true := decide_eq_true (by omega)
    go_enter Tryz.func48, Tryz.ntmps48
    go_wp2
    go_ret
    exact ⟨by rw [chkO_no HR.out] <;> rfl, Below.refl _ _⟩
  have hd1 : decide ((n : Int) < 1) = false := decide_eq_false (by omega)
  have hd4 : decide (4 < (n : Int)) = false := decide_eq_false (by omega)
  go_enter Tryz.func48, Tryz.ntmps48
  go_wp2
  go_loopw [15] (fun iv wr => ∃ k : Nat, k ≤ n ∧ iv = .int .i64 (k : Int) ∧ Hid (OkTo l k) ∧ Hid (Below w.heap.size w wr)) (fun iv _ => n - (intOf iv).toNat)
  case atStart => exact ⟨0, Nat.zero_le _, rfl, Lib.hid (fun j _ h => absurd h (by omega)), Lib.hid (Below.refl _ _)⟩
  case round =>
    obtain ⟨k, hk, rfl, HO, HBel⟩ := hrel
    by_cases hlt : k < n
    · have hkl : k < l.length := by rw [← HN.out]; exact hlt
      obtain ⟨b, off, rfl, hB, hc⟩ := (HA.out.below HBel.out) k hkl
      have c0 := hc 0 _ rfl
      have c1 := hc 1 _ rfl
      rw [Nat.add_zero] at c0
      have HR := Lib.hid (fun h => right_at (l := l) hkl h)
      have HX := Lib.hid (fun h => HO.out.next hkl h)
      obtain ⟨x, hx⟩ : ∃ x, l[k] = x := ⟨_, rfl⟩
      rw [hx] at HR HX
      simp only [hx] at c0 c1
      have hbs := HBel.out.size
      clear hx hc
      cases ho : okB x with
      | true =>
        have hxo := (okB_iff x).1 ho
        have e1 : decide (x.f < 0) = false := decide_eq_false (by omega)
        have e2 : decide (x.t < x.f) = false := decide_eq_false (by omega)
        have e3 : decide (1099511627776 < x.t) = false := decide_eq_false (by omega)
        have HK := Lib.hid (HX.out ho)
        clear ho hxo
        go_wp2
        go_roundw
        case rel => exact ⟨k + 1, by omega, by go_num, HK, Lib.hid (HBel.out.alloc hbs _)⟩
        case measure => simp [intOf]; omega
      | false =>
        have HK := Lib.hid (HR.out ho)
        rcases okB_no ho with h | ⟨h, h2⟩ | ⟨h, h2, h3⟩
        · have e1 : decide (x.f < 0) = true := decide_eq_true h
          clear ho h
          go_wp2
          go_ret
          exact ⟨by rw [chkO_no HK.out] <;> rfl, HBel.out.alloc hbs _⟩
        · have e1 : decide (x.f < 0) = false := decide_eq_false (by omega)
          have e2 : decide (x.t < x.f) = true := decide_eq_true h2
          clear ho h h2
          go_wp2
          go_ret
          exact ⟨by rw [chkO_no HK.out] <;> rfl, HBel.out.alloc hbs _⟩
        · have e1 : decide (x.f < 0) = false := decide_eq_false (by omega)
          have e2 : decide (x.t < x.f) = false := decide_eq_false (by omega)
          have e3 : decide (1099511627776 < x.t) = true := decide_eq_true h3
          clear ho h h2 h3
          go_wp2
          go_ret
          exact ⟨by rw [chkO_no HK.out] <;> rfl, HBel.out.alloc hbs _⟩
    · have HK := Lib.hid (HO.out.all (by rw [← HN.out]; omega) (by rw [← HN.out]; omega) (by rw [← HN.out]; omega))
      go_wp2
      go_ret
      exact ⟨by rw [chkO_yes HK.out] <;> rfl, HBel.out⟩
set_option maxRecDepth 4000 in
set_option maxHeartbeats 2000000 in
theorem right_walk (l : List Rg) (A : Option Addr) (n c : Nat) (w : World) (hn : n = l.length) (hm : n ≤ maxLen) (hat : RowC rgCells 2 w w.heap.size A l) :
    Calls Tryz.prog 31 #[.slice A n c] w fun e w' => e = .returned (.bool (rightB l)) ∧ Below w.heap.size w w' := by
  have HN := Lib.hid hn
  have HA := Lib.hid hat
  have hn9 : n ≤ 9223372036854775807 := by unfold maxLen at hm; omega
  clear hat hn hm
  by_cases h1 : n = 0
  · have HR := Lib.hid (right_none (l := l) (.inl (by rw [← HN.out]; omega)))
    subst h1
    go_enter Tryz.func31, Tryz.ntmps31
    go_wp2
    go_ret
    exact ⟨by rw [HR.out] <;> rfl, Below.refl _ _⟩
  have hd1 : ((n : Int) == 0) = false := by rw [beq_eq_false_iff_ne]; omega
  have hd1' : (n == 0) = false := by rw [beq_eq_false_iff_ne]; omega
  by_cases h4 : 4 < n
  · have HR := Lib.hid (right_none (l := l) (.inr (by rw [← HN.out]; exact h4)))
    have hd4 : decide (4 < (n : Int)) = true := decide_eq_true (by omega)
    go_enter Tryz.func31, Tryz.ntmps31
    go_wp2
    go_ret
    exact ⟨by rw [HR.out] <;> rfl, Below.refl _ _⟩
  have hd4 : decide (4 < (n : Int)) = false := decide_eq_false (by omega)
  go_enter Tryz.func31, Tryz.ntmps31
  go_wp2
  clear hd1 hd1' hd4
  go_loopw [3] (fun iv wr => ∃ k : Nat, k ≤ n ∧ iv = .int .i64 (k : Int) ∧ Hid (OkTo l k) ∧ Hid (Below w.heap.size w wr)) (fun iv _ => n - (intOf iv).toNat)
  case atStart => exact ⟨0, Nat.zero_le _, rfl, Lib.hid (fun j _ h => absurd h (by omega)), Lib.hid (Below.refl _ _)⟩
  case round =>
    obtain ⟨k, hk, rfl, HO, HBel⟩ := hrel
    by_cases hlt : k < n
    · have hkl : k < l.length := by rw [← HN.out]; exact hlt
      obtain ⟨b, off, rfl, hB, hc⟩ := (HA.out.below HBel.out) k hkl
      have c0 := hc 0 _ rfl
      have c1 := hc 1 _ rfl
      rw [Nat.add_zero] at c0
      have HR := Lib.hid (fun h => right_at (l := l) hkl h)
      have HX := Lib.hid (fun h => HO.out.next hkl h)
      obtain ⟨x, hx⟩ : ∃ x, l[k] = x := ⟨_, rfl⟩
      rw [hx] at HR HX
      simp only [hx] at c0 c1
      have i1 : (0 : Int) ≤ (k : Int) := by omega
      have i2 : (k : Int) < (n : Int) := by omega
      clear hx hc
      cases ho : okB x with
      | true =>
        have hxo := (okB_iff x).1 ho
        have e1 : decide (x.f < 0) = false := decide_eq_false (by omega)
        have e0 : decide (x.t < 0) = false := decide_eq_false (by omega)
        have e2 : decide (x.t < x.f) = false := decide_eq_false (by omega)
        have e3 : decide (1099511627776 < x.t) = false := decide_eq_false (by omega)
        have HK := Lib.hid (HX.out ho)
        clear ho hxo
        go_wp2_with fail
        go_quiet (fail)
        go_wp2
        go_roundw
        case rel => exact ⟨k + 1, by omega, by go_num, HK, Lib.hid (bd_rg HBel.out _)⟩
        case measure => simp [intOf]; omega
      | false =>
        have HK := Lib.hid (HR.out ho)
        rcases okB_no ho with h | ⟨h, h2⟩ | ⟨h, h2, h3⟩
        · have e1 : decide (x.f < 0) = true := decide_eq_true h
          clear ho h
          go_wp2_with fail
          go_quiet (fail)
          go_wp2
          go_ret
          exact ⟨by rw [HK.out] <;> rfl, bd_rg HBel.out _⟩
        · have e1 : decide (x.f < 0) = false := decide_eq_false (by omega)
          have e2 : decide (x.t < x.f) = true := decide_eq_true h2
          clear ho h
          by_cases h0 : x.t < 0
          · have e0 : decide (x.t < 0) = true := decide_eq_true h0
            clear h0 h2
            go_wp2_with fail
            go_quiet (fail)
            go_wp2
            go_ret
            exact ⟨by rw [HK.out] <;> rfl, bd_rg HBel.out _⟩
          · have e0 : decide (x.t < 0) = false := decide_eq_false h0
            clear h0 h2
            go_wp2_with fail
            go_quiet (fail)
            go_wp2
            go_ret
            exact ⟨by rw [HK.out] <;> rfl, bd_rg HBel.out _⟩
        · have e1 : decide (x.f < 0) = false := decide_eq_false (by omega)
          have e0 : decide (x.t < 0) = false := decide_eq_false (by omega)
          have e2 : decide (x.t < x.f) = false := decide_eq_false (by omega)
          have e3 : decide (1099511627776 < x.t) = true := decide_eq_true h3
          clear ho h h2 h3
          go_wp2_with fail
          go_quiet (fail)
          go_wp2
          go_ret
          exact ⟨by rw [HK.out] <;> rfl, bd_rg HBel.out _⟩
    · have HK := Lib.hid (HO.out.all (by rw [← HN.out]; omega) (by rw [← HN.out]; omega) (by rw [← HN.out]; omega))
      go_wp2
      go_ret
      exact ⟨by rw [HK.out] <;> rfl, HBel.out⟩
end Go.Proofs.YtkcnmajjfljilaaGreatDoor
/- From OffA2. -/
namespace Go.Proofs.YtkcnmajjfljilaaGreatDoor
open Go.ChangeShapes Go.WideShapes Go.ChangeAt Go.RowKit
set_option linter.unusedVariables false
theorem wr64 {x : Int} (h : in64 x) : IntKind.i64.wrap x = x := by unfold in64 at h; rw [IntKind.wrap_i64]; omega
theorem infoRg : (Tryz.prog.info? 59).map (fun i => (i.zero, i.size, i.bytes)) = some (some (Value.agg #[.int .i64 0, .int .i64 0]), 2, 16) := by kernel_rfl
def noRg : Rg := ⟨0, 0⟩
theorem right_nones {p : Nat} (h1 : 1 ≤ p) (h4 : p ≤ 4) : rightB (List.replicate p noRg) = true :=
  right_of (by simpa using h1) (by simpa using h4) fun r hr => by rw [List.eq_of_mem_replicate hr]; rfl
theorem made_rg (p : Nat) (h1 : 1 ≤ p) (h4 : p ≤ 4) : madeCells #[.int .i64 0, .int .i64 0] (p * 2) = ((List.replicate p noRg).flatMap rgCells).toArray := by
  rcases (show p = 1 ∨ p = 2 ∨ p = 3 ∨ p = 4 by omega) with rfl | rfl | rfl | rfl <;> kernel_rfl
end Go.Proofs.YtkcnmajjfljilaaGreatDoor
/- From OffB. -/
namespace Go.Proofs.YtkcnmajjfljilaaGreatDoor
open Go.ChangeShapes Go.WideShapes Go.ChangeAt Go.RowKit
set_option linter.unusedVariables false
def folB (a b : List Rg) : Bool := rightB a && (rightB b && (decide (a.length = b.length) && (a.zip b).all fun p => decide (p.1.t = p.2.f)))
def MeetTo (a b : List Rg) (k : Nat) : Prop := ∀ j (h : j < a.length) (h' : j < b.length), j < k → a[j].t = b[j].f
section
variable {a b : List Rg} {k : Nat}
theorem fol_iff : folB a b = true ↔ rightB a = true ∧ rightB b = true ∧ a.length = b.length ∧ ∀ j (h : j < a.length) (h' : j < b.length), a[j].t = b[j].f := by
  unfold folB
  simp only [Bool.and_eq_true, decide_eq_true_eq, List.all_eq_true]
  refine ⟨fun ⟨h1, h2, h3, h4⟩ => ⟨h1, h2, h3, fun j hj hj' => ?_⟩, fun ⟨h1, h2, h3, h4⟩ => ⟨h1, h2, h3, fun p hp => ?_⟩⟩
  · have := h4 (a[j], b[j]) (by
      have hz : j < (a.zip b).length := by rw [List.length_zip]; omega
      have := List.getElem_mem hz
      rwa [List.getElem_zip] at this)
    exact this
  · obtain ⟨j, hj, rfl⟩ := List.getElem_of_mem hp
    rw [List.getElem_zip]
    rw [List.length_zip] at hj
    exact h4 j (by omega) (by omega)
theorem fol_no1 (h : rightB a = false) : folB a b = false := by unfold folB; rw [h]; rfl
theorem fol_no2 (h : rightB b = false) : folB a b = false := by unfold folB; rw [h]; simp
theorem fol_no3 (h : a.length ≠ b.length) : folB a b = false := by
  cases hf : folB a b with
  | false => rfl
  | true => exact absurd (fol_iff.1 hf).2.2.1 h
theorem fol_at (h1 : k < a.length) (h2 : k < b.length) (h : a[k].t ≠ b[k].f) : folB a b = false := by
  cases hf : folB a b with
  | false => rfl
  | true => exact absurd ((fol_iff.1 hf).2.2.2 k h1 h2) h
theorem MeetTo.next (h : MeetTo a b k) (h1 : k < a.length) (h2 : k < b.length) (e : a[k].t = b[k].f) : MeetTo a b (k + 1) := by
  intro j hj hj' hjk
  by_cases hk : j = k
  · subst hk; exact e
  · exact h j hj hj' (by omega)
theorem MeetTo.all (h : MeetTo a b k) (hk : a.length ≤ k) (hl : a.length = b.length) (h1 : rightB a = true) (h2 : rightB b = true) : folB a b = true :=
  fol_iff.2 ⟨h1, h2, hl, fun j hj hj' => h j hj hj' (by omega)⟩
end
set_option maxRecDepth 4000 in
set_option maxHeartbeats 2000000 in
theorem rfollows_walk (l m : List Rg) (A A2 : Option Addr) (n c n2 c2 : Nat) (w : World) (hn : n = l.length) (hm : n ≤ maxLen) (hat : RowC rgCells 2 w w.heap.size A l)
    (hn2 : n2 = m.length) (hm2 : n2 ≤ maxLen) (hat2 : RowC rgCells 2 w w.heap.size A2 m) :
    Calls Tryz.prog 17 #[.slice A n c, .slice A2 n2 c2] w fun e w' => e = .returned (.bool (folB l m)) ∧ Below w.heap.size w w' := by
  have HN := Lib.hid hn
  have HA := Lib.hid hat
  have HN2 := Lib.hid hn2
  have HA2 := Lib.hid hat2
  have HC := Lib.hid (right_walk l A n c w hn hm hat)
  have HM2 := Lib.hid hm2
  have hn9 : n ≤ 9223372036854775807 := by unfold maxLen at hm; omega
  clear hat hn hm hat2 hn2 hm2
  cases hr : rightB l with
  | false =>
    have HF := Lib.hid (fol_no1 (b := m) hr)
    rw [hr] at HC
    clear hr
    go_enter Tryz.func17, Tryz.ntmps17
    go_wp2_with (go_at_call 31; refine HC.out.mono ?_; rintro e w1 ⟨rfl, hb1⟩; have HB := Lib.hid hb1; clear hb1)
    go_ret
    exact ⟨by rw [HF.out] <;> rfl, HB.out⟩
  | true =>
  have HR1 := Lib.hid hr
  rw [hr] at HC
  clear hr
  have HC2 := Lib.hid (fun W (h : Below w.heap.size w W) => right_walk m A2 n2 c2 W HN2.out HM2.out ((HA2.out.below h).more h.size))
  cases hr2 : rightB m with
  | false =>
    have HF := Lib.hid (fol_no2 (a := l) hr2)
    rw [hr2] at HC2
    clear hr2
    go_enter Tryz.func17, Tryz.ntmps17
    go_wp2_with (first | (go_at_call 31; refine (HC2.out _ HB.out).mono ?_; rintro e w2 ⟨rfl, hb2⟩; have HB2 := Lib.hid (hop HB.out hb2); clear hb2) | (go_at_call 31; refine HC.out.mono ?_; rintro e w1 ⟨rfl, hb1⟩; have HB := Lib.hid hb1; clear hb1))
    go_ret
    exact ⟨by rw [HF.out] <;> rfl, HB2.out⟩
  | true =>
  have HR2 := Lib.hid hr2
  rw [hr2] at HC2
  clear hr2
  by_cases hl : n = n2
  · subst hl
    go_enter Tryz.func17, Tryz.ntmps17
    go_wp2_with (first | (go_at_call 31; refine (HC2.out _ HB.out).mono ?_; rintro e w2 ⟨rfl, hb2⟩; have HB2 := Lib.hid (hop HB.out hb2); clear hb2) | (go_at_call 31; refine HC.out.mono ?_; rintro e w1 ⟨rfl, hb1⟩; have HB := Lib.hid hb1; clear hb1))
    go_loopw [5] (fun iv wr => ∃ k : Nat, k ≤ n ∧ iv = .int .i64 (k : Int) ∧ Hid (MeetTo l m k) ∧ Hid (Below w.heap.size w wr)) (fun iv _ => n - (intOf iv).toNat)
    case atStart => exact ⟨0, Nat.zero_le _, rfl, Lib.hid (fun j _ _ h => absurd h (by omega)), HB2⟩
    case round =>
      obtain ⟨k, hk, rfl, HO, HBel⟩ := hrel
      by_cases hlt : k < n
      · have hkl : k < l.length := by rw [← HN.out]; exact hlt
        have hkm : k < m.length := by rw [← HN2.out]; exact hlt
        obtain ⟨b, off, rfl, hB, hc⟩ := (HA.out.below HBel.out) k hkl
        obtain ⟨b2, off2, rfl, hB2, hd⟩ := (HA2.out.below HBel.out) k hkm
        have c1 := hc 1 _ rfl
        have d0 := hd 0 _ rfl
        rw [Nat.add_zero] at d0
        have HX := Lib.hid (fun h => HO.out.next hkl hkm h)
        have HY := Lib.hid (fun h => fol_at hkl hkm h)
        obtain ⟨x, hx⟩ : ∃ x, l[k] = x := ⟨_, rfl⟩
        obtain ⟨y, hy⟩ : ∃ y, m[k] = y := ⟨_, rfl⟩
        rw [hx, hy] at HX HY
        simp only [hx] at c1
        simp only [hy] at d0
        have i1 : (0 : Int) ≤ (k : Int) := by omega
        have i2 : (k : Int) < (n : Int) := by omega
        clear hx hy hc hd
        by_cases he : x.t = y.f
        · have HK := Lib.hid (HX.out he)
          have e1 : (x.t != y.f) = false := by rw [he]; simp
          have e2 : (x.t == y.f) = true := by rw [he]; simp
          clear he
          go_wp2_with fail
          go_quiet (fail)
          go_wp2
          go_roundw
          case rel => exact ⟨k + 1, by omega, by go_num, HK, Lib.hid (bd_rg HBel.out _)⟩
          case measure => simp [intOf]; omega
        · have HK := Lib.hid (HY.out he)
          have e1 : (x.t != y.f) = true := by rw [bne_iff_ne]; exact he
          have e2 : (x.t == y.f) = false := by rw [beq_eq_false_iff_ne]; exact he
          clear he
          go_wp2_with fail
          go_quiet (fail)
          go_wp2
          go_ret
          exact ⟨by rw [HK.out] <;> rfl, bd_rg HBel.out _⟩
      · have HK := Lib.hid (HO.out.all (by rw [← HN.out]; omega) (by rw [← HN.out, ← HN2.out]) HR1.out HR2.out)
        go_wp2
        go_ret
        exact ⟨by rw [HK.out] <;> rfl, HBel.out⟩
  · have HF := Lib.hid (fol_no3 (a := l) (b := m) (by rw [← HN.out, ← HN2.out]; exact hl))
    have e1 : ((n : Int) != (n2 : Int)) = true := by rw [bne_iff_ne]; omega
    have e2 : ((n : Int) == (n2 : Int)) = false := by rw [beq_eq_false_iff_ne]; omega
    have e3 : (n == n2) = false := by rw [beq_eq_false_iff_ne]; omega
    have e4 : (n != n2) = true := by rw [bne_iff_ne]; omega
    clear hl
    go_enter Tryz.func17, Tryz.ntmps17
    go_wp2_with (first | (go_at_call 31; refine (HC2.out _ HB.out).mono ?_; rintro e w2 ⟨rfl, hb2⟩; have HB2 := Lib.hid (hop HB.out hb2); clear hb2) | (go_at_call 31; refine HC.out.mono ?_; rintro e w1 ⟨rfl, hb1⟩; have HB := Lib.hid hb1; clear hb1))
    go_ret
    exact ⟨by rw [HF.out] <;> rfl, HB2.out⟩
set_option maxRecDepth 4000 in
set_option maxHeartbeats 1000000 in
/-- Two lists of the same ranges are the same. -/
theorem same_walk (l : List Rg) (A A2 : Option Addr) (n c n2 c2 : Nat) (w : World) (hn : n = l.length) (hm : n ≤ maxLen) (hat : RowC rgCells 2 w w.heap.size A l)
    (hn2 : n2 = n) (hat2 : RowC rgCells 2 w w.heap.size A2 l) :
    Calls Tryz.prog 21 #[.slice A n c, .slice A2 n2 c2] w fun e w' => e = .returned (.bool true) ∧ Below w.heap.size w w' := by
  subst hn2
  have HN := Lib.hid hn
  have HA := Lib.hid hat
  have HA2 := Lib.hid hat2
  have hn9 : n2 ≤ 9223372036854775807 := by unfold maxLen at hm; omega
  clear hat hn hm hat2
  go_enter Tryz.func21, Tryz.ntmps21
  go_wp2
  go_loopw [5] (fun iv wr => ∃ k : Nat, k ≤ n2 ∧ iv = .int .i64 (k : Int) ∧ Hid (Below w.heap.size w wr)) (fun iv _ => n2 - (intOf iv).toNat)
  case atStart => exact ⟨0, Nat.zero_le _, rfl, Lib.hid (Below.refl _ _)⟩
  case round =>
    obtain ⟨k, hk, rfl, HBel⟩ := hrel
    by_cases hlt : k < n2
    · have hkl : k < l.length := by rw [← HN.out]; exact hlt
      obtain ⟨b, off, rfl, hB, hc⟩ := (HA.out.below HBel.out) k hkl
      obtain ⟨b2, off2, rfl, hB2, hd⟩ := (HA2.out.below HBel.out) k hkl
      have c0 := hc 0 _ rfl
      have c1 := hc 1 _ rfl
      have d0 := hd 0 _ rfl
      have d1 := hd 1 _ rfl
      rw [Nat.add_zero] at c0 d0
      obtain ⟨x, hx⟩ : ∃ x, l[k] = x := ⟨_, rfl⟩
      simp only [hx] at c0 c1 d0 d1
      have i1 : (0 : Int) ≤ (k : Int) := by omega
      have i2 : (k : Int) < (n2 : Int) := by omega
      clear hx hc hd
      go_wp2_with fail
      go_quiet (fail)
      go_wp2
      go_roundw
      case rel => exact ⟨k + 1, by omega, by go_num, Lib.hid (bd_rg HBel.out _)⟩
      case measure => simp [intOf]; omega
    · go_wp2
      go_ret
      exact ⟨rfl, HBel.out⟩
set_option maxRecDepth 4000 in
set_option maxHeartbeats 1000000 in
theorem rstart_walk (p : Nat) (hp : p ≤ maxLen) (w : World) :
    Calls Tryz.prog 15 #[.int .i64 (p : Int)] w fun e w' => ∃ A c, e = .returned (.slice A (min p 5) c) ∧ RowC rgCells 2 w' w'.heap.size A (List.replicate (min p 5) noRg) ∧ Below w.heap.size w w' := by
  obtain ⟨q, hq⟩ : ∃ q, min p 5 = q := ⟨_, rfl⟩
  have HQ := Lib.hid hq
  have hq5 : q ≤ 5 := by omega
  have hp9 : p ≤ 9223372036854775807 := by unfold maxLen at hp; omega
  rw [hq]
  clear hq hp
  go_enter Tryz.func15, Tryz.ntmps15
  go_wp2
  go_loopw [3, 4] (fun lv iv wr => ∃ (k : Nat) (A : Option Addr) (c : Nat), k ≤ q ∧ iv = .int .i64 (k : Int) ∧ lv = .slice A k c ∧ Hid (wr.ownsRow w.heap.size 59 2 (.slice A k c) k ((List.replicate k noRg).flatMap rgCells)) ∧ Hid (Below w.heap.size w wr)) (fun _ iv _ => q - (intOf iv).toNat)
  case atStart => exact ⟨0, none, 0, Nat.zero_le _, rfl, rfl, Lib.hid (World.ownsRow_nil _ _ _ _), Lib.hid (Below.refl _ _)⟩
  case round =>
    obtain ⟨k, A, c, hk, rfl, rfl, HO, HBel⟩ := hrel
    have HS := Lib.hid HBel.out.size
    by_cases hlt : k < q
    · have d1 : k < p := by have := HQ.out; omega
      have d2 : k < 5 := by omega
      go_wp2_with (at_builtin; go_loud (refine append_item Tryz.underlying42 infoRg rfl (by decide) rgCells_length rgCells_one rfl _ _ rfl w.heap.size A k c (List.replicate k noRg) rfl _ noRg HO.out HS.out _ rfl (by first | rfl | simp) (by omega) (by unfold maxLen; omega) [_, _] rfl ?_); intro A3 n3 c3 w3 hn3 ho3 hb3 hg3; have HO3 := Lib.hid ho3; have HP3 := Lib.hid (HBel.out.trans hb3); clear ho3 hb3 hg3; subst hn3)
      go_roundw
      case rel => exact ⟨k + 1, A3, c3, by omega, by go_num, rfl, Lib.hid (by rw [List.replicate_succ']; exact HO3.out), HP3⟩
      case measure => simp [intOf]; omega
    · have hkq : k = q := by omega
      subst hkq
      have HI := Lib.hid (RowC.own rgCells_length (by decide) HO.out).2
      by_cases hp : k < p
      · have d2 : ¬ k < 5 := by have := HQ.out; omega
        go_wp2
        go_ret
        exact ⟨A, c, rfl, HI.out, HBel.out⟩
      · go_wp2
        go_ret
        exact ⟨A, c, rfl, HI.out, HBel.out⟩
end Go.Proofs.YtkcnmajjfljilaaGreatDoor

/- source: the chapter's example. -/
namespace Go.Proofs.YtkcnmajjfljilaaGreatDoor
open Go Go.ChangeShapes Go.WideShapes Go.ChangeAt Go.RowKit Go.ChangeMaps Go.MapKept
set_option linter.unusedVariables false
set_option linter.unusedSimpArgs false

theorem ex_deal : dealL [5, 1, 9] (rW [5, 1, 9] 7) (rM [5, 1, 9] 7) = [3, 1, 3] := by
  have h := rfit [5, 1, 9] 7
  obtain ⟨W, hW⟩ : ∃ W, rW [5, 1, 9] 7 = W := ⟨_, rfl⟩
  obtain ⟨m, hm⟩ : ∃ W, rM [5, 1, 9] 7 = W := ⟨_, rfl⟩
  rw [hW, hm] at h ⊢
  obtain ⟨h0, h1, h2⟩ := h
  have e : W = 3 ∧ m = 0 := by
    simp only [lvS_cons, lvS_nil, lvC_cons, lv, List.mem_cons, List.not_mem_nil, or_false, forall_eq_or_imp, forall_eq] at h2
    have e0 : lvC [] W = 0 := rfl
    rw [e0] at h2
    by_cases a : W < 5 <;> by_cases b : W < 1 <;> by_cases c : W < 9 <;> simp only [a, b, c, if_true, if_false] at h2 <;> omega
  obtain ⟨rfl, rfl⟩ := e
  rfl
theorem lit1_at (w : World) (c : UInt8) (u : Int) (hu : u = (c.toNat : Int)) : BytesAt (w.alloc (.cells #[.int .u8 u] 5 (1, 2))) (w.alloc (.cells #[.int .u8 u] 5 (1, 2))).heap.size (some ⟨w.heap.size, 0, none⟩) [c] := by
  subst hu
  intro j hj
  refine ⟨w.heap.size, 0, rfl, by simp, ?_⟩
  rw [Nat.zero_add, World.cell?_alloc_mark]
  have h2 : j = 0 := by simp at hj; omega
  subst h2; rfl
theorem irow3 (w : World) : RowC iC 1 (w.alloc (.cells #[.int .i64 5, .int .i64 1, .int .i64 9] 3)) (w.alloc (.cells #[.int .i64 5, .int .i64 1, .int .i64 9] 3)).heap.size (some ⟨w.heap.size, 0, none⟩) [5, 1, 9] := by
  have h := (Cells.new w (iA [5, 1, 9]) 3).irow
  rw [World.size_alloc]
  exact h
section
variable {Q : Nat → Prop} {B s f M : Nat} {room used size : Int} {ps : List Pt} {S : Fs} {w w' : World}
theorem append_lit1 (h : Src Q B s f room used M size ps S w) {k : Nat} (hk : k < ps.length) (hsz : 1 ≤ size ∧ size ≤ 16777216) (hc : ps[k].cnt < 4095) (hfl : ps[k].fs.length ≤ 999980) (hM : M + 4 ≤ 1000000) (hBw : B ≤ w.heap.size) (hT : Tab B w) (c : UInt8) (u : Int) (hu' : u = (c.toNat : Int)) (hrs : ps[k].rs.length < 16000) (hu : used + 9 ≤ room) :
    Calls Tryz.prog 13 #[.pointer (some ⟨s, 0, none⟩), .int .i64 (k : Int), .slice (some ⟨w.heap.size, 0, none⟩) 1 1] (w.alloc (.cells #[.int .u8 u] 5 (1, 2))) fun e w' => e = .returned (.tuple #[.int .i64 (ps[k].rs.length : Int), .int .i64 0]) ∧ ∃ S', Src Q B s f room (used + 9) (M + 4) size (ps.set k (apP size ps[k] [c])) S' w' ∧ Turn Q B w w' := by
  have hb : Below w.heap.size w (w.alloc (.cells #[.int .u8 u] 5 (1, 2))) := (Below.refl _ w).alloc (Nat.le_refl _) _
  refine (append_src (h.below hb) hk hsz hc hfl hM (Nat.le_trans hBw hb.size) (hT.below (hb.mono hBw)) ⟨w.heap.size, 0, none⟩ 1 1 [c] rfl (by simp) (lit1_at w c u hu') hrs (by simpa using hu)).mono ?_
  rintro e w' ⟨he, S', h1, h2⟩
  exact ⟨he, S', by simpa using h1, (Turn.of hb hBw).trans h2⟩
end
theorem held_two {P : Program} {ops : Array Oper} {Q : Exit → Act → World → Prop} {md : Region.Mode} {S : World → Prop} {i j : Nat} {oi oj : Oper} {fuel : Nat} {listed : Array Bool} {a : Act} {w : World} (hi : ops[i]? = some oi) (hj : ops[j]? = some oj) (hr : Region.ready md ops listed = [i, j])
    (hwi : Region.wanted oi (yielded ops a.tmps) = true) (hwj : Region.wanted oj (yielded ops a.tmps) = true)
    (h1 : oi.wp P a w (fun a' w' => S w' ∧ wpAnyH P md ops Q S fuel (listed.setIfInBounds i true) a' w') Q)
    (h2 : oj.wp P a w (fun a' w' => S w' ∧ wpAnyH P md ops Q S fuel (listed.setIfInBounds j true) a' w') Q) : wpAnyH P md ops Q S (fuel + 1) listed a w :=
  wpAnyH_all hr (by simp) (fun k hk => by
    have h : k = i ∨ k = j := by simpa using hk
    rcases h with rfl | rfl
    · unfold wpOp; simp only [hi]; rw [if_pos hwi]; exact .inl h1
    · unfold wpOp; simp only [hj]; rw [if_pos hwj]; exact .inl h2)
theorem rg_new2 (w : World) (a b c d : Int) : RowC rgCells 2 (w.alloc (.cells #[.int .i64 a, .int .i64 b, .int .i64 c, .int .i64 d] 59)) (w.alloc (.cells #[.int .i64 a, .int .i64 b, .int .i64 c, .int .i64 d] 59)).heap.size (some ⟨w.heap.size, 0, none⟩) [⟨a, b⟩, ⟨c, d⟩] := by
  have h := Cells.new w #[.int .i64 a, .int .i64 b, .int .i64 c, .int .i64 d] 59
  intro j hj
  refine ⟨w.heap.size, 0, rfl, by simp, fun k x hx => ?_⟩
  have hk : k < 2 := by have := (List.getElem?_eq_some_iff.1 hx).1; simpa [rgCells] using this
  have hj2 : j < 2 := hj
  rw [h.cell]
  have e : (j = 0 ∨ j = 1) ∧ (k = 0 ∨ k = 1) := by omega
  rcases e with ⟨rfl | rfl, rfl | rfl⟩ <;> exact hx
theorem ex_durs {ps : List Pt} (hl : ps.length = 2) (hn : ∀ k (h : k < ps.length), ps[k] = newP ps[k].l) {h1 : 1 < ps.length} {h2 : 1 < (ps.set 1 (apP 100 ps[1] [120])).length} : durs ((ps.set 1 (apP 100 ps[1] [120])).set 1 (syP ((ps.set 1 (apP 100 ps[1] [120]))[1]))) = [0, 1] := by
  match ps, hl with
  | [a, b], _ =>
    have e0 : a = newP a.l := hn 0 (by simp)
    have e1 : b = newP b.l := hn 1 (by simp)
    rw [e0, e1]
    rfl
theorem ends2 {Q : Nat → Prop} {B s f M : Nat} {room used size : Int} {ps : List Pt} {S : Fs} {w : World} (h : Src Q B s f room used M size ps S w) (hd : durs ps = [0, 1]) :
    Calls Tryz.prog 20 #[.pointer (some ⟨s, 0, none⟩)] w fun e w' => ∃ D, e = .returned (.slice (some ⟨D, 0, none⟩) 2 2) ∧ w'.cell? ⟨D, 0, none⟩ = some (.int .i64 0) ∧ w'.cell? ⟨D, 1, none⟩ = some (.int .i64 1) ∧ Below w.heap.size w w' := by
  refine (ends_src h).mono ?_
  rintro e w' ⟨D, rfl, h1, h2, h3⟩
  have hl : ps.length = 2 := by rw [← durs_length ps, hd]; rfl
  rw [hd] at h2
  exact ⟨D, by rw [hl], h2.cell 0, h2.cell 1, h3⟩
set_option maxHeartbeats 8000000 in
set_option maxRecDepth 100000 in
theorem alive_so (w : World) (hT : Tab w.heap.size w) : Calls Tryz.prog 7 #[] w fun e w' => e = .returned (.bool true) ∧ Below w.heap.size w w' := by
  have HTAB := Lib.hid (fun (W1 W : World) (hb1 : Below w.heap.size w W1) (hb : Below W1.heap.size W1 W) => ((⟨Nat.lt_of_lt_of_le hT.1 hb1.size, ((hT.below hb1).below (hb.mono hb1.size)).2⟩ : Tab W1.heap.size W)))
  have HBA := Lib.hid ((Below.refl _ w).alloc (Nat.le_refl _) (.cells #[.int .i64 5, .int .i64 1, .int .i64 9] 3))
  clear hT
  have kc := fun (w : World) (C : Array Value) (n c : Nat) => Lib.run_convert_bytes_const (P := Tryz.prog) w 30 5 C n c Tryz.underlying30 Tryz.underlying5
  go_enter Tryz.func7, Tryz.ntmps7
  go_wp2_with (first
    | (go_at_call 10; go_loud (refine (deal_i [5, 1, 9] (by intro x hx; simp at hx; omega) (by decide) 3 (some ⟨w.heap.size, 0, none⟩) 7 (by decide) _ (irow3 w)).mono ?_; rintro e w1 ⟨D, rfl, hD1, hD2, hD3⟩; rw [ex_deal] at hD2; have HD2 := Lib.hid hD2; have HB1 := Lib.hid (HBA.out.trans (hD3.mono HBA.out.size)); clear hD1 hD2 hD3))
    | (go_at_call 11; go_loud (refine (new_any (Kp := fun _ => False) 1000 rfl w1 (fun _ h => h.elim)).mono ?_; rintro e w2 ⟨f, rfl, h1, h2⟩; have HR2 := Lib.hid h1; have HB2 := Lib.hid h2; have d3 : Cells w2 D (iA [3, 1, 3]) 3 := (h2.block D HD2.out.lt).trans HD2.out; have d30 : w2.cell? ⟨D, 0, none⟩ = some (.int .i64 3) := d3.cell 0; have d31 : w2.cell? ⟨D, 1, none⟩ = some (.int .i64 1) := d3.cell 1; have d32 : w2.cell? ⟨D, 2, none⟩ = some (.int .i64 3) := d3.cell 2; clear h1 h2 d3))
    | (go_at_call 12; go_loud (refine (open_src HR2.out (WfK.new (room := 1000) rfl) gl_new (by simp [newFs]) 2 (by decide) (by decide) HB2.out.size (HTAB.out _ _ HB1.out HB2.out) ⟨by decide, by decide⟩ (fun _ h => h.elim)).mono ?_; rintro e w3 ⟨s, ps, S3, rfl, hs, hl, hn, ht⟩; have HS3 := Lib.hid hs; have HL3 := Lib.hid hl; have HN3 := Lib.hid hn; have HB3 := Lib.hid (HB2.out.trans ht.below); clear hs hl hn ht))
    | (go_at_call 13; go_loud (refine (append_lit1 (k := 1) HS3.out (by rw [HL3.out]; decide) ⟨by decide, by decide⟩ (by rw [HN3.out 1 (by rw [HL3.out]; decide)]; simp [newP]) (by rw [HN3.out 1 (by rw [HL3.out]; decide)]; simp [newP]) (by decide) HB3.out.size (HTAB.out _ _ HB1.out HB3.out) 120 120 rfl (by rw [HN3.out 1 (by rw [HL3.out]; decide)]; simp [newP]) (by decide)).mono ?_; rintro e w4 ⟨rfl, S4, hs, ht⟩; have HS4 := Lib.hid hs; have HB4 := Lib.hid (HB3.out.trans ht.below); clear hs ht)))
  refine wp_mono ?_ noPanic_le
  refine held_begin 25 (fun W => Hid True) rfl (by kernel_rfl) ?_
  have hS : Hid True := Lib.hid trivial
  refine held_take (i := 0) (t := 57) (v := (.int .i64 0)) (fuel := 24) rfl rfl (by kernel_rfl) (by kernel_rfl) (by kernel_rfl) (fun _ _ _ h => h) (.inl ⟨rfl, fun W hW => by simp [execOp, Act.eval, go_sem]⟩) hS ?_
  simp only [List.setIfInBounds_toArray, List.set_cons_succ, List.set_cons_zero]
  refine held_take (i := 1) (t := 58) (v := (.bool true)) (fuel := 23) rfl rfl (by kernel_rfl) (by kernel_rfl) (by kernel_rfl) (fun _ _ _ h => h) (.inl ⟨rfl, fun W hW => by simp [execOp, Act.eval, go_sem]⟩) hS ?_
  simp only [List.setIfInBounds_toArray, List.set_cons_succ, List.set_cons_zero]
  refine held_take (i := 2) (t := 59) (v := (.bool true)) (fuel := 22) rfl rfl (by kernel_rfl) (by kernel_rfl) (by kernel_rfl) (fun _ _ _ h => h) (.inl ⟨rfl, fun W hW => by simp [execOp, Act.eval, go_sem]⟩) hS ?_
  simp only [List.setIfInBounds_toArray, List.set_cons_succ, List.set_cons_zero]
  refine held_take (i := 3) (t := 60) (v := (.pointer (some ⟨s, 0, none⟩))) (fuel := 21) rfl rfl (by kernel_rfl) (by kernel_rfl) (by kernel_rfl) (fun _ _ _ h => h) (.inl ⟨rfl, fun W hW => by simp [execOp, Act.eval, go_sem]⟩) hS ?_
  simp only [List.setIfInBounds_toArray, List.set_cons_succ, List.set_cons_zero]
  refine held_call (i := 4) rfl (by kernel_rfl) (by kernel_rfl) ?_
  simp [Oper.wp, execOp, Act.eval, Act.put, go_sem]
  refine (sync_src (k := 1) (HS4.out.below ((Below.refl _ w4).drew)) (by rw [List.length_set, HL3.out]; decide) (by decide) HB4.out.size (HTAB.out _ _ HB1.out HB4.out.drew)).mono ?_
  rintro e V5 ⟨rfl, S5, hs5, ht5⟩
  have HB5 := Lib.hid (HB1.out.trans ((HB4.out.trans (((Below.refl _ w4).drew.mono HB4.out.size).trans ht5.below)).mono HB1.out.size))
  have HD5 := Lib.hid (ex_durs HL3.out HN3.out (h1 := by rw [HL3.out]; decide) (h2 := by rw [List.length_set, HL3.out]; decide))
  have HS5 := Lib.hid hs5
  clear hs5 ht5
  refine ⟨hS, ?_⟩
  try simp only [List.setIfInBounds_toArray, List.set_cons_succ, List.set_cons_zero]
  refine held_take (i := 5) (t := 62) (v := (.bool true)) (fuel := 19) rfl rfl (by kernel_rfl) (by kernel_rfl) (by kernel_rfl) (fun _ _ _ h => h) (.inl ⟨rfl, fun W hW => by simp [execOp, Act.eval, go_sem]⟩) hS ?_
  simp only [List.setIfInBounds_toArray, List.set_cons_succ, List.set_cons_zero]
  refine held_take (i := 6) (t := 63) (v := (.bool true)) (fuel := 18) rfl rfl (by kernel_rfl) (by kernel_rfl) (by kernel_rfl) (fun _ _ _ h => h) (.inl ⟨rfl, fun W hW => by simp [execOp, Act.eval, go_sem]⟩) hS ?_
  simp only [List.setIfInBounds_toArray, List.set_cons_succ, List.set_cons_zero]
  refine held_take (i := 7) (t := 64) (v := (.bool true)) (fuel := 17) rfl rfl (by kernel_rfl) (by kernel_rfl) (by kernel_rfl) (fun _ _ _ h => h) (.inl ⟨rfl, fun W hW => by simp [execOp, Act.eval, go_sem]⟩) hS ?_
  simp only [List.setIfInBounds_toArray, List.set_cons_succ, List.set_cons_zero]
  have hbV : Below V5.heap.size V5 V5 := Below.refl _ _
  refine held_take (i := 8) (t := 65) (v := (.pointer (some ⟨s, 0, none⟩))) (fuel := 16) rfl rfl (by kernel_rfl) (by kernel_rfl) (by kernel_rfl) (fun _ _ _ h => h) (.inl ⟨rfl, fun W hW => by simp [execOp, Act.eval, go_sem]⟩) hS ?_
  simp only [List.setIfInBounds_toArray, List.set_cons_succ, List.set_cons_zero]
  refine held_take (i := 13) (t := 70) (v := (.pointer (some ⟨s, 0, none⟩))) (fuel := 15) rfl rfl (by kernel_rfl) (by kernel_rfl) (by kernel_rfl) (fun _ _ _ h => h) (.inl ⟨rfl, fun W hW => by simp [execOp, Act.eval, go_sem]⟩) hS ?_
  simp only [List.setIfInBounds_toArray, List.set_cons_succ, List.set_cons_zero]
  refine held_take (i := 19) (t := 76) (v := (.agg #[.int .i64 0, .int .i64 0])) (fuel := 14) rfl rfl (by kernel_rfl) (by kernel_rfl) (by kernel_rfl) (fun _ _ _ h => h) (.inl ⟨rfl, fun W hW => by simp [execOp, Act.eval, go_sem]⟩) hS ?_
  simp only [List.setIfInBounds_toArray, List.set_cons_succ, List.set_cons_zero]
  refine held_take (i := 20) (t := 77) (v := (.agg #[.int .i64 0, .int .i64 1])) (fuel := 13) rfl rfl (by kernel_rfl) (by kernel_rfl) (by kernel_rfl) (fun _ _ _ h => h) (.inl ⟨rfl, fun W hW => by simp [execOp, Act.eval, go_sem]⟩) hS ?_
  simp only [List.setIfInBounds_toArray, List.set_cons_succ, List.set_cons_zero]
  refine held_two (i := 9) (j := 21) rfl rfl (by kernel_rfl) (by kernel_rfl) (by kernel_rfl) ?_ ?_
  · simp [Oper.wp, execOp, Act.eval, Act.put, go_sem]
    refine (ends2 (HS5.out.below hbV) HD5.out).mono ?_
    rintro e V5x ⟨D1, rfl, e0, e1, hbn⟩
    replace hbV := hbV.trans (hbn.mono hbV.size)
    have hS : Hid True := Lib.hid trivial
    refine ⟨hS, ?_⟩
    clear hbn
    try simp only [List.setIfInBounds_toArray, List.set_cons_succ, List.set_cons_zero]
    have q0 := e0
    refine held_more (S' := fun W => W.cell? ⟨D1, 0, none⟩ = some (.int .i64 0)) (fun _ _ => Lib.hid trivial) _ _ _ _ ?_
    have hS : V5x.cell? ⟨D1, 0, none⟩ = some (.int .i64 0) := q0
    clear e0 e1
    refine held_take (i := 10) (t := 67) (v := (.pointer (some ⟨D1, 0, none⟩))) (fuel := 11) rfl rfl (by kernel_rfl) (by kernel_rfl) (by kernel_rfl) (fun _ _ _ h => h) (.inl ⟨rfl, fun W hW => by have w1 := hW; simp [execOp, Act.eval, go_sem, w1]⟩) hS ?_
    simp only [List.setIfInBounds_toArray, List.set_cons_succ, List.set_cons_zero]
    refine held_take (i := 11) (t := 68) (v := (.int .i64 0)) (fuel := 10) rfl rfl (by kernel_rfl) (by kernel_rfl) (by kernel_rfl) (fun _ _ _ h => h) (.inl ⟨rfl, fun W hW => by have w1 := hW; simp [execOp, Act.eval, go_sem, w1]⟩) hS ?_
    simp only [List.setIfInBounds_toArray, List.set_cons_succ, List.set_cons_zero]
    refine held_take (i := 12) (t := 69) (v := (.agg #[.int .i64 0, .int .i64 0])) (fuel := 9) rfl rfl (by kernel_rfl) (by kernel_rfl) (by kernel_rfl) (fun _ _ _ h => h) (.inl ⟨rfl, fun W hW => by have w1 := hW; simp [execOp, Act.eval, go_sem, w1]⟩) hS ?_
    simp only [List.setIfInBounds_toArray, List.set_cons_succ, List.set_cons_zero]
    refine held_two (i := 14) (j := 21) rfl rfl (by kernel_rfl) (by kernel_rfl) (by kernel_rfl) ?_ ?_
    · simp [Oper.wp, execOp, Act.eval, Act.put, go_sem]
      refine (ends2 (HS5.out.below hbV) HD5.out).mono ?_
      rintro e V5xx ⟨D2, rfl, e0, e1, hbn⟩
      replace q0 := cell_later hbn q0
      replace hbV := hbV.trans (hbn.mono hbV.size)
      have hS : V5xx.cell? ⟨D1, 0, none⟩ = some (.int .i64 0) := q0
      refine ⟨hS, ?_⟩
      clear hbn
      try simp only [List.setIfInBounds_toArray, List.set_cons_succ, List.set_cons_zero]
      have q1 := e1
      refine held_more (S' := fun W => W.cell? ⟨D1, 0, none⟩ = some (.int .i64 0) ∧ W.cell? ⟨D2, 1, none⟩ = some (.int .i64 1)) (fun _ h => h.1) _ _ _ _ ?_
      have hS : V5xx.cell? ⟨D1, 0, none⟩ = some (.int .i64 0) ∧ V5xx.cell? ⟨D2, 1, none⟩ = some (.int .i64 1) := ⟨q0, q1⟩
      clear e0 e1
      refine held_take (i := 15) (t := 72) (v := (.pointer (some ⟨D2, 1, none⟩))) (fuel := 7) rfl rfl (by kernel_rfl) (by kernel_rfl) (by kernel_rfl) (fun _ _ _ h => h) (.inl ⟨rfl, fun W hW => by obtain ⟨w1, w2⟩ := hW; simp [execOp, Act.eval, go_sem, w1, w2]⟩) hS ?_
      simp only [List.setIfInBounds_toArray, List.set_cons_succ, List.set_cons_zero]
      refine held_take (i := 16) (t := 73) (v := (.int .i64 1)) (fuel := 6) rfl rfl (by kernel_rfl) (by kernel_rfl) (by kernel_rfl) (fun _ _ _ h => h) (.inl ⟨rfl, fun W hW => by obtain ⟨w1, w2⟩ := hW; simp [execOp, Act.eval, go_sem, w1, w2]⟩) hS ?_
      simp only [List.setIfInBounds_toArray, List.set_cons_succ, List.set_cons_zero]
      refine held_take (i := 17) (t := 74) (v := (.agg #[.int .i64 0, .int .i64 1])) (fuel := 5) rfl rfl (by kernel_rfl) (by kernel_rfl) (by kernel_rfl) (fun _ _ _ h => h) (.inl ⟨rfl, fun W hW => by obtain ⟨w1, w2⟩ := hW; simp [execOp, Act.eval, go_sem, w1, w2]⟩) hS ?_
      simp only [List.setIfInBounds_toArray, List.set_cons_succ, List.set_cons_zero]
      refine held_two (i := 18) (j := 21) rfl rfl (by kernel_rfl) (by kernel_rfl) (by kernel_rfl) ?_ ?_
      · simp [Oper.wp, execOp, Act.eval, Act.put, go_sem]
        have hbn : Below V5xx.heap.size V5xx (V5xx.alloc (.cells #[.int .i64 0, .int .i64 0, .int .i64 0, .int .i64 1] 59)) := (Below.refl _ _).alloc (Nat.le_refl _) _
        have hr75 : RowC rgCells 2 (V5xx.alloc (.cells #[.int .i64 0, .int .i64 0, .int .i64 0, .int .i64 1] 59)) (V5xx.alloc (.cells #[.int .i64 0, .int .i64 0, .int .i64 0, .int .i64 1] 59)).heap.size (some ⟨V5xx.heap.size, 0, none⟩) [⟨0, 0⟩, ⟨0, 1⟩] := rg_new2 V5xx 0 0 0 1
        obtain ⟨g75, hg75⟩ : ∃ g, V5xx.heap.size = g := ⟨_, rfl⟩
        obtain ⟨V5xxx, hV5xxx⟩ : ∃ V, V5xx.alloc (.cells #[.int .i64 0, .int .i64 0, .int .i64 0, .int .i64 1] 59) = V := ⟨_, rfl⟩
        rw [hV5xxx, hg75] at hr75
        rw [hV5xxx] at hbn
        rw [hV5xxx, hg75]
        replace q0 := cell_later hbn q0
        replace q1 := cell_later hbn q1
        replace hbV := hbV.trans (hbn.mono hbV.size)
        have hS : V5xxx.cell? ⟨D1, 0, none⟩ = some (.int .i64 0) ∧ V5xxx.cell? ⟨D2, 1, none⟩ = some (.int .i64 1) := ⟨q0, q1⟩
        refine ⟨hS, ?_⟩
        clear hbn
        try simp only [List.setIfInBounds_toArray, List.set_cons_succ, List.set_cons_zero]
        refine held_call (i := 21) rfl (by kernel_rfl) (by kernel_rfl) ?_
        simp [Oper.wp, execOp, Act.eval, Act.put, go_sem]
        have hbn : Below V5xxx.heap.size V5xxx (V5xxx.alloc (.cells #[.int .i64 0, .int .i64 0, .int .i64 0, .int .i64 1] 59)) := (Below.refl _ _).alloc (Nat.le_refl _) _
        have hr78 : RowC rgCells 2 (V5xxx.alloc (.cells #[.int .i64 0, .int .i64 0, .int .i64 0, .int .i64 1] 59)) (V5xxx.alloc (.cells #[.int .i64 0, .int .i64 0, .int .i64 0, .int .i64 1] 59)).heap.size (some ⟨V5xxx.heap.size, 0, none⟩) [⟨0, 0⟩, ⟨0, 1⟩] := rg_new2 V5xxx 0 0 0 1
        obtain ⟨g78, hg78⟩ : ∃ g, V5xxx.heap.size = g := ⟨_, rfl⟩
        obtain ⟨V5xxxx, hV5xxxx⟩ : ∃ V, V5xxx.alloc (.cells #[.int .i64 0, .int .i64 0, .int .i64 0, .int .i64 1] 59) = V := ⟨_, rfl⟩
        rw [hV5xxxx, hg78] at hr78
        rw [hV5xxxx] at hbn
        rw [hV5xxxx, hg78]
        replace q0 := cell_later hbn q0
        replace q1 := cell_later hbn q1
        replace hr75 := (hr75.below hbn).more hbn.size
        replace hbV := hbV.trans (hbn.mono hbV.size)
        have hS : V5xxxx.cell? ⟨D1, 0, none⟩ = some (.int .i64 0) ∧ V5xxxx.cell? ⟨D2, 1, none⟩ = some (.int .i64 1) := ⟨q0, q1⟩
        refine ⟨hS, ?_⟩
        clear hbn
        try simp only [List.setIfInBounds_toArray, List.set_cons_succ, List.set_cons_zero]
        refine held_call (i := 22) rfl (by kernel_rfl) (by kernel_rfl) ?_
        simp [Oper.wp, execOp, Act.eval, Act.put, go_sem]
        refine (same_walk [⟨0, 0⟩, ⟨0, 1⟩] (some ⟨g75, 0, none⟩) (some ⟨g78, 0, none⟩) 2 2 2 2 V5xxxx rfl (by decide) hr75 rfl hr78).mono ?_
        rintro e VZ ⟨rfl, hbn⟩
        have hS : VZ.cell? ⟨D1, 0, none⟩ = some (.int .i64 0) ∧ VZ.cell? ⟨D2, 1, none⟩ = some (.int .i64 1) := ⟨cell_later hbn q0, cell_later hbn q1⟩
        refine ⟨hS, ?_⟩
        try simp only [List.setIfInBounds_toArray, List.set_cons_succ, List.set_cons_zero]
        replace hbV := hbV.trans (hbn.mono hbV.size)
        refine held_take (i := 23) (t := 80) (v := (.bool true)) (fuel := 1) rfl rfl (by kernel_rfl) (by kernel_rfl) (by kernel_rfl) (fun _ _ _ h => h) (.inl ⟨rfl, fun W hW => by obtain ⟨w1, w2⟩ := hW; simp [execOp, Act.eval, go_sem, w1, w2]⟩) hS ?_
        simp only [List.setIfInBounds_toArray, List.set_cons_succ, List.set_cons_zero]
        refine held_take (i := 24) (t := 0) (v := (.bool true)) (fuel := 0) rfl rfl (by kernel_rfl) (by kernel_rfl) (by kernel_rfl) (fun _ _ _ h => h) (.inl ⟨rfl, fun W hW => by obtain ⟨w1, w2⟩ := hW; simp [execOp, Act.eval, go_sem, w1, w2]⟩) hS ?_
        simp only [List.setIfInBounds_toArray, List.set_cons_succ, List.set_cons_zero]
        refine wpAnyH_done (by kernel_rfl) ?_ 0
        unfold noPanic
        go_wp2_with fail
        go_ret
        exact ⟨rfl, HB5.out.trans (hbV.mono HB5.out.size)⟩
      · simp [Oper.wp, execOp, Act.eval, Act.put, go_sem]
        have hbn : Below V5xx.heap.size V5xx (V5xx.alloc (.cells #[.int .i64 0, .int .i64 0, .int .i64 0, .int .i64 1] 59)) := (Below.refl _ _).alloc (Nat.le_refl _) _
        have hr78 : RowC rgCells 2 (V5xx.alloc (.cells #[.int .i64 0, .int .i64 0, .int .i64 0, .int .i64 1] 59)) (V5xx.alloc (.cells #[.int .i64 0, .int .i64 0, .int .i64 0, .int .i64 1] 59)).heap.size (some ⟨V5xx.heap.size, 0, none⟩) [⟨0, 0⟩, ⟨0, 1⟩] := rg_new2 V5xx 0 0 0 1
        obtain ⟨g78, hg78⟩ : ∃ g, V5xx.heap.size = g := ⟨_, rfl⟩
        obtain ⟨V5xxx, hV5xxx⟩ : ∃ V, V5xx.alloc (.cells #[.int .i64 0, .int .i64 0, .int .i64 0, .int .i64 1] 59) = V := ⟨_, rfl⟩
        rw [hV5xxx, hg78] at hr78
        rw [hV5xxx] at hbn
        rw [hV5xxx, hg78]
        replace q0 := cell_later hbn q0
        replace q1 := cell_later hbn q1
        replace hbV := hbV.trans (hbn.mono hbV.size)
        have hS : V5xxx.cell? ⟨D1, 0, none⟩ = some (.int .i64 0) ∧ V5xxx.cell? ⟨D2, 1, none⟩ = some (.int .i64 1) := ⟨q0, q1⟩
        refine ⟨hS, ?_⟩
        clear hbn
        try simp only [List.setIfInBounds_toArray, List.set_cons_succ, List.set_cons_zero]
        refine held_call (i := 18) rfl (by kernel_rfl) (by kernel_rfl) ?_
        simp [Oper.wp, execOp, Act.eval, Act.put, go_sem]
        have hbn : Below V5xxx.heap.size V5xxx (V5xxx.alloc (.cells #[.int .i64 0, .int .i64 0, .int .i64 0, .int .i64 1] 59)) := (Below.refl _ _).alloc (Nat.le_refl _) _
        have hr75 : RowC rgCells 2 (V5xxx.alloc (.cells #[.int .i64 0, .int .i64 0, .int .i64 0, .int .i64 1] 59)) (V5xxx.alloc (.cells #[.int .i64 0, .int .i64 0, .int .i64 0, .int .i64 1] 59)).heap.size (some ⟨V5xxx.heap.size, 0, none⟩) [⟨0, 0⟩, ⟨0, 1⟩] := rg_new2 V5xxx 0 0 0 1
        obtain ⟨g75, hg75⟩ : ∃ g, V5xxx.heap.size = g := ⟨_, rfl⟩
        obtain ⟨V5xxxx, hV5xxxx⟩ : ∃ V, V5xxx.alloc (.cells #[.int .i64 0, .int .i64 0, .int .i64 0, .int .i64 1] 59) = V := ⟨_, rfl⟩
        rw [hV5xxxx, hg75] at hr75
        rw [hV5xxxx] at hbn
        rw [hV5xxxx, hg75]
        replace hr78 := (hr78.below hbn).more hbn.size
        replace q0 := cell_later hbn q0
        replace q1 := cell_later hbn q1
        replace hbV := hbV.trans (hbn.mono hbV.size)
        have hS : V5xxxx.cell? ⟨D1, 0, none⟩ = some (.int .i64 0) ∧ V5xxxx.cell? ⟨D2, 1, none⟩ = some (.int .i64 1) := ⟨q0, q1⟩
        refine ⟨hS, ?_⟩
        clear hbn
        try simp only [List.setIfInBounds_toArray, List.set_cons_succ, List.set_cons_zero]
        refine held_call (i := 22) rfl (by kernel_rfl) (by kernel_rfl) ?_
        simp [Oper.wp, execOp, Act.eval, Act.put, go_sem]
        refine (same_walk [⟨0, 0⟩, ⟨0, 1⟩] (some ⟨g75, 0, none⟩) (some ⟨g78, 0, none⟩) 2 2 2 2 V5xxxx rfl (by decide) hr75 rfl hr78).mono ?_
        rintro e VZ ⟨rfl, hbn⟩
        have hS : VZ.cell? ⟨D1, 0, none⟩ = some (.int .i64 0) ∧ VZ.cell? ⟨D2, 1, none⟩ = some (.int .i64 1) := ⟨cell_later hbn q0, cell_later hbn q1⟩
        refine ⟨hS, ?_⟩
        try simp only [List.setIfInBounds_toArray, List.set_cons_succ, List.set_cons_zero]
        replace hbV := hbV.trans (hbn.mono hbV.size)
        refine held_take (i := 23) (t := 80) (v := (.bool true)) (fuel := 1) rfl rfl (by kernel_rfl) (by kernel_rfl) (by kernel_rfl) (fun _ _ _ h => h) (.inl ⟨rfl, fun W hW => by obtain ⟨w1, w2⟩ := hW; simp [execOp, Act.eval, go_sem, w1, w2]⟩) hS ?_
        simp only [List.setIfInBounds_toArray, List.set_cons_succ, List.set_cons_zero]
        refine held_take (i := 24) (t := 0) (v := (.bool true)) (fuel := 0) rfl rfl (by kernel_rfl) (by kernel_rfl) (by kernel_rfl) (fun _ _ _ h => h) (.inl ⟨rfl, fun W hW => by obtain ⟨w1, w2⟩ := hW; simp [execOp, Act.eval, go_sem, w1, w2]⟩) hS ?_
        simp only [List.setIfInBounds_toArray, List.set_cons_succ, List.set_cons_zero]
        refine wpAnyH_done (by kernel_rfl) ?_ 0
        unfold noPanic
        go_wp2_with fail
        go_ret
        exact ⟨rfl, HB5.out.trans (hbV.mono HB5.out.size)⟩
    · simp [Oper.wp, execOp, Act.eval, Act.put, go_sem]
      have hbn : Below V5x.heap.size V5x (V5x.alloc (.cells #[.int .i64 0, .int .i64 0, .int .i64 0, .int .i64 1] 59)) := (Below.refl _ _).alloc (Nat.le_refl _) _
      have hr78 : RowC rgCells 2 (V5x.alloc (.cells #[.int .i64 0, .int .i64 0, .int .i64 0, .int .i64 1] 59)) (V5x.alloc (.cells #[.int .i64 0, .int .i64 0, .int .i64 0, .int .i64 1] 59)).heap.size (some ⟨V5x.heap.size, 0, none⟩) [⟨0, 0⟩, ⟨0, 1⟩] := rg_new2 V5x 0 0 0 1
      obtain ⟨g78, hg78⟩ : ∃ g, V5x.heap.size = g := ⟨_, rfl⟩
      obtain ⟨V5xx, hV5xx⟩ : ∃ V, V5x.alloc (.cells #[.int .i64 0, .int .i64 0, .int .i64 0, .int .i64 1] 59) = V := ⟨_, rfl⟩
      rw [hV5xx, hg78] at hr78
      rw [hV5xx] at hbn
      rw [hV5xx, hg78]
      replace q0 := cell_later hbn q0
      replace hbV := hbV.trans (hbn.mono hbV.size)
      have hS : V5xx.cell? ⟨D1, 0, none⟩ = some (.int .i64 0) := q0
      refine ⟨hS, ?_⟩
      clear hbn
      try simp only [List.setIfInBounds_toArray, List.set_cons_succ, List.set_cons_zero]
      refine held_call (i := 14) rfl (by kernel_rfl) (by kernel_rfl) ?_
      simp [Oper.wp, execOp, Act.eval, Act.put, go_sem]
      refine (ends2 (HS5.out.below hbV) HD5.out).mono ?_
      rintro e V5xxx ⟨D2, rfl, e0, e1, hbn⟩
      replace hr78 := (hr78.below hbn).more hbn.size
      replace q0 := cell_later hbn q0
      replace hbV := hbV.trans (hbn.mono hbV.size)
      have hS : V5xxx.cell? ⟨D1, 0, none⟩ = some (.int .i64 0) := q0
      refine ⟨hS, ?_⟩
      clear hbn
      try simp only [List.setIfInBounds_toArray, List.set_cons_succ, List.set_cons_zero]
      have q1 := e1
      refine held_more (S' := fun W => W.cell? ⟨D1, 0, none⟩ = some (.int .i64 0) ∧ W.cell? ⟨D2, 1, none⟩ = some (.int .i64 1)) (fun _ h => h.1) _ _ _ _ ?_
      have hS : V5xxx.cell? ⟨D1, 0, none⟩ = some (.int .i64 0) ∧ V5xxx.cell? ⟨D2, 1, none⟩ = some (.int .i64 1) := ⟨q0, q1⟩
      clear e0 e1
      refine held_take (i := 15) (t := 72) (v := (.pointer (some ⟨D2, 1, none⟩))) (fuel := 6) rfl rfl (by kernel_rfl) (by kernel_rfl) (by kernel_rfl) (fun _ _ _ h => h) (.inl ⟨rfl, fun W hW => by obtain ⟨w1, w2⟩ := hW; simp [execOp, Act.eval, go_sem, w1, w2]⟩) hS ?_
      simp only [List.setIfInBounds_toArray, List.set_cons_succ, List.set_cons_zero]
      refine held_take (i := 16) (t := 73) (v := (.int .i64 1)) (fuel := 5) rfl rfl (by kernel_rfl) (by kernel_rfl) (by kernel_rfl) (fun _ _ _ h => h) (.inl ⟨rfl, fun W hW => by obtain ⟨w1, w2⟩ := hW; simp [execOp, Act.eval, go_sem, w1, w2]⟩) hS ?_
      simp only [List.setIfInBounds_toArray, List.set_cons_succ, List.set_cons_zero]
      refine held_take (i := 17) (t := 74) (v := (.agg #[.int .i64 0, .int .i64 1])) (fuel := 4) rfl rfl (by kernel_rfl) (by kernel_rfl) (by kernel_rfl) (fun _ _ _ h => h) (.inl ⟨rfl, fun W hW => by obtain ⟨w1, w2⟩ := hW; simp [execOp, Act.eval, go_sem, w1, w2]⟩) hS ?_
      simp only [List.setIfInBounds_toArray, List.set_cons_succ, List.set_cons_zero]
      refine held_call (i := 18) rfl (by kernel_rfl) (by kernel_rfl) ?_
      simp [Oper.wp, execOp, Act.eval, Act.put, go_sem]
      have hbn : Below V5xxx.heap.size V5xxx (V5xxx.alloc (.cells #[.int .i64 0, .int .i64 0, .int .i64 0, .int .i64 1] 59)) := (Below.refl _ _).alloc (Nat.le_refl _) _
      have hr75 : RowC rgCells 2 (V5xxx.alloc (.cells #[.int .i64 0, .int .i64 0, .int .i64 0, .int .i64 1] 59)) (V5xxx.alloc (.cells #[.int .i64 0, .int .i64 0, .int .i64 0, .int .i64 1] 59)).heap.size (some ⟨V5xxx.heap.size, 0, none⟩) [⟨0, 0⟩, ⟨0, 1⟩] := rg_new2 V5xxx 0 0 0 1
      obtain ⟨g75, hg75⟩ : ∃ g, V5xxx.heap.size = g := ⟨_, rfl⟩
      obtain ⟨V5xxxx, hV5xxxx⟩ : ∃ V, V5xxx.alloc (.cells #[.int .i64 0, .int .i64 0, .int .i64 0, .int .i64 1] 59) = V := ⟨_, rfl⟩
      rw [hV5xxxx, hg75] at hr75
      rw [hV5xxxx] at hbn
      rw [hV5xxxx, hg75]
      replace hr78 := (hr78.below hbn).more hbn.size
      replace q0 := cell_later hbn q0
      replace q1 := cell_later hbn q1
      replace hbV := hbV.trans (hbn.mono hbV.size)
      have hS : V5xxxx.cell? ⟨D1, 0, none⟩ = some (.int .i64 0) ∧ V5xxxx.cell? ⟨D2, 1, none⟩ = some (.int .i64 1) := ⟨q0, q1⟩
      refine ⟨hS, ?_⟩
      clear hbn
      try simp only [List.setIfInBounds_toArray, List.set_cons_succ, List.set_cons_zero]
      refine held_call (i := 22) rfl (by kernel_rfl) (by kernel_rfl) ?_
      simp [Oper.wp, execOp, Act.eval, Act.put, go_sem]
      refine (same_walk [⟨0, 0⟩, ⟨0, 1⟩] (some ⟨g75, 0, none⟩) (some ⟨g78, 0, none⟩) 2 2 2 2 V5xxxx rfl (by decide) hr75 rfl hr78).mono ?_
      rintro e VZ ⟨rfl, hbn⟩
      have hS : VZ.cell? ⟨D1, 0, none⟩ = some (.int .i64 0) ∧ VZ.cell? ⟨D2, 1, none⟩ = some (.int .i64 1) := ⟨cell_later hbn q0, cell_later hbn q1⟩
      refine ⟨hS, ?_⟩
      try simp only [List.setIfInBounds_toArray, List.set_cons_succ, List.set_cons_zero]
      replace hbV := hbV.trans (hbn.mono hbV.size)
      refine held_take (i := 23) (t := 80) (v := (.bool true)) (fuel := 1) rfl rfl (by kernel_rfl) (by kernel_rfl) (by kernel_rfl) (fun _ _ _ h => h) (.inl ⟨rfl, fun W hW => by obtain ⟨w1, w2⟩ := hW; simp [execOp, Act.eval, go_sem, w1, w2]⟩) hS ?_
      simp only [List.setIfInBounds_toArray, List.set_cons_succ, List.set_cons_zero]
      refine held_take (i := 24) (t := 0) (v := (.bool true)) (fuel := 0) rfl rfl (by kernel_rfl) (by kernel_rfl) (by kernel_rfl) (fun _ _ _ h => h) (.inl ⟨rfl, fun W hW => by obtain ⟨w1, w2⟩ := hW; simp [execOp, Act.eval, go_sem, w1, w2]⟩) hS ?_
      simp only [List.setIfInBounds_toArray, List.set_cons_succ, List.set_cons_zero]
      refine wpAnyH_done (by kernel_rfl) ?_ 0
      unfold noPanic
      go_wp2_with fail
      go_ret
      exact ⟨rfl, HB5.out.trans (hbV.mono HB5.out.size)⟩
  · simp [Oper.wp, execOp, Act.eval, Act.put, go_sem]
    have hbn : Below V5.heap.size V5 (V5.alloc (.cells #[.int .i64 0, .int .i64 0, .int .i64 0, .int .i64 1] 59)) := (Below.refl _ _).alloc (Nat.le_refl _) _
    have hr78 : RowC rgCells 2 (V5.alloc (.cells #[.int .i64 0, .int .i64 0, .int .i64 0, .int .i64 1] 59)) (V5.alloc (.cells #[.int .i64 0, .int .i64 0, .int .i64 0, .int .i64 1] 59)).heap.size (some ⟨V5.heap.size, 0, none⟩) [⟨0, 0⟩, ⟨0, 1⟩] := rg_new2 V5 0 0 0 1
    obtain ⟨g78, hg78⟩ : ∃ g, V5.heap.size = g := ⟨_, rfl⟩
    obtain ⟨V5x, hV5x⟩ : ∃ V, V5.alloc (.cells #[.int .i64 0, .int .i64 0, .int .i64 0, .int .i64 1] 59) = V := ⟨_, rfl⟩
    rw [hV5x, hg78] at hr78
    rw [hV5x] at hbn
    rw [hV5x, hg78]
    replace hbV := hbV.trans (hbn.mono hbV.size)
    have hS : Hid True := Lib.hid trivial
    refine ⟨hS, ?_⟩
    clear hbn
    try simp only [List.setIfInBounds_toArray, List.set_cons_succ, List.set_cons_zero]
    refine held_call (i := 9) rfl (by kernel_rfl) (by kernel_rfl) ?_
    simp [Oper.wp, execOp, Act.eval, Act.put, go_sem]
    refine (ends2 (HS5.out.below hbV) HD5.out).mono ?_
    rintro e V5xx ⟨D1, rfl, e0, e1, hbn⟩
    replace hr78 := (hr78.below hbn).more hbn.size
    replace hbV := hbV.trans (hbn.mono hbV.size)
    have hS : Hid True := Lib.hid trivial
    refine ⟨hS, ?_⟩
    clear hbn
    try simp only [List.setIfInBounds_toArray, List.set_cons_succ, List.set_cons_zero]
    have q0 := e0
    refine held_more (S' := fun W => W.cell? ⟨D1, 0, none⟩ = some (.int .i64 0)) (fun _ _ => Lib.hid trivial) _ _ _ _ ?_
    have hS : V5xx.cell? ⟨D1, 0, none⟩ = some (.int .i64 0) := q0
    clear e0 e1
    refine held_take (i := 10) (t := 67) (v := (.pointer (some ⟨D1, 0, none⟩))) (fuel := 10) rfl rfl (by kernel_rfl) (by kernel_rfl) (by kernel_rfl) (fun _ _ _ h => h) (.inl ⟨rfl, fun W hW => by have w1 := hW; simp [execOp, Act.eval, go_sem, w1]⟩) hS ?_
    simp only [List.setIfInBounds_toArray, List.set_cons_succ, List.set_cons_zero]
    refine held_take (i := 11) (t := 68) (v := (.int .i64 0)) (fuel := 9) rfl rfl (by kernel_rfl) (by kernel_rfl) (by kernel_rfl) (fun _ _ _ h => h) (.inl ⟨rfl, fun W hW => by have w1 := hW; simp [execOp, Act.eval, go_sem, w1]⟩) hS ?_
    simp only [List.setIfInBounds_toArray, List.set_cons_succ, List.set_cons_zero]
    refine held_take (i := 12) (t := 69) (v := (.agg #[.int .i64 0, .int .i64 0])) (fuel := 8) rfl rfl (by kernel_rfl) (by kernel_rfl) (by kernel_rfl) (fun _ _ _ h => h) (.inl ⟨rfl, fun W hW => by have w1 := hW; simp [execOp, Act.eval, go_sem, w1]⟩) hS ?_
    simp only [List.setIfInBounds_toArray, List.set_cons_succ, List.set_cons_zero]
    refine held_call (i := 14) rfl (by kernel_rfl) (by kernel_rfl) ?_
    simp [Oper.wp, execOp, Act.eval, Act.put, go_sem]
    refine (ends2 (HS5.out.below hbV) HD5.out).mono ?_
    rintro e V5xxx ⟨D2, rfl, e0, e1, hbn⟩
    replace hr78 := (hr78.below hbn).more hbn.size
    replace q0 := cell_later hbn q0
    replace hbV := hbV.trans (hbn.mono hbV.size)
    have hS : V5xxx.cell? ⟨D1, 0, none⟩ = some (.int .i64 0) := q0
    refine ⟨hS, ?_⟩
    clear hbn
    try simp only [List.setIfInBounds_toArray, List.set_cons_succ, List.set_cons_zero]
    have q1 := e1
    refine held_more (S' := fun W => W.cell? ⟨D1, 0, none⟩ = some (.int .i64 0) ∧ W.cell? ⟨D2, 1, none⟩ = some (.int .i64 1)) (fun _ h => h.1) _ _ _ _ ?_
    have hS : V5xxx.cell? ⟨D1, 0, none⟩ = some (.int .i64 0) ∧ V5xxx.cell? ⟨D2, 1, none⟩ = some (.int .i64 1) := ⟨q0, q1⟩
    clear e0 e1
    refine held_take (i := 15) (t := 72) (v := (.pointer (some ⟨D2, 1, none⟩))) (fuel := 6) rfl rfl (by kernel_rfl) (by kernel_rfl) (by kernel_rfl) (fun _ _ _ h => h) (.inl ⟨rfl, fun W hW => by obtain ⟨w1, w2⟩ := hW; simp [execOp, Act.eval, go_sem, w1, w2]⟩) hS ?_
    simp only [List.setIfInBounds_toArray, List.set_cons_succ, List.set_cons_zero]
    refine held_take (i := 16) (t := 73) (v := (.int .i64 1)) (fuel := 5) rfl rfl (by kernel_rfl) (by kernel_rfl) (by kernel_rfl) (fun _ _ _ h => h) (.inl ⟨rfl, fun W hW => by obtain ⟨w1, w2⟩ := hW; simp [execOp, Act.eval, go_sem, w1, w2]⟩) hS ?_
    simp only [List.setIfInBounds_toArray, List.set_cons_succ, List.set_cons_zero]
    refine held_take (i := 17) (t := 74) (v := (.agg #[.int .i64 0, .int .i64 1])) (fuel := 4) rfl rfl (by kernel_rfl) (by kernel_rfl) (by kernel_rfl) (fun _ _ _ h => h) (.inl ⟨rfl, fun W hW => by obtain ⟨w1, w2⟩ := hW; simp [execOp, Act.eval, go_sem, w1, w2]⟩) hS ?_
    simp only [List.setIfInBounds_toArray, List.set_cons_succ, List.set_cons_zero]
    refine held_call (i := 18) rfl (by kernel_rfl) (by kernel_rfl) ?_
    simp [Oper.wp, execOp, Act.eval, Act.put, go_sem]
    have hbn : Below V5xxx.heap.size V5xxx (V5xxx.alloc (.cells #[.int .i64 0, .int .i64 0, .int .i64 0, .int .i64 1] 59)) := (Below.refl _ _).alloc (Nat.le_refl _) _
    have hr75 : RowC rgCells 2 (V5xxx.alloc (.cells #[.int .i64 0, .int .i64 0, .int .i64 0, .int .i64 1] 59)) (V5xxx.alloc (.cells #[.int .i64 0, .int .i64 0, .int .i64 0, .int .i64 1] 59)).heap.size (some ⟨V5xxx.heap.size, 0, none⟩) [⟨0, 0⟩, ⟨0, 1⟩] := rg_new2 V5xxx 0 0 0 1
    obtain ⟨g75, hg75⟩ : ∃ g, V5xxx.heap.size = g := ⟨_, rfl⟩
    obtain ⟨V5xxxx, hV5xxxx⟩ : ∃ V, V5xxx.alloc (.cells #[.int .i64 0, .int .i64 0, .int .i64 0, .int .i64 1] 59) = V := ⟨_, rfl⟩
    rw [hV5xxxx, hg75] at hr75
    rw [hV5xxxx] at hbn
    rw [hV5xxxx, hg75]
    replace hr78 := (hr78.below hbn).more hbn.size
    replace q0 := cell_later hbn q0
    replace q1 := cell_later hbn q1
    replace hbV := hbV.trans (hbn.mono hbV.size)
    have hS : V5xxxx.cell? ⟨D1, 0, none⟩ = some (.int .i64 0) ∧ V5xxxx.cell? ⟨D2, 1, none⟩ = some (.int .i64 1) := ⟨q0, q1⟩
    refine ⟨hS, ?_⟩
    clear hbn
    try simp only [List.setIfInBounds_toArray, List.set_cons_succ, List.set_cons_zero]
    refine held_call (i := 22) rfl (by kernel_rfl) (by kernel_rfl) ?_
    simp [Oper.wp, execOp, Act.eval, Act.put, go_sem]
    refine (same_walk [⟨0, 0⟩, ⟨0, 1⟩] (some ⟨g75, 0, none⟩) (some ⟨g78, 0, none⟩) 2 2 2 2 V5xxxx rfl (by decide) hr75 rfl hr78).mono ?_
    rintro e VZ ⟨rfl, hbn⟩
    have hS : VZ.cell? ⟨D1, 0, none⟩ = some (.int .i64 0) ∧ VZ.cell? ⟨D2, 1, none⟩ = some (.int .i64 1) := ⟨cell_later hbn q0, cell_later hbn q1⟩
    refine ⟨hS, ?_⟩
    try simp only [List.setIfInBounds_toArray, List.set_cons_succ, List.set_cons_zero]
    replace hbV := hbV.trans (hbn.mono hbV.size)
    refine held_take (i := 23) (t := 80) (v := (.bool true)) (fuel := 1) rfl rfl (by kernel_rfl) (by kernel_rfl) (by kernel_rfl) (fun _ _ _ h => h) (.inl ⟨rfl, fun W hW => by obtain ⟨w1, w2⟩ := hW; simp [execOp, Act.eval, go_sem, w1, w2]⟩) hS ?_
    simp only [List.setIfInBounds_toArray, List.set_cons_succ, List.set_cons_zero]
    refine held_take (i := 24) (t := 0) (v := (.bool true)) (fuel := 0) rfl rfl (by kernel_rfl) (by kernel_rfl) (by kernel_rfl) (fun _ _ _ h => h) (.inl ⟨rfl, fun W hW => by obtain ⟨w1, w2⟩ := hW; simp [execOp, Act.eval, go_sem, w1, w2]⟩) hS ?_
    simp only [List.setIfInBounds_toArray, List.set_cons_succ, List.set_cons_zero]
    refine wpAnyH_done (by kernel_rfl) ?_ 0
    unfold noPanic
    go_wp2_with fail
    go_ret
    exact ⟨rfl, HB5.out.trans (hbV.mono HB5.out.size)⟩
end Go.Proofs.YtkcnmajjfljilaaGreatDoor

/- source: the walks of SourceNil and SourceDeals. -/
namespace Go.Proofs.YtkcnmajjfljilaaGreatDoor
open Go Go.ChangeShapes Go.WideShapes Go.ChangeAt Go.RowKit Go.ChangeMaps Go.MapKept
set_option linter.unusedVariables false
set_option linter.unusedSimpArgs false

set_option maxHeartbeats 4000000 in
set_option maxRecDepth 20000 in
theorem snil_bad (p m parts : Int) (v : Value) (h : parts < 1 ∨ (¬ parts < 1 ∧ 4 < parts)) (w : World) (hT : Tab w.heap.size w) : Calls Tryz.prog 6 #[.int .i64 p, .int .i64 m, v, .int .i64 parts] w fun e w' => e = .returned (.bool true) ∧ Below w.heap.size w w' := by
  have HA := Lib.hid (alive_so w hT)
  have HH := Lib.hid (fun W => open_bad (.pointer none) parts 100 h W)
  clear hT
  rcases h with h | ⟨h, h2⟩
  all_goals go_enter Tryz.func6, Tryz.ntmps6
  all_goals go_wp2_with (first
    | (go_at_call 7; refine HA.out.mono ?_; rintro e w1 ⟨rfl, h1⟩; have HB1 := Lib.hid h1; clear h1)
    | (go_at_call 13; go_loud (refine (sappend_no _ _ _).mono ?_; rintro e w2 ⟨rfl, rfl⟩))
    | (go_at_call 16; go_loud (refine (plan_no _ _ _).mono ?_; rintro e w2 ⟨rfl, rfl⟩))
    | (go_at_call 18; go_loud (refine (sread_no _ _).mono ?_; rintro e w2 ⟨rfl, rfl⟩))
    | (go_at_call 12; go_loud (refine (HH.out _).mono ?_; rintro e w2 ⟨rfl, rfl⟩))
    | (go_at_call 14; go_loud (refine (ssync_no _ _).mono ?_; rintro e w2 ⟨rfl, rfl⟩))
    | (go_at_call 19; go_loud (refine (parts_no _).mono ?_; rintro e w2 ⟨rfl, rfl⟩))
    | (go_at_call 20; go_loud (refine (ends_no _).mono ?_; rintro e w3 ⟨rfl, h3⟩; have HB3 := Lib.hid h3; clear h3)))
  all_goals go_ret
  all_goals exact ⟨rfl, HB1.out.trans (HB3.out.mono HB1.out.size)⟩
set_option maxHeartbeats 4000000 in
set_option maxRecDepth 20000 in
theorem snil_ok (p m parts : Int) (v : Value) (h : ¬ parts < 1) (h2 : ¬ 4 < parts) (w : World) (hT : Tab w.heap.size w) : Calls Tryz.prog 6 #[.int .i64 p, .int .i64 m, v, .int .i64 parts] w fun e w' => e = .returned (.bool true) ∧ Below w.heap.size w w' := by
  have HA := Lib.hid (alive_so w hT)
  have HH := Lib.hid (fun W => sopen_no parts 100 h h2 (by decide) (by decide) W)
  clear hT
  go_enter Tryz.func6, Tryz.ntmps6
  go_wp2_with (first
    | (go_at_call 7; refine HA.out.mono ?_; rintro e w1 ⟨rfl, h1⟩; have HB1 := Lib.hid h1; clear h1)
    | (go_at_call 13; go_loud (refine (sappend_no _ _ _).mono ?_; rintro e w2 ⟨rfl, rfl⟩))
    | (go_at_call 16; go_loud (refine (plan_no _ _ _).mono ?_; rintro e w2 ⟨rfl, rfl⟩))
    | (go_at_call 18; go_loud (refine (sread_no _ _).mono ?_; rintro e w2 ⟨rfl, rfl⟩))
    | (go_at_call 12; go_loud (refine (HH.out _).mono ?_; rintro e w2 ⟨rfl, hb⟩; have HB2 := Lib.hid (HB1.out.trans (hb.mono HB1.out.size)); clear hb))
    | (go_at_call 14; go_loud (refine (ssync_no _ _).mono ?_; rintro e w2 ⟨rfl, rfl⟩))
    | (go_at_call 19; go_loud (refine (parts_no _).mono ?_; rintro e w2 ⟨rfl, rfl⟩))
    | (go_at_call 20; go_loud (refine (ends_no _).mono ?_; rintro e w3 ⟨rfl, h3⟩; have HB3 := Lib.hid h3; clear h3)))
  go_ret
  exact ⟨rfl, HB2.out.trans (HB3.out.mono HB2.out.size)⟩
theorem snil_so (p m parts : Int) (v : Value) (w : World) (hT : Tab w.heap.size w) : Calls Tryz.prog 6 #[.int .i64 p, .int .i64 m, v, .int .i64 parts] w fun e w' => e = .returned (.bool true) ∧ Below w.heap.size w w' := by
  by_cases h1 : parts < 1
  · exact snil_bad p m parts v (.inl h1) w hT
  · by_cases h2 : 4 < parts
    · exact snil_bad p m parts v (.inr ⟨h1, h2⟩) w hT
    · exact snil_ok p m parts v h1 h2 w hT
set_option maxHeartbeats 4000000 in
set_option maxRecDepth 20000 in
theorem sdeals_so (xs : List Int) (hin : In64s xs) (A : Option Addr) (c : Nat) (hmax : xs.length ≤ 9223372036854775807) (most : Int) (hm : most ≤ 9223372036854775807) (w : World) (hA : RowC iC 1 w w.heap.size A xs) (hT : Tab w.heap.size w) :
    Calls Tryz.prog 3 #[.slice A xs.length c, .int .i64 most] w fun e w' => e = .returned (.bool true) ∧ Below w.heap.size w w' := by
  have HA := Lib.hid (alive_so w hT)
  clear hT
  by_cases e1 : 5000 < most
  · clear hin hA
    go_enter Tryz.func3, Tryz.ntmps3
    go_wp2_with (go_at_call 7; refine HA.out.mono ?_; rintro e w1 ⟨rfl, h1⟩; have HB1 := Lib.hid h1; clear h1)
    go_ret
    exact ⟨rfl, HB1.out⟩
  by_cases e2 : 40 < xs.length
  · have d2 : decide ((40 : Int) < (xs.length : Int)) = true := decide_eq_true (by omega)
    clear hin hA e2
    go_enter Tryz.func3, Tryz.ntmps3
    go_wp2_with (go_at_call 7; refine HA.out.mono ?_; rintro e w1 ⟨rfl, h1⟩; have HB1 := Lib.hid h1; clear h1)
    go_ret
    exact ⟨rfl, HB1.out⟩
  have d2 : decide ((40 : Int) < (xs.length : Int)) = false := decide_eq_false (by omega)
  have HD1 := Lib.hid (fun W (hb : Below w.heap.size w W) => deal_l xs hin (by omega) c A most hm W ((hA.below hb).more hb.size))
  have HD2 := Lib.hid (fun W (hb : Below w.heap.size w W) => rdeal_any xs hin (by omega) c A most hm W ((hA.below hb).more hb.size))
  have HLEN := Lib.hid (dealL_length xs (rW xs most) (rM xs most))
  obtain ⟨L, hL⟩ : ∃ L, dealL xs (rW xs most) (rM xs most) = L := ⟨_, rfl⟩
  have HL := Lib.hid hL
  rw [hL] at HLEN
  have hx40 : xs.length ≤ 40 := by omega
  clear hin hA hL e2
  go_enter Tryz.func3, Tryz.ntmps3
  go_wp2_with (first
    | (go_at_call 7; refine HA.out.mono ?_; rintro e w1 ⟨rfl, h1⟩; have HB1 := Lib.hid h1; clear h1)
    | (go_at_call 8; go_loud (refine (HD1.out _ HB1.out).mono ?_; rintro e w2 ⟨D1, rfl, _, h2, h3⟩; rw [HL.out] at h2; have HC2 := Lib.hid h2; have HB2 := Lib.hid (HB1.out.trans (h3.mono HB1.out.size)); clear h2 h3))
    | (go_at_call 9; go_loud (refine (HD2.out _ HB2.out).mono ?_; rintro e w3 ⟨D2, rfl, _, h2, h3⟩; rw [HL.out] at h2; have HC3 := Lib.hid h2; have HC2' := Lib.hid (show Cells w3 D1 (iA L) 2 from (h3.block D1 HC2.out.lt).trans HC2.out); have HB3 := Lib.hid (HB2.out.trans (h3.mono HB2.out.size)); clear h2 h3)))
  go_loopw [7] (fun iv wr => ∃ k : Nat, iv = .int .i64 (k : Int) ∧ k ≤ xs.length ∧ Hid (Below w3.heap.size w3 wr)) (fun iv _ => xs.length - (intOf iv).toNat)
  case atStart => exact ⟨0, rfl, Nat.zero_le _, Lib.hid (Below.refl _ _)⟩
  case round =>
    obtain ⟨k, rfl, hk, HB⟩ := hrel
    by_cases hlt : k < xs.length
    · have hkl : k < L.length := by rw [HLEN.out]; exact hlt
      have c1 : wr.cell? ⟨D1, k, none⟩ = some (.int .i64 L[k]) := (show Cells wr D1 (iA L) 2 from (HB.out.block D1 HC2'.out.lt).trans HC2'.out).iat hkl
      have c2 : wr.cell? ⟨D2, k, none⟩ = some (.int .i64 L[k]) := (show Cells wr D2 (iA L) 2 from (HB.out.block D2 HC3.out.lt).trans HC3.out).iat hkl
      obtain ⟨x, hx⟩ : ∃ x, L[k] = x := ⟨_, rfl⟩
      rw [hx] at c1 c2
      have hlt2 : (k : Int) < (xs.length : Int) := by omega
      clear hx hkl
      go_wp2_with fail
      go_quiet (fail)
      go_wp2_with fail
      go_roundw
      case rel => exact ⟨k + 1, by go_num, hlt, Lib.hid (below_more HB.out _)⟩
      case measure => simp [intOf]; omega
    · obtain rfl : k = xs.length := by omega
      have hlt2 : ¬ (xs.length : Int) < (xs.length : Int) := by omega
      go_wp2_with fail
      go_ret
      exact ⟨rfl, HB3.out.trans (HB.out.mono HB3.out.size)⟩
end Go.Proofs.YtkcnmajjfljilaaGreatDoor
