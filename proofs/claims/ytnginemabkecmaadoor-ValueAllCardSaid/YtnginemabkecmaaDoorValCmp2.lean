/- The walks of comparing rows, going on. -/
import Derived.Test.YtnginemabkecmaaDoorValCmp
namespace Go.Proofs.YtnginemabkecmaaDoor
open Go.ChangeShapes Go.WideShapes Go.ChangeAt Go.RowKit
set_option linter.unusedVariables false

theorem cmpR_same {l m : List V} {k : Nat} (hl : k < l.length) (hm : k < m.length) (h : cmpR l m = cmpR (l.drop k) (m.drop k)) (hc : cmpV l[k] m[k] = 0) : cmpR l m = cmpR (l.drop (k + 1)) (m.drop (k + 1)) := by
  rw [h, List.drop_eq_getElem_cons hl, List.drop_eq_getElem_cons hm, cmpR, if_neg (by simpa using hc)]
theorem cmpR_here {l m : List V} {k : Nat} (hl : k < l.length) (hm : k < m.length) (h : cmpR l m = cmpR (l.drop k) (m.drop k)) (hc : cmpV l[k] m[k] ≠ 0) : cmpR l m = cmpV l[k] m[k] := by
  rw [h, List.drop_eq_getElem_cons hl, List.drop_eq_getElem_cons hm, cmpR, if_pos hc]
theorem cmpR_long {l m : List V} {k : Nat} (hl : k < l.length) (hm : m.length ≤ k) (h : cmpR l m = cmpR (l.drop k) (m.drop k)) : cmpR l m = 1 := by
  rw [h, List.drop_eq_getElem_cons hl, List.drop_of_length_le hm, cmpR]
theorem cmpR_short {l m : List V} {k : Nat} (hl : l.length ≤ k) (hm : k < m.length) (h : cmpR l m = cmpR (l.drop k) (m.drop k)) : cmpR l m = -1 := by
  rw [h, List.drop_eq_getElem_cons hm, List.drop_of_length_le hl, cmpR]
theorem cmpR_end {l m : List V} {k : Nat} (hl : l.length ≤ k) (hm : m.length ≤ k) (h : cmpR l m = cmpR (l.drop k) (m.drop k)) : cmpR l m = 0 := by
  rw [h, List.drop_of_length_le hm, List.drop_of_length_le hl, cmpR]

set_option maxHeartbeats 1000000 in
theorem cmpfunc_any (l m : List V) (hwl : ∀ v ∈ l, v.wf) (hwm : ∀ v ∈ m, v.wf) (n1 c1 n2 c2 : Nat) (A B : Option Addr) (w : World) (hl : n1 = l.length) (hm : n2 = m.length) (h1 : n1 ≤ maxLen) (h2 : n2 ≤ maxLen)
    (hA : Row3 w w.heap.size A l) (hB : Row3 w w.heap.size B m) :
    Calls Tryd.prog 34 #[.slice A n1 c1, .slice B n2 c2, .func (.func 18) #[] #[]] w fun e w' => e = .returned (.int .i64 (cmpR l m)) ∧ Below w.heap.size w w' := by
  have HL := Lib.hid hl
  have HM := Lib.hid hm
  have HA := Lib.hid hA
  have HB := Lib.hid hB
  have HW := Lib.hid hwl
  have HW2 := Lib.hid hwm
  clear hl hm hA hB hwl hwm
  unfold maxLen at h1 h2
  go_enter Tryd.func34, Tryd.ntmps34
  go_wp2
  go_loopw [13] (fun i wr => ∃ k : Nat, k ≤ n1 ∧ k ≤ n2 ∧ i = .int .i64 k ∧ Hid (cmpR l m = cmpR (l.drop k) (m.drop k)) ∧ Below w.heap.size w wr) (fun i _ => n1 - (intOf i).toNat)
  case atStart => exact ⟨0, Nat.zero_le _, Nat.zero_le _, rfl, Lib.hid rfl, Below.refl _ _⟩
  case round =>
    obtain ⟨k, hk1, hk2, rfl, HC, hbel⟩ := hrel
    have hsz := hbel.size
    by_cases hlt : k < n1
    · have hkl : k < l.length := by rw [← HL.out]; exact hlt
      obtain ⟨b, off, rfl, hB1, a0, a1, a2⟩ := (HA.out.below hbel) k hkl
      by_cases hlt2 : k < n2
      · have hkm : k < m.length := by rw [← HM.out]; exact hlt2
        obtain ⟨b', off', rfl, hB2, b0, b1, b2⟩ := (HB.out.below hbel) k hkm
        have q1 : b < wr.heap.size := by omega
        have q2 : b' < wr.heap.size := by omega
        obtain ⟨v, HV⟩ : ∃ v, Hid (l[k] = v) := ⟨_, Lib.hid rfl⟩
        obtain ⟨u, HU⟩ : ∃ u, Hid (m[k] = u) := ⟨_, Lib.hid rfl⟩
        rw [HV.out] at a0 a1 a2
        rw [HU.out] at b0 b1 b2
        have hwv : v.wf := HW.out v (by rw [← HV.out]; exact List.getElem_mem hkl)
        have hwu : u.wf := HW2.out u (by rw [← HU.out]; exact List.getElem_mem hkm)
        by_cases hc : cmpV v u = 0
        · have HC2 := Lib.hid (cmpR_same hkl hkm HC.out (by rw [HV.out, HU.out]; exact hc))
          go_wp2_with (go_at_call 18; refine (cmp_any v u hwv hwu _).mono ?_; rintro e w' ⟨rfl, hb⟩)
          go_roundw
          case rel => exact ⟨k + 1, by omega, by omega, by go_num, HC2, ((hbel.alloc hsz _).alloc (by simp; omega) _).trans (hb.mono (by simp; omega))⟩
          case measure => simp [intOf]; omega
        · have hne : (cmpV v u != 0) = true := by simpa using hc
          have hne2 : (cmpV v u == 0) = false := by simpa using hc
          have HC2 := Lib.hid (show cmpR l m = cmpV v u by rw [cmpR_here hkl hkm HC.out (by rw [HV.out, HU.out]; exact hc), HV.out, HU.out])
          go_wp2_with (go_at_call 18; refine (cmp_any v u hwv hwu _).mono ?_; rintro e w' ⟨rfl, hb⟩)
          go_ret
          exact ⟨ret_int HC2.out.symm, ((hbel.alloc hsz _).alloc (by simp; omega) _).trans (hb.mono (by simp; omega))⟩
      · have HC2 := Lib.hid (cmpR_long hkl (by rw [← HM.out]; omega) HC.out)
        go_wp2
        go_ret
        exact ⟨ret_int HC2.out.symm, hbel.alloc hsz _⟩
    · by_cases hlt2 : k < n2
      · have HC2 := Lib.hid (cmpR_short (by rw [← HL.out]; omega) (by rw [← HM.out]; exact hlt2) HC.out)
        have hdd : decide (n1 < n2) = true := decide_eq_true (by omega)
        go_wp2
        go_ret
        exact ⟨ret_int HC2.out.symm, hbel⟩
      · have HC2 := Lib.hid (cmpR_end (by rw [← HL.out]; omega) (by rw [← HM.out]; omega) HC.out)
        have hdd : decide (n1 < n2) = false := decide_eq_false (by omega)
        go_wp2
        go_ret
        exact ⟨ret_int HC2.out.symm, hbel⟩

theorem cmprow_any (l m : List V) (hwl : ∀ v ∈ l, v.wf) (hwm : ∀ v ∈ m, v.wf) (n1 c1 n2 c2 : Nat) (A B : Option Addr) (w : World) (hl : n1 = l.length) (hm : n2 = m.length) (h1 : n1 ≤ maxLen) (h2 : n2 ≤ maxLen)
    (hA : Row3 w w.heap.size A l) (hB : Row3 w w.heap.size B m) :
    Calls Tryd.prog 20 #[.slice A n1 c1, .slice B n2 c2] w fun e w' => e = .returned (.int .i64 (cmpR l m)) ∧ Below w.heap.size w w' := by
  have H := Lib.hid (cmpfunc_any l m hwl hwm n1 c1 n2 c2 A B w hl hm h1 h2 hA hB)
  clear hwl hwm hl hm hA hB
  go_enter Tryd.func20, Tryd.ntmps20
  go_wp2_with (go_at_call 34; refine H.out.mono ?_; rintro e w' ⟨rfl, hb⟩)
  go_ret
  exact ⟨rfl, hb⟩

set_option maxHeartbeats 1000000 in
theorem rcmprow_any (l m : List V) (hwl : ∀ v ∈ l, v.wf) (hwm : ∀ v ∈ m, v.wf) (n1 c1 n2 c2 : Nat) (A B : Option Addr) (w : World) (hl : n1 = l.length) (hm : n2 = m.length) (h1 : n1 ≤ maxLen) (h2 : n2 ≤ maxLen)
    (hA : Row3 w w.heap.size A l) (hB : Row3 w w.heap.size B m) :
    Calls Tryd.prog 21 #[.slice A n1 c1, .slice B n2 c2] w fun e w' => e = .returned (.int .i64 (cmpR l m)) ∧ Below w.heap.size w w' := by
  have HL := Lib.hid hl
  have HM := Lib.hid hm
  have HA := Lib.hid hA
  have HB := Lib.hid hB
  have HW := Lib.hid hwl
  have HW2 := Lib.hid hwm
  clear hl hm hA hB hwl hwm
  unfold maxLen at h1 h2
  go_enter Tryd.func21, Tryd.ntmps21
  go_wp2
  go_loopw [5] (fun i wr => ∃ k : Nat, k ≤ n1 ∧ k ≤ n2 ∧ i = .int .i64 k ∧ Hid (cmpR l m = cmpR (l.drop k) (m.drop k)) ∧ Below w.heap.size w wr) (fun i _ => n1 - (intOf i).toNat)
  case atStart => exact ⟨0, Nat.zero_le _, Nat.zero_le _, rfl, Lib.hid rfl, Below.refl _ _⟩
  case round =>
    obtain ⟨k, hk1, hk2, rfl, HC, hbel⟩ := hrel
    have hsz := hbel.size
    by_cases hlt : k < n1
    · have hkl : k < l.length := by rw [← HL.out]; exact hlt
      obtain ⟨b, off, rfl, hB1, a0, a1, a2⟩ := (HA.out.below hbel) k hkl
      by_cases hlt2 : k < n2
      · have hkm : k < m.length := by rw [← HM.out]; exact hlt2
        obtain ⟨b', off', rfl, hB2, b0, b1, b2⟩ := (HB.out.below hbel) k hkm
        have q1 : b < wr.heap.size := by omega
        have q2 : b' < wr.heap.size := by omega
        obtain ⟨v, HV⟩ : ∃ v, Hid (l[k] = v) := ⟨_, Lib.hid rfl⟩
        obtain ⟨u, HU⟩ : ∃ u, Hid (m[k] = u) := ⟨_, Lib.hid rfl⟩
        rw [HV.out] at a0 a1 a2
        rw [HU.out] at b0 b1 b2
        have hwv : v.wf := HW.out v (by rw [← HV.out]; exact List.getElem_mem hkl)
        have hwu : u.wf := HW2.out u (by rw [← HU.out]; exact List.getElem_mem hkm)
        have i1 : (0 : Int) ≤ (k : Int) := by omega
        have i2 : (k : Int) < (n1 : Int) := by omega
        have i3 : (k : Int) < (n2 : Int) := by omega
        by_cases hc : cmpV v u = 0
        · have HC2 := Lib.hid (cmpR_same hkl hkm HC.out (by rw [HV.out, HU.out]; exact hc))
          go_wp2_with fail
          go_region_with (go_at_call 19; refine (rcmp_any v u hwv hwu _).mono ?_; rintro e w' ⟨rfl, hb⟩)
          all_goals
            go_wp2
            go_roundw
            case rel => exact ⟨k + 1, by omega, by omega, by go_num, HC2, hbel.drew.trans (hb.mono (by simp; omega))⟩
            case measure => simp [intOf]; omega
        · have hne : (cmpV v u != 0) = true := by simpa using hc
          have hne2 : (cmpV v u == 0) = false := by simpa using hc
          have HC2 := Lib.hid (show cmpR l m = cmpV v u by rw [cmpR_here hkl hkm HC.out (by rw [HV.out, HU.out]; exact hc), HV.out, HU.out])
          go_wp2_with fail
          go_region_with (go_at_call 19; refine (rcmp_any v u hwv hwu _).mono ?_; rintro e w' ⟨rfl, hb⟩)
          all_goals
            go_wp2
            go_ret
            exact ⟨ret_int HC2.out.symm, hbel.drew.trans (hb.mono (by simp; omega))⟩
      · have HC2 := Lib.hid (cmpR_long hkl (by rw [← HM.out]; omega) HC.out)
        go_wp2
        go_ret
        exact ⟨ret_int HC2.out.symm, hbel⟩
    · by_cases hlt2 : k < n2
      · have HC2 := Lib.hid (cmpR_short (by rw [← HL.out]; omega) (by rw [← HM.out]; exact hlt2) HC.out)
        have hdd : decide (n1 < n2) = true := decide_eq_true (by omega)
        go_wp2
        go_ret
        exact ⟨ret_int HC2.out.symm, hbel⟩
      · have HC2 := Lib.hid (cmpR_end (by rw [← HL.out]; omega) (by rw [← HM.out]; omega) HC.out)
        have hdd : decide (n1 < n2) = false := decide_eq_false (by omega)
        go_wp2
        go_ret
        exact ⟨ret_int HC2.out.symm, hbel⟩

def sameB (l m : List V) : Bool := decide (l.length = m.length) && (cmpR l m == 0)
theorem same_any (l m : List V) (hwl : ∀ v ∈ l, v.wf) (hwm : ∀ v ∈ m, v.wf) (n1 c1 n2 c2 : Nat) (A B : Option Addr) (w : World) (hl : n1 = l.length) (hm : n2 = m.length) (h1 : n1 ≤ maxLen) (h2 : n2 ≤ maxLen)
    (hA : Row3 w w.heap.size A l) (hB : Row3 w w.heap.size B m) :
    Calls Tryd.prog 27 #[.slice A n1 c1, .slice B n2 c2] w fun e w' => e = .returned (.bool (sameB l m)) ∧ Below w.heap.size w w' := by
  have H := Lib.hid (rcmprow_any l m hwl hwm n1 c1 n2 c2 A B w hl hm h1 h2 hA hB)
  unfold maxLen at h1 h2
  by_cases hs : n1 = n2
  · have e : sameB l m = (cmpR l m == 0) := by unfold sameB; rw [decide_eq_true (by omega), Bool.true_and]
    rw [e]
    clear e hwl hwm hl hm hA hB
    subst hs
    go_enter Tryd.func27, Tryd.ntmps27
    go_wp2_with (go_at_call 21; refine H.out.mono ?_; rintro e w' ⟨rfl, hb⟩)
    go_ret
    exact ⟨rfl, hb⟩
  · have e : sameB l m = false := by unfold sameB; rw [decide_eq_false (by omega), Bool.false_and]
    rw [e]
    clear e hwl hwm hl hm hA hB H
    have hne : (n1 == n2) = false := by simpa using hs
    have hne2 : ((n1 : Int) == (n2 : Int)) = false := by simpa using (by omega : ¬ (n1 : Int) = n2)
    go_enter Tryd.func27, Tryd.ntmps27
    go_wp2
    go_ret
    exact ⟨rfl, Below.refl _ _⟩

def bigB (l : List V) : Bool := decide (40 < l.length) || l.any fun v => decide (600 < v.s.size)
theorem big_any (l : List V) (hwl : ∀ v ∈ l, v.wf) (len cap : Nat) (A : Option Addr) (w : World) (hl : len = l.length) (h1 : len ≤ maxLen) (hA : Row3 w w.heap.size A l) :
    Calls Tryd.prog 22 #[.slice A len cap] w fun e w' => e = .returned (.bool (bigB l)) ∧ w = w' := by
  have HL := Lib.hid hl
  have HA := Lib.hid hA
  have HW := Lib.hid hwl
  clear hl hA hwl
  unfold maxLen at h1
  by_cases h40 : 40 < len
  · have e : bigB l = true := by unfold bigB; rw [decide_eq_true (by rw [← HL.out]; exact h40), Bool.true_or]
    rw [e]
    clear e
    go_enter Tryd.func22, Tryd.ntmps22
    go_wp2
    go_ret
    exact ⟨rfl, rfl⟩
  · have hd : decide ((40 : Int) < (len : Int)) = false := decide_eq_false (by omega)
    go_enter Tryd.func22, Tryd.ntmps22
    go_wp2
    clear hd
    go_loop [3] (fun i => ∃ k : Nat, k ≤ len ∧ i = .int .i64 k ∧ Hid ((l.take k).any (fun v => decide (600 < v.s.size)) = false)) (fun i => len - (intOf i).toNat)
    case atStart => exact ⟨0, Nat.zero_le _, rfl, Lib.hid rfl⟩
    case round =>
      obtain ⟨k, hk, rfl, HA2⟩ := hrel
      by_cases hlt : k < len
      · have hkl : k < l.length := by rw [← HL.out]; exact hlt
        obtain ⟨b, off, rfl, hB, c0, c1, c2⟩ := HA.out k hkl
        obtain ⟨v, HV⟩ : ∃ v, Hid (l[k] = v) := ⟨_, Lib.hid rfl⟩
        rw [HV.out] at c0 c1 c2
        have hwv : v.wf := HW.out v (by rw [← HV.out]; exact List.getElem_mem hkl)
        have hws : v.s.size ≤ 9223372036854775807 := hwv.2.2
        by_cases hc : 600 < v.s.size
        · have HE := Lib.hid (show bigB l = true by
            unfold bigB
            rw [show l.any (fun v => decide (600 < v.s.size)) = true by rw [List.any_eq_true]; exact ⟨l[k], List.getElem_mem hkl, by rw [HV.out]; exact decide_eq_true hc⟩, Bool.or_true])
          go_wp2
          go_ret
          exact ⟨ret_bool HE.out.symm, rfl⟩
        · have HA3 := Lib.hid (show (l.take (k + 1)).any (fun v => decide (600 < v.s.size)) = false by
            rw [List.take_succ_eq_append_getElem hkl, List.any_append, HA2.out, HV.out]
            simp; omega)
          go_wp2
          go_round
          case rel => exact ⟨k + 1, by omega, by go_num, HA3⟩
          case measure => simp [intOf]; omega
      · have HE := Lib.hid (show bigB l = false by
          have h2 := HA2.out
          rw [List.take_of_length_le (by rw [← HL.out]; omega)] at h2
          unfold bigB
          rw [h2, decide_eq_false (by rw [← HL.out]; omega)]
          rfl)
        go_wp2
        go_ret
        exact ⟨ret_bool HE.out.symm, rfl⟩
end Go.Proofs.YtnginemabkecmaaDoor
