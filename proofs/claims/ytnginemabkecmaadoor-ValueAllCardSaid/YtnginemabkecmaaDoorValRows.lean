/- The walks of Row, of comparing, and of what is too big. -/
import Derived.Test.YtnginemabkecmaaDoorValWalks
import Derived.Test.YtnginemabkecmaaDoorShelf
namespace Go.Proofs.YtnginemabkecmaaDoor
open Go.ChangeShapes Go.WideShapes Go.ChangeAt Go.RowKit
set_option linter.unusedVariables false

theorem row_any (l : List V) (hw : ∀ v ∈ l, v.wf) (len cap : Nat) (A : Option Addr) (w : World) (hl : len = l.length) (hm : len ≤ maxLen) (hr : Row3 w w.heap.size A l) :
    Calls Tryd.prog 13 #[.slice A len cap] w fun e w' => e = .returned (.bool (rowB l)) ∧ Below w.heap.size w w' := by
  have HL := Lib.hid hl
  have HR := Lib.hid hr
  have HW := Lib.hid hw
  clear hl hr hw
  unfold maxLen at hm
  by_cases h12 : 12 < len
  · go_enter Tryd.func13, Tryd.ntmps13
    go_wp2
    go_ret
    exact ⟨ret_bool (rowB_far (by rw [← HL.out]; exact h12)).symm, Below.refl _ _⟩
  · have hd : decide ((12 : Int) < (len : Int)) = false := decide_eq_false (by omega)
    go_enter Tryd.func13, Tryd.ntmps13
    go_wp2
    clear hd
    go_loopw [10] (fun i wr => ∃ k : Nat, k ≤ len ∧ i = .int .i64 k ∧ Hid (allB (l.take k) = true) ∧ Below w.heap.size w wr) (fun i _ => len - (intOf i).toNat)
    case atStart => exact ⟨0, Nat.zero_le _, rfl, Lib.hid rfl, Below.refl _ _⟩
    case round =>
      obtain ⟨k, hk, rfl, HA, hbel⟩ := hrel
      by_cases hlt : k < len
      · have hkl : k < l.length := by rw [← HL.out]; exact hlt
        obtain ⟨b, off, rfl, hB, c0, c1, c2⟩ := (HR.out.below hbel) k hkl
        obtain ⟨v, HV⟩ : ∃ v, Hid (l[k] = v) := ⟨_, Lib.hid rfl⟩
        rw [HV.out] at c0 c1 c2
        have hwv : v.wf := HW.out v (by rw [← HV.out]; exact List.getElem_mem hkl)
        by_cases hc : chk v = 0
        · have HA2 := Lib.hid (allB_snoc hkl HA.out (by rw [HV.out]; exact hc))
          go_wp2_with (go_at_call 11; refine (check_any v hwv _).mono ?_; rintro e w' ⟨rfl, hb⟩)
          go_roundw
          case rel => exact ⟨k + 1, by omega, by go_num, HA2, (hbel.alloc hbel.size _).trans (hb.mono (by have := hbel.size; simp; omega))⟩
          case measure => simp [intOf]; omega
        · have hne : (chk v != 0) = true := by simpa using hc
          have hne2 : (chk v == 0) = false := by simpa using hc
          go_wp2_with (go_at_call 11; refine (check_any v hwv _).mono ?_; rintro e w' ⟨rfl, hb⟩)
          go_ret
          exact ⟨ret_bool (rowB_bad (by rw [← HV.out]; exact List.getElem_mem hkl) hc).symm, (hbel.alloc hbel.size _).trans (hb.mono (by have := hbel.size; simp; omega))⟩
      · have hk2 : k = len := by omega
        have HA2 := Lib.hid (show allB l = true by have := HA.out; rwa [hk2, HL.out, List.take_length] at this)
        clear hk2
        go_wp2
        go_ret
        exact ⟨ret_bool (rowB_all (by rw [← HL.out]; omega) HA2.out).symm, hbel⟩

theorem isNaN64_any (x : Int) (w : World) : Calls Tryd.prog 40 #[.int .i64 x] w fun e w' => e = .returned (.bool false) ∧ w = w' := by
  have h1 : (x == x) = true := by simp
  have h2 : (x != x) = false := by simp
  go_enter Tryd.func40, Tryd.ntmps40
  go_wp2
  go_ret
  exact ⟨rfl, rfl⟩
theorem cmp64_any (x y : Int) (w : World) : Calls Tryd.prog 32 #[.int .i64 x, .int .i64 y] w fun e w' => e = .returned (.int .i64 (Lib.compareInt x y)) ∧ w = w' := by
  rcases Int.lt_trichotomy x y with h | h | h
  · have e : Lib.compareInt x y = -1 := if_pos h
    rw [e]
    have h1 : decide (x < y) = true := decide_eq_true h
    go_enter Tryd.func32, Tryd.ntmps32
    go_wp2_with (go_at_call 40; refine (isNaN64_any _ _).mono ?_; rintro e w' ⟨rfl, rfl⟩)
    go_ret
    exact ⟨rfl, rfl⟩
  · subst h
    have e : Lib.compareInt x x = 0 := by simp [Lib.compareInt]
    rw [e]
    have h1 : decide (x < x) = false := decide_eq_false (by omega)
    go_enter Tryd.func32, Tryd.ntmps32
    go_wp2_with (go_at_call 40; refine (isNaN64_any _ _).mono ?_; rintro e w' ⟨rfl, rfl⟩)
    go_ret
    exact ⟨rfl, rfl⟩
  · have e : Lib.compareInt x y = 1 := by unfold Lib.compareInt; rw [if_neg (by omega), if_pos h]
    rw [e]
    have h1 : decide (x < y) = false := decide_eq_false (by omega)
    have h2 : decide (y < x) = true := decide_eq_true h
    go_enter Tryd.func32, Tryd.ntmps32
    go_wp2_with (go_at_call 40; refine (isNaN64_any _ _).mono ?_; rintro e w' ⟨rfl, rfl⟩)
    go_ret
    exact ⟨rfl, rfl⟩
theorem cmpint_any (x y : Int) (w : World) : Calls Tryd.prog 31 #[.int .i64 x, .int .i64 y] w fun e w' => e = .returned (.int .i64 (Lib.compareInt x y)) ∧ w = w' :=
  (Tryd.cmp_Compare_int x y w).mono fun e w' ⟨h1, h2⟩ => ⟨h1, h2.symm⟩
theorem strcmp_any (a b : ByteArray) (w : World) : Calls Tryd.prog 33 #[.string a, .string b] w fun e w' => e = .returned (.int .i64 (Lib.compareBytes a.data.toList b.data.toList)) ∧ w = w' :=
  (Tryd.strings_Compare a b w).mono fun e w' ⟨h1, h2⟩ => ⟨h1, h2.symm⟩

def first3 (a b c : Int) : Int := if a ≠ 0 then a else if b ≠ 0 then b else c
theorem or_any (a b c : Int) (g off cap : Nat) (w : World) (h0 : w.cell? ⟨g, off, none⟩ = some (.int .i64 a)) (h1 : w.cell? ⟨g, off + 1, none⟩ = some (.int .i64 b)) (h2 : w.cell? ⟨g, off + 2, none⟩ = some (.int .i64 c)) :
    Calls Tryd.prog 30 #[.slice (some ⟨g, off, none⟩) 3 cap] w fun e w' => e = .returned (.int .i64 (first3 a b c)) ∧ w = w' := by
  by_cases ha : a = 0
  · have e1 : (a != 0) = false := by simp [ha]
    have e2 : (a == 0) = true := by simp [ha]
    by_cases hb : b = 0
    · have e3 : (b != 0) = false := by simp [hb]
      have e4 : (b == 0) = true := by simp [hb]
      have e : first3 a b c = c := by unfold first3; rw [if_neg (by simpa using ha), if_neg (by simpa using hb)]
      rw [e]
      clear ha hb e
      by_cases hc : c = 0
      · subst hc
        go_enter Tryd.func30, Tryd.ntmps30
        go_wp2
        refine wp_loop_rounds 4 ?_
        iterate 3 (rw [rounds_succ]; go_wp2)
        rw [rounds_succ]
        go_wp2
        go_ret
        exact ⟨rfl, rfl⟩
      · have e5 : (c != 0) = true := by simpa using hc
        have e6 : (c == 0) = false := by simpa using hc
        go_enter Tryd.func30, Tryd.ntmps30
        go_wp2
        refine wp_loop_rounds 4 ?_
        iterate 3 (rw [rounds_succ]; go_wp2)
        go_ret
        exact ⟨rfl, rfl⟩
    · have e3 : (b != 0) = true := by simpa using hb
      have e4 : (b == 0) = false := by simpa using hb
      have e : first3 a b c = b := by unfold first3; rw [if_neg (by simpa using ha), if_pos hb]
      rw [e]
      clear ha e
      go_enter Tryd.func30, Tryd.ntmps30
      go_wp2
      refine wp_loop_rounds 4 ?_
      iterate 2 (rw [rounds_succ]; go_wp2)
      go_ret
      exact ⟨rfl, rfl⟩
  · have e1 : (a != 0) = true := by simpa using ha
    have e2 : (a == 0) = false := by simpa using ha
    have e : first3 a b c = a := if_pos ha
    rw [e]
    clear e
    go_enter Tryd.func30, Tryd.ntmps30
    go_wp2
    refine wp_loop_rounds 4 ?_
    rw [rounds_succ]
    go_wp2
    go_ret
    exact ⟨rfl, rfl⟩

set_option maxHeartbeats 2000000 in
theorem cmp_any (a b : V) (ha : a.wf) (hb : b.wf) (w : World) :
    Calls Tryd.prog 18 #[a.val, b.val] w fun e w' => e = .returned (.int .i64 (cmpV a b)) ∧ Below w.heap.size w w' := by
  obtain ⟨k, n, s⟩ := a
  obtain ⟨k', n', s'⟩ := b
  unfold V.val
  dsimp only
  have e : cmpV ⟨k, n, s⟩ ⟨k', n', s'⟩ = first3 (Lib.compareInt k k') (Lib.compareInt n n') (Lib.compareBytes s.data.toList s'.data.toList) := rfl
  rw [e]
  clear e
  generalize hx : Lib.compareInt k k' = x
  generalize hy : Lib.compareInt n n' = y
  generalize hz : Lib.compareBytes s.data.toList s'.data.toList = z
  have HX := Lib.hid hx
  have HY := Lib.hid hy
  have HZ := Lib.hid hz
  clear hx hy hz
  go_enter Tryd.func18, Tryd.ntmps18
  go_wp2_with fail
  go_region_held3 (fun w' => w'.cell? ⟨w.heap.size, 0, none⟩ = some (.int .i64 k) ∧ w'.cell? ⟨w.heap.size, 1, none⟩ = some (.int .i64 n) ∧ w'.cell? ⟨w.heap.size, 2, none⟩ = some (.string s) ∧
      w'.cell? ⟨w.heap.size + 1, 0, none⟩ = some (.int .i64 k') ∧ w'.cell? ⟨w.heap.size + 1, 1, none⟩ = some (.int .i64 n') ∧ w'.cell? ⟨w.heap.size + 1, 2, none⟩ = some (.string s')) (go_keep)
    (first | (go_at_call 31; refine (cmpint_any _ _ _).mono ?_; rintro e w' ⟨rfl, rfl⟩; rw [HX.out]) | (go_at_call 32; refine (cmp64_any _ _ _).mono ?_; rintro e w' ⟨rfl, rfl⟩; rw [HY.out]) | (go_at_call 33; refine (strcmp_any _ _ _).mono ?_; rintro e w' ⟨rfl, rfl⟩; rw [HZ.out]) | (go_at_call 30; refine (or_any x y z _ 0 3 _ (by simp [go_sem]) (by simp [go_sem]) (by simp [go_sem])).mono ?_; rintro e w' ⟨rfl, rfl⟩))
  go_wp2
  go_ret
  exact ⟨rfl, ((((Below.refl _ _).alloc (Nat.le_refl _) _).alloc (by simp) _).alloc (by simp; omega) _).drew⟩
end Go.Proofs.YtnginemabkecmaaDoor
