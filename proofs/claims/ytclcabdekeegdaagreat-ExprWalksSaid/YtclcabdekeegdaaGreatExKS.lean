/- Several texts in one: ExK, ExS, ExKd. -/
import Derived.Test.YtclcabdekeegdaaGreatExC
import Derived.Test.YtclcabdekeegdaaGreatExPV
/- Layer 13, walked: of what kind, by Op (wip/gen/XExK.py). -/
namespace Go.Proofs.YtclcabdekeegdaaGreat
open Go.ChangeShapes Go.WideShapes Go.ChangeAt Go.RowKit
set_option linter.unusedVariables false

/-- A number, or given up. -/
def endK (r : Int × Int) : Ending := if r.2 = 0 then .returned (.int .i64 r.1) else .panicked [gaveUp r.2]
theorem endK_ok (k : Int) : endK (k, 0) = .returned (.int .i64 k) := if_pos rfl
theorem endK_no {k e : Int} (h : e ≠ 0) : endK (k, e) = .panicked [gaveUp e] := if_neg h
def kV (k0 k1 k2 : Int) : Value := .agg #[.int .i64 k0, .int .i64 k1, .int .i64 k2]
theorem eqK (a b c x y z : Int) (w : World) : (Op.equalIn 10000 90 (.agg #[.int .i64 a, .int .i64 b, .int .i64 c]) (.agg #[.int .i64 x, .int .i64 y, .int .i64 z])).run Tryz.prog w = .ok (a == x && b == y && c == z) w := by
  have u3 := Tryz.underlying3
  have a3 := Tryz.isAgg3
  have z3 := Tryz.sizeOf3
  rw [show (10000 : Nat) = 9999 + 1 from rfl, Op.equalIn]
  simp only [Sem.run_bind, run_underlying Tryz.underlying90, Result.andThen_ok]
  simp only [Std.Legacy.Range.forIn_eq_forIn_range', Std.Legacy.Range.size, Nat.sub_zero, Nat.add_sub_cancel, Nat.div_one, List.range'_succ, List.range'_zero, List.forIn_cons, List.forIn_nil]
  go_simp
  by_cases h1 : a = x <;> by_cases h2 : b = y <;> by_cases h3 : c = z <;> simp [h1, h2, h3]
theorem two_boxes (w : World) (a b : Obj) : Below w.heap.size w ((w.alloc a).alloc b) := ((Below.refl _ w).alloc (Nat.le_refl _) _).alloc (by simp) _
set_option maxRecDepth 20000 in
theorem ofInts_any (s : Value) (q : Int) (n : ByteArray) (v : V) (l : Nat) (A : Option Addr) (c : Nat) (k0 k1 k2 : Int) (w : World) :
    Calls Tryz.prog 67 #[s, eV q n v l A c, kV k0 k1 k2] w fun en w' => en = endK (if k0 = 1 ∧ k1 = 1 ∧ k2 = 0 then (1, 0) else (0, 133)) ∧ Below w.heap.size w w' := by
  obtain ⟨E, hE⟩ : ∃ E, endK (if k0 = 1 ∧ k1 = 1 ∧ k2 = 0 then (1, 0) else (0, 133)) = E := ⟨_, rfl⟩
  have HT := Lib.hid (fun h : k0 = 1 ∧ k1 = 1 ∧ k2 = 0 => show E = .returned (.int .i64 1) by rw [← hE, if_pos h, endK_ok])
  have HF := Lib.hid (fun h : ¬ (k0 = 1 ∧ k1 = 1 ∧ k2 = 0) => show E = .panicked [gaveUp 133] by rw [← hE, if_neg h, endK_no (by decide)])
  rw [hE]
  clear hE
  unfold eV kV
  have hek := eqK
  by_cases h0 : k0 = 1
  · skip
    by_cases h1 : k1 = 1
    · skip
      by_cases h2 : k2 = 0
      · have qh2 : (k2 == 0) = true := by simpa using h2
        have HX := Lib.hid (HT.out ⟨h0, h1, h2⟩)
        go_enter Tryz.func67, Tryz.ntmps67
        go_wp2_with (go_at_call 104; refine (must_ok _ _).mono ?_; rintro e w2 ⟨rfl, rfl⟩)
        go_ret
        rw [HX.out]
        exact ⟨by first | rfl | (simp; done) | simp_all, two_boxes _ _ _⟩
      · have qh2 : (k2 == 0) = false := by simpa using h2
        have HX := Lib.hid (HF.out (fun hh => h2 hh.2.2))
        go_enter Tryz.func67, Tryz.ntmps67
        go_wp2_with (go_at_call 104; refine (must_no _ _).mono ?_; rintro e w2 ⟨rfl, rfl⟩)
        exact ⟨rfl, HX.out.symm, two_boxes _ _ _⟩
    · have qh1 : (k1 == 1) = false := by simpa using h1
      have HX := Lib.hid (HF.out (fun hh => h1 hh.2.1))
      go_enter Tryz.func67, Tryz.ntmps67
      go_wp2_with (go_at_call 104; refine (must_no _ _).mono ?_; rintro e w2 ⟨rfl, rfl⟩)
      exact ⟨rfl, HX.out.symm, two_boxes _ _ _⟩
  · have qh0 : (k0 == 1) = false := by simpa using h0
    have HX := Lib.hid (HF.out (fun hh => h0 hh.1))
    go_enter Tryz.func67, Tryz.ntmps67
    go_wp2_with (go_at_call 104; refine (must_no _ _).mono ?_; rintro e w2 ⟨rfl, rfl⟩)
    exact ⟨rfl, HX.out.symm, two_boxes _ _ _⟩
set_option maxRecDepth 20000 in
theorem ofInt_any (s : Value) (q : Int) (n : ByteArray) (v : V) (l : Nat) (A : Option Addr) (c : Nat) (k0 k1 k2 : Int) (w : World) :
    Calls Tryz.prog 69 #[s, eV q n v l A c, kV k0 k1 k2] w fun en w' => en = endK (if k0 = 1 ∧ k1 = 0 ∧ k2 = 0 then (1, 0) else (0, 133)) ∧ Below w.heap.size w w' := by
  obtain ⟨E, hE⟩ : ∃ E, endK (if k0 = 1 ∧ k1 = 0 ∧ k2 = 0 then (1, 0) else (0, 133)) = E := ⟨_, rfl⟩
  have HT := Lib.hid (fun h : k0 = 1 ∧ k1 = 0 ∧ k2 = 0 => show E = .returned (.int .i64 1) by rw [← hE, if_pos h, endK_ok])
  have HF := Lib.hid (fun h : ¬ (k0 = 1 ∧ k1 = 0 ∧ k2 = 0) => show E = .panicked [gaveUp 133] by rw [← hE, if_neg h, endK_no (by decide)])
  rw [hE]
  clear hE
  unfold eV kV
  have hek := eqK
  by_cases h0 : k0 = 1
  · skip
    by_cases h1 : k1 = 0
    · skip
      by_cases h2 : k2 = 0
      · have qh2 : (k2 == 0) = true := by simpa using h2
        have HX := Lib.hid (HT.out ⟨h0, h1, h2⟩)
        go_enter Tryz.func69, Tryz.ntmps69
        go_wp2_with (go_at_call 104; refine (must_ok _ _).mono ?_; rintro e w2 ⟨rfl, rfl⟩)
        go_ret
        rw [HX.out]
        exact ⟨by first | rfl | (simp; done) | simp_all, two_boxes _ _ _⟩
      · have qh2 : (k2 == 0) = false := by simpa using h2
        have HX := Lib.hid (HF.out (fun hh => h2 hh.2.2))
        go_enter Tryz.func69, Tryz.ntmps69
        go_wp2_with (go_at_call 104; refine (must_no _ _).mono ?_; rintro e w2 ⟨rfl, rfl⟩)
        exact ⟨rfl, HX.out.symm, two_boxes _ _ _⟩
    · have qh1 : (k1 == 0) = false := by simpa using h1
      have HX := Lib.hid (HF.out (fun hh => h1 hh.2.1))
      go_enter Tryz.func69, Tryz.ntmps69
      go_wp2_with (go_at_call 104; refine (must_no _ _).mono ?_; rintro e w2 ⟨rfl, rfl⟩)
      exact ⟨rfl, HX.out.symm, two_boxes _ _ _⟩
  · have qh0 : (k0 == 1) = false := by simpa using h0
    have HX := Lib.hid (HF.out (fun hh => h0 hh.1))
    go_enter Tryz.func69, Tryz.ntmps69
    go_wp2_with (go_at_call 104; refine (must_no _ _).mono ?_; rintro e w2 ⟨rfl, rfl⟩)
    exact ⟨rfl, HX.out.symm, two_boxes _ _ _⟩
set_option maxRecDepth 20000 in
theorem ofBools_any (s : Value) (q : Int) (n : ByteArray) (v : V) (l : Nat) (A : Option Addr) (c : Nat) (k0 k1 k2 : Int) (w : World) :
    Calls Tryz.prog 76 #[s, eV q n v l A c, kV k0 k1 k2] w fun en w' => en = endK (if k0 = 2 ∧ k1 = 2 ∧ k2 = 0 then (2, 0) else (0, 133)) ∧ Below w.heap.size w w' := by
  obtain ⟨E, hE⟩ : ∃ E, endK (if k0 = 2 ∧ k1 = 2 ∧ k2 = 0 then (2, 0) else (0, 133)) = E := ⟨_, rfl⟩
  have HT := Lib.hid (fun h : k0 = 2 ∧ k1 = 2 ∧ k2 = 0 => show E = .returned (.int .i64 2) by rw [← hE, if_pos h, endK_ok])
  have HF := Lib.hid (fun h : ¬ (k0 = 2 ∧ k1 = 2 ∧ k2 = 0) => show E = .panicked [gaveUp 133] by rw [← hE, if_neg h, endK_no (by decide)])
  rw [hE]
  clear hE
  unfold eV kV
  have hek := eqK
  by_cases h0 : k0 = 2
  · skip
    by_cases h1 : k1 = 2
    · skip
      by_cases h2 : k2 = 0
      · have qh2 : (k2 == 0) = true := by simpa using h2
        have HX := Lib.hid (HT.out ⟨h0, h1, h2⟩)
        go_enter Tryz.func76, Tryz.ntmps76
        go_wp2_with (go_at_call 104; refine (must_ok _ _).mono ?_; rintro e w2 ⟨rfl, rfl⟩)
        go_ret
        rw [HX.out]
        exact ⟨by first | rfl | (simp; done) | simp_all, two_boxes _ _ _⟩
      · have qh2 : (k2 == 0) = false := by simpa using h2
        have HX := Lib.hid (HF.out (fun hh => h2 hh.2.2))
        go_enter Tryz.func76, Tryz.ntmps76
        go_wp2_with (go_at_call 104; refine (must_no _ _).mono ?_; rintro e w2 ⟨rfl, rfl⟩)
        exact ⟨rfl, HX.out.symm, two_boxes _ _ _⟩
    · have qh1 : (k1 == 2) = false := by simpa using h1
      have HX := Lib.hid (HF.out (fun hh => h1 hh.2.1))
      go_enter Tryz.func76, Tryz.ntmps76
      go_wp2_with (go_at_call 104; refine (must_no _ _).mono ?_; rintro e w2 ⟨rfl, rfl⟩)
      exact ⟨rfl, HX.out.symm, two_boxes _ _ _⟩
  · have qh0 : (k0 == 2) = false := by simpa using h0
    have HX := Lib.hid (HF.out (fun hh => h0 hh.1))
    go_enter Tryz.func76, Tryz.ntmps76
    go_wp2_with (go_at_call 104; refine (must_no _ _).mono ?_; rintro e w2 ⟨rfl, rfl⟩)
    exact ⟨rfl, HX.out.symm, two_boxes _ _ _⟩
set_option maxRecDepth 20000 in
theorem ofBool_any (s : Value) (q : Int) (n : ByteArray) (v : V) (l : Nat) (A : Option Addr) (c : Nat) (k0 k1 k2 : Int) (w : World) :
    Calls Tryz.prog 79 #[s, eV q n v l A c, kV k0 k1 k2] w fun en w' => en = endK (if k0 = 2 ∧ k1 = 0 ∧ k2 = 0 then (2, 0) else (0, 133)) ∧ Below w.heap.size w w' := by
  obtain ⟨E, hE⟩ : ∃ E, endK (if k0 = 2 ∧ k1 = 0 ∧ k2 = 0 then (2, 0) else (0, 133)) = E := ⟨_, rfl⟩
  have HT := Lib.hid (fun h : k0 = 2 ∧ k1 = 0 ∧ k2 = 0 => show E = .returned (.int .i64 2) by rw [← hE, if_pos h, endK_ok])
  have HF := Lib.hid (fun h : ¬ (k0 = 2 ∧ k1 = 0 ∧ k2 = 0) => show E = .panicked [gaveUp 133] by rw [← hE, if_neg h, endK_no (by decide)])
  rw [hE]
  clear hE
  unfold eV kV
  have hek := eqK
  by_cases h0 : k0 = 2
  · skip
    by_cases h1 : k1 = 0
    · skip
      by_cases h2 : k2 = 0
      · have qh2 : (k2 == 0) = true := by simpa using h2
        have HX := Lib.hid (HT.out ⟨h0, h1, h2⟩)
        go_enter Tryz.func79, Tryz.ntmps79
        go_wp2_with (go_at_call 104; refine (must_ok _ _).mono ?_; rintro e w2 ⟨rfl, rfl⟩)
        go_ret
        rw [HX.out]
        exact ⟨by first | rfl | (simp; done) | simp_all, two_boxes _ _ _⟩
      · have qh2 : (k2 == 0) = false := by simpa using h2
        have HX := Lib.hid (HF.out (fun hh => h2 hh.2.2))
        go_enter Tryz.func79, Tryz.ntmps79
        go_wp2_with (go_at_call 104; refine (must_no _ _).mono ?_; rintro e w2 ⟨rfl, rfl⟩)
        exact ⟨rfl, HX.out.symm, two_boxes _ _ _⟩
    · have qh1 : (k1 == 0) = false := by simpa using h1
      have HX := Lib.hid (HF.out (fun hh => h1 hh.2.1))
      go_enter Tryz.func79, Tryz.ntmps79
      go_wp2_with (go_at_call 104; refine (must_no _ _).mono ?_; rintro e w2 ⟨rfl, rfl⟩)
      exact ⟨rfl, HX.out.symm, two_boxes _ _ _⟩
  · have qh0 : (k0 == 2) = false := by simpa using h0
    have HX := Lib.hid (HF.out (fun hh => h0 hh.1))
    go_enter Tryz.func79, Tryz.ntmps79
    go_wp2_with (go_at_call 104; refine (must_no _ _).mono ?_; rintro e w2 ⟨rfl, rfl⟩)
    exact ⟨rfl, HX.out.symm, two_boxes _ _ _⟩
set_option maxRecDepth 20000 in
theorem ofText_any (s : Value) (q : Int) (n : ByteArray) (v : V) (l : Nat) (A : Option Addr) (c : Nat) (k0 k1 k2 : Int) (w : World) :
    Calls Tryz.prog 87 #[s, eV q n v l A c, kV k0 k1 k2] w fun en w' => en = endK (if k0 = 3 ∧ k1 = 0 ∧ k2 = 0 then (1, 0) else (0, 133)) ∧ Below w.heap.size w w' := by
  obtain ⟨E, hE⟩ : ∃ E, endK (if k0 = 3 ∧ k1 = 0 ∧ k2 = 0 then (1, 0) else (0, 133)) = E := ⟨_, rfl⟩
  have HT := Lib.hid (fun h : k0 = 3 ∧ k1 = 0 ∧ k2 = 0 => show E = .returned (.int .i64 1) by rw [← hE, if_pos h, endK_ok])
  have HF := Lib.hid (fun h : ¬ (k0 = 3 ∧ k1 = 0 ∧ k2 = 0) => show E = .panicked [gaveUp 133] by rw [← hE, if_neg h, endK_no (by decide)])
  rw [hE]
  clear hE
  unfold eV kV
  have hek := eqK
  by_cases h0 : k0 = 3
  · skip
    by_cases h1 : k1 = 0
    · skip
      by_cases h2 : k2 = 0
      · have qh2 : (k2 == 0) = true := by simpa using h2
        have HX := Lib.hid (HT.out ⟨h0, h1, h2⟩)
        go_enter Tryz.func87, Tryz.ntmps87
        go_wp2_with (go_at_call 104; refine (must_ok _ _).mono ?_; rintro e w2 ⟨rfl, rfl⟩)
        go_ret
        rw [HX.out]
        exact ⟨by first | rfl | (simp; done) | simp_all, two_boxes _ _ _⟩
      · have qh2 : (k2 == 0) = false := by simpa using h2
        have HX := Lib.hid (HF.out (fun hh => h2 hh.2.2))
        go_enter Tryz.func87, Tryz.ntmps87
        go_wp2_with (go_at_call 104; refine (must_no _ _).mono ?_; rintro e w2 ⟨rfl, rfl⟩)
        exact ⟨rfl, HX.out.symm, two_boxes _ _ _⟩
    · have qh1 : (k1 == 0) = false := by simpa using h1
      have HX := Lib.hid (HF.out (fun hh => h1 hh.2.1))
      go_enter Tryz.func87, Tryz.ntmps87
      go_wp2_with (go_at_call 104; refine (must_no _ _).mono ?_; rintro e w2 ⟨rfl, rfl⟩)
      exact ⟨rfl, HX.out.symm, two_boxes _ _ _⟩
  · have qh0 : (k0 == 3) = false := by simpa using h0
    have HX := Lib.hid (HF.out (fun hh => h0 hh.1))
    go_enter Tryz.func87, Tryz.ntmps87
    go_wp2_with (go_at_call 104; refine (must_no _ _).mono ?_; rintro e w2 ⟨rfl, rfl⟩)
    exact ⟨rfl, HX.out.symm, two_boxes _ _ _⟩
set_option maxRecDepth 20000 in
theorem ofAlike_any (s : Value) (q : Int) (n : ByteArray) (v : V) (l : Nat) (A : Option Addr) (c : Nat) (k0 k1 k2 : Int) (w : World) :
    Calls Tryz.prog 71 #[s, eV q n v l A c, kV k0 k1 k2] w fun en w' => en = endK (if k0 = k1 then (2, 0) else (0, 133)) ∧ Below w.heap.size w w' := by
  obtain ⟨E, hE⟩ : ∃ E, endK (if k0 = k1 then (2, 0) else (0, 133)) = E := ⟨_, rfl⟩
  have HT := Lib.hid (fun h : k0 = k1 => show E = .returned (.int .i64 2) by rw [← hE, if_pos h, endK_ok])
  have HF := Lib.hid (fun h : ¬ (k0 = k1) => show E = .panicked [gaveUp 133] by rw [← hE, if_neg h, endK_no (by decide)])
  rw [hE]
  clear hE
  unfold eV kV
  have hek := eqK
  by_cases h0 : k0 = k1
  · have qh0 : (k0 == k1) = true := by simpa using h0
    have HX := Lib.hid (HT.out (h0))
    go_enter Tryz.func71, Tryz.ntmps71
    go_wp2_with (go_at_call 104; refine (must_ok _ _).mono ?_; rintro e w2 ⟨rfl, rfl⟩)
    go_ret
    rw [HX.out]
    exact ⟨by first | rfl | (simp; done) | simp_all, two_boxes _ _ _⟩
  · have qh0 : (k0 == k1) = false := by simpa using h0
    have HX := Lib.hid (HF.out (fun hh => h0 hh))
    go_enter Tryz.func71, Tryz.ntmps71
    go_wp2_with (go_at_call 104; refine (must_no _ _).mono ?_; rintro e w2 ⟨rfl, rfl⟩)
    exact ⟨rfl, HX.out.symm, two_boxes _ _ _⟩
set_option maxRecDepth 20000 in
theorem ofChoice_any (s : Value) (q : Int) (n : ByteArray) (v : V) (l : Nat) (A : Option Addr) (c : Nat) (k0 k1 k2 : Int) (w : World) :
    Calls Tryz.prog 83 #[s, eV q n v l A c, kV k0 k1 k2] w fun en w' => en = endK (if k0 = 2 ∧ k1 = k2 then (k1, 0) else (0, 133)) ∧ Below w.heap.size w w' := by
  obtain ⟨E, hE⟩ : ∃ E, endK (if k0 = 2 ∧ k1 = k2 then (k1, 0) else (0, 133)) = E := ⟨_, rfl⟩
  have HT := Lib.hid (fun h : k0 = 2 ∧ k1 = k2 => show E = .returned (.int .i64 k1) by rw [← hE, if_pos h, endK_ok])
  have HF := Lib.hid (fun h : ¬ (k0 = 2 ∧ k1 = k2) => show E = .panicked [gaveUp 133] by rw [← hE, if_neg h, endK_no (by decide)])
  rw [hE]
  clear hE
  unfold eV kV
  have hek := eqK
  by_cases h0 : k0 = 2
  · skip
    by_cases h1 : k1 = k2
    · have qh1 : (k1 == k2) = true := by simpa using h1
      have HX := Lib.hid (HT.out ⟨h0, h1⟩)
      go_enter Tryz.func83, Tryz.ntmps83
      go_wp2_with (go_at_call 104; refine (must_ok _ _).mono ?_; rintro e w2 ⟨rfl, rfl⟩)
      go_ret
      rw [HX.out]
      exact ⟨by first | rfl | (simp; done) | simp_all, two_boxes _ _ _⟩
    · have qh1 : (k1 == k2) = false := by simpa using h1
      have HX := Lib.hid (HF.out (fun hh => h1 hh.2))
      go_enter Tryz.func83, Tryz.ntmps83
      go_wp2_with (go_at_call 104; refine (must_no _ _).mono ?_; rintro e w2 ⟨rfl, rfl⟩)
      exact ⟨rfl, HX.out.symm, two_boxes _ _ _⟩
  · have qh0 : (k0 == 2) = false := by simpa using h0
    have HX := Lib.hid (HF.out (fun hh => h0 hh.1))
    go_enter Tryz.func83, Tryz.ntmps83
    go_wp2_with (go_at_call 104; refine (must_no _ _).mono ?_; rintro e w2 ⟨rfl, rfl⟩)
    exact ⟨rfl, HX.out.symm, two_boxes _ _ _⟩
set_option maxRecDepth 20000 in
theorem ofFirst_any (s : Value) (q : Int) (n : ByteArray) (v : V) (l : Nat) (A : Option Addr) (c : Nat) (k0 k1 k2 : Int) (w : World) :
    Calls Tryz.prog 85 #[s, eV q n v l A c, kV k0 k1 k2] w fun en w' => en = endK (if k0 = k1 then (k0, 0) else (0, 133)) ∧ Below w.heap.size w w' := by
  obtain ⟨E, hE⟩ : ∃ E, endK (if k0 = k1 then (k0, 0) else (0, 133)) = E := ⟨_, rfl⟩
  have HT := Lib.hid (fun h : k0 = k1 => show E = .returned (.int .i64 k0) by rw [← hE, if_pos h, endK_ok])
  have HF := Lib.hid (fun h : ¬ (k0 = k1) => show E = .panicked [gaveUp 133] by rw [← hE, if_neg h, endK_no (by decide)])
  rw [hE]
  clear hE
  unfold eV kV
  have hek := eqK
  by_cases h0 : k0 = k1
  · have qh0 : (k0 == k1) = true := by simpa using h0
    have HX := Lib.hid (HT.out (h0))
    go_enter Tryz.func85, Tryz.ntmps85
    go_wp2_with (go_at_call 104; refine (must_ok _ _).mono ?_; rintro e w2 ⟨rfl, rfl⟩)
    go_ret
    rw [HX.out]
    exact ⟨by first | rfl | (simp; done) | simp_all, two_boxes _ _ _⟩
  · have qh0 : (k0 == k1) = false := by simpa using h0
    have HX := Lib.hid (HF.out (fun hh => h0 hh))
    go_enter Tryz.func85, Tryz.ntmps85
    go_wp2_with (go_at_call 104; refine (must_no _ _).mono ?_; rintro e w2 ⟨rfl, rfl⟩)
    exact ⟨rfl, HX.out.symm, two_boxes _ _ _⟩
theorem ofAny_any (s : Value) (q : Int) (n : ByteArray) (v : V) (l : Nat) (A : Option Addr) (c : Nat) (k0 k1 k2 : Int) (w : World) :
    Calls Tryz.prog 81 #[s, eV q n v l A c, kV k0 k1 k2] w fun en w' => en = endK (2, 0) ∧ Below w.heap.size w w' := by
  unfold eV kV
  rw [endK_ok]
  go_enter Tryz.func81, Tryz.ntmps81
  go_wp2
  go_ret
  exact ⟨rfl, two_boxes _ _ _⟩
theorem literalKind_any (s : Value) (q : Int) (n : ByteArray) (v : V) (l : Nat) (A : Option Addr) (c : Nat) (k0 k1 k2 : Int) (w : World) :
    Calls Tryz.prog 61 #[s, eV q n v l A c, kV k0 k1 k2] w fun en w' => en = endK (v.k, 0) ∧ Below w.heap.size w w' := by
  unfold eV kV
  rw [endK_ok]
  go_enter Tryz.func61, Tryz.ntmps61
  go_wp2
  go_ret
  exact ⟨rfl, two_boxes _ _ _⟩
theorem nullKind_any (s : Value) (q : Int) (n : ByteArray) (v : V) (l : Nat) (A : Option Addr) (c : Nat) (k0 k1 k2 : Int) (w : World) :
    Calls Tryz.prog 64 #[s, eV q n v l A c, kV k0 k1 k2] w fun en w' => en = endK (wordK n.data.toList, 0) ∧ Below w.heap.size w w' := by
  have HN := Lib.hid (named_any n)
  unfold eV kV
  rw [endK_ok]
  go_enter Tryz.func64, Tryz.ntmps64
  go_wp2_with (go_at_call 105; refine (HN.out _).mono ?_; rintro e w' ⟨rfl, rfl⟩)
  go_ret
  exact ⟨rfl, two_boxes _ _ _⟩
end Go.Proofs.YtclcabdekeegdaaGreat

/- Layer 13, walked: of what kind columns are; the scope. -/
namespace Go.Proofs.YtclcabdekeegdaaGreat
open Go.ChangeShapes Go.WideShapes Go.ChangeAt Go.RowKit
set_option linter.unusedVariables false
set_option linter.unusedSimpArgs false

def scA (cA : Option Addr) (cl cc : Nat) (rA : Option Addr) (rl rc : Nat) : Array Value := (rulesL ++ [Value.slice cA cl cc, Value.slice rA rl rc]).toArray
/-- The scope lies in block b. -/
structure Sc (cs : List C) (row : List V) (cA : Option Addr) (cc : Nat) (rA : Option Addr) (rc : Nat) (B b : Nat) (w : World) : Prop where
  hp : w.heap[b]? = some (.cells (scA cA cs.length cc rA row.length rc) 72)
  cols : Row2 w B cA cs
  rowm : Row3 w B rA row
  hB : B ≤ w.heap.size
  cl : cs.length ≤ maxLen
  rl : row.length ≤ maxLen
section
variable {cs : List C} {row : List V} {cA : Option Addr} {cc : Nat} {rA : Option Addr} {rc : Nat} {B b : Nat} {w w' : World}
theorem Sc.lt (h : Sc cs row cA cc rA rc B b w) : b < w.heap.size := (Array.getElem?_eq_some_iff.1 h.hp).1
theorem Sc.below (h : Sc cs row cA cc rA rc B b w) (hb : Below w.heap.size w w') : Sc cs row cA cc rA rc B b w' :=
  ⟨(hb.block b h.lt).trans h.hp, h.cols.below (hb.mono h.hB), h.rowm.below (hb.mono h.hB), Nat.le_trans h.hB hb.size, h.cl, h.rl⟩
theorem scA_at {cl rl j : Nat} {v : Value} (h : rulesL[j]? = some v) : (scA cA cl cc rA rl rc)[j]? = some v := by
  unfold scA
  rw [List.getElem?_toArray, List.getElem?_append_left (List.getElem?_eq_some_iff.1 h).1]
  exact h
theorem rulesL_len : rulesL.length = 84 := by decide +kernel
theorem scA_84 {cl rl : Nat} : (scA cA cl cc rA rl rc)[84]? = some (.slice cA cl cc) := by
  unfold scA
  rw [List.getElem?_toArray, List.getElem?_append_right (by rw [rulesL_len]; exact Nat.le_refl _), rulesL_len]
  rfl
theorem scA_85 {cl rl : Nat} : (scA cA cl cc rA rl rc)[85]? = some (.slice rA rl rc) := by
  unfold scA
  rw [List.getElem?_toArray, List.getElem?_append_right (by rw [rulesL_len]; decide), rulesL_len]
  rfl
theorem Sc.c84 (h : Sc cs row cA cc rA rc B b w) : w.cell? ⟨b, 84, none⟩ = some (.slice cA cs.length cc) := by
  have := scA_84 (cA := cA) (cl := cs.length) (cc := cc) (rA := rA) (rl := row.length) (rc := rc)
  simp [World.cell?, h.hp]; exact this
theorem Sc.c85 (h : Sc cs row cA cc rA rc B b w) : w.cell? ⟨b, 85, none⟩ = some (.slice rA row.length rc) := by
  have := scA_85 (cA := cA) (cl := cs.length) (cc := cc) (rA := rA) (rl := row.length) (rc := rc)
  simp [World.cell?, h.hp]; exact this
theorem Sc.rule (h : Sc cs row cA cc rA rc B b w) {j : Nat} {v : Value} (hj : rulesL[j]? = some v) : w.cell? ⟨b, j, none⟩ = some v := by
  have := scA_at (cA := cA) (cl := cs.length) (cc := cc) (rA := rA) (rl := row.length) (rc := rc) hj
  simp [World.cell?, h.hp]; exact this
end
theorem new_x (w : World) (q : Int) (n : ByteArray) (k m : Int) (s : ByteArray) (l : Nat) (A : Option Addr) (c : Nat) : (w.alloc (.cells #[.int .i64 q, .string n, .int .i64 k, .int .i64 m, .string s, .slice A l c] 26)).cell? ⟨w.heap.size, 1, none⟩ = some (.string n) := by
  rw [World.cell?_alloc_mark]; rfl
set_option maxHeartbeats 2000000 in
set_option maxRecDepth 20000 in
theorem columnKind_any (cs : List C) (row : List V) (cA : Option Addr) (cc : Nat) (rA : Option Addr) (rc : Nat) (B b : Nat) (q : Int) (n : ByteArray) (v : V) (l : Nat) (A : Option Addr) (c : Nat) (k0 k1 k2 : Int) (w : World) (hs : Sc cs row cA cc rA rc B b w) :
    Calls Tryz.prog 58 #[.pointer (some ⟨b, 0, none⟩), eV q n v l A c, kV k0 k1 k2] w fun en w' => en = endK (if findI n cs < cs.length then ((cs.getD (findI n cs) ⟨n, 0⟩).k, 0) else (0, 132)) ∧ Below w.heap.size w w' := by
  obtain ⟨E, hE⟩ : ∃ E, endK (if findI n cs < cs.length then ((cs.getD (findI n cs) ⟨n, 0⟩).k, 0) else (0, 132)) = E := ⟨_, rfl⟩
  rw [hE]
  have HE := Lib.hid hE
  have HS := Lib.hid hs
  have HB := Lib.hid (two_boxes w (.cells #[.int .i64 q, .string n, .int .i64 v.k, .int .i64 v.n, .string v.s, .slice A l c] 26) (.cells #[.int .i64 k0, .int .i64 k1, .int .i64 k2] 90))
  have HFI := Lib.hid (fun (W : World) (hb : Below w.heap.size w W) => find_any cs n cs.length cc cA W rfl hs.cl ((hs.below hb).cols.more (hs.below hb).hB))
  obtain ⟨N, hN⟩ : ∃ N, cs.length = N := ⟨_, rfl⟩
  clear hE hs
  unfold eV kV
  by_cases hf : findI n cs < cs.length
  · have hfi := (f_hit (n := n) (l := cs) rfl hf).1
    have hfb := (f_hit (n := n) (l := cs) rfl hf).2.1
    obtain ⟨i, hi⟩ : ∃ i, findI n cs = i := ⟨_, rfl⟩
    have HI := Lib.hid hi
    rw [hi] at hf
    obtain ⟨bc, oc, hcA, hbc, r0, r1⟩ := HS.out.cols i hf
    have HX := Lib.hid (show E = .returned (.int .i64 (cs[i]'hf).k) by
      rw [← HE.out, if_pos (by rw [hi]; exact hf), endK_ok, hi]
      simp [List.getD, List.getElem?_eq_getElem hf])
    have hbw : bc < w.heap.size := Nat.lt_of_lt_of_le hbc HS.out.hB
    rw [hfi, hfb, hi] at HFI
    have HL := Lib.hid HS.out.cl
    subst hcA
    have i1 : (0 : Int) ≤ (i : Int) := by omega
    have i2 : (i : Int) < (cs.length : Int) := by omega
    have hbs := HS.out.lt
    clear hfi hfb hi hbc r0
    go_enter Tryz.func58, Tryz.ntmps58
    go_wp2_with fail
    obtain ⟨w1, hw1⟩ : ∃ w1, (w.alloc (.cells #[.int .i64 q, .string n, .int .i64 v.k, .int .i64 v.n, .string v.s, .slice A l c] 26)).alloc (.cells #[.int .i64 k0, .int .i64 k1, .int .i64 k2] 90) = w1 := ⟨_, rfl⟩
    have z1 : w1.cell? ⟨w.heap.size, 1, none⟩ = some (.string n) := by rw [← hw1, World.cell?_alloc_past _ _ _ (by simp)]; exact new_x w q n v.k v.n v.s l A c
    rw [hw1] at HB ⊢
    have hS : (w1.drew.cell? ⟨b, 84, none⟩ = some (.slice (some ⟨bc, oc, none⟩) cs.length cc) ∧ w1.drew.cell? ⟨w.heap.size, 1, none⟩ = some (.string n)) ∧ Below w.heap.size w w1.drew := ⟨⟨(HS.out.below HB.out).c84, z1⟩, HB.out.drew⟩
    clear hw1 z1
    refine held_begin 12 (fun W => (W.cell? ⟨b, 84, none⟩ = some (.slice (some ⟨bc, oc, none⟩) cs.length cc) ∧ W.cell? ⟨w.heap.size, 1, none⟩ = some (.string n)) ∧ Below w.heap.size w W) rfl (by kernel_rfl) ?_
    refine held_take (i := 0) (t := 10) (v := (.pointer (some ⟨b, 0, none⟩))) (fuel := 11) rfl rfl (by kernel_rfl) (by kernel_rfl) (by kernel_rfl) (fun _ _ _ h => h) (.inl ⟨rfl, fun W hW => by simp [execOp, Act.eval, go_sem]⟩) hS ?_
    simp only [List.setIfInBounds_toArray, List.set_cons_succ, List.set_cons_zero]
    refine held_take (i := 1) (t := 11) (v := (.pointer (some ⟨b, 0, none⟩))) (fuel := 10) rfl rfl (by kernel_rfl) (by kernel_rfl) (by kernel_rfl) (fun _ _ _ h => h) (.inl ⟨rfl, fun W hW => by simp [execOp, Act.eval, go_sem]⟩) hS ?_
    simp only [List.setIfInBounds_toArray, List.set_cons_succ, List.set_cons_zero]
    refine held_take (i := 2) (t := 12) (v := (.pointer (some ⟨b, 84, none⟩))) (fuel := 9) rfl rfl (by kernel_rfl) (by kernel_rfl) (by kernel_rfl) (fun _ _ _ h => h) (.inl ⟨rfl, fun W hW => by simp [execOp, Act.eval, go_sem]⟩) hS ?_
    simp only [List.setIfInBounds_toArray, List.set_cons_succ, List.set_cons_zero]
    refine held_take (i := 3) (t := 13) (v := (.slice (some ⟨bc, oc, none⟩) cs.length cc)) (fuel := 8) rfl rfl (by kernel_rfl) (by kernel_rfl) (by kernel_rfl) (fun _ _ _ h => h) (.inl ⟨rfl, fun W hW => by simp [execOp, Act.eval, go_sem, hW.1.1]⟩) hS ?_
    simp only [List.setIfInBounds_toArray, List.set_cons_succ, List.set_cons_zero]
    refine held_take (i := 4) (t := 14) (v := (.pointer (some ⟨w.heap.size, 1, none⟩))) (fuel := 7) rfl rfl (by kernel_rfl) (by kernel_rfl) (by kernel_rfl) (fun _ _ _ h => h) (.inl ⟨rfl, fun W hW => by simp [execOp, Act.eval, go_sem]⟩) hS ?_
    simp only [List.setIfInBounds_toArray, List.set_cons_succ, List.set_cons_zero]
    refine held_take (i := 5) (t := 15) (v := (.string n)) (fuel := 6) rfl rfl (by kernel_rfl) (by kernel_rfl) (by kernel_rfl) (fun _ _ _ h => h) (.inl ⟨rfl, fun W hW => by simp [execOp, Act.eval, go_sem, hW.1.2]⟩) hS ?_
    simp only [List.setIfInBounds_toArray, List.set_cons_succ, List.set_cons_zero]
    refine held_call (i := 6) rfl (by kernel_rfl) (by kernel_rfl) ?_
    simp [Oper.wp, execOp, Act.eval, Act.put, go_sem]
    refine (HFI.out _ hS.2).mono ?_
    rintro en w3 ⟨rfl, hb3⟩
    have hb4 := hop0 hS.2 hb3
    have HB4 := Lib.hid hb4
    have hS : (w3.cell? ⟨b, 84, none⟩ = some (.slice (some ⟨bc, oc, none⟩) cs.length cc) ∧ w3.cell? ⟨w.heap.size, 1, none⟩ = some (.string n)) ∧ Below w.heap.size w w3 := ⟨⟨later_cell hb3 hS.1.1, later_cell hb3 hS.1.2⟩, hb4⟩
    refine ⟨hS, ?_⟩
    try simp only [List.setIfInBounds_toArray, List.set_cons_succ, List.set_cons_zero]
    refine held_take (i := 7) (t := 9) (v := (.tuple #[.int .i64 (i : Int), .bool true])) (fuel := 4) rfl rfl (by kernel_rfl) (by kernel_rfl) (by kernel_rfl) (fun _ _ _ h => h) (.inl ⟨rfl, fun W hW => by simp [execOp, Act.eval, go_sem]⟩) hS ?_
    simp only [List.setIfInBounds_toArray, List.set_cons_succ, List.set_cons_zero]
    refine held_take (i := 8) (t := 17) (v := (.int .i64 (i : Int))) (fuel := 3) rfl rfl (by kernel_rfl) (by kernel_rfl) (by kernel_rfl) (fun _ _ _ h => h) (.inl ⟨rfl, fun W hW => by simp [execOp, Act.eval, go_sem]⟩) hS ?_
    simp only [List.setIfInBounds_toArray, List.set_cons_succ, List.set_cons_zero]
    refine held_take (i := 9) (t := 18) (v := (.bool true)) (fuel := 2) rfl rfl (by kernel_rfl) (by kernel_rfl) (by kernel_rfl) (fun _ _ _ h => h) (.inl ⟨rfl, fun W hW => by simp [execOp, Act.eval, go_sem]⟩) hS ?_
    simp only [List.setIfInBounds_toArray, List.set_cons_succ, List.set_cons_zero]
    refine held_take (i := 10) (t := 7) (v := (.int .i64 (i : Int))) (fuel := 1) rfl rfl (by kernel_rfl) (by kernel_rfl) (by kernel_rfl) (fun _ _ _ h => h) (.inl ⟨rfl, fun W hW => by simp [execOp, Act.eval, go_sem]⟩) hS ?_
    simp only [List.setIfInBounds_toArray, List.set_cons_succ, List.set_cons_zero]
    refine held_take (i := 11) (t := 8) (v := (.bool true)) (fuel := 0) rfl rfl (by kernel_rfl) (by kernel_rfl) (by kernel_rfl) (fun _ _ _ h => h) (.inl ⟨rfl, fun W hW => by simp [execOp, Act.eval, go_sem]⟩) hS ?_
    simp only [List.setIfInBounds_toArray, List.set_cons_succ, List.set_cons_zero]
    refine wpAnyH_done (by kernel_rfl) ?_ 0
    have y0 := hS.1.1
    have y1 := later_cell hb4 r1
    clear hS r1
    go_wp2_with (go_at_call 104; refine (must_ok _ _).mono ?_; rintro e w2 ⟨rfl, rfl⟩)
    go_ret
    rw [HX.out]
    exact ⟨rfl, HB4.out⟩
  · have hfi := (f_miss (n := n) (l := cs) (by have := findI_le n cs; omega)).1
    have hfb := (f_miss (n := n) (l := cs) (by have := findI_le n cs; omega)).2.1
    have HX := Lib.hid (show E = .panicked [gaveUp 132] by rw [← HE.out, if_neg hf, endK_no (by decide)])
    rw [hfi, hfb] at HFI
    have hbs := HS.out.lt
    clear hfi hfb hf
    go_enter Tryz.func58, Tryz.ntmps58
    go_wp2_with fail
    obtain ⟨w1, hw1⟩ : ∃ w1, (w.alloc (.cells #[.int .i64 q, .string n, .int .i64 v.k, .int .i64 v.n, .string v.s, .slice A l c] 26)).alloc (.cells #[.int .i64 k0, .int .i64 k1, .int .i64 k2] 90) = w1 := ⟨_, rfl⟩
    have z1 : w1.cell? ⟨w.heap.size, 1, none⟩ = some (.string n) := by rw [← hw1, World.cell?_alloc_past _ _ _ (by simp)]; exact new_x w q n v.k v.n v.s l A c
    rw [hw1] at HB ⊢
    have hS : (w1.drew.cell? ⟨b, 84, none⟩ = some (.slice cA cs.length cc) ∧ w1.drew.cell? ⟨w.heap.size, 1, none⟩ = some (.string n)) ∧ Below w.heap.size w w1.drew := ⟨⟨(HS.out.below HB.out).c84, z1⟩, HB.out.drew⟩
    clear hw1 z1
    refine held_begin 12 (fun W => (W.cell? ⟨b, 84, none⟩ = some (.slice cA cs.length cc) ∧ W.cell? ⟨w.heap.size, 1, none⟩ = some (.string n)) ∧ Below w.heap.size w W) rfl (by kernel_rfl) ?_
    refine held_take (i := 0) (t := 10) (v := (.pointer (some ⟨b, 0, none⟩))) (fuel := 11) rfl rfl (by kernel_rfl) (by kernel_rfl) (by kernel_rfl) (fun _ _ _ h => h) (.inl ⟨rfl, fun W hW => by simp [execOp, Act.eval, go_sem]⟩) hS ?_
    simp only [List.setIfInBounds_toArray, List.set_cons_succ, List.set_cons_zero]
    refine held_take (i := 1) (t := 11) (v := (.pointer (some ⟨b, 0, none⟩))) (fuel := 10) rfl rfl (by kernel_rfl) (by kernel_rfl) (by kernel_rfl) (fun _ _ _ h => h) (.inl ⟨rfl, fun W hW => by simp [execOp, Act.eval, go_sem]⟩) hS ?_
    simp only [List.setIfInBounds_toArray, List.set_cons_succ, List.set_cons_zero]
    refine held_take (i := 2) (t := 12) (v := (.pointer (some ⟨b, 84, none⟩))) (fuel := 9) rfl rfl (by kernel_rfl) (by kernel_rfl) (by kernel_rfl) (fun _ _ _ h => h) (.inl ⟨rfl, fun W hW => by simp [execOp, Act.eval, go_sem]⟩) hS ?_
    simp only [List.setIfInBounds_toArray, List.set_cons_succ, List.set_cons_zero]
    refine held_take (i := 3) (t := 13) (v := (.slice cA cs.length cc)) (fuel := 8) rfl rfl (by kernel_rfl) (by kernel_rfl) (by kernel_rfl) (fun _ _ _ h => h) (.inl ⟨rfl, fun W hW => by simp [execOp, Act.eval, go_sem, hW.1.1]⟩) hS ?_
    simp only [List.setIfInBounds_toArray, List.set_cons_succ, List.set_cons_zero]
    refine held_take (i := 4) (t := 14) (v := (.pointer (some ⟨w.heap.size, 1, none⟩))) (fuel := 7) rfl rfl (by kernel_rfl) (by kernel_rfl) (by kernel_rfl) (fun _ _ _ h => h) (.inl ⟨rfl, fun W hW => by simp [execOp, Act.eval, go_sem]⟩) hS ?_
    simp only [List.setIfInBounds_toArray, List.set_cons_succ, List.set_cons_zero]
    refine held_take (i := 5) (t := 15) (v := (.string n)) (fuel := 6) rfl rfl (by kernel_rfl) (by kernel_rfl) (by kernel_rfl) (fun _ _ _ h => h) (.inl ⟨rfl, fun W hW => by simp [execOp, Act.eval, go_sem, hW.1.2]⟩) hS ?_
    simp only [List.setIfInBounds_toArray, List.set_cons_succ, List.set_cons_zero]
    refine held_call (i := 6) rfl (by kernel_rfl) (by kernel_rfl) ?_
    simp [Oper.wp, execOp, Act.eval, Act.put, go_sem]
    refine (HFI.out _ hS.2).mono ?_
    rintro en w3 ⟨rfl, hb3⟩
    have hb4 := hop0 hS.2 hb3
    have HB4 := Lib.hid hb4
    have hS : (w3.cell? ⟨b, 84, none⟩ = some (.slice cA cs.length cc) ∧ w3.cell? ⟨w.heap.size, 1, none⟩ = some (.string n)) ∧ Below w.heap.size w w3 := ⟨⟨later_cell hb3 hS.1.1, later_cell hb3 hS.1.2⟩, hb4⟩
    refine ⟨hS, ?_⟩
    try simp only [List.setIfInBounds_toArray, List.set_cons_succ, List.set_cons_zero]
    refine held_take (i := 7) (t := 9) (v := (.tuple #[.int .i64 0, .bool false])) (fuel := 4) rfl rfl (by kernel_rfl) (by kernel_rfl) (by kernel_rfl) (fun _ _ _ h => h) (.inl ⟨rfl, fun W hW => by simp [execOp, Act.eval, go_sem]⟩) hS ?_
    simp only [List.setIfInBounds_toArray, List.set_cons_succ, List.set_cons_zero]
    refine held_take (i := 8) (t := 17) (v := (.int .i64 0)) (fuel := 3) rfl rfl (by kernel_rfl) (by kernel_rfl) (by kernel_rfl) (fun _ _ _ h => h) (.inl ⟨rfl, fun W hW => by simp [execOp, Act.eval, go_sem]⟩) hS ?_
    simp only [List.setIfInBounds_toArray, List.set_cons_succ, List.set_cons_zero]
    refine held_take (i := 9) (t := 18) (v := (.bool false)) (fuel := 2) rfl rfl (by kernel_rfl) (by kernel_rfl) (by kernel_rfl) (fun _ _ _ h => h) (.inl ⟨rfl, fun W hW => by simp [execOp, Act.eval, go_sem]⟩) hS ?_
    simp only [List.setIfInBounds_toArray, List.set_cons_succ, List.set_cons_zero]
    refine held_take (i := 10) (t := 7) (v := (.int .i64 0)) (fuel := 1) rfl rfl (by kernel_rfl) (by kernel_rfl) (by kernel_rfl) (fun _ _ _ h => h) (.inl ⟨rfl, fun W hW => by simp [execOp, Act.eval, go_sem]⟩) hS ?_
    simp only [List.setIfInBounds_toArray, List.set_cons_succ, List.set_cons_zero]
    refine held_take (i := 11) (t := 8) (v := (.bool false)) (fuel := 0) rfl rfl (by kernel_rfl) (by kernel_rfl) (by kernel_rfl) (fun _ _ _ h => h) (.inl ⟨rfl, fun W hW => by simp [execOp, Act.eval, go_sem]⟩) hS ?_
    simp only [List.setIfInBounds_toArray, List.set_cons_succ, List.set_cons_zero]
    refine wpAnyH_done (by kernel_rfl) ?_ 0
    clear hS
    go_wp2_with (go_at_call 104; refine (must_no _ _).mono ?_; rintro e w2 ⟨rfl, rfl⟩)
    exact ⟨rfl, HX.out.symm, HB4.out⟩
end Go.Proofs.YtclcabdekeegdaaGreat

/- Layer 13, walked: of what kind an expression is, or what is wrong first. -/
namespace Go.Proofs.YtclcabdekeegdaaGreat
open Go.ChangeShapes Go.WideShapes Go.ChangeAt Go.RowKit
set_option linter.unusedVariables false
set_option linter.unusedSimpArgs false

theorem kindF_enters (o : Int) : ∀ args W, (callFunc (kindF o) args).run Tryz.prog W = .ok (.enter (kindF o) args) W := by
  intro args W
  unfold kindF
  repeat' split
  · exact enters_of Tryz.func58 (by kernel_rfl) rfl args W
  · exact enters_of Tryz.func61 (by kernel_rfl) rfl args W
  · exact enters_of Tryz.func64 (by kernel_rfl) rfl args W
  · exact enters_of Tryz.func67 (by kernel_rfl) rfl args W
  · exact enters_of Tryz.func69 (by kernel_rfl) rfl args W
  · exact enters_of Tryz.func71 (by kernel_rfl) rfl args W
  · exact enters_of Tryz.func76 (by kernel_rfl) rfl args W
  · exact enters_of Tryz.func79 (by kernel_rfl) rfl args W
  · exact enters_of Tryz.func81 (by kernel_rfl) rfl args W
  · exact enters_of Tryz.func83 (by kernel_rfl) rfl args W
  · exact enters_of Tryz.func85 (by kernel_rfl) rfl args W
  · exact enters_of Tryz.func87 (by kernel_rfl) rfl args W
/-- What an Op makes of its parts' kinds. -/
def kindO (cs : List C) (o : Int) (n : ByteArray) (v : V) (k0 k1 k2 : Int) : Int × Int :=
  if o = 1 then (if findI n cs < cs.length then ((cs.getD (findI n cs) ⟨n, 0⟩).k, 0) else (0, 132))
  else if o = 2 then (v.k, 0)
  else if o = 3 then (wordK n.data.toList, 0)
  else kindOp o k0 k1 k2
theorem kindF_any (cs : List C) (row : List V) (cA : Option Addr) (cc : Nat) (rA : Option Addr) (rc : Nat) (B b : Nat) (o q : Int) (n : ByteArray) (v : V) (l : Nat) (A : Option Addr) (c : Nat) (k0 k1 k2 : Int) (h1 : 1 ≤ o) (h20 : o ≤ 20)
    (hk2 : o ≠ 18 → k2 = 0) (hk1 : (o = 9 ∨ o = 16 ∨ o = 17 ∨ o = 20) → k1 = 0) (w : World) (hs : Sc cs row cA cc rA rc B b w) :
    Calls Tryz.prog (kindF o) #[.pointer (some ⟨b, 0, none⟩), eV q n v l A c, kV k0 k1 k2] w fun en w' => en = endK (kindO cs o n v k0 k1 k2) ∧ Below w.heap.size w w' := by
  unfold kindF kindO
  by_cases e1 : o = 1
  · simp only [if_pos e1]; exact columnKind_any cs row cA cc rA rc B b q n v l A c k0 k1 k2 w hs
  simp only [if_neg e1]
  by_cases e2 : o = 2
  · simp only [if_pos e2]; exact literalKind_any _ _ _ _ _ _ _ _ _ _ w
  simp only [if_neg e2]
  by_cases e3 : o = 3
  · simp only [if_pos e3]; exact nullKind_any _ _ _ _ _ _ _ _ _ _ w
  simp only [if_neg e3]
  unfold kindOp
  by_cases e8 : o ≤ 8
  · simp only [if_pos e8, if_pos (show 4 ≤ o ∧ o ≤ 8 by omega)]
    refine (ofInts_any _ q n v l A c k0 k1 k2 w).mono fun en w' h => ⟨h.1.trans ?_, h.2⟩
    simp [hk2 (by omega)]
  simp only [if_neg e8, if_neg (show ¬ (4 ≤ o ∧ o ≤ 8) by omega)]
  by_cases e9 : o = 9
  · simp only [if_pos e9]
    refine (ofInt_any _ q n v l A c k0 k1 k2 w).mono fun en w' h => ⟨h.1.trans ?_, h.2⟩
    simp [hk2 (by omega), hk1 (.inl e9)]
  simp only [if_neg e9]
  by_cases e13 : o ≤ 13
  · simp only [if_pos e13, if_pos (show 10 ≤ o ∧ o ≤ 13 by omega)]
    exact ofAlike_any _ q n v l A c k0 k1 k2 w
  simp only [if_neg e13, if_neg (show ¬ (10 ≤ o ∧ o ≤ 13) by omega)]
  by_cases e15 : o ≤ 15
  · simp only [if_pos e15, if_pos (show o = 14 ∨ o = 15 by omega)]
    refine (ofBools_any _ q n v l A c k0 k1 k2 w).mono fun en w' h => ⟨h.1.trans ?_, h.2⟩
    simp [hk2 (by omega)]
  simp only [if_neg e15, if_neg (show ¬ (o = 14 ∨ o = 15) by omega)]
  by_cases e16 : o = 16
  · simp only [if_pos e16]
    refine (ofBool_any _ q n v l A c k0 k1 k2 w).mono fun en w' h => ⟨h.1.trans ?_, h.2⟩
    simp [hk2 (by omega), hk1 (.inr (.inl e16))]
  simp only [if_neg e16]
  by_cases e17 : o = 17
  · simp only [if_pos e17]
    exact ofAny_any _ q n v l A c k0 k1 k2 w
  simp only [if_neg e17]
  by_cases e18 : o = 18
  · simp only [if_pos e18]
    exact ofChoice_any _ q n v l A c k0 k1 k2 w
  simp only [if_neg e18]
  by_cases e19 : o = 19
  · simp only [if_pos e19]
    exact ofFirst_any _ q n v l A c k0 k1 k2 w
  simp only [if_neg e19, if_pos (show o = 20 by omega)]
  refine (ofText_any _ q n v l A c k0 k1 k2 w).mono fun en w' h => ⟨h.1.trans ?_, h.2⟩
  simp [hk2 (by omega), hk1 (.inr (.inr (.inr (by omega))))]
theorem kindsX_snoc {cs : List C} : ∀ {ks : List X} {k : Nat} {l : List Int} (h : k < ks.length), kindsX cs (ks.take k) = .ok l → (kindX cs ks[k]).2 = 0 → kindsX cs (ks.take (k + 1)) = .ok (l ++ [(kindX cs ks[k]).1])
  | x :: ks, 0, l, h, h1, h2 => by
    simp only [List.take_zero, kindsX] at h1
    cases h1
    simp only [List.take_succ_cons, List.take_zero, kindsX, List.getElem_cons_zero] at h2 ⊢
    rw [if_neg (by simpa using h2)]
    rfl
  | x :: ks, k + 1, l, h, h1, h2 => by
    simp only [List.take_succ_cons, kindsX] at h1
    split at h1
    · cases h1
    · rename_i hx
      split at h1
      · cases h1
      · rename_i l2 hl
        cases h1
        rw [List.take_succ_cons, kindsX, if_neg hx, kindsX_snoc (ks := ks) (k := k) (l := l2) (by simpa using h) hl (by simpa using h2)]
        simp
theorem kindsX_fail {cs : List C} : ∀ {ks : List X} {k : Nat} {l : List Int} (h : k < ks.length), kindsX cs (ks.take k) = .ok l → (kindX cs ks[k]).2 ≠ 0 → kindsX cs ks = .error (kindX cs ks[k]).2
  | x :: ks, 0, l, h, h1, h2 => by
    simp only [List.getElem_cons_zero] at h2 ⊢
    simp only [kindsX]
    rw [if_pos h2]
  | x :: ks, k + 1, l, h, h1, h2 => by
    simp only [List.take_succ_cons, kindsX] at h1
    split at h1
    · cases h1
    · rename_i hx
      split at h1
      · cases h1
      · rename_i l2 hl
        simp only [kindsX, List.getElem_cons_succ]
        rw [if_neg hx, kindsX_fail (ks := ks) (k := k) (l := l2) (by simpa using h) hl (by simpa using h2)]
def partsA (l : List Int) : Array Value := #[.int .i64 (l.getD 0 0), .int .i64 (l.getD 1 0), .int .i64 (l.getD 2 0)]
theorem partsA_set {l : List Int} {k : Nat} (hl : l.length = k) (hk : k < 3) (x : Int) : (partsA l).setIfInBounds k (.int .i64 x) = partsA (l ++ [x]) := by
  subst hl
  match l, hk with
  | [], _ => rfl
  | [a], _ => rfl
  | [a, b], _ => rfl
theorem heap_set {U : World} {q i : Nat} {cs : Array Value} {T : Nat} {fr : Nat × Nat} (h : U.heap[q]? = some (.cells cs T fr)) (v : Value) : (U.setCell ⟨q, i, none⟩ v).heap[q]? = some (.cells (cs.setIfInBounds i v) T fr) := by
  rw [setCell_eq_setRow U q i cs T fr v h]
  exact setRow_heap U q cs _ T fr h
theorem Below.row {B q i : Nat} {W U : World} (h : Below B W U) (hq : B ≤ q) (v : Value) : Below B W (U.setCell ⟨q, i, none⟩ v) := h.setCell (p := ⟨q, i, none⟩) hq v
theorem Sc.set {cs : List C} {row : List V} {cA : Option Addr} {cc : Nat} {rA : Option Addr} {rc : Nat} {B b : Nat} {w : World} (h : Sc cs row cA cc rA rc B b w) {W0 : World} (hb : Below w.heap.size w W0) : Sc cs row cA cc rA rc B b W0 := h.below hb
set_option maxHeartbeats 8000000 in
set_option maxRecDepth 40000 in
theorem kind_rec (cs : List C) (row : List V) (cA : Option Addr) (cc : Nat) (rA : Option Addr) (rc : Nat) (B b : Nat) : ∀ (e : X), formX e = true → ∀ (A : Option Addr) (c : Nat) (w : World), Sc cs row cA cc rA rc B b w → KidsAt w w.heap.size e A c →
    Calls Tryz.prog 41 #[.pointer (some ⟨b, 0, none⟩), e.val A c] w fun en w' => en = endK (kindX cs e) ∧ Below w.heap.size w w' := by
  refine X.ind ?_
  intro o n v ks ih hform A c w hs hk
  simp only [formX, Bool.and_eq_true, decide_eq_true_eq] at hform
  obtain ⟨⟨hl, hh⟩, hks⟩ := hform
  have hall := formL_iff.1 hks
  have hop := op_cases hl
  obtain ⟨E, hE⟩ : ∃ E, endK (kindX cs (.mk o n v ks)) = E := ⟨_, rfl⟩
  rw [hE]
  have HE := Lib.hid hE
  have HS := Lib.hid hs
  have HK := Lib.hid hk
  have HIH := Lib.hid (fun k hk A c w hs hw => ih k hk (hall k hk) A c w hs hw)
  have HFAIL := Lib.hid (fun er (h : kindsX cs ks = .error er) (h0 : er ≠ 0) => show E = .panicked [gaveUp er] by
    rw [← HE.out, kindX, h]
    exact endK_no h0)
  have HGOOD := Lib.hid (fun l (h : kindsX cs ks = .ok l) => show E = endK (kindO cs o n v (l.getD 0 0) (l.getD 1 0) (l.getD 2 0)) by
    rw [← HE.out, kindX, h]
    rfl)
  have hl3 : ks.length ≤ 3 := by omega
  have h1 : 1 ≤ o := by omega
  have h20 : o ≤ 20 := by omega
  have HOP := Lib.hid hop
  have hlen := hk.len
  unfold maxLen at hlen
  simp only [X.ks] at hlen
  have HB := Lib.hid (two_boxes w (.cells #[.int .i64 o, .string n, .int .i64 v.k, .int .i64 v.n, .string v.s, .slice A ks.length c] 26) (.cells (partsA []) 90))
  have HQ := Lib.hid (World.alloc_heap_new (w.alloc (.cells #[.int .i64 o, .string n, .int .i64 v.k, .int .i64 v.n, .string v.s, .slice A ks.length c] 26)) (.cells (partsA []) 90))
  have HX0 := Lib.hid ((Below.heap_alloc (w.alloc (.cells #[.int .i64 o, .string n, .int .i64 v.k, .int .i64 v.n, .string v.s, .slice A ks.length c] 26)) (.cells (partsA []) 90) w.heap.size (by simp)).trans (World.alloc_heap_new w _))
  have HN0 := Lib.hid (show kindsX cs (ks.take 0) = .ok [] from by simp [kindsX])
  rw [World.size_alloc] at HQ
  unfold partsA at HB HQ HX0
  clear hE hs hk ih hall hks hl hh hop
  unfold X.val
  simp only [X.op, X.nm, X.v, X.ks]
  go_enter Tryz.func41, Tryz.ntmps41
  go_wp2
  go_loopw [11] (fun i wr => ∃ (k : Nat) (l : List Int), k ≤ ks.length ∧ i = .int .i64 k ∧ Hid (kindsX cs (ks.take k) = .ok l ∧ l.length = k) ∧ Hid (wr.heap[w.heap.size + 1]? = some (.cells (partsA l) 90)) ∧ Hid (wr.heap[w.heap.size]? = some ((X.mk o n v ks).obj A c)) ∧ Below w.heap.size w wr) (fun i _ => ks.length - (intOf i).toNat)
  case atStart => exact ⟨0, [], Nat.zero_le _, rfl, Lib.hid ⟨HN0.out, rfl⟩, HQ, HX0, HB.out⟩
  case round =>
    obtain ⟨k, l, hkk, rfl, HKL, HQ2, HX2, hbel⟩ := hrel
    have HB0 := Lib.hid hbel
    by_cases hlt : k < ks.length
    · obtain ⟨bb, off, A2, c2, rfl, hbB, hk2, c0, c1, c2', c3, c4, c5⟩ := (HK.out.below hbel).at6m k hlt
      have HIHk := Lib.hid (HIH.out ks[k] (List.getElem_mem hlt))
      have HSN := Lib.hid (kindsX_snoc (cs := cs) hlt HKL.out.1)
      have HFL := Lib.hid (fun h => HFAIL.out _ (kindsX_fail (cs := cs) hlt HKL.out.1 h) h)
      obtain ⟨x, hx⟩ : ∃ x, ks[k] = x := ⟨_, rfl⟩
      rw [hx] at hk2 c0 c1 c2' c3 c4 c5 HIHk HSN HFL
      clear hx
      obtain ⟨W1, hW1⟩ : ∃ W1, wr.alloc (x.obj A2 c2) = W1 := ⟨_, rfl⟩
      have hb1 : Below wr.heap.size wr W1 := by rw [← hW1]; exact (Below.refl _ wr).alloc (Nat.le_refl _) _
      have hs1 : W1.heap.size = wr.heap.size + 1 := by rw [← hW1]; simp
      have HC := Lib.hid (HIHk.out A2 c2 W1 (HS.out.below (hbel.trans (hb1.mono hbel.size))) (KidsAt.more (by have := hbel.size; omega) (KidsAt.below (hb1.mono hbel.size) hk2)))
      have hqs : w.heap.size + 1 < wr.heap.size := (Array.getElem?_eq_some_iff.1 HQ2.out).1
      have HB1 := Lib.hid (hbel.trans (hb1.mono hbel.size))
      have HQ3 := Lib.hid ((hb1.block _ hqs).trans HQ2.out)
      have HX3 := Lib.hid ((hb1.block _ (by omega)).trans HX2.out)
      have HZ := Lib.hid hs1
      have hk3 : k < 3 := by omega
      obtain ⟨e0, e1, e2, e3, e4, e5⟩ := obj_cells (U := W1) (q := wr.heap.size) (e := x) (A := A2) (c := c2) (by rw [← hW1]; exact World.alloc_heap_new wr _)
      clear hk2 hbel hb1 hs1
      unfold X.obj at hW1
      unfold X.val at HC
      by_cases hz : (kindX cs x).2 = 0
      · have HK2 := Lib.hid (HSN.out hz)
        have hE2 : endK (kindX cs x) = .returned (.int .i64 (kindX cs x).1) := if_pos hz
        rw [hE2] at HC
        obtain ⟨y, hy⟩ : ∃ y, (kindX cs x).1 = y := ⟨_, rfl⟩
        rw [hy] at HC HK2
        clear hz hE2 hy HFL
        have i1 : (0 : Int) ≤ (k : Int) := by omega
        have i2 : (k : Int) < (ks.length : Int) := by omega
        have i3 : (k : Int) < 3 := by omega
        obtain ⟨vv, hvv⟩ : ∃ vv, (partsA l)[k]? = some vv := ⟨_, Array.getElem?_eq_getElem (by simp [partsA]; omega)⟩
        have HVV := Lib.hid hvv
        clear hvv
        go_wp2_with (go_at_call 41; go_loud (refine HC.out.mono ?_; rintro e w2 ⟨rfl, hb2⟩; have HB2 := Lib.hid hb2; have q0 := (hb2.block (w.heap.size + 1) (by have := HZ.out; omega)).trans HQ3.out; have q1 := (hb2.block w.heap.size (by have := HZ.out; omega)).trans HX3.out; have hcl : w2.cell? ⟨w.heap.size + 1, k, none⟩ = some vv := (by rw [← HVV.out]; simp [World.cell?, q0]); have hfz : w2.frozen? ⟨w.heap.size + 1, k, none⟩ = false := (by simp [World.frozen?, q0]); clear hb2))
        go_roundw
        case rel =>
          refine ⟨k + 1, l ++ [y], by omega, by go_num, Lib.hid ⟨HK2.out, by simp [HKL.out.2]⟩, Lib.hid ?_, Lib.hid ((Below.heap_setCell _ _ _ _ (by show w.heap.size ≠ w.heap.size + 1; omega)).trans q1), ?_⟩
          · rw [← partsA_set HKL.out.2 hk3]
            exact heap_set q0 _
          · exact Below.row (hop HB1.out HB2.out (by have := HZ.out; have := HB0.out.size; omega)) (Nat.le_succ _) _
        case measure => simp [intOf]; omega
      · have HX := Lib.hid (HFL.out hz)
        have hE2 : endK (kindX cs x) = .panicked [gaveUp (kindX cs x).2] := if_neg hz
        rw [hE2] at HC
        clear hz hE2 HFL HSN
        have i1 : (0 : Int) ≤ (k : Int) := by omega
        have i2 : (k : Int) < (ks.length : Int) := by omega
        go_wp2_with (go_at_call 41; go_loud (refine HC.out.mono ?_; rintro e w2 ⟨rfl, hb2⟩; have HB2 := Lib.hid hb2; clear hb2))
        exact ⟨rfl, HX.out.symm, hop HB1.out HB2.out (by have := HZ.out; have := HB0.out.size; omega)⟩
    · have hke : ks.take k = ks := List.take_of_length_le (by omega)
      have hkl : k = ks.length := by omega
      obtain ⟨hkl1, hkl2⟩ := HKL.out
      rw [hke] at hkl1
      have HG := Lib.hid (HGOOD.out l hkl1)
      have HF := Lib.hid (fun (W : World) (hb : Below w.heap.size w W) => kindF_any cs row cA cc rA rc B b o o n v ks.length A c (l.getD 0 0) (l.getD 1 0) (l.getD 2 0) h1 h20
        (fun h => by
          have : l.length < 3 := by have := HOP.out; omega
          simp [List.getD, List.getElem?_eq_none (show l.length ≤ 2 by omega)])
        (fun h => by
          have : l.length < 2 := by have := HOP.out; omega
          simp [List.getD, List.getElem?_eq_none (show l.length ≤ 1 by omega)]) W (HS.out.below hb))
      have hrule := rules_at (j := o.toNat) (by omega)
      have hon : ((o.toNat : Nat) : Int) = o := by omega
      obtain ⟨r0, r1, r2, r3, _, _, hr2, _, hrr⟩ := hrule
      have hr2v : r2 = fnV (kindF o) := by
        rcases hrr with ⟨h, _⟩ | ⟨_, _, _, h, _⟩
        · omega
        · rw [h, hon]
      have HRC := Lib.hid (fun (W : World) (hb : Below w.heap.size w W) => (HS.out.below hb).rule hr2)
      rw [hr2v] at HRC
      have hen := kindF_enters o
      obtain ⟨f, hf⟩ : ∃ f, kindF o = f := ⟨_, rfl⟩
      rw [hf] at HRC HF hen
      obtain ⟨j, hj⟩ : ∃ j : Nat, o.toNat = j := ⟨_, rfl⟩
      rw [hj] at HRC hon
      obtain ⟨c0, c1, c2, c3, c4, c5⟩ := obj_cells HX2.out
      have q0 : wr.cell? ⟨w.heap.size + 1, 0, none⟩ = some (.int .i64 (l.getD 0 0)) := by simp [World.cell?, HQ2.out, partsA]
      have q1 : wr.cell? ⟨w.heap.size + 1, 1, none⟩ = some (.int .i64 (l.getD 1 0)) := by simp [World.cell?, HQ2.out, partsA]
      have q2 : wr.cell? ⟨w.heap.size + 1, 2, none⟩ = some (.int .i64 (l.getD 2 0)) := by simp [World.cell?, HQ2.out, partsA]
      have q3 := HRC.out _ hbel
      obtain ⟨k0, hk0⟩ : ∃ k0, l.getD 0 0 = k0 := ⟨_, rfl⟩
      obtain ⟨k1, hk1⟩ : ∃ k1, l.getD 1 0 = k1 := ⟨_, rfl⟩
      obtain ⟨k2, hk2⟩ : ∃ k2, l.getD 2 0 = k2 := ⟨_, rfl⟩
      rw [hk0, hk1, hk2] at HF HG
      rw [hk0] at q0
      rw [hk1] at q1
      rw [hk2] at q2
      unfold fnV at q3
      unfold eV kV at HF
      simp only [X.op, X.nm, X.v, X.ks] at c0 c1 c2 c3 c4 c5
      have hbs : b < wr.heap.size := Nat.lt_of_lt_of_le HS.out.lt hbel.size
      have i0 : (0 : Int) ≤ o := by omega
      have i1 : o < 21 := by omega
      subst hon
      have i2 : ¬ (21 ≤ (j : Int)) := by omega
      clear hke hkl hkl1 hkl2 hr2 hrr hr2v hf hj hk0 hk1 hk2 HKL HQ2 HX2 HOP HIH hl3
      go_wp2_with fail
      have hS : (wr.drew.cell? ⟨w.heap.size, 0, none⟩ = some (.int .i64 (j : Int)) ∧ wr.drew.cell? ⟨w.heap.size, 1, none⟩ = some (.string n) ∧ wr.drew.cell? ⟨w.heap.size, 2, none⟩ = some (.int .i64 v.k) ∧ wr.drew.cell? ⟨w.heap.size, 3, none⟩ = some (.int .i64 v.n) ∧ wr.drew.cell? ⟨w.heap.size, 4, none⟩ = some (.string v.s) ∧ wr.drew.cell? ⟨w.heap.size, 5, none⟩ = some (.slice A ks.length c) ∧
        wr.drew.cell? ⟨w.heap.size + 1, 0, none⟩ = some (.int .i64 k0) ∧ wr.drew.cell? ⟨w.heap.size + 1, 1, none⟩ = some (.int .i64 k1) ∧ wr.drew.cell? ⟨w.heap.size + 1, 2, none⟩ = some (.int .i64 k2) ∧ wr.drew.cell? ⟨b, j * 4 + 2, none⟩ = some (.func (.func f) #[] #[])) ∧ Below w.heap.size w wr.drew :=
        ⟨⟨c0, c1, c2, c3, c4, c5, q0, q1, q2, q3⟩, HB0.out.drew⟩
      clear c0 c1 c2 c3 c4 c5 q0 q1 q2 q3
      refine held_begin 13 (fun W => Hid (W.cell? ⟨w.heap.size, 0, none⟩ = some (.int .i64 (j : Int)) ∧ W.cell? ⟨w.heap.size, 1, none⟩ = some (.string n) ∧ W.cell? ⟨w.heap.size, 2, none⟩ = some (.int .i64 v.k) ∧ W.cell? ⟨w.heap.size, 3, none⟩ = some (.int .i64 v.n) ∧ W.cell? ⟨w.heap.size, 4, none⟩ = some (.string v.s) ∧ W.cell? ⟨w.heap.size, 5, none⟩ = some (.slice A ks.length c) ∧ W.cell? ⟨w.heap.size + 1, 0, none⟩ = some (.int .i64 k0) ∧ W.cell? ⟨w.heap.size + 1, 1, none⟩ = some (.int .i64 k1) ∧ W.cell? ⟨w.heap.size + 1, 2, none⟩ = some (.int .i64 k2) ∧ W.cell? ⟨b, j * 4 + 2, none⟩ = some (.func (.func f) #[] #[])) ∧ Below w.heap.size w W) rfl (by kernel_rfl) ?_
      refine held_take (i := 0) (t := 22) (v := (.pointer (some ⟨b, 0, none⟩))) (fuel := 12) rfl rfl (by kernel_rfl) (by kernel_rfl) (by kernel_rfl) (fun _ _ _ h => h) (.inl ⟨rfl, fun W hW => by simp [execOp, Act.eval, go_sem]⟩) hS ?_
      simp only [List.setIfInBounds_toArray, List.set_cons_succ, List.set_cons_zero]
      refine held_take (i := 1) (t := 23) (v := (.pointer (some ⟨w.heap.size, 0, none⟩))) (fuel := 11) rfl rfl (by kernel_rfl) (by kernel_rfl) (by kernel_rfl) (fun _ _ _ h => h) (.inl ⟨rfl, fun W hW => by simp [execOp, Act.eval, go_sem]⟩) hS ?_
      simp only [List.setIfInBounds_toArray, List.set_cons_succ, List.set_cons_zero]
      refine held_take (i := 2) (t := 24) (v := (.int .i64 (j : Int))) (fuel := 10) rfl rfl (by kernel_rfl) (by kernel_rfl) (by kernel_rfl) (fun _ _ _ h => h) (.inl ⟨rfl, fun W hW => by simp [execOp, Act.eval, go_sem, hW.1.out.1]⟩) hS ?_
      simp only [List.setIfInBounds_toArray, List.set_cons_succ, List.set_cons_zero]
      refine held_take (i := 3) (t := 25) (v := (.pointer (some ⟨b, 0, none⟩))) (fuel := 9) rfl rfl (by kernel_rfl) (by kernel_rfl) (by kernel_rfl) (fun _ _ _ h => h) (.inl ⟨rfl, fun W hW => by simp [execOp, Act.eval, go_sem]⟩) hS ?_
      simp only [List.setIfInBounds_toArray, List.set_cons_succ, List.set_cons_zero]
      refine held_take (i := 4) (t := 26) (v := (.pointer (some ⟨b, 0, none⟩))) (fuel := 8) rfl rfl (by kernel_rfl) (by kernel_rfl) (by kernel_rfl) (fun _ _ _ h => h) (.inl ⟨rfl, fun W hW => by simp [execOp, Act.eval, go_sem]⟩) hS ?_
      simp only [List.setIfInBounds_toArray, List.set_cons_succ, List.set_cons_zero]
      refine held_take (i := 5) (t := 27) (v := (.pointer (some ⟨b, j * 4, none⟩))) (fuel := 7) rfl rfl (by kernel_rfl) (by kernel_rfl) (by kernel_rfl) (fun _ _ _ h => h) (.inl ⟨rfl, fun W hW => by simp [execOp, Act.eval, go_sem, i0, i1]⟩) hS ?_
      simp only [List.setIfInBounds_toArray, List.set_cons_succ, List.set_cons_zero]
      refine held_take (i := 6) (t := 28) (v := (.pointer (some ⟨b, j * 4 + 2, none⟩))) (fuel := 6) rfl rfl (by kernel_rfl) (by kernel_rfl) (by kernel_rfl) (fun _ _ _ h => h) (.inl ⟨rfl, fun W hW => by simp [execOp, Act.eval, go_sem]⟩) hS ?_
      simp only [List.setIfInBounds_toArray, List.set_cons_succ, List.set_cons_zero]
      refine held_take (i := 7) (t := 29) (v := (.func (.func f) #[] #[])) (fuel := 5) rfl rfl (by kernel_rfl) (by kernel_rfl) (by kernel_rfl) (fun _ _ _ h => h) (.inl ⟨rfl, fun W hW => by simp [execOp, Act.eval, go_sem, hW.1.out.2.2.2.2.2.2.2.2.2]⟩) hS ?_
      simp only [List.setIfInBounds_toArray, List.set_cons_succ, List.set_cons_zero]
      refine held_take (i := 8) (t := 30) (v := (.pointer (some ⟨b, 0, none⟩))) (fuel := 4) rfl rfl (by kernel_rfl) (by kernel_rfl) (by kernel_rfl) (fun _ _ _ h => h) (.inl ⟨rfl, fun W hW => by simp [execOp, Act.eval, go_sem]⟩) hS ?_
      simp only [List.setIfInBounds_toArray, List.set_cons_succ, List.set_cons_zero]
      refine held_take (i := 9) (t := 31) (v := (.agg #[.int .i64 (j : Int), .string n, .int .i64 v.k, .int .i64 v.n, .string v.s, .slice A ks.length c])) (fuel := 3) rfl rfl (by kernel_rfl) (by kernel_rfl) (by kernel_rfl) (fun _ _ _ h => h) (.inl ⟨rfl, fun W hW => by simp [execOp, Act.eval, go_sem, hW.1.out.1, hW.1.out.2.1, hW.1.out.2.2.1, hW.1.out.2.2.2.1, hW.1.out.2.2.2.2.1, hW.1.out.2.2.2.2.2.1]⟩) hS ?_
      simp only [List.setIfInBounds_toArray, List.set_cons_succ, List.set_cons_zero]
      refine held_take (i := 10) (t := 32) (v := (.agg #[.int .i64 k0, .int .i64 k1, .int .i64 k2])) (fuel := 2) rfl rfl (by kernel_rfl) (by kernel_rfl) (by kernel_rfl) (fun _ _ _ h => h) (.inl ⟨rfl, fun W hW => by simp [execOp, Act.eval, go_sem, hW.1.out.2.2.2.2.2.2.1, hW.1.out.2.2.2.2.2.2.2.1, hW.1.out.2.2.2.2.2.2.2.2.1]⟩) hS ?_
      simp only [List.setIfInBounds_toArray, List.set_cons_succ, List.set_cons_zero]
      refine held_call (i := 11) rfl (by kernel_rfl) (by kernel_rfl) ?_
      simp [Oper.wp, execOp, Act.eval, Act.put, go_sem, hen]
      refine (HF.out _ hS.2).mono ?_
      rintro en w3 ⟨rfl, hb3⟩
      have HB4 := Lib.hid (hop0 hS.2 hb3)
      obtain ⟨⟨z1, z2⟩, hz⟩ : ∃ z, kindO cs (j : Int) n v k0 k1 k2 = z := ⟨_, rfl⟩
      rw [hz] at HG ⊢
      by_cases hz2 : z2 = 0
      · subst hz2
        rw [endK_ok] at HG ⊢
        have hS2 : Hid (w3.cell? ⟨w.heap.size, 0, none⟩ = some (.int .i64 (j : Int)) ∧ w3.cell? ⟨w.heap.size, 1, none⟩ = some (.string n) ∧ w3.cell? ⟨w.heap.size, 2, none⟩ = some (.int .i64 v.k) ∧ w3.cell? ⟨w.heap.size, 3, none⟩ = some (.int .i64 v.n) ∧ w3.cell? ⟨w.heap.size, 4, none⟩ = some (.string v.s) ∧ w3.cell? ⟨w.heap.size, 5, none⟩ = some (.slice A ks.length c) ∧ w3.cell? ⟨w.heap.size + 1, 0, none⟩ = some (.int .i64 k0) ∧ w3.cell? ⟨w.heap.size + 1, 1, none⟩ = some (.int .i64 k1) ∧ w3.cell? ⟨w.heap.size + 1, 2, none⟩ = some (.int .i64 k2) ∧ w3.cell? ⟨b, j * 4 + 2, none⟩ = some (.func (.func f) #[] #[])) ∧ Below w.heap.size w w3 := by
          obtain ⟨⟨c0, c1, c2, c3, c4, c5, q0, q1, q2, q3⟩, _⟩ := hS
          exact ⟨Lib.hid ⟨later_cell hb3 c0, later_cell hb3 c1, later_cell hb3 c2, later_cell hb3 c3, later_cell hb3 c4, later_cell hb3 c5, later_cell hb3 q0, later_cell hb3 q1, later_cell hb3 q2, later_cell hb3 q3⟩, HB4.out⟩
        have hS := hS2
        refine ⟨hS, ?_⟩
        try simp only [List.setIfInBounds_toArray, List.set_cons_succ, List.set_cons_zero]
        refine held_take (i := 12) (t := 4) (v := (.int .i64 z1)) (fuel := 0) rfl rfl (by kernel_rfl) (by kernel_rfl) (by kernel_rfl) (fun _ _ _ h => h) (.inl ⟨rfl, fun W hW => by simp [execOp, Act.eval, go_sem]⟩) hS ?_
        simp only [List.setIfInBounds_toArray, List.set_cons_succ, List.set_cons_zero]
        refine wpAnyH_done (by kernel_rfl) ?_ 0
        go_wp2
        go_ret
        rw [HG.out]
        exact ⟨rfl, HB4.out⟩
      · rw [endK_no hz2] at HG ⊢
        exact ⟨rfl, HG.out.symm, HB4.out⟩
end Go.Proofs.YtclcabdekeegdaaGreat
