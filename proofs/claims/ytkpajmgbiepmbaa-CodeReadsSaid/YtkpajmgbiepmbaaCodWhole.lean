/- The walks of whole: a panic that a deferred function recovers. -/
import Derived.Test.YtkpajmgbiepmbaaCodRows
import Derived.Recover
namespace Go.Proofs.Ytkpajmgbiepmbaa
open Go.ChangeShapes Go.WideShapes Go.ChangeAt Go.RowKit
open Go.Lib (byteCells byteCells_length byteCells_append strCells)
set_option linter.unusedVariables false

def saved : PanicEntry := { v := .iface 24 (.int .i64 41), recovered := true }
theorem must_b (p : Value) (b : Bool) (w : World) : Calls Try.prog 70 #[p, .bool b] w fun e w' => (b = true → e = .returned (.tuple #[]) ∧ w = w') ∧ (b = false → e = .panicked [gaveUp] ∧ w = w') := by
  cases b
  · exact (must_no p w).mono fun e w' h => ⟨fun h => (by cases h), fun _ => h⟩
  · exact (must_ok p w).mono fun e w' h => ⟨fun _ => h, fun h => (by cases h)⟩
theorem past3 {r B : Nat} {w W w2 : World} (h : Below B w W) (hp : Past r W w2) (hr : B ≤ r) (hB : B ≤ W.heap.size) : Below B w w2 := h.trans (hp.below hr hB)
/-- What whole leaves, of items of one kind. -/
def WholePost {α : Type} (E : TypeId) (sz : Nat) (f : α → List Value) (o : Option (List α)) (w : World) (e : Ending) (w' : World) : Prop :=
  match o with
  | none => e = .returned (.tuple #[.slice none 0 0, .int .i64 41]) ∧ Below w.heap.size w w'
  | some xs => ∃ A c, e = .returned (.tuple #[.slice A xs.length c, .int .i64 0]) ∧ w'.ownsRow w.heap.size E sz (.slice A xs.length c) xs.length (xs.flatMap f) ∧ Below w.heap.size w w'
def WholeRows (o : Option (List (List V))) (w : World) (e : Ending) (w' : World) : Prop :=
  match o with
  | none => e = .returned (.tuple #[.slice none 0 0, .int .i64 41]) ∧ Below w.heap.size w w'
  | some ls => ∃ rs A c, rs.map Rw.l = ls ∧ e = .returned (.tuple #[.slice A rs.length c, .int .i64 0]) ∧ w'.ownsRow w.heap.size 80 1 (.slice A rs.length c) rs.length (rs.flatMap rCells) ∧ OwnRs w.heap.size rs w' ∧ Below w.heap.size w w'
theorem OwnRs.setCell {B : Nat} {rs : List Rw} {w : World} {p : Addr} (h : OwnRs B rs w) (hp : p.block < B) (v : Value) : OwnRs B rs (w.setCell p v) := fun x hx => ownsRow_setCell_below (h x hx) hp v
theorem OwnRs.mono {B B' : Nat} {rs : List Rw} {w : World} (h : OwnRs B rs w) (hB : B' ≤ B) : OwnRs B' rs w := fun x hx => (h x hx).mono hB
/-- One cell of a block. -/
structure OneC (w : World) (g : Nat) (x : Value) : Prop where
  c0 : w.cell? ⟨g, 0, none⟩ = some x
  f0 : w.frozen? ⟨g, 0, none⟩ = false
theorem OneC.past {r : Nat} {w w' : World} {g : Nat} {x : Value} (h : OneC w g x) (hp : Past r w w') (hne : g ≠ r) : OneC w' g x := by
  have hlt := World.block_lt_of_cell? w _ h.c0
  exact ⟨(hp.cell (p := ⟨g, 0, none⟩) hne hlt).trans h.c0, (hp.frozen (p := ⟨g, 0, none⟩) hne hlt).trans h.f0⟩

theorem catch_panicking_int (p q : Addr) (x : Value) (y : Value) (w : World) (hc : w.cell? p = some x) (hz : w.frozen? p = false) (hc2 : w.cell? q = some y) (hz2 : w.frozen? q = false) (hne : p ≠ q) :
    CallsD Try.prog 80 #[.pointer (some p), .pointer (some q)] (.panicking [gaveUp]) w fun e u' w' =>
      e = .returned (.tuple #[]) ∧ u' = .panicking [saved] ∧ w' = (w.setCell p (.slice none 0 0)).setCell q (.int .i64 41) := by
  refine callsD_of_wpS Try.func80 rfl fun c₀ cs hu => ?_
  apply wpS_seq
  apply wpS_region
  simp [wpOpsS, go_sem, recoverD, hu, Try.ntmps80, Exit.thenS, gaveUp]
  refine wpS_cond (t := true) (by simp [Act.eval, Array.replicate]) ?_
  simp only [if_true]
  apply wpS_region
  have hc3 : (w.setCell p (.slice none 0 0)).cell? q = some y := by rw [World.cell?_setCell_other _ _ _ _ hne]; exact hc2
  have hz3 : (w.setCell p (.slice none 0 0)).frozen? q = false := by rw [World.frozen?_setCell]; exact hz2
  simp [wpOpsS, go_sem, hc, hz, hc3, hz3, bodyPostS, results, Try.results80, saved]
theorem catch_idle_int (p q : Addr) (w : World) :
    CallsD Try.prog 80 #[.pointer (some p), .pointer (some q)] .returning w fun e u' w' => e = .returned (.tuple #[]) ∧ u' = .returning ∧ w' = w := by
  refine callsD_of_wpS Try.func80 rfl fun c₀ cs hu => ?_
  apply wpS_seq
  apply wpS_region
  simp [wpOpsS, go_sem, recoverD, hu, Try.ntmps80, Exit.thenS]
  refine wpS_cond (t := false) (by simp [Act.eval, Array.replicate]) ?_
  simp only [Bool.false_eq_true, if_false]
  refine wpS_of_wp (wp_skip ?_)
  cases c₀
  simp_all [bodyPostS, results, Try.results80]
set_option maxRecDepth 4000 in
set_option maxHeartbeats 2000000 in
theorem whole_int (l : List UInt8) (A : Option Addr) (n c : Nat) (w : World) (hn : n = l.length) (hc : n ≤ c) (hcm : c ≤ maxLen) (hl : n ≤ 16777216) (hb : BytesAt w w.heap.size A l) :
    Calls Try.prog 56 #[.slice A n c, .func (.func 57) #[] #[]] w (WholePost 2 1 iCells (whole rInt l) w) := by
  have hmf : ∀ (fn : Fn) (first cap : Array Value) (w : World), (Instr.makeFunc fn first cap).run Try.prog w = .ok (.func fn first cap) w := fun _ _ _ _ => rfl
  have HRD := Lib.hid (show Rd (((w.alloc (.cells #[.slice none 0 0] 36)).alloc (.cells #[.int .i64 0] 24)).alloc (.cells #[.slice A n c] 115)) (w.heap.size + 1 + 1) l from by
    refine ⟨A, c, ?_, ?_, by omega, hcm, (hb.below ((((Below.refl _ w).alloc (Nat.le_refl _) _).alloc (by simp) _).alloc (by simp; omega) _)).more (by omega)⟩
    · rw [← hn]; simp [go_sem]
    · simp [go_sem])
  have HB := Lib.hid (((((Below.refl _ w).alloc (Nat.le_refl _) (.cells #[.slice none 0 0] 36)).alloc (by simp) (.cells #[.int .i64 0] 24)).alloc (by simp; omega) (.cells #[.slice A n c] 115)))
  have HX := Lib.hid (show OneC (((w.alloc (.cells #[.slice none 0 0] 36)).alloc (.cells #[.int .i64 0] 24)).alloc (.cells #[.slice A n c] 115)) w.heap.size (.slice none 0 0) from ⟨by simp [go_sem], by simp [go_sem]⟩)
  have HY := Lib.hid (show OneC (((w.alloc (.cells #[.slice none 0 0] 36)).alloc (.cells #[.int .i64 0] 24)).alloc (.cells #[.slice A n c] 115)) (w.heap.size + 1) (.int .i64 0) from ⟨by simp [go_sem], by simp [go_sem]⟩)
  have HI := items_int (w.heap.size + 1 + 1) l _ HRD.out (by omega)
  have hl2 : ¬ (16777216 : Int) < (n : Int) := by omega
  have hl3 : decide (n ≤ 16777216) = true := decide_eq_true hl
  have hl4 : decide ((n : Int) ≤ 16777216) = true := decide_eq_true (by omega)
  clear hb hcm hn
  rcases hu : rList rInt 16777216 l with _ | ⟨xs, m⟩
  · rw [hu] at HI
    rw [whole_none hu]
    have HIT := Lib.hid HI
    clear HI
    go_enter_defers Try.func56, Try.ntmps56
    go_wp2_with (first | (go_at_call 70; refine (must_b _ _ _).mono ?_; intro e w' hh; first | (obtain ⟨rfl, rfl⟩ := hh.1 rfl) | (obtain ⟨rfl, rfl⟩ := hh.2 rfl)) | (go_at_call 81; refine HIT.out.mono ?_; rintro e w2 ⟨rfl, hp2⟩; have HP2 := Lib.hid hp2; have HX2 := Lib.hid (HX.out.past hp2 (by omega)); have HY2 := Lib.hid (HY.out.past hp2 (by omega)); clear hp2))
    have x0 := HX2.out.c0
    have y0 := HY2.out.c0
    refine leaves_cons (f := 80) (args := #[.pointer (some ⟨w.heap.size, 0, none⟩), .pointer (some ⟨w.heap.size + 1, 0, none⟩)]) (by simp) (by simp [go_sem]) ?_
    refine (catch_panicking_int ⟨w.heap.size, 0, none⟩ ⟨w.heap.size + 1, 0, none⟩ (.slice none 0 0) (.int .i64 0) _ (by simp [go_sem, x0]) (by simp [go_sem, HX2.out.f0]) (by simp [go_sem, y0]) (by simp [go_sem, HY2.out.f0]) (by simp)).mono ?_
    rintro e u' w'' ⟨rfl, rfl, rfl⟩
    refine ⟨.tuple #[.slice none 0 0, .int .i64 41], by simp [results, Try.results56, go_sem, x0, y0], rfl, ?_⟩
    exact ((past3 HB.out HP2.out (by omega) (by first | (simp; done) | (simp; omega))).setCell (p := ⟨w.heap.size, 0, none⟩) (Nat.le_refl _) _).setCell (p := ⟨w.heap.size + 1, 0, none⟩) (by simp) _
  · rw [hu] at HI
    match m, hu with
    | [], hu =>
      rw [whole_some hu]
      have HIT := Lib.hid HI
      clear HI
      go_enter_defers Try.func56, Try.ntmps56
      go_wp2_with (first | (go_at_call 70; refine (must_b _ _ _).mono ?_; intro e w' hh; first | (obtain ⟨rfl, rfl⟩ := hh.1 rfl) | (obtain ⟨rfl, rfl⟩ := hh.2 rfl)) | (go_at_call 81; refine HIT.out.mono ?_; rintro e w2 ⟨A2, c2, rfl, ho2, hr2, hp2⟩; have HO2 := Lib.hid ho2; have HR2 := Lib.hid hr2; have HP2 := Lib.hid hp2; have HX2 := Lib.hid (HX.out.past hp2 (by omega)); have HY2 := Lib.hid (HY.out.past hp2 (by omega)); obtain ⟨A3, c3, h30, h31, _, _, _⟩ := hr2; have x0 := HX2.out.c0; have x1 := HX2.out.f0; have y0 := HY2.out.c0; have y1 := HY2.out.f0; clear hp2 ho2))
      refine leaves_cons (f := 80) (args := #[.pointer (some ⟨w.heap.size, 0, none⟩), .pointer (some ⟨w.heap.size + 1, 0, none⟩)]) (by simp) (by simp [go_sem]) ?_
      refine (catch_idle_int ⟨w.heap.size, 0, none⟩ ⟨w.heap.size + 1, 0, none⟩ _).mono ?_
      rintro e u' w'' ⟨rfl, rfl, rfl⟩
      refine ⟨.tuple #[.slice A2 xs.length c2, .int .i64 0], by simp [results, Try.results56, go_sem, x0, y0], A2, c2, rfl, ?_, ?_⟩
      · exact (ownsRow_setCell_below (ownsRow_setCell_below (ownsRow_setCell_below (HO2.out) (by first | (simp; done) | (simp; omega)) _) (by first | (simp; done) | (simp; omega)) _) (by first | (simp; done) | (simp; omega)) _).mono (by first | (simp; done) | (simp; omega))
      · exact (((past3 HB.out HP2.out (by omega) (by first | (simp; done) | (simp; omega))).setCell (p := ⟨w.heap.size, 0, none⟩) (Nat.le_refl _) _).setCell (p := ⟨w.heap.size, 0, none⟩) (Nat.le_refl _) _).setCell (p := ⟨w.heap.size + 1, 0, none⟩) (by simp) _
    | c1 :: t1, hu =>
      rw [whole_rest hu (by simp)]
      obtain ⟨k, hk⟩ : ∃ k, (c1 :: t1).length = k := ⟨_, rfl⟩
      have HK := Lib.hid hk
      have e0 : ((k : Int) == 0) = false := by simp at hk; rw [beq_eq_false_iff_ne]; omega
      have e1 : (k == 0) = false := by simp at hk; rw [beq_eq_false_iff_ne]; omega
      clear hk
      have HIT := Lib.hid HI
      clear HI
      go_enter_defers Try.func56, Try.ntmps56
      go_wp2_with (first | (go_at_call 70; refine (must_b _ _ _).mono ?_; intro e w' hh; first | (obtain ⟨rfl, rfl⟩ := hh.1 rfl) | (obtain ⟨rfl, rfl⟩ := hh.2 rfl)) | (go_at_call 81; refine HIT.out.mono ?_; rintro e w2 ⟨A2, c2, rfl, ho2, hr2, hp2⟩; have HP2 := Lib.hid hp2; have HX2 := Lib.hid (HX.out.past hp2 (by omega)); have HY2 := Lib.hid (HY.out.past hp2 (by omega)); obtain ⟨A3, c3, h30, h31, _, _, _⟩ := hr2; rw [HK.out] at h30; have x0 := HX2.out.c0; have x1 := HX2.out.f0; have y0 := HY2.out.c0; have y1 := HY2.out.f0; clear hp2 ho2))
      have x0 := HX2.out.c0
      have y0 := HY2.out.c0
      refine leaves_cons (f := 80) (args := #[.pointer (some ⟨w.heap.size, 0, none⟩), .pointer (some ⟨w.heap.size + 1, 0, none⟩)]) (by simp) (by simp [go_sem]) ?_
      refine (catch_panicking_int ⟨w.heap.size, 0, none⟩ ⟨w.heap.size + 1, 0, none⟩ (.slice A2 xs.length c2) (.int .i64 0) _ (by simp [go_sem, x0]) (by simp [go_sem, HX2.out.f0]) (by simp [go_sem, y0]) (by simp [go_sem, HY2.out.f0]) (by simp)).mono ?_
      rintro e u' w'' ⟨rfl, rfl, rfl⟩
      refine ⟨.tuple #[.slice none 0 0, .int .i64 41], by simp [results, Try.results56, go_sem, x0, y0], rfl, ?_⟩
      exact (((past3 HB.out HP2.out (by omega) (by first | (simp; done) | (simp; omega))).setCell (p := ⟨w.heap.size, 0, none⟩) (Nat.le_refl _) _).setCell (p := ⟨w.heap.size, 0, none⟩) (Nat.le_refl _) _).setCell (p := ⟨w.heap.size + 1, 0, none⟩) (by simp) _
theorem catch_panicking_col (p q : Addr) (x : Value) (y : Value) (w : World) (hc : w.cell? p = some x) (hz : w.frozen? p = false) (hc2 : w.cell? q = some y) (hz2 : w.frozen? q = false) (hne : p ≠ q) :
    CallsD Try.prog 74 #[.pointer (some p), .pointer (some q)] (.panicking [gaveUp]) w fun e u' w' =>
      e = .returned (.tuple #[]) ∧ u' = .panicking [saved] ∧ w' = (w.setCell p (.slice none 0 0)).setCell q (.int .i64 41) := by
  refine callsD_of_wpS Try.func74 rfl fun c₀ cs hu => ?_
  apply wpS_seq
  apply wpS_region
  simp [wpOpsS, go_sem, recoverD, hu, Try.ntmps74, Exit.thenS, gaveUp]
  refine wpS_cond (t := true) (by simp [Act.eval, Array.replicate]) ?_
  simp only [if_true]
  apply wpS_region
  have hc3 : (w.setCell p (.slice none 0 0)).cell? q = some y := by rw [World.cell?_setCell_other _ _ _ _ hne]; exact hc2
  have hz3 : (w.setCell p (.slice none 0 0)).frozen? q = false := by rw [World.frozen?_setCell]; exact hz2
  simp [wpOpsS, go_sem, hc, hz, hc3, hz3, bodyPostS, results, Try.results74, saved]
theorem catch_idle_col (p q : Addr) (w : World) :
    CallsD Try.prog 74 #[.pointer (some p), .pointer (some q)] .returning w fun e u' w' => e = .returned (.tuple #[]) ∧ u' = .returning ∧ w' = w := by
  refine callsD_of_wpS Try.func74 rfl fun c₀ cs hu => ?_
  apply wpS_seq
  apply wpS_region
  simp [wpOpsS, go_sem, recoverD, hu, Try.ntmps74, Exit.thenS]
  refine wpS_cond (t := false) (by simp [Act.eval, Array.replicate]) ?_
  simp only [Bool.false_eq_true, if_false]
  refine wpS_of_wp (wp_skip ?_)
  cases c₀
  simp_all [bodyPostS, results, Try.results74]
set_option maxRecDepth 4000 in
set_option maxHeartbeats 2000000 in
theorem whole_col (l : List UInt8) (A : Option Addr) (n c : Nat) (w : World) (hn : n = l.length) (hc : n ≤ c) (hcm : c ≤ maxLen) (hl : n ≤ 16777216) (hb : BytesAt w w.heap.size A l) :
    Calls Try.prog 52 #[.slice A n c, .func (.func 53) #[] #[]] w (WholePost 39 2 cCells (whole rCol l) w) := by
  have hmf : ∀ (fn : Fn) (first cap : Array Value) (w : World), (Instr.makeFunc fn first cap).run Try.prog w = .ok (.func fn first cap) w := fun _ _ _ _ => rfl
  have HRD := Lib.hid (show Rd (((w.alloc (.cells #[.slice none 0 0] 34)).alloc (.cells #[.int .i64 0] 24)).alloc (.cells #[.slice A n c] 115)) (w.heap.size + 1 + 1) l from by
    refine ⟨A, c, ?_, ?_, by omega, hcm, (hb.below ((((Below.refl _ w).alloc (Nat.le_refl _) _).alloc (by simp) _).alloc (by simp; omega) _)).more (by omega)⟩
    · rw [← hn]; simp [go_sem]
    · simp [go_sem])
  have HB := Lib.hid (((((Below.refl _ w).alloc (Nat.le_refl _) (.cells #[.slice none 0 0] 34)).alloc (by simp) (.cells #[.int .i64 0] 24)).alloc (by simp; omega) (.cells #[.slice A n c] 115)))
  have HX := Lib.hid (show OneC (((w.alloc (.cells #[.slice none 0 0] 34)).alloc (.cells #[.int .i64 0] 24)).alloc (.cells #[.slice A n c] 115)) w.heap.size (.slice none 0 0) from ⟨by simp [go_sem], by simp [go_sem]⟩)
  have HY := Lib.hid (show OneC (((w.alloc (.cells #[.slice none 0 0] 34)).alloc (.cells #[.int .i64 0] 24)).alloc (.cells #[.slice A n c] 115)) (w.heap.size + 1) (.int .i64 0) from ⟨by simp [go_sem], by simp [go_sem]⟩)
  have HI := items_col (w.heap.size + 1 + 1) l _ HRD.out (by omega)
  have hl2 : ¬ (16777216 : Int) < (n : Int) := by omega
  have hl3 : decide (n ≤ 16777216) = true := decide_eq_true hl
  have hl4 : decide ((n : Int) ≤ 16777216) = true := decide_eq_true (by omega)
  clear hb hcm hn
  rcases hu : rList rCol 16777216 l with _ | ⟨xs, m⟩
  · rw [hu] at HI
    rw [whole_none hu]
    have HIT := Lib.hid HI
    clear HI
    go_enter_defers Try.func52, Try.ntmps52
    go_wp2_with (first | (go_at_call 70; refine (must_b _ _ _).mono ?_; intro e w' hh; first | (obtain ⟨rfl, rfl⟩ := hh.1 rfl) | (obtain ⟨rfl, rfl⟩ := hh.2 rfl)) | (go_at_call 75; refine HIT.out.mono ?_; rintro e w2 ⟨rfl, hp2⟩; have HP2 := Lib.hid hp2; have HX2 := Lib.hid (HX.out.past hp2 (by omega)); have HY2 := Lib.hid (HY.out.past hp2 (by omega)); clear hp2))
    have x0 := HX2.out.c0
    have y0 := HY2.out.c0
    refine leaves_cons (f := 74) (args := #[.pointer (some ⟨w.heap.size, 0, none⟩), .pointer (some ⟨w.heap.size + 1, 0, none⟩)]) (by simp) (by simp [go_sem]) ?_
    refine (catch_panicking_col ⟨w.heap.size, 0, none⟩ ⟨w.heap.size + 1, 0, none⟩ (.slice none 0 0) (.int .i64 0) _ (by simp [go_sem, x0]) (by simp [go_sem, HX2.out.f0]) (by simp [go_sem, y0]) (by simp [go_sem, HY2.out.f0]) (by simp)).mono ?_
    rintro e u' w'' ⟨rfl, rfl, rfl⟩
    refine ⟨.tuple #[.slice none 0 0, .int .i64 41], by simp [results, Try.results52, go_sem, x0, y0], rfl, ?_⟩
    exact ((past3 HB.out HP2.out (by omega) (by first | (simp; done) | (simp; omega))).setCell (p := ⟨w.heap.size, 0, none⟩) (Nat.le_refl _) _).setCell (p := ⟨w.heap.size + 1, 0, none⟩) (by simp) _
  · rw [hu] at HI
    match m, hu with
    | [], hu =>
      rw [whole_some hu]
      have HIT := Lib.hid HI
      clear HI
      go_enter_defers Try.func52, Try.ntmps52
      go_wp2_with (first | (go_at_call 70; refine (must_b _ _ _).mono ?_; intro e w' hh; first | (obtain ⟨rfl, rfl⟩ := hh.1 rfl) | (obtain ⟨rfl, rfl⟩ := hh.2 rfl)) | (go_at_call 75; refine HIT.out.mono ?_; rintro e w2 ⟨A2, c2, rfl, ho2, hr2, hp2⟩; have HO2 := Lib.hid ho2; have HR2 := Lib.hid hr2; have HP2 := Lib.hid hp2; have HX2 := Lib.hid (HX.out.past hp2 (by omega)); have HY2 := Lib.hid (HY.out.past hp2 (by omega)); obtain ⟨A3, c3, h30, h31, _, _, _⟩ := hr2; have x0 := HX2.out.c0; have x1 := HX2.out.f0; have y0 := HY2.out.c0; have y1 := HY2.out.f0; clear hp2 ho2))
      refine leaves_cons (f := 74) (args := #[.pointer (some ⟨w.heap.size, 0, none⟩), .pointer (some ⟨w.heap.size + 1, 0, none⟩)]) (by simp) (by simp [go_sem]) ?_
      refine (catch_idle_col ⟨w.heap.size, 0, none⟩ ⟨w.heap.size + 1, 0, none⟩ _).mono ?_
      rintro e u' w'' ⟨rfl, rfl, rfl⟩
      refine ⟨.tuple #[.slice A2 xs.length c2, .int .i64 0], by simp [results, Try.results52, go_sem, x0, y0], A2, c2, rfl, ?_, ?_⟩
      · exact (ownsRow_setCell_below (ownsRow_setCell_below (ownsRow_setCell_below (HO2.out) (by first | (simp; done) | (simp; omega)) _) (by first | (simp; done) | (simp; omega)) _) (by first | (simp; done) | (simp; omega)) _).mono (by first | (simp; done) | (simp; omega))
      · exact (((past3 HB.out HP2.out (by omega) (by first | (simp; done) | (simp; omega))).setCell (p := ⟨w.heap.size, 0, none⟩) (Nat.le_refl _) _).setCell (p := ⟨w.heap.size, 0, none⟩) (Nat.le_refl _) _).setCell (p := ⟨w.heap.size + 1, 0, none⟩) (by simp) _
    | c1 :: t1, hu =>
      rw [whole_rest hu (by simp)]
      obtain ⟨k, hk⟩ : ∃ k, (c1 :: t1).length = k := ⟨_, rfl⟩
      have HK := Lib.hid hk
      have e0 : ((k : Int) == 0) = false := by simp at hk; rw [beq_eq_false_iff_ne]; omega
      have e1 : (k == 0) = false := by simp at hk; rw [beq_eq_false_iff_ne]; omega
      clear hk
      have HIT := Lib.hid HI
      clear HI
      go_enter_defers Try.func52, Try.ntmps52
      go_wp2_with (first | (go_at_call 70; refine (must_b _ _ _).mono ?_; intro e w' hh; first | (obtain ⟨rfl, rfl⟩ := hh.1 rfl) | (obtain ⟨rfl, rfl⟩ := hh.2 rfl)) | (go_at_call 75; refine HIT.out.mono ?_; rintro e w2 ⟨A2, c2, rfl, ho2, hr2, hp2⟩; have HP2 := Lib.hid hp2; have HX2 := Lib.hid (HX.out.past hp2 (by omega)); have HY2 := Lib.hid (HY.out.past hp2 (by omega)); obtain ⟨A3, c3, h30, h31, _, _, _⟩ := hr2; rw [HK.out] at h30; have x0 := HX2.out.c0; have x1 := HX2.out.f0; have y0 := HY2.out.c0; have y1 := HY2.out.f0; clear hp2 ho2))
      have x0 := HX2.out.c0
      have y0 := HY2.out.c0
      refine leaves_cons (f := 74) (args := #[.pointer (some ⟨w.heap.size, 0, none⟩), .pointer (some ⟨w.heap.size + 1, 0, none⟩)]) (by simp) (by simp [go_sem]) ?_
      refine (catch_panicking_col ⟨w.heap.size, 0, none⟩ ⟨w.heap.size + 1, 0, none⟩ (.slice A2 xs.length c2) (.int .i64 0) _ (by simp [go_sem, x0]) (by simp [go_sem, HX2.out.f0]) (by simp [go_sem, y0]) (by simp [go_sem, HY2.out.f0]) (by simp)).mono ?_
      rintro e u' w'' ⟨rfl, rfl, rfl⟩
      refine ⟨.tuple #[.slice none 0 0, .int .i64 41], by simp [results, Try.results52, go_sem, x0, y0], rfl, ?_⟩
      exact (((past3 HB.out HP2.out (by omega) (by first | (simp; done) | (simp; omega))).setCell (p := ⟨w.heap.size, 0, none⟩) (Nat.le_refl _) _).setCell (p := ⟨w.heap.size, 0, none⟩) (Nat.le_refl _) _).setCell (p := ⟨w.heap.size + 1, 0, none⟩) (by simp) _
theorem catch_panicking_pair (p q : Addr) (x : Value) (y : Value) (w : World) (hc : w.cell? p = some x) (hz : w.frozen? p = false) (hc2 : w.cell? q = some y) (hz2 : w.frozen? q = false) (hne : p ≠ q) :
    CallsD Try.prog 78 #[.pointer (some p), .pointer (some q)] (.panicking [gaveUp]) w fun e u' w' =>
      e = .returned (.tuple #[]) ∧ u' = .panicking [saved] ∧ w' = (w.setCell p (.slice none 0 0)).setCell q (.int .i64 41) := by
  refine callsD_of_wpS Try.func78 rfl fun c₀ cs hu => ?_
  apply wpS_seq
  apply wpS_region
  simp [wpOpsS, go_sem, recoverD, hu, Try.ntmps78, Exit.thenS, gaveUp]
  refine wpS_cond (t := true) (by simp [Act.eval, Array.replicate]) ?_
  simp only [if_true]
  apply wpS_region
  have hc3 : (w.setCell p (.slice none 0 0)).cell? q = some y := by rw [World.cell?_setCell_other _ _ _ _ hne]; exact hc2
  have hz3 : (w.setCell p (.slice none 0 0)).frozen? q = false := by rw [World.frozen?_setCell]; exact hz2
  simp [wpOpsS, go_sem, hc, hz, hc3, hz3, bodyPostS, results, Try.results78, saved]
theorem catch_idle_pair (p q : Addr) (w : World) :
    CallsD Try.prog 78 #[.pointer (some p), .pointer (some q)] .returning w fun e u' w' => e = .returned (.tuple #[]) ∧ u' = .returning ∧ w' = w := by
  refine callsD_of_wpS Try.func78 rfl fun c₀ cs hu => ?_
  apply wpS_seq
  apply wpS_region
  simp [wpOpsS, go_sem, recoverD, hu, Try.ntmps78, Exit.thenS]
  refine wpS_cond (t := false) (by simp [Act.eval, Array.replicate]) ?_
  simp only [Bool.false_eq_true, if_false]
  refine wpS_of_wp (wp_skip ?_)
  cases c₀
  simp_all [bodyPostS, results, Try.results78]
set_option maxRecDepth 4000 in
set_option maxHeartbeats 2000000 in
theorem whole_pair (l : List UInt8) (A : Option Addr) (n c : Nat) (w : World) (hn : n = l.length) (hc : n ≤ c) (hcm : c ≤ maxLen) (hl : n ≤ 16777216) (hb : BytesAt w w.heap.size A l) :
    Calls Try.prog 54 #[.slice A n c, .func (.func 55) #[] #[]] w (WholePost 70 2 pCells (whole rPair l) w) := by
  have hmf : ∀ (fn : Fn) (first cap : Array Value) (w : World), (Instr.makeFunc fn first cap).run Try.prog w = .ok (.func fn first cap) w := fun _ _ _ _ => rfl
  have HRD := Lib.hid (show Rd (((w.alloc (.cells #[.slice none 0 0] 35)).alloc (.cells #[.int .i64 0] 24)).alloc (.cells #[.slice A n c] 115)) (w.heap.size + 1 + 1) l from by
    refine ⟨A, c, ?_, ?_, by omega, hcm, (hb.below ((((Below.refl _ w).alloc (Nat.le_refl _) _).alloc (by simp) _).alloc (by simp; omega) _)).more (by omega)⟩
    · rw [← hn]; simp [go_sem]
    · simp [go_sem])
  have HB := Lib.hid (((((Below.refl _ w).alloc (Nat.le_refl _) (.cells #[.slice none 0 0] 35)).alloc (by simp) (.cells #[.int .i64 0] 24)).alloc (by simp; omega) (.cells #[.slice A n c] 115)))
  have HX := Lib.hid (show OneC (((w.alloc (.cells #[.slice none 0 0] 35)).alloc (.cells #[.int .i64 0] 24)).alloc (.cells #[.slice A n c] 115)) w.heap.size (.slice none 0 0) from ⟨by simp [go_sem], by simp [go_sem]⟩)
  have HY := Lib.hid (show OneC (((w.alloc (.cells #[.slice none 0 0] 35)).alloc (.cells #[.int .i64 0] 24)).alloc (.cells #[.slice A n c] 115)) (w.heap.size + 1) (.int .i64 0) from ⟨by simp [go_sem], by simp [go_sem]⟩)
  have HI := items_pair (w.heap.size + 1 + 1) l _ HRD.out (by omega)
  have hl2 : ¬ (16777216 : Int) < (n : Int) := by omega
  have hl3 : decide (n ≤ 16777216) = true := decide_eq_true hl
  have hl4 : decide ((n : Int) ≤ 16777216) = true := decide_eq_true (by omega)
  clear hb hcm hn
  rcases hu : rList rPair 16777216 l with _ | ⟨xs, m⟩
  · rw [hu] at HI
    rw [whole_none hu]
    have HIT := Lib.hid HI
    clear HI
    go_enter_defers Try.func54, Try.ntmps54
    go_wp2_with (first | (go_at_call 70; refine (must_b _ _ _).mono ?_; intro e w' hh; first | (obtain ⟨rfl, rfl⟩ := hh.1 rfl) | (obtain ⟨rfl, rfl⟩ := hh.2 rfl)) | (go_at_call 79; refine HIT.out.mono ?_; rintro e w2 ⟨rfl, hp2⟩; have HP2 := Lib.hid hp2; have HX2 := Lib.hid (HX.out.past hp2 (by omega)); have HY2 := Lib.hid (HY.out.past hp2 (by omega)); clear hp2))
    have x0 := HX2.out.c0
    have y0 := HY2.out.c0
    refine leaves_cons (f := 78) (args := #[.pointer (some ⟨w.heap.size, 0, none⟩), .pointer (some ⟨w.heap.size + 1, 0, none⟩)]) (by simp) (by simp [go_sem]) ?_
    refine (catch_panicking_pair ⟨w.heap.size, 0, none⟩ ⟨w.heap.size + 1, 0, none⟩ (.slice none 0 0) (.int .i64 0) _ (by simp [go_sem, x0]) (by simp [go_sem, HX2.out.f0]) (by simp [go_sem, y0]) (by simp [go_sem, HY2.out.f0]) (by simp)).mono ?_
    rintro e u' w'' ⟨rfl, rfl, rfl⟩
    refine ⟨.tuple #[.slice none 0 0, .int .i64 41], by simp [results, Try.results54, go_sem, x0, y0], rfl, ?_⟩
    exact ((past3 HB.out HP2.out (by omega) (by first | (simp; done) | (simp; omega))).setCell (p := ⟨w.heap.size, 0, none⟩) (Nat.le_refl _) _).setCell (p := ⟨w.heap.size + 1, 0, none⟩) (by simp) _
  · rw [hu] at HI
    match m, hu with
    | [], hu =>
      rw [whole_some hu]
      have HIT := Lib.hid HI
      clear HI
      go_enter_defers Try.func54, Try.ntmps54
      go_wp2_with (first | (go_at_call 70; refine (must_b _ _ _).mono ?_; intro e w' hh; first | (obtain ⟨rfl, rfl⟩ := hh.1 rfl) | (obtain ⟨rfl, rfl⟩ := hh.2 rfl)) | (go_at_call 79; refine HIT.out.mono ?_; rintro e w2 ⟨A2, c2, rfl, ho2, hr2, hp2⟩; have HO2 := Lib.hid ho2; have HR2 := Lib.hid hr2; have HP2 := Lib.hid hp2; have HX2 := Lib.hid (HX.out.past hp2 (by omega)); have HY2 := Lib.hid (HY.out.past hp2 (by omega)); obtain ⟨A3, c3, h30, h31, _, _, _⟩ := hr2; have x0 := HX2.out.c0; have x1 := HX2.out.f0; have y0 := HY2.out.c0; have y1 := HY2.out.f0; clear hp2 ho2))
      refine leaves_cons (f := 78) (args := #[.pointer (some ⟨w.heap.size, 0, none⟩), .pointer (some ⟨w.heap.size + 1, 0, none⟩)]) (by simp) (by simp [go_sem]) ?_
      refine (catch_idle_pair ⟨w.heap.size, 0, none⟩ ⟨w.heap.size + 1, 0, none⟩ _).mono ?_
      rintro e u' w'' ⟨rfl, rfl, rfl⟩
      refine ⟨.tuple #[.slice A2 xs.length c2, .int .i64 0], by simp [results, Try.results54, go_sem, x0, y0], A2, c2, rfl, ?_, ?_⟩
      · exact (ownsRow_setCell_below (ownsRow_setCell_below (ownsRow_setCell_below (HO2.out) (by first | (simp; done) | (simp; omega)) _) (by first | (simp; done) | (simp; omega)) _) (by first | (simp; done) | (simp; omega)) _).mono (by first | (simp; done) | (simp; omega))
      · exact (((past3 HB.out HP2.out (by omega) (by first | (simp; done) | (simp; omega))).setCell (p := ⟨w.heap.size, 0, none⟩) (Nat.le_refl _) _).setCell (p := ⟨w.heap.size, 0, none⟩) (Nat.le_refl _) _).setCell (p := ⟨w.heap.size + 1, 0, none⟩) (by simp) _
    | c1 :: t1, hu =>
      rw [whole_rest hu (by simp)]
      obtain ⟨k, hk⟩ : ∃ k, (c1 :: t1).length = k := ⟨_, rfl⟩
      have HK := Lib.hid hk
      have e0 : ((k : Int) == 0) = false := by simp at hk; rw [beq_eq_false_iff_ne]; omega
      have e1 : (k == 0) = false := by simp at hk; rw [beq_eq_false_iff_ne]; omega
      clear hk
      have HIT := Lib.hid HI
      clear HI
      go_enter_defers Try.func54, Try.ntmps54
      go_wp2_with (first | (go_at_call 70; refine (must_b _ _ _).mono ?_; intro e w' hh; first | (obtain ⟨rfl, rfl⟩ := hh.1 rfl) | (obtain ⟨rfl, rfl⟩ := hh.2 rfl)) | (go_at_call 79; refine HIT.out.mono ?_; rintro e w2 ⟨A2, c2, rfl, ho2, hr2, hp2⟩; have HP2 := Lib.hid hp2; have HX2 := Lib.hid (HX.out.past hp2 (by omega)); have HY2 := Lib.hid (HY.out.past hp2 (by omega)); obtain ⟨A3, c3, h30, h31, _, _, _⟩ := hr2; rw [HK.out] at h30; have x0 := HX2.out.c0; have x1 := HX2.out.f0; have y0 := HY2.out.c0; have y1 := HY2.out.f0; clear hp2 ho2))
      have x0 := HX2.out.c0
      have y0 := HY2.out.c0
      refine leaves_cons (f := 78) (args := #[.pointer (some ⟨w.heap.size, 0, none⟩), .pointer (some ⟨w.heap.size + 1, 0, none⟩)]) (by simp) (by simp [go_sem]) ?_
      refine (catch_panicking_pair ⟨w.heap.size, 0, none⟩ ⟨w.heap.size + 1, 0, none⟩ (.slice A2 xs.length c2) (.int .i64 0) _ (by simp [go_sem, x0]) (by simp [go_sem, HX2.out.f0]) (by simp [go_sem, y0]) (by simp [go_sem, HY2.out.f0]) (by simp)).mono ?_
      rintro e u' w'' ⟨rfl, rfl, rfl⟩
      refine ⟨.tuple #[.slice none 0 0, .int .i64 41], by simp [results, Try.results54, go_sem, x0, y0], rfl, ?_⟩
      exact (((past3 HB.out HP2.out (by omega) (by first | (simp; done) | (simp; omega))).setCell (p := ⟨w.heap.size, 0, none⟩) (Nat.le_refl _) _).setCell (p := ⟨w.heap.size, 0, none⟩) (Nat.le_refl _) _).setCell (p := ⟨w.heap.size + 1, 0, none⟩) (by simp) _
theorem catch_panicking_row (p q : Addr) (x : Value) (y : Value) (w : World) (hc : w.cell? p = some x) (hz : w.frozen? p = false) (hc2 : w.cell? q = some y) (hz2 : w.frozen? q = false) (hne : p ≠ q) :
    CallsD Try.prog 69 #[.pointer (some p), .pointer (some q)] (.panicking [gaveUp]) w fun e u' w' =>
      e = .returned (.tuple #[]) ∧ u' = .panicking [saved] ∧ w' = (w.setCell p (.slice none 0 0)).setCell q (.int .i64 41) := by
  refine callsD_of_wpS Try.func69 rfl fun c₀ cs hu => ?_
  apply wpS_seq
  apply wpS_region
  simp [wpOpsS, go_sem, recoverD, hu, Try.ntmps69, Exit.thenS, gaveUp]
  refine wpS_cond (t := true) (by simp [Act.eval, Array.replicate]) ?_
  simp only [if_true]
  apply wpS_region
  have hc3 : (w.setCell p (.slice none 0 0)).cell? q = some y := by rw [World.cell?_setCell_other _ _ _ _ hne]; exact hc2
  have hz3 : (w.setCell p (.slice none 0 0)).frozen? q = false := by rw [World.frozen?_setCell]; exact hz2
  simp [wpOpsS, go_sem, hc, hz, hc3, hz3, bodyPostS, results, Try.results69, saved]
theorem catch_idle_row (p q : Addr) (w : World) :
    CallsD Try.prog 69 #[.pointer (some p), .pointer (some q)] .returning w fun e u' w' => e = .returned (.tuple #[]) ∧ u' = .returning ∧ w' = w := by
  refine callsD_of_wpS Try.func69 rfl fun c₀ cs hu => ?_
  apply wpS_seq
  apply wpS_region
  simp [wpOpsS, go_sem, recoverD, hu, Try.ntmps69, Exit.thenS]
  refine wpS_cond (t := false) (by simp [Act.eval, Array.replicate]) ?_
  simp only [Bool.false_eq_true, if_false]
  refine wpS_of_wp (wp_skip ?_)
  cases c₀
  simp_all [bodyPostS, results, Try.results69]
set_option maxRecDepth 4000 in
set_option maxHeartbeats 2000000 in
theorem whole_row (l : List UInt8) (A : Option Addr) (n c : Nat) (w : World) (hn : n = l.length) (hc : n ≤ c) (hcm : c ≤ maxLen) (hl : n ≤ 16777216) (hb : BytesAt w w.heap.size A l) :
    Calls Try.prog 50 #[.slice A n c, .func (.func 51) #[] #[]] w (WholeRows (whole rRow l) w) := by
  have hmf : ∀ (fn : Fn) (first cap : Array Value) (w : World), (Instr.makeFunc fn first cap).run Try.prog w = .ok (.func fn first cap) w := fun _ _ _ _ => rfl
  have HRD := Lib.hid (show Rd (((w.alloc (.cells #[.slice none 0 0] 33)).alloc (.cells #[.int .i64 0] 24)).alloc (.cells #[.slice A n c] 115)) (w.heap.size + 1 + 1) l from by
    refine ⟨A, c, ?_, ?_, by omega, hcm, (hb.below ((((Below.refl _ w).alloc (Nat.le_refl _) _).alloc (by simp) _).alloc (by simp; omega) _)).more (by omega)⟩
    · rw [← hn]; simp [go_sem]
    · simp [go_sem])
  have HB := Lib.hid (((((Below.refl _ w).alloc (Nat.le_refl _) (.cells #[.slice none 0 0] 33)).alloc (by simp) (.cells #[.int .i64 0] 24)).alloc (by simp; omega) (.cells #[.slice A n c] 115)))
  have HX := Lib.hid (show OneC (((w.alloc (.cells #[.slice none 0 0] 33)).alloc (.cells #[.int .i64 0] 24)).alloc (.cells #[.slice A n c] 115)) w.heap.size (.slice none 0 0) from ⟨by simp [go_sem], by simp [go_sem]⟩)
  have HY := Lib.hid (show OneC (((w.alloc (.cells #[.slice none 0 0] 33)).alloc (.cells #[.int .i64 0] 24)).alloc (.cells #[.slice A n c] 115)) (w.heap.size + 1) (.int .i64 0) from ⟨by simp [go_sem], by simp [go_sem]⟩)
  have HI := items_row (w.heap.size + 1 + 1) l _ HRD.out (by omega)
  have hl2 : ¬ (16777216 : Int) < (n : Int) := by omega
  have hl3 : decide (n ≤ 16777216) = true := decide_eq_true hl
  have hl4 : decide ((n : Int) ≤ 16777216) = true := decide_eq_true (by omega)
  clear hb hcm hn
  rcases hu : rList rRow 16777216 l with _ | ⟨xs, m⟩
  · rw [hu] at HI
    rw [whole_none hu]
    have HIT := Lib.hid HI
    clear HI
    go_enter_defers Try.func50, Try.ntmps50
    go_wp2_with (first | (go_at_call 70; refine (must_b _ _ _).mono ?_; intro e w' hh; first | (obtain ⟨rfl, rfl⟩ := hh.1 rfl) | (obtain ⟨rfl, rfl⟩ := hh.2 rfl)) | (go_at_call 71; refine HIT.out.mono ?_; rintro e w2 ⟨rfl, hp2⟩; have HP2 := Lib.hid hp2; have HX2 := Lib.hid (HX.out.past hp2 (by omega)); have HY2 := Lib.hid (HY.out.past hp2 (by omega)); clear hp2))
    have x0 := HX2.out.c0
    have y0 := HY2.out.c0
    refine leaves_cons (f := 69) (args := #[.pointer (some ⟨w.heap.size, 0, none⟩), .pointer (some ⟨w.heap.size + 1, 0, none⟩)]) (by simp) (by simp [go_sem]) ?_
    refine (catch_panicking_row ⟨w.heap.size, 0, none⟩ ⟨w.heap.size + 1, 0, none⟩ (.slice none 0 0) (.int .i64 0) _ (by simp [go_sem, x0]) (by simp [go_sem, HX2.out.f0]) (by simp [go_sem, y0]) (by simp [go_sem, HY2.out.f0]) (by simp)).mono ?_
    rintro e u' w'' ⟨rfl, rfl, rfl⟩
    refine ⟨.tuple #[.slice none 0 0, .int .i64 41], by simp [results, Try.results50, go_sem, x0, y0], rfl, ?_⟩
    exact ((past3 HB.out HP2.out (by omega) (by first | (simp; done) | (simp; omega))).setCell (p := ⟨w.heap.size, 0, none⟩) (Nat.le_refl _) _).setCell (p := ⟨w.heap.size + 1, 0, none⟩) (by simp) _
  · rw [hu] at HI
    match m, hu with
    | [], hu =>
      rw [whole_some hu]
      have HIT := Lib.hid HI
      clear HI
      go_enter_defers Try.func50, Try.ntmps50
      go_wp2_with (first | (go_at_call 70; refine (must_b _ _ _).mono ?_; intro e w' hh; first | (obtain ⟨rfl, rfl⟩ := hh.1 rfl) | (obtain ⟨rfl, rfl⟩ := hh.2 rfl)) | (go_at_call 71; refine HIT.out.mono ?_; rintro e w2 ⟨rs, A2, c2, hrs, rfl, ho2, hos2, hr2, hp2⟩; have HRS := Lib.hid hrs; have HOS := Lib.hid hos2; clear hrs hos2; have HO2 := Lib.hid ho2; have HR2 := Lib.hid hr2; have HP2 := Lib.hid hp2; have HX2 := Lib.hid (HX.out.past hp2 (by omega)); have HY2 := Lib.hid (HY.out.past hp2 (by omega)); obtain ⟨A3, c3, h30, h31, _, _, _⟩ := hr2; have x0 := HX2.out.c0; have x1 := HX2.out.f0; have y0 := HY2.out.c0; have y1 := HY2.out.f0; clear hp2 ho2))
      refine leaves_cons (f := 69) (args := #[.pointer (some ⟨w.heap.size, 0, none⟩), .pointer (some ⟨w.heap.size + 1, 0, none⟩)]) (by simp) (by simp [go_sem]) ?_
      refine (catch_idle_row ⟨w.heap.size, 0, none⟩ ⟨w.heap.size + 1, 0, none⟩ _).mono ?_
      rintro e u' w'' ⟨rfl, rfl, rfl⟩
      refine ⟨.tuple #[.slice A2 rs.length c2, .int .i64 0], by simp [results, Try.results50, go_sem, x0, y0], rs, A2, c2, HRS.out, rfl, ?_, ?_, ?_⟩
      · exact (ownsRow_setCell_below (ownsRow_setCell_below (ownsRow_setCell_below (HO2.out) (by first | (simp; done) | (simp; omega)) _) (by first | (simp; done) | (simp; omega)) _) (by first | (simp; done) | (simp; omega)) _).mono (by first | (simp; done) | (simp; omega))
      · exact ((((HOS.out.setCell (by first | (simp; done) | (simp; omega)) _).setCell (by first | (simp; done) | (simp; omega)) _).setCell (by first | (simp; done) | (simp; omega)) _).mono (by first | (simp; done) | (simp; omega)))
      · exact (((past3 HB.out HP2.out (by omega) (by first | (simp; done) | (simp; omega))).setCell (p := ⟨w.heap.size, 0, none⟩) (Nat.le_refl _) _).setCell (p := ⟨w.heap.size, 0, none⟩) (Nat.le_refl _) _).setCell (p := ⟨w.heap.size + 1, 0, none⟩) (by simp) _
    | c1 :: t1, hu =>
      rw [whole_rest hu (by simp)]
      obtain ⟨k, hk⟩ : ∃ k, (c1 :: t1).length = k := ⟨_, rfl⟩
      have HK := Lib.hid hk
      have e0 : ((k : Int) == 0) = false := by simp at hk; rw [beq_eq_false_iff_ne]; omega
      have e1 : (k == 0) = false := by simp at hk; rw [beq_eq_false_iff_ne]; omega
      clear hk
      have HIT := Lib.hid HI
      clear HI
      go_enter_defers Try.func50, Try.ntmps50
      go_wp2_with (first | (go_at_call 70; refine (must_b _ _ _).mono ?_; intro e w' hh; first | (obtain ⟨rfl, rfl⟩ := hh.1 rfl) | (obtain ⟨rfl, rfl⟩ := hh.2 rfl)) | (go_at_call 71; refine HIT.out.mono ?_; rintro e w2 ⟨rs, A2, c2, hrs, rfl, ho2, hos2, hr2, hp2⟩; have HRS := Lib.hid hrs; have HOS := Lib.hid hos2; clear hrs hos2; have HP2 := Lib.hid hp2; have HX2 := Lib.hid (HX.out.past hp2 (by omega)); have HY2 := Lib.hid (HY.out.past hp2 (by omega)); obtain ⟨A3, c3, h30, h31, _, _, _⟩ := hr2; rw [HK.out] at h30; have x0 := HX2.out.c0; have x1 := HX2.out.f0; have y0 := HY2.out.c0; have y1 := HY2.out.f0; clear hp2 ho2))
      have x0 := HX2.out.c0
      have y0 := HY2.out.c0
      refine leaves_cons (f := 69) (args := #[.pointer (some ⟨w.heap.size, 0, none⟩), .pointer (some ⟨w.heap.size + 1, 0, none⟩)]) (by simp) (by simp [go_sem]) ?_
      refine (catch_panicking_row ⟨w.heap.size, 0, none⟩ ⟨w.heap.size + 1, 0, none⟩ (.slice A2 rs.length c2) (.int .i64 0) _ (by simp [go_sem, x0]) (by simp [go_sem, HX2.out.f0]) (by simp [go_sem, y0]) (by simp [go_sem, HY2.out.f0]) (by simp)).mono ?_
      rintro e u' w'' ⟨rfl, rfl, rfl⟩
      refine ⟨.tuple #[.slice none 0 0, .int .i64 41], by simp [results, Try.results50, go_sem, x0, y0], rfl, ?_⟩
      exact (((past3 HB.out HP2.out (by omega) (by first | (simp; done) | (simp; omega))).setCell (p := ⟨w.heap.size, 0, none⟩) (Nat.le_refl _) _).setCell (p := ⟨w.heap.size, 0, none⟩) (Nat.le_refl _) _).setCell (p := ⟨w.heap.size + 1, 0, none⟩) (by simp) _
end Go.Proofs.Ytkpajmgbiepmbaa
