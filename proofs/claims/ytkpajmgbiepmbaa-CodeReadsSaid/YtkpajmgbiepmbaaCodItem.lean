/- The walks of the reader: columns, pairs. -/
import Derived.Test.YtkpajmgbiepmbaaCodRead
namespace Go.Proofs.Ytkpajmgbiepmbaa
open Go.ChangeShapes Go.WideShapes Go.ChangeAt Go.RowKit
open Go.Lib (byteCells byteCells_length byteCells_append strCells)
set_option linter.unusedVariables false

theorem Past.setNew {r : Nat} {a w : World} (h : Past r a w) {p : Addr} (hp : a.heap.size ≤ p.block) (v : Value) : Past r a (w.setCell p v) :=
  ⟨h.os, h.tape, h.output, by have := h.size; simp [World.setCell]; omega, fun k hk hne => (Below.heap_setCell _ _ _ _ (by omega)).trans (h.block k hk hne)⟩
theorem Past.frozen {r : Nat} {w w' : World} (h : Past r w w') {p : Addr} (hp : p.block ≠ r) (hlt : p.block < w.heap.size) : w'.frozen? p = w.frozen? p :=
  World.frozen?_of_block (w := w) (h.block p.block hlt (by intro e; injection e with e; exact hp e))
theorem Rd.other {w : World} {r : Nat} {l : List UInt8} (h : Rd w r l) {p : Addr} (hp : r < p.block) (v : Value) : Rd (w.setCell p v) r l := by
  obtain ⟨A, c, h0, h1, h2, h3, h4⟩ := h
  refine ⟨A, c, ?_, ?_, h2, h3, h4.below ((Below.refl r w).setCell (by omega) _)⟩
  · rw [World.cell?_setCell_other _ _ _ _ (by intro e; rw [e] at hp; simp at hp)]
    exact h0
  · rw [World.frozen?_setCell]
    exact h1
theorem Rd.alloc {w : World} {r : Nat} {l : List UInt8} (h : Rd w r l) (o : Obj) : Rd (w.alloc o) r l := h.below ((Below.refl _ w).alloc (Nat.le_refl _) o)

/-- Two cells of a block of the call's own. -/
structure Two (w : World) (g : Nat) (x y : Value) : Prop where
  c0 : w.cell? ⟨g, 0, none⟩ = some x
  c1 : w.cell? ⟨g, 1, none⟩ = some y
  f0 : w.frozen? ⟨g, 0, none⟩ = false
  f1 : w.frozen? ⟨g, 1, none⟩ = false
theorem Two.new (w : World) (x y : Value) (T : TypeId) : Two (w.alloc (.cells #[x, y] T)) w.heap.size x y := ⟨by simp [go_sem], by simp [go_sem], by simp [go_sem], by simp [go_sem]⟩
theorem Two.past {r : Nat} {w w' : World} {g : Nat} {x y : Value} (h : Two w g x y) (hp : Past r w w') (hne : g ≠ r) : Two w' g x y := by
  have hlt := World.block_lt_of_cell? w _ h.c0
  exact ⟨(hp.cell (p := ⟨g, 0, none⟩) hne hlt).trans h.c0, (hp.cell (p := ⟨g, 1, none⟩) hne hlt).trans h.c1, (hp.frozen (p := ⟨g, 0, none⟩) hne hlt).trans h.f0, (hp.frozen (p := ⟨g, 1, none⟩) hne hlt).trans h.f1⟩

set_option maxHeartbeats 2000000 in
theorem rcol_walk (r : Nat) (l : List UInt8) (w : World) (h : Rd w r l) (hl : l.length ≤ 16777216) :
    Calls Try.prog 53 #[.pointer (some ⟨r, 0, none⟩)] w (RdPost r (fun c : Co => .agg #[.string c.s, .int .i64 c.k]) (rCol l) w) := by
  have HR := Lib.hid h
  have HNE := Lib.hid h.lt
  have HW := fun W hW => rtext_walk r l W hW hl
  unfold rCol
  rcases hu : rWord l with _ | ⟨s, _ | ⟨c, t⟩⟩
  · rw [hu] at HW
    have HT := Lib.hid HW
    clear HW h
    go_enter Try.func53, Try.ntmps53
    go_wp2_with (go_at_call 76; refine (HT.out _ (HR.out.alloc _)).mono ?_; rintro e w1 ⟨rfl, hp1⟩; have HP1 := Lib.hid (Past.trans ((Past.refl r w).alloc _) hp1); clear hp1)
    exact ⟨rfl, rfl, HP1.out⟩
  · rw [hu] at HW
    have HT := Lib.hid HW
    clear HW h
    go_enter Try.func53, Try.ntmps53
    go_wp2_with (first | (go_at_call 76; refine (HT.out _ (HR.out.alloc _)).mono ?_; rintro e w1 ⟨rfl, hr1, hp1⟩; have HR1 := Lib.hid hr1; have HP1 := Lib.hid (Past.trans ((Past.refl r w).alloc _) hp1); clear hp1 hr1) | (go_at_call 77; refine (single_walk r [] _ HR1.out).mono ?_; rintro e w2 ⟨rfl, hp2⟩; have HP2 := Lib.hid (HP1.out.trans hp2); clear hp2))
    exact ⟨rfl, rfl, HP2.out⟩
  · rw [hu] at HW
    have HT := Lib.hid HW
    have hc8 := c.toNat_lt
    clear HW h
    go_enter Try.func53, Try.ntmps53
    go_wp2_with (first | (go_at_call 76; refine (HT.out _ (HR.out.alloc _)).mono ?_; rintro e w1 ⟨rfl, hr1, hp1⟩; have HR1 := Lib.hid hr1; have HX1 := Lib.hid ((Two.new w _ _ _).past hp1 (by have := HNE.out; omega)); have HP1 := Lib.hid (Past.trans ((Past.refl r w).alloc _) hp1); clear hp1 hr1) | (go_at_call 77; refine (single_walk r (c :: t) _ HR1.out).mono ?_; rintro e w2 ⟨rfl, hr2, hp2⟩; have HR2 := Lib.hid hr2; have HX2 := HX1.out.past hp2 (by have := HNE.out; omega); have x0 := HX2.c0; have x1 := HX2.c1; have z0 := HX2.f0; have z1 := HX2.f1; have HP2 := Lib.hid (HP1.out.trans hp2); clear hp2 hr2 HX2))
    refine bodyPost_ret (v := .agg #[.string s, .int .i64 (c.toNat : Int)]) (by simp [results, Try.results53, go_sem, x0, x1]) rfl ⟨rfl, (HR2.out.other HNE.out _).other HNE.out _, (HP2.out.setNew (p := ⟨w.heap.size, 0, none⟩) (Nat.le_refl _) _).setNew (p := ⟨w.heap.size, 1, none⟩) (Nat.le_refl _) _⟩

set_option maxHeartbeats 2000000 in
theorem rpair_walk (r : Nat) (l : List UInt8) (w : World) (h : Rd w r l) (hl : l.length ≤ 16777216) :
    Calls Try.prog 55 #[.pointer (some ⟨r, 0, none⟩)] w (RdPost r (fun c : Pa => .agg #[.string c.s, .string c.t]) (rPair l) w) := by
  have HR := Lib.hid h
  have HNE := Lib.hid h.lt
  have HW := fun W hW => rtext_walk r l W hW hl
  unfold rPair
  rcases hu : rWord l with _ | ⟨s, m⟩
  · rw [hu] at HW
    have HT := Lib.hid HW
    clear HW h
    go_enter Try.func55, Try.ntmps55
    go_wp2_with (go_at_call 76; refine (HT.out _ (HR.out.alloc _)).mono ?_; rintro e w1 ⟨rfl, hp1⟩; have HP1 := Lib.hid (Past.trans ((Past.refl r w).alloc _) hp1); clear hp1)
    exact ⟨rfl, rfl, HP1.out⟩
  · have hml := word_codec.less hu
    have HV := fun W hW => rtext_walk r m W hW (by omega)
    rw [hu] at HW
    dsimp only
    rcases hv : rWord m with _ | ⟨t, q⟩
    · rw [hv] at HV
      have HT := Lib.hid HW
      have HU := Lib.hid HV
      clear HW HV h
      go_enter Try.func55, Try.ntmps55
      go_wp2_with (first | (go_at_call 76; refine (HT.out _ (HR.out.alloc _)).mono ?_; rintro e w1 ⟨rfl, hr1, hp1⟩; have HR1 := Lib.hid hr1; have HP1 := Lib.hid (Past.trans ((Past.refl r w).alloc _) hp1); clear hp1 hr1) | (go_at_call 76; refine (HU.out _ HR1.out).mono ?_; rintro e w2 ⟨rfl, hp2⟩; have HP2 := Lib.hid (HP1.out.trans hp2); clear hp2))
      exact ⟨rfl, rfl, HP2.out⟩
    · rw [hv] at HV
      have HT := Lib.hid HW
      have HU := Lib.hid HV
      clear HW HV h
      go_enter Try.func55, Try.ntmps55
      go_wp2_with (first | (go_at_call 76; refine (HT.out _ (HR.out.alloc _)).mono ?_; rintro e w1 ⟨rfl, hr1, hp1⟩; have HR1 := Lib.hid hr1; have HX1 := Lib.hid ((Two.new w _ _ _).past hp1 (by have := HNE.out; omega)); have HP1 := Lib.hid (Past.trans ((Past.refl r w).alloc _) hp1); clear hp1 hr1) | (go_at_call 76; refine (HU.out _ HR1.out).mono ?_; rintro e w2 ⟨rfl, hr2, hp2⟩; have HR2 := Lib.hid hr2; have HX2 := HX1.out.past hp2 (by have := HNE.out; omega); have x0 := HX2.c0; have x1 := HX2.c1; have z0 := HX2.f0; have z1 := HX2.f1; have HP2 := Lib.hid (HP1.out.trans hp2); clear hp2 hr2 HX2))
      refine bodyPost_ret (v := .agg #[.string s, .string t]) (by simp [results, Try.results55, go_sem, x0, x1]) rfl ⟨rfl, (HR2.out.other HNE.out _).other HNE.out _, (HP2.out.setNew (p := ⟨w.heap.size, 0, none⟩) (Nat.le_refl _) _).setNew (p := ⟨w.heap.size, 1, none⟩) (Nat.le_refl _) _⟩
end Go.Proofs.Ytkpajmgbiepmbaa
