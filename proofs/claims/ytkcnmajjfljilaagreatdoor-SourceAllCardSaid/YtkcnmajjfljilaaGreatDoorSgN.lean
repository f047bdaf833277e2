/- What a seat needs of several texts. -/
import Derived.Test.YtkcnmajjfljilaaGreatDoorSgO
/- From SgN. -/
namespace Go.Proofs.YtkcnmajjfljilaaGreatDoor
open Go.ChangeShapes Go.WideShapes Go.ChangeAt Go.RowKit Go.ChangeMaps Go.MapKept
set_option linter.unusedVariables false
theorem list_nil (d : ByteArray) (w : World) : Calls Tryz.prog 57 #[.pointer none, .string d] w fun e w' => e = .returned (.tuple #[.slice none 0 0, .int .i64 1]) ∧ w = w' := by
  go_enter Tryz.func57, Tryz.ntmps57
  go_wp2_with (go_at_call 83; refine (live_nil _ _ _).mono ?_; rintro e w1 ⟨rfl, rfl⟩)
  go_ret2
  exact ⟨rfl, rfl⟩
end Go.Proofs.YtkcnmajjfljilaaGreatDoor
namespace Go.Proofs.YtkcnmajjfljilaaGreatDoor
open Go Go.ChangeShapes Go.WideShapes Go.ChangeAt Go.RowKit Go.ChangeMaps Go.MapKept
set_option linter.unusedVariables false
theorem clean_nil (d : ByteArray) (w : World) : Calls Tryz.prog 59 #[.pointer none, .string d] w fun e w' => e = .returned (.tuple #[.int .i64 0, .int .i64 1]) ∧ Below w.heap.size w w' := by
  go_enter Tryz.func59, Tryz.ntmps59
  go_wp2_with (go_at_call 57; refine (list_nil _ _).mono ?_; rintro e w1 ⟨rfl, rfl⟩)
  refine bodyPost_ret (v := .tuple #[.int .i64 0, .int .i64 1]) (by simp [results, Tryz.results59, go_sem]) rfl ?_
  exact ⟨rfl, Below.al (Below.al (Below.al (Below.al (Below.refl _ w) (Nat.le_refl _) _) (Nat.le_refl _) _) (Nat.le_refl _) _) (Nat.le_refl _) _⟩
theorem ready_nil (d : ByteArray) (w : World) : Calls Tryz.prog 38 #[.pointer none, .string d] w fun e w' => e = .returned (.tuple #[.slice none 0 0, .int .i64 1]) ∧ Below w.heap.size w w' := by
  go_enter Tryz.func38, Tryz.ntmps38
  go_wp2_with (first
    | (go_at_call 57; refine (list_nil _ _).mono ?_; rintro e w1 ⟨rfl, rfl⟩)
    | (go_at_call 59; refine (clean_nil _ _).mono ?_; rintro e w1 ⟨rfl, hb⟩; have HB := Lib.hid hb; clear hb))
  go_ret2
  exact ⟨rfl, HB.out⟩
end Go.Proofs.YtkcnmajjfljilaaGreatDoor
namespace Go.Proofs.YtkcnmajjfljilaaGreatDoor
open Go Go.ChangeShapes Go.WideShapes Go.ChangeAt Go.RowKit Go.ChangeMaps Go.MapKept
set_option linter.unusedVariables false
set_option linter.unusedSimpArgs false
def np : Nm := [112]
theorem np_right : right np = true := by decide
theorem lit2_at (w : World) (c d : UInt8) (u v : Int) (hu : u = (c.toNat : Int)) (hv : v = (d.toNat : Int)) : BytesAt (w.alloc (.cells #[.int .u8 u, .int .u8 v] 5 (2, 3))) (w.alloc (.cells #[.int .u8 u, .int .u8 v] 5 (2, 3))).heap.size (some ⟨w.heap.size, 0, none⟩) [c, d] := by
  subst hu hv
  intro j hj
  refine ⟨w.heap.size, 0, rfl, by simp, ?_⟩
  rw [Nat.zero_add, World.cell?_alloc_mark]
  have h2 : j = 0 ∨ j = 1 := by simp at hj; omega
  rcases h2 with rfl | rfl <;> rfl
/-- What lies at a place of an answer. -/
theorem recs_at {W : World} {B n c : Nat} {A : Option Addr} {vs : List Value} {bs : List (List UInt8)} (h : W.ownsRow B 30 1 (.slice A n c) n vs) (k : RecsAt W vs bs) (j : Nat) (hj : j < bs.length) :
    ∃ g A' c', A = some ⟨g, 0, none⟩ ∧ W.cell? ⟨g, j, none⟩ = some (.slice A' bs[j].length c') ∧ (convert 30 9 (.slice A' bs[j].length c')).run Tryz.prog W = .ok (.string (txt bs[j])) W := by
  obtain ⟨A', c', h1, h2, _⟩ := k.2 j hj
  have hn : n = vs.length := by have := h.1; omega
  have hl := k.1
  obtain ⟨g, cap, hv, _, _⟩ := h.form (by omega)
  have hc := h.cells (g := g) (by rw [hv]; rfl) j _ h1
  injection hv with e1 _ _
  rw [add_at, Nat.zero_add] at hc
  exact ⟨g, A', c', e1, hc, string_of_bytes A' _ c' _ W rfl h2⟩
section
variable {Q : Nat → Prop} {B l f cnt M : Nat} {dir : Nm} {room used size dur : Int} {fs : List Nat} {rs : List (List UInt8)} {s : Fs} {w w' : World}
theorem append_lit (h : Sg Q B l f dir room used cnt M size fs rs dur s w) (hsz : 1 ≤ size ∧ size ≤ 16777216) (hc : cnt < 4095) (hfl : fs.length ≤ 999980) (hM : M + 4 ≤ 1000000) (hBw : B ≤ w.heap.size) (hT : Tab B w) (hrs : rs.length < 16000) (c d : UInt8) (u v : Int) (hu' : u = (c.toNat : Int)) (hv : v = (d.toNat : Int)) (hu : used + 10 ≤ room) {fs2 : List Nat} {d2 : Int} (e1 : apF size fs rs = fs2) (e2 : apD size fs rs dur = d2) :
    Calls Tryz.prog 28 #[.pointer (some ⟨l, 0, none⟩), .slice (some ⟨w.heap.size, 0, none⟩) 2 2] (w.alloc (.cells #[.int .u8 u, .int .u8 v] 5 (2, 3))) fun e w' => e = .returned (.tuple #[.int .i64 (rs.length : Int), .int .i64 0]) ∧ ∃ s', Sg Q B l f dir room (used + 10) (cnt + 1) (M + 4) size fs2 (rs ++ [[c, d]]) d2 s' w' ∧ Turn Q B w w' ∧ OnlyD dir s s' := by
  have hb : Below w.heap.size w (w.alloc (.cells #[.int .u8 u, .int .u8 v] 5 (2, 3))) := (Below.refl _ w).alloc (Nat.le_refl _) _
  subst e1 e2
  refine (append_sg (h.below hb) hsz hc hfl hM (Nat.le_trans hBw hb.size) (hT.below (hb.mono hBw)) ⟨w.heap.size, 0, none⟩ 2 2 [c, d] rfl (by simp) (lit2_at w c d u v hu' hv) hrs (by simpa using hu)).mono ?_
  rintro e w' ⟨he, s', h1, h2, h3⟩
  exact ⟨he, s', by simpa using h1, (Turn.of hb hBw).trans h2, h3⟩
end
end Go.Proofs.YtkcnmajjfljilaaGreatDoor
