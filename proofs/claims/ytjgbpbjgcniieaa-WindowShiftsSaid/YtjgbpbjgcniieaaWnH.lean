/- Layer 14, walked: the examples. -/
import Derived.Test.YtjgbpbjgcniieaaWnG
namespace Go.Proofs.Ytjgbpbjgcniieaa
open Go Go.ChangeShapes Go.WideShapes Go.ChangeAt Go.RowKit
set_option linter.unusedVariables false
set_option linter.unusedSimpArgs false
theorem rowI {w : World} {B : Nat} {A : Option Addr} {l : List Int} (h : RowC iC 1 w B A l) (j : Nat) (hj : j < l.length) : ∃ b off, A = some ⟨b, off, none⟩ ∧ b < B ∧ w.cell? ⟨b, off + j, none⟩ = some (.int .i64 l[j]) := by
  obtain ⟨b, off, e, hlt, hc⟩ := h j hj
  have := hc 0 _ rfl
  rw [Nat.mul_one, Nat.add_zero] at this
  exact ⟨b, off, e, hlt, this⟩
theorem ex1 : winN 7 10 5 = 2 ∧ winE 7 10 5 = 0 ∧ winO 7 10 5 = [0, 5] := by decide
theorem ex2 : winN (-1) 10 10 = 1 ∧ winE (-1) 10 10 = 0 ∧ winO (-1) 10 10 = [-10] := by decide
theorem alive_any (w : World) : Calls Try.prog 7 #[] w fun e w' => e = .returned (.bool true) ∧ Below w.heap.size w w' := by
  have H1 := Lib.hid (fun W => of_any 7 10 5 (by unfold In64; omega) (by unfold In64; omega) (by unfold In64; omega) W)
  have H2 := Lib.hid (fun W => of_any (-1) 10 10 (by unfold In64; omega) (by unfold In64; omega) (by unfold In64; omega) W)
  unfold OfPost at H1 H2
  rw [ex1.1, ex1.2.1, ex1.2.2] at H1
  rw [ex2.1, ex2.2.1, ex2.2.2] at H2
  go_enter Try.func7, Try.ntmps7
  go_wp2_with (first
    | (go_at_call 8; have HSEC := HFIRST; go_loud (refine (H2.out _).mono ?_; rintro en w2 ⟨A2, c2, rfl, hr2, hb2⟩; obtain ⟨b2, off2, rfl, hlt2, z0⟩ := rowI hr2 0 (by decide); have x0 := later_cell hb2 y0; have x1 := later_cell hb2 y1; simp at z0 x0 x1; have HB2 := Lib.hid (hop0 HB1.out hb2); clear hr2 hb2 y0 y1))
    | (go_at_call 8; go_loud (refine (H1.out _).mono ?_; rintro en w1 ⟨A1, c1, rfl, hr1, hb1⟩; have HFIRST := Lib.hid True.intro; obtain ⟨b1, off1, rfl, hlt1, y0⟩ := rowI hr1 0 (by decide); obtain ⟨_, _, e1, _, y1⟩ := rowI hr1 1 (by decide); cases e1; have HB1 := Lib.hid hb1; clear hr1 hb1)))
  go_ret
  exact ⟨by simp, HB2.out⟩
end Go.Proofs.Ytjgbpbjgcniieaa
