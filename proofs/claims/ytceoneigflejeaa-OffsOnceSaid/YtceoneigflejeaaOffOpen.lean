/- Arguments of this stage's statements, opened to plain words. -/
import Derived.Test.YtceoneigflejeaaOffOp
import Derived.Test.YtceoneigflejeaaOffL1
import Derived.Test.YtceoneigflejeaaOffL2
import Derived.Test.YtceoneigflejeaaOffL3
import Derived.Test.YtceoneigflejeaaOffL4
namespace Go.Proofs.Ytceoneigflejeaa
open Go Go.ChangeShapes Go.WideShapes Go.Deep Go.RowKit Go.Joins
set_option linter.unusedVariables false
section
variable {H : Type} {enc : TypeId × Value → H} {w : World} {base : Nat} {spare : Nat → Bool} {held : Bool}
set_option maxRecDepth 100000 in
theorem trod_rg {m : Nat} {cs : List Value} {x : DataW H × List MemPlace} (h : DataW.trod enc Try.prog w base spare held m 26 cs = some x) : ∃ v : Rg, v.wf ∧ cs = rgCells v := by
  obtain ⟨xs, n, _, _, hlen, hxl, hf⟩ := DataW.trod_struct Try.underlying26 h
  rw [show Try.prog.cellsOf 26 = 2 by kernel_rfl] at hlen
  match cs, hlen with
  | [c0, c1], _ =>
    match xs, hxl with
    | [y0, y1], _ =>
      have h0 : DataW.trod enc Try.prog w base spare held n 2 (([c0, c1].drop 0).take (Try.prog.cellsOf 2)) = some y0 := hf 0 _ rfl
      have h1 : DataW.trod enc Try.prog w base spare held n 2 (([c0, c1].drop 1).take (Try.prog.cellsOf 2)) = some y1 := hf 1 _ rfl
      rw [show Try.prog.cellsOf 2 = 1 by kernel_rfl] at h0 h1
      obtain ⟨k, e0, _, w0⟩ := DataW.trod_int Try.underlying2 h0
      obtain ⟨z, e1, _, w1⟩ := DataW.trod_int Try.underlying2 h1
      simp at e0 e1
      subst e0 e1
      exact ⟨⟨k, z⟩, ⟨in64_wf w0, in64_wf w1⟩, rfl⟩
set_option maxRecDepth 100000 in
theorem trod_rs {m : Nat} {cs : List Value} {x : DataW H × List MemPlace} (h : DataW.trod enc Try.prog w base spare held m 22 cs = some x) : ∃ r : Rs, goodRs w w.heap.size r ∧ cs = rsCells r := by
  obtain ⟨A, len, c, l, rfl, rfl, h1, h2, h3, h4⟩ := trod_row Try.underlying22 (by kernel_rfl) (by decide) rgCells_length trod_rg h
  exact ⟨⟨A, c, l⟩, ⟨h4, Nat.le_trans h1 h2⟩, rfl⟩
def ubCells (b : UInt8) : List Value := [.int .u8 (b.toNat : Int)]
theorem ubCells_length (b : UInt8) : (ubCells b).length = 1 := rfl
theorem trod_ub {m : Nat} {cs : List Value} {x : DataW H × List MemPlace} (h : DataW.trod enc Try.prog w base spare held m 5 cs = some x) : ∃ b : UInt8, True ∧ cs = ubCells b := by
  obtain ⟨k, e0, _, w0⟩ := DataW.trod_int Try.underlying5 h
  have hk : 0 ≤ k ∧ k ≤ 255 := by simpa [Lit.wf, IntKind.min, IntKind.max, IntKind.signed, IntKind.bits] using w0
  refine ⟨UInt8.ofNat k.toNat, trivial, ?_⟩
  rw [e0]
  unfold ubCells
  rw [show (UInt8.ofNat k.toNat).toNat = k.toNat by simp; omega, show ((k.toNat : Nat) : Int) = k by omega]
set_option maxRecDepth 100000 in
theorem trod_bx {m : Nat} {cs : List Value} {x : DataW H × List MemPlace} (h : DataW.trod enc Try.prog w base spare held m 37 cs = some x) : ∃ r : Bx, goodBx w w.heap.size r ∧ cs = bxCells r := by
  obtain ⟨A, len, c, l, rfl, rfl, h1, h2, _, h4⟩ := trod_row Try.underlying37 (by kernel_rfl) (by decide) ubCells_length trod_ub h
  refine ⟨⟨A, c, l⟩, ⟨fun j hj => ?_, Nat.le_trans h1 h2⟩, rfl⟩
  obtain ⟨b, off, e, hlt, hc⟩ := h4 j hj
  have := hc 0 _ rfl
  rw [Nat.mul_one, Nat.add_zero] at this
  exact ⟨b, off, e, hlt, this⟩
end
end Go.Proofs.Ytceoneigflejeaa
