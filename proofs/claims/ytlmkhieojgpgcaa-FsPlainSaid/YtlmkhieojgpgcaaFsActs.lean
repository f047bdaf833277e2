/- simfs: acts, opened to plain words; what no file system does of one. -/
import Derived.Test.YtlmkhieojgpgcaaFsOpen
import Derived.Test.YtlmkhieojgpgcaaFsDo2
namespace Go.Proofs.Ytlmkhieojgpgcaa
open Go Go.ChangeShapes Go.WideShapes Go.Deep Go.RowKit Go.Joins
set_option linter.unusedVariables false
structure Ac where
  kind : Int
  dir : ByteArray
  name : ByteArray
  b : ByteArray
  n : Int
  turn : Int
  A : Option Addr
  c : Nat
  ps : List Int
def Ac.cells (a : Ac) : List Value := [.int .i64 a.kind, .string a.dir, .string a.name, .string a.b, .int .i64 a.n, .int .u8 a.turn, .slice a.A a.ps.length a.c]
def Ac.val (a : Ac) : Value := acV a.kind a.dir a.name a.b a.n a.turn a.A a.ps.length a.c
structure Ac.good (w : World) (a : Ac) : Prop where
  kind : in64 a.kind
  dir : a.dir.size ≤ maxLen
  name : a.name.size ≤ maxLen
  b : a.b.size ≤ maxLen
  n : in64 a.n
  turn : 0 ≤ a.turn ∧ a.turn ≤ 255
  len : a.ps.length ≤ a.c
  cap : a.c ≤ maxLen
  fit : ∀ x ∈ a.ps, in64 x
  row : RowC iCells 1 w w.heap.size a.A a.ps
theorem Ac.cells_length (a : Ac) : a.cells.length = 7 := rfl
section
variable {H : Type} {enc : TypeId × Value → H} {w : World} {base : Nat} {spare : Nat → Bool} {held : Bool}
theorem u8_wf {n : Int} (h : (Lit.int .u8 n).wf = true) : 0 ≤ n ∧ n ≤ 255 := by
  simpa [Lit.wf, IntKind.min, IntKind.max, IntKind.signed, IntKind.bits] using h
set_option maxRecDepth 100000 in
theorem trod_act {m : Nat} {cs : List Value} {x : DataW H × List MemPlace} (h : DataW.trod enc Try.prog w base spare held m 43 cs = some x) : ∃ a : Ac, a.good w ∧ cs = a.cells := by
  obtain ⟨xs, n, _, _, hlen, hxl, hf⟩ := DataW.trod_struct Try.underlying43 h
  rw [show Try.prog.cellsOf 43 = 7 by kernel_rfl] at hlen
  match cs, hlen with
  | [c0, c1, c2, c3, c4, c5, c6], _ =>
    match xs, hxl with
    | [y0, y1, y2, y3, y4, y5, y6], _ =>
      have h0 : DataW.trod enc Try.prog w base spare held n 3 (([c0, c1, c2, c3, c4, c5, c6].drop 0).take (Try.prog.cellsOf 3)) = some y0 := hf 0 _ rfl
      have h1 : DataW.trod enc Try.prog w base spare held n 9 (([c0, c1, c2, c3, c4, c5, c6].drop 1).take (Try.prog.cellsOf 9)) = some y1 := hf 1 _ rfl
      have h2 : DataW.trod enc Try.prog w base spare held n 9 (([c0, c1, c2, c3, c4, c5, c6].drop 2).take (Try.prog.cellsOf 9)) = some y2 := hf 2 _ rfl
      have h3 : DataW.trod enc Try.prog w base spare held n 9 (([c0, c1, c2, c3, c4, c5, c6].drop 3).take (Try.prog.cellsOf 9)) = some y3 := hf 3 _ rfl
      have h4 : DataW.trod enc Try.prog w base spare held n 3 (([c0, c1, c2, c3, c4, c5, c6].drop 4).take (Try.prog.cellsOf 3)) = some y4 := hf 4 _ rfl
      have h5 : DataW.trod enc Try.prog w base spare held n 5 (([c0, c1, c2, c3, c4, c5, c6].drop 5).take (Try.prog.cellsOf 5)) = some y5 := hf 5 _ rfl
      have h6 : DataW.trod enc Try.prog w base spare held n 22 (([c0, c1, c2, c3, c4, c5, c6].drop 6).take (Try.prog.cellsOf 22)) = some y6 := hf 6 _ rfl
      rw [show Try.prog.cellsOf 3 = 1 by kernel_rfl] at h0 h4
      rw [show Try.prog.cellsOf 9 = 1 by kernel_rfl] at h1 h2 h3
      rw [show Try.prog.cellsOf 5 = 1 by kernel_rfl] at h5
      rw [show Try.prog.cellsOf 22 = 1 by kernel_rfl] at h6
      obtain ⟨k, e0, _, w0⟩ := DataW.trod_int Try.underlying3 h0
      obtain ⟨s1, e1, _, w1⟩ := DataW.trod_string Try.underlying9 h1
      obtain ⟨s2, e2, _, w2⟩ := DataW.trod_string Try.underlying9 h2
      obtain ⟨s3, e3, _, w3⟩ := DataW.trod_string Try.underlying9 h3
      obtain ⟨z, e4, _, w4⟩ := DataW.trod_int Try.underlying3 h4
      obtain ⟨t, e5, _, w5⟩ := DataW.trod_int Try.underlying5 h5
      obtain ⟨A, len, c, l, e6, rfl, h61, h62, h63, h64⟩ := trod_row Try.underlying22 (by kernel_rfl) (by decide) iCells_length trod_i h6
      simp at e0 e1 e2 e3 e4 e5 e6
      subst e0 e1 e2 e3 e4 e5 e6
      exact ⟨⟨k, s1, s2, s3, z, t, A, c, l⟩, ⟨in64_wf w0, w1, w2, w3, in64_wf w4, u8_wf w5, h61, h62, h63, h64⟩, rfl⟩
end
section
variable {H : Type} {enc : TypeId × Value → H} {w : World}
set_option maxRecDepth 100000 in
theorem open_act {v : Value} {d : DataW H} {p : List MemPlace} {r : Reach} {b0 : Nat} (hv : Value.okWide Try.prog w r b0 43 v) (h : DataW.Trod enc Try.prog w 0 (fun _ => true) true 43 v d p) : ∃ a : Ac, a.good w ∧ v = a.val := by
  obtain ⟨cs, rfl, hsz⟩ := okWide_struct Try.underlying43 hv
  obtain ⟨fuel, hf⟩ := h
  obtain ⟨a, hg, hc⟩ := trod_act hf
  refine ⟨a, hg, ?_⟩
  have hc' : cs.toList = a.cells := hc
  have : cs = a.cells.toArray := by rw [← hc']
  rw [this]; rfl
end
end Go.Proofs.Ytlmkhieojgpgcaa
