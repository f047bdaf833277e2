/- Layer 15: handed values, and what is handed as kept, opened. -/
import Derived.Test.YtihgcfokenabgaaAgB
import Derived.Deep.Slices
import Derived.Deep.Fields
import Derived.ChangeSame
import Derived.Lib.SmallJoins
namespace Go.Proofs.Ytihgcfokenabgaa
open Go Go.ChangeShapes Go.WideShapes Go.Deep Go.RowKit Go.Joins
set_option linter.unusedVariables false
set_option linter.unusedSimpArgs false
section
variable {H : Type} {enc : TypeId × Value → H} {w : World}
set_option maxRecDepth 100000 in
theorem trod_sum {base : Nat} {spare : Nat → Bool} {held : Bool} {m : Nat} {cs : List Value} {x : DataW H × List MemPlace} (h : DataW.trod enc Try.prog w base spare held m 31 cs = some x) :
    ∃ z : Int, In128 z ∧ cs = [.int .i64 (hiZ z), .int .u64 (loZ z)] := by
  obtain ⟨xs, n, _, _, hlen, hxl, hf⟩ := DataW.trod_struct Try.underlying31 h
  rw [show Try.prog.cellsOf 31 = 2 by kernel_rfl] at hlen
  match cs, hlen with
  | [c0, c1], _ =>
    match xs, hxl with
    | [y0, y1], _ =>
      have h0 : DataW.trod enc Try.prog w base spare held n 2 (([c0, c1].drop 0).take (Try.prog.cellsOf 2)) = some y0 := hf 0 _ rfl
      have h1 : DataW.trod enc Try.prog w base spare held n 29 (([c0, c1].drop 1).take (Try.prog.cellsOf 29)) = some y1 := hf 1 _ rfl
      rw [show Try.prog.cellsOf 2 = 1 by kernel_rfl] at h0
      rw [show Try.prog.cellsOf 29 = 1 by kernel_rfl] at h1
      obtain ⟨a, e0, _, w0⟩ := DataW.trod_int Try.underlying2 h0
      obtain ⟨b, e1, _, w1⟩ := DataW.trod_int Try.underlying29 h1
      simp at e0 e1
      subst e0 e1
      have hb := u64_of_wf w1
      exact ⟨ofParts a b, in128_parts (in64_of_wf w0) hb.1 hb.2, by rw [hi_parts (in64_of_wf w0) hb.1 hb.2, lo_parts hb.1 hb.2]⟩
set_option maxRecDepth 100000 in
theorem trod_acc {base : Nat} {spare : Nat → Bool} {held : Bool} {m : Nat} {cs : List Value} {x : DataW H × List MemPlace} (h : DataW.trod enc Try.prog w base spare held m 35 cs = some x) :
    ∃ a : Ac, a.wf ∧ cs = [.int .i64 a.n, .int .i64 (hiZ a.x), .int .u64 (loZ a.x), .int .i64 a.b.k, .int .i64 a.b.n, .string a.b.s] := by
  obtain ⟨xs, n, _, _, hlen, hxl, hf⟩ := DataW.trod_struct Try.underlying35 h
  rw [show Try.prog.cellsOf 35 = 6 by kernel_rfl] at hlen
  match cs, hlen with
  | [c0, c1, c2, c3, c4, c5], _ =>
    match xs, hxl with
    | [y0, y1, y2], _ =>
      have h0 : DataW.trod enc Try.prog w base spare held n 2 (([c0, c1, c2, c3, c4, c5].drop 0).take (Try.prog.cellsOf 2)) = some y0 := hf 0 _ rfl
      have h1 : DataW.trod enc Try.prog w base spare held n 31 (([c0, c1, c2, c3, c4, c5].drop 1).take (Try.prog.cellsOf 31)) = some y1 := hf 1 _ rfl
      have h2 : DataW.trod enc Try.prog w base spare held n 33 (([c0, c1, c2, c3, c4, c5].drop 3).take (Try.prog.cellsOf 33)) = some y2 := hf 2 _ rfl
      rw [show Try.prog.cellsOf 2 = 1 by kernel_rfl] at h0
      rw [show Try.prog.cellsOf 31 = 2 by kernel_rfl] at h1
      rw [show Try.prog.cellsOf 33 = 3 by kernel_rfl] at h2
      obtain ⟨k, e0, _, w0⟩ := DataW.trod_int Try.underlying2 h0
      obtain ⟨z, hz, e1⟩ := trod_sum h1
      obtain ⟨v, hv, e2⟩ := open_one h2
      simp at e0 e1
      simp [V.cells] at e2
      obtain ⟨rfl, rfl⟩ := e1
      obtain ⟨rfl, rfl, rfl⟩ := e2
      subst e0
      exact ⟨⟨k, z, v⟩, ⟨in64_of_wf w0, hz, hv⟩, rfl⟩
set_option maxRecDepth 100000 in
theorem open_acc {v : Value} {d : DataW H} {p : List MemPlace} {r : Reach} {b0 : Nat} (hv : Value.okWide Try.prog w r b0 35 v) (h : DataW.Trod enc Try.prog w 0 (fun _ => true) true 35 v d p) : ∃ a : Ac, v = a.V ∧ a.wf := by
  obtain ⟨cs, rfl, hsz⟩ := okWide_struct Try.underlying35 hv
  obtain ⟨fuel, hf⟩ := h
  obtain ⟨a, ha, hcs⟩ := trod_acc hf
  refine ⟨a, ?_, ha⟩
  obtain ⟨l⟩ := cs
  simp only [Value.cells] at hcs
  rw [hcs]
  rfl
set_option maxRecDepth 100000 in
theorem open_val {v : Value} {d : DataW H} {p : List MemPlace} {r : Reach} {b0 : Nat} (hv : Value.okWide Try.prog w r b0 33 v) (h : DataW.Trod enc Try.prog w 0 (fun _ => true) true 33 v d p) : ∃ a : V, v = a.val ∧ a.wf := by
  obtain ⟨cs, rfl, hsz⟩ := okWide_struct Try.underlying33 hv
  obtain ⟨fuel, hf⟩ := h
  obtain ⟨a, ha, hcs⟩ := open_one hf
  refine ⟨a, ?_, ha⟩
  obtain ⟨l⟩ := cs
  simp only [Value.cells] at hcs
  rw [hcs]
  rfl
end
end Go.Proofs.Ytihgcfokenabgaa
