/- Layer 13: handed expressions, columns, rows opened. -/
import Derived.Test.YtclcabdekeegdaaGreatExQa
import Derived.Deep.Slices
import Derived.Deep.Fields
import Derived.ChangeSame
import Derived.Lib.SmallJoins
namespace Go.Proofs.YtclcabdekeegdaaGreat
open Go Go.ChangeShapes Go.WideShapes Go.Deep Go.RowKit Go.Joins
set_option linter.unusedVariables false
set_option linter.unusedSimpArgs false
section
variable {H : Type} {enc : TypeId × Value → H} {w : World}
set_option maxRecDepth 100000 in
theorem xtrod_c {base : Nat} {spare : Nat → Bool} {held : Bool} {m : Nat} {cs : List Value} {x : DataW H × List MemPlace} (h : DataW.trod enc Tryz.prog w base spare held m 56 cs = some x) : ∃ v : C, v.wf ∧ cs = C.cells v := by
  obtain ⟨xs, n, _, _, hlen, hxl, hf⟩ := DataW.trod_struct Tryz.underlying56 h
  rw [show Tryz.prog.cellsOf 56 = 2 by kernel_rfl] at hlen
  match cs, hlen with
  | [c0, c1], _ =>
    match xs, hxl with
    | [y0, y1], _ =>
      have h0 : DataW.trod enc Tryz.prog w base spare held n 9 (([c0, c1].drop 0).take (Tryz.prog.cellsOf 9)) = some y0 := hf 0 _ rfl
      have h1 : DataW.trod enc Tryz.prog w base spare held n 3 (([c0, c1].drop 1).take (Tryz.prog.cellsOf 3)) = some y1 := hf 1 _ rfl
      rw [show Tryz.prog.cellsOf 9 = 1 by kernel_rfl] at h0
      rw [show Tryz.prog.cellsOf 3 = 1 by kernel_rfl] at h1
      obtain ⟨k, e0, _, w0⟩ := DataW.trod_string Tryz.underlying9 h0
      obtain ⟨z, e1, _, w1⟩ := DataW.trod_int Tryz.underlying3 h1
      simp at e0 e1
      subst e0 e1
      exact ⟨⟨k, z⟩, ⟨in64_wf w1, w0⟩, rfl⟩
set_option maxRecDepth 100000 in
theorem xtrod_v {base : Nat} {spare : Nat → Bool} {held : Bool} {m : Nat} {cs : List Value} {x : DataW H × List MemPlace} (h : DataW.trod enc Tryz.prog w base spare held m 23 cs = some x) : ∃ v : V, v.wf ∧ cs = [.int .i64 v.k, .int .i64 v.n, .string v.s] := by
  obtain ⟨xs, n, _, _, hlen, hxl, hf⟩ := DataW.trod_struct Tryz.underlying23 h
  rw [show Tryz.prog.cellsOf 23 = 3 by kernel_rfl] at hlen
  match cs, hlen with
  | [c0, c1, c2], _ =>
    match xs, hxl with
    | [y0, y1, y2], _ =>
      have h0 : DataW.trod enc Tryz.prog w base spare held n 3 (([c0, c1, c2].drop 0).take (Tryz.prog.cellsOf 3)) = some y0 := hf 0 _ rfl
      have h1 : DataW.trod enc Tryz.prog w base spare held n 2 (([c0, c1, c2].drop 1).take (Tryz.prog.cellsOf 2)) = some y1 := hf 1 _ rfl
      have h2 : DataW.trod enc Tryz.prog w base spare held n 9 (([c0, c1, c2].drop 2).take (Tryz.prog.cellsOf 9)) = some y2 := hf 2 _ rfl
      rw [show Tryz.prog.cellsOf 3 = 1 by kernel_rfl] at h0
      rw [show Tryz.prog.cellsOf 2 = 1 by kernel_rfl] at h1
      rw [show Tryz.prog.cellsOf 9 = 1 by kernel_rfl] at h2
      obtain ⟨k, e0, _, w0⟩ := DataW.trod_int Tryz.underlying3 h0
      obtain ⟨z, e1, _, w1⟩ := DataW.trod_int Tryz.underlying2 h1
      obtain ⟨s, e2, _, w2⟩ := DataW.trod_string Tryz.underlying9 h2
      simp at e0 e1 e2
      subst e0 e1 e2
      exact ⟨⟨k, z, s⟩, ⟨in64_wf w0, in64_wf w1, w2⟩, rfl⟩
set_option maxRecDepth 100000 in
theorem xtrod_e : ∀ {m : Nat} {cs : List Value} {x : DataW H × List MemPlace}, DataW.trod enc Tryz.prog w 0 (fun _ => true) true m 26 cs = some x →
    ∃ (n : Nat) (o : Int) (nm : ByteArray) (v : V) (s : Value) (y : DataW H × List MemPlace), m = n + 1 ∧ in64 o ∧ nm.size ≤ 9223372036854775807 ∧ v.wf ∧ cs = [.int .i64 o, .string nm, .int .i64 v.k, .int .i64 v.n, .string v.s, s] ∧ DataW.trod enc Tryz.prog w 0 (fun _ => true) true n 24 [s] = some y := by
  intro m cs x h
  obtain ⟨xs, n, hm, _, hlen, hxl, hf⟩ := DataW.trod_struct Tryz.underlying26 h
  rw [show Tryz.prog.cellsOf 26 = 6 by kernel_rfl] at hlen
  match cs, hlen with
  | [c0, c1, c2, c3, c4, c5], _ =>
    match xs, hxl with
    | [y0, y1, y2, y3], _ =>
      have h0 : DataW.trod enc Tryz.prog w 0 (fun _ => true) true n 3 (([c0, c1, c2, c3, c4, c5].drop 0).take (Tryz.prog.cellsOf 3)) = some y0 := hf 0 _ rfl
      have h1 : DataW.trod enc Tryz.prog w 0 (fun _ => true) true n 9 (([c0, c1, c2, c3, c4, c5].drop 1).take (Tryz.prog.cellsOf 9)) = some y1 := hf 1 _ rfl
      have h2 : DataW.trod enc Tryz.prog w 0 (fun _ => true) true n 23 (([c0, c1, c2, c3, c4, c5].drop 2).take (Tryz.prog.cellsOf 23)) = some y2 := hf 2 _ rfl
      have h3 : DataW.trod enc Tryz.prog w 0 (fun _ => true) true n 24 (([c0, c1, c2, c3, c4, c5].drop 5).take (Tryz.prog.cellsOf 24)) = some y3 := hf 3 _ rfl
      rw [show Tryz.prog.cellsOf 3 = 1 by kernel_rfl] at h0
      rw [show Tryz.prog.cellsOf 9 = 1 by kernel_rfl] at h1
      rw [show Tryz.prog.cellsOf 23 = 3 by kernel_rfl] at h2
      rw [show Tryz.prog.cellsOf 24 = 1 by kernel_rfl] at h3
      obtain ⟨o, e0, _, w0⟩ := DataW.trod_int Tryz.underlying3 h0
      obtain ⟨nm, e1, _, w1⟩ := DataW.trod_string Tryz.underlying9 h1
      obtain ⟨v, hv, e2⟩ := xtrod_v h2
      simp at e0 e1 e2
      obtain ⟨rfl, rfl, rfl⟩ := e2
      subst e0 e1
      exact ⟨n, o, nm, v, c5, y3, hm, in64_wf w0, w1, hv, rfl, h3⟩
set_option maxRecDepth 100000 in
theorem open_expr {v : Value} {d : DataW H} {p : List MemPlace} {r : Reach} {b0 : Nat} (hv : Value.okWide Tryz.prog w r b0 26 v) (h : DataW.Trod enc Tryz.prog w 0 (fun _ => true) true 26 v d p) :
    ∃ (e : X) (A : Option Addr) (c : Nat), v = e.val A c ∧ e.wf ∧ KidsAt w w.heap.size e A c := by
  obtain ⟨cs, rfl, hsz⟩ := okWide_struct Tryz.underlying26 hv
  obtain ⟨fuel, hf⟩ := h
  obtain ⟨e, A, c, he, hcs, hk⟩ := open_x_gen (P := Tryz.prog) (w := w) Tryz.underlying24 (by kernel_rfl) (fun h => xtrod_e h) fuel hf
  refine ⟨e, A, c, ?_, he, hk⟩
  obtain ⟨l⟩ := cs
  simp only [Value.cells] at hcs
  rw [hcs]
  cases e
  rfl
set_option maxRecDepth 100000 in
theorem xopen_cols {v : Value} {d : DataW H} {p : List MemPlace} {r : Reach} {b0 : Nat} (hv : Value.okWide Tryz.prog w r b0 33 v) (h : DataW.Trod enc Tryz.prog w 0 (fun _ => true) true 33 v d p) :
    ∃ (A : Option Addr) (c : Nat) (l : List C), v = .slice A l.length c ∧ l.length ≤ c ∧ c ≤ maxLen ∧ (∀ u ∈ l, u.wf) ∧ Row2 w w.heap.size A l := by
  obtain ⟨A, len, c, l, rfl, rfl, h1, h2, h3, h4⟩ := open_of (f := C.cells) (sz := 2) Tryz.underlying33 (by kernel_rfl) (by decide) (fun a => rfl) xtrod_c hv h
  exact ⟨A, c, l, rfl, h1, h2, h3, Row2.of h4⟩
end
end Go.Proofs.YtclcabdekeegdaaGreat
