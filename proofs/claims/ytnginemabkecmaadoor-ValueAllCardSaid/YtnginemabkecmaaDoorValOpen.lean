/- Arguments of values and rows, opened to plain words. -/
import Derived.Test.YtnginemabkecmaaDoorValFrame
import Derived.Deep.Slices
import Derived.Deep.Fields
import Derived.ChangeSame
import Derived.Lib.SmallJoins
namespace Go.Proofs.YtnginemabkecmaaDoor
open Go Go.ChangeShapes Go.WideShapes Go.Deep Go.RowKit Go.Joins
set_option linter.unusedVariables false
section
variable {H : Type} {enc : TypeId × Value → H} {w : World}

theorem i64_wf {n : Int} (h : (Lit.int .i64 n).wf = true) : in64 n := by
  simpa [Lit.wf, IntKind.min, IntKind.max, IntKind.signed, IntKind.bits, in64] using h

theorem open_one {base : Nat} {spare : Nat → Bool} {held : Bool} {m : Nat} {cs : List Value} {x : DataW H × List MemPlace} (h : DataW.trod enc Tryd.prog w base spare held m 23 cs = some x) :
    ∃ v : V, v.wf ∧ cs = v.cells := by
  obtain ⟨xs, n, _, _, hlen, hxl, hf⟩ := DataW.trod_struct Tryd.underlying23 h
  rw [show Tryd.prog.cellsOf 23 = 3 by kernel_rfl] at hlen
  match cs, hlen with
  | [c0, c1, c2], _ =>
    match xs, hxl with
    | [y0, y1, y2], _ =>
      have h0 : DataW.trod enc Tryd.prog w base spare held n 3 (([c0, c1, c2].drop 0).take (Tryd.prog.cellsOf 3)) = some y0 := hf 0 _ rfl
      have h1 : DataW.trod enc Tryd.prog w base spare held n 2 (([c0, c1, c2].drop 1).take (Tryd.prog.cellsOf 2)) = some y1 := hf 1 _ rfl
      have h2 : DataW.trod enc Tryd.prog w base spare held n 9 (([c0, c1, c2].drop 2).take (Tryd.prog.cellsOf 9)) = some y2 := hf 2 _ rfl
      rw [show Tryd.prog.cellsOf 3 = 1 by kernel_rfl] at h0
      rw [show Tryd.prog.cellsOf 2 = 1 by kernel_rfl] at h1
      rw [show Tryd.prog.cellsOf 9 = 1 by kernel_rfl] at h2
      obtain ⟨k, e0, _, w0⟩ := DataW.trod_int Tryd.underlying3 h0
      obtain ⟨z, e1, _, w1⟩ := DataW.trod_int Tryd.underlying2 h1
      obtain ⟨s, e2, _, w2⟩ := DataW.trod_string Tryd.underlying9 h2
      simp at e0 e1 e2
      subst e0 e1 e2
      exact ⟨⟨k, z, s⟩, ⟨i64_wf w0, i64_wf w1, w2⟩, rfl⟩

theorem open_val {v : Value} {d : DataW H} {p : List MemPlace} {r : Reach} {b0 : Nat} (hv : Value.okWide Tryd.prog w r b0 23 v) (h : DataW.Trod enc Tryd.prog w 0 (fun _ => true) true 23 v d p) : ∃ u : V, u.wf ∧ v = u.val := by
  obtain ⟨cs, rfl, hsz⟩ := okWide_struct Tryd.underlying23 hv
  obtain ⟨fuel, hf⟩ := h
  obtain ⟨u, hu, hc⟩ := open_one hf
  refine ⟨u, hu, ?_⟩
  have : cs.toList = u.cells := hc
  unfold V.val
  congr 1
  apply Array.ext'
  rw [this]
  rfl

theorem open_row {v : Value} {d : DataW H} {p : List MemPlace} {r : Reach} {b0 : Nat} (hv : Value.okWide Tryd.prog w r b0 24 v) (h : DataW.Trod enc Tryd.prog w 0 (fun _ => true) true 24 v d p) (hlt : ∀ x ∈ p, x.block < w.heap.size) :
    ∃ (A : Option Addr) (len c : Nat) (l : List V), v = .slice A len c ∧ len = l.length ∧ len ≤ maxLen ∧ (∀ u ∈ l, u.wf) ∧ Row3 w w.heap.size A l := by
  obtain ⟨A0, len0, cap0, rfl⟩ := okWide_slice Tryd.underlying24 hv
  obtain ⟨fuel, hf⟩ := h
  rcases open_slice Tryd.underlying24 hf with ⟨hcs, _⟩ | ⟨a, len, cap, m, n, D, Pl, hcs, _, hl, hm, hmm, _, hi⟩
  · simp [Value.cells] at hcs
    obtain ⟨rfl, rfl, rfl⟩ := hcs
    exact ⟨none, 0, 0, [], rfl, rfl, by decide, by simp, fun j hj => by simp at hj⟩
  · simp [Value.cells] at hcs
    obtain ⟨rfl, rfl, rfl⟩ := hcs
    simp only [if_true] at hmm
    rw [show Tryd.prog.cellsOf 23 = 3 by kernel_rfl] at hi
    have per : ∀ i, i < len0 → ∃ u : V, u.wf ∧ ∀ j (x : Value), u.cells[j]? = some x → w.cell? (a.add (i * 3 + j)) = some x := by
      intro i hil
      obtain ⟨cs', hc, ht⟩ := hi i (by omega)
      obtain ⟨u, hu, hcu⟩ := open_one ht
      obtain ⟨_, hcl, hat⟩ := World.cells?_some hc
      refine ⟨u, hu, fun j x hx => ?_⟩
      have hj : j < 3 := by
        have := (List.getElem?_eq_some_iff.1 hx).1
        simpa [V.cells] using this
      rw [← Go.Deep.add_add, hat j hj, hcu]
      exact hx
    have build : ∀ k, k ≤ len0 → ∃ l : List V, l.length = k ∧ (∀ u ∈ l, u.wf) ∧ ∀ q (hq : q < l.length), ∀ j (x : Value), l[q].cells[j]? = some x → w.cell? (a.add (q * 3 + j)) = some x := by
      intro k
      induction k with
      | zero => intro _; exact ⟨[], rfl, by simp, fun q hq => by simp at hq⟩
      | succ k ih =>
        intro hk
        obtain ⟨l, h1, h2, h3⟩ := ih (by omega)
        obtain ⟨u, hu, hc⟩ := per k (by omega)
        refine ⟨l ++ [u], by simp [h1], fun x hx => ?_, fun q hq j x hx => ?_⟩
        · rcases List.mem_append.1 hx with h | h
          · exact h2 x h
          · simp at h; subst h; exact hu
        · by_cases hq2 : q < l.length
          · rw [List.getElem_append_left hq2] at hx
            exact h3 q hq2 j x hx
          · obtain rfl : q = k := by simp at hq; omega
            rw [List.getElem_append_right (by omega)] at hx
            simp at hx
            exact hc j x hx
    obtain ⟨l, h1, h2, h3⟩ := build len0 (Nat.le_refl _)
    refine ⟨some a, len0, cap0, l, rfl, h1.symm, by omega, h2, fun q hq => ?_⟩
    have c0 := h3 q hq 0 _ rfl
    have c1 := h3 q hq 1 _ rfl
    have c2 := h3 q hq 2 _ rfl
    have z0 := h3 0 (by omega) 0 _ rfl
    have hsp : a.spot = none := by
      have := World.cell?_spot z0
      simpa [Addr.add] using this
    obtain ⟨b, off, sp⟩ := a
    obtain rfl : sp = none := hsp
    rw [add_at] at c0 c1 c2
    exact ⟨b, off, rfl, World.block_lt_of_cell? w _ c0, c0, by rw [Nat.add_assoc]; exact c1, by rw [Nat.add_assoc]; exact c2⟩
end
end Go.Proofs.YtnginemabkecmaaDoor
