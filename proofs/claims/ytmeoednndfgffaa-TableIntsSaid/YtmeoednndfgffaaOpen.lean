/- Arguments that are slices, opened to plain words (of no package's own types; from the fourth stage). -/
import Derived.Test.YtmeoednndfgffaaMem
import Derived.Deep.Slices
import Derived.Deep.Fields
import Derived.ChangeSame
import Derived.Lib.SmallJoins
namespace Go.Proofs.Ytmeoednndfgffaa
open Go Go.ChangeShapes Go.WideShapes Go.Deep Go.RowKit Go.Joins
set_option linter.unusedVariables false
section
variable {H : Type} {enc : TypeId × Value → H} {w : World} {base : Nat} {spare : Nat → Bool} {held : Bool}

theorem in64_wf {n : Int} (h : (Lit.int .i64 n).wf = true) : in64 n := by
  simpa [Lit.wf, IntKind.min, IntKind.max, IntKind.signed, IntKind.bits, in64] using h

set_option maxRecDepth 100000 in
/-- A slice whose items are opened by 'one'. -/
theorem trod_row {α : Type} {f : α → List Value} {good : α → Prop} {T E : TypeId} {sz : Nat} (hT : Try.prog.underlying T = some (.slice E)) (hc : Try.prog.cellsOf E = sz) (hsz : 0 < sz) (hl : ∀ a, (f a).length = sz)
    (one : ∀ {m : Nat} {cs : List Value} {x : DataW H × List MemPlace}, DataW.trod enc Try.prog w base spare held m E cs = some x → ∃ a, good a ∧ cs = f a)
    {m : Nat} {cs : List Value} {x : DataW H × List MemPlace} (h : DataW.trod enc Try.prog w base spare held m T cs = some x) :
    ∃ (A : Option Addr) (len c : Nat) (l : List α), cs = [.slice A len c] ∧ len = l.length ∧ len ≤ c ∧ c ≤ maxLen ∧ (∀ a ∈ l, good a) ∧ RowC f sz w w.heap.size A l := by
  rcases open_slice hT h with ⟨hcs, _⟩ | ⟨a, len, cap, m, n, D, Pl, hcs, _, hle, hm, hmm, _, hi⟩
  · exact ⟨none, 0, 0, [], hcs, rfl, Nat.le_refl _, by decide, by simp, RowC.nil _ _ _⟩
  · rw [hc] at hi
    have hlm : len ≤ m := by rw [hmm]; split <;> omega
    have per : ∀ i, i < len → ∃ u : α, good u ∧ ∀ j (x : Value), (f u)[j]? = some x → w.cell? (a.add (i * sz + j)) = some x := by
      intro i hil
      obtain ⟨cs', hcc, ht⟩ := hi i (by omega)
      obtain ⟨u, hu, hcu⟩ := one ht
      obtain ⟨_, hcl, hat⟩ := World.cells?_some hcc
      refine ⟨u, hu, fun j x hx => ?_⟩
      have hj : j < sz := by
        have := (List.getElem?_eq_some_iff.1 hx).1
        rwa [hl] at this
      rw [← Go.Deep.add_add, hat j hj, hcu]
      exact hx
    have build : ∀ k, k ≤ len → ∃ l : List α, l.length = k ∧ (∀ u ∈ l, good u) ∧ ∀ q (hq : q < l.length), ∀ j (x : Value), (f l[q])[j]? = some x → w.cell? (a.add (q * sz + j)) = some x := by
      intro k
      induction k with
      | zero => intro _; exact ⟨[], rfl, by simp, fun q hq => by simp at hq⟩
      | succ k ih =>
        intro hk
        obtain ⟨l, h1, h2, h3⟩ := ih (by omega)
        obtain ⟨u, hu, hcu⟩ := per k (by omega)
        refine ⟨l ++ [u], by simp [h1], fun x hx => ?_, fun q hq j x hx => ?_⟩
        · rcases List.mem_append.1 hx with h | h
          · exact h2 x h
          · simp at h; subst h; exact hu
        · by_cases hq2 : q < l.length
          · rw [List.getElem_append_left hq2] at hx
            exact h3 q hq2 j x hx
          · obtain rfl : q = k := by simp at hq; omega
            rw [List.getElem_append_right (by omega)] at hx
            simp at hx
            exact hcu j x hx
    obtain ⟨l, h1, h2, h3⟩ := build len (Nat.le_refl _)
    refine ⟨some a, len, cap, l, hcs, h1.symm, hle, hm, h2, fun q hq => ?_⟩
    have hf0 : 0 < (f (l[0]'(by omega))).length := by rw [hl]; exact hsz
    have z0 := h3 0 (by omega) 0 _ (List.getElem?_eq_getElem hf0)
    have hsp : a.spot = none := by
      have := World.cell?_spot z0
      simpa [Addr.add] using this
    obtain ⟨b, off, sp⟩ := a
    obtain rfl : sp = none := hsp
    have z1 := z0
    rw [add_at] at z1
    refine ⟨b, off, rfl, World.block_lt_of_cell? w _ z1, fun j x hx => ?_⟩
    have := h3 q hq j x hx
    rw [add_at] at this
    rw [Nat.add_assoc]
    exact this
theorem trod_s {m : Nat} {cs : List Value} {x : DataW H × List MemPlace} (h : DataW.trod enc Try.prog w base spare held m 9 cs = some x) : ∃ a : ByteArray, a.size ≤ maxLen ∧ cs = sCells a := by
  obtain ⟨k, e0, _, w0⟩ := DataW.trod_string Try.underlying9 h
  exact ⟨k, w0, e0⟩
end
section
variable {H : Type} {enc : TypeId × Value → H} {w : World}
set_option maxRecDepth 100000 in
theorem open_of {α : Type} {f : α → List Value} {good : α → Prop} {T E : TypeId} {sz : Nat} (hT : Try.prog.underlying T = some (.slice E)) (hc : Try.prog.cellsOf E = sz) (hsz : 0 < sz) (hl : ∀ a, (f a).length = sz)
    (one : ∀ {m : Nat} {cs : List Value} {x : DataW H × List MemPlace}, DataW.trod enc Try.prog w 0 (fun _ => true) true m E cs = some x → ∃ a, good a ∧ cs = f a)
    {v : Value} {d : DataW H} {p : List MemPlace} {r : Reach} {b0 : Nat} (hv : Value.okWide Try.prog w r b0 T v) (h : DataW.Trod enc Try.prog w 0 (fun _ => true) true T v d p) :
    ∃ (A : Option Addr) (len c : Nat) (l : List α), v = .slice A len c ∧ len = l.length ∧ len ≤ c ∧ c ≤ maxLen ∧ (∀ a ∈ l, good a) ∧ RowC f sz w w.heap.size A l := by
  obtain ⟨A0, len0, cap0, rfl⟩ := okWide_slice hT hv
  obtain ⟨fuel, hf⟩ := h
  obtain ⟨A, len, c, l, hcs, h1, h2, h3, h4, h5⟩ := trod_row hT hc hsz hl one hf
  simp [Value.cells] at hcs
  obtain ⟨rfl, rfl, rfl⟩ := hcs
  exact ⟨A0, len0, cap0, l, rfl, h1, h2, h3, h4, h5⟩
end
end Go.Proofs.Ytmeoednndfgffaa
