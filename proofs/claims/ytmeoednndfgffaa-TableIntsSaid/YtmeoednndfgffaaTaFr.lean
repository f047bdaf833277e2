/- Layer 17: handed calls and changes opened. -/
import Derived.Test.YtmeoednndfgffaaTaO
import Derived.Test.YtmeoednndfgffaaOpen
import Derived.Deep.Slices
import Derived.Deep.Fields
import Derived.ChangeSame
import Derived.Lib.SmallJoins
namespace Go.Proofs.Ytmeoednndfgffaa
open Go Go.ChangeShapes Go.WideShapes Go.Deep Go.RowKit Go.Joins
set_option linter.unusedVariables false
set_option linter.unusedSimpArgs false
section
variable {H : Type} {enc : TypeId × Value → H} {w : World}
def Oq.good (o : Oq) : Prop := in64 o.d ∧ o.k.size ≤ 9223372036854775807 ∧ o.v.size ≤ 9223372036854775807
theorem oq_len (o : Oq) : (oqC o).length = 3 := rfl
set_option maxRecDepth 100000 in
theorem trod_oq {m : Nat} {cs : List Value} {x : DataW H × List MemPlace} (h : DataW.trod enc Try.prog w 0 (fun _ => true) true m 29 cs = some x) : ∃ a : Oq, a.good ∧ cs = oqC a := by
  obtain ⟨xs, n, hm, _, hlen, hxl, hf⟩ := DataW.trod_struct Try.underlying29 h
  rw [show Try.prog.cellsOf 29 = 3 by kernel_rfl] at hlen
  match cs, hlen with
  | [c0, c1, c2], _ =>
    match xs, hxl with
    | [y0, y1, y2], _ =>
      have h0 : DataW.trod enc Try.prog w 0 (fun _ => true) true n 3 (([c0, c1, c2].drop 0).take (Try.prog.cellsOf 3)) = some y0 := hf 0 _ rfl
      have h1 : DataW.trod enc Try.prog w 0 (fun _ => true) true n 9 (([c0, c1, c2].drop 1).take (Try.prog.cellsOf 9)) = some y1 := hf 1 _ rfl
      have h2 : DataW.trod enc Try.prog w 0 (fun _ => true) true n 9 (([c0, c1, c2].drop 2).take (Try.prog.cellsOf 9)) = some y2 := hf 2 _ rfl
      rw [show Try.prog.cellsOf 3 = 1 by kernel_rfl] at h0
      rw [show Try.prog.cellsOf 9 = 1 by kernel_rfl] at h1 h2
      obtain ⟨k, e0, _, w0⟩ := DataW.trod_int Try.underlying3 h0
      obtain ⟨s, e1, _, w1⟩ := DataW.trod_string Try.underlying9 h1
      obtain ⟨t, e2, _, w2⟩ := DataW.trod_string Try.underlying9 h2
      simp at e0 e1 e2
      subst e0 e1 e2
      exact ⟨⟨k, s, t⟩, ⟨in64_wf w0, w1, w2⟩, rfl⟩
def kcGood (c : Kc) : Prop := c.k.size ≤ 9223372036854775807 ∧ c.v.size ≤ 9223372036854775807
set_option maxRecDepth 100000 in
theorem trod_kc {m : Nat} {cs : List Value} {x : DataW H × List MemPlace} (h : DataW.trod enc Try.prog w 0 (fun _ => true) true m 52 cs = some x) : ∃ a : Kc, kcGood a ∧ cs = kcC a := by
  obtain ⟨xs, n, hm, _, hlen, hxl, hf⟩ := DataW.trod_struct Try.underlying52 h
  rw [show Try.prog.cellsOf 52 = 3 by kernel_rfl] at hlen
  match cs, hlen with
  | [c0, c1, c2], _ =>
    match xs, hxl with
    | [y0, y1, y2], _ =>
      have h0 : DataW.trod enc Try.prog w 0 (fun _ => true) true n 9 (([c0, c1, c2].drop 0).take (Try.prog.cellsOf 9)) = some y0 := hf 0 _ rfl
      have h1 : DataW.trod enc Try.prog w 0 (fun _ => true) true n 9 (([c0, c1, c2].drop 1).take (Try.prog.cellsOf 9)) = some y1 := hf 1 _ rfl
      have h2 : DataW.trod enc Try.prog w 0 (fun _ => true) true n 4 (([c0, c1, c2].drop 2).take (Try.prog.cellsOf 4)) = some y2 := hf 2 _ rfl
      rw [show Try.prog.cellsOf 4 = 1 by kernel_rfl] at h2
      rw [show Try.prog.cellsOf 9 = 1 by kernel_rfl] at h0 h1
      obtain ⟨s, e0, _, w0⟩ := DataW.trod_string Try.underlying9 h0
      obtain ⟨t, e1, _, w1⟩ := DataW.trod_string Try.underlying9 h1
      obtain ⟨b, e2, _⟩ := DataW.trod_bool Try.underlying4 h2
      simp at e0 e1 e2
      subst e0 e1 e2
      exact ⟨⟨s, t, b⟩, ⟨w0, w1⟩, rfl⟩
set_option maxRecDepth 100000 in
theorem open_oqs {v : Value} {d : DataW H} {p : List MemPlace} {r : Reach} {b0 : Nat} (hv : Value.okWide Try.prog w r b0 22 v) (h : DataW.Trod enc Try.prog w 0 (fun _ => true) true 22 v d p) :
    ∃ (A : Option Addr) (c : Nat) (l : List Oq), v = .slice A l.length c ∧ l.length ≤ maxLen ∧ (∀ a ∈ l, a.good) ∧ OqRow w w.heap.size A l := by
  obtain ⟨A, len, c, l, rfl, rfl, hc, hm, hg, hr⟩ := open_of Try.underlying22 (by kernel_rfl) (by decide) oq_len trod_oq hv h
  exact ⟨A, c, l, rfl, Nat.le_trans hc hm, hg, OqRow.of hr⟩
set_option maxRecDepth 100000 in
theorem open_kcs {v : Value} {d : DataW H} {p : List MemPlace} {r : Reach} {b0 : Nat} (hv : Value.okWide Try.prog w r b0 44 v) (h : DataW.Trod enc Try.prog w 0 (fun _ => true) true 44 v d p) :
    ∃ (A : Option Addr) (c : Nat) (l : List Kc), v = .slice A l.length c ∧ l.length ≤ maxLen ∧ (∀ a ∈ l, kcGood a) ∧ CRow w w.heap.size A l := by
  obtain ⟨A, len, c, l, rfl, rfl, hc, hm, hg, hr⟩ := open_of Try.underlying44 (by kernel_rfl) (by decide) kc_len trod_kc hv h
  exact ⟨A, c, l, rfl, Nat.le_trans hc hm, hg, CRow.of hr⟩
def u8C (n : Int) : List Value := [.int .u8 n]
theorem u8_len (n : Int) : (u8C n).length = 1 := rfl
theorem trod_u8 {m : Nat} {cs : List Value} {x : DataW H × List MemPlace} (h : DataW.trod enc Try.prog w 0 (fun _ => true) true m 5 cs = some x) : ∃ a : Int, (0 ≤ a ∧ a ≤ 255) ∧ cs = u8C a := by
  obtain ⟨k, e0, _, w0⟩ := DataW.trod_int Try.underlying5 h
  exact ⟨k, by simpa [Lit.wf, IntKind.min, IntKind.max, IntKind.signed, IntKind.bits] using w0, e0⟩
/-- Bytes, side by side. -/
def URow (w : World) (B : Nat) (A : Option Addr) (l : List Int) : Prop :=
  ∀ (j : Nat) (h : j < l.length), ∃ b off, A = some ⟨b, off, none⟩ ∧ b < B ∧ w.cell? ⟨b, off + j, none⟩ = some (.int .u8 l[j])
theorem URow.of {w : World} {B : Nat} {A : Option Addr} {l : List Int} (h : RowC u8C 1 w B A l) : URow w B A l := by
  intro j hj
  obtain ⟨b, off, e, hlt, h0⟩ := h j hj
  have := h0 0 _ rfl
  rw [Nat.mul_one] at this
  exact ⟨b, off, e, hlt, this⟩
theorem URow.below {w w' : World} {B : Nat} {A : Option Addr} {l : List Int} (h : URow w B A l) (hb : Below B w w') : URow w' B A l := by
  intro j hj
  obtain ⟨b, off, e, hlt, h0⟩ := h j hj
  exact ⟨b, off, e, hlt, (hb.cell (p := ⟨b, off + j, none⟩) hlt).trans h0⟩
set_option maxRecDepth 100000 in
theorem open_u8s {v : Value} {d : DataW H} {p : List MemPlace} {r : Reach} {b0 : Nat} (hv : Value.okWide Try.prog w r b0 60 v) (h : DataW.Trod enc Try.prog w 0 (fun _ => true) true 60 v d p) :
    ∃ (A : Option Addr) (c : Nat) (l : List Int), v = .slice A l.length c ∧ l.length ≤ maxLen ∧ (∀ a ∈ l, 0 ≤ a ∧ a ≤ 255) ∧ URow w w.heap.size A l := by
  obtain ⟨A, len, c, l, rfl, rfl, hc, hm, hg, hr⟩ := open_of Try.underlying60 (by kernel_rfl) (by decide) u8_len trod_u8 hv h
  exact ⟨A, c, l, rfl, Nat.le_trans hc hm, hg, URow.of hr⟩
end
end Go.Proofs.Ytmeoednndfgffaa
