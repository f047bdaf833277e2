/- Layer 17: calls handed in, how they lie; which are too many. -/
import Derived.Test.YtmeoednndfgffaaTaR3
import Derived.BigRegion
namespace Go.Proofs.Ytmeoednndfgffaa
open Go Go.ChangeShapes Go.WideShapes Go.ChangeAt Go.RowKit
set_option linter.unusedVariables false
set_option linter.unusedSimpArgs false
/-- A call: of what kind, its key, its thing. -/
structure Oq where
  d : Int
  k : ByteArray
  v : ByteArray
def oqC (o : Oq) : List Value := [.int .i64 o.d, .string o.k, .string o.v]
/-- Calls, side by side. -/
def OqRow (w : World) (B : Nat) (A : Option Addr) (l : List Oq) : Prop :=
  ∀ (j : Nat) (h : j < l.length), ∃ b off, A = some ⟨b, off, none⟩ ∧ b < B ∧ w.cell? ⟨b, off + j * 3, none⟩ = some (.int .i64 l[j].d) ∧ w.cell? ⟨b, off + j * 3 + 1, none⟩ = some (.string l[j].k) ∧ w.cell? ⟨b, off + j * 3 + 2, none⟩ = some (.string l[j].v)
theorem OqRow.of {w : World} {B : Nat} {A : Option Addr} {l : List Oq} (h : RowC oqC 3 w B A l) : OqRow w B A l := by
  intro j hj
  obtain ⟨b, off, e, hlt, h0⟩ := h j hj
  exact ⟨b, off, e, hlt, h0 0 _ rfl, h0 1 _ rfl, h0 2 _ rfl⟩
theorem OqRow.below {w w' : World} {B : Nat} {A : Option Addr} {l : List Oq} (h : OqRow w B A l) (hb : Below B w w') : OqRow w' B A l := by
  intro j hj
  obtain ⟨b, off, e, hlt, h0, h1, h2⟩ := h j hj
  have C : ∀ i, w'.cell? ⟨b, i, none⟩ = w.cell? ⟨b, i, none⟩ := fun i => hb.cell (p := ⟨b, i, none⟩) hlt
  exact ⟨b, off, e, hlt, (C _).trans h0, (C _).trans h1, (C _).trans h2⟩
theorem OqRow.more {w : World} {B B' : Nat} {A : Option Addr} {l : List Oq} (h : OqRow w B A l) (hb : B ≤ B') : OqRow w B' A l := by
  intro j hj
  obtain ⟨b, off, e, hlt, h0⟩ := h j hj
  exact ⟨b, off, e, by omega, h0⟩
def limO : Nat := 300
set_option maxHeartbeats 4000000 in
set_option maxRecDepth 40000 in
theorem long_any (l : List Oq) (n c : Nat) (A : Option Addr) (w : World) (hl : n = l.length) (hn : n ≤ maxLen) (hA : OqRow w w.heap.size A l) :
    Calls Try.prog 9 #[.slice A n c] w fun e w' => ∃ b : Bool, e = .returned (.bool b) ∧ (b = false → n ≤ limO) ∧ Below w.heap.size w w' := by
  have HA := Lib.hid hA
  have HL := Lib.hid hl
  clear hA hl
  by_cases h300 : 300 < n
  · have hd : decide ((300 : Int) < (n : Int)) = true := decide_eq_true (by omega)
    clear h300
    go_enter Try.func9, Try.ntmps9
    go_wp2
    go_ret
    exact ⟨true, by simp, (fun h => by cases h), Below.refl _ _⟩
  · have hd : decide ((300 : Int) < (n : Int)) = false := decide_eq_false (by omega)
    have HN := Lib.hid (show n ≤ limO by unfold limO; omega)
    clear h300 hn
    go_enter Try.func9, Try.ntmps9
    go_wp2
    clear hd
    go_loopw [3] (fun iv wr => ∃ i : Nat, iv = .int .i64 i ∧ i ≤ n ∧ Hid (Below w.heap.size w wr)) (fun iv _ => n - (intOf iv).toNat)
    case atStart => exact ⟨0, rfl, Nat.zero_le _, Lib.hid (Below.refl _ _)⟩
    case round =>
      obtain ⟨i, rfl, hi, HB⟩ := hrel
      by_cases hlt : i < n
      · have hil : i < l.length := by rw [← HL.out]; exact hlt
        obtain ⟨b, off, rfl, hb, c0, c1, c2⟩ := (HA.out.below HB.out) i hil
        obtain ⟨x, hx⟩ : ∃ x, l[i]'hil = x := ⟨_, rfl⟩
        rw [hx] at c0 c1 c2
        have i1 : (0 : Int) ≤ (i : Int) := by omega
        have i2 : (i : Int) < (n : Int) := by omega
        have i3 : i + 1 ≤ 9223372036854775807 := by have := HN.out; unfold limO at this; omega
        clear hx hil hb
        go_wp2
        go_region
        all_goals go_wp2
        · go_ret
          exact ⟨true, by simp, (fun h => by cases h), HB.out.drew⟩
        · go_roundw
          case rel => exact ⟨i + 1, by go_num, by omega, Lib.hid HB.out.drew⟩
          case measure => simp [intOf]; omega
      · go_wp2
        go_ret
        exact ⟨false, by simp, (fun _ => HN.out), HB.out⟩
end Go.Proofs.Ytmeoednndfgffaa
