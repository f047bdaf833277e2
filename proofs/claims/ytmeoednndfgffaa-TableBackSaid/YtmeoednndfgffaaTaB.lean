/- Layer 17: the law TableBack, walked over what a table is asked. -/
import Derived.Test.YtmeoednndfgffaaTaH
namespace Go.Proofs.Ytmeoednndfgffaa
attribute [local go_sem] Oper.semAt_some
open Go Go.ChangeShapes Go.WideShapes Go.ChangeAt Go.RowKit
set_option linter.unusedVariables false
set_option linter.unusedSimpArgs false
theorem diffK_len {z : ByteArray} : ∀ (l m : List Kp), (diffK z l m).length ≤ l.length + m.length
  | [], [] => by simp [diffK]
  | a :: l, [] => by
    rw [diffK]
    have := diffK_len (z := z) l []
    simp only [List.length_cons, List.length_nil] at *
    omega
  | [], b :: m => by
    rw [diffK]
    have := diffK_len (z := z) [] m
    simp only [List.length_cons, List.length_nil] at *
    omega
  | a :: l, b :: m => by
    rw [diffK]
    have h1 := diffK_len (z := z) l (b :: m)
    have h2 := diffK_len (z := z) (a :: l) m
    have h3 := diffK_len (z := z) l m
    simp only [List.length_cons] at *
    split
    · simp only [List.length_cons]; omega
    · split
      · simp only [List.length_cons]; omega
      · split
        · simp only [List.length_cons]; omega
        · omega
  termination_by l m => l.length + m.length
theorem offB_mid {R : Blks} {w : World} {base hi : Nat} {e : TypeId} {size n c : Nat} {A : Option Addr} {xs : List Value} (h : w.ownsRow base e size (.slice A n c) n xs) (hh : w.heap.size ≤ hi) (hR : ∀ k, R k → k < base ∨ hi ≤ k) : OffB R A := by
  intro a ha hr
  have h2 := offB_lt h a ha
  rcases h.2 with ⟨h1, h0⟩ | ⟨g, cap, cur, h1, hg, hh, rest⟩
  · injection h1 with hA
    rw [ha] at hA
    cases hA
  · injection h1 with hA
    rw [ha] at hA
    injection hA with hA
    subst hA
    rcases hR _ hr with h3 | h3
    · exact absurd h3 (Nat.not_lt_of_le hg)
    · omega
section
variable {TabS : Blks → Blks → World → Value → List Kp → Prop}
/-- The tables of the law: t and u, the row of u; what is asked of them in any later world. -/
structure Two (TabS : Blks → Blks → World → Value → List Kp → Prop) (w : World) (v1 v2 : Value) (m1 m2 : List Kp) (A2 : Option Addr) (c2 : Nat) (U : World) : Prop where
  ex : ∃ D1 R1 D2 R2, TabS D1 R1 U v1 m1 ∧ TabS D2 R2 U v2 m2 ∧ ∃ lo hi, w.heap.size ≤ lo ∧ hi ≤ U.heap.size ∧ (∀ k, R1 k → w.heap.size ≤ k ∧ (k < lo ∨ hi ≤ k)) ∧ U.ownsRow lo 38 2 (.slice A2 m2.length c2) m2.length (m2.flatMap kpC) ∧ (∀ a, A2 = some a → a.block < hi)
  bel : Below w.heap.size w U
variable {w U V : World} {v1 v2 : Value} {m1 m2 : List Kp} {A2 : Option Addr} {c2 : Nat}
theorem Two.on (HT : TabC TabS) (h : Two TabS w v1 v2 m1 m2 A2 c2 U) (hb : Below U.heap.size U V) : Two TabS w v1 v2 m1 m2 A2 c2 V := by
  obtain ⟨D1, R1, D2, R2, h1, h2, lo, hi, a1, a2, a3, a4, a5⟩ := h.ex
  exact ⟨⟨D1, R1, D2, R2, HT.ch h1 (ch_of (S := fun _ => False) hb) (fun _ h => h.elim), HT.ch h2 (ch_of (S := fun _ => False) hb) (fun _ h => h.elim), lo, hi, a1, Nat.le_trans a2 hb.size, a3, own_below a4 hb, a5⟩, hop0 h.bel hb⟩
theorem two_of (HT : TabC TabS) {A1 : Option Addr} {c1 : Nat} {w1 w2 : World} (hb : Below w.heap.size w w1) (h1 : Made TabS w1 v1 m1 A1 m1.length c1 m1 w2) (h2 : Made TabS w2 v2 m2 A2 m2.length c2 m2 U) : Two TabS w v1 v2 m1 m2 A2 c2 U := by
  obtain ⟨D1, R1, t1, f1, _⟩ := h1.ex
  obtain ⟨D2, R2, t2, f2, _⟩ := h2.ex
  have hl := HT.lt t1
  exact ⟨⟨D1, R1, D2, R2, HT.ch t1 (ch_of (S := fun _ => False) h2.bel) (fun _ h => h.elim), t2, w2.heap.size, U.heap.size, Nat.le_trans hb.size h1.bel.size, Nat.le_refl _, fun k hk => ⟨Nat.le_trans hb.size (f1 k hk), .inl (hl k hk)⟩, h2.own, offB_lt h2.own⟩, hop0 (hop0 hb h1.bel) h2.bel⟩
theorem Two.diff (HT : TabC TabS) (h : Two TabS w v1 v2 m1 m2 A2 c2 U) (hl : m1.length + m2.length ≤ 2000) :
    Calls Try.prog 21 #[v1, v2] U fun e V => ∃ A c, e = .returned (.slice A (diffK zB m1 m2).length c) ∧ CRow V V.heap.size A (diffK zB m1 m2) ∧ Below U.heap.size U V := by
  obtain ⟨D1, R1, D2, R2, h1, h2, _⟩ := h.ex
  exact HT.diff h1 h2 hl
theorem Two.rise1 (HT : TabC TabS) (h : Two TabS w v1 v2 m1 m2 A2 c2 U) : RiseK m1 := by
  obtain ⟨D1, R1, D2, R2, h1, h2, _⟩ := h.ex
  exact HT.rise h1
theorem Two.rise2 (HT : TabC TabS) (h : Two TabS w v1 v2 m1 m2 A2 c2 U) : RiseK m2 := by
  obtain ⟨D1, R1, D2, R2, h1, h2, _⟩ := h.ex
  exact HT.rise h2
/-- t with the changes done is a table of what u has: with u again two tables. -/
theorem Two.apply (HT : TabC TabS) (h : Two TabS w v1 v2 m1 m2 A2 c2 U) (hl : m1.length + (m1.length + m2.length) ≤ 2000) {A : Option Addr} {c : Nat} (hc : CRow U U.heap.size A (diffK zB m1 m2)) :
    Calls Try.prog 23 #[v1, .slice A (diffK zB m1 m2).length c] U fun e V => ∃ v', e = .returned v' ∧ Two TabS w v' v2 m2 m2 A2 c2 V ∧ Below U.heap.size U V := by
  obtain ⟨D1, R1, D2, R2, h1, h2, lo, hi, a1, a2, a3, a4, a5⟩ := h.ex
  refine (HT.apply _ h1 (by have := diffK_len (z := zB) m1 m2; omega) hc).mono ?_
  rintro e V ⟨D', R', v', rfl, h3, d3, r3, hb⟩
  rw [apply_diff (HT.rise h1) (HT.rise h2)] at h3
  refine ⟨v', rfl, ⟨⟨D', R', D2, R2, h3, HT.ch h2 (ch_of (S := fun _ => False) hb) (fun _ h => h.elim), lo, hi, a1, Nat.le_trans a2 hb.size, fun k hk => ?_, own_below a4 hb, a5⟩, hop0 h.bel hb⟩, hb⟩
  rcases r3 k hk with h4 | h4
  · exact a3 k h4.1
  · exact ⟨Nat.le_trans h.bel.size h4, .inr (Nat.le_trans a2 h4)⟩
theorem Two.has (HT : TabC TabS) (h : Two TabS w v1 v2 m2 m2 A2 c2 U) (hn : m2.length ≤ limO) :
    Calls Try.prog 19 #[v1, .slice A2 m2.length c2] U fun e V => e = .returned (.bool true) ∧ Below U.heap.size U V := by
  obtain ⟨D1, R1, D2, R2, h1, h2, lo, hi, a1, a2, a3, a4, a5⟩ := h.ex
  refine has_any (w0 := w) HT ⟨⟨D1, R1, h1, fun k hk => (a3 k hk).1, fun a ha hr => ?_⟩, a4.mono a1, h.bel⟩ hn
  rcases (a3 _ hr).2 with h5 | h5
  · rcases a4.2 with ⟨e1, e0⟩ | ⟨g, cap, cur, e1, hg, hh, rest⟩
    · injection e1 with hA
      rw [ha] at hA
      cases hA
    · injection e1 with hA
      rw [ha] at hA
      injection hA with hA
      subst hA
      exact absurd h5 (Nat.not_lt_of_le hg)
  · exact absurd (a5 a ha) (Nat.not_lt_of_le h5)
theorem Two.copy (HT : TabC TabS) (h : Two TabS w v1 v2 m1 m2 A2 c2 U) (hl : m1.length ≤ 1000) :
    Calls Try.prog 18 #[v1] U fun e V => ∃ v', e = .returned v' ∧ (∃ D R D' R', TabS D R V v1 m1 ∧ TabS D' R' V v' m1) ∧ Below U.heap.size U V := by
  obtain ⟨D1, R1, D2, R2, h1, h2, _⟩ := h.ex
  refine (HT.copy h1 hl).mono ?_
  rintro e V ⟨D', R', v', rfl, h3, d3, r3, hb⟩
  exact ⟨v', rfl, ⟨D1, R1, D', R', HT.ch h1 (ch_of (S := fun _ => False) hb) (fun _ h => h.elim), h3⟩, hb⟩
end
end Go.Proofs.Ytmeoednndfgffaa
