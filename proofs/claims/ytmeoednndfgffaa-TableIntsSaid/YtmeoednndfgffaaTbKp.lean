/- Layer 17: what changed, step by step; a list that is gone over from its head. -/
import Derived.Test.YtmeoednndfgffaaTbG
namespace Go.Proofs.Ytmeoednndfgffaa
open Go Go.ChangeShapes Go.WideShapes Go.ChangeAt Go.RowKit
set_option linter.unusedVariables false
set_option linter.unusedSimpArgs false
section
variable {α : Type} [DecidableEq α] {z : α} {ra rb : List (KV α)} {x y : KV α}
theorem df_gone (h : ltK y.k x.k) : diffK z (y :: ra) (x :: rb) = ⟨y.k, z, true⟩ :: diffK z ra (x :: rb) := by rw [diffK, if_pos h]
theorem df_new0 : diffK z [] (x :: rb) = ⟨x.k, x.v, false⟩ :: diffK z [] rb := by rw [diffK]
theorem df_new (h : ltK x.k y.k) : diffK z (y :: ra) (x :: rb) = ⟨x.k, x.v, false⟩ :: diffK z (y :: ra) rb := by rw [diffK, if_neg (ltK_asymm h), if_pos h]
theorem df_other (h : y.k = x.k) (hv : ¬ y.v = x.v) : diffK z (y :: ra) (x :: rb) = ⟨x.k, x.v, false⟩ :: diffK z ra rb := by
  have h1 : ¬ ltK y.k x.k := by rw [h]; exact ltK_irrefl _
  have h2 : ¬ ltK x.k y.k := by rw [h]; exact ltK_irrefl _
  rw [diffK, if_neg h1, if_neg h2, if_pos hv]
theorem df_same (h : y.k = x.k) (hv : y.v = x.v) : diffK z (y :: ra) (x :: rb) = diffK z ra rb := by
  have h1 : ¬ ltK y.k x.k := by rw [h]; exact ltK_irrefl _
  have h2 : ¬ ltK x.k y.k := by rw [h]; exact ltK_irrefl _
  rw [diffK, if_neg h1, if_neg h2, if_neg (by simp [hv])]
theorem df_rest : diffK z (y :: ra) [] = ⟨y.k, z, true⟩ :: diffK z ra [] := by rw [diffK]
end
section
variable {α : Type} {ty : TypeId} {enc : α → Value} {ra : List (KV α)} {A : Option Addr} {c : Nat} {U V : World} {y : KV α}
/-- What is left of a list of entries: its slice begins at A. -/
structure OldAt (ty : TypeId) (enc : α → Value) (ra : List (KV α)) (A : Option Addr) (c : Nat) (U : World) : Prop where
  cap : ra.length ≤ c ∧ c ≤ maxLen
  at_ : ra = [] ∨ ∃ g cur off, A = some ⟨g, off, none⟩ ∧ U.heap[g]? = some (.cells cur ty (0, 0)) ∧ ∀ (j : Nat) (h : j < ra.length), cur[off + j * 2]? = some (.string ra[j].k) ∧ cur[off + j * 2 + 1]? = some (enc ra[j].v)
theorem OldAt.stay (h : OldAt ty enc ra A c U) (hk : ∀ (k : Nat) (cur : Array Value), U.heap[k]? = some (.cells cur ty (0, 0)) → V.heap[k]? = some (.cells cur ty (0, 0))) : OldAt ty enc ra A c V := by
  refine ⟨h.cap, ?_⟩
  rcases h.at_ with h1 | ⟨g, cur, off, h1, h2, h3⟩
  · exact .inl h1
  · exact .inr ⟨g, cur, off, h1, hk _ _ h2, h3⟩
theorem OldAt.head (h : OldAt ty enc (y :: ra) A c U) : ∃ g off, A = some ⟨g, off, none⟩ ∧ g < U.heap.size ∧ (∃ cur, U.heap[g]? = some (.cells cur ty (0, 0))) ∧ U.cell? ⟨g, off, none⟩ = some (.string y.k) ∧ U.cell? ⟨g, off + 1, none⟩ = some (enc y.v) := by
  rcases h.at_ with h1 | ⟨g, cur, off, h1, h2, h3⟩
  · cases h1
  · obtain ⟨k0, k1⟩ := h3 0 (by simp)
    refine ⟨g, off, h1, lt_blk h2, ⟨cur, h2⟩, ?_, ?_⟩
    · simpa [World.cell?, h2] using k0
    · simpa [World.cell?, h2] using k1
theorem OldAt.get (h : OldAt ty enc ra A c U) {i : Nat} (hi : i < ra.length) : ∃ g off, A = some ⟨g, off, none⟩ ∧ g < U.heap.size ∧ U.cell? ⟨g, off + i * 2, none⟩ = some (.string ra[i].k) ∧ U.cell? ⟨g, off + i * 2 + 1, none⟩ = some (enc ra[i].v) := by
  rcases h.at_ with h1 | ⟨g, cur, off, h1, h2, h3⟩
  · subst h1; exact absurd hi (Nat.not_lt_zero _)
  · obtain ⟨k0, k1⟩ := h3 i hi
    refine ⟨g, off, h1, lt_blk h2, ?_, ?_⟩
    · simpa [World.cell?, h2] using k0
    · simpa [World.cell?, h2] using k1
theorem OldAt.tail {A' : Option Addr} {c' : Nat} (h : OldAt ty enc (y :: ra) A c U) (hc : c' + 1 = c) (hA : ∀ g off, A = some ⟨g, off, none⟩ → c ≠ 1 → A' = some ⟨g, off + 2, none⟩) : OldAt ty enc ra A' c' U := by
  have h1 := h.cap
  simp only [List.length_cons] at h1
  refine ⟨⟨by omega, by omega⟩, ?_⟩
  by_cases hra : ra = []
  · exact .inl hra
  · have hl : 0 < ra.length := List.length_pos_iff.2 hra
    rcases h.at_ with h2 | ⟨g, cur, off, h2, h3, h4⟩
    · cases h2
    · refine .inr ⟨g, cur, off + 2, hA g off h2 (by omega), h3, fun j hj => ?_⟩
      have := h4 (j + 1) (by simp only [List.length_cons]; omega)
      rw [show off + (j + 1) * 2 = off + 2 + j * 2 by omega] at this
      simpa using this
end
end Go.Proofs.Ytmeoednndfgffaa
