/- Maps of names to blocks, as lists: what stands in them, what is put, what goes. Of no package's own types. -/
import Derived.Test.YtkcnmajjfljilaaGreatDoorRows
import Derived.Maps.OwnSet
import Derived.Sort.KeysCollected
namespace Go.Proofs.YtkcnmajjfljilaaGreatDoor
open Go.ChangeMaps
set_option linter.unusedVariables false

abbrev Nm := List UInt8
/-- What is put in its place. -/
def mins (k : Nm) (b : Nat) : List (Nm × Nat) → List (Nm × Nat)
  | [] => [(k, b)]
  | y :: r => if bytesBefore k y.1 then (k, b) :: y :: r else y :: mins k b r
def mdel (l : List (Nm × Nat)) (k : Nm) : List (Nm × Nat) := l.filter fun p => !(p.1 == k)
def mset (l : List (Nm × Nat)) (k : Nm) (b : Nat) : List (Nm × Nat) := mins k b (mdel l k)
def mget (l : List (Nm × Nat)) (k : Nm) : Option Nat := (l.find? fun p => p.1 == k).map (·.2)

/-- A block as a datum. -/
def blk (b : Nat) : DataW Unit := .lit (.int .i64 (b : Int))
def ent (p : Nm × Nat) : Lit × DataW Unit := (.string p.1, blk p.2)
def ents (l : List (Nm × Nat)) : DataW Unit := .map (l.map ent)

theorem insert_ents (k : Nm) (b : Nat) (l : List (Nm × Nat)) : DataW.insert (ent (k, b)) (l.map ent) = (mins k b l).map ent := by
  induction l with
  | nil => rfl
  | cons y r ih =>
    simp only [List.map_cons, DataW.insert, mins]
    have e : (ent (k, b)).1.before (ent y).1 = bytesBefore k y.1 := rfl
    rw [e]
    by_cases h : bytesBefore k y.1 = true
    · rw [if_pos h, if_pos h]; rfl
    · rw [if_neg h, if_neg h, ih]; rfl
theorem filter_ents (k : Nm) (l : List (Nm × Nat)) : (l.map ent).filter (fun p => !p.1.sameKey (.string k)) = (mdel l k).map ent := by
  unfold mdel
  rw [List.filter_map]
  rfl
theorem put_ents (l : List (Nm × Nat)) (k : Nm) (b : Nat) : (ents l).put (.string k) (blk b) = ents (mset l k b) := by
  show DataW.map (DataW.insert (ent (k, b)) ((l.map ent).filter fun p => !p.1.sameKey (.string k))) = _
  rw [filter_ents, insert_ents]
  rfl
theorem del_ents (l : List (Nm × Nat)) (k : Nm) : (ents l).del (.string k) = ents (mdel l k) := by
  show DataW.map ((l.map ent).filter fun p => !p.1.sameKey (.string k)) = _
  rw [filter_ents]; rfl
theorem find_ents (l : List (Nm × Nat)) (k : Nm) : (l.map ent).find? (fun p => p.1.sameKey (.string k)) = (l.find? fun p => p.1 == k).map ent := by
  rw [List.find?_map]
  rfl
theorem at_ents (l : List (Nm × Nat)) (k : Nm) (z : DataW Unit) : (ents l).atKey (.string k) z = match mget l k with | some b => blk b | none => z := by
  unfold ents DataW.atKey
  simp only []
  rw [find_ents]
  unfold mget
  cases l.find? fun p => p.1 == k <;> rfl
theorem any_find {α : Type} (l : List α) (p : α → Bool) : l.any p = (l.find? p).isSome := by
  induction l with
  | nil => rfl
  | cons a r ih =>
    rw [List.any_cons, List.find?_cons, ih]
    cases p a <;> rfl
theorem has_ents (l : List (Nm × Nat)) (k : Nm) : Maps.has (ents l) (.string k) = (mget l k).isSome := by
  show (l.map ent).any (fun p => p.1.sameKey (.string k)) = _
  rw [any_find, find_ents]
  unfold mget
  cases l.find? fun p => p.1 == k <;> rfl
theorem size_ents (l : List (Nm × Nat)) : Maps.size (ents l) = l.length := by simp [ents, Maps.size]
theorem keys_ents (l : List (Nm × Nat)) : strKeys (ents l) = l.map (·.1) := by
  unfold ents strKeys
  simp [ent, strOf]
theorem mins_length (k : Nm) (b : Nat) (l : List (Nm × Nat)) : (mins k b l).length = l.length + 1 := by
  induction l with
  | nil => rfl
  | cons y r ih => unfold mins; split <;> simp [ih]
theorem mdel_length (l : List (Nm × Nat)) (k : Nm) : (mdel l k).length ≤ l.length := List.length_filter_le _ _
theorem mset_length (l : List (Nm × Nat)) (k : Nm) (b : Nat) : (mset l k b).length ≤ l.length + 1 := by
  have := mdel_length l k
  unfold mset
  rw [mins_length]; omega

/-! ### order -/
theorem before_irrefl (a : Nm) : bytesBefore a a = false := by
  induction a with
  | nil => rfl
  | cons x r ih => simp [bytesBefore, ih]
theorem before_iff (a b : Nm) : bytesBefore a b = true ↔ a < b := by
  induction a generalizing b with
  | nil => cases b <;> simp [bytesBefore]
  | cons x r ih =>
    cases b with
    | nil => simp [bytesBefore]
    | cons y s => simp [bytesBefore, List.cons_lt_cons_iff, ih]
/-- The names rise. -/
def Rising (l : List (Nm × Nat)) : Prop := l.Pairwise fun p q => p.1 < q.1
theorem Rising.mdel {l : List (Nm × Nat)} (h : Rising l) (k : Nm) : Rising (mdel l k) := h.filter _
theorem mem_mins {k : Nm} {b : Nat} {l : List (Nm × Nat)} {p : Nm × Nat} : p ∈ mins k b l ↔ p = (k, b) ∨ p ∈ l := by
  induction l with
  | nil => simp [mins]
  | cons y r ih =>
    unfold mins
    split
    · simp
    · rw [List.mem_cons, ih, List.mem_cons]; exact or_left_comm
theorem mem_mdel {k : Nm} {l : List (Nm × Nat)} {p : Nm × Nat} : p ∈ mdel l k ↔ p ∈ l ∧ p.1 ≠ k := by simp [Go.Proofs.YtkcnmajjfljilaaGreatDoor.mdel]
theorem mem_mset {k : Nm} {b : Nat} {l : List (Nm × Nat)} {p : Nm × Nat} : p ∈ mset l k b ↔ p = (k, b) ∨ (p ∈ l ∧ p.1 ≠ k) := by
  unfold mset; rw [mem_mins, mem_mdel]
theorem Rising.mins {k : Nm} {b : Nat} {l : List (Nm × Nat)} (h : Rising l) (hk : ∀ p ∈ l, p.1 ≠ k) : Rising (mins k b l) := by
  induction l with
  | nil => simp [Go.Proofs.YtkcnmajjfljilaaGreatDoor.mins, Rising]
  | cons y r ih =>
    have h1 := List.pairwise_cons.1 h
    unfold Go.Proofs.YtkcnmajjfljilaaGreatDoor.mins
    split
    · rename_i hlt
      rw [before_iff] at hlt
      refine List.pairwise_cons.2 ⟨fun q hq => ?_, h⟩
      rcases List.mem_cons.1 hq with rfl | hq
      · exact hlt
      · exact List.lt_trans hlt (h1.1 q hq)
    · rename_i hlt
      refine List.pairwise_cons.2 ⟨fun q hq => ?_, ih h1.2 (fun p hp => hk p (List.mem_cons_of_mem _ hp))⟩
      rcases mem_mins.1 hq with rfl | hq
      · rw [before_iff] at hlt
        have hne := hk y (List.mem_cons_self ..)
        exact Decidable.byContradiction fun hn => hne (List.le_antisymm (List.not_lt.1 hlt) (List.not_lt.1 hn))
      · exact h1.1 q hq
theorem Rising.mset {l : List (Nm × Nat)} (h : Rising l) (k : Nm) (b : Nat) : Rising (mset l k b) :=
  (h.mdel k).mins fun p hp => (mem_mdel.1 hp).2
theorem Rising.inj {l : List (Nm × Nat)} (h : Rising l) {p q : Nm × Nat} (hp : p ∈ l) (hq : q ∈ l) (e : p.1 = q.1) : p = q := by
  induction l with
  | nil => simp at hp
  | cons y r ih =>
    have h1 := List.pairwise_cons.1 h
    rcases List.mem_cons.1 hp with rfl | hp' <;> rcases List.mem_cons.1 hq with rfl | hq'
    · rfl
    · exact absurd e (fun e => List.lt_irrefl q.1 (by have := h1.1 q hq'; rwa [e] at this))
    · exact absurd e (fun e => List.lt_irrefl p.1 (by have := h1.1 p hp'; rwa [← e] at this))
    · exact ih h1.2 hp' hq'
theorem mget_some {l : List (Nm × Nat)} {k : Nm} {b : Nat} (h : mget l k = some b) : (k, b) ∈ l := by
  unfold mget at h
  rw [Option.map_eq_some_iff] at h
  obtain ⟨p, h1, h2⟩ := h
  have h3 := List.find?_some h1
  have h4 := List.mem_of_find?_eq_some h1
  obtain ⟨a, c⟩ := p
  have : a = k := by simpa using h3
  subst this; subst h2; exact h4
theorem mget_none {l : List (Nm × Nat)} {k : Nm} (h : mget l k = none) {p : Nm × Nat} (hp : p ∈ l) : p.1 ≠ k := by
  unfold mget at h
  rw [Option.map_eq_none_iff, List.find?_eq_none] at h
  simpa using h p hp
theorem mget_mem {l : List (Nm × Nat)} (h : Rising l) {k : Nm} {b : Nat} (hm : (k, b) ∈ l) : mget l k = some b := by
  cases hg : mget l k with
  | none => exact absurd rfl (mget_none hg hm)
  | some c => have := h.inj (mget_some hg) hm rfl; simp at this; rw [this]
theorem mget_set {l : List (Nm × Nat)} (h : Rising l) (k : Nm) (b : Nat) (k' : Nm) : mget (mset l k b) k' = if k' = k then some b else mget l k' := by
  by_cases e : k' = k
  · subst e; rw [if_pos rfl]; exact mget_mem (h.mset _ _) (mem_mset.2 (.inl rfl))
  · rw [if_neg e]
    cases hg : mget l k' with
    | some c => exact mget_mem (h.mset _ _) (mem_mset.2 (.inr ⟨mget_some hg, e⟩))
    | none =>
      cases hg' : mget (mset l k b) k' with
      | none => rfl
      | some c =>
        rcases mem_mset.1 (mget_some hg') with h1 | ⟨h1, _⟩
        · simp at h1; exact absurd h1.1 e
        · exact absurd rfl (mget_none hg h1)
theorem mget_del {l : List (Nm × Nat)} (h : Rising l) (k : Nm) (k' : Nm) : mget (mdel l k) k' = if k' = k then none else mget l k' := by
  by_cases e : k' = k
  · subst e; rw [if_pos rfl]
    cases hg' : mget (mdel l k') k' with
    | none => rfl
    | some c => exact absurd rfl (mem_mdel.1 (mget_some hg')).2
  · rw [if_neg e]
    cases hg : mget l k' with
    | some c => exact mget_mem (h.mdel _) (mem_mdel.2 ⟨mget_some hg, e⟩)
    | none =>
      cases hg' : mget (mdel l k) k' with
      | none => rfl
      | some c => exact absurd rfl (mget_none hg (mem_mdel.1 (mget_some hg')).1)
/-- The names, sorted, are the names. -/
theorem sort_keys {l : List (Nm × Nat)} (h : Rising l) {ss : List Nm} (hp : ss.Perm (l.map (·.1))) : ss.mergeSort leB = l.map (·.1) := by
  rw [mergeSort_of_perm hp]
  refine List.mergeSort_of_pairwise ?_
  rw [List.pairwise_map]
  exact h.imp fun {p q} hpq => by simp only [leB, decide_eq_true_eq]; exact List.le_of_lt hpq
end Go.Proofs.YtkcnmajjfljilaaGreatDoor
