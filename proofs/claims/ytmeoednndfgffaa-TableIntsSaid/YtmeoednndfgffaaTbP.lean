/- Layer 17, plainly: what a tree of keys holds, part by part. -/
import Derived.Test.YtmeoednndfgffaaTaP2
namespace Go.Proofs.Ytmeoednndfgffaa
set_option linter.unusedVariables false
set_option linter.unusedSimpArgs false
section
variable {α : Type} {l r : List (KV α)} {c : KV α} {k : ByteArray} {v : α}
theorem rise_parts (h : RiseK (l ++ c :: r)) : RiseK l ∧ RiseK r ∧ (∀ d ∈ l, ltK d.k c.k) ∧ (∀ d ∈ r, ltK c.k d.k) := by
  obtain ⟨h1, h2, h3⟩ := List.pairwise_append.1 h
  obtain ⟨h4, h5⟩ := List.pairwise_cons.1 h2
  exact ⟨h1, h5, fun d hd => h3 d hd c (by simp), h4⟩
theorem setK_before (h : RiseK (l ++ c :: r)) (hk : ltK k c.k) : setK (l ++ c :: r) k v = setK l k v ++ c :: r := by
  induction l with
  | nil =>
    show setK (c :: r) k v = [⟨k, v⟩] ++ c :: r
    have hne : ¬ c.k = k := fun e => ltK_ne hk e.symm
    simp only [setK, if_neg (ltK_asymm hk), if_neg hne]
    rfl
  | cons d t ih =>
    obtain ⟨h1, h2⟩ := List.pairwise_cons.1 h
    simp only [List.cons_append, setK]
    split
    · rw [ih h2, List.cons_append]
    · split <;> rfl
theorem setK_behind (h : RiseK (l ++ c :: r)) (hk : ltK c.k k) : setK (l ++ c :: r) k v = l ++ c :: setK r k v := by
  induction l with
  | nil =>
    show setK (c :: r) k v = c :: setK r k v
    simp only [setK, if_pos hk]
  | cons d t ih =>
    obtain ⟨h1, h2⟩ := List.pairwise_cons.1 h
    have hd : ltK d.k k := ltK_trans (h1 c (by simp)) hk
    simp only [List.cons_append, setK, if_pos hd]
    rw [ih h2]
theorem setK_here (h : RiseK (l ++ c :: r)) : setK (l ++ c :: r) c.k v = l ++ ⟨c.k, v⟩ :: r := by
  induction l with
  | nil =>
    show setK (c :: r) c.k v = ⟨c.k, v⟩ :: r
    simp only [setK, if_neg (ltK_irrefl _), if_pos]
  | cons d t ih =>
    obtain ⟨h1, h2⟩ := List.pairwise_cons.1 h
    have hd : ltK d.k c.k := h1 c (by simp)
    simp only [List.cons_append, setK, if_pos hd]
    rw [ih h2]
theorem getK_before (h : RiseK (l ++ c :: r)) (hk : ltK k c.k) : getK (l ++ c :: r) k = getK l k := by
  induction l with
  | nil =>
    refine getK_none fun d hd e => ?_
    rcases List.mem_cons.1 hd with rfl | hd
    · exact ltK_ne hk e.symm
    · exact ltK_asymm ((rise_parts (l := []) h).2.2.2 d hd) (e ▸ hk)
  | cons d t ih =>
    obtain ⟨h1, h2⟩ := List.pairwise_cons.1 h
    simp only [List.cons_append, getK]
    rw [ih h2]
theorem getK_behind (h : RiseK (l ++ c :: r)) (hk : ltK c.k k) : getK (l ++ c :: r) k = getK r k := by
  induction l with
  | nil =>
    show getK (c :: r) k = getK r k
    simp only [getK, if_neg (ltK_ne hk)]
  | cons d t ih =>
    obtain ⟨h1, h2⟩ := List.pairwise_cons.1 h
    have hd : ltK d.k k := ltK_trans (h1 c (by simp)) hk
    simp only [List.cons_append, getK, if_neg (ltK_ne hd)]
    exact ih h2
theorem getK_here (h : RiseK (l ++ c :: r)) : getK (l ++ c :: r) c.k = some c.v := getK_of h (by simp)
theorem dropK_none (h : ∀ d ∈ l, d.k ≠ k) : dropK l k = l := by
  unfold dropK
  rw [List.filter_eq_self]
  intro d hd
  simp [h d hd]
theorem dropK_before (h : RiseK (l ++ c :: r)) (hk : ltK k c.k) : dropK (l ++ c :: r) k = dropK l k ++ c :: r := by
  have hp := rise_parts h
  have h2 : dropK (c :: r) k = c :: r := dropK_none fun d hd e => by
    rcases List.mem_cons.1 hd with rfl | hd
    · exact ltK_ne hk e.symm
    · exact ltK_asymm (hp.2.2.2 d hd) (e ▸ hk)
  unfold dropK at h2 ⊢
  rw [List.filter_append, h2]
theorem dropK_behind (h : RiseK (l ++ c :: r)) (hk : ltK c.k k) : dropK (l ++ c :: r) k = l ++ c :: dropK r k := by
  have hp := rise_parts h
  have h2 : dropK l k = l := dropK_none fun d hd e => ltK_asymm (hp.2.2.1 d hd) (e ▸ hk)
  have h3 := ltK_ne hk
  unfold dropK at h2 ⊢
  rw [List.filter_append, h2, List.filter_cons_of_pos (by simp [h3])]
theorem dropK_here (h : RiseK (l ++ c :: r)) : dropK (l ++ c :: r) c.k = l ++ r := by
  have hp := rise_parts h
  have h2 : dropK l c.k = l := dropK_none fun d hd e => ltK_ne (hp.2.2.1 d hd) e
  have h3 : dropK r c.k = r := dropK_none fun d hd e => ltK_ne (hp.2.2.2 d hd) e.symm
  unfold dropK at h2 h3 ⊢
  rw [List.filter_append, h2, List.filter_cons_of_neg (by simp), h3]
theorem dropT_len (l : List (KV α)) (k : ByteArray) : (dropK l k).length ≤ l.length := List.length_filter_le _ _
theorem setK_len1 (l : List (KV α)) (k : ByteArray) (v : α) : (setK l k v).length ≤ l.length + 1 := by
  induction l with
  | nil => exact Nat.le_refl _
  | cons d t ih =>
    simp only [setK]
    split
    · simp only [List.length_cons]; omega
    · split <;> simp only [List.length_cons] <;> omega
/-- A key that is there, ahead. -/
theorem isSome_before (h : RiseK (l ++ c :: r)) (hs : (getK (l ++ c :: r) k).isSome = true) (hk : ltK k c.k) : (getK l k).isSome = true := by rwa [getK_before h hk] at hs
theorem isSome_behind (h : RiseK (l ++ c :: r)) (hs : (getK (l ++ c :: r) k).isSome = true) (hk : ltK c.k k) : (getK r k).isSome = true := by rwa [getK_behind h hk] at hs
/-- The last one goes. -/
theorem dropK_last {t : List (KV α)} {d : KV α} (h : RiseK (t ++ [d])) : dropK (t ++ [d]) d.k = t := by rw [dropK_here (r := []) h, List.append_nil]
theorem dropK_first {t : List (KV α)} {d : KV α} (h : RiseK (d :: t)) : dropK (d :: t) d.k = t := dropK_here (l := []) h
theorem fromK_before (h : RiseK (l ++ c :: r)) (hk : ¬ ltK c.k k) : fromK (l ++ c :: r) k = fromK l k ++ c :: r := by
  have hp := rise_parts h
  have h2 : fromK r k = r := by
    unfold fromK
    rw [List.filter_eq_self]
    intro d hd
    have : ¬ ltK d.k k := fun e => hk (ltK_trans (hp.2.2.2 d hd) e)
    simp [this]
  unfold fromK at h2 ⊢
  rw [List.filter_append, List.filter_cons_of_pos (by simp [hk]), h2]
theorem fromK_behind (h : RiseK (l ++ c :: r)) (hk : ltK c.k k) : fromK (l ++ c :: r) k = fromK r k := by
  have hp := rise_parts h
  have h2 : fromK l k = [] := by
    unfold fromK
    rw [List.filter_eq_nil_iff]
    intro d hd
    have : ltK d.k k := ltK_trans (hp.2.2.1 d hd) hk
    simp [this]
  unfold fromK at h2 ⊢
  rw [List.filter_append, h2, List.filter_cons_of_neg (by simp [hk])]
  rfl
end
end Go.Proofs.Ytmeoednndfgffaa
