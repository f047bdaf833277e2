/- Layer 17, plainly: tables by texts that rise; what changed. -/
import Derived.Test.YtmeoednndfgffaaProg
namespace Go.Proofs.Ytmeoednndfgffaa
set_option linter.unusedVariables false
set_option linter.unusedSimpArgs false
/-- A key and what is there. -/
structure KV (α : Type) where
  k : ByteArray
  v : α
/-- A change. -/
structure KC (α : Type) where
  k : ByteArray
  v : α
  g : Bool
/-- Texts, byte by byte. -/
def ltK (a b : ByteArray) : Prop := a.data.toList < b.data.toList
instance (a b : ByteArray) : Decidable (ltK a b) := inferInstanceAs (Decidable (_ < _))
theorem ltK_irrefl (a : ByteArray) : ¬ ltK a a := List.lt_irrefl _
theorem ltK_trans {a b c : ByteArray} (h : ltK a b) (h2 : ltK b c) : ltK a c := List.lt_trans h h2
theorem ext_bytes {a b : ByteArray} (h : a.data.toList = b.data.toList) : a = b := by
  obtain ⟨a⟩ := a
  obtain ⟨b⟩ := b
  congr
  exact Array.toList_inj.1 h
theorem ltK_tri (a b : ByteArray) : ltK a b ∨ a = b ∨ ltK b a := by
  unfold ltK
  by_cases h1 : a.data.toList < b.data.toList
  · exact .inl h1
  · by_cases h2 : b.data.toList < a.data.toList
    · exact .inr (.inr h2)
    · exact .inr (.inl (ext_bytes (List.le_antisymm (List.not_lt.1 h2) (List.not_lt.1 h1))))
theorem ltK_ne {a b : ByteArray} (h : ltK a b) : a ≠ b := fun e => ltK_irrefl b (e ▸ h)
theorem ltK_asymm {a b : ByteArray} (h : ltK a b) : ¬ ltK b a := fun h2 => ltK_irrefl _ (ltK_trans h h2)
section
variable {α : Type}
/-- Rising. -/
def RiseK (l : List (KV α)) : Prop := l.Pairwise fun a b => ltK a.k b.k
def getK : List (KV α) → ByteArray → Option α
  | [], _ => none
  | c :: r, k => if c.k = k then some c.v else getK r k
def setK : List (KV α) → ByteArray → α → List (KV α)
  | [], k, v => [⟨k, v⟩]
  | c :: r, k, v => if ltK c.k k then c :: setK r k v else if c.k = k then ⟨k, v⟩ :: r else ⟨k, v⟩ :: c :: r
def dropK (l : List (KV α)) (k : ByteArray) : List (KV α) := l.filter fun c => decide (c.k ≠ k)
theorem getK_none {l : List (KV α)} {k : ByteArray} (h : ∀ c ∈ l, c.k ≠ k) : getK l k = none := by
  induction l with
  | nil => rfl
  | cons c r ih =>
    simp only [getK]
    rw [if_neg (h c (by simp))]
    exact ih fun d hd => h d (by simp [hd])
theorem getK_mem {l : List (KV α)} {k : ByteArray} {v : α} (h : getK l k = some v) : ⟨k, v⟩ ∈ l := by
  induction l with
  | nil => cases h
  | cons c r ih =>
    simp only [getK] at h
    split at h
    · rename_i e
      injection h with h
      subst e h
      simp
    · exact List.mem_cons_of_mem _ (ih h)
theorem getK_of {l : List (KV α)} (hr : RiseK l) {c : KV α} (h : c ∈ l) : getK l c.k = some c.v := by
  induction l with
  | nil => cases h
  | cons d r ih =>
    obtain ⟨h1, h2⟩ := List.pairwise_cons.1 hr
    simp only [getK]
    rcases List.mem_cons.1 h with rfl | h
    · rw [if_pos rfl]
    · rw [if_neg (ltK_ne (h1 c h))]
      exact ih h2 h
/-- Two that rise and have the same are the same. -/
theorem rise_ext : ∀ {l m : List (KV α)}, RiseK l → RiseK m → (∀ k, getK l k = getK m k) → l = m
  | [], [], _, _, _ => rfl
  | [], d :: m, _, _, h => by
    have := h d.k
    simp only [getK, if_pos] at this
    cases this
  | c :: l, [], _, _, h => by
    have := h c.k
    simp only [getK, if_pos] at this
    cases this
  | c :: l, d :: m, hl, hm, h => by
    obtain ⟨h1, h2⟩ := List.pairwise_cons.1 hl
    obtain ⟨k1, k2⟩ := List.pairwise_cons.1 hm
    have hc := h c.k
    have hd := h d.k
    simp only [getK, if_pos] at hc hd
    have e : c.k = d.k := by
      rcases ltK_tri c.k d.k with e | e | e
      · rw [if_neg (fun x => ltK_ne e x.symm), getK_none (fun x hx => fun y => ltK_asymm (k1 x hx) (y ▸ e))] at hc
        cases hc
      · exact e
      · rw [if_neg (fun x => ltK_ne e x.symm), getK_none (fun x hx => fun y => ltK_asymm (h1 x hx) (y ▸ e))] at hd
        cases hd
    rw [if_pos e.symm] at hc
    injection hc with hv
    have hcd : c = d := by
      obtain ⟨ck, cv⟩ := c
      obtain ⟨dk, dv⟩ := d
      simp only at e hv
      rw [e, hv]
    subst hcd
    congr 1
    refine rise_ext h2 k2 fun k => ?_
    have hk := h k
    simp only [getK] at hk
    by_cases hck : c.k = k
    · rw [getK_none (fun x hx => fun y => ltK_ne (h1 x hx) (hck.trans y.symm)), getK_none (fun x hx => fun y => ltK_ne (k1 x hx) (hck.trans y.symm))]
    · rwa [if_neg hck, if_neg hck] at hk
theorem setK_mem {l : List (KV α)} {k : ByteArray} {v : α} {c : KV α} (h : c ∈ setK l k v) : c = ⟨k, v⟩ ∨ c ∈ l := by
  induction l with
  | nil => simp only [setK, List.mem_singleton] at h; exact .inl h
  | cons d r ih =>
    simp only [setK] at h
    split at h
    · rcases List.mem_cons.1 h with rfl | h
      · exact .inr (by simp)
      · rcases ih h with h | h
        · exact .inl h
        · exact .inr (by simp [h])
    · split at h
      · rcases List.mem_cons.1 h with h | h
        · exact .inl h
        · exact .inr (by simp [h])
      · rcases List.mem_cons.1 h with h | h
        · exact .inl h
        · exact .inr h
theorem setK_rise {l : List (KV α)} (hr : RiseK l) (k : ByteArray) (v : α) : RiseK (setK l k v) := by
  induction l with
  | nil => exact List.pairwise_singleton _ _
  | cons d r ih =>
    obtain ⟨h1, h2⟩ := List.pairwise_cons.1 hr
    simp only [setK]
    split
    · rename_i hd
      refine List.pairwise_cons.2 ⟨fun c hc => ?_, ih h2⟩
      rcases setK_mem hc with rfl | hc
      · exact hd
      · exact h1 c hc
    · rename_i hd
      split
      · rename_i e
        exact List.pairwise_cons.2 ⟨fun c hc => e ▸ h1 c hc, h2⟩
      · rename_i e
        have hk : ltK k d.k := by
          rcases ltK_tri d.k k with h | h | h
          · exact absurd h hd
          · exact absurd h e
          · exact h
        refine List.pairwise_cons.2 ⟨fun c hc => ?_, hr⟩
        rcases List.mem_cons.1 hc with rfl | hc
        · exact hk
        · exact ltK_trans hk (h1 c hc)
theorem getK_set {l : List (KV α)} (hr : RiseK l) (k : ByteArray) (v : α) (k2 : ByteArray) : getK (setK l k v) k2 = if k = k2 then some v else getK l k2 := by
  induction l with
  | nil => simp only [setK, getK]
  | cons d r ih =>
    obtain ⟨h1, h2⟩ := List.pairwise_cons.1 hr
    simp only [setK]
    split
    · rename_i hd
      simp only [getK]
      by_cases hk : d.k = k2
      · rw [if_pos hk, if_pos hk, if_neg (fun e => ltK_ne hd (hk.trans e.symm))]
      · rw [if_neg hk, if_neg hk, ih h2]
    · split
      · rename_i e
        simp only [getK]
        by_cases hk : k = k2
        · rw [if_pos hk, if_pos hk]
        · rw [if_neg hk, if_neg hk, if_neg (fun x => hk (e.symm.trans x))]
      · simp only [getK]
theorem dropK_rise {l : List (KV α)} (hr : RiseK l) (k : ByteArray) : RiseK (dropK l k) := hr.sublist List.filter_sublist
theorem getK_drop (l : List (KV α)) (k k2 : ByteArray) : getK (dropK l k) k2 = if k = k2 then none else getK l k2 := by
  induction l with
  | nil => simp [dropK, getK]
  | cons d r ih =>
    unfold dropK at ih ⊢
    by_cases hd : d.k = k
    · rw [List.filter_cons_of_neg (by simp [hd]), ih]
      simp only [getK]
      by_cases hk : k = k2
      · rw [if_pos hk, if_pos hk]
      · rw [if_neg hk, if_neg hk, if_neg (fun e => hk (hd.symm.trans e))]
    · rw [List.filter_cons_of_pos (by simp [hd])]
      simp only [getK]
      by_cases hk : d.k = k2
      · rw [if_pos hk, if_pos hk, if_neg (fun e => hd (hk.trans e.symm))]
      · rw [if_neg hk, if_neg hk, ih]
def doK (l : List (KV α)) (c : KC α) : List (KV α) := if c.g = true then dropK l c.k else setK l c.k c.v
def applyK (l : List (KV α)) (cs : List (KC α)) : List (KV α) := cs.foldl doK l
theorem doK_rise {l : List (KV α)} (hr : RiseK l) (c : KC α) : RiseK (doK l c) := by
  unfold doK; split
  · exact dropK_rise hr _
  · exact setK_rise hr _ _
theorem applyK_rise {l : List (KV α)} (hr : RiseK l) (cs : List (KC α)) : RiseK (applyK l cs) := by
  induction cs generalizing l with
  | nil => exact hr
  | cons c r ih => exact ih (doK_rise hr c)
theorem getK_do {l : List (KV α)} (hr : RiseK l) (c : KC α) (k : ByteArray) : getK (doK l c) k = if c.k = k then (if c.g = true then none else some c.v) else getK l k := by
  unfold doK
  split
  · rename_i h
    rw [getK_drop]
  · rw [getK_set hr]
/-- The last change of a key counts. -/
def lastK : List (KC α) → ByteArray → Option (Option α)
  | [], _ => none
  | c :: r, k => match lastK r k with
    | some o => some o
    | none => if c.k = k then some (if c.g = true then none else some c.v) else none
theorem getK_apply {l : List (KV α)} (hr : RiseK l) (cs : List (KC α)) (k : ByteArray) : getK (applyK l cs) k = (lastK cs k).getD (getK l k) := by
  induction cs generalizing l with
  | nil => rfl
  | cons c r ih =>
    show getK (applyK (doK l c) r) k = _
    rw [ih (doK_rise hr c), getK_do hr]
    simp only [lastK]
    cases lastK r k with
    | some o => rfl
    | none =>
      simp only [Option.getD_none]
      split <;> rfl
theorem lastK_none {cs : List (KC α)} {k : ByteArray} (h : ∀ c ∈ cs, c.k ≠ k) : lastK cs k = none := by
  induction cs with
  | nil => rfl
  | cons c r ih =>
    simp only [lastK]
    rw [ih fun d hd => h d (by simp [hd]), if_neg (h c (by simp))]
variable [DecidableEq α]
/-- Key by key of both, rising. -/
def diffK (z : α) : List (KV α) → List (KV α) → List (KC α)
  | [], [] => []
  | a :: l, [] => ⟨a.k, z, true⟩ :: diffK z l []
  | [], b :: m => ⟨b.k, b.v, false⟩ :: diffK z [] m
  | a :: l, b :: m =>
    if ltK a.k b.k then ⟨a.k, z, true⟩ :: diffK z l (b :: m)
    else if ltK b.k a.k then ⟨b.k, b.v, false⟩ :: diffK z (a :: l) m
    else if a.v ≠ b.v then ⟨b.k, b.v, false⟩ :: diffK z l m else diffK z l m
  termination_by l m => l.length + m.length
theorem diffK_keys {z : α} {k : ByteArray} : ∀ (l m : List (KV α)), (∀ c ∈ l, ltK k c.k) → (∀ c ∈ m, ltK k c.k) → ∀ c ∈ diffK z l m, ltK k c.k
  | [], [], _, _, c, hc => by simp [diffK] at hc
  | a :: l, [], h1, h2, c, hc => by
    rw [diffK] at hc
    rcases List.mem_cons.1 hc with rfl | hc
    · exact h1 a (by simp)
    · exact diffK_keys l [] (fun c hc => h1 c (by simp [hc])) h2 c hc
  | [], b :: m, h1, h2, c, hc => by
    rw [diffK] at hc
    rcases List.mem_cons.1 hc with rfl | hc
    · exact h2 b (by simp)
    · exact diffK_keys [] m h1 (fun c hc => h2 c (by simp [hc])) c hc
  | a :: l, b :: m, h1, h2, c, hc => by
    rw [diffK] at hc
    split at hc
    · rcases List.mem_cons.1 hc with rfl | hc
      · exact h1 a (by simp)
      · exact diffK_keys l (b :: m) (fun c hc => h1 c (by simp [hc])) h2 c hc
    · split at hc
      · rcases List.mem_cons.1 hc with rfl | hc
        · exact h2 b (by simp)
        · exact diffK_keys (a :: l) m h1 (fun c hc => h2 c (by simp [hc])) c hc
      · split at hc
        · rcases List.mem_cons.1 hc with rfl | hc
          · exact h2 b (by simp)
          · exact diffK_keys l m (fun c hc => h1 c (by simp [hc])) (fun c hc => h2 c (by simp [hc])) c hc
        · exact diffK_keys l m (fun c hc => h1 c (by simp [hc])) (fun c hc => h2 c (by simp [hc])) c hc
  termination_by l m => l.length + m.length
/-- What a diff says of a key. -/
theorem lastK_diff {z : α} : ∀ (l m : List (KV α)), RiseK l → RiseK m → ∀ k, (lastK (diffK z l m) k).getD (getK l k) = getK m k
  | [], [], _, _, k => by simp [diffK, lastK, getK]
  | a :: l, [], hl, hm, k => by
    obtain ⟨h1, h2⟩ := List.pairwise_cons.1 hl
    rw [diffK]
    have ih := lastK_diff (z := z) l [] h2 hm k
    simp only [lastK]
    by_cases hk : a.k = k
    · rw [lastK_none (fun c hc => fun e => ltK_ne (diffK_keys (k := a.k) l [] (fun c hc => h1 c hc) (by simp) c hc) (hk.trans e.symm)), if_pos hk]
      simp [getK]
    · cases hlk : lastK (diffK z l []) k with
      | some o => rw [hlk] at ih; exact ih
      | none =>
        rw [hlk] at ih
        rw [if_neg hk]
        simp only [Option.getD_none, getK, if_neg hk] at ih ⊢
        exact ih
  | [], b :: m, hl, hm, k => by
    obtain ⟨h1, h2⟩ := List.pairwise_cons.1 hm
    rw [diffK]
    have ih := lastK_diff (z := z) [] m hl h2 k
    simp only [lastK]
    by_cases hk : b.k = k
    · rw [lastK_none (fun c hc => fun e => ltK_ne (diffK_keys (k := b.k) [] m (by simp) (fun c hc => h1 c hc) c hc) (hk.trans e.symm)), if_pos hk]
      simp [getK, hk]
    · cases hlk : lastK (diffK z [] m) k with
      | some o =>
        rw [hlk] at ih
        simp only [Option.getD_some, getK, if_neg hk] at ih ⊢
        exact ih
      | none =>
        rw [hlk] at ih
        rw [if_neg hk]
        simp only [Option.getD_none, getK, if_neg hk] at ih ⊢
        exact ih
  | a :: l, b :: m, hl, hm, k => by
    obtain ⟨h1, h2⟩ := List.pairwise_cons.1 hl
    obtain ⟨k1, k2⟩ := List.pairwise_cons.1 hm
    rw [diffK]
    split
    · rename_i hab
      have ih := lastK_diff (z := z) l (b :: m) h2 hm k
      have hbm : ∀ c ∈ b :: m, ltK a.k c.k := fun c hc => by
        rcases List.mem_cons.1 hc with rfl | hc
        · exact hab
        · exact ltK_trans hab (k1 c hc)
      simp only [lastK]
      by_cases hk : a.k = k
      · rw [lastK_none (fun c hc => fun e => ltK_ne (diffK_keys (k := a.k) l (b :: m) h1 hbm c hc) (hk.trans e.symm)), if_pos hk]
        rw [getK_none (fun c hc => fun e => ltK_ne (hbm c hc) (hk.trans e.symm))]
        simp
      · cases hlk : lastK (diffK z l (b :: m)) k with
        | some o => rw [hlk] at ih; exact ih
        | none =>
          rw [hlk] at ih
          rw [if_neg hk]
          simp only [Option.getD_none] at ih ⊢
          rw [← ih]
          simp only [getK, if_neg hk]
    · rename_i hab
      split
      · rename_i hba
        have ih := lastK_diff (z := z) (a :: l) m hl k2 k
        have hal : ∀ c ∈ a :: l, ltK b.k c.k := fun c hc => by
          rcases List.mem_cons.1 hc with rfl | hc
          · exact hba
          · exact ltK_trans hba (h1 c hc)
        simp only [lastK]
        by_cases hk : b.k = k
        · rw [lastK_none (fun c hc => fun e => ltK_ne (diffK_keys (k := b.k) (a :: l) m hal k1 c hc) (hk.trans e.symm)), if_pos hk]
          simp [getK, hk]
        · have e2 : getK (b :: m) k = getK m k := by simp only [getK, if_neg hk]
          rw [e2]
          cases hlk : lastK (diffK z (a :: l) m) k with
          | some o => rw [hlk] at ih; exact ih
          | none =>
            rw [hlk] at ih
            rw [if_neg hk]
            exact ih
      · rename_i hba
        have e : a.k = b.k := by
          rcases ltK_tri a.k b.k with e | e | e
          · exact absurd e hab
          · exact e
          · exact absurd e hba
        have ih := lastK_diff (z := z) l m h2 k2 k
        have hkeys : ∀ c ∈ diffK z l m, ltK b.k c.k := diffK_keys l m (fun c hc => e ▸ h1 c hc) k1
        split
        · simp only [lastK]
          by_cases hk : b.k = k
          · rw [lastK_none (fun c hc => fun e => ltK_ne (hkeys c hc) (hk.trans e.symm)), if_pos hk]
            simp [getK, hk]
          · have e2 : getK (b :: m) k = getK m k := by simp only [getK, if_neg hk]
            have e3 : getK (a :: l) k = getK l k := by simp only [getK, if_neg (show ¬ a.k = k from fun x => hk (e.symm.trans x))]
            rw [e2, e3]
            cases hlk : lastK (diffK z l m) k with
            | some o => rw [hlk] at ih; exact ih
            | none =>
              rw [hlk] at ih
              rw [if_neg hk]
              exact ih
        · rename_i hv
          by_cases hk : b.k = k
          · rw [lastK_none (fun c hc => fun e => ltK_ne (hkeys c hc) (hk.trans e.symm))]
            have : a.v = b.v := by simpa using hv
            simp [getK, hk, e.trans hk, this]
          · have e2 : getK (b :: m) k = getK m k := by simp only [getK, if_neg hk]
            have e3 : getK (a :: l) k = getK l k := by simp only [getK, if_neg (show ¬ a.k = k from fun x => hk (e.symm.trans x))]
            rw [e2, e3]
            exact ih
  termination_by l m => l.length + m.length
/-- By what changed one becomes the other. -/
theorem apply_diff {z : α} {l m : List (KV α)} (hl : RiseK l) (hm : RiseK m) : applyK l (diffK z l m) = m :=
  rise_ext (applyK_rise hl _) hm fun k => by rw [getK_apply hl, lastK_diff l m hl hm k]
theorem diff_self {z : α} : ∀ (l : List (KV α)), diffK z l l = []
  | [] => by rw [diffK]
  | a :: l => by
    rw [diffK, if_neg (ltK_irrefl _), if_neg (ltK_irrefl _), if_neg (by simp)]
    exact diff_self l
theorem diff_rise {z : α} : ∀ (l m : List (KV α)), RiseK l → RiseK m → (diffK z l m).Pairwise fun a b => ltK a.k b.k
  | [], [], _, _ => by rw [diffK]; exact .nil
  | a :: l, [], hl, hm => by
    obtain ⟨h1, h2⟩ := List.pairwise_cons.1 hl
    rw [diffK]
    exact List.pairwise_cons.2 ⟨diffK_keys l [] h1 (by simp), diff_rise l [] h2 hm⟩
  | [], b :: m, hl, hm => by
    obtain ⟨h1, h2⟩ := List.pairwise_cons.1 hm
    rw [diffK]
    exact List.pairwise_cons.2 ⟨diffK_keys [] m (by simp) h1, diff_rise [] m hl h2⟩
  | a :: l, b :: m, hl, hm => by
    obtain ⟨h1, h2⟩ := List.pairwise_cons.1 hl
    obtain ⟨k1, k2⟩ := List.pairwise_cons.1 hm
    rw [diffK]
    split
    · rename_i hab
      refine List.pairwise_cons.2 ⟨diffK_keys l (b :: m) h1 (fun c hc => ?_), diff_rise l (b :: m) h2 hm⟩
      rcases List.mem_cons.1 hc with rfl | hc
      · exact hab
      · exact ltK_trans hab (k1 c hc)
    · rename_i hab
      split
      · rename_i hba
        refine List.pairwise_cons.2 ⟨diffK_keys (a :: l) m (fun c hc => ?_) k1, diff_rise (a :: l) m hl k2⟩
        rcases List.mem_cons.1 hc with rfl | hc
        · exact hba
        · exact ltK_trans hba (h1 c hc)
      · rename_i hba
        have e : a.k = b.k := by
          rcases ltK_tri a.k b.k with e | e | e
          · exact absurd e hab
          · exact e
          · exact absurd e hba
        split
        · exact List.pairwise_cons.2 ⟨diffK_keys l m (fun c hc => e ▸ h1 c hc) k1, diff_rise l m h2 k2⟩
        · exact diff_rise l m h2 k2
  termination_by l m => l.length + m.length
end
end Go.Proofs.Ytmeoednndfgffaa
