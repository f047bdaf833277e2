/- Layer 15, plainly: aggregates. -/
import Derived.Test.YtihgcfokenabgaaDecVal
import Derived.Sort.Walk0
namespace Go.Proofs.Ytihgcfokenabgaa
open Go Go.Lib Go.RowKit
set_option linter.unusedVariables false
set_option linter.unusedSimpArgs false
/-- The order of values. -/
def ltV (a b : V) : Prop := a.k < b.k ∨ a.k = b.k ∧ (a.n < b.n ∨ a.n = b.n ∧ a.s.data.toList < b.s.data.toList)
theorem ltV_irrefl (a : V) : ¬ ltV a a := by
  unfold ltV
  rintro (h | ⟨_, h | ⟨_, h⟩⟩)
  · omega
  · omega
  · exact List.lt_irrefl _ h
theorem ltV_trans {a b c : V} (h1 : ltV a b) (h2 : ltV b c) : ltV a c := by
  unfold ltV at *
  rcases h1 with h1 | ⟨e1, h1 | ⟨f1, h1⟩⟩
  · rcases h2 with h2 | ⟨e2, _⟩
    · exact .inl (by omega)
    · exact .inl (by omega)
  · rcases h2 with h2 | ⟨e2, h2 | ⟨f2, h2⟩⟩
    · exact .inl (by omega)
    · exact .inr ⟨by omega, .inl (by omega)⟩
    · exact .inr ⟨by omega, .inl (by omega)⟩
  · rcases h2 with h2 | ⟨e2, h2 | ⟨f2, h2⟩⟩
    · exact .inl (by omega)
    · exact .inr ⟨by omega, .inl (by omega)⟩
    · exact .inr ⟨by omega, .inr ⟨by omega, List.lt_trans h1 h2⟩⟩
theorem bytes_tri (a b : List UInt8) : a < b ∨ a = b ∨ b < a := by
  by_cases h1 : a < b
  · exact .inl h1
  · by_cases h2 : b < a
    · exact .inr (.inr h2)
    · exact .inr (.inl (List.le_antisymm (List.not_lt.1 h2) (List.not_lt.1 h1)))
theorem ltV_tri (a b : V) : ltV a b ∨ a = b ∨ ltV b a := by
  obtain ⟨ak, an, s⟩ := a
  obtain ⟨bk, bn, t⟩ := b
  unfold ltV
  dsimp only
  rcases Int.lt_trichotomy ak bk with h | h | h
  · exact .inl (.inl h)
  · rcases Int.lt_trichotomy an bn with h2 | h2 | h2
    · exact .inl (.inr ⟨h, .inl h2⟩)
    · rcases bytes_tri s.data.toList t.data.toList with h3 | h3 | h3
      · exact .inl (.inr ⟨h, .inr ⟨h2, h3⟩⟩)
      · refine .inr (.inl ?_)
        rw [V.mk.injEq]
        exact ⟨h, h2, str_ext h3⟩
      · exact .inr (.inr (.inr ⟨h.symm, .inr ⟨h2.symm, h3⟩⟩))
    · exact .inr (.inr (.inr ⟨h.symm, .inl h2⟩))
  · exact .inr (.inr (.inl h))
theorem cmpB_lt : ∀ {a b : List UInt8}, compareBytes a b < 0 ↔ a < b
  | [], [] => by simp [compareBytes]
  | [], _ :: _ => by simp [compareBytes]
  | _ :: _, [] => by simp [compareBytes]
  | c :: a, d :: b => by
    rw [compareBytes, List.cons_lt_cons_iff]
    split
    · rename_i h; simp [h]
    · rename_i h
      split
      · rename_i h2
        have : c ≠ d := fun e => h (by rw [e] at h2 ⊢; exact absurd h2 (UInt8.lt_irrefl d))
        simp [h, this]
      · rename_i h2
        have : c = d := by
          rw [UInt8.lt_iff_toNat_lt] at h h2
          exact UInt8.toNat_inj.1 (by omega)
        rw [cmpB_lt]
        simp [h, this]
theorem cmpI_lt {a b : Int} : compareInt a b < 0 ↔ a < b := by
  unfold compareInt
  split
  · constructor <;> intro h <;> omega
  · split
    · constructor <;> intro h <;> omega
    · constructor <;> intro h <;> omega
theorem cmpV_lt {a b : V} : cmpV a b < 0 ↔ ltV a b := by
  unfold cmpV ltV
  split
  · rename_i h
    rw [cmpI_lt]
    have : a.k ≠ b.k := fun e => h (compareInt_zero.2 e)
    constructor
    · exact .inl
    · rintro (h | ⟨h, _⟩)
      · exact h
      · exact absurd h this
  · rename_i h
    have hk : a.k = b.k := compareInt_zero.1 (by simpa using h)
    split
    · rename_i h2
      rw [cmpI_lt]
      have : a.n ≠ b.n := fun e => h2 (compareInt_zero.2 e)
      constructor
      · exact fun h => .inr ⟨hk, .inl h⟩
      · rintro (h | ⟨_, h | ⟨h, _⟩⟩)
        · omega
        · exact h
        · exact absurd h this
    · rename_i h2
      have hn : a.n = b.n := compareInt_zero.1 (by simpa using h2)
      rw [cmpB_lt]
      constructor
      · exact fun h => .inr ⟨hk, .inr ⟨hn, h⟩⟩
      · rintro (h | ⟨_, h | ⟨_, h⟩⟩)
        · omega
        · omega
        · exact h
theorem cmpV_gt {a b : V} : 0 < cmpV a b ↔ ltV b a := by
  constructor
  · intro h
    rcases ltV_tri a b with h1 | h1 | h1
    · have := cmpV_lt.2 h1; omega
    · have := cmpV_zero.2 h1; omega
    · exact h1
  · intro h
    have h1 : ¬ cmpV a b < 0 := fun h2 => ltV_irrefl _ (ltV_trans h (cmpV_lt.1 h2))
    have h2 : cmpV a b ≠ 0 := fun h3 => by rw [cmpV_zero.1 h3] at h; exact ltV_irrefl _ h
    omega
/-- What is kept: how many, their sum, the best one. -/
structure Ac where
  n : Int
  x : Int
  b : V
def nulA : V := ⟨0, 0, ⟨#[]⟩⟩
def intA (n : Int) : V := ⟨1, n, ⟨#[]⟩⟩
def zeroA : Ac := ⟨0, 0, nulA⟩
def okA (kind : Int) : Bool := decide (1 ≤ kind) && decide (kind ≤ 5)
/-- Is v better than b? -/
def btr (kind : Int) (v b : V) : Prop := (kind = 4 ∧ ltV v b) ∨ (kind = 5 ∧ ltV b v)
def cntd (kind : Int) (v : V) : Bool := decide (kind = 1) || decide (v.k ≠ 0)
instance (a b : V) : Decidable (ltV a b) := inferInstanceAs (Decidable (_ ∨ _))
instance (kind : Int) (v b : V) : Decidable (btr kind v b) := inferInstanceAs (Decidable (_ ∨ _))
/-- A counted value more. -/
def stepA (kind : Int) (a : Ac) (v : V) : Ac := ⟨IntKind.i64.wrap (a.n + 1), if kind = 3 then a.x + v.n else a.x, if (kind = 4 ∨ kind = 5) ∧ (a.n = 0 ∨ btr kind v a.b) then v else a.b⟩
def addA (kind : Int) (a : Ac) (v : V) : Ac × Int :=
  if okA kind = false then (zeroA, 150) else if chk v ≠ 0 ∨ (kind = 3 ∧ 1 < v.k) then (zeroA, 151) else if cntd kind v = false then (a, 0) else (stepA kind a v, 0)
def bothA (kind : Int) (a b : Ac) : Ac × Int :=
  if okA kind = false then (zeroA, 150) else (⟨IntKind.i64.wrap (a.n + b.n), if kind = 3 then a.x + b.x else a.x, if (kind = 4 ∨ kind = 5) ∧ b.n ≠ 0 ∧ (a.n = 0 ∨ btr kind b.b a.b) then b.b else a.b⟩, 0)
/-- Of a list of counted values, in whatever order: what is kept. -/
structure Kept (kind : Int) (l : List V) (a : Ac) : Prop where
  n : a.n = (l.length : Int)
  x : a.x = if kind = 3 then (l.map V.n).foldr (· + ·) 0 else 0
  none_ : (kind ≠ 4 ∧ kind ≠ 5) ∨ l = [] → a.b = nulA
  best : (kind = 4 ∨ kind = 5) → l ≠ [] → a.b ∈ l ∧ ∀ u ∈ l, ¬ btr kind u a.b
theorem btr_trans {kind : Int} {a b c : V} (h1 : btr kind a b) (h2 : btr kind b c) : btr kind a c := by
  unfold btr at *
  rcases h1 with ⟨k1, h1⟩ | ⟨k1, h1⟩ <;> rcases h2 with ⟨k2, h2⟩ | ⟨k2, h2⟩
  · exact .inl ⟨k1, ltV_trans h1 h2⟩
  · omega
  · omega
  · exact .inr ⟨k1, ltV_trans h2 h1⟩
theorem btr_irrefl {kind : Int} {a : V} : ¬ btr kind a a := by
  unfold btr
  rintro (⟨_, h⟩ | ⟨_, h⟩) <;> exact ltV_irrefl _ h
theorem btr_tri {kind : Int} (hk : kind = 4 ∨ kind = 5) (a b : V) : btr kind a b ∨ a = b ∨ btr kind b a := by
  unfold btr
  rcases ltV_tri a b with h | h | h
  · rcases hk with hk | hk
    · exact .inl (.inl ⟨hk, h⟩)
    · exact .inr (.inr (.inr ⟨hk, h⟩))
  · exact .inr (.inl h)
  · rcases hk with hk | hk
    · exact .inr (.inr (.inl ⟨hk, h⟩))
    · exact .inl (.inr ⟨hk, h⟩)
theorem Kept.nil (kind : Int) : Kept kind [] zeroA := ⟨rfl, by simp [zeroA], fun _ => rfl, fun _ h => absurd rfl h⟩
theorem sumZ_app (l m : List Int) : (l ++ m).foldr (· + ·) 0 = l.foldr (· + ·) 0 + m.foldr (· + ·) 0 := by
  induction l with
  | nil => simp
  | cons a l ih => simp only [List.cons_append, List.foldr_cons, ih]; omega
theorem Kept.both {kind : Int} {l m : List V} {a b : Ac} (h : Kept kind l a) (k : Kept kind m b) (hk : okA kind = true) (hs : (l.length : Int) + m.length ≤ 1000) : Kept kind (l ++ m) (bothA kind a b).1 := by
  unfold bothA
  rw [if_neg (by simp [hk])]
  have hn := h.n
  have kn := k.n
  refine ⟨?_, ?_, fun hh => ?_, fun hb hl => ?_⟩
  · dsimp only
    rw [hn, kn, IntKind.wrap_i64, List.length_append]
    omega
  · dsimp only
    rw [h.x, k.x]
    split
    · rename_i h3
      rw [List.map_append, sumZ_app]
    · rfl
  · dsimp only
    rw [if_neg]
    · rcases hh with hh | hh
      · exact h.none_ (.inl hh)
      · exact h.none_ (.inr (List.append_eq_nil_iff.1 hh).1)
    · rcases hh with hh | hh
      · rintro ⟨h1 | h1, _⟩
        · exact hh.1 h1
        · exact hh.2 h1
      · rintro ⟨_, h1, _⟩
        rw [(List.append_eq_nil_iff.1 hh).2] at kn
        exact h1 kn
  · dsimp only
    by_cases hm : m = []
    · subst hm
      have hb0 : b.n = 0 := by rw [kn]; rfl
      rw [if_neg (by simp [hb0]), List.append_nil]
      rw [List.append_nil] at hl
      exact h.best hb hl
    · have hb0 : b.n ≠ 0 := by
        rw [kn]
        have := List.length_pos_iff.2 hm
        omega
      obtain ⟨k1, k2⟩ := k.best hb hm
      by_cases hl0 : l = []
      · subst hl0
        have ha0 : a.n = 0 := by rw [hn]; rfl
        rw [if_pos ⟨hb, hb0, .inl ha0⟩, List.nil_append]
        exact ⟨k1, k2⟩
      · have ha0 : a.n ≠ 0 := by
          rw [hn]
          have := List.length_pos_iff.2 hl0
          omega
        obtain ⟨h1, h2⟩ := h.best hb hl0
        by_cases hbt : btr kind b.b a.b
        · rw [if_pos ⟨hb, hb0, .inr hbt⟩]
          refine ⟨List.mem_append.2 (.inr k1), fun u hu hc => ?_⟩
          rcases List.mem_append.1 hu with hu | hu
          · exact h2 u hu (btr_trans hc hbt)
          · exact k2 u hu hc
        · rw [if_neg (by rintro ⟨_, _, h | h⟩; exact ha0 h; exact hbt h)]
          refine ⟨List.mem_append.2 (.inl h1), fun u hu hc => ?_⟩
          rcases List.mem_append.1 hu with hu | hu
          · exact h2 u hu hc
          · rcases btr_tri hb b.b a.b with h3 | h3 | h3
            · exact hbt h3
            · rw [← h3] at hc; exact k2 u hu hc
            · exact k2 u hu (btr_trans hc h3)
theorem stepA_both (kind : Int) (a : Ac) (v : V) (hk : okA kind = true) : stepA kind a v = (bothA kind a ⟨1, if kind = 3 then v.n else 0, if kind = 4 ∨ kind = 5 then v else nulA⟩).1 := by
  unfold stepA bothA
  have h0 : ¬ okA kind = false := by simp [hk]
  simp only [if_neg h0]
  rw [Ac.mk.injEq]
  refine ⟨rfl, ?_, ?_⟩
  · split <;> rfl
  · by_cases hb : kind = 4 ∨ kind = 5
    · rw [if_pos hb]
      by_cases hc : a.n = 0 ∨ btr kind v a.b
      · rw [if_pos ⟨hb, hc⟩, if_pos ⟨hb, by decide, hc⟩]
      · rw [if_neg (fun h => hc h.2), if_neg (fun h => hc h.2.2)]
    · rw [if_neg (fun h => hb h.1), if_neg (fun h => hb h.1)]
theorem Kept.one (kind : Int) (v : V) : Kept kind [v] ⟨1, if kind = 3 then v.n else 0, if kind = 4 ∨ kind = 5 then v else nulA⟩ := by
  refine ⟨rfl, ?_, fun h => ?_, fun hb _ => ?_⟩
  · split <;> simp
  · rcases h with h | h
    · dsimp only
      rw [if_neg (fun e => e.elim h.1 h.2)]
    · cases h
  · rw [if_pos hb]
    refine ⟨by simp, fun u hu => ?_⟩
    rw [List.mem_singleton] at hu
    subst hu
    exact btr_irrefl
theorem Kept.step {kind : Int} {l : List V} {a : Ac} (h : Kept kind l a) (v : V) (hk : okA kind = true) (hs : (l.length : Int) + 1 ≤ 1000) : Kept kind (l ++ [v]) (stepA kind a v) := by
  rw [stepA_both kind a v hk]
  exact h.both (Kept.one kind v) hk (by simpa using hs)
theorem sumZ_perm {l m : List Int} (h : l.Perm m) : l.foldr (· + ·) 0 = m.foldr (· + ·) 0 := by
  induction h with
  | nil => rfl
  | cons x _ ih => simp only [List.foldr_cons, ih]
  | swap x y l => simp only [List.foldr_cons]; omega
  | trans _ _ h1 h2 => rw [h1, h2]
theorem Kept.same {kind : Int} {l m : List V} {a b : Ac} (h : Kept kind l a) (k : Kept kind m b) (hp : l.Perm m) : a = b := by
  obtain ⟨an, ax, ab⟩ := a
  obtain ⟨bn, bx, bb⟩ := b
  rw [Ac.mk.injEq]
  have hl := hp.length_eq
  refine ⟨?_, ?_, ?_⟩
  · have h1 := h.n; have h2 := k.n; dsimp only at h1 h2; omega
  · have h1 := h.x; have h2 := k.x; dsimp only at h1 h2
    rw [h1, h2]
    split
    · exact sumZ_perm (hp.map _)
    · rfl
  · by_cases hb : kind = 4 ∨ kind = 5
    · by_cases hn : l = []
      · subst hn
        have hm : m = [] := hp.nil_eq.symm
        exact (h.none_ (.inr rfl)).trans (k.none_ (.inr hm)).symm
      · have hm : m ≠ [] := fun e => hn (by subst e; exact hp.eq_nil)
        obtain ⟨h1, h2⟩ := h.best hb hn
        obtain ⟨k1, k2⟩ := k.best hb hm
        dsimp only at h1 h2 k1 k2
        rcases btr_tri hb ab bb with h3 | h3 | h3
        · exact absurd h3 (k2 ab (hp.mem_iff.1 h1))
        · exact h3
        · exact absurd h3 (h2 bb (hp.mem_iff.2 k1))
    · have hb' : kind ≠ 4 ∧ kind ≠ 5 := ⟨fun e => hb (.inl e), fun e => hb (.inr e)⟩
      exact (h.none_ (.inl hb')).trans (k.none_ (.inl hb')).symm
end Go.Proofs.Ytihgcfokenabgaa
