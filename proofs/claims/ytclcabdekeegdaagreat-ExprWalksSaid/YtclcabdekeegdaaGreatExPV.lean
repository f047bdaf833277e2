/- Several texts in one: ExV, ExG, ExT. -/
import Derived.Test.YtclcabdekeegdaaGreatExP
import Derived.Test.YtclcabdekeegdaaGreatDecP2
import Derived.Test.YtclcabdekeegdaaGreatNumPlain
/- Layer 13, plainly: what expressions are worth. -/
namespace Go.Proofs.YtclcabdekeegdaaGreat
open Go.RowKit
set_option linter.unusedVariables false

instance : DecidableEq V := fun a b => decidable_of_iff (a.k = b.k ∧ a.n = b.n ∧ a.s.data.toList = b.s.data.toList)
  ⟨fun h => by
    obtain ⟨k, n, s⟩ := a
    obtain ⟨k2, n2, s2⟩ := b
    obtain ⟨h1, h2, h3⟩ := h
    simp only at h1 h2 h3
    rw [h1, h2, str_ext h3], fun h => by rw [h]; exact ⟨rfl, rfl, rfl⟩⟩
def nulV : V := ⟨0, 0, ⟨#[]⟩⟩
def intW (n : Int) : V := ⟨1, n, ⟨#[]⟩⟩
def boolW (b : Bool) : V := ⟨2, if b then 1 else 0, ⟨#[]⟩⟩
def reckonX (op : Int) (a b : V) : V × Int :=
  if a.k = 0 ∨ b.k = 0 then (nulV, 0) else if doE op a.n b.n ≠ 0 then (nulV, doE op a.n b.n) else (intW (doN op a.n b.n), 0)
/-- Two parts, both there. -/
def bothX (op : Int) (a b : V) : V × Int :=
  if op ≤ 8 then reckonX op a b
  else if (op = 14 ∧ b = boolW false) ∨ (op = 15 ∧ b = boolW true) then (b, 0)
  else if a.k = 0 ∨ b.k = 0 then (nulV, 0)
  else if op = 10 then (boolW (decide (cmpV a b = 0)), 0)
  else if op = 11 then (boolW (decide (cmpV a b ≠ 0)), 0)
  else if op = 12 then (boolW (decide (cmpV a b < 0)), 0)
  else if op = 13 then (boolW (decide (cmpV a b ≤ 0)), 0)
  else if op = 14 then (boolW true, 0)
  else (boolW false, 0)
/-- What an Op from 4 on makes of its parts' worths. -/
def evOp (o : Int) (x y z : V × Int) : V × Int :=
  if x.2 ≠ 0 then (nulV, x.2)
  else if o = 9 then reckonX 5 (intW 0) x.1
  else if o = 16 then (if x.1.k = 0 then (x.1, 0) else (boolW (decide (x.1.n = 0)), 0))
  else if o = 17 then (boolW (decide (x.1.k = 0)), 0)
  else if o = 20 then (if x.1.k = 0 then (x.1, 0) else (intW x.1.s.size, 0))
  else if (o = 14 ∧ x.1 = boolW false) ∨ (o = 15 ∧ x.1 = boolW true) ∨ (o = 19 ∧ x.1.k ≠ 0) then (x.1, 0)
  else if o = 18 then (if x.1 = boolW true then y else z)
  else if o = 19 then y
  else if y.2 ≠ 0 then (nulV, y.2)
  else bothX o x.1 y.1
mutual
/-- The worth, where the expression is well formed and of a kind, the row right. -/
def evalX (cs : List C) (row : List V) : X → V × Int
  | .mk o n v ks =>
    if o = 1 then (row.getD (findI n cs) nulV, 0)
    else if o = 2 then (v, 0)
    else if o = 3 then (nulV, 0)
    else evOp o ((evalL cs row ks).getD 0 (nulV, 0)) ((evalL cs row ks).getD 1 (nulV, 0)) ((evalL cs row ks).getD 2 (nulV, 0))
def evalL (cs : List C) (row : List V) : List X → List (V × Int)
  | [] => []
  | k :: ks => evalX cs row k :: evalL cs row ks
end
section
variable {cs : List C} {row : List V} {o : Int} {n : ByteArray} {v : V}
theorem eval1 (ho : 4 ≤ o) (x : X) : evalX cs row (.mk o n v [x]) = evOp o (evalX cs row x) (nulV, 0) (nulV, 0) := by
  simp only [evalX, evalL]
  rw [if_neg (by omega), if_neg (by omega), if_neg (by omega)]
  rfl
theorem eval2 (ho : 4 ≤ o) (x y : X) : evalX cs row (.mk o n v [x, y]) = evOp o (evalX cs row x) (evalX cs row y) (nulV, 0) := by
  simp only [evalX, evalL]
  rw [if_neg (by omega), if_neg (by omega), if_neg (by omega)]
  rfl
theorem eval3 (ho : 4 ≤ o) (x y z : X) : evalX cs row (.mk o n v [x, y, z]) = evOp o (evalX cs row x) (evalX cs row y) (evalX cs row z) := by
  simp only [evalX, evalL]
  rw [if_neg (by omega), if_neg (by omega), if_neg (by omega)]
  rfl
end
/-- A row's values: right, and null or of their column's kind. -/
def fitsR (cs : List C) (row : List V) : Bool := decide (row.length = cs.length) && fitsL cs row
def worthX (e : X) (cs : List C) (row : List V) : V × Int :=
  if (kindE e cs).2 ≠ 0 then (nulV, (kindE e cs).2) else if fitsR cs row = false then (nulV, 122) else evalX cs row e

/-- A worth: null or of its kind, right; an error: a number's, and null beside it. -/
def GoodW (k : Int) (r : V × Int) : Prop := (r.2 = 0 ∧ chk r.1 = 0 ∧ (r.1 = nulV ∨ r.1.k = k)) ∨ ((r.2 = 10 ∨ r.2 = 11) ∧ r.1 = nulV)
theorem chk_nul : chk nulV = 0 := by decide
theorem chk_int (n : Int) : chk (intW n) = 0 := by
  unfold chk intW
  simp only []
  rw [if_neg (by omega), if_neg (by omega), if_neg (by simp [show (⟨#[]⟩ : ByteArray).size = 0 from rfl])]
theorem chk_bool (b : Bool) : chk (boolW b) = 0 := by cases b <;> decide
theorem chk_zero_kind {v : V} (h : chk v = 0) (hk : v.k = 0) : v = nulV := by
  obtain ⟨k, n, s⟩ := v
  rcases chk_kinds h with ⟨h1, h2, h3⟩ | ⟨h1, _⟩ | ⟨h1, _⟩ | ⟨h1, _⟩
  · simp only at h1 h2 h3
    rw [h1, h2, empty_of_size h3]; rfl
  all_goals (simp only at h1 hk; omega)
theorem doE_two (op a b : Int) (h4 : 4 ≤ op) (h8 : op ≤ 8) : doE op a b = 0 ∨ doE op a b = 10 ∨ doE op a b = 11 := by
  have hw : ∀ x, wholeE x = 0 ∨ wholeE x = 10 := by intro x; unfold wholeE; split <;> simp
  unfold doE
  split
  · rcases hw (a + b) with h | h <;> simp [h]
  · split
    · rcases hw (a - b) with h | h <;> simp [h]
    · split
      · rcases hw (a * b) with h | h <;> simp [h]
      · split
        · split
          · simp
          · rcases hw (a.tdiv b) with h | h <;> simp [h]
        · split
          · split <;> simp
          · omega
theorem reckon_good {op : Int} (h4 : 4 ≤ op) (h8 : op ≤ 8) (a b : V) : GoodW 1 (reckonX op a b) := by
  unfold reckonX
  split
  · exact .inl ⟨rfl, chk_nul, .inl rfl⟩
  · split
    · rename_i h
      exact .inr ⟨by rcases doE_two op a.n b.n h4 h8 with h1 | h1 | h1 <;> simp_all, rfl⟩
    · exact .inl ⟨rfl, chk_int _, .inr rfl⟩
theorem bool_good (b : Bool) : GoodW 2 (boolW b, 0) := .inl ⟨rfl, chk_bool b, .inr rfl⟩
theorem nul_good (k : Int) : GoodW k (nulV, 0) := .inl ⟨rfl, chk_nul, .inl rfl⟩

/-! ### Kinds of one, two, three parts -/
section
variable {cs : List C} {o : Int} {n : ByteArray} {v : V}
theorem kind1 (ho : 4 ≤ o) (x : X) : kindX cs (.mk o n v [x]) = if (kindX cs x).2 ≠ 0 then (0, (kindX cs x).2) else kindOp o (kindX cs x).1 0 0 := by
  simp only [kindX, kindsX]
  by_cases h : (kindX cs x).2 ≠ 0
  · rw [if_pos h, if_pos h]
  · rw [if_neg h, if_neg h]
    simp only []
    rw [if_neg (by omega), if_neg (by omega), if_neg (by omega)]
    rfl
theorem kind2 (ho : 4 ≤ o) (x y : X) : kindX cs (.mk o n v [x, y]) = if (kindX cs x).2 ≠ 0 then (0, (kindX cs x).2) else if (kindX cs y).2 ≠ 0 then (0, (kindX cs y).2) else kindOp o (kindX cs x).1 (kindX cs y).1 0 := by
  simp only [kindX, kindsX]
  by_cases h : (kindX cs x).2 ≠ 0
  · rw [if_pos h, if_pos h]
  · rw [if_neg h, if_neg h]
    by_cases h2 : (kindX cs y).2 ≠ 0
    · rw [if_pos h2, if_pos h2]
    · rw [if_neg h2, if_neg h2]
      simp only []
      rw [if_neg (by omega), if_neg (by omega), if_neg (by omega)]
      rfl
theorem kind3 (ho : 4 ≤ o) (x y z : X) : kindX cs (.mk o n v [x, y, z]) = if (kindX cs x).2 ≠ 0 then (0, (kindX cs x).2) else if (kindX cs y).2 ≠ 0 then (0, (kindX cs y).2) else if (kindX cs z).2 ≠ 0 then (0, (kindX cs z).2) else kindOp o (kindX cs x).1 (kindX cs y).1 (kindX cs z).1 := by
  simp only [kindX, kindsX]
  by_cases h : (kindX cs x).2 ≠ 0
  · rw [if_pos h, if_pos h]
  · rw [if_neg h, if_neg h]
    by_cases h2 : (kindX cs y).2 ≠ 0
    · rw [if_pos h2, if_pos h2]
    · rw [if_neg h2, if_neg h2]
      by_cases h3 : (kindX cs z).2 ≠ 0
      · rw [if_pos h3, if_pos h3]
      · rw [if_neg h3, if_neg h3]
        simp only []
        rw [if_neg (by omega), if_neg (by omega), if_neg (by omega)]
        rfl
end
end Go.Proofs.YtclcabdekeegdaaGreat

/- Layer 13, plainly: a worth is null or of its kind. -/
namespace Go.Proofs.YtclcabdekeegdaaGreat
open Go.RowKit
set_option linter.unusedVariables false

theorem two_of {l : List X} (h : l.length = 2) : ∃ x y, l = [x, y] := by
  match l, h with
  | [x, y], _ => exact ⟨x, y, rfl⟩
theorem three_of {l : List X} (h : l.length = 3) : ∃ x y z, l = [x, y, z] := by
  match l, h with
  | [x, y, z], _ => exact ⟨x, y, z, rfl⟩
theorem op_cases {o : Int} {l : Nat} (h : (l : Int) = kidsN o) : ((o = 1 ∨ o = 2 ∨ o = 3) ∧ l = 0) ∨ ((o = 9 ∨ o = 16 ∨ o = 17 ∨ o = 20) ∧ l = 1) ∨ (((4 ≤ o ∧ o ≤ 8) ∨ (10 ≤ o ∧ o ≤ 15) ∨ o = 19) ∧ l = 2) ∨ (o = 18 ∧ l = 3) := by
  unfold kidsN at h
  split at h
  · exact .inl ⟨by assumption, by omega⟩
  · split at h
    · exact .inr (.inr (.inl ⟨by assumption, by omega⟩))
    · split at h
      · exact .inr (.inl ⟨by assumption, by omega⟩)
      · split at h
        · exact .inr (.inr (.inr ⟨by assumption, by omega⟩))
        · omega
theorem err_good {k : Int} {a : V × Int} {k2 : Int} (h : GoodW k a) (he : a.2 ≠ 0) : GoodW k2 (nulV, a.2) := by
  rcases h with ⟨h1, _⟩ | ⟨h1, _⟩
  · exact absurd h1 he
  · exact .inr ⟨h1, rfl⟩
theorem GoodW.val {k : Int} {a : V × Int} (h : GoodW k a) (he : a.2 = 0) : chk a.1 = 0 ∧ (a.1 = nulV ∨ a.1.k = k) := by
  rcases h with ⟨_, h2, h3⟩ | ⟨h1, _⟩
  · exact ⟨h2, h3⟩
  · omega
theorem keep_good {k : Int} {a : V × Int} (h : GoodW k a) (he : a.2 = 0) : GoodW k (a.1, 0) := .inl ⟨rfl, h.val he⟩
theorem both_good {o : Int} (ho : (4 ≤ o ∧ o ≤ 8) ∨ (10 ≤ o ∧ o ≤ 15)) {k0 k1 : Int} (hk : (kindOp o k0 k1 0).2 = 0) {a b : V} (ha : chk a = 0) (hb : chk b = 0) (hb2 : b = nulV ∨ b.k = k1) : GoodW (kindOp o k0 k1 0).1 (bothX o a b) := by
  rcases ho with ho | ho
  · have h1 : (kindOp o k0 k1 0).1 = 1 := by
      unfold kindOp at hk ⊢
      rw [if_pos ho] at hk ⊢
      split at hk <;> simp_all
    unfold bothX
    rw [if_pos ho.2, h1]
    exact reckon_good ho.1 ho.2 a b
  · have h1 : (kindOp o k0 k1 0).1 = 2 := by
      unfold kindOp at hk ⊢
      rw [if_neg (by omega), if_neg (by omega)] at hk ⊢
      split at hk
      · rename_i h; rw [if_pos h]; split at hk <;> simp_all
      · rename_i h; rw [if_pos (by omega)] at hk; rw [if_neg h, if_pos (by omega)]; split at hk <;> simp_all
    rw [h1]
    unfold bothX
    rw [if_neg (by omega)]
    split
    · rename_i h
      rcases h with ⟨_, rfl⟩ | ⟨_, rfl⟩
      · exact bool_good false
      · exact bool_good true
    · split
      · exact nul_good 2
      · repeat' split
        all_goals exact bool_good _
theorem evalX_good {cs : List C} {row : List V} (hf : fitsR cs row = true) : ∀ e, formX e = true → (kindX cs e).2 = 0 → GoodW (kindX cs e).1 (evalX cs row e) := by
  refine X.ind ?_
  intro o n v ks ih hform hk
  simp only [formX, Bool.and_eq_true, decide_eq_true_eq] at hform
  obtain ⟨⟨hl, hh⟩, hks⟩ := hform
  have hall := formL_iff.1 hks
  rcases op_cases hl with ⟨ho, h0⟩ | ⟨ho, h0⟩ | ⟨ho, h0⟩ | ⟨ho, h0⟩
  · obtain rfl := List.eq_nil_of_length_eq_zero h0
    simp only [kindX, kindsX] at hk ⊢
    rcases ho with rfl | rfl | rfl
    · simp only [if_true] at hk ⊢
      split at hk
      · rename_i hi
        rw [if_pos hi]
        simp only [fitsR, Bool.and_eq_true, decide_eq_true_eq] at hf
        have := (fitsL_iff hf.1).1 hf.2 (findI n cs) hi
        simp only [fits, Bool.and_eq_true, decide_eq_true_eq] at this
        have e1 : row.getD (findI n cs) nulV = row[findI n cs]'(by omega) := by simp [List.getD, List.getElem?_eq_getElem (show findI n cs < row.length by omega)]
        have e2 : cs.getD (findI n cs) ⟨n, 0⟩ = cs[findI n cs] := by simp [List.getD, List.getElem?_eq_getElem hi]
        show GoodW _ (row.getD (findI n cs) nulV, 0)
        rw [e1, e2]
        refine .inl ⟨rfl, this.1, ?_⟩
        rcases this.2 with h | h
        · exact .inl (chk_zero_kind this.1 h)
        · exact .inr h
      · exact absurd hk (by decide)
    · show GoodW v.k (v, 0)
      unfold headB at hh
      rw [if_neg (by decide), if_pos rfl] at hh
      simp only [Bool.and_eq_true, decide_eq_true_eq] at hh
      exact .inl ⟨rfl, hh.2, .inr rfl⟩
    · show GoodW (wordK n.data.toList) (nulV, 0)
      exact nul_good _
  · obtain ⟨x, rfl⟩ := List.length_eq_one_iff.1 h0
    have hx := ih x (by simp) (hall x (by simp))
    rw [kind1 (by omega)] at hk ⊢
    split at hk
    · rename_i h; exact absurd hk h
    · rename_i h
      have h : (kindX cs x).2 = 0 := by simpa using h
      have hg := hx h
      rw [if_neg (by simp [h])]
      rw [eval1 (by omega)]
      unfold evOp
      by_cases he : (evalX cs row x).2 ≠ 0
      · rw [if_pos he]; exact err_good hg he
      · rw [if_neg he]
        have he : (evalX cs row x).2 = 0 := by simpa using he
        have hv := hg.val he
        generalize (evalX cs row x).1 = a at hv
        generalize (kindX cs x).1 = k at hk hv
        rcases ho with rfl | rfl | rfl | rfl
        · rw [if_pos rfl]
          have : (kindOp 9 k 0 0).1 = 1 := by unfold kindOp at hk ⊢; simp at hk ⊢; split at hk <;> simp_all
          rw [this]
          exact reckon_good (by decide) (by decide) _ _
        · rw [if_neg (by decide), if_pos rfl]
          have : (kindOp 16 k 0 0).1 = 2 := by unfold kindOp at hk ⊢; simp at hk ⊢; split at hk <;> simp_all
          rw [this]
          split
          · rename_i h0; rw [chk_zero_kind hv.1 h0]; exact nul_good 2
          · exact bool_good _
        · rw [if_neg (by decide), if_neg (by decide), if_pos rfl]
          exact bool_good _
        · rw [if_neg (by decide), if_neg (by decide), if_neg (by decide), if_pos rfl]
          have : (kindOp 20 k 0 0).1 = 1 := by unfold kindOp at hk ⊢; simp at hk ⊢; split at hk <;> simp_all
          rw [this]
          split
          · rename_i h0; rw [chk_zero_kind hv.1 h0]; exact nul_good 1
          · exact .inl ⟨rfl, chk_int _, .inr rfl⟩
  · obtain ⟨x, y, rfl⟩ := two_of h0
    have hx := ih x (by simp) (hall x (by simp))
    have hy := ih y (by simp) (hall y (by simp))
    rw [kind2 (by omega)] at hk ⊢
    split at hk
    · rename_i h; exact absurd hk h
    · rename_i h
      have h : (kindX cs x).2 = 0 := by simpa using h
      have hg := hx h
      rw [if_neg (by simp [h])]
      split at hk
      · rename_i h; exact absurd hk h
      · rename_i h2
        have h2 : (kindX cs y).2 = 0 := by simpa using h2
        have hg2 := hy h2
        rw [if_neg (by simp [h2])]
        rw [eval2 (by omega)]
        unfold evOp
        by_cases he : (evalX cs row x).2 ≠ 0
        · rw [if_pos he]; exact err_good hg he
        · rw [if_neg he]
          have he : (evalX cs row x).2 = 0 := by simpa using he
          have hv := hg.val he
          rw [if_neg (by omega), if_neg (by omega), if_neg (by omega), if_neg (by omega)]
          by_cases h19 : o = 19
          · subst h19
            have hkk : (kindX cs x).1 = (kindX cs y).1 := by
              unfold kindOp at hk; simp at hk; split at hk <;> simp_all
            have : (kindOp 19 (kindX cs x).1 (kindX cs y).1 0).1 = (kindX cs x).1 := by unfold kindOp; simp [hkk]
            rw [this]
            by_cases h0 : (evalX cs row x).1.k = 0
            · rw [if_neg (by simp [h0]), if_neg (by decide), if_pos rfl, hkk]; exact hg2
            · rw [if_pos (by simp [h0])]; exact keep_good hg he
          · have ho2 : (4 ≤ o ∧ o ≤ 8) ∨ (10 ≤ o ∧ o ≤ 15) := by omega
            split
            · rename_i hs
              have hb : (kindOp o (kindX cs x).1 (kindX cs y).1 0).1 = 2 := by
                have : o = 14 ∨ o = 15 := by omega
                unfold kindOp at hk ⊢
                rw [if_neg (by omega), if_neg (by omega), if_neg (by omega), if_pos this] at hk ⊢
                split at hk <;> simp_all
              rw [hb]
              rcases hs with ⟨_, hs⟩ | ⟨_, hs⟩ | ⟨hs, _⟩
              · rw [hs]; exact bool_good false
              · rw [hs]; exact bool_good true
              · exact absurd hs h19
            · try rw [if_neg (show ¬ o = 18 by omega)]
              try rw [if_neg h19]
              by_cases he2 : (evalX cs row y).2 ≠ 0
              · rw [if_pos he2]; exact err_good hg2 he2
              · rw [if_neg he2]
                have he2 : (evalX cs row y).2 = 0 := by simpa using he2
                have hv2 := hg2.val he2
                exact both_good ho2 hk hv.1 hv2.1 hv2.2
  · subst ho
    obtain ⟨x, y, z, rfl⟩ := three_of h0
    have hx := ih x (by simp) (hall x (by simp))
    have hy := ih y (by simp) (hall y (by simp))
    have hz := ih z (by simp) (hall z (by simp))
    rw [kind3 (by decide)] at hk ⊢
    split at hk
    · rename_i h; exact absurd hk h
    · rename_i h
      have h : (kindX cs x).2 = 0 := by simpa using h
      have hg := hx h
      rw [if_neg (by simp [h])]
      split at hk
      · rename_i h; exact absurd hk h
      · rename_i h2
        have h2 : (kindX cs y).2 = 0 := by simpa using h2
        have hg2 := hy h2
        rw [if_neg (by simp [h2])]
        split at hk
        · rename_i h; exact absurd hk h
        · rename_i h3
          have h3 : (kindX cs z).2 = 0 := by simpa using h3
          have hg3 := hz h3
          rw [if_neg (by simp [h3])]
          rw [eval3 (by decide)]
          unfold evOp
          by_cases he : (evalX cs row x).2 ≠ 0
          · rw [if_pos he]; exact err_good hg he
          · rw [if_neg he, if_neg (by decide), if_neg (by decide), if_neg (by decide), if_neg (by decide), if_neg (by simp), if_pos rfl]
            have hkk : (kindX cs y).1 = (kindX cs z).1 := by
              unfold kindOp at hk; simp at hk; split at hk <;> simp_all
            have : (kindOp 18 (kindX cs x).1 (kindX cs y).1 (kindX cs z).1).1 = (kindX cs y).1 := by
              unfold kindOp at hk ⊢; simp at hk ⊢; split at hk <;> simp_all
            rw [this]
            split
            · exact hg2
            · rw [hkk]; exact hg3
end Go.Proofs.YtclcabdekeegdaaGreat

/- Layer 13, plainly: columns that an expression hasn't count for nothing; not, and, or. -/
namespace Go.Proofs.YtclcabdekeegdaaGreat
open Go.RowKit
set_option linter.unusedVariables false

mutual
theorem eval_agree {cs : List C} {a c : List V} : ∀ e : X, (∀ x ∈ allX e, x.op = 1 → a.getD (findI x.nm cs) nulV = c.getD (findI x.nm cs) nulV) → evalX cs a e = evalX cs c e
  | .mk o n v ks, h => by
    have hL := evalL_agree (cs := cs) (a := a) (c := c) ks (fun x hx => h x (by simp [allX, hx]))
    simp only [evalX]
    rw [hL]
    by_cases h1 : o = 1
    · rw [if_pos h1, if_pos h1]
      have := h (.mk o n v ks) (by simp [allX]) h1
      rw [show X.nm (.mk o n v ks) = n from rfl] at this
      rw [this]
    · rw [if_neg h1, if_neg h1]
theorem evalL_agree {cs : List C} {a c : List V} : ∀ l : List X, (∀ x ∈ allL l, x.op = 1 → a.getD (findI x.nm cs) nulV = c.getD (findI x.nm cs) nulV) → evalL cs a l = evalL cs c l
  | [], _ => rfl
  | k :: ks, h => by
    simp only [evalL]
    rw [eval_agree k (fun x hx => h x (by simp [allL, hx])), evalL_agree ks (fun x hx => h x (by simp [allL, hx]))]
end
theorem findI_name {n : ByteArray} : ∀ {l : List C} {k : Nat} (hk : k < l.length), findI n l = k → (l[k]'hk).s = n
  | c :: l, k, hk, h => by
    rw [findI] at h
    split at h
    · subst h
      assumption
    · subst h
      exact findI_name (l := l) (by simpa using hk) rfl
mutual
/-- Of a kind: all columns within are there. -/
theorem kind_cols {cs : List C} : ∀ e : X, (kindX cs e).2 = 0 → ∀ x ∈ allX e, x.op = 1 → findI x.nm cs < cs.length
  | .mk o n v ks, h, x, hx, ho => by
    simp only [kindX] at h
    split at h
    · rename_i e he
      exact absurd h (kindsX_err he)
    · rename_i l hl
      simp only [allX, List.mem_cons] at hx
      rcases hx with rfl | hx
      · have ho : o = 1 := ho
        rw [if_pos ho] at h
        split at h
        · assumption
        · exact absurd h (by decide)
      · exact kinds_cols ks hl x hx ho
theorem kinds_cols {cs : List C} : ∀ (l : List X) {r : List Int}, kindsX cs l = .ok r → ∀ x ∈ allL l, x.op = 1 → findI x.nm cs < cs.length
  | [], _, _, x, hx, _ => by simp [allL] at hx
  | k :: ks, r, h, x, hx, ho => by
    simp only [kindsX] at h
    split at h
    · cases h
    · rename_i hk
      split at h
      · cases h
      · rename_i l hl
        simp only [allL, List.mem_append] at hx
        rcases hx with hx | hx
        · exact kind_cols k (by simpa using hk) x hx ho
        · exact kinds_cols ks hl x hx ho
theorem kindsX_err {cs : List C} : ∀ {l : List X} {e : Int}, kindsX cs l = .error e → e ≠ 0
  | k :: ks, e, h => by
    simp only [kindsX] at h
    split at h
    · rename_i hk; cases h; exact hk
    · split at h
      · rename_i he; cases h; exact kindsX_err he
      · cases h
end

/-! ### Not, and, or -/
theorem good_bool {A : V × Int} (h : GoodW 2 A) : A = (nulV, 0) ∨ A = (boolW true, 0) ∨ A = (boolW false, 0) ∨ A = (nulV, 10) ∨ A = (nulV, 11) := by
  obtain ⟨v, e⟩ := A
  rcases h with ⟨h1, h2, h3⟩ | ⟨h1, h2⟩
  · simp only at h1 h2 h3
    subst h1
    rcases h3 with rfl | h3
    · exact .inl rfl
    · obtain ⟨k, n, s⟩ := v
      simp only at h3
      subst h3
      rcases chk_kinds h2 with ⟨h, _⟩ | ⟨h, _⟩ | ⟨_, h, hs⟩ | ⟨h, _⟩
      · simp at h
      · simp at h
      · simp only at h hs
        have := empty_of_size hs
        subst this
        rcases h with rfl | rfl
        · exact .inr (.inr (.inl rfl))
        · exact .inr (.inl rfl)
      · simp at h
  · simp only at h1 h2
    subst h2
    rcases h1 with rfl | rfl
    · exact .inr (.inr (.inr (.inl rfl)))
    · exact .inr (.inr (.inr (.inr rfl)))
theorem turn_and {A B : V × Int} (hA : GoodW 2 A) (hB : GoodW 2 B) :
    evOp 16 (evOp 14 A B (nulV, 0)) (nulV, 0) (nulV, 0) = evOp 15 (evOp 16 A (nulV, 0) (nulV, 0)) (evOp 16 B (nulV, 0) (nulV, 0)) (nulV, 0) := by
  rcases good_bool hA with rfl | rfl | rfl | rfl | rfl <;> rcases good_bool hB with rfl | rfl | rfl | rfl | rfl <;> decide
theorem not_not_good {A : V × Int} (hA : GoodW 2 A) : evOp 16 (evOp 16 A (nulV, 0) (nulV, 0)) (nulV, 0) (nulV, 0) = A := by
  rcases good_bool hA with rfl | rfl | rfl | rfl | rfl <;> decide
end Go.Proofs.YtclcabdekeegdaaGreat
