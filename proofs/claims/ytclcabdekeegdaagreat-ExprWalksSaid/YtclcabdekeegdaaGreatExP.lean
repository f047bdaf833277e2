/- Layer 13, plainly: expressions as trees; how many, how deep, of what form, of what kind, all within. -/
import Derived.Test.YtclcabdekeegdaaGreatDecP
namespace Go.Proofs.YtclcabdekeegdaaGreat
open Go.RowKit
set_option linter.unusedVariables false

/-- An expression: Op, Name, V, Kids. -/
inductive X where
  | mk (op : Int) (nm : ByteArray) (v : V) (ks : List X)
def X.op : X → Int
  | .mk o _ _ _ => o
def X.nm : X → ByteArray
  | .mk _ n _ _ => n
def X.v : X → V
  | .mk _ _ v _ => v
def X.ks : X → List X
  | .mk _ _ _ k => k
theorem X.ind {P : X → Prop} (h : ∀ o n v ks, (∀ k ∈ ks, P k) → P (.mk o n v ks)) : ∀ e, P e
  | .mk o n v ks => h o n v ks (fun k hk => X.ind h k)

/-! ### How many, how deep: counted till a thousand -/
mutual
def szX : X → Nat → Nat → Nat × Nat
  | .mk _ _ _ ks, n, d => szL ks (n + 1) d d
def szL : List X → Nat → Nat → Nat → Nat × Nat
  | [], n, _, m => (n, m)
  | k :: ks, n, d, m => if n < 1000 ∧ d < 1000 then szL ks (szX k n (d + 1)).1 d (max m (szX k n (d + 1)).2) else (n, m)
end
/-! ### How many, how deep -/
mutual
def cnt : X → Nat
  | .mk _ _ _ ks => cntL ks + 1
def cntL : List X → Nat
  | [] => 0
  | k :: ks => cnt k + cntL ks
end
mutual
def dep : X → Nat
  | .mk _ _ _ ks => depL ks
def depL : List X → Nat
  | [] => 0
  | k :: ks => max (dep k + 1) (depL ks)
end
theorem cnt_pos (e : X) : 1 ≤ cnt e := by cases e; simp [cnt]
mutual
theorem szX_mono : ∀ (e : X) (n d : Nat), n + 1 ≤ (szX e n d).1 ∧ d ≤ (szX e n d).2
  | .mk _ _ _ ks, n, d => by
    have h := szL_mono ks (n + 1) d d
    simp only [szX]
    omega
theorem szL_mono : ∀ (l : List X) (n d m : Nat), n ≤ (szL l n d m).1 ∧ m ≤ (szL l n d m).2
  | [], n, d, m => by simp [szL]
  | k :: ks, n, d, m => by
    have h1 := szX_mono k n (d + 1)
    have h2 := szL_mono ks (szX k n (d + 1)).1 d (max m (szX k n (d + 1)).2)
    simp only [szL]
    split
    · omega
    · simp
end

mutual
/-- Counted to the end, or a thousand reached. -/
theorem szX_is : ∀ (e : X) (n d : Nat), (szX e n d).1 ≤ n + cnt e ∧ (szX e n d).2 ≤ d + dep e ∧ (((szX e n d).1 = n + cnt e ∧ (szX e n d).2 = d + dep e) ∨ 1000 ≤ (szX e n d).1 ∨ 1000 ≤ (szX e n d).2)
  | .mk _ _ _ ks, n, d => by
    have h := szL_is ks (n + 1) d d (Nat.le_refl _)
    simp only [szX, cnt, dep]
    omega
theorem szL_is : ∀ (l : List X) (n d m : Nat), d ≤ m → (szL l n d m).1 ≤ n + cntL l ∧ (szL l n d m).2 ≤ max m (d + depL l) ∧ (((szL l n d m).1 = n + cntL l ∧ (szL l n d m).2 = max m (d + depL l)) ∨ 1000 ≤ (szL l n d m).1 ∨ 1000 ≤ (szL l n d m).2)
  | [], n, d, m, hm => by simp only [szL, cntL, depL]; omega
  | k :: ks, n, d, m, hm => by
    have h1 := szX_is k n (d + 1)
    have h2 := szL_is ks (szX k n (d + 1)).1 d (max m (szX k n (d + 1)).2) (by omega)
    have h3 := szL_mono ks (szX k n (d + 1)).1 d (max m (szX k n (d + 1)).2)
    have hp := cnt_pos k
    simp only [szL, cntL, depL]
    split
    · omega
    · omega
end
/-! ### Too long a text -/
mutual
def longX : X → Bool
  | .mk _ n v ks => decide (1000 < n.size) || decide (1000 < v.s.size) || longL ks 0
def longL : List X → Nat → Bool
  | [], _ => false
  | k :: ks, i => if i < 1000 then longX k || longL ks (i + 1) else false
end
/-- More than is looked at. -/
def hugeX (e : X) : Bool := decide (1000 ≤ (szX e 0 0).1) || decide (1000 ≤ (szX e 0 0).2) || longX e
theorem huge_not {e : X} (h : hugeX e = false) : (szX e 0 0).1 = cnt e ∧ (szX e 0 0).2 = dep e ∧ cnt e < 1000 ∧ dep e < 1000 := by
  simp only [hugeX, Bool.or_eq_false_iff, decide_eq_false_iff_not] at h
  have := szX_is e 0 0
  omega

/-! ### The form -/
def kidsN (op : Int) : Int :=
  if op = 1 ∨ op = 2 ∨ op = 3 then 0
  else if (4 ≤ op ∧ op ≤ 8) ∨ (10 ≤ op ∧ op ≤ 15) ∨ op = 19 then 2
  else if op = 9 ∨ op = 16 ∨ op = 17 ∨ op = 20 then 1
  else if op = 18 then 3
  else -1
def wordK (s : List UInt8) : Int := if s = [105, 110, 116] then 1 else if s = [98, 111, 111, 108] then 2 else if s = [116, 101, 120, 116] then 3 else 0
def zeroV (v : V) : Bool := decide (v.k = 0) && decide (v.n = 0) && decide (v.s.size = 0)
def headB (op : Int) (nm : ByteArray) (v : V) : Bool :=
  if op = 1 then nameB nm.data.toList && zeroV v
  else if op = 2 then decide (nm.size = 0) && decide (v.k ≠ 0) && decide (chk v = 0)
  else if op = 3 then decide (wordK nm.data.toList ≠ 0) && zeroV v
  else decide (nm.size = 0) && zeroV v
mutual
def formX : X → Bool
  | .mk o n v ks => decide ((ks.length : Int) = kidsN o) && headB o n v && formL ks
def formL : List X → Bool
  | [] => true
  | k :: ks => formX k && formL ks
end
theorem formL_iff {l : List X} : formL l = true ↔ ∀ e ∈ l, formX e = true := by
  induction l with
  | nil => simp [formL]
  | cons k ks ih => simp [formL, ih]
def checkX (e : X) : Int := if 256 < cnt e ∨ 16 < dep e then 131 else if formX e = false then 130 else 0

/-! ### The kind: of the Kids first -/
def kindOp (op : Int) (k0 k1 k2 : Int) : Int × Int :=
  if 4 ≤ op ∧ op ≤ 8 then (if k0 = 1 ∧ k1 = 1 then (1, 0) else (0, 133))
  else if op = 9 then (if k0 = 1 then (1, 0) else (0, 133))
  else if 10 ≤ op ∧ op ≤ 13 then (if k0 = k1 then (2, 0) else (0, 133))
  else if op = 14 ∨ op = 15 then (if k0 = 2 ∧ k1 = 2 then (2, 0) else (0, 133))
  else if op = 16 then (if k0 = 2 then (2, 0) else (0, 133))
  else if op = 17 then (2, 0)
  else if op = 18 then (if k0 = 2 ∧ k1 = k2 then (k1, 0) else (0, 133))
  else if op = 19 then (if k0 = k1 then (k0, 0) else (0, 133))
  else if op = 20 then (if k0 = 3 then (1, 0) else (0, 133))
  else (0, 133)
mutual
def kindX (cs : List C) : X → Int × Int
  | .mk o n v ks =>
    match kindsX cs ks with
    | .error e => (0, e)
    | .ok l =>
      if o = 1 then (if findI n cs < cs.length then ((cs.getD (findI n cs) ⟨n, 0⟩).k, 0) else (0, 132))
      else if o = 2 then (v.k, 0)
      else if o = 3 then (wordK n.data.toList, 0)
      else kindOp o (l.getD 0 0) (l.getD 1 0) (l.getD 2 0)
def kindsX (cs : List C) : List X → Except Int (List Int)
  | [] => .ok []
  | k :: ks => if (kindX cs k).2 ≠ 0 then .error (kindX cs k).2 else match kindsX cs ks with
    | .error e => .error e
    | .ok l => .ok ((kindX cs k).1 :: l)
end
theorem kindsX_len {cs : List C} : ∀ {l : List X} {r : List Int}, kindsX cs l = .ok r → r.length = l.length
  | [], r, h => by simp only [kindsX] at h; cases h; rfl
  | k :: ks, r, h => by
    simp only [kindsX] at h
    split at h
    · cases h
    · split at h
      · cases h
      · rename_i e
        cases h
        simp [kindsX_len e]
def kindE (e : X) (cs : List C) : Int × Int := if rightB cs = false then (0, 120) else if checkX e ≠ 0 then (0, checkX e) else kindX cs e

/-! ### All within -/
mutual
def allX : X → List X
  | .mk o n v ks => .mk o n v ks :: allL ks
def allL : List X → List X
  | [] => []
  | k :: ks => allX k ++ allL ks
end
theorem allL_snoc : ∀ (l : List X) (k : X), allL (l ++ [k]) = allL l ++ allX k
  | [], k => by simp [allL]
  | x :: l, k => by simp [allL, allL_snoc l k]
mutual
theorem allX_len : ∀ e : X, (allX e).length = cnt e
  | .mk o n v ks => by simp [allX, cnt, allL_len ks]
theorem allL_len : ∀ l : List X, (allL l).length = cntL l
  | [] => rfl
  | k :: ks => by simp [allL, cntL, allX_len k, allL_len ks]
end

/-! ### In memory -/
def X.cells (e : X) (A : Option Addr) (c : Nat) : List Value := [.int .i64 e.op, .string e.nm, .int .i64 e.v.k, .int .i64 e.v.n, .string e.v.s, .slice A e.ks.length c]
mutual
/-- The Kids of an expression lie at A, and theirs behind them. -/
def KidsAt (w : World) (B : Nat) : X → Option Addr → Nat → Prop
  | .mk _ _ _ ks, A, c => ks.length ≤ c ∧ c ≤ maxLen ∧ KidsL w B ks A 0
def KidsL (w : World) (B : Nat) : List X → Option Addr → Nat → Prop
  | [], _, _ => True
  | k :: ks, A, i => (∃ b off A2 c2, A = some ⟨b, off, none⟩ ∧ b < B ∧ (∀ j (hj : j < 6), w.cell? ⟨b, off + i * 6 + j, none⟩ = some ((k.cells A2 c2)[j]'(by simpa [X.cells] using hj))) ∧ KidsAt w B k A2 c2) ∧ KidsL w B ks A (i + 1)
end
mutual
theorem KidsAt.below {w w' : World} {B : Nat} (hb : Below B w w') : ∀ {e : X} {A : Option Addr} {c : Nat}, KidsAt w B e A c → KidsAt w' B e A c
  | .mk _ _ _ ks, A, c, h => by
    simp only [KidsAt] at h ⊢
    exact ⟨h.1, h.2.1, KidsL.below hb h.2.2⟩
theorem KidsL.below {w w' : World} {B : Nat} (hb : Below B w w') : ∀ {l : List X} {A : Option Addr} {i : Nat}, KidsL w B l A i → KidsL w' B l A i
  | [], _, _, h => by simp only [KidsL]
  | k :: ks, A, i, h => by
    simp only [KidsL] at h ⊢
    obtain ⟨⟨b, off, A2, c2, e, hlt, hc, hk⟩, h2⟩ := h
    exact ⟨⟨b, off, A2, c2, e, hlt, fun j hj => (hb.cell (p := ⟨b, off + i * 6 + j, none⟩) hlt).trans (hc j hj), KidsAt.below hb hk⟩, KidsL.below hb h2⟩
end
mutual
theorem KidsAt.more {w : World} {B B' : Nat} (hB : B ≤ B') : ∀ {e : X} {A : Option Addr} {c : Nat}, KidsAt w B e A c → KidsAt w B' e A c
  | .mk _ _ _ ks, A, c, h => by
    simp only [KidsAt] at h ⊢
    exact ⟨h.1, h.2.1, KidsL.more hB h.2.2⟩
theorem KidsL.more {w : World} {B B' : Nat} (hB : B ≤ B') : ∀ {l : List X} {A : Option Addr} {i : Nat}, KidsL w B l A i → KidsL w B' l A i
  | [], _, _, h => by simp only [KidsL]
  | k :: ks, A, i, h => by
    simp only [KidsL] at h ⊢
    obtain ⟨⟨b, off, A2, c2, e, hlt, hc, hk⟩, h2⟩ := h
    exact ⟨⟨b, off, A2, c2, e, Nat.lt_of_lt_of_le hlt hB, hc, KidsAt.more hB hk⟩, KidsL.more hB h2⟩
end
/-- The kid at a place. -/
theorem KidsL.at {w : World} {B : Nat} : ∀ {l : List X} {A : Option Addr} {i : Nat}, KidsL w B l A i → ∀ (j : Nat) (hj : j < l.length),
    ∃ b off A2 c2, A = some ⟨b, off, none⟩ ∧ b < B ∧ (∀ q (hq : q < 6), w.cell? ⟨b, off + (i + j) * 6 + q, none⟩ = some ((l[j].cells A2 c2)[q]'(by simpa [X.cells] using hq))) ∧ KidsAt w B l[j] A2 c2
  | k :: ks, A, i, h, 0, hj => by
    simp only [KidsL] at h
    exact h.1
  | k :: ks, A, i, h, j + 1, hj => by
    simp only [KidsL] at h
    have := KidsL.at h.2 j (by simpa using hj)
    rw [show i + 1 + j = i + (j + 1) by omega] at this
    exact this
end Go.Proofs.YtclcabdekeegdaaGreat
