/- What a seat needs of several texts. -/
import Derived.Test.YtclcabdekeegdaaGreatDecValF
import Derived.Lib.ParseIntBCases
import Derived.Lib.ParseIntBTie
import Derived.Lib.ItoaMem
/- From DecP. -/
namespace Go.Proofs.YtclcabdekeegdaaGreat
set_option linter.unusedVariables false
/-- A column: its name, its kind. -/
structure C where
 s : ByteArray
 k : Int
def C.cells (c : C) : List Value := [.string c.s, .int .i64 c.k]
def C.wf (c : C) : Prop := in64 c.k ∧ c.s.size ≤ 9223372036854775807
def low (c : UInt8) : Bool := decide (97 ≤ c.toNat ∧ c.toNat ≤ 122)
def dgt (c : UInt8) : Bool := decide (48 ≤ c.toNat ∧ c.toNat ≤ 57)
def alnum (c : UInt8) : Bool := dgt c || low c
def hd0 (l : List UInt8) : UInt8 := l.headD 0
def nameB (l : List UInt8) : Bool := decide (1 ≤ l.length) && decide (l.length ≤ 16) && !dgt (hd0 l) && l.all alnum
theorem nameB_short {l : List UInt8} (h : l.length = 0) : nameB l = false := by simp [nameB, h]
theorem nameB_long {l : List UInt8} (h : 16 < l.length) : nameB l = false := by simp [nameB]; omega
theorem nameB_dgt {l : List UInt8} (h : dgt (hd0 l) = true) : nameB l = false := by simp [nameB, h]
theorem nameB_bad {l : List UInt8} {c : UInt8} (hm : c ∈ l) (h : alnum c = false) : nameB l = false := by
 have : l.all alnum = false := by
  rw [← Bool.not_eq_true, List.all_eq_true]
  intro h2
  rw [h2 c hm] at h
  cases h
 simp [nameB, this]
theorem nameB_good {l : List UInt8} (h1 : 1 ≤ l.length) (h2 : l.length ≤ 16) (h3 : dgt (hd0 l) = false) (h4 : l.all alnum = true) : nameB l = true := by
 simp [nameB, h1, h2, h3, h4]
theorem low_not_dgt {c : UInt8} (h : low c = true) : dgt c = false := by
 simp only [low, dgt, decide_eq_true_eq, decide_eq_false_iff_not] at *
 omega
theorem all_snoc {l : List UInt8} {p : UInt8 → Bool} {k : Nat} (hk : k < l.length) (h : (l.take k).all p = true) (hc : p l[k] = true) : (l.take (k + 1)).all p = true := by
 rw [List.take_succ_eq_append_getElem hk, List.all_append, h]; simp [hc]
/-- A column's place; as many as there are: there is none. -/
def findI (n : ByteArray) : List C → Nat
 | [] => 0
 | c :: l => if c.s = n then 0 else findI n l + 1
theorem findI_le (n : ByteArray) (l : List C) : findI n l ≤ l.length := by
 induction l with
 | nil => simp [findI]
 | cons c l ih => unfold findI; split <;> simp <;> omega
theorem findI_at {n : ByteArray} : ∀ {l : List C} {k : Nat} (h : k < l.length), l[k].s = n → (∀ j (hj : j < k), (l[j]'(by omega)).s ≠ n) → findI n l = k
 | c :: l, 0, h, e, _ => by unfold findI; exact if_pos e
 | c :: l, k + 1, h, e, hb => by
  have h0 : c.s ≠ n := hb 0 (by omega)
  unfold findI
  rw [if_neg h0, findI_at (l := l) (k := k) (by simpa using h) e (fun j hj => hb (j + 1) (by omega))]
theorem findI_none {n : ByteArray} : ∀ {l : List C}, (∀ j (hj : j < l.length), l[j].s ≠ n) → findI n l = l.length
 | [], _ => rfl
 | c :: l, h => by
  have h0 : c.s ≠ n := h 0 (by simp)
  unfold findI
  rw [if_neg h0, findI_none (l := l) (fun j hj => h (j + 1) (by simpa using hj))]
  rfl
theorem findI_take (n : ByteArray) : ∀ (l : List C) (i : Nat), findI n (l.take i) = min (findI n l) (min i l.length)
 | [], i => by simp [findI]
 | c :: l, 0 => by simp [findI]
 | c :: l, i + 1 => by
  rw [List.take_succ_cons]
  unfold findI
  split
  ·simp
  ·rw [findI_take n l i, List.length_cons]; omega
theorem findI_own : ∀ {l : List C} {k : Nat} (h : k < l.length), findI l[k].s l ≤ k
 | c :: l, 0, h => by unfold findI; exact Nat.le_of_eq (if_pos rfl)
 | c :: l, k + 1, h => by
  have := findI_own (l := l) (k := k) (by simpa using h)
  unfold findI
  split
  ·omega
  ·simp only [List.getElem_cons_succ]; omega
/-- Is there an elder one of the same name? -/
theorem twice_iff {l : List C} {k : Nat} (h : k < l.length) : findI l[k].s (l.take k) < k ↔ findI l[k].s l ≠ k := by
 rw [findI_take]
 have := findI_own h
 omega
def goodAt (l : List C) (i : Nat) : Bool :=
 match l[i]? with
 | none => true
 | some c => nameB c.s.data.toList && decide (findI c.s l = i) && decide (1 ≤ c.k ∧ c.k ≤ 3)
theorem goodAt_at {l : List C} {i : Nat} (h : i < l.length) : goodAt l i = (nameB l[i].s.data.toList && decide (findI l[i].s l = i) && decide (1 ≤ l[i].k ∧ l[i].k ≤ 3)) := by
 unfold goodAt
 rw [List.getElem?_eq_getElem h]
def rightB (l : List C) : Bool := decide (1 ≤ l.length) && decide (l.length ≤ 12) && (List.range l.length).all (goodAt l)
theorem rightB_short {l : List C} (h : l.length < 1) : rightB l = false := by simp [rightB]; omega
theorem rightB_long {l : List C} (h : 12 < l.length) : rightB l = false := by simp [rightB]; omega
theorem rightB_bad {l : List C} {i : Nat} (hi : i < l.length) (h : goodAt l i = false) : rightB l = false := by
 have : (List.range l.length).all (goodAt l) = false := by
  rw [← Bool.not_eq_true, List.all_eq_true]
  intro h2
  rw [h2 i (List.mem_range.2 hi)] at h
  cases h
 simp [rightB, this]
theorem rightB_good {l : List C} (h1 : 1 ≤ l.length) (h2 : l.length ≤ 12) (h : ∀ i, i < l.length → goodAt l i = true) : rightB l = true := by
 have : (List.range l.length).all (goodAt l) = true := List.all_eq_true.2 fun i hi => h i (List.mem_range.1 hi)
 simp [rightB, this, h1, h2]
end Go.Proofs.YtclcabdekeegdaaGreat
