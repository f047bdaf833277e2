/- What a seat needs of several texts. -/
import Derived.Test.YtclcabdekeegdaaGreatDecVal
import Derived.Lib.ParseIntBCases
import Derived.Lib.ParseIntBTie
import Derived.Lib.ItoaMem
/- From DecP. -/
namespace Go.Proofs.YtclcabdekeegdaaGreat
set_option linter.unusedVariables false
/-- A column: its name, its kind. -/
structure C where
  s : ByteArray
  k : Int
def C.cells (c : C) : List Value := [.string c.s, .int .i64 c.k]
theorem C.cells_length (c : C) : c.cells.length = 2 := rfl
def C.wf (c : C) : Prop := in64 c.k ∧ c.s.size ≤ 9223372036854775807
def low (c : UInt8) : Bool := decide (97 ≤ c.toNat ∧ c.toNat ≤ 122)
def dgt (c : UInt8) : Bool := decide (48 ≤ c.toNat ∧ c.toNat ≤ 57)
def alnum (c : UInt8) : Bool := dgt c || low c
def hd0 (l : List UInt8) : UInt8 := l.headD 0
def nameB (l : List UInt8) : Bool := decide (1 ≤ l.length) && decide (l.length ≤ 16) && !dgt (hd0 l) && l.all alnum
theorem nameB_short {l : List UInt8} (h : l.length = 0) : nameB l = false := by simp [nameB, h]
theorem nameB_long {l : List UInt8} (h : 16 < l.length) : nameB l = false := by simp [nameB]; omega
theorem nameB_dgt {l : List UInt8} (h : dgt (hd0 l) = true) : nameB l = false := by simp [nameB, h]
theorem nameB_bad {l : List UInt8} {c : UInt8} (hm : c ∈ l) (h : alnum c = false) : nameB l = false := by
  have : l.all alnum = false := by
    rw [← Bool.not_eq_true, List.all_eq_true]
    intro h2
    rw [h2 c hm] at h
    cases h
  simp [nameB, this]
theorem nameB_good {l : List UInt8} (h1 : 1 ≤ l.length) (h2 : l.length ≤ 16) (h3 : dgt (hd0 l) = false) (h4 : l.all alnum = true) : nameB l = true := by
  simp [nameB, h1, h2, h3, h4]
theorem low_not_dgt {c : UInt8} (h : low c = true) : dgt c = false := by
  simp only [low, dgt, decide_eq_true_eq, decide_eq_false_iff_not] at *
  omega
theorem all_snoc {l : List UInt8} {p : UInt8 → Bool} {k : Nat} (hk : k < l.length) (h : (l.take k).all p = true) (hc : p l[k] = true) : (l.take (k + 1)).all p = true := by
  rw [List.take_succ_eq_append_getElem hk, List.all_append, h]; simp [hc]
/-- A column's place; as many as there are: there is none. -/
def findI (n : ByteArray) : List C → Nat
  | [] => 0
  | c :: l => if c.s = n then 0 else findI n l + 1
theorem findI_le (n : ByteArray) (l : List C) : findI n l ≤ l.length := by
  induction l with
  | nil => simp [findI]
  | cons c l ih => unfold findI; split <;> simp <;> omega
theorem findI_at {n : ByteArray} : ∀ {l : List C} {k : Nat} (h : k < l.length), l[k].s = n → (∀ j (hj : j < k), (l[j]'(by omega)).s ≠ n) → findI n l = k
  | c :: l, 0, h, e, _ => by unfold findI; exact if_pos e
  | c :: l, k + 1, h, e, hb => by
    have h0 : c.s ≠ n := hb 0 (by omega)
    unfold findI
    rw [if_neg h0, findI_at (l := l) (k := k) (by simpa using h) e (fun j hj => hb (j + 1) (by omega))]
theorem findI_none {n : ByteArray} : ∀ {l : List C}, (∀ j (hj : j < l.length), l[j].s ≠ n) → findI n l = l.length
  | [], _ => rfl
  | c :: l, h => by
    have h0 : c.s ≠ n := h 0 (by simp)
    unfold findI
    rw [if_neg h0, findI_none (l := l) (fun j hj => h (j + 1) (by simpa using hj))]
    rfl
theorem findI_take (n : ByteArray) : ∀ (l : List C) (i : Nat), findI n (l.take i) = min (findI n l) (min i l.length)
  | [], i => by simp [findI]
  | c :: l, 0 => by simp [findI]
  | c :: l, i + 1 => by
    rw [List.take_succ_cons]
    unfold findI
    split
    · simp
    · rw [findI_take n l i, List.length_cons]; omega
theorem findI_own : ∀ {l : List C} {k : Nat} (h : k < l.length), findI l[k].s l ≤ k
  | c :: l, 0, h => by unfold findI; exact Nat.le_of_eq (if_pos rfl)
  | c :: l, k + 1, h => by
    have := findI_own (l := l) (k := k) (by simpa using h)
    unfold findI
    split
    · omega
    · simp only [List.getElem_cons_succ]; omega
/-- Is there an elder one of the same name? -/
theorem twice_iff {l : List C} {k : Nat} (h : k < l.length) : findI l[k].s (l.take k) < k ↔ findI l[k].s l ≠ k := by
  rw [findI_take]
  have := findI_own h
  omega
def goodAt (l : List C) (i : Nat) : Bool :=
  match l[i]? with
  | none => true
  | some c => nameB c.s.data.toList && decide (findI c.s l = i) && decide (1 ≤ c.k ∧ c.k ≤ 3)
theorem goodAt_at {l : List C} {i : Nat} (h : i < l.length) : goodAt l i = (nameB l[i].s.data.toList && decide (findI l[i].s l = i) && decide (1 ≤ l[i].k ∧ l[i].k ≤ 3)) := by
  unfold goodAt
  rw [List.getElem?_eq_getElem h]
def rightB (l : List C) : Bool := decide (1 ≤ l.length) && decide (l.length ≤ 12) && (List.range l.length).all (goodAt l)
theorem rightB_short {l : List C} (h : l.length < 1) : rightB l = false := by simp [rightB]; omega
theorem rightB_long {l : List C} (h : 12 < l.length) : rightB l = false := by simp [rightB]; omega
theorem rightB_bad {l : List C} {i : Nat} (hi : i < l.length) (h : goodAt l i = false) : rightB l = false := by
  have : (List.range l.length).all (goodAt l) = false := by
    rw [← Bool.not_eq_true, List.all_eq_true]
    intro h2
    rw [h2 i (List.mem_range.2 hi)] at h
    cases h
  simp [rightB, this]
theorem rightB_good {l : List C} (h1 : 1 ≤ l.length) (h2 : l.length ≤ 12) (h : ∀ i, i < l.length → goodAt l i = true) : rightB l = true := by
  have : (List.range l.length).all (goodAt l) = true := List.all_eq_true.2 fun i hi => h i (List.mem_range.1 hi)
  simp [rightB, this, h1, h2]
theorem rightB_kinds {l : List C} (h : rightB l = true) : ∀ c ∈ l, c.k = 1 ∨ c.k = 2 ∨ c.k = 3 := by
  intro c hc
  obtain ⟨i, hi, rfl⟩ := List.mem_iff_getElem.1 hc
  simp only [rightB, Bool.and_eq_true] at h
  have := List.all_eq_true.1 h.2 i (List.mem_range.2 hi)
  rw [goodAt_at hi] at this
  simp only [Bool.and_eq_true, decide_eq_true_eq] at this
  omega
theorem rightB_len {l : List C} (h : rightB l = true) : 1 ≤ l.length ∧ l.length ≤ 12 := by
  simp only [rightB, Bool.and_eq_true, decide_eq_true_eq] at h
  exact ⟨h.1.1, h.1.2⟩
def splitT : Bool → List UInt8 → List UInt8 → List (List UInt8)
  | _, f, [] => [f]
  | t, f, c :: r => if t = false ∧ c = 44 then f :: splitT false [] r else splitT (!t && c == 92) (f ++ [c]) r
def splitL (l : List UInt8) : List (List UInt8) := splitT false [] l
theorem splitT_nil (t : Bool) (f : List UInt8) : splitT t f [] = [f] := by unfold splitT; rfl
theorem splitT_cut (f r : List UInt8) : splitT false f (44 :: r) = f :: splitT false [] r := by rw [splitT]; simp
theorem splitT_go (t : Bool) (f : List UInt8) (c : UInt8) (r : List UInt8) (h : ¬ (t = false ∧ c = 44)) : splitT t f (c :: r) = splitT (!t && c == 92) (f ++ [c]) r := by rw [splitT, if_neg h]
theorem splitT_len (t : Bool) (f : List UInt8) (l : List UInt8) : 1 ≤ (splitT t f l).length ∧ (splitT t f l).length ≤ l.length + 1 := by
  induction l generalizing t f with
  | nil => simp [splitT_nil]
  | cons c r ih =>
    rw [splitT]
    split
    · have := ih false []; simp; omega
    · have := ih (!t && c == 92) (f ++ [c]); simp; omega
/-- How long the first field is. -/
def fl : List UInt8 → Nat
  | [] => 0
  | [c] => if c = 44 then 0 else 1
  | c :: d :: r => if c = 44 then 0 else if c = 92 then 2 + fl r else 1 + fl (d :: r)
theorem fl_nil : fl [] = 0 := rfl
theorem fl_cut (r : List UInt8) : fl (44 :: r) = 0 := by cases r <;> simp [fl]
theorem fl_back (d : UInt8) (r : List UInt8) : fl (92 :: d :: r) = 2 + fl r := by simp [fl]
theorem fl_last : fl [92] = 1 := rfl
theorem fl_go (c : UInt8) (r : List UInt8) (h : c ≠ 44) (h2 : c ≠ 92) : fl (c :: r) = 1 + fl r := by cases r <;> simp [fl, h, h2]
theorem fl_le : ∀ l : List UInt8, fl l ≤ l.length
  | [] => Nat.le_refl _
  | [c] => by unfold fl; split <;> simp
  | c :: d :: r => by
    have h1 := fl_le r
    have h2 := fl_le (d :: r)
    unfold fl
    simp only [List.length_cons] at *
    split
    · omega
    · split <;> omega
theorem split_fl : ∀ (l f : List UInt8), splitT false f l = if fl l < l.length then (f ++ l.take (fl l)) :: splitL (l.drop (fl l + 1)) else [f ++ l]
  | [], f => by simp [splitT_nil, fl]
  | [c], f => by
    by_cases h : c = 44
    · subst h; simp [splitT_cut, splitT_nil, fl, splitL]
    · rw [splitT_go _ _ _ _ (by simp [h]), splitT_nil]; simp [fl, h]
  | c :: d :: r, f => by
    by_cases h : c = 44
    · subst h
      rw [splitT_cut, fl_cut]
      simp [splitL]
    · rw [splitT_go _ _ _ _ (by simp [h])]
      by_cases h2 : c = 92
      · subst h2
        rw [show (!false && (92 : UInt8) == 92) = true from rfl, splitT_go _ _ _ _ (by simp), show (!true && d == 92) = false from rfl, split_fl r, fl_back]
        by_cases h3 : fl r < r.length
        · rw [if_pos h3, if_pos (by simp; omega), show 2 + fl r = fl r + 1 + 1 by omega]
          simp
        · rw [if_neg h3, if_neg (by simp; omega)]
          simp
      · rw [show (!false && c == 92) = false by simp [h2], split_fl (d :: r), fl_go c _ h h2]
        by_cases h3 : fl (d :: r) < (d :: r).length
        · rw [if_pos h3, if_pos (by simp at *; omega), show 1 + fl (d :: r) = fl (d :: r) + 1 by omega]
          simp
        · rw [if_neg h3, if_neg (by simp at *; omega)]
          simp
termination_by l => l.length
/-- The fields from place p on; none behind the end. -/
def splitF (l : List UInt8) (p : Nat) : List (List UInt8) := if p ≤ l.length then splitL (l.drop p) else []
theorem splitF_all (l : List UInt8) : splitF l 0 = splitL l := by simp [splitF]
theorem splitF_end {l : List UInt8} {p : Nat} (h : l.length < p) : splitF l p = [] := by unfold splitF; rw [if_neg (by omega)]
theorem splitF_step {l : List UInt8} {p : Nat} (h : p ≤ l.length) : splitF l p = ((l.drop p).take (fl (l.drop p))) :: splitF l (p + fl (l.drop p) + 1) := by
  have hle := fl_le (l.drop p)
  rw [List.length_drop] at hle
  unfold splitF
  rw [if_pos h]
  unfold splitL
  rw [split_fl]
  by_cases h3 : fl (l.drop p) < (l.drop p).length
  · rw [if_pos h3, List.length_drop] at *
    rw [if_pos (by omega), List.nil_append, List.drop_drop, Nat.add_assoc]; rfl
  · rw [if_neg h3, List.length_drop] at *
    rw [if_neg (by omega), List.nil_append, List.take_of_length_le (by rw [List.length_drop]; omega)]
def intV (l : List UInt8) : Option Int :=
  match Lib.parseIntB 64 l with
  | .ok n => if Lib.itoa n = l then some n else none
  | _ => none
theorem intV_some {l : List UInt8} {n : Int} (h : intV l = some n) : in64 n ∧ Lib.itoa n = l := by
  unfold intV at h
  split at h
  · rename_i m hm
    split at h
    · injection h with h
      subst h
      have := Lib.parseIntB_bounds hm
      refine ⟨?_, by assumption⟩
      unfold in64
      simp at this
      omega
    · cases h
  · cases h
def decN (l : List UInt8) : Nat := l.foldl (fun n c => n * 10 + (c.toNat - 48)) 0
theorem decN_snoc (l : List UInt8) (c : UInt8) : decN (l ++ [c]) = decN l * 10 + (c.toNat - 48) := by simp [decN]
theorem snoc_rec {P : List UInt8 → Prop} (h0 : P []) (h1 : ∀ l c, P l → P (l ++ [c])) (l : List UInt8) : P l := by
  have : ∀ r : List UInt8, P r.reverse := by
    intro r
    induction r with
    | nil => exact h0
    | cons c r ih => rw [List.reverse_cons]; exact h1 _ c ih
  have h := this l.reverse
  rwa [List.reverse_reverse] at h
theorem ofd (d : Nat) (h : d < 10) : (UInt8.ofNat (48 + d)).toNat = 48 + d := by
  simp; omega
theorem dig_small {u : Nat} (h : u < 10) : Lib.decDigits u = [UInt8.ofNat (48 + u)] := by rw [Lib.decDigits, dif_pos h]
theorem dig_big {u : Nat} (h : ¬ u < 10) : Lib.decDigits u = Lib.decDigits (u / 10) ++ [UInt8.ofNat (48 + u % 10)] := by rw [Lib.decDigits, dif_neg h]
theorem dig_all (u : Nat) : (Lib.decDigits u).all dgt = true := by
  induction u using Nat.strongRecOn with
  | _ u ih =>
    by_cases h : u < 10
    · rw [dig_small h]; simp [dgt]; omega
    · rw [dig_big h, List.all_append, ih (u / 10) (by omega)]
      simp only [List.all_cons, List.all_nil, dgt, ofd _ (Nat.mod_lt u (by omega : 0 < 10))]
      simp; omega
theorem decN_dig (u : Nat) : decN (Lib.decDigits u) = u := by
  induction u using Nat.strongRecOn with
  | _ u ih =>
    by_cases h : u < 10
    · rw [dig_small h]; simp only [decN, List.foldl_cons, List.foldl_nil, ofd u h]; omega
    · rw [dig_big h, decN_snoc, ih (u / 10) (by omega), ofd _ (Nat.mod_lt u (by omega))]; omega
theorem dig_pos (u : Nat) : 1 ≤ (Lib.decDigits u).length := by
  by_cases h : u < 10
  · rw [dig_small h]; simp
  · rw [dig_big h]; simp
theorem dig_head (u : Nat) (h : 1 ≤ u) : ((Lib.decDigits u).headD 0).toNat ≠ 48 := by
  induction u using Nat.strongRecOn with
  | _ u ih =>
    by_cases h2 : u < 10
    · rw [dig_small h2]; show (UInt8.ofNat (48 + u)).toNat ≠ 48; rw [ofd u h2]; omega
    · rw [dig_big h2]
      have hp := dig_pos (u / 10)
      have hi := ih (u / 10) (by omega) (by omega)
      cases hd : Lib.decDigits (u / 10) with
      | nil => rw [hd] at hp; simp at hp
      | cons c r => rw [hd] at hi; simpa using hi
theorem dig_len (u k : Nat) (h : u < 10 ^ (k + 1)) : (Lib.decDigits u).length ≤ k + 1 := by
  induction k generalizing u with
  | zero => rw [dig_small (by simpa using h)]; simp
  | succ k ih =>
    by_cases h2 : u < 10
    · rw [dig_small h2]; simp
    · rw [dig_big h2]
      have := ih (u / 10) (by rw [Nat.pow_succ] at h; omega)
      simp; omega
theorem decN_pos (l : List UInt8) : l.all dgt = true → 1 ≤ l.length → (l.headD 0).toNat ≠ 48 → 1 ≤ decN l := by
  refine snoc_rec (P := fun l => l.all dgt = true → 1 ≤ l.length → (l.headD 0).toNat ≠ 48 → 1 ≤ decN l) ?_ ?_ l
  · intro _ h; simp at h
  · intro l c ih h1 h2 h3
    rw [List.all_append, Bool.and_eq_true] at h1
    have hc : dgt c = true := by simpa using h1.2
    simp only [dgt, decide_eq_true_eq] at hc
    rw [decN_snoc]
    cases l with
    | nil => simp at h3; simp [decN]; omega
    | cons d r =>
      have := ih h1.1 (by simp) (by simpa using h3)
      omega
/-- Digits whose first isn't 0 are their number's digits. -/
theorem dig_decN (l : List UInt8) : l.all dgt = true → 1 ≤ l.length → ((l.headD 0).toNat ≠ 48 ∨ l.length = 1) → Lib.decDigits (decN l) = l := by
  refine snoc_rec (P := fun l => l.all dgt = true → 1 ≤ l.length → ((l.headD 0).toNat ≠ 48 ∨ l.length = 1) → Lib.decDigits (decN l) = l) ?_ ?_ l
  · intro _ h; simp at h
  · intro l c ih h1 h2 h3
    rw [List.all_append, Bool.and_eq_true] at h1
    have hc : dgt c = true := by simpa using h1.2
    simp only [dgt, decide_eq_true_eq] at hc
    have hcc : UInt8.ofNat (48 + (c.toNat - 48)) = c := by
      rw [show 48 + (c.toNat - 48) = c.toNat by omega]; simp
    rw [decN_snoc]
    cases l with
    | nil =>
      rw [show decN [] = 0 from rfl, Nat.zero_mul, Nat.zero_add, dig_small (by omega), hcc]
      rfl
    | cons d r =>
      have h4 : (d :: r).headD 0 ≠ 48 := by
        rcases h3 with h3 | h3
        · intro e; apply h3; simp at e; simp [e]
        · simp at h3
      have h4' : ((d :: r).headD 0).toNat ≠ 48 := fun e => h4 (UInt8.toNat_inj.1 e)
      have hp := decN_pos (d :: r) h1.1 (by simp) h4'
      have hi := ih h1.1 (by simp) (.inl h4')
      rw [dig_big (by omega), show (decN (d :: r) * 10 + (c.toNat - 48)) / 10 = decN (d :: r) by omega, show (decN (d :: r) * 10 + (c.toNat - 48)) % 10 = c.toNat - 48 by omega, hi, hcc]
theorem decN_lt (l : List UInt8) : l.all dgt = true → decN l < 10 ^ l.length := by
  refine snoc_rec (P := fun l => l.all dgt = true → decN l < 10 ^ l.length) ?_ ?_ l
  · intro _; simp [decN]
  · intro l c ih h1
    rw [List.all_append, Bool.and_eq_true] at h1
    have hc : dgt c = true := by simpa using h1.2
    simp only [dgt, decide_eq_true_eq] at hc
    have := ih h1.1
    rw [decN_snoc, List.length_append, List.length_singleton, Nat.pow_succ]
    omega
theorem parseM_dig (M : Nat) (hM : M < 18446744073709551616) : ∀ (l : List UInt8) (acc : Nat), l.all dgt = true → l.foldl (fun n c => n * 10 + (c.toNat - 48)) acc ≤ M → Lib.parseUintM M acc l = .ok (l.foldl (fun n c => n * 10 + (c.toNat - 48)) acc)
  | [], acc, _, _ => rfl
  | c :: r, acc, h, hb => by
    rw [List.all_cons, Bool.and_eq_true] at h
    have hc := h.1
    simp only [dgt, decide_eq_true_eq] at hc
    have mono : ∀ (r : List UInt8) (a : Nat), a ≤ r.foldl (fun n c => n * 10 + (c.toNat - 48)) a := by
      intro r
      induction r with
      | nil => intro a; exact Nat.le_refl _
      | cons d r ih => intro a; exact Nat.le_trans (by omega) (ih (a * 10 + (d.toNat - 48)))
    have h2 := mono r (acc * 10 + (c.toNat - 48))
    rw [List.foldl_cons] at hb ⊢
    unfold Lib.parseUintM
    rw [if_pos hc, if_neg (by omega), if_neg (by omega)]
    exact parseM_dig M hM r _ h.2 hb
theorem parseB_dig (u : Nat) (h : u < 18446744073709551616) : Lib.parseUintB 64 (Lib.decDigits u) = .ok u := by
  unfold Lib.parseUintB
  have hp := dig_pos u
  rw [if_neg (fun e => by rw [e] at hp; simp at hp)]
  have hd := decN_dig u
  have := parseM_dig (2 ^ 64 - 1) (by omega) (Lib.decDigits u) 0 (dig_all u) (by show decN _ ≤ _; rw [hd]; omega)
  rw [this]
  show Lib.NumEnd.ok (decN _) = _
  rw [hd]
/-- What a number is written as is read as it. -/
theorem intV_itoa {n : Int} (h : in64 n) : intV (Lib.itoa n) = some n := by
  unfold in64 at h
  have hp : Lib.parseIntB 64 (Lib.itoa n) = .ok n := by
    by_cases hn : n < 0
    · obtain ⟨u, rfl⟩ : ∃ u : Nat, n = -(u : Int) := ⟨n.natAbs, by omega⟩
      rw [Lib.itoa_neg u (by omega), Lib.parseIntB_minus, parseB_dig u (by omega)]
      simp only [Lib.signedC]
      rw [if_neg (by omega)]
    · obtain ⟨u, rfl⟩ : ∃ u : Nat, n = (u : Int) := ⟨n.toNat, by omega⟩
      rw [Lib.itoa_nonneg u]
      have hall := dig_all u
      have hpos := dig_pos u
      cases hd : Lib.decDigits u with
      | nil => rw [hd] at hpos; simp at hpos
      | cons c r =>
        rw [hd] at hall
        rw [List.all_cons, Bool.and_eq_true] at hall
        have hc := hall.1
        simp only [dgt, decide_eq_true_eq] at hc
        rw [Lib.parseIntB_plain 64 c r (by omega) (by omega), ← hd, parseB_dig u (by omega)]
        simp only [Lib.signlessC]
        rw [if_neg (by omega)]
  unfold intV
  rw [hp]
  simp
theorem intV_iff {l : List UInt8} {n : Int} : intV l = some n ↔ in64 n ∧ Lib.itoa n = l := ⟨intV_some, fun ⟨h, e⟩ => e ▸ intV_itoa h⟩
end Go.Proofs.YtclcabdekeegdaaGreat
