/- Values, rows, their order and their keys, as plain words: no program is named here. -/
import Derived.Lib.Bytealg
import Derived.Lib.Small
import Derived.Lib.Replace
import Derived.Lib.UnsafeStr
namespace Go.Proofs.Ytkpajmgbiepmbaa
set_option linter.unusedVariables false

/-- A value: its kind, its number, its text. -/
structure V where
  k : Int
  n : Int
  s : ByteArray

def in64 (x : Int) : Prop := -9223372036854775808 ≤ x ∧ x ≤ 9223372036854775807
def V.wf (v : V) : Prop := in64 v.k ∧ in64 v.n ∧ v.s.size ≤ 9223372036854775807
def txt (l : List UInt8) : ByteArray := ⟨l.toArray⟩
theorem txt_list (l : List UInt8) : (txt l).data.toList = l := rfl
theorem txt_data (s : ByteArray) : txt s.data.toList = s := by cases s; simp [txt]
theorem txt_size (l : List UInt8) : (txt l).size = l.length := by simp [txt, ByteArray.size]
theorem size_eq (s : ByteArray) : s.size = s.data.toList.length := by simp
theorem str_ext {a b : ByteArray} (h : a.data.toList = b.data.toList) : a = b := by
  rw [← txt_data a, ← txt_data b, h]

def chk (v : V) : Int :=
  if v.k < 0 ∨ 3 < v.k then 30
  else if v.k = 3 then (if v.n ≠ 0 ∨ 200 < v.s.size then 31 else 0)
  else if v.s.size ≠ 0 ∨ (v.k = 0 ∧ v.n ≠ 0) ∨ (v.k = 2 ∧ v.n ≠ 0 ∧ v.n ≠ 1) then 31 else 0
def allB (l : List V) : Bool := l.all fun v => chk v == 0
def rowB (l : List V) : Bool := decide (l.length ≤ 12) && allB l

theorem chk_kinds {v : V} (h : chk v = 0) : (v.k = 0 ∧ v.n = 0 ∧ v.s.size = 0) ∨ (v.k = 1 ∧ v.s.size = 0) ∨ (v.k = 2 ∧ (v.n = 0 ∨ v.n = 1) ∧ v.s.size = 0) ∨ (v.k = 3 ∧ v.n = 0 ∧ v.s.size ≤ 200) := by
  unfold chk at h
  split at h
  · omega
  · split at h
    · split at h <;> omega
    · split at h <;> omega

theorem empty_of_size {s : ByteArray} (h : s.size = 0) : s = ⟨#[]⟩ := by
  apply str_ext
  rw [size_eq] at h
  exact List.eq_nil_of_length_eq_zero h

/- the key of a row -/
def esc : List UInt8 → List UInt8
  | [] => []
  | c :: r => if c = 0 then 0 :: 255 :: esc r else c :: esc r
def be (n : Nat) : Nat → List UInt8
  | 0 => []
  | m + 1 => UInt8.ofNat (n / 256 ^ m % 256) :: be n m
def keyV (v : V) : List UInt8 :=
  if v.k = 1 then 2 :: be (v.n + 9223372036854775808).toNat 8
  else if v.k = 2 then [3, UInt8.ofNat v.n.toNat]
  else if v.k = 3 then 4 :: (esc v.s.data.toList ++ [0, 0])
  else [UInt8.ofNat (v.k + 1).toNat]
def keyL (l : List V) : List UInt8 := l.flatMap keyV
theorem keyL_nil : keyL [] = [] := rfl
theorem keyL_cons (v : V) (l : List V) : keyL (v :: l) = keyV v ++ keyL l := by simp [keyL]
theorem keyL_append (a b : List V) : keyL (a ++ b) = keyL a ++ keyL b := by simp [keyL]
theorem keyL_snoc (a : List V) (v : V) : keyL (a ++ [v]) = keyL a ++ keyV v := by simp [keyL]

theorem be_length (n m : Nat) : (be n m).length = m := by
  induction m with
  | zero => rfl
  | succ m ih => simp [be, ih]
theorem esc_length (l : List UInt8) : (esc l).length ≤ 2 * l.length := by
  induction l with
  | nil => simp [esc]
  | cons c r ih =>
    unfold esc
    split <;> simp <;> omega
theorem keyV_length {v : V} (h : chk v = 0) : 1 ≤ (keyV v).length ∧ (keyV v).length ≤ 403 := by
  unfold keyV
  have he := esc_length v.s.data.toList
  rcases chk_kinds h with h | h | h | h
  · simp [h.1]
  · simp [h.1, be_length]
  · simp [h.1]
  · have := size_eq v.s
    simp [h.1]; simp at he; omega
theorem keyL_length {l : List V} (h : allB l = true) : (keyL l).length ≤ 403 * l.length := by
  induction l with
  | nil => simp [keyL]
  | cons v r ih =>
    simp only [allB, List.all_cons, Bool.and_eq_true, beq_iff_eq] at h
    have h1 := keyV_length h.1
    have h2 := ih h.2
    rw [keyL_cons]
    simp only [List.length_append, List.length_cons]
    omega

/- reading keys -/
def num (l : List UInt8) : Nat := l.foldl (fun n c => n * 256 + c.toNat) 0
theorem num_snoc (l : List UInt8) (c : UInt8) : num (l ++ [c]) = num l * 256 + c.toNat := by simp [num, List.foldl_append]
theorem fold_eq (l : List UInt8) : ∀ a : Nat, l.foldl (fun n c => n * 256 + c.toNat) a = a * 256 ^ l.length + num l := by
  induction l with
  | nil => intro a; simp [num]
  | cons c r ih =>
    intro a
    have h0 : num (c :: r) = (0 * 256 + c.toNat) * 256 ^ r.length + num r := ih _
    rw [List.foldl_cons, ih, h0, List.length_cons, Nat.pow_succ']
    rw [Nat.add_mul, Nat.add_mul, Nat.mul_assoc]
    omega
theorem num_cons (c : UInt8) (r : List UInt8) : num (c :: r) = c.toNat * 256 ^ r.length + num r := by
  have h0 : num (c :: r) = (0 * 256 + c.toNat) * 256 ^ r.length + num r := fold_eq r _
  rw [h0, Nat.zero_mul, Nat.zero_add]
theorem num_lt (l : List UInt8) : num l < 256 ^ l.length := by
  induction l with
  | nil => simp [num]
  | cons c r ih =>
    rw [num_cons, List.length_cons, Nat.pow_succ']
    have := c.toNat_lt
    have h : c.toNat * 256 ^ r.length ≤ 255 * 256 ^ r.length := Nat.mul_le_mul_right _ (by omega)
    omega
theorem num_be (n m : Nat) (hn : n < 256 ^ m) : num (be n m) = n := by
  suffices h : ∀ (m a : Nat), (be n m).foldl (fun n c => n * 256 + c.toNat) a = a * 256 ^ m + n % 256 ^ m by
    rw [num, h m 0, Nat.mod_eq_of_lt hn]; omega
  intro m
  induction m with
  | zero => intro a; simp [be, Nat.mod_one]
  | succ m ih =>
    intro a
    simp only [be, List.foldl_cons]
    rw [ih, UInt8.toNat_ofNat']
    have e : n % 256 ^ (m + 1) = n / 256 ^ m % 256 * 256 ^ m + n % 256 ^ m := by
      rw [Nat.pow_succ, Nat.mod_mul, Nat.add_comm, Nat.mul_comm (256 ^ m)]
    rw [e]
    have e2 : n / 256 ^ m % 256 % 2 ^ 8 = n / 256 ^ m % 256 := Nat.mod_eq_of_lt (Nat.mod_lt _ (by omega))
    rw [e2, Nat.add_mul, Nat.mul_assoc, ← Nat.pow_succ', Nat.add_assoc]
theorem be_fold (l : List UInt8) : ∀ a : Nat, be (l.foldl (fun n c => n * 256 + c.toNat) a) l.length = l := by
  induction l with
  | nil => intro a; rfl
  | cons c r ih =>
    intro a
    simp only [List.foldl_cons, List.length_cons, be]
    rw [ih]
    congr 1
    have hl := num_lt r
    have hc := c.toNat_lt
    rw [fold_eq r, Nat.mul_comm, Nat.mul_add_div (Nat.pow_pos (by omega)), Nat.div_eq_of_lt hl, Nat.add_zero]
    rw [show (a * 256 + c.toNat) % 256 = c.toNat by omega]
    simp
theorem be_num (l : List UInt8) : be (num l) l.length = l := be_fold l 0
end Go.Proofs.Ytkpajmgbiepmbaa
