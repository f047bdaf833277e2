/- Keys are read back, and stand as their rows do: plain words. -/
import Derived.Test.YtkpajmgbiepmbaaValPlain
namespace Go.Proofs.Ytkpajmgbiepmbaa
open Go.Lib
set_option linter.unusedVariables false

def unesc : List UInt8 → Option (List UInt8 × List UInt8)
  | [] => none
  | [_] => none
  | c :: d :: r =>
    if c ≠ 0 then (unesc (d :: r)).map fun p => (c :: p.1, p.2)
    else if d = 0 then some ([], r)
    else if d = 255 then (unesc r).map fun p => (0 :: p.1, p.2)
    else none
theorem unesc_ne {c : UInt8} (h : c ≠ 0) (x : List UInt8) : unesc (c :: x) = (unesc x).map fun p => (c :: p.1, p.2) := by
  cases x with
  | nil => simp [unesc]
  | cons d r => rw [unesc, if_pos h]
theorem unesc_end (r : List UInt8) : unesc (0 :: 0 :: r) = some ([], r) := by rw [unesc, if_neg (by simp), if_pos rfl]
theorem unesc_zero (r : List UInt8) : unesc (0 :: 255 :: r) = (unesc r).map fun p => (0 :: p.1, p.2) := by
  rw [unesc, if_neg (by simp), if_neg (by decide), if_pos rfl]
theorem unesc_bad {d : UInt8} (h0 : d ≠ 0) (h1 : d ≠ 255) (r : List UInt8) : unesc (0 :: d :: r) = none := by
  rw [unesc, if_neg (by simp), if_neg h0, if_neg h1]
theorem unesc_short {l : List UInt8} (h : l.length < 2) : unesc l = none := by
  match l, h with
  | [], _ => rfl
  | [_], _ => rfl
theorem unesc_esc (t r : List UInt8) : unesc (esc t ++ 0 :: 0 :: r) = some (t, r) := by
  induction t with
  | nil => exact unesc_end r
  | cons c t ih =>
    unfold esc
    by_cases h : c = 0
    · rw [if_pos h, List.cons_append, List.cons_append, unesc_zero, ih, h]; rfl
    · rw [if_neg h, List.cons_append, unesc_ne h, ih]; rfl
theorem esc_unesc : ∀ (s t r : List UInt8), unesc s = some (t, r) → s = esc t ++ 0 :: 0 :: r := by
  intro s
  induction s using unesc.induct with
  | case1 => intro t r h; simp [unesc] at h
  | case2 => intro t r h; simp [unesc] at h
  | case3 c d x hc ih =>
    intro t r h
    rw [unesc, if_pos hc] at h
    cases hx : unesc (d :: x) with
    | none => rw [hx] at h; simp at h
    | some p =>
      rw [hx] at h
      simp only [Option.map_some, Option.some.injEq, Prod.mk.injEq] at h
      obtain ⟨rfl, rfl⟩ := h
      rw [esc, if_neg hc, ih _ _ hx, List.cons_append]
  | case4 c x hc =>
    intro t r h
    obtain rfl : c = 0 := by simpa using hc
    rw [unesc_end] at h
    simp only [Option.some.injEq, Prod.mk.injEq] at h
    obtain ⟨rfl, rfl⟩ := h
    rfl
  | case5 c x hc hd ih =>
    intro t r h
    obtain rfl : c = 0 := by simpa using hc
    rw [unesc_zero] at h
    cases hx : unesc x with
    | none => rw [hx] at h; simp at h
    | some p =>
      rw [hx] at h
      simp only [Option.map_some, Option.some.injEq, Prod.mk.injEq] at h
      obtain ⟨rfl, rfl⟩ := h
      rw [esc, if_pos rfl, ih _ _ hx, List.cons_append, List.cons_append]
  | case6 c d x hc hd hd2 =>
    intro t r h
    obtain rfl : c = 0 := by simpa using hc
    rw [unesc_bad hd hd2] at h
    simp at h

def mt : ByteArray := ⟨#[]⟩
theorem mt_size : mt.size = 0 := rfl
/-- The value with whose key l begins, and what is behind that. -/
def firstL : List UInt8 → Option (V × List UInt8)
  | [] => none
  | c :: r =>
    if c = 1 then some (⟨0, 0, mt⟩, r)
    else if c = 2 then (if r.length < 8 then none else some (⟨1, (num (r.take 8) : Int) - 9223372036854775808, mt⟩, r.drop 8))
    else if c = 3 then (match r with
      | [] => none
      | b :: r' => if b = 0 ∨ b = 1 then some (⟨2, b.toNat, mt⟩, r') else none)
    else if c = 4 then (match unesc r with
      | none => none
      | some p => if p.1.length ≤ 200 then some (⟨3, 0, txt p.1⟩, p.2) else none)
    else none

theorem firstL_cons (c : UInt8) (r : List UInt8) : firstL (c :: r) =
    if c = 1 then some (⟨0, 0, mt⟩, r)
    else if c = 2 then (if r.length < 8 then none else some (⟨1, (num (r.take 8) : Int) - 9223372036854775808, mt⟩, r.drop 8))
    else if c = 3 then (match r with
      | [] => none
      | b :: r' => if b = 0 ∨ b = 1 then some (⟨2, b.toNat, mt⟩, r') else none)
    else if c = 4 then (match unesc r with
      | none => none
      | some p => if p.1.length ≤ 200 then some (⟨3, 0, txt p.1⟩, p.2) else none)
    else none := rfl
theorem first_key {v : V} (hc : chk v = 0) (hw : v.wf) (r : List UInt8) : firstL (keyV v ++ r) = some (v, r) := by
  obtain ⟨k, n, s⟩ := v
  obtain ⟨_, hn, _⟩ := hw
  simp only [in64] at hn
  rcases chk_kinds hc with h | h | h | h <;> dsimp only at h
  · obtain ⟨rfl, rfl, hs⟩ := h
    obtain rfl := empty_of_size hs
    simp [keyV, firstL, mt]
  · obtain ⟨rfl, hs⟩ := h
    obtain rfl := empty_of_size hs
    have hl := be_length (n + 9223372036854775808).toNat 8
    have hnum := num_be (n + 9223372036854775808).toNat 8 (by omega)
    simp only [keyV, firstL, if_pos, List.cons_append]
    rw [if_neg (by decide), if_neg (by simp [hl]), List.take_append_of_le_length (by omega), List.take_of_length_le (by omega), hnum, List.drop_append_of_le_length (by omega), List.drop_of_length_le (by omega)]
    simp only [List.nil_append, mt, Option.some.injEq, Prod.mk.injEq, V.mk.injEq, and_true, true_and]
    omega
  · obtain ⟨rfl, hb, hs⟩ := h
    obtain rfl := empty_of_size hs
    rcases hb with rfl | rfl <;> simp [keyV, firstL, mt]
  · obtain ⟨rfl, rfl, hs⟩ := h
    rw [size_eq] at hs
    have e : keyV ⟨3, 0, s⟩ ++ r = 4 :: (esc s.data.toList ++ 0 :: 0 :: r) := by simp [keyV]
    rw [e, firstL_cons, if_neg (by decide), if_neg (by decide), if_neg (by decide), if_pos rfl, unesc_esc]
    simp only [if_pos hs, txt_data]
theorem key_first {s : List UInt8} {v : V} {r : List UInt8} (h : firstL s = some (v, r)) : chk v = 0 ∧ v.wf ∧ s = keyV v ++ r := by
  cases s with
  | nil => simp [firstL] at h
  | cons c x =>
    rw [firstL_cons] at h
    split at h
    · rename_i hc
      simp only [Option.some.injEq, Prod.mk.injEq] at h
      obtain ⟨rfl, rfl⟩ := h
      exact ⟨by decide, by simp [V.wf, in64, mt_size], by rw [hc]; rfl⟩
    · split at h
      · rename_i hc
        split at h
        · cases h
        · rename_i hl
          simp only [Option.some.injEq, Prod.mk.injEq] at h
          obtain ⟨rfl, rfl⟩ := h
          have h8 : (x.take 8).length = 8 := by rw [List.length_take]; omega
          have hlt := num_lt (x.take 8)
          rw [h8] at hlt
          refine ⟨by simp [chk, mt_size], by simp only [V.wf, in64, mt_size]; omega, ?_⟩
          have e : ((num (x.take 8) : Int) - 9223372036854775808 + 9223372036854775808).toNat = num (x.take 8) := by omega
          have hb := be_num (x.take 8)
          rw [h8] at hb
          simp only [keyV, if_true]
          rw [e, hb, List.cons_append, List.take_append_drop, hc]
      · split at h
        · rename_i hc
          cases x with
          | nil => simp at h
          | cons b x =>
            simp only at h
            split at h
            · rename_i hb
              simp only [Option.some.injEq, Prod.mk.injEq] at h
              obtain ⟨rfl, rfl⟩ := h
              rcases hb with rfl | rfl <;> exact ⟨by decide, by simp [V.wf, in64, mt_size], by rw [hc]; rfl⟩
            · cases h
        · split at h
          · rename_i hc
            cases hx : unesc x with
            | none => rw [hx] at h; simp at h
            | some p =>
              obtain ⟨t, y⟩ := p
              rw [hx] at h
              simp only at h
              split at h
              · rename_i hl
                simp only [Option.some.injEq, Prod.mk.injEq] at h
                obtain ⟨rfl, rfl⟩ := h
                refine ⟨by simp [chk, txt_size]; omega, by simp only [V.wf, in64, txt_size]; omega, ?_⟩
                simp only [keyV, txt_list]
                rw [esc_unesc _ _ _ hx, hc]
                simp
              · cases h
          · cases h
theorem first_len {s : List UInt8} {v : V} {r : List UInt8} (h : firstL s = some (v, r)) : r.length < s.length := by
  obtain ⟨hc, _, rfl⟩ := key_first h
  have := keyV_length hc
  rw [List.length_append]
  omega

/-- The row of at most m values of which the bytes are the key. -/
def unkeyG : Nat → List UInt8 → Option (List V)
  | _, [] => some []
  | 0, _ :: _ => none
  | m + 1, c :: s => match firstL (c :: s) with
    | none => none
    | some p => (unkeyG m p.2).map (p.1 :: ·)
theorem unkeyG_nil (m : Nat) : unkeyG m [] = some [] := by cases m <;> rfl
theorem unkeyG_zero {s : List UInt8} (h : s ≠ []) : unkeyG 0 s = none := by
  cases s with
  | nil => exact absurd rfl h
  | cons c s => rfl
theorem unkeyG_bad {m : Nat} {s : List UInt8} (h : s ≠ []) (hf : firstL s = none) : unkeyG m s = none := by
  cases s with
  | nil => exact absurd rfl h
  | cons c s =>
    cases m with
    | zero => rfl
    | succ m => rw [unkeyG, hf]
theorem unkeyG_step {m : Nat} {s : List UInt8} {p : V × List UInt8} (hf : firstL s = some p) : unkeyG (m + 1) s = (unkeyG m p.2).map (p.1 :: ·) := by
  cases s with
  | nil => simp [firstL] at hf
  | cons c s => rw [unkeyG, hf]
theorem unkey_key : ∀ (m : Nat) (l : List V), l.length ≤ m → allB l = true → (∀ v ∈ l, v.wf) → unkeyG m (keyL l) = some l
  | m, [], _, _, _ => unkeyG_nil m
  | 0, v :: l, h, _, _ => by simp at h
  | m + 1, v :: l, h, ha, hw => by
    simp only [allB, List.all_cons, Bool.and_eq_true, beq_iff_eq] at ha
    simp only [List.mem_cons, forall_eq_or_imp] at hw
    rw [keyL_cons, unkeyG_step (first_key ha.1 hw.1 _)]
    simp only
    rw [unkey_key m l (by simpa using h) ha.2 hw.2]
    rfl
theorem key_unkey : ∀ (m : Nat) (s : List UInt8) (l : List V), unkeyG m s = some l → l.length ≤ m ∧ allB l = true ∧ (∀ v ∈ l, v.wf) ∧ keyL l = s
  | m, [], l, h => by
    rw [unkeyG_nil] at h
    simp only [Option.some.injEq] at h
    subst h
    exact ⟨Nat.zero_le _, rfl, by simp, rfl⟩
  | 0, c :: s, l, h => by simp [unkeyG] at h
  | m + 1, c :: s, l, h => by
    rw [unkeyG] at h
    cases hf : firstL (c :: s) with
    | none => rw [hf] at h; simp at h
    | some p =>
      rw [hf] at h
      simp only at h
      cases hu : unkeyG m p.2 with
      | none => rw [hu] at h; simp at h
      | some l' =>
        rw [hu] at h
        simp only [Option.map_some, Option.some.injEq] at h
        subst h
        obtain ⟨h1, h2, h3, h4⟩ := key_unkey m _ _ hu
        obtain ⟨hc, hw, hs⟩ := key_first (v := p.1) (r := p.2) hf
        refine ⟨by simpa using h1, ?_, ?_, ?_⟩
        · simp only [allB, List.all_cons, Bool.and_eq_true, beq_iff_eq]
          exact ⟨hc, h2⟩
        · simp only [List.mem_cons, forall_eq_or_imp]
          exact ⟨hw, h3⟩
        · rw [keyL_cons, h4, ← hs]

/- the order -/
def cmpV (a b : V) : Int :=
  if compareInt a.k b.k ≠ 0 then compareInt a.k b.k
  else if compareInt a.n b.n ≠ 0 then compareInt a.n b.n
  else compareBytes a.s.data.toList b.s.data.toList
def cmpR : List V → List V → Int
  | [], [] => 0
  | [], _ :: _ => -1
  | _ :: _, [] => 1
  | a :: as, b :: bs => if cmpV a b ≠ 0 then cmpV a b else cmpR as bs

theorem compareInt_zero {a b : Int} : compareInt a b = 0 ↔ a = b := by
  unfold compareInt
  split
  · constructor <;> intro h <;> omega
  · split
    · constructor <;> intro h <;> omega
    · constructor <;> intro h <;> omega
theorem compareBytes_self (a : List UInt8) : compareBytes a a = 0 := by
  induction a with
  | nil => rfl
  | cons c a ih => rw [compareBytes, if_neg (UInt8.lt_irrefl c), if_neg (UInt8.lt_irrefl c), ih]
theorem compareBytes_same (c : UInt8) (x y : List UInt8) : compareBytes (c :: x) (c :: y) = compareBytes x y := by
  rw [compareBytes, if_neg (UInt8.lt_irrefl c), if_neg (UInt8.lt_irrefl c)]
theorem compareBytes_zero : ∀ {a b : List UInt8}, compareBytes a b = 0 → a = b
  | [], [], _ => rfl
  | [], _ :: _, h => by simp [compareBytes] at h
  | _ :: _, [], h => by simp [compareBytes] at h
  | c :: a, d :: b, h => by
    rw [compareBytes] at h
    split at h
    · omega
    · split at h
      · omega
      · rename_i h1 h2
        have : c = d := by
          rw [UInt8.lt_iff_toNat_lt] at h1 h2
          exact UInt8.toNat_inj.1 (by omega)
        rw [this, compareBytes_zero h]
theorem compareBytes_front (p x y : List UInt8) : compareBytes (p ++ x) (p ++ y) = compareBytes x y := by
  induction p with
  | nil => rfl
  | cons c p ih => rw [List.cons_append, List.cons_append, compareBytes, if_neg (UInt8.lt_irrefl c), if_neg (UInt8.lt_irrefl c), ih]
theorem cmpV_zero {a b : V} : cmpV a b = 0 ↔ a = b := by
  constructor
  · intro h
    unfold cmpV at h
    split at h
    · contradiction
    · split at h
      · contradiction
      · rename_i h1 h2
        obtain ⟨_, _, _⟩ := a
        obtain ⟨_, _, _⟩ := b
        rw [V.mk.injEq]
        exact ⟨compareInt_zero.1 (by simpa using h1), compareInt_zero.1 (by simpa using h2), str_ext (compareBytes_zero h)⟩
  · rintro rfl
    unfold cmpV
    rw [if_neg (by simp [compareInt_zero]), if_neg (by simp [compareInt_zero]), compareBytes_self]
theorem cmpR_zero : ∀ {a b : List V}, cmpR a b = 0 ↔ a = b
  | [], [] => by simp [cmpR]
  | [], _ :: _ => by simp [cmpR]
  | _ :: _, [] => by simp [cmpR]
  | v :: a, u :: b => by
    rw [cmpR]
    split
    · rename_i h
      constructor
      · intro h'; contradiction
      · intro h'
        rw [List.cons.injEq] at h'
        exact absurd (cmpV_zero.2 h'.1) h
    · rename_i h
      rw [cmpR_zero, List.cons.injEq]
      have := cmpV_zero.1 (by simpa using h : cmpV v u = 0)
      simp [this]

theorem cmp_be (m n n' : Nat) (x y : List UInt8) : compareBytes (be n m ++ x) (be n' m ++ y) = if n % 256 ^ m < n' % 256 ^ m then -1 else if n' % 256 ^ m < n % 256 ^ m then 1 else compareBytes x y := by
  induction m with
  | zero => simp [be, Nat.mod_one]
  | succ m ih =>
    simp only [be, List.cons_append]
    rw [compareBytes, ih]
    have e : ∀ n : Nat, n % 256 ^ (m + 1) = n / 256 ^ m % 256 * 256 ^ m + n % 256 ^ m := fun n => by
      rw [Nat.pow_succ, Nat.mod_mul, Nat.add_comm, Nat.mul_comm (256 ^ m)]
    have hd := Nat.mod_lt (n / 256 ^ m) (show 256 > 0 by omega)
    have hd' := Nat.mod_lt (n' / 256 ^ m) (show 256 > 0 by omega)
    have hr := Nat.mod_lt n (Nat.pow_pos (n := m) (show 256 > 0 by omega))
    have hr' := Nat.mod_lt n' (Nat.pow_pos (n := m) (show 256 > 0 by omega))
    rw [e n, e n']
    simp only [UInt8.lt_iff_toNat_lt, UInt8.toNat_ofNat']
    rw [show (2 : Nat) ^ 8 = 256 from rfl, Nat.mod_eq_of_lt hd, Nat.mod_eq_of_lt hd']
    generalize n / 256 ^ m % 256 = d at *
    generalize n' / 256 ^ m % 256 = d' at *
    generalize n % 256 ^ m = r at *
    generalize n' % 256 ^ m = r' at *
    generalize 256 ^ m = B at *
    rcases Nat.lt_trichotomy d d' with h | h | h
    · have : (d + 1) * B ≤ d' * B := Nat.mul_le_mul_right _ h
      rw [Nat.add_mul] at this
      rw [if_pos h, if_pos (by omega)]
    · subst h
      rw [if_neg (Nat.lt_irrefl d), if_neg (Nat.lt_irrefl d)]
      by_cases h1 : r < r'
      · rw [if_pos h1, if_pos (show d * B + r < d * B + r' by omega)]
      · rw [if_neg h1, if_neg (show ¬ d * B + r < d * B + r' by omega)]
        by_cases h2 : r' < r
        · rw [if_pos h2, if_pos (show d * B + r' < d * B + r by omega)]
        · rw [if_neg h2, if_neg (show ¬ d * B + r' < d * B + r by omega)]
    · have : (d' + 1) * B ≤ d * B := Nat.mul_le_mul_right _ h
      rw [Nat.add_mul] at this
      rw [if_neg (by omega), if_pos h, if_neg (by omega), if_pos (by omega)]

theorem cmp_esc : ∀ (a b x y : List UInt8), compareBytes (esc a ++ 0 :: 0 :: x) (esc b ++ 0 :: 0 :: y) = if compareBytes a b ≠ 0 then compareBytes a b else compareBytes x y
  | [], [], x, y => by simp [esc, compareBytes]
  | [], d :: b, x, y => by
    by_cases h : d = 0
    · subst h
      simp [esc, compareBytes]
    · have : (0 : UInt8) < d := by
        rw [UInt8.lt_iff_toNat_lt]
        have : d.toNat ≠ 0 := fun e => h (UInt8.toNat_inj.1 e)
        simp; omega
      simp [esc, compareBytes, h, this]
  | c :: a, [], x, y => by
    by_cases h : c = 0
    · subst h
      simp [esc, compareBytes]
    · have : (0 : UInt8) < c := by
        rw [UInt8.lt_iff_toNat_lt]
        have : c.toNat ≠ 0 := fun e => h (UInt8.toNat_inj.1 e)
        simp; omega
      have h2 : ¬ c < (0 : UInt8) := by rw [UInt8.lt_iff_toNat_lt]; simp
      simp [esc, compareBytes, h, this, h2]
  | c :: a, d :: b, x, y => by
    have ih := cmp_esc a b x y
    by_cases hc : c = 0
    · by_cases hd : d = 0
      · subst hc hd
        simp only [esc, if_true, List.cons_append]
        rw [compareBytes, if_neg (UInt8.lt_irrefl _), if_neg (UInt8.lt_irrefl _), compareBytes, if_neg (UInt8.lt_irrefl _), if_neg (UInt8.lt_irrefl _), ih]
        rw [compareBytes, if_neg (UInt8.lt_irrefl _), if_neg (UInt8.lt_irrefl _)]
      · subst hc
        have : (0 : UInt8) < d := by
          rw [UInt8.lt_iff_toNat_lt]
          have : d.toNat ≠ 0 := fun e => hd (UInt8.toNat_inj.1 e)
          simp; omega
        simp [esc, compareBytes, hd, this]
    · by_cases hd : d = 0
      · subst hd
        have : (0 : UInt8) < c := by
          rw [UInt8.lt_iff_toNat_lt]
          have : c.toNat ≠ 0 := fun e => hc (UInt8.toNat_inj.1 e)
          simp; omega
        have h2 : ¬ c < (0 : UInt8) := by rw [UInt8.lt_iff_toNat_lt]; simp
        simp [esc, compareBytes, hc, this, h2]
      · simp only [esc, if_neg hc, if_neg hd, List.cons_append]
        rw [compareBytes]
        by_cases h1 : c < d
        · simp [compareBytes, h1]
        · by_cases h2 : d < c
          · simp [compareBytes, h1, h2]
          · rw [if_neg h1, if_neg h2, ih, compareBytes, if_neg h1, if_neg h2]

theorem cmp_keyV {a b : V} (ha : chk a = 0) (hb : chk b = 0) (wa : a.wf) (wb : b.wf) (x y : List UInt8) :
    compareBytes (keyV a ++ x) (keyV b ++ y) = if cmpV a b ≠ 0 then cmpV a b else compareBytes x y := by
  obtain ⟨k, n, s⟩ := a
  obtain ⟨k', n', s'⟩ := b
  obtain ⟨_, wn, _⟩ := wa
  obtain ⟨_, wn', _⟩ := wb
  simp only [in64] at wn wn'
  have ka := chk_kinds ha
  have kb := chk_kinds hb
  dsimp only at ka kb
  have key1 : ∀ (v : V), chk v = 0 → ∃ r, keyV v = UInt8.ofNat (v.k + 1).toNat :: r := by
    intro v hv
    rcases chk_kinds hv with h | h | h | h <;> simp [keyV, h.1]
  by_cases hk : k = k'
  · subst hk
    have e0 : compareInt k k = 0 := compareInt_zero.2 rfl
    unfold cmpV
    simp only [e0, ne_eq, not_true, if_false]
    rcases ka with h | h | h | h
    · obtain ⟨rfl, rfl, hs⟩ := h
      obtain ⟨_, rfl, hs'⟩ : 0 = (0 : Int) ∧ n' = 0 ∧ s'.size = 0 := by omega
      obtain rfl := empty_of_size hs
      obtain rfl := empty_of_size hs'
      simp [keyV, compareInt, compareBytes]
    · obtain ⟨rfl, hs⟩ := h
      have hs' : s'.size = 0 := by omega
      obtain rfl := empty_of_size hs
      obtain rfl := empty_of_size hs'
      simp only [keyV, if_true, List.cons_append]
      rw [compareBytes_same, cmp_be]
      have e : ∀ n : Int, -9223372036854775808 ≤ n ∧ n ≤ 9223372036854775807 → (n + 9223372036854775808).toNat % 256 ^ 8 = (n + 9223372036854775808).toNat := fun n h => Nat.mod_eq_of_lt (by omega)
      rw [e n wn, e n' wn']
      simp only [compareInt, compareBytes]
      by_cases h1 : n < n'
      · rw [if_pos (by omega)]; simp [h1]
      · by_cases h2 : n' < n
        · rw [if_neg (by omega), if_pos (by omega)]; simp [h1, h2]
        · rw [if_neg (by omega), if_neg (by omega)]; simp [h1, h2]
    · obtain ⟨rfl, hn, hs⟩ := h
      obtain ⟨hn', hs'⟩ : (n' = 0 ∨ n' = 1) ∧ s'.size = 0 := by omega
      obtain rfl := empty_of_size hs
      obtain rfl := empty_of_size hs'
      rcases hn with rfl | rfl <;> rcases hn' with rfl | rfl <;> simp [keyV, compareInt, compareBytes] <;> decide
    · obtain ⟨rfl, rfl, hs⟩ := h
      obtain ⟨rfl, hs'⟩ : n' = 0 ∧ s'.size ≤ 200 := by omega
      have e1 : compareInt 0 0 = 0 := rfl
      simp only [keyV, List.cons_append, List.append_assoc, List.nil_append, e1, not_true, if_false, Int.reduceEq, if_true]
      rw [compareBytes_same, cmp_esc]
  · obtain ⟨r, hr⟩ := key1 _ ha
    obtain ⟨r', hr'⟩ := key1 _ hb
    dsimp only at hr hr'
    have e0 : compareInt k k' ≠ 0 := fun e => hk (compareInt_zero.1 e)
    have ec : cmpV ⟨k, n, s⟩ ⟨k', n', s'⟩ = compareInt k k' := by unfold cmpV; exact if_pos e0
    rw [ec, if_pos e0, hr, hr', List.cons_append, List.cons_append, compareBytes]
    simp only [UInt8.lt_iff_toNat_lt, UInt8.toNat_ofNat']
    unfold compareInt
    by_cases h : k < k'
    · rw [if_pos h, if_pos (by omega)]
    · rw [if_neg h, if_neg (by omega), if_pos (by omega), if_pos (by omega)]

theorem cmp_key : ∀ (a b : List V), allB a = true → allB b = true → (∀ v ∈ a, v.wf) → (∀ v ∈ b, v.wf) → compareBytes (keyL a) (keyL b) = cmpR a b
  | [], [], _, _, _, _ => rfl
  | [], v :: b, _, hb, _, _ => by
    simp only [allB, List.all_cons, Bool.and_eq_true, beq_iff_eq] at hb
    have := keyV_length hb.1
    rw [keyL_nil, keyL_cons, cmpR]
    cases h : keyV v ++ keyL b with
    | nil => have := congrArg List.length h; rw [List.length_append, List.length_nil] at this; omega
    | cons c r => rfl
  | v :: a, [], ha, _, _, _ => by
    simp only [allB, List.all_cons, Bool.and_eq_true, beq_iff_eq] at ha
    have := keyV_length ha.1
    rw [keyL_nil, keyL_cons, cmpR]
    cases h : keyV v ++ keyL a with
    | nil => have := congrArg List.length h; rw [List.length_append, List.length_nil] at this; omega
    | cons c r => rfl
  | v :: a, u :: b, ha, hb, wa, wb => by
    simp only [allB, List.all_cons, Bool.and_eq_true, beq_iff_eq] at ha hb
    simp only [List.mem_cons, forall_eq_or_imp] at wa wb
    rw [keyL_cons, keyL_cons, cmp_keyV ha.1 hb.1 wa.1 wb.1, cmp_key a b ha.2 hb.2 wa.2 wb.2, cmpR]
end Go.Proofs.Ytkpajmgbiepmbaa
