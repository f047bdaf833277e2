/- Several texts in one: FraPlain, FraCrc. -/
import Derived.Test.YtkcnmajjfljilaaGreatDoorCrcPlain
import Derived.Test.YtkcnmajjfljilaaGreatDoorMem
/- Frames as plain lists of bytes. No program is named here. -/
namespace Go.Proofs.YtkcnmajjfljilaaGreatDoor
set_option linter.unusedVariables false

/-- A number's four bytes, the highest first. -/
def be4 (n : Nat) : List UInt8 := [UInt8.ofNat (n / 16777216), UInt8.ofNat (n / 65536), UInt8.ofNat (n / 256), UInt8.ofNat n]
/-- The number of the first four bytes. -/
def nb (l : List UInt8) : Nat := (l.getD 0 0).toNat * 16777216 + (l.getD 1 0).toNat * 65536 + (l.getD 2 0).toNat * 256 + (l.getD 3 0).toNat
/-- The frame of x. -/
def fr (x : List UInt8) : List UInt8 := be4 x.length ++ (be4 (moreN 0 (be4 x.length ++ x)) ++ x)
/-- What the frame with which l begins is of. -/
def fst (l : List UInt8) : Option (List UInt8) :=
  if l.length < 8 then none else if l.length - 8 < nb l then none
  else if nb (l.drop 4) = moreN 0 (l.take 4 ++ (l.drop 8).take (nb l)) then some ((l.drop 8).take (nb l)) else none

theorem u8n (n : Nat) : (UInt8.ofNat n).toNat = n % 256 := by simp
theorem be4_length (n : Nat) : (be4 n).length = 4 := rfl
theorem nb_lt (l : List UInt8) : nb l < 4294967296 := by
  unfold nb
  have h0 := (l.getD 0 0).toNat_lt
  have h1 := (l.getD 1 0).toNat_lt
  have h2 := (l.getD 2 0).toNat_lt
  have h3 := (l.getD 3 0).toNat_lt
  omega
theorem nb_be4 {n : Nat} (h : n < 4294967296) (r : List UInt8) : nb (be4 n ++ r) = n := by
  unfold nb be4
  simp only [List.cons_append, List.nil_append, List.getD_cons_zero, List.getD_cons_succ, u8n]
  omega
theorem be4_nb {l : List UInt8} (h : 4 ≤ l.length) : be4 (nb l) = l.take 4 := by
  match l, h with
  | a :: b :: c :: d :: r, _ =>
    have h0 := a.toNat_lt
    have h1 := b.toNat_lt
    have h2 := c.toNat_lt
    have h3 := d.toNat_lt
    unfold be4 nb
    simp only [List.getD_cons_zero, List.getD_cons_succ, List.take_succ_cons, List.take_zero, List.cons.injEq, and_true]
    refine ⟨?_, ?_, ?_, ?_⟩ <;> (apply UInt8.toNat_inj.1; rw [u8n]; omega)
theorem be4_inj {a b : Nat} (ha : a < 4294967296) (hb : b < 4294967296) (h : be4 a = be4 b) : a = b := by
  have := nb_be4 ha []
  rw [h, nb_be4 hb] at this
  exact this.symm
theorem fr_length (x : List UInt8) : (fr x).length = 8 + x.length := by
  unfold fr; rw [List.length_append, List.length_append, be4_length, be4_length]; omega
theorem drop_be4 (n : Nat) (r : List UInt8) : (be4 n ++ r).drop 4 = r := rfl
theorem take_be4 (n : Nat) (r : List UInt8) : (be4 n ++ r).take 4 = be4 n := rfl

theorem fst_none_short {l : List UInt8} (h : l.length < 8) : fst l = none := by unfold fst; rw [if_pos h]
theorem fst_none_far {l : List UInt8} (h : ¬ l.length < 8) (h2 : l.length - 8 < nb l) : fst l = none := by unfold fst; rw [if_neg h, if_pos h2]
theorem fst_none_sum {l : List UInt8} (h3 : nb (l.drop 4) ≠ moreN 0 (l.take 4 ++ (l.drop 8).take (nb l))) : fst l = none := by
  unfold fst; rw [if_neg h3]; repeat' split
  all_goals rfl
theorem fst_some {l : List UInt8} (h : ¬ l.length < 8) (h2 : ¬ l.length - 8 < nb l) (h3 : nb (l.drop 4) = moreN 0 (l.take 4 ++ (l.drop 8).take (nb l))) : fst l = some ((l.drop 8).take (nb l)) := by
  unfold fst; rw [if_neg h, if_neg h2, if_pos h3]
/-- A frame is what was made of its bytes. -/
theorem fst_back {l x : List UInt8} (h : fst l = some x) : 8 + x.length ≤ l.length ∧ x.length < 4294967296 ∧ x = (l.drop 8).take x.length ∧ nb l = x.length ∧ l = fr x ++ l.drop (8 + x.length) := by
  unfold fst at h
  split at h
  · cases h
  · rename_i h8
    split at h
    · cases h
    · rename_i hf
      split at h
      · rename_i hs
        injection h with h
        have hl : x.length = nb l := by rw [← h, List.length_take, List.length_drop]; omega
        have hlt := nb_lt l
        rw [h] at hs
        refine ⟨by omega, by omega, by rw [hl]; exact h.symm, hl.symm, ?_⟩
        have e1 : be4 x.length = l.take 4 := by rw [hl]; exact be4_nb (by omega)
        have e2 : be4 (moreN 0 (l.take 4 ++ x)) = (l.drop 4).take 4 := by rw [← hs]; exact be4_nb (by rw [List.length_drop]; omega)
        unfold fr
        rw [e1, e2]
        have e3 : l.drop 8 = x ++ l.drop (8 + x.length) := by
          rw [← List.drop_drop]
          conv => lhs; rw [← List.take_append_drop x.length (l.drop 8)]
          congr 1
          rw [hl]; exact h
        rw [List.append_assoc, List.append_assoc, ← e3]
        have e4 : l.drop 4 = (l.drop 4).take 4 ++ l.drop 8 := by
          conv => lhs; rw [← List.take_append_drop 4 (l.drop 4)]
          rw [List.drop_drop]
        rw [← e4, List.take_append_drop]
      · cases h
/-- Each frame is told, whatever stands behind it. -/
theorem fst_fr {x : List UInt8} (hx : x.length < 4294967296) (r : List UInt8) : fst (fr x ++ r) = some x := by
  have hl : (fr x ++ r).length = 8 + x.length + r.length := by rw [List.length_append, fr_length]
  have hn : nb (fr x ++ r) = x.length := by unfold fr; rw [List.append_assoc]; exact nb_be4 hx _
  have d4 : (fr x ++ r).drop 4 = be4 (moreN 0 (be4 x.length ++ x)) ++ (x ++ r) := by unfold fr; rw [List.append_assoc, drop_be4, List.append_assoc]
  have d8 : (fr x ++ r).drop 8 = x ++ r := by rw [show 8 = 4 + 4 from rfl, ← List.drop_drop, d4, drop_be4]
  have t4 : (fr x ++ r).take 4 = be4 x.length := by unfold fr; rw [List.append_assoc, take_be4]
  have tx : (x ++ r).take x.length = x := by simp
  have := fst_some (l := fr x ++ r) (by omega) (by omega) (by rw [d4, t4, d8, hn, tx]; exact nb_be4 (moreN_lt _ _) _)
  rw [this, d8, hn, tx]
theorem fst_own {x : List UInt8} (hx : x.length < 4294967296) : fst (fr x) = some x := by
  have := fst_fr hx []
  rwa [List.append_nil] at this
/-- A frame that is cut off is none. -/
theorem fst_cut {x : List UInt8} (hx : x.length < 4294967296) (r : List UInt8) (k : Nat) (hk : k < 8 + x.length) : fst ((fr x ++ r).take k) = none := by
  have hl : ((fr x ++ r).take k).length = k := by rw [List.length_take, List.length_append, fr_length]; omega
  by_cases h8 : k < 8
  · exact fst_none_short (by omega)
  · refine fst_none_far (by omega) ?_
    have : nb ((fr x ++ r).take k) = x.length := by
      have e : (fr x ++ r).take k = be4 x.length ++ ((be4 (moreN 0 (be4 x.length ++ x)) ++ x) ++ r).take (k - 4) := by
        unfold fr
        rw [List.append_assoc, List.take_append, be4_length, List.take_of_length_le (by rw [be4_length]; omega)]
      rw [e]; exact nb_be4 hx _
    omega

/-- All frames with which l begins. -/
def frs (l : List UInt8) : List (List UInt8) :=
  match h : fst l with
  | none => []
  | some x => x :: frs (l.drop (8 + x.length))
termination_by l.length
decreasing_by
  have := (fst_back h).1
  rw [List.length_drop]; omega
theorem frs_none {l : List UInt8} (h : fst l = none) : frs l = [] := by
  rw [frs]; split
  · rfl
  · rename_i x hx; rw [h] at hx; cases hx
theorem frs_some {l x : List UInt8} (h : fst l = some x) : frs l = x :: frs (l.drop (8 + x.length)) := by
  rw [frs]; split
  · rename_i hx; rw [h] at hx; cases hx
  · rename_i y hy; rw [h] at hy; injection hy with hy; subst hy; rfl
/-- How many bytes the frames of these have. -/
def tot (xs : List (List UInt8)) : Nat := (xs.map fun x => 8 + x.length).sum
theorem tot_nil : tot [] = 0 := rfl
theorem tot_cons (x : List UInt8) (xs : List (List UInt8)) : tot (x :: xs) = 8 + x.length + tot xs := by simp [tot]
theorem tot_append (xs ys : List (List UInt8)) : tot (xs ++ ys) = tot xs + tot ys := by simp [tot]
theorem tot_snoc (xs : List (List UInt8)) (x : List UInt8) : tot (xs ++ [x]) = tot xs + (8 + x.length) := by simp [tot]
/-- pre has been told of l, up to a place. -/
def Sofar (l : List UInt8) (pre : List (List UInt8)) : Prop := tot pre ≤ l.length ∧ frs l = pre ++ frs (l.drop (tot pre))
theorem Sofar.start (l : List UInt8) : Sofar l [] := ⟨Nat.zero_le _, rfl⟩
theorem Sofar.next {l x : List UInt8} {pre : List (List UInt8)} (h : Sofar l pre) (hx : fst (l.drop (tot pre)) = some x) : Sofar l (pre ++ [x]) := by
  have h8 := (fst_back hx).1
  rw [List.length_drop] at h8
  have h1 := h.1
  refine ⟨by rw [tot_snoc]; omega, ?_⟩
  rw [h.2, frs_some hx, tot_snoc, List.drop_drop, List.append_assoc, List.cons_append, List.nil_append]
theorem Sofar.all {l : List UInt8} {pre : List (List UInt8)} (h : Sofar l pre) (hx : fst (l.drop (tot pre)) = none) : frs l = pre := by
  rw [h.2, frs_none hx, List.append_nil]
theorem Sofar.le {l : List UInt8} {pre : List (List UInt8)} (h : Sofar l pre) : pre.length * 8 ≤ l.length := by
  have h1 := h.1
  have : ∀ xs : List (List UInt8), xs.length * 8 ≤ tot xs := by
    intro xs
    induction xs with
    | nil => exact Nat.le_refl _
    | cons x xs ih => rw [tot_cons, List.length_cons]; omega
  have := this pre
  omega
theorem Sofar.at_ {l : List UInt8} {pre : List (List UInt8)} (h : Sofar l pre) (k : Nat) (hk : k < pre.length) : ∃ hk' : k < (frs l).length, (frs l)[k] = pre[k] := by
  have hk' : k < (frs l).length := by rw [h.2, List.length_append]; omega
  refine ⟨hk', ?_⟩
  have : (frs l)[k]? = pre[k]? := by rw [h.2, List.getElem?_append_left hk]
  rw [List.getElem?_eq_getElem hk', List.getElem?_eq_getElem hk] at this
  exact Option.some.inj this

/-- The frames of xs, one behind the other. -/
def cat (xs : List (List UInt8)) : List UInt8 := xs.flatMap fr
theorem cat_nil : cat [] = [] := rfl
theorem cat_cons (x : List UInt8) (xs : List (List UInt8)) : cat (x :: xs) = fr x ++ cat xs := by simp [cat]
theorem cat_snoc (x : List UInt8) (xs : List (List UInt8)) : cat (xs ++ [x]) = cat xs ++ fr x := by simp [cat]
theorem cat_length (xs : List (List UInt8)) : (cat xs).length = tot xs := by
  induction xs with
  | nil => rfl
  | cons x xs ih => rw [cat_cons, List.length_append, fr_length, ih, tot_cons]
/-- Frames one behind the other are told back, and those behind them. -/
theorem frs_cat (xs : List (List UInt8)) (hx : ∀ x ∈ xs, x.length < 4294967296) (r : List UInt8) : frs (cat xs ++ r) = xs ++ frs r := by
  induction xs with
  | nil => rfl
  | cons x xs ih =>
    rw [cat_cons, List.append_assoc, frs_some (fst_fr (hx x (by simp)) _), List.cons_append]
    congr 1
    rw [← ih (fun y hy => hx y (by simp [hy]))]
    congr 1
    rw [← fr_length x]; simp
/-- Frames cut off: those that are whole. -/
theorem frs_cut : ∀ (xs : List (List UInt8)) (hx : ∀ x ∈ xs, x.length < 4294967296) (k : Nat) (hk : k ≤ (cat xs).length),
    ∃ m, m ≤ xs.length ∧ frs ((cat xs).take k) = xs.take m ∧ tot (xs.take m) ≤ k ∧ (∀ h : m < xs.length, k < tot (xs.take m) + 8 + xs[m].length)
  | [], hx, k, hk => ⟨0, Nat.le_refl _, by rw [cat_nil, List.take_nil]; exact frs_none (fst_none_short (by simp)), Nat.zero_le _, fun h => by simp at h⟩
  | x :: xs, hx, k, hk => by
    have hx0 := hx x (by simp)
    by_cases h : k < 8 + x.length
    · exact ⟨0, Nat.zero_le _, by rw [cat_cons]; exact frs_none (fst_cut hx0 _ k h), Nat.zero_le _, fun _ => by simp [tot]; omega⟩
    · rw [cat_cons, List.length_append, fr_length] at hk
      obtain ⟨m, h1, h2, h3, h4⟩ := frs_cut xs (fun y hy => hx y (by simp [hy])) (k - (8 + x.length)) (by omega)
      refine ⟨m + 1, by simp; omega, ?_, ?_, ?_⟩
      · have e : (cat (x :: xs)).take k = fr x ++ (cat xs).take (k - (8 + x.length)) := by
          rw [cat_cons, List.take_append, fr_length, List.take_of_length_le (by rw [fr_length]; omega)]
        rw [e, frs_some (fst_fr hx0 _), List.take_succ_cons]
        congr 1
        rw [← h2]
        congr 1
        rw [← fr_length x]; simp
      · rw [List.take_succ_cons, tot_cons]; omega
      · intro hm
        have hm' : m < xs.length := by simpa using hm
        have := h4 hm'
        rw [List.take_succ_cons, tot_cons, List.getElem_cons_succ]
        omega

/- a frame that was turned -/
theorem leN_append (a b : List UInt8) : leN (a ++ b) = leN a + 2 ^ (8 * a.length) * leN b := by
  induction a with
  | nil => simp [leN]
  | cons x a ih =>
    simp only [List.cons_append, leN, ih, List.length_cons]
    rw [show 8 * (a.length + 1) = 8 + 8 * a.length by omega, Nat.pow_add, Nat.mul_add, ← Nat.mul_assoc, Nat.add_assoc]
theorem leN_lt (a : List UInt8) : leN a < 2 ^ (8 * a.length) := by
  induction a with
  | nil => simp [leN]
  | cons x a ih =>
    have := x.toNat_lt
    simp only [leN, List.length_cons]
    rw [show 8 * (a.length + 1) = 8 + 8 * a.length by omega, Nat.pow_add]
    omega
theorem leN_inj : ∀ {a b : List UInt8}, a.length = b.length → leN a = leN b → a = b
  | [], [], _, _ => rfl
  | x :: a, y :: b, hl, h => by
    have h1 := x.toNat_lt
    have h2 := y.toNat_lt
    simp only [leN] at h
    have hxy : x = y := UInt8.toNat_inj.1 (by omega)
    subst hxy
    congr 1
    exact leN_inj (by simpa using hl) (by omega)
/-- What two lists differ by behind what they share. -/
theorem leN_behind (hd a b : List UInt8) : leN (hd ++ a) ^^^ leN (hd ++ b) = 2 ^ (8 * hd.length) * (leN a ^^^ leN b) := by
  rw [leN_append, leN_append, add_xor _ _ _ (leN_lt hd), add_xor _ (leN b) _ (leN_lt hd)]
  rw [Nat.xor_comm (leN hd), Nat.xor_assoc, ← Nat.xor_assoc (leN hd), Nat.xor_self, Nat.zero_xor]
  simp only [← Nat.shiftLeft_eq, Nat.mul_comm (2 ^ (8 * hd.length))]
  rw [Nat.shiftLeft_xor_distrib]
/-- A frame of s of which k bytes from first on were turned (all in its sum, or all behind that) is none, just if one was. -/
theorem fst_turned {s L : List UInt8} {first k turn : Nat} (hs : s.length < 4294967296) (hl : L.length = (fr s).length) (hk : k ≤ 4) (hf4 : 4 ≤ first) (hfk : first + k ≤ (fr s).length) (h8 : first < 8 → first + k ≤ 8)
    (hd : leN L ^^^ leN (fr s) = 2 ^ (8 * first) * (turn % 2 ^ (8 * k))) :
    (turn % 2 ^ (8 * k) = 0 → fst L = some s) ∧ (turn % 2 ^ (8 * k) ≠ 0 → ∀ y, fst L = some y → 8 + y.length ≠ L.length) := by
  have hfl := fr_length s
  constructor
  · intro h0
    rw [h0, Nat.mul_zero, xor_nought] at hd
    rw [leN_inj hl hd]
    exact fst_own hs
  · intro h0 y hy h8y
    have hb := fst_back hy
    have hyl : y.length = s.length := by omega
    have hL : L = fr y := by
      have := hb.2.2.2.2
      rw [h8y, List.drop_length, List.append_nil] at this
      exact this
    have hp : 0 < 2 ^ (8 * first) := Nat.two_pow_pos _
    subst hL
    clear hb hy h8y hl
    obtain ⟨S, hS⟩ : ∃ S, moreN 0 (be4 s.length ++ s) = S := ⟨_, rfl⟩
    obtain ⟨Y, hY⟩ : ∃ Y, moreN 0 (be4 s.length ++ y) = Y := ⟨_, rfl⟩
    have hSl : S < 4294967296 := by rw [← hS]; exact moreN_lt _ _
    have hYl : Y < 4294967296 := by rw [← hY]; exact moreN_lt _ _
    have es : fr s = be4 s.length ++ (be4 S ++ s) := by unfold fr; rw [hS]
    have ey : fr y = be4 s.length ++ (be4 Y ++ y) := by unfold fr; rw [hyl, hY]
    rw [es, ey, leN_behind, be4_length, leN_append, leN_append, be4_length, be4_length] at hd
    have hd2 : (leN (be4 Y) + 2 ^ (8 * 4) * leN y) ^^^ (leN (be4 S) + 2 ^ (8 * 4) * leN s) = 2 ^ (8 * (first - 4)) * (turn % 2 ^ (8 * k)) := by
      have e : 2 ^ (8 * first) = 2 ^ (8 * 4) * 2 ^ (8 * (first - 4)) := by rw [← Nat.pow_add]; congr 1; omega
      rw [e, Nat.mul_assoc] at hd
      exact Nat.eq_of_mul_eq_mul_left (Nat.two_pow_pos _) hd
    have b1 := leN_lt (be4 Y)
    have b2 := leN_lt (be4 S)
    rw [be4_length] at b1 b2
    rw [add_xor _ _ _ b1, add_xor _ (leN s) _ b2] at hd2
    have hmm : ∀ u v : Nat, (2 ^ (8 * 4) * u) ^^^ (2 ^ (8 * 4) * v) = 2 ^ (8 * 4) * (u ^^^ v) := by
      intro u v
      simp only [← Nat.shiftLeft_eq, Nat.mul_comm (2 ^ (8 * 4))]
      rw [Nat.shiftLeft_xor_distrib]
    have hd3 : (leN (be4 Y) ^^^ leN (be4 S)) + 2 ^ (8 * 4) * (leN y ^^^ leN s) = 2 ^ (8 * (first - 4)) * (turn % 2 ^ (8 * k)) := by
      rw [add_xor _ _ _ (Nat.xor_lt_two_pow b1 b2), ← hd2, ← hmm]
      rw [Nat.xor_assoc, Nat.xor_assoc, ← Nat.xor_assoc (leN (be4 S)) _ (2 ^ (8 * 4) * leN s), Nat.xor_comm (leN (be4 S)), Nat.xor_assoc]
    by_cases hf8 : first < 8
    · -- in the sum: the bytes behind are as they were
      have h1 := h8 hf8
      have hlt : 2 ^ (8 * (first - 4)) * (turn % 2 ^ (8 * k)) < 2 ^ (8 * 4) := by
        have a1 : turn % 2 ^ (8 * k) < 2 ^ (8 * k) := Nat.mod_lt _ (Nat.two_pow_pos _)
        calc 2 ^ (8 * (first - 4)) * (turn % 2 ^ (8 * k)) < 2 ^ (8 * (first - 4)) * 2 ^ (8 * k) := Nat.mul_lt_mul_of_pos_left a1 (Nat.two_pow_pos _)
          _ = 2 ^ (8 * (first - 4) + 8 * k) := by rw [Nat.pow_add]
          _ ≤ 2 ^ (8 * 4) := Nat.pow_le_pow_right (by omega) (by omega)
      have hz : leN y ^^^ leN s = 0 := by
        rcases Nat.eq_zero_or_pos (leN y ^^^ leN s) with h | h
        · exact h
        · exfalso
          have : 2 ^ (8 * 4) * 1 ≤ 2 ^ (8 * 4) * (leN y ^^^ leN s) := Nat.mul_le_mul_left _ h
          omega
      rw [xor_nought] at hz
      have hys := leN_inj hyl hz
      subst hys
      have : Y = S := by rw [← hY, ← hS]
      subst this
      rw [Nat.xor_self, Nat.xor_self, Nat.mul_zero] at hd3
      rcases Nat.mul_eq_zero.1 hd3.symm with h | h
      · exact absurd h (Nat.ne_of_gt (Nat.two_pow_pos _))
      · exact h0 h
    · -- behind the sum: another sum
      have e : 2 ^ (8 * (first - 4)) = 2 ^ (8 * 4) * 2 ^ (8 * (first - 8)) := by rw [← Nat.pow_add]; congr 1; omega
      rw [e, Nat.mul_assoc] at hd3
      have hx0 : leN (be4 Y) ^^^ leN (be4 S) = 0 := by
        have hlt := Nat.xor_lt_two_pow b1 b2
        have h1 := congrArg (· % 2 ^ (8 * 4)) hd3
        simp only [Nat.add_mul_mod_self_left, Nat.mul_mod_right] at h1
        rwa [Nat.mod_eq_of_lt hlt] at h1
      rw [hx0, Nat.zero_add] at hd3
      have hd4 := Nat.eq_of_mul_eq_mul_left (Nat.two_pow_pos _) hd3
      rw [xor_nought] at hx0
      have hYS : Y = S := be4_inj hYl hSl (leN_inj rfl hx0)
      have hm := moreN_same 0 (be4 s.length ++ y) (be4 s.length ++ s) (by simp [hyl])
      rw [hS, hY] at hm
      have hz := hm.1 hYS
      rw [leN_behind, hd4, be4_length] at hz
      have e2 : 2 ^ (8 * 4) * (2 ^ (8 * (first - 8)) * (turn % 2 ^ (8 * k))) = 2 ^ (8 * (first - 4)) * (turn % 2 ^ (8 * k)) := by rw [← Nat.mul_assoc, ← Nat.pow_add]; congr 3; omega
      rw [e2] at hz
      by_cases ht0 : turn % 4294967296 = 0
      · apply h0
        have h32 : (2 : Nat) ^ (8 * k) ∣ 2 ^ 32 := Nat.pow_dvd_pow 2 (by omega)
        have hdv : (2 : Nat) ^ 32 ∣ turn := Nat.dvd_of_mod_eq_zero ht0
        exact Nat.mod_eq_zero_of_dvd (Nat.dvd_trans h32 hdv)
      · have hmod : turn % 2 ^ (8 * k) = turn % 4294967296 % 2 ^ (8 * k) := by
          have h32 : (2 : Nat) ^ (8 * k) ∣ 4294967296 := by
            have : (2 : Nat) ^ (8 * k) ∣ 2 ^ 32 := Nat.pow_dvd_pow 2 (by omega)
            exact this
          rw [Nat.mod_mod_of_dvd _ h32]
        have hbz := burst_zero (be4 s.length ++ s).length (first - 4) k 0 (turn % 4294967296) (by omega) (Nat.mod_lt _ (by omega)) ht0 (by rw [List.length_append, be4_length]; omega) (by omega)
        rw [Nat.pow_zero, Nat.mul_one, ← hmod] at hbz
        exact h0 (hbz.1 hz)
end Go.Proofs.YtkcnmajjfljilaaGreatDoor

/- The walks of the sum of bytes that lie in memory, and of the document's own. -/
namespace Go.Proofs.YtkcnmajjfljilaaGreatDoor
open Go.ChangeShapes Go.WideShapes Go.ChangeAt Go.RowKit

theorem shifted_any (n : Nat) (hn : n < 4294967296) (w : World) :
    Calls Tryz.prog 151 #[.int .u32 n] w fun e w' => e = .returned (.int .u32 (stpN 8 n)) ∧ w = w' := by
  go_enter Tryz.func151, Tryz.ntmps151
  go_wp2
  go_loop [0, 3] (fun c i => ∃ k : Nat, k ≤ 8 ∧ i = .int .i64 k ∧ c = .int .u32 (stpN k n)) (fun _ i => 8 - (intOf i).toNat)
  case atStart => exact ⟨0, by omega, rfl, rfl⟩
  case round =>
    obtain ⟨k, hk, rfl, rfl⟩ := hrel
    have hm := stpN_lt k hn
    by_cases hlt : k < 8
    · go_wp2
      go_round
      case rel => exact ⟨k + 1, by omega, by go_num, by rw [u32_stp _ hm]; rfl⟩
      case measure => simp [intOf]; omega
    · obtain rfl : k = 8 := by omega
      go_wp2
      go_ret
      exact ⟨rfl, rfl⟩

theorem take_snocB (l : List UInt8) (k : Nat) (h : k < l.length) : l.take (k + 1) = l.take k ++ [l[k]] := List.take_succ_eq_append_getElem h

theorem more_bytes (c : Nat) (hc : c < 4294967296) (l : List UInt8) (len : Nat) (hl : len = l.length) (hs : len ≤ maxLen) (B : Nat) (A : Option Addr) (cap : Nat) (w : World) (hb : BytesAt w B A l) :
    Calls Tryz.prog 96 #[.int .u32 c, .slice A len cap] w fun e w' => e = .returned (.int .u32 (moreN c l)) ∧ w = w' := by
  unfold maxLen at hs
  have hn := not32_lt c
  have HN := u32_not c hc
  have s1 : IntKind.u32.signed = false := rfl
  have HB := Lib.hid hb
  have HL := Lib.hid hl
  clear hb hl
  go_enter Tryz.func96, Tryz.ntmps96
  go_wp2
  clear HN
  go_loop [5, 11] (fun c' i => ∃ k : Nat, k ≤ len ∧ i = .int .i64 k ∧ c' = .int .u32 (crcS (not32 c) (l.take k))) (fun _ i => len - (intOf i).toNat)
  case atStart => exact ⟨0, Nat.zero_le _, rfl, rfl⟩
  case round =>
    obtain ⟨k, hk, rfl, rfl⟩ := hrel
    have hm := crcS_lt (not32 c) (l.take k) hn
    by_cases hlt : k < len
    · have hkl : k < l.length := by rw [← HL.out]; exact hlt
      have HS := Lib.hid (show crcS (not32 c) (l.take (k + 1)) = stpN 8 (crcS (not32 c) (l.take k) ^^^ l[k].toNat) by rw [take_snocB l k hkl, crcS_snoc])
      obtain ⟨b, off, rfl, _, hcell⟩ := HB.out k hkl
      obtain ⟨x, HX0⟩ : ∃ x, Hid (l[k] = x) := ⟨_, Lib.hid rfl⟩
      rw [HX0.out] at hcell HS
      have hb : x.toNat < 256 := x.toNat_lt
      have hx := xor32_lt hm hb
      have HX := u32_byte _ _ hm hb
      go_wp2_with (go_at_call 151; refine (shifted_any _ hx _).mono ?_; rintro e w' ⟨rfl, rfl⟩)
      go_round
      case rel => exact ⟨k + 1, by omega, by go_num, by rw [HS.out]⟩
      case measure => simp [intOf]; omega
    · have hz := Lib.hid (List.take_of_length_le (l := l) (i := k) (by have := HL.out; omega))
      have HM := u32_not _ hm
      go_wp2
      rw [hz.out]
      go_ret
      exact ⟨rfl, rfl⟩

theorem of_bytes (l : List UInt8) (len : Nat) (hl : len = l.length) (hs : len ≤ maxLen) (B : Nat) (A : Option Addr) (cap : Nat) (w : World) (hb : BytesAt w B A l) :
    Calls Tryz.prog 97 #[.slice A len cap] w fun e w' => e = .returned (.int .u32 (moreN 0 l)) ∧ w = w' := by
  have HB := Lib.hid hb
  have HL := Lib.hid hl
  clear hb hl
  go_enter Tryz.func97, Tryz.ntmps97
  go_wp2_with (go_at_call 96; refine (more_bytes 0 (by omega) l _ HL.out hs B A cap _ HB.out).mono ?_; rintro e w' ⟨rfl, rfl⟩)
  go_ret
  exact ⟨rfl, rfl⟩

/-- The sum of a frame's length and bytes. -/
theorem sum_any (a b : List UInt8) (n m : Nat) (hn : n = a.length) (hm : m = b.length) (hs : n ≤ maxLen) (ht : m ≤ maxLen) (B D : Nat) (A C : Option Addr) (c d : Nat) (w : World) (ha : BytesAt w B A a) (hb : BytesAt w D C b) :
    Calls Tryz.prog 66 #[.slice A n c, .slice C m d] w fun e w' => e = .returned (.int .u32 (moreN 0 (a ++ b))) ∧ w = w' := by
  have HA := Lib.hid ha
  have HB := Lib.hid hb
  have HN := Lib.hid hn
  have HM := Lib.hid hm
  have HE := Lib.hid (moreN_append 0 a b)
  have hlt := moreN_lt 0 a
  clear ha hb hn hm
  go_enter Tryz.func66, Tryz.ntmps66
  go_wp2_with (first | (go_at_call 97; refine (of_bytes a _ HN.out hs B A c _ HA.out).mono ?_; rintro e w' ⟨rfl, rfl⟩) | (go_at_call 96; refine (more_bytes _ hlt b _ HM.out ht D C d _ HB.out).mono ?_; rintro e w' ⟨rfl, rfl⟩))
  rw [HE.out]
  go_ret
  exact ⟨rfl, rfl⟩
end Go.Proofs.YtkcnmajjfljilaaGreatDoor
