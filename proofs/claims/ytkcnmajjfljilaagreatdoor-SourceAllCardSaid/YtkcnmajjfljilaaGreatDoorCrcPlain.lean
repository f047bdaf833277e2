/- Plain arithmetic of the sum of bytes: bits are shifted out one by one, and the whole is linear over exclusive-or. No program is named here. -/
import Derived.RowKit
import Derived.IntWalk
import Derived.OpenShut
import Derived.Laws.Bits64
import Derived.Laws.BitsAllLaws
namespace Go.Proofs.YtkcnmajjfljilaaGreatDoor
open Go.RowKit

/-- One bit shifted out. -/
def stp (n : Nat) : Nat := (n / 2) ^^^ (if n % 2 = 1 then 2197175160 else 0)
/-- k bits shifted out. -/
def stpN : Nat → Nat → Nat
  | 0, n => n
  | k + 1, n => stp (stpN k n)
/-- The state behind the bytes l. -/
def crcS (c : Nat) (l : List UInt8) : Nat := l.foldl (fun c b => stpN 8 (c ^^^ b.toNat)) c
theorem crcS_snoc (c : Nat) (l : List UInt8) (b : UInt8) : crcS c (l ++ [b]) = stpN 8 (crcS c l ^^^ b.toNat) := by
  unfold crcS; rw [List.foldl_append]; rfl
theorem crcS_append (c : Nat) (l r : List UInt8) : crcS c (l ++ r) = crcS (crcS c l) r := by
  unfold crcS; rw [List.foldl_append]
theorem xor_half (a b : Nat) : (a ^^^ b) / 2 = a / 2 ^^^ b / 2 := Nat.xor_div_two
theorem stp_xor (a b : Nat) : stp (a ^^^ b) = stp a ^^^ stp b := by
  unfold stp
  rw [xor_half]
  have ha : a % 2 = 0 ∨ a % 2 = 1 := by omega
  have hb : b % 2 = 0 ∨ b % 2 = 1 := by omega
  have hx : (a ^^^ b) % 2 = (a % 2) ^^^ (b % 2) := Nat.xor_mod_two_pow (n := 1)
  rw [hx]
  rcases ha with h | h <;> rcases hb with g | g <;> rw [h, g] <;> simp
  · rw [Nat.xor_assoc]
  · rw [Nat.xor_assoc, Nat.xor_comm (b / 2), ← Nat.xor_assoc]
  · rw [Nat.xor_assoc, Nat.xor_comm 2197175160, Nat.xor_assoc, Nat.xor_self, Nat.xor_zero]
theorem xor_nought (a b : Nat) : a ^^^ b = 0 ↔ a = b := by
  constructor
  · intro h
    have h2 : (a ^^^ b) ^^^ b = b := by rw [h, Nat.zero_xor]
    rw [Nat.xor_assoc, Nat.xor_self, Nat.xor_zero] at h2
    exact h2
  · intro h; rw [h, Nat.xor_self]
theorem stp_zero : stp 0 = 0 := rfl
theorem stp_double (y : Nat) : stp (2 * y) = y := by
  unfold stp; rw [if_neg (by omega), Nat.xor_zero]; omega
theorem stp_lt {n : Nat} (h : n < 4294967296) : stp n < 4294967296 := by
  unfold stp
  refine Nat.xor_lt_two_pow (n := 32) (by omega) ?_
  split <;> omega
theorem stp_pos {n : Nat} (h : n < 4294967296) (h0 : stp n = 0) : n = 0 := by
  unfold stp at h0
  split at h0
  · have := (xor_nought _ _).1 h0
    omega
  · rw [Nat.xor_zero] at h0; omega
theorem stpN_xor (k a b : Nat) : stpN k (a ^^^ b) = stpN k a ^^^ stpN k b := by
  induction k with
  | zero => rfl
  | succ k ih => show stp (stpN k (a ^^^ b)) = _; rw [ih, stp_xor]; rfl
theorem stpN_lt {n : Nat} (k : Nat) (h : n < 4294967296) : stpN k n < 4294967296 := by
  induction k with
  | zero => exact h
  | succ k ih => exact stp_lt ih
theorem stpN_pos {n : Nat} (k : Nat) (h : n < 4294967296) (h0 : stpN k n = 0) : n = 0 := by
  induction k with
  | zero => exact h0
  | succ k ih => exact ih (stp_pos (stpN_lt k h) h0)
theorem stpN_zero (k : Nat) : stpN k 0 = 0 := by
  induction k with
  | zero => rfl
  | succ k ih => show stp (stpN k 0) = 0; rw [ih]; rfl
theorem stpN_add (j k n : Nat) : stpN (j + k) n = stpN j (stpN k n) := by
  induction j with
  | zero => rw [Nat.zero_add]; rfl
  | succ j ih => rw [show j + 1 + k = (j + k) + 1 by omega]; show stp (stpN (j + k) n) = _; rw [ih]; rfl
theorem stpN_pow (k y : Nat) : stpN k (2 ^ k * y) = y := by
  induction k generalizing y with
  | zero => show 2 ^ 0 * y = y; omega
  | succ k ih =>
    rw [Nat.add_comm k 1, stpN_add 1 k, Nat.add_comm 1 k]
    have : 2 ^ (k + 1) * y = 2 ^ k * (2 * y) := by rw [Nat.pow_succ, Nat.mul_assoc]
    rw [this, ih]
    exact stp_double y
theorem crcS_lt (c : Nat) (l : List UInt8) (h : c < 4294967296) : crcS c l < 4294967296 := by
  induction l generalizing c with
  | nil => exact h
  | cons b l ih => exact ih _ (stpN_lt 8 (Nat.xor_lt_two_pow (n := 32) h (by have := b.toNat_lt; omega)))

/-- The number of bytes, the lowest first. -/
def leN : List UInt8 → Nat
  | [] => 0
  | b :: l => b.toNat + 256 * leN l
theorem add_xor (a y k : Nat) (h : a < 2 ^ k) : a + 2 ^ k * y = a ^^^ (2 ^ k * y) := by
  apply Nat.eq_of_testBit_eq
  intro i
  rw [Nat.add_comm, Nat.testBit_xor, Nat.testBit_two_pow_mul_add y h i, Nat.testBit_two_pow_mul]
  by_cases hi : i < k
  · rw [if_pos hi]
    have : ¬ k ≤ i := by omega
    simp [this]
  · rw [if_neg hi]
    have h1 : k ≤ i := by omega
    have h2 : a.testBit i = false := Nat.testBit_lt_two_pow (Nat.lt_of_lt_of_le h (Nat.pow_le_pow_right (by omega) h1))
    simp [h1, h2]
/-- THE CLOSED FORM: all bits of the number are shifted out. -/
theorem crcS_closed (c : Nat) (l : List UInt8) : crcS c l = stpN (8 * l.length) (c ^^^ leN l) := by
  induction l generalizing c with
  | nil => show c = stpN 0 (c ^^^ 0); rw [Nat.xor_zero]; rfl
  | cons b l ih =>
    show crcS (stpN 8 (c ^^^ b.toNat)) l = _
    rw [ih, List.length_cons, show 8 * (l.length + 1) = 8 * l.length + 8 by omega, stpN_add]
    congr 1
    show _ = stpN 8 (c ^^^ (b.toNat + 256 * leN l))
    rw [add_xor b.toNat (leN l) 8 (by have := b.toNat_lt; omega), ← Nat.xor_assoc, stpN_xor 8 (c ^^^ b.toNat) (2 ^ 8 * leN l), stpN_pow 8 (leN l)]
/-- Two lists of one length have one state just where what they differ by is shifted out to nought. -/
theorem crcS_same (c : Nat) (l r : List UInt8) (h : l.length = r.length) : crcS c l = crcS c r ↔ stpN (8 * r.length) (leN l ^^^ leN r) = 0 := by
  rw [crcS_closed, crcS_closed, h]
  have e : stpN (8 * r.length) (leN l ^^^ leN r) = stpN (8 * r.length) (c ^^^ leN l) ^^^ stpN (8 * r.length) (c ^^^ leN r) := by
    rw [← stpN_xor]; congr 1
    rw [Nat.xor_comm c (leN l), Nat.xor_assoc, ← Nat.xor_assoc c c, Nat.xor_self, Nat.zero_xor]
  rw [e, xor_nought]

/-- What shifting a burst out leaves: a word of 32 bits, moved by less than a byte, cut off behind m bytes at most 5. -/
theorem burst_zero (n at_ m s t : Nat) (hs : s < 8) (ht : t < 4294967296) (ht0 : t ≠ 0) (hn : at_ + m ≤ n) (hm : m ≤ 5) :
    stpN (8 * n) (2 ^ (8 * at_) * (t * 2 ^ s % 2 ^ (8 * m))) = 0 ↔ t * 2 ^ s % 2 ^ (8 * m) = 0 := by
  constructor
  · intro h
    rw [show 8 * n = 8 * (n - at_) + 8 * at_ by omega, stpN_add, stpN_pow] at h
    by_cases h5 : m = 5
    · subst h5
      have hp : 2 ^ s ≤ 2 ^ 7 := Nat.pow_le_pow_right (by omega) (by omega)
      have hl : t * 2 ^ s < 2 ^ 40 := by
        calc t * 2 ^ s ≤ t * 2 ^ 7 := Nat.mul_le_mul_left t hp
          _ < 2 ^ 40 := by omega
      rw [Nat.mod_eq_of_lt hl, Nat.mul_comm t, show 8 * (n - at_) = (8 * (n - at_) - s) + s by omega, stpN_add, stpN_pow] at h
      exact absurd (stpN_pos _ ht h) ht0
    · have hl : t * 2 ^ s % 2 ^ (8 * m) < 4294967296 := by
        have h1 : t * 2 ^ s % 2 ^ (8 * m) < 2 ^ (8 * m) := Nat.mod_lt _ (Nat.two_pow_pos _)
        have h2 : 2 ^ (8 * m) ≤ 2 ^ 32 := Nat.pow_le_pow_right (by omega) (by omega)
        omega
      exact stpN_pos _ hl h
  · intro h; rw [h, Nat.mul_zero, stpN_zero]

/-- One byte turned. -/
theorem leN_set (l : List UInt8) (i : Nat) (x : UInt8) (h : i < l.length) : leN (l.set i (l.getD i 0 ^^^ x)) ^^^ leN l = 2 ^ (8 * i) * x.toNat := by
  induction l generalizing i with
  | nil => cases h
  | cons b l ih =>
    have hb : b.toNat < 2 ^ 8 := by have := b.toNat_lt; omega
    cases i with
    | zero =>
      show (((b ^^^ x).toNat + 256 * leN l) ^^^ (b.toNat + 256 * leN l)) = _
      have hx : (b ^^^ x).toNat < 2 ^ 8 := by have := (b ^^^ x).toNat_lt; omega
      rw [add_xor _ (leN l) 8 hx, add_xor _ (leN l) 8 hb, Nat.xor_comm b.toNat, Nat.xor_assoc, ← Nat.xor_assoc (2 ^ 8 * leN l), Nat.xor_self, Nat.zero_xor]
      rw [UInt8.toNat_xor, Nat.xor_comm b.toNat, Nat.xor_assoc, Nat.xor_self]
      simp
    | succ i =>
      show ((b.toNat + 256 * leN (l.set i (l.getD i 0 ^^^ x))) ^^^ (b.toNat + 256 * leN l)) = _
      rw [add_xor _ _ 8 hb, add_xor _ (leN l) 8 hb, Nat.xor_comm b.toNat, Nat.xor_assoc, ← Nat.xor_assoc b.toNat, Nat.xor_self, Nat.zero_xor]
      have hm : ∀ u v : Nat, (2 ^ 8 * u) ^^^ (2 ^ 8 * v) = 2 ^ 8 * (u ^^^ v) := by
        intro u v
        simp only [← Nat.shiftLeft_eq, Nat.mul_comm (2 ^ 8)]
        rw [Nat.shiftLeft_xor_distrib]
      rw [hm, ih i (by simpa using h), ← Nat.mul_assoc, ← Nat.pow_add, show 8 + 8 * i = 8 * (i + 1) by omega]

/-- One byte more of a word. -/
theorem word_next (w k : Nat) : w % 2 ^ (8 * (k + 1)) = w % 2 ^ (8 * k) + 2 ^ (8 * k) * (w / 2 ^ (8 * k) % 256) := by
  rw [show 8 * (k + 1) = 8 * k + 8 by omega, Nat.pow_add, Nat.mod_mul]

/-- All bits turned. -/
def not32 (c : Nat) : Nat := 4294967295 - c
/-- The sum of bytes that have the sum c, and of l behind them. -/
def moreN (c : Nat) (l : List UInt8) : Nat := not32 (crcS (not32 c) l)
theorem not32_lt (c : Nat) : not32 c < 4294967296 := by unfold not32; omega
theorem not32_back {c : Nat} (h : c < 4294967296) : not32 (not32 c) = c := by unfold not32; omega
theorem not32_same {a b : Nat} (ha : a < 4294967296) (hb : b < 4294967296) : not32 a = not32 b ↔ a = b := by unfold not32; omega
theorem moreN_lt (c : Nat) (l : List UInt8) : moreN c l < 4294967296 := not32_lt _
theorem moreN_nil {c : Nat} (h : c < 4294967296) : moreN c [] = c := not32_back h
theorem moreN_append (c : Nat) (l r : List UInt8) : moreN (moreN c l) r = moreN c (l ++ r) := by
  unfold moreN; rw [not32_back (crcS_lt _ _ (not32_lt _)), crcS_append]
theorem moreN_same (c : Nat) (l r : List UInt8) (h : l.length = r.length) : moreN c l = moreN c r ↔ stpN (8 * r.length) (leN l ^^^ leN r) = 0 := by
  unfold moreN
  rw [not32_same (crcS_lt _ _ (not32_lt _)) (crcS_lt _ _ (not32_lt _)), crcS_same _ _ _ h]
theorem xor32_lt {a b : Nat} (ha : a < 4294967296) (hb : b < 256) : a ^^^ b < 4294967296 := Nat.xor_lt_two_pow (n := 32) ha (by omega)
theorem xor_ones32 (n : Nat) (h : n < 4294967296) : 4294967295 ^^^ n = not32 n := by
  have e : (4294967295 : Nat) = not32 n + n := by unfold not32; omega
  have h0 : (BitVec.ofNat 32 n).toNat = n := Nat.mod_eq_of_lt h
  have h1 : (~~~ (BitVec.ofNat 32 n)).toNat = 2 ^ 32 - 1 - n := by rw [BitVec.toNat_not, h0]
  have h2 : (BitVec.allOnes 32 ^^^ BitVec.ofNat 32 n) = ~~~ (BitVec.ofNat 32 n) := by rw [BitVec.allOnes_xor]
  have h3 := congrArg BitVec.toNat h2
  rw [BitVec.toNat_xor, BitVec.toNat_allOnes, h0, h1] at h3
  unfold not32; exact h3
theorem u32_not (c : Nat) (h : c < 4294967296) : bits .xor .u32 IntKind.u32.max (c : Int) = ((not32 c : Nat) : Int) := by
  have h1 := u32_xor_nat 4294967295 c (by omega) h
  rw [xor_ones32 c h] at h1
  exact h1
theorem u32_byte (a b : Nat) (ha : a < 4294967296) (hb : b < 256) : bits .xor .u32 (a : Int) (b : Int) = ((a ^^^ b : Nat) : Int) := u32_xor_nat a b ha (by omega)
theorem u32_stp (m : Nat) (h : m < 4294967296) : bits .xor .u32 ((m : Int) / 2) (bits .and .u32 2197175160 (-bits .and .u32 (m : Int) 1 % 4294967296)) = ((stp m : Nat) : Int) := by
  have h1 : bits .and .u32 (m : Int) 1 = ((m % 2 : Nat) : Int) := by
    have := u32_and_nat m 1 h (by omega)
    rw [Nat.and_one_is_mod] at this
    exact this
  have h2 : ((m : Int) / 2) = ((m / 2 : Nat) : Int) := by omega
  rw [h1, h2]
  unfold stp
  have hm : m % 2 = 0 ∨ m % 2 = 1 := by omega
  rcases hm with g | g <;> rw [g]
  · have e : bits .and .u32 2197175160 (-((0 : Nat) : Int) % 4294967296) = ((0 : Nat) : Int) := by decide
    rw [e, u32_xor_nat _ _ (by omega) (by omega)]; rfl
  · have e : bits .and .u32 2197175160 (-((1 : Nat) : Int) % 4294967296) = ((2197175160 : Nat) : Int) := by decide
    rw [e, u32_xor_nat _ _ (by omega) (by omega)]; rfl
theorem take_snoc8 (s : ByteArray) (k : Nat) (h : k < s.size) : s.data.toList.take (k + 1) = s.data.toList.take k ++ [s[k]] := by
  rw [List.take_succ_eq_append_getElem (by simpa using h)]; rfl
end Go.Proofs.YtkcnmajjfljilaaGreatDoor
