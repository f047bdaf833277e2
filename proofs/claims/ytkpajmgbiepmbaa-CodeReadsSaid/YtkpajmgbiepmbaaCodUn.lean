/- The walks of reading numbers: both texts. -/
import Derived.Test.YtkpajmgbiepmbaaCodNum
namespace Go.Proofs.Ytkpajmgbiepmbaa
open Go.ChangeShapes Go.WideShapes Go.ChangeAt Go.RowKit
open Go.Lib (byteCells byteCells_length byteCells_append strCells)
set_option linter.unusedVariables false

/-- The bytes l lie side by side from A on, below block B. -/
def BytesAt (w : World) (B : Nat) (A : Option Addr) (l : List UInt8) : Prop :=
  ∀ (j : Nat) (h : j < l.length), ∃ b off, A = some ⟨b, off, none⟩ ∧ b < B ∧ w.cell? ⟨b, off + j, none⟩ = some (.int .u8 (l[j].toNat : Int))
theorem BytesAt.below {w w' : World} {B : Nat} {A : Option Addr} {l : List UInt8} (h : BytesAt w B A l) (hb : Below B w w') : BytesAt w' B A l := by
  intro j hj
  obtain ⟨b, off, e, hlt, h0⟩ := h j hj
  exact ⟨b, off, e, hlt, (hb.cell (p := ⟨b, _, none⟩) hlt).trans h0⟩
theorem BytesAt.more {w : World} {B B' : Nat} {A : Option Addr} {l : List UInt8} (h : BytesAt w B A l) (hb : B ≤ B') : BytesAt w B' A l := by
  intro j hj
  obtain ⟨b, off, e, hlt, h0⟩ := h j hj
  exact ⟨b, off, e, by omega, h0⟩
theorem BytesAt.drop {w : World} {B : Nat} {A : Option Addr} {l : List UInt8} (h : BytesAt w B A l) (n c : Nat) (hn : n ≤ l.length) (hc : l.length ≤ c) : BytesAt w B (if c = n then A else A.map (·.add n)) (l.drop n) := by
  intro j hj
  rw [List.length_drop] at hj
  obtain ⟨b, off, rfl, hlt, h0⟩ := h (n + j) (by omega)
  rw [if_neg (by omega)]
  refine ⟨b, off + n, by simp [add_at], hlt, ?_⟩
  rw [List.getElem_drop, Nat.add_assoc]
  exact h0
theorem BytesAt.take {w : World} {B : Nat} {A : Option Addr} {l : List UInt8} (h : BytesAt w B A l) (n : Nat) : BytesAt w B A (l.take n) := by
  intro j hj
  rw [List.length_take] at hj
  obtain ⟨b, off, rfl, hlt, h0⟩ := h j (by omega)
  exact ⟨b, off, rfl, hlt, by rw [List.getElem_take]; exact h0⟩

def unOut (t : Nat) : Option (Nat × List UInt8) → Value
  | none => .tuple #[.int .u64 0, .int .i64 0, .int .i64 41]
  | some p => .tuple #[.int .u64 (p.1 : Int), .int .i64 ((t - p.2.length : Nat) : Int), .int .i64 0]

/-- k digits have been read: they come to a. -/
def ReadK (l : List UInt8) (k a : Nat) : Prop := unL l = (unG (10 - k) (l.drop k)).map fun p => (a + 128 ^ k * p.1, p.2)
theorem ReadK.start (l : List UInt8) : ReadK l 0 0 := by
  unfold ReadK unL
  simp only [Nat.sub_zero, List.drop_zero, Nat.pow_zero, Nat.one_mul, Nat.zero_add]
  cases unG 10 l <;> rfl
section
variable {l : List UInt8} {k a : Nat} {x : UInt8}
theorem ReadK.step (h : ReadK l k a) (hk : k < 10) (hd : l.drop k = x :: l.drop (k + 1)) (h9 : ¬ (k = 9 ∧ 1 < x.toNat)) (hx : 128 ≤ x.toNat) : ReadK l (k + 1) (a + 128 ^ k * (x.toNat % 128)) := by
  have := x.toNat_lt
  unfold ReadK at *
  rw [h, hd, show 10 - k = (9 - k) + 1 by omega, unG, if_neg (by omega), if_neg (by omega), show 10 - (k + 1) = 9 - k by omega]
  cases unG (9 - k) (l.drop (k + 1)) with
  | none => rfl
  | some p =>
    simp only [Option.map_some, Option.some.injEq, Prod.mk.injEq, and_true]
    rw [Nat.pow_succ, Nat.mul_add, Nat.add_assoc, Nat.mul_assoc, show x.toNat - 128 = x.toNat % 128 by omega]
theorem ReadK.last (h : ReadK l k a) (hk : k < 10) (hd : l.drop k = x :: l.drop (k + 1)) (h9 : ¬ (k = 9 ∧ 1 < x.toNat)) (hx : x.toNat < 128) (h0 : ¬ (x.toNat = 0 ∧ 0 < k)) : unL l = some (a + 128 ^ k * (x.toNat % 128), l.drop (k + 1)) := by
  unfold ReadK at *
  rw [h, hd, show 10 - k = (9 - k) + 1 by omega, unG, if_neg (by omega), if_pos hx, if_neg (by omega)]
  simp only [Option.map_some, Option.some.injEq, Prod.mk.injEq, and_true]
  rw [show x.toNat % 128 = x.toNat by omega]
theorem ReadK.far (h : ReadK l k a) (hk : k < 10) (hd : l.drop k = x :: l.drop (k + 1)) (h9 : k = 9 ∧ 1 < x.toNat) : unL l = none := by
  unfold ReadK at *
  rw [h, hd, show 10 - k = (9 - k) + 1 by omega, unG, if_pos (by omega)]
  rfl
theorem ReadK.zero (h : ReadK l k a) (hk : k < 10) (hd : l.drop k = x :: l.drop (k + 1)) (h0 : x.toNat = 0 ∧ 0 < k) : unL l = none := by
  unfold ReadK at *
  rw [h, hd, show 10 - k = (9 - k) + 1 by omega, unG, if_neg (by omega), if_pos (by omega), if_pos (by omega)]
  rfl
theorem ReadK.end_ (h : ReadK l k a) (he : l.length ≤ k ∨ k = 10) : unL l = none := by
  unfold ReadK at *
  rw [h]
  rcases he with he | rfl
  · rw [List.drop_of_length_le he]
    cases 10 - k <;> rfl
  · rfl
end
theorem drop_at (l : List UInt8) (k : Nat) (h : k < l.length) : l.drop k = l[k] :: l.drop (k + 1) := List.drop_eq_getElem_cons h

theorem u64_in (n : Nat) (h : n < 18446744073709551616) : IntKind.u64.wrap (n : Int) = (n : Int) := by
  rw [IntKind.wrap_u64]
  omega
theorem pow_le (k : Nat) (hk : k ≤ 9) : (128 : Nat) ^ k ≤ 9223372036854775808 := by
  have h := Nat.pow_le_pow_right (n := 128) (by omega) hk
  have e : (128 : Nat) ^ 9 = 9223372036854775808 := by decide
  omega
theorem digit_le (k y : Nat) (hk : k ≤ 9) (hy : y < 128) (h9 : k = 9 → y ≤ 1) : 128 ^ k * y + 128 ^ k ≤ 18446744073709551616 := by
  have e9 : (128 : Nat) ^ 9 = 9223372036854775808 := by decide
  have e8 : (128 : Nat) ^ 8 = 72057594037927936 := by decide
  by_cases h : k = 9
  · have := h9 h
    subst h
    rw [e9]
    omega
  · have h1 : (128 : Nat) ^ k ≤ 128 ^ 8 := Nat.pow_le_pow_right (by omega) (by omega)
    have h2 : 128 ^ k * y ≤ 128 ^ 8 * 127 := Nat.mul_le_mul h1 (by omega)
    rw [e8] at h1 h2
    omega
theorem shl_digit (k y : Nat) : (y : Int) * 2 ^ (7 * k) = ((128 ^ k * y : Nat) : Int) := by
  have e : (2 : Int) ^ (7 * k) = ((128 ^ k : Nat) : Int) := by rw [show (128 : Nat) = 2 ^ 7 from rfl, ← Nat.pow_mul, Int.natCast_pow]; rfl
  rw [e, Nat.mul_comm, Int.natCast_mul]
theorem or_digit (a k y : Nat) (ha : a < 128 ^ k) (hb : 128 ^ k * y + 128 ^ k ≤ 18446744073709551616) : bits .or .u64 (a : Int) ((128 ^ k * y : Nat) : Int) = ((a + 128 ^ k * y : Nat) : Int) := by
  have hp : 0 < 128 ^ k := Nat.pow_pos (by omega)
  rw [u64_or_nat _ _ (by omega) (by omega)]
  congr 1
  rw [show (128 : Nat) ^ k = 2 ^ (7 * k) by rw [Nat.pow_mul]] at *
  rw [Nat.or_comm, ← Nat.two_pow_add_eq_or_of_lt ha, Nat.add_comm]
theorem andnot_digit (x : Nat) (h : x < 256) : bits .andNot .u8 (x : Int) 128 = ((x % 128 : Nat) : Int) := by
  rw [show (128 : Int) = ((128 : Nat) : Int) from rfl, u8_andNot_nat _ _ h (by omega)]
  congr 1
  exact Nat.and_two_pow_sub_one_eq_mod x 7
theorem next_lt {a k y : Nat} (ha : a < 128 ^ k) (hy : y < 128) : a + 128 ^ k * y < 128 ^ (k + 1) := by
  have h1 : 128 ^ k * y ≤ 128 ^ k * 127 := Nat.mul_le_mul_left _ (by omega)
  rw [Nat.pow_succ]
  omega
/-- What 'n |= uint64(c&^128) << (7*i)' comes to. -/
theorem code_digit (a k x : Nat) (ha : a < 128 ^ k) (hk : k ≤ 9) (hx : x < 256) (h9 : ¬ (k = 9 ∧ 1 < x)) :
    bits .or .u64 (a : Int) (IntKind.u64.wrap (IntKind.u64.wrap (bits .andNot .u8 (x : Int) 128) * 2 ^ (7 * k))) = ((a + 128 ^ k * (x % 128) : Nat) : Int) := by
  have hb := digit_le k (x % 128) hk (by omega) (fun e => by omega)
  have hp : 0 < 128 ^ k := Nat.pow_pos (by omega)
  rw [andnot_digit x hx, u64_in _ (by omega), shl_digit, u64_in _ (by omega), or_digit a k _ ha hb]

theorem unOut_eq (t : Nat) {o : Option (Nat × List UInt8)} {p : Nat × List UInt8} (h : o = some p) : unOut t o = .tuple #[.int .u64 (p.1 : Int), .int .i64 ((t - p.2.length : Nat) : Int), .int .i64 0] := by rw [h]; rfl

set_option maxRecDepth 4000 in
set_option maxHeartbeats 1000000 in
theorem unnum_walk (l : List UInt8) (A : Option Addr) (n c : Nat) (w : World) (hn : n = l.length) (hc : n ≤ c) (hcm : c ≤ maxLen) (hb : BytesAt w w.heap.size A l) :
    Calls Try.prog 10 #[.slice A n c] w fun e w' => e = .returned (unOut n (unL l)) ∧ w = w' := by
  have HN := Lib.hid hn
  have HB := Lib.hid hb
  clear hn hb
  have hcm2 : c ≤ 9223372036854775807 := by unfold maxLen at hcm; omega
  clear hcm
  have hmin : (if (10 : Int) < (n : Int) then (10 : Int) else (n : Int)) = ((min n 10 : Nat) : Int) := by split <;> omega
  go_enter Try.func10, Try.ntmps10
  go_wp2
  go_loop [5, 14] (fun av iv => ∃ (k a : Nat), k ≤ min n 10 ∧ iv = .int .i64 (k : Int) ∧ av = .int .u64 (a : Int) ∧ Hid (a < 128 ^ k) ∧ Hid (ReadK l k a)) (fun _ iv => 10 - (intOf iv).toNat)
  case atStart => exact ⟨0, 0, by omega, rfl, rfl, Lib.hid (by decide), Lib.hid (ReadK.start l)⟩
  case round =>
    obtain ⟨k, a, hk, rfl, rfl, HA, HR⟩ := hrel
    by_cases hlt : k < min n 10
    · have hkl : k < l.length := by rw [← HN.out]; omega
      obtain ⟨b, off, rfl, hB, c0⟩ := HB.out k hkl
      have hd := drop_at l k hkl
      obtain ⟨x, hX⟩ : ∃ x, l[k] = x := ⟨_, rfl⟩
      rw [hX] at c0 hd
      have HD := Lib.hid hd
      clear hd hX
      have hx8 : x.toNat < 256 := x.toNat_lt
      by_cases h9 : k = 9 ∧ 1 < x.toNat
      · have HF := Lib.hid (HR.out.far (by omega) HD.out h9)
        obtain ⟨rfl, h9⟩ := h9
        clear HD HR
        go_wp2
        go_ret3
        exact ⟨by rw [HF.out]; rfl, rfl⟩
      · have HC := Lib.hid (code_digit a k x.toNat HA.out (by omega) hx8 h9)
        have HA2 := Lib.hid (next_lt (y := x.toNat % 128) HA.out (by omega))
        have s0 : (0 : Int) ≤ 7 * (k : Int) := by omega
        have hkk : k < 10 := by omega
        by_cases h128 : 128 ≤ x.toNat
        · have HR2 := Lib.hid (HR.out.step hkk HD.out h9 h128)
          have H9 := Lib.hid h9
          clear h9
          by_cases k9 : k = 9
          · have := H9.out
            omega
          · have e9 : ((k : Int) == 9) = false := by rw [beq_eq_false_iff_ne]; omega
            go_wp2
            go_round
            case rel => exact ⟨k + 1, a + 128 ^ k * (x.toNat % 128), by omega, by go_num, by rw [HC.out], HA2, HR2⟩
            case measure => simp [intOf]; omega
        · by_cases h0 : x.toNat = 0 ∧ 0 < k
          · have HF := Lib.hid (HR.out.zero hkk HD.out h0)
            obtain ⟨h0, hk0⟩ := h0
            clear HD HR h9
            have e9 : decide ((1 : Int) < (x.toNat : Int)) = false := decide_eq_false (by omega)
            have e0 : ((x.toNat : Int) == 0) = true := by rw [beq_iff_eq]; omega
            clear h0
            by_cases k9 : k = 9
            · subst k9
              go_wp2
              go_ret3
              exact ⟨by rw [HF.out]; rfl, rfl⟩
            · have e9 : ((k : Int) == 9) = false := by rw [beq_eq_false_iff_ne]; omega
              go_wp2
              go_ret3
              exact ⟨by rw [HF.out]; rfl, rfl⟩
          · have HF := Lib.hid (unOut_eq n (HR.out.last hkk HD.out h9 (by omega) h0))
            have HL := Lib.hid (show n - (l.drop (k + 1)).length = k + 1 by rw [List.length_drop, ← HN.out]; omega)
            have H9 := Lib.hid h9
            have H0 := Lib.hid h0
            clear HD HR h9 h0
            have fin : ∀ (e : Int), e = ((a + 128 ^ k * (x.toNat % 128) : Nat) : Int) → (Ending.returned (.tuple #[.int .u64 e, .int .i64 ((k : Int) + 1), .int .i64 0])) = .returned (unOut n (unL l)) := by
              intro e he
              rw [HF.out, he]
              dsimp only
              rw [HL.out]
              rfl
            have FIN := Lib.hid fin
            clear fin
            by_cases k9 : k = 9
            · have e9 : decide ((1 : Int) < (x.toNat : Int)) = false := decide_eq_false (by have := H9.out; omega)
              have ez : ((x.toNat : Int) == 0) = false := by rw [beq_eq_false_iff_ne]; have := H0.out; omega
              subst k9
              go_wp2
              go_ret3
              exact ⟨FIN.out _ HC.out, rfl⟩
            · have e9 : ((k : Int) == 9) = false := by rw [beq_eq_false_iff_ne]; omega
              by_cases hz : x.toNat = 0
              · have hk0 : k = 0 := by have := H0.out; omega
                subst hk0
                rw [Nat.add_zero] at c0
                have ez : ((x.toNat : Int) == 0) = true := by rw [beq_iff_eq]; omega
                go_wp2
                go_ret3
                exact ⟨FIN.out _ (by have h := HC.out; simp only [hz] at h ⊢; simpa using h), rfl⟩
              · have ez : ((x.toNat : Int) == 0) = false := by rw [beq_eq_false_iff_ne]; omega
                go_wp2
                go_ret3
                exact ⟨FIN.out _ HC.out, rfl⟩
    · have HF := Lib.hid (HR.out.end_ (by rw [← HN.out]; omega))
      go_wp2
      go_ret3
      exact ⟨by rw [HF.out]; rfl, rfl⟩

/-- What the plain text's Unnum answers. -/
def rOut (t : Nat) : Option (Nat × List UInt8) → Value
  | none => .tuple #[.int .u64 0, .int .i64 (-1)]
  | some p => .tuple #[.int .u64 (p.1 : Int), .int .i64 ((t - p.2.length : Nat) : Int)]
theorem rOut_eq (t : Nat) {o : Option (Nat × List UInt8)} {p : Nat × List UInt8} (h : o = some p) : rOut t o = .tuple #[.int .u64 (p.1 : Int), .int .i64 ((t - p.2.length : Nat) : Int)] := by rw [h]; rfl
/-- What 'n = n + c%128<<uint(7*i)' comes to. -/
theorem ref_digit (a k x : Nat) (ha : a < 128 ^ k) (hk : k ≤ 9) (hx : x < 256) (h9 : ¬ (k = 9 ∧ 1 < x)) :
    IntKind.u64.wrap ((a : Int) + IntKind.u64.wrap (((x : Int).tmod 128) * 2 ^ (7 * k))) = ((a + 128 ^ k * (x % 128) : Nat) : Int) := by
  have hb := digit_le k (x % 128) hk (by omega) (fun e => by omega)
  have hp : 0 < 128 ^ k := Nat.pow_pos (by omega)
  rw [Int.tmod_eq_emod_of_nonneg (by omega), show (x : Int) % 128 = ((x % 128 : Nat) : Int) by omega, shl_digit, u64_in _ (by omega), show (a : Int) + ((128 ^ k * (x % 128) : Nat) : Int) = ((a + 128 ^ k * (x % 128) : Nat) : Int) by omega, u64_in _ (by omega)]

set_option maxRecDepth 4000 in
set_option maxHeartbeats 1000000 in
theorem runnum_walk (s : ByteArray) (o : Nat) (w : World) (hs : s.size ≤ 1099511627776) (ho : o ≤ s.size) :
    Calls Try.prog 11 #[.string s, .int .i64 (o : Int)] w fun e w' => e = .returned (rOut s.size (unL (s.data.toList.drop o))) ∧ w = w' := by
  obtain ⟨l, HL⟩ : ∃ l, Hid (s.data.toList.drop o = l) := ⟨_, Lib.hid rfl⟩
  rw [HL.out]
  have HN := Lib.hid (show s.size - o = l.length by rw [← HL.out, List.length_drop, size_eq])
  have hon : ¬ (o : Int) < 0 := by omega
  go_enter Try.func11, Try.ntmps11
  go_wp2
  go_loop [6, 7] (fun av iv => ∃ (k a : Nat), k ≤ 10 ∧ k ≤ s.size - o ∧ iv = .int .i64 (k : Int) ∧ av = .int .u64 (a : Int) ∧ Hid (a < 128 ^ k) ∧ Hid (ReadK l k a)) (fun _ iv => 10 - (intOf iv).toNat)
  case atStart => exact ⟨0, 0, by omega, by omega, rfl, rfl, Lib.hid (by decide), Lib.hid (ReadK.start l)⟩
  case round =>
    obtain ⟨k, a, hk, hko, rfl, rfl, HA, HR⟩ := hrel
    by_cases hk10 : k = 10
    · subst hk10
      have HF := Lib.hid (HR.out.end_ (.inr rfl))
      go_wp2
      go_ret2
      exact ⟨by rw [HF.out]; rfl, rfl⟩
    · have hkk : k < 10 := by omega
      by_cases hlt : o + k < s.size
      · have hkl : k < l.length := by rw [← HN.out]; omega
        have hd := drop_at l k hkl
        have hidx : s[o + k] = l[k] := by
          have : (s.data.toList.drop o)[k]'(by rw [List.length_drop, ← size_eq]; omega) = s[o + k] := by
            rw [List.getElem_drop]; rfl
          rw [← this]
          simp only [HL.out]
        obtain ⟨x, hX⟩ : ∃ x, l[k] = x := ⟨_, rfl⟩
        rw [hX] at hidx hd
        have HD := Lib.hid hd
        clear hX hd
        have hx8 : x.toNat < 256 := x.toNat_lt
        have hW : IntKind.u64.wrap (x.toNat : Int) = (x.toNat : Int) := u64_in _ (by omega)
        by_cases h9 : k = 9 ∧ 1 < x.toNat
        · have HF := Lib.hid (HR.out.far (by omega) HD.out h9)
          obtain ⟨rfl, h9⟩ := h9
          clear HD HR
          go_wp2
          go_ret2
          exact ⟨by rw [HF.out]; rfl, rfl⟩
        · have HC := Lib.hid (ref_digit a k x.toNat HA.out (by omega) hx8 h9)
          have HA2 := Lib.hid (next_lt (y := x.toNat % 128) HA.out (by omega))
          have s0 : (0 : Int) ≤ 7 * (k : Int) := by omega
          by_cases h128 : 128 ≤ x.toNat
          · have HR2 := Lib.hid (HR.out.step hkk HD.out h9 h128)
            have H9 := Lib.hid h9
            clear h9
            by_cases k9 : k = 9
            · have := H9.out
              omega
            · have e9 : ((k : Int) == 9) = false := by rw [beq_eq_false_iff_ne]; omega
              go_wp2
              go_round
              case rel => exact ⟨k + 1, a + 128 ^ k * (x.toNat % 128), by omega, by omega, by go_num, by rw [← HC.out, Int.tmod_eq_emod_of_nonneg (by omega)], HA2, HR2⟩
              case measure => simp [intOf]; omega
          · by_cases h0 : x.toNat = 0 ∧ 0 < k
            · have HF := Lib.hid (HR.out.zero hkk HD.out h0)
              obtain ⟨h0, hk0⟩ := h0
              clear HD HR h9
              have e9 : decide ((1 : Int) < (x.toNat : Int)) = false := decide_eq_false (by omega)
              have e0 : ((x.toNat : Int) == 0) = true := by rw [beq_iff_eq]; omega
              clear h0
              by_cases k9 : k = 9
              · subst k9
                go_wp2
                go_ret2
                exact ⟨by rw [HF.out]; rfl, rfl⟩
              · have e9 : ((k : Int) == 9) = false := by rw [beq_eq_false_iff_ne]; omega
                go_wp2
                go_ret2
                exact ⟨by rw [HF.out]; rfl, rfl⟩
            · have HF := Lib.hid (rOut_eq s.size (HR.out.last hkk HD.out h9 (by omega) h0))
              have HLn := Lib.hid (show s.size - (l.drop (k + 1)).length = o + k + 1 by rw [List.length_drop, ← HN.out]; omega)
              have H9 := Lib.hid h9
              have H0 := Lib.hid h0
              clear HD HR h9 h0
              have fin : ∀ (e f : Int), e = ((a + 128 ^ k * (x.toNat % 128) : Nat) : Int) → f = (o : Int) + k + 1 → (Ending.returned (.tuple #[.int .u64 e, .int .i64 f])) = .returned (rOut s.size (unL l)) := by
                intro e f he hf
                rw [HF.out, he, hf]
                dsimp only
                rw [HLn.out]
                rfl
              have FIN := Lib.hid fin
              clear fin
              by_cases k9 : k = 9
              · have e9 : decide ((1 : Int) < (x.toNat : Int)) = false := decide_eq_false (by have := H9.out; omega)
                have ez : ((x.toNat : Int) == 0) = false := by rw [beq_eq_false_iff_ne]; have := H0.out; omega
                subst k9
                go_wp2
                go_ret2
                exact ⟨FIN.out _ _ HC.out (by omega), rfl⟩
              · have e9 : ((k : Int) == 9) = false := by rw [beq_eq_false_iff_ne]; omega
                by_cases hk0 : k = 0
                · subst hk0
                  simp only [Nat.add_zero] at hidx
                  go_wp2
                  go_ret2
                  exact ⟨FIN.out _ _ (by have h := HA.out; rw [Nat.pow_zero] at h ⊢; simp; rw [IntKind.wrap_u64]; omega) (by omega), rfl⟩
                · have ez : ((x.toNat : Int) == 0) = false := by rw [beq_eq_false_iff_ne]; have := H0.out; omega
                  go_wp2
                  go_ret2
                  exact ⟨FIN.out _ _ HC.out (by omega), rfl⟩
      · have HF := Lib.hid (HR.out.end_ (.inl (by rw [← HN.out]; omega)))
        go_wp2
        go_ret2
        exact ⟨by rw [HF.out]; rfl, rfl⟩
theorem runnum_none (s : ByteArray) (w : World) : Calls Try.prog 11 #[.string s, .int .i64 (-1)] w fun e w' => e = .returned (rOut s.size none) ∧ w = w' := by
  go_enter Try.func11, Try.ntmps11
  go_wp2
  refine wp_loop_rounds 1 ?_
  rw [rounds_succ]
  go_wp2
  go_ret2
  exact ⟨rfl, rfl⟩
end Go.Proofs.Ytkpajmgbiepmbaa
