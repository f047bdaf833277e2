/- What a seat needs of several texts. -/
import Derived.Test.YtnkhgajghfonhaaGreatDoorHexA
import Derived.Test.YtnkhgajghfonhaaGreatDoorCrcPlain
import Derived.Lib.IfaceNeq
/- From HexB. -/
namespace Go.Proofs.YtnkhgajghfonhaaGreatDoor
set_option linter.unusedVariables false
theorem snoc_rec {P : List UInt8 → Prop} (h0 : P []) (h1 : ∀ l c, P l → P (l ++ [c])) (l : List UInt8) : P l := by
  have : ∀ r : List UInt8, P r.reverse := by
    intro r
    induction r with
    | nil => exact h0
    | cons c r ih => rw [List.reverse_cons]; exact h1 _ c ih
  have h := this l.reverse
  rwa [List.reverse_reverse] at h
/-- The worth of a digit, great letters and those above f as well. -/
def worth (c : UInt8) : Option Nat :=
  if 48 ≤ c.toNat ∧ c.toNat ≤ 57 then some (c.toNat - 48)
  else if 97 ≤ (c.toNat ||| 32) ∧ (c.toNat ||| 32) ≤ 122 then (if (c.toNat ||| 32) - 87 < 16 then some ((c.toNat ||| 32) - 87) else none) else none
theorem worth_lt {c : UInt8} {d : Nat} (h : worth c = some d) : d < 16 := by
  unfold worth at h
  split at h
  · injection h; omega
  · split at h
    · split at h
      · injection h; omega
      · cases h
    · cases h
/-- A digit as the chapter has it. -/
def isHex (c : UInt8) : Bool := decide ((48 ≤ c.toNat ∧ c.toNat ≤ 57) ∨ (97 ≤ c.toNat ∧ c.toNat ≤ 102))
def dig (c : UInt8) : Nat := if c.toNat ≤ 57 then c.toNat - 48 else c.toNat - 87
theorem or32 (c : UInt8) (h : 97 ≤ c.toNat ∧ c.toNat ≤ 102) : c.toNat ||| 32 = c.toNat := by
  have : ∀ j : Fin 6, (97 + j.1) ||| 32 = 97 + j.1 := by decide
  have h2 := this ⟨c.toNat - 97, by omega⟩
  simp only [show 97 + (c.toNat - 97) = c.toNat by omega] at h2
  exact h2
theorem worth_hex {c : UInt8} (h : isHex c = true) : worth c = some (dig c) := by
  simp only [isHex, decide_eq_true_eq] at h
  unfold worth dig
  by_cases h1 : 48 ≤ c.toNat ∧ c.toNat ≤ 57
  · rw [if_pos h1, if_pos h1.2]
  · have h2 : 97 ≤ c.toNat ∧ c.toNat ≤ 102 := by omega
    rw [if_neg h1, or32 c h2, if_pos (by omega), if_pos (by omega), if_neg (by omega)]
theorem hd_hex (d : Nat) (h : d < 16) : isHex (hd d) = true := by
  have := hd_nat d h
  simp only [isHex, decide_eq_true_eq]
  split at this <;> omega
theorem dig_hd (d : Nat) (h : d < 16) : dig (hd d) = d := by
  have := hd_nat d h
  unfold dig
  split at this <;> split <;> omega
theorem hd_dig {c : UInt8} (h : isHex c = true) : hd (dig c) = c := by
  simp only [isHex, decide_eq_true_eq] at h
  have hl : dig c < 16 := by unfold dig; split <;> omega
  apply UInt8.toNat_inj.1
  rw [hd_nat _ hl]
  unfold dig
  split <;> split <;> omega
theorem dig_lt {c : UInt8} (h : isHex c = true) : dig c < 16 := worth_lt (worth_hex h)
/-- The number of digits. -/
def numOf (l : List UInt8) : Nat := l.foldl (fun n c => n * 16 + dig c) 0
theorem numOf_snoc (l : List UInt8) (c : UInt8) : numOf (l ++ [c]) = numOf l * 16 + dig c := by simp [numOf]
/-- What strconv makes of digits. -/
def parseN (l : List UInt8) : Option Nat := l.foldl (fun o c => o.bind fun n => (worth c).map fun d => n * 16 + d) (some 0)
theorem parseN_snoc (l : List UInt8) (c : UInt8) : parseN (l ++ [c]) = (parseN l).bind fun n => (worth c).map fun d => n * 16 + d := by simp [parseN]
theorem parseN_lt (l : List UInt8) : ∀ n, parseN l = some n → n < 16 ^ l.length := by
  refine snoc_rec (P := fun l => ∀ n, parseN l = some n → n < 16 ^ l.length) ?_ ?_ l
  · intro n h; injection h with h; subst h; simp
  · intro l c ih n h
    rw [parseN_snoc] at h
    cases hp : parseN l with
    | none => rw [hp] at h; cases h
    | some m =>
      rw [hp] at h
      cases hw : worth c with
      | none => rw [hw] at h; cases h
      | some d =>
        rw [hw] at h
        simp only [Option.bind_some, Option.map_some, Option.some.injEq] at h
        have h1 := ih m hp
        have h2 := worth_lt hw
        rw [List.length_append, List.length_singleton, Nat.pow_succ]
        omega
theorem parseN_bad {a : List UInt8} (h : parseN a = none) (b : List UInt8) : parseN (a ++ b) = none := by
  refine snoc_rec (P := fun b => parseN (a ++ b) = none) (by simpa using h) (fun b c ih => ?_) b
  rw [← List.append_assoc, parseN_snoc, ih]; rfl
theorem parseN_hex (l : List UInt8) : l.all isHex = true → parseN l = some (numOf l) := by
  refine snoc_rec (P := fun l => l.all isHex = true → parseN l = some (numOf l)) ?_ ?_ l
  · intro _; rfl
  · intro l c ih h
    rw [List.all_append, Bool.and_eq_true] at h
    have hc : isHex c = true := by simpa using h.2
    rw [parseN_snoc, ih h.1, numOf_snoc, worth_hex hc]
    rfl
theorem numOf_lt (l : List UInt8) (h : l.all isHex = true) : numOf l < 16 ^ l.length := parseN_lt l _ (parseN_hex l h)
theorem lowd_hex (k u : Nat) : (lowd k u).all isHex = true := by
  induction k with
  | zero => rfl
  | succ k ih => rw [lowd, List.all_cons, ih, hd_hex _ (Nat.mod_lt _ (by omega))]; rfl
theorem lowd_mod (k u m : Nat) (h : k ≤ m) : lowd k (u % 16 ^ m) = lowd k u := by
  induction k with
  | zero => rfl
  | succ k ih =>
    rw [lowd, lowd, ih (by omega)]
    congr 2
    have e : 16 ^ m = 16 ^ k * 16 ^ (m - k) := by rw [← Nat.pow_add]; congr 1; omega
    rw [e, Nat.mod_mul_right_div_self]
    have e2 : 16 ^ (m - k) = 16 * 16 ^ (m - k - 1) := by rw [← Nat.pow_succ']; congr 1; omega
    rw [e2, Nat.mod_mul_right_mod]
theorem numOf_cons_aux (l : List UInt8) (a : Nat) : l.foldl (fun n c => n * 16 + dig c) a = a * 16 ^ l.length + numOf l := by
  induction l generalizing a with
  | nil => simp [numOf]
  | cons c l ih =>
    unfold numOf
    rw [List.foldl_cons, List.foldl_cons, ih, ih (0 * 16 + dig c), List.length_cons, Nat.pow_succ]
    rw [Nat.add_mul, Nat.mul_assoc, Nat.mul_comm 16 (16 ^ l.length), Nat.zero_mul, Nat.zero_add]
    omega
theorem numOf_cons (c : UInt8) (l : List UInt8) : numOf (c :: l) = dig c * 16 ^ l.length + numOf l := by
  show (l.foldl _ (0 * 16 + dig c)) = _
  rw [numOf_cons_aux, Nat.zero_mul, Nat.zero_add]
/-- There and back. -/
theorem numOf_lowd (k u : Nat) (h : u < 16 ^ k) : numOf (lowd k u) = u := by
  induction k generalizing u with
  | zero => simp at h; subst h; rfl
  | succ k ih =>
    rw [lowd, numOf_cons, lowd_length, ← lowd_mod k u k (Nat.le_refl _), ih _ (Nat.mod_lt _ (Nat.pow_pos (by omega))), dig_hd _ (Nat.mod_lt _ (by omega))]
    have h1 : u / 16 ^ k < 16 := Nat.div_lt_of_lt_mul (by rw [Nat.pow_succ] at h; omega)
    rw [Nat.mod_eq_of_lt h1, Nat.mul_comm]
    exact Nat.div_add_mod u (16 ^ k)
theorem lowd_numOf (l : List UInt8) (h : l.all isHex = true) : lowd l.length (numOf l) = l := by
  induction l with
  | nil => rfl
  | cons c l ih =>
    rw [List.all_cons, Bool.and_eq_true] at h
    rw [List.length_cons, lowd, numOf_cons]
    have hl := numOf_lt l h.2
    have e1 : (dig c * 16 ^ l.length + numOf l) / 16 ^ l.length = dig c := by
      rw [Nat.mul_comm, Nat.mul_add_div (Nat.pow_pos (by omega)), Nat.div_eq_of_lt hl, Nat.add_zero]
    rw [e1, Nat.mod_eq_of_lt (dig_lt h.1), hd_dig h.1, ← lowd_mod l.length _ l.length (Nat.le_refl _), Nat.mul_comm, Nat.mul_add_mod, Nat.mod_eq_of_lt hl, ih h.2]
/-- What the chapter asks of Unhex. -/
def unhexV (l : List UInt8) : Option Nat := if l.length = 16 ∧ l.all isHex = true ∧ (l.headD 0).toNat ≤ 55 then some (numOf l) else none
theorem head_iff (l : List UInt8) (h : l.length = 16) (ha : l.all isHex = true) : (l.headD 0).toNat ≤ 55 ↔ numOf l < 9223372036854775808 := by
  match l, h with
  | c :: l, h =>
    rw [List.all_cons, Bool.and_eq_true] at ha
    have hl : l.length = 15 := by simpa using h
    have := numOf_lt l ha.2
    rw [hl] at this
    rw [numOf_cons, hl]
    have hc := ha.1
    simp only [isHex, decide_eq_true_eq] at hc
    show c.toNat ≤ 55 ↔ _
    unfold dig
    split <;> omega
/-- A number's digits are its digits alone. -/
theorem hex_back {l : List UInt8} {n : Nat} (hn : n < 9223372036854775808) : hexL (n : Int) = l ↔ unhexV l = some n := by
  have e : hexN (n : Int) = n := by unfold hexN; omega
  have hp : n < 16 ^ 16 := by omega
  unfold hexL
  rw [e]
  constructor
  · rintro rfl
    have ha := lowd_hex 16 n
    have hl := lowd_length 16 n
    have hv := numOf_lowd 16 n hp
    unfold unhexV
    rw [if_pos ⟨hl, ha, (head_iff _ hl ha).2 (by rw [hv]; exact hn)⟩, hv]
  · intro h
    unfold unhexV at h
    split at h
    · rename_i h1
      injection h with h
      have := lowd_numOf l h1.2.1
      rw [h1.1, h] at this
      exact this
    · cases h
theorem unhexV_lt {l : List UInt8} {n : Nat} (h : unhexV l = some n) : n < 9223372036854775808 := by
  unfold unhexV at h
  split at h
  · rename_i h1
    injection h with h
    have := (head_iff l h1.1 h1.2.1).1 h1.2.2
    omega
  · cases h
end Go.Proofs.YtnkhgajghfonhaaGreatDoor
namespace Go.Proofs.YtnkhgajghfonhaaGreatDoor
open Go.ChangeShapes Go.WideShapes Go.ChangeAt Go.RowKit
open Go.Lib (byteCells byteCells_length byteCells_append strCells)
set_option linter.unusedVariables false
theorem u8_or32 (n : Nat) (h : n < 256) : bits .or .u8 (n : Int) 32 = ((n ||| 32 : Nat) : Int) := Go.u8_or_nat n 32 h (by omega)
def errV (k : Int) : Value := .iface 212 (.int .i64 k)
/-- What ParseUint answers. -/
def PuPost (l : List UInt8) (w : World) (e : Ending) (w' : World) : Prop :=
  Below w.heap.size w w' ∧ ((∃ n, parseN l = some n ∧ e = .returned (.tuple #[.int .u64 (n : Int), .nilIface])) ∨ (parseN l = none ∧ e = .returned (.tuple #[.int .u64 0, errV 2])))
set_option maxHeartbeats 4000000 in
set_option maxRecDepth 20000 in
theorem puint_any (s : ByteArray) (h1 : 1 ≤ s.size) (h16 : s.size ≤ 16) (w : World) :
    Calls Tryz.prog 166 #[.string s, .int .i64 16, .int .i64 64] w (PuPost s.data.toList w) := by
  have hcv := fun W => run_bytes_of_string (P := Tryz.prog) W 9 22 5 s Tryz.underlying9 Tryz.underlying22 Tryz.underlying5
  have hs0 : s ≠ ByteArray.empty := fun e => by subst e; simp at h1
  have he : s.toList.isEmpty = false := by
    rw [Lib.toList_data, List.isEmpty_eq_false_iff]
    exact fun e => hs0 (str_ext (by rw [e]; rfl))
  go_enter Tryz.func166, Tryz.ntmps166
  go_wp2
  obtain ⟨W, hW⟩ : ∃ W, (w.alloc (.cells (bytesRow s (grownCap w s.size 0 5)) 5 ((bytesRow s (grownCap w s.size 0 5)).size, (bytesRow s (grownCap w s.size 0 5)).size + 1))).drew = W := ⟨_, rfl⟩
  have HC := Lib.hid (show ∀ k (h : k < s.size), W.cell? ⟨w.heap.size, k, none⟩ = some (.int .u8 (s[k].toNat : Int)) from fun k h => by
    have hj : k < s.data.toList.length := by simpa using h
    obtain ⟨b, off, e, _, h0⟩ := laid_bytes s w (grownCap w s.size 0 5) 5 ((bytesRow s (grownCap w s.size 0 5)).size, (bytesRow s (grownCap w s.size 0 5)).size + 1) k hj
    injection e with e
    injection e with e1 e2
    subst e1; subst e2
    rw [hW, Nat.zero_add] at h0
    rw [h0]
    simp
    rfl)
  have HB := Lib.hid (show Below w.heap.size w W by rw [← hW]; exact ((Below.refl _ w).alloc (Nat.le_refl _) _).drew)
  rw [hW]
  clear hW hcv he hs0
  go_loop [12, 13, 101] (fun us nv i => ∃ k : Nat, k ≤ s.size ∧ us = .bool false ∧ i = .int .i64 (k : Int) ∧ ∃ n : Nat, nv = .int .u64 (n : Int) ∧ Hid (parseN (s.data.toList.take k) = some n)) (fun _ _ i => s.size - (intOf i).toNat)
  case atStart => exact ⟨0, Nat.zero_le _, rfl, rfl, 0, rfl, Lib.hid rfl⟩
  case round =>
    obtain ⟨k, hk, rfl, rfl, n, rfl, HN⟩ := hrel
    by_cases hlt : k < s.size
    · have hcell := HC.out k hlt
      have HT := Lib.hid (take_snoc8 s k hlt)
      obtain ⟨c, hc⟩ : ∃ c, s[k] = c := ⟨_, rfl⟩
      rw [hc] at hcell HT
      have hn15 : n < 1152921504606846976 := by
        have h1 := parseN_lt _ n HN.out
        rw [List.length_take] at h1
        have h2 : 16 ^ (min k s.data.toList.length) ≤ 16 ^ 15 := Nat.pow_le_pow_right (by omega) (by omega)
        omega
      have HP := Lib.hid (show parseN (s.data.toList.take (k + 1)) = (worth c).map fun d => n * 16 + d by rw [HT.out, parseN_snoc, HN.out]; rfl)
      have HW := Lib.hid (show worth c = (if 48 ≤ c.toNat ∧ c.toNat ≤ 57 then some (c.toNat - 48) else if 97 ≤ (c.toNat ||| 32) ∧ (c.toNat ||| 32) ≤ 122 then (if (c.toNat ||| 32) - 87 < 16 then some ((c.toNat ||| 32) - 87) else none) else none) from rfl)
      have HBAD := Lib.hid (show worth c = none → parseN s.data.toList = none from fun h => by
        rw [← List.take_append_drop (k + 1) s.data.toList]
        exact parseN_bad (by rw [HP.out, h]; rfl) _)
      have hm256 : c.toNat < 256 := c.toNat_lt
      have ho := u8_or32 c.toNat hm256
      obtain ⟨m, hm⟩ : ∃ m, c.toNat = m := ⟨_, rfl⟩
      obtain ⟨o, ho2⟩ : ∃ o, m ||| 32 = o := ⟨_, rfl⟩
      rw [hm] at hcell HW hm256 ho
      rw [ho2] at ho HW
      have ho256 : o < 256 := by rw [← ho2]; exact Nat.or_lt_two_pow (n := 8) hm256 (by omega)
      have hm95 : o ≤ 122 → m ≠ 95 := by rintro h rfl; rw [← ho2] at h; revert h; decide
      clear hc hm ho2 HT
      have e1 : IntKind.u64.wrap 18446744073709551616 = 0 := rfl
      have e2 : IntKind.u64.wrap (-1) = 18446744073709551615 := rfl
      have g1 : decide ((1152921504606846976 : Int) ≤ (n : Int)) = false := decide_eq_false (by omega)
      have g2 : IntKind.u64.wrap ((n : Int) * 16) = (n : Int) * 16 := by rw [IntKind.wrap_u64]; omega
      have G3 := Lib.hid (show ∀ d : Nat, d < 16 → IntKind.u64.wrap ((n : Int) * 16 + (d : Int)) = (n : Int) * 16 + (d : Int) ∧ decide ((n : Int) * 16 + (d : Int) < (n : Int) * 16) = false ∧ decide ((18446744073709551615 : Int) < (n : Int) * 16 + (d : Int)) = false from fun d hd => ⟨by rw [IntKind.wrap_u64]; omega, decide_eq_false (by omega), decide_eq_false (by omega)⟩)
      have H15 := Lib.hid hn15
      clear hn15
      by_cases hd1 : 48 ≤ m ∧ m ≤ 57
      · rw [if_pos hd1] at HW
        obtain ⟨hd1, hd2⟩ := hd1
        obtain ⟨d, hd⟩ : ∃ d, m - 48 = d := ⟨_, rfl⟩
        have g4 : (m : Int) - 48 = (d : Int) := by omega
        have hd16 : d < 16 := by omega
        have hdd : decide ((16 : Int) ≤ (d : Int)) = false := decide_eq_false (by omega)
        have g5 : decide ((m : Int) ≤ 57) = true := decide_eq_true (by omega)
        have g6 : decide ((48 : Int) ≤ (m : Int)) = true := decide_eq_true (by omega)
        obtain ⟨g7, g8, g9⟩ := G3.out d hd16
        have HN2 := Lib.hid (show parseN (s.data.toList.take (k + 1)) = some (n * 16 + d) by rw [HP.out, HW.out, hd]; rfl)
        clear ho
        go_wp2
        go_round
        case rel =>
          try (refine ⟨trivial, ?_⟩)
          repeat (apply Exists.intro)
          refine ⟨⟨k + 1, by omega, rfl, rfl, n * 16 + d, rfl, HN2⟩, ?_⟩
          repeat (first | exact rfl | refine ⟨rfl, ?_⟩ | refine ⟨congrArg (Value.int .u64) (by omega), ?_⟩)
        case measure => simp [intOf]; omega
      · rw [if_neg hd1] at HW
        by_cases hl1 : 97 ≤ o ∧ o ≤ 122
        · rw [if_pos hl1] at HW
          obtain ⟨d, hd⟩ : ∃ d, o - 87 = d := ⟨_, rfl⟩
          rw [hd] at HW
          have g4 : (o : Int) - 97 + 10 = (d : Int) := by omega
          have q1 : decide ((97 : Int) ≤ (o : Int)) = true := decide_eq_true (by omega)
          have q2 : decide ((o : Int) ≤ 122) = true := decide_eq_true (by omega)
          have q3 := hm95 hl1.2
          have q4 : ((m : Int) == 95) = false := by rw [beq_eq_false_iff_ne]; omega
          by_cases hd16 : d < 16
          · rw [if_pos hd16] at HW
            have hdd : decide ((16 : Int) ≤ (d : Int)) = false := decide_eq_false (by omega)
            obtain ⟨g7, g8, g9⟩ := G3.out d hd16
            have HN2 := Lib.hid (show parseN (s.data.toList.take (k + 1)) = some (n * 16 + d) by rw [HP.out, HW.out]; rfl)
            by_cases hm1 : 48 ≤ m
            · have g5 : decide ((m : Int) ≤ 57) = false := decide_eq_false (by omega)
              have g6 : decide ((48 : Int) ≤ (m : Int)) = true := decide_eq_true (by omega)
              go_wp2_with (go_at_call 194; refine (Tryz.internal_strconv_lower _ _).mono ?_; rintro e w1 ⟨rfl, rfl⟩)
              go_round
              case rel =>
                try (refine ⟨trivial, ?_⟩)
                repeat (apply Exists.intro)
                refine ⟨⟨k + 1, by omega, rfl, rfl, n * 16 + d, rfl, HN2⟩, ?_⟩
                repeat (first | exact rfl | refine ⟨rfl, ?_⟩ | refine ⟨congrArg (Value.int .u64) (by omega), ?_⟩)
              case measure => simp [intOf]; omega
            · have g6 : decide ((48 : Int) ≤ (m : Int)) = false := decide_eq_false (by omega)
              go_wp2_with (go_at_call 194; refine (Tryz.internal_strconv_lower _ _).mono ?_; rintro e w1 ⟨rfl, rfl⟩)
              go_round
              case rel =>
                try (refine ⟨trivial, ?_⟩)
                repeat (apply Exists.intro)
                refine ⟨⟨k + 1, by omega, rfl, rfl, n * 16 + d, rfl, HN2⟩, ?_⟩
                repeat (first | exact rfl | refine ⟨rfl, ?_⟩ | refine ⟨congrArg (Value.int .u64) (by omega), ?_⟩)
              case measure => simp [intOf]; omega
          · rw [if_neg hd16] at HW
            have hdd : decide ((16 : Int) ≤ (d : Int)) = true := decide_eq_true (by omega)
            have HX := Lib.hid (HBAD.out HW.out)
            by_cases hm1 : 48 ≤ m
            · have g5 : decide ((m : Int) ≤ 57) = false := decide_eq_false (by omega)
              have g6 : decide ((48 : Int) ≤ (m : Int)) = true := decide_eq_true (by omega)
              go_wp2_with (go_at_call 194; refine (Tryz.internal_strconv_lower _ _).mono ?_; rintro e w1 ⟨rfl, rfl⟩)
              go_ret2
              exact ⟨HB.out, .inr ⟨HX.out, rfl⟩⟩
            · have g6 : decide ((48 : Int) ≤ (m : Int)) = false := decide_eq_false (by omega)
              go_wp2_with (go_at_call 194; refine (Tryz.internal_strconv_lower _ _).mono ?_; rintro e w1 ⟨rfl, rfl⟩)
              go_ret2
              exact ⟨HB.out, .inr ⟨HX.out, rfl⟩⟩
        · rw [if_neg hl1] at HW
          have HX := Lib.hid (HBAD.out HW.out)
          have hor : (97 ≤ o ∧ 122 < o) ∨ o < 97 := by omega
          rcases hor with ⟨r1, r2⟩ | r1
          · have q1 : decide ((97 : Int) ≤ (o : Int)) = true := decide_eq_true (by omega)
            have q2 : decide ((o : Int) ≤ 122) = false := decide_eq_false (by omega)
            by_cases h95 : (m : Int) = 95
            · have q4 : ((m : Int) == 95) = true := by rw [beq_iff_eq]; exact h95
              clear h95
              by_cases hm1 : 48 ≤ m
              · have g5 : decide ((m : Int) ≤ 57) = false := decide_eq_false (by omega)
                have g6 : decide ((48 : Int) ≤ (m : Int)) = true := decide_eq_true (by omega)
                go_wp2_with (go_at_call 194; refine (Tryz.internal_strconv_lower _ _).mono ?_; rintro e w1 ⟨rfl, rfl⟩)
                go_ret2
                exact ⟨HB.out, .inr ⟨HX.out, rfl⟩⟩
              · have g6 : decide ((48 : Int) ≤ (m : Int)) = false := decide_eq_false (by omega)
                go_wp2_with (go_at_call 194; refine (Tryz.internal_strconv_lower _ _).mono ?_; rintro e w1 ⟨rfl, rfl⟩)
                go_ret2
                exact ⟨HB.out, .inr ⟨HX.out, rfl⟩⟩
            · have q4 : ((m : Int) == 95) = false := by rw [beq_eq_false_iff_ne]; exact h95
              by_cases hm1 : 48 ≤ m
              · have g5 : decide ((m : Int) ≤ 57) = false := decide_eq_false (by omega)
                have g6 : decide ((48 : Int) ≤ (m : Int)) = true := decide_eq_true (by omega)
                go_wp2_with (go_at_call 194; refine (Tryz.internal_strconv_lower _ _).mono ?_; rintro e w1 ⟨rfl, rfl⟩)
                go_ret2
                exact ⟨HB.out, .inr ⟨HX.out, rfl⟩⟩
              · have g6 : decide ((48 : Int) ≤ (m : Int)) = false := decide_eq_false (by omega)
                go_wp2_with (go_at_call 194; refine (Tryz.internal_strconv_lower _ _).mono ?_; rintro e w1 ⟨rfl, rfl⟩)
                go_ret2
                exact ⟨HB.out, .inr ⟨HX.out, rfl⟩⟩
          · have q1 : decide ((97 : Int) ≤ (o : Int)) = false := decide_eq_false (by omega)
            by_cases h95 : (m : Int) = 95
            · have q4 : ((m : Int) == 95) = true := by rw [beq_iff_eq]; exact h95
              clear h95
              by_cases hm1 : 48 ≤ m
              · have g5 : decide ((m : Int) ≤ 57) = false := decide_eq_false (by omega)
                have g6 : decide ((48 : Int) ≤ (m : Int)) = true := decide_eq_true (by omega)
                go_wp2_with (go_at_call 194; refine (Tryz.internal_strconv_lower _ _).mono ?_; rintro e w1 ⟨rfl, rfl⟩)
                go_ret2
                exact ⟨HB.out, .inr ⟨HX.out, rfl⟩⟩
              · have g6 : decide ((48 : Int) ≤ (m : Int)) = false := decide_eq_false (by omega)
                go_wp2_with (go_at_call 194; refine (Tryz.internal_strconv_lower _ _).mono ?_; rintro e w1 ⟨rfl, rfl⟩)
                go_ret2
                exact ⟨HB.out, .inr ⟨HX.out, rfl⟩⟩
            · have q4 : ((m : Int) == 95) = false := by rw [beq_eq_false_iff_ne]; exact h95
              by_cases hm1 : 48 ≤ m
              · have g5 : decide ((m : Int) ≤ 57) = false := decide_eq_false (by omega)
                have g6 : decide ((48 : Int) ≤ (m : Int)) = true := decide_eq_true (by omega)
                go_wp2_with (go_at_call 194; refine (Tryz.internal_strconv_lower _ _).mono ?_; rintro e w1 ⟨rfl, rfl⟩)
                go_ret2
                exact ⟨HB.out, .inr ⟨HX.out, rfl⟩⟩
              · have g6 : decide ((48 : Int) ≤ (m : Int)) = false := decide_eq_false (by omega)
                go_wp2_with (go_at_call 194; refine (Tryz.internal_strconv_lower _ _).mono ?_; rintro e w1 ⟨rfl, rfl⟩)
                go_ret2
                exact ⟨HB.out, .inr ⟨HX.out, rfl⟩⟩
    · have HT := Lib.hid (List.take_of_length_le (l := s.data.toList) (i := k) (by simp; omega))
      go_wp2
      go_ret2
      rw [HT.out] at HN
      exact ⟨HB.out, .inl ⟨n, HN.out, rfl⟩⟩
end Go.Proofs.YtnkhgajghfonhaaGreatDoor
namespace Go.Proofs.YtnkhgajghfonhaaGreatDoor
open Go.ChangeShapes Go.WideShapes Go.ChangeAt Go.RowKit
set_option linter.unusedVariables false
def PiPost (l : List UInt8) (w : World) (e : Ending) (w' : World) : Prop :=
  ∃ n E, e = .returned (.tuple #[.int .i64 n, E]) ∧ in64 n ∧ (E = .nilIface ∨ E = errV 1 ∨ E = errV 2) ∧ (l.all isHex = true → (numOf l < 9223372036854775808 → E = .nilIface ∧ n = (numOf l : Int)) ∧ (¬ numOf l < 9223372036854775808 → E ≠ .nilIface)) ∧ Below w.heap.size w w'
theorem PuPost.some_ {l : List UInt8} {w w' : World} {e : Ending} (h : PuPost l w e w') {n : Nat} (hn : parseN l = some n) : e = .returned (.tuple #[.int .u64 (n : Int), .nilIface]) ∧ Below w.heap.size w w' := by
  obtain ⟨hb, ⟨m, hm, he⟩ | ⟨hm, he⟩⟩ := h
  · rw [hn] at hm; injection hm with hm; subst hm; exact ⟨he, hb⟩
  · rw [hn] at hm; cases hm
theorem PuPost.none_ {l : List UInt8} {w w' : World} {e : Ending} (h : PuPost l w e w') (hn : parseN l = none) : e = .returned (.tuple #[.int .u64 0, errV 2]) ∧ Below w.heap.size w w' := by
  obtain ⟨hb, ⟨m, hm, he⟩ | ⟨hm, he⟩⟩ := h
  · rw [hn] at hm; cases hm
  · exact ⟨he, hb⟩
theorem iface_comparable : (Tryz.prog.info? 212).map (·.comparable) = some true := by kernel_rfl
theorem neq_2 (W : World) : (binOp .neq 148 (.iface 212 (.int .i64 2)) (.iface 212 (.int .i64 1))).run Tryz.prog W = .ok (.bool true) W := Lib.run_neq_iface_int W 2 1 Tryz.underlying148 iface_comparable Tryz.underlying212
theorem all_not {l : List UInt8} (h : parseN l = none) : l.all isHex = false := by
  cases ha : l.all isHex with
  | false => rfl
  | true => rw [parseN_hex _ ha] at h; cases h
theorem PiPost.not {l : List UInt8} {w w' : World} {n : Int} {E : Value} (h : l.all isHex = false) (hn : in64 n) (hE : E = .nilIface ∨ E = errV 1 ∨ E = errV 2) (hb : Below w.heap.size w w') : PiPost l w (.returned (.tuple #[.int .i64 n, E])) w' :=
  ⟨n, E, rfl, hn, hE, fun ha => (by rw [h] at ha; cases ha), hb⟩
theorem PiPost.yes {l : List UInt8} {w w' : World} {n : Nat} (h : parseN l = some n) (hn : n < 9223372036854775808) (hb : Below w.heap.size w w') : PiPost l w (.returned (.tuple #[.int .i64 (n : Int), .nilIface])) w' :=
  ⟨n, .nilIface, rfl, ⟨by omega, by omega⟩, .inl rfl, fun ha => (by
    rw [parseN_hex _ ha] at h; injection h with h
    exact ⟨fun _ => ⟨rfl, by rw [h]⟩, fun h2 => absurd hn (by rw [← h]; exact h2)⟩), hb⟩
theorem PiPost.big {l : List UInt8} {w w' : World} {n : Nat} (h : parseN l = some n) (hn : ¬ n < 9223372036854775808) (hb : Below w.heap.size w w') : PiPost l w (.returned (.tuple #[.int .i64 9223372036854775807, errV 1])) w' :=
  ⟨_, errV 1, rfl, ⟨by omega, by omega⟩, .inr (.inl rfl), fun ha => (by
    rw [parseN_hex _ ha] at h; injection h with h
    exact ⟨fun h2 => absurd (h ▸ h2) hn, fun _ => by unfold errV; intro e; cases e⟩), hb⟩
set_option maxHeartbeats 4000000 in
set_option maxRecDepth 20000 in
theorem pint_plain (s : ByteArray) (h16 : s.size = 16) (c : UInt8) (hc : s[0]'(by omega) = c) (h43 : c.toNat ≠ 43) (h45 : c.toNat ≠ 45) (w : World) :
    Calls Tryz.prog 133 #[.string s, .int .i64 16, .int .i64 64] w (PiPost s.data.toList w) := by
  have HU := Lib.hid (puint_any s (by omega) (by omega) w)
  have he : s.toList.isEmpty = false := by
    rw [Lib.toList_data, List.isEmpty_eq_false_iff]
    exact fun e => by
      have : s = ByteArray.empty := str_ext (by rw [e]; rfl)
      rw [this] at h16; simp at h16
  have q1 : ((c.toNat : Int) == 43) = false := by rw [beq_eq_false_iff_ne]; exact fun e => h43 (Int.ofNat.inj e)
  have q2 : ((c.toNat : Int) == 45) = false := by rw [beq_eq_false_iff_ne]; exact fun e => h45 (Int.ofNat.inj e)
  have h0 : (0 : Nat) < s.size := by omega
  have e1 : IntKind.u64.wrap 9223372036854775808 = 9223372036854775808 := rfl
  clear h43 h45
  cases hp : parseN s.data.toList with
  | none =>
    have HN := Lib.hid (all_not hp)
    have HP := Lib.hid hp
    have hq := neq_2
    clear hp
    go_enter Tryz.func133, Tryz.ntmps133
    go_wp2_with (go_at_call 166; refine HU.out.mono ?_; intro e w1 h; obtain ⟨rfl, hb⟩ := h.none_ HP.out; have HB := Lib.hid hb; clear h hb; unfold errV)
    go_ret2
    exact PiPost.not HN.out ⟨by omega, by omega⟩ (.inr (.inr rfl)) HB.out
  | some n =>
    have hl := parseN_lt _ n hp
    have hl2 : n < 18446744073709551616 := by rw [← size_eq, h16] at hl; omega
    have HP := Lib.hid hp
    clear hp hl
    by_cases hbig : n < 9223372036854775808
    · have g1 : decide ((9223372036854775808 : Int) ≤ (n : Int)) = false := decide_eq_false (by omega)
      have g2 : IntKind.i64.wrap (n : Int) = (n : Int) := by rw [IntKind.wrap_i64]; omega
      have HB0 := Lib.hid hbig
      clear hbig hl2
      go_enter Tryz.func133, Tryz.ntmps133
      go_wp2_with (go_at_call 166; refine HU.out.mono ?_; intro e w1 h; obtain ⟨rfl, hb⟩ := h.some_ HP.out; have HB := Lib.hid hb; clear h hb)
      go_ret2
      exact PiPost.yes HP.out HB0.out HB.out
    · have g1 : decide ((9223372036854775808 : Int) ≤ (n : Int)) = true := decide_eq_true (by omega)
      have HB0 := Lib.hid hbig
      clear hbig hl2
      go_enter Tryz.func133, Tryz.ntmps133
      go_wp2_with (go_at_call 166; refine HU.out.mono ?_; intro e w1 h; obtain ⟨rfl, hb⟩ := h.some_ HP.out; have HB := Lib.hid hb; clear h hb)
      go_ret2
      exact PiPost.big HP.out HB0.out HB.out
set_option maxHeartbeats 4000000 in
set_option maxRecDepth 20000 in
theorem pint_plus (s : ByteArray) (h16 : s.size = 16) (c : UInt8) (hc : s[0]'(by omega) = c) (h43 : c.toNat = 43) (w : World) :
    Calls Tryz.prog 133 #[.string s, .int .i64 16, .int .i64 64] w (PiPost s.data.toList w) := by
  obtain ⟨t, ht⟩ : ∃ t, s.extract 1 s.size = t := ⟨_, rfl⟩
  have hts : t.size = 15 := by rw [← ht, ByteArray.size_extract]; omega
  have HU := Lib.hid (puint_any t (by omega) (by omega) w)
  have he : s.toList.isEmpty = false := by
    rw [Lib.toList_data, List.isEmpty_eq_false_iff]
    exact fun e => by
      have : s = ByteArray.empty := str_ext (by rw [e]; rfl)
      rw [this] at h16; simp at h16
  have h0 : (0 : Nat) < s.size := by omega
  have e1 : IntKind.u64.wrap 9223372036854775808 = 9223372036854775808 := rfl
  have HN := Lib.hid (show s.data.toList.all isHex = false by
    rw [List.all_eq_false]
    refine ⟨c, ?_, ?_⟩
    · rw [← hc]; show s.data[0] ∈ s.data.toList; simp
    · simp [isHex, h43])
  have hsl : ∀ W, (Instr.slice 9 (.string s) (some (.int .i64 1)) none none).run Tryz.prog W = .ok (.string t) W := fun W => by
    rw [run_slice_string_l (P := Tryz.prog) W 9 s Tryz.underlying9 .i64 1 (by omega) (by omega), ← ht]; rfl
  cases hp : parseN t.data.toList with
  | none =>
    have HP := Lib.hid hp
    have hq := neq_2
    clear hp
    go_enter Tryz.func133, Tryz.ntmps133
    go_wp2_with (go_at_call 166; refine HU.out.mono ?_; intro e w1 h; obtain ⟨rfl, hb⟩ := h.none_ HP.out; have HB := Lib.hid hb; clear h hb; unfold errV)
    go_ret2
    exact PiPost.not HN.out ⟨by omega, by omega⟩ (.inr (.inr rfl)) HB.out
  | some n =>
    have hl := parseN_lt _ n hp
    have hl2 : n < 9223372036854775808 := by rw [← size_eq, hts] at hl; omega
    have HP := Lib.hid hp
    have HL := Lib.hid hl2
    clear hp hl
    have g1 : decide ((9223372036854775808 : Int) ≤ (n : Int)) = false := decide_eq_false (by omega)
    have g3 : decide ((9223372036854775808 : Int) < (n : Int)) = false := decide_eq_false (by omega)
    have g2 : IntKind.i64.wrap (n : Int) = (n : Int) := by rw [IntKind.wrap_i64]; omega
    have g4 : IntKind.i64.wrap (-(n : Int)) = -(n : Int) := by rw [IntKind.wrap_i64]; omega
    clear hl2
    go_enter Tryz.func133, Tryz.ntmps133
    go_wp2_with (go_at_call 166; refine HU.out.mono ?_; intro e w1 h; obtain ⟨rfl, hb⟩ := h.some_ HP.out; have HB := Lib.hid hb; clear h hb)
    go_ret2
    exact PiPost.not HN.out (by have := HL.out; constructor <;> omega) (.inl rfl) HB.out
set_option maxHeartbeats 4000000 in
set_option maxRecDepth 20000 in
theorem pint_minus (s : ByteArray) (h16 : s.size = 16) (c : UInt8) (hc : s[0]'(by omega) = c) (h43 : c.toNat = 45) (w : World) :
    Calls Tryz.prog 133 #[.string s, .int .i64 16, .int .i64 64] w (PiPost s.data.toList w) := by
  obtain ⟨t, ht⟩ : ∃ t, s.extract 1 s.size = t := ⟨_, rfl⟩
  have hts : t.size = 15 := by rw [← ht, ByteArray.size_extract]; omega
  have HU := Lib.hid (puint_any t (by omega) (by omega) w)
  have he : s.toList.isEmpty = false := by
    rw [Lib.toList_data, List.isEmpty_eq_false_iff]
    exact fun e => by
      have : s = ByteArray.empty := str_ext (by rw [e]; rfl)
      rw [this] at h16; simp at h16
  have h0 : (0 : Nat) < s.size := by omega
  have e1 : IntKind.u64.wrap 9223372036854775808 = 9223372036854775808 := rfl
  have HN := Lib.hid (show s.data.toList.all isHex = false by
    rw [List.all_eq_false]
    refine ⟨c, ?_, ?_⟩
    · rw [← hc]; show s.data[0] ∈ s.data.toList; simp
    · simp [isHex, h43])
  have hsl : ∀ W, (Instr.slice 9 (.string s) (some (.int .i64 1)) none none).run Tryz.prog W = .ok (.string t) W := fun W => by
    rw [run_slice_string_l (P := Tryz.prog) W 9 s Tryz.underlying9 .i64 1 (by omega) (by omega), ← ht]; rfl
  cases hp : parseN t.data.toList with
  | none =>
    have HP := Lib.hid hp
    have hq := neq_2
    clear hp
    go_enter Tryz.func133, Tryz.ntmps133
    go_wp2_with (go_at_call 166; refine HU.out.mono ?_; intro e w1 h; obtain ⟨rfl, hb⟩ := h.none_ HP.out; have HB := Lib.hid hb; clear h hb; unfold errV)
    go_ret2
    exact PiPost.not HN.out ⟨by omega, by omega⟩ (.inr (.inr rfl)) HB.out
  | some n =>
    have hl := parseN_lt _ n hp
    have hl2 : n < 9223372036854775808 := by rw [← size_eq, hts] at hl; omega
    have HP := Lib.hid hp
    have HL := Lib.hid hl2
    clear hp hl
    have g1 : decide ((9223372036854775808 : Int) ≤ (n : Int)) = false := decide_eq_false (by omega)
    have g3 : decide ((9223372036854775808 : Int) < (n : Int)) = false := decide_eq_false (by omega)
    have g2 : IntKind.i64.wrap (n : Int) = (n : Int) := by rw [IntKind.wrap_i64]; omega
    have g4 : IntKind.i64.wrap (-(n : Int)) = -(n : Int) := by rw [IntKind.wrap_i64]; omega
    clear hl2
    go_enter Tryz.func133, Tryz.ntmps133
    go_wp2_with (go_at_call 166; refine HU.out.mono ?_; intro e w1 h; obtain ⟨rfl, hb⟩ := h.some_ HP.out; have HB := Lib.hid hb; clear h hb)
    go_ret2
    exact PiPost.not HN.out (by have := HL.out; constructor <;> omega) (.inl rfl) HB.out
theorem pint_any (s : ByteArray) (h16 : s.size = 16) (w : World) :
    Calls Tryz.prog 133 #[.string s, .int .i64 16, .int .i64 64] w (PiPost s.data.toList w) := by
  by_cases h43 : (s[0]'(by omega)).toNat = 43
  · exact pint_plus s h16 _ rfl h43 w
  · by_cases h45 : (s[0]'(by omega)).toNat = 45
    · exact pint_minus s h16 _ rfl h45 w
    · exact pint_plain s h16 _ rfl h43 h45 w
end Go.Proofs.YtnkhgajghfonhaaGreatDoor
namespace Go.Proofs.YtnkhgajghfonhaaGreatDoor
open Go.ChangeShapes Go.WideShapes Go.ChangeAt Go.RowKit
set_option linter.unusedVariables false
/-- The library's two errors lie where they were laid. -/
def Errs (B : Nat) (w : World) : Prop := 1 < B ∧ 2 < B ∧ (∃ ev, w.cell? ⟨1, 0, none⟩ = some ev ∧ (ev = .nilIface ∨ ∃ te pe, ev = .iface te pe)) ∧ (∃ ev, w.cell? ⟨2, 0, none⟩ = some ev ∧ (ev = .nilIface ∨ ∃ te pe, ev = .iface te pe))
theorem Errs.below {B : Nat} {w w' : World} (h : Errs B w) (hb : Below B w w') : Errs B w' := by
  obtain ⟨h1, h2, ⟨e1, c1, k1⟩, ⟨e2, c2, k2⟩⟩ := h
  exact ⟨h1, h2, ⟨e1, (hb.cell (p := ⟨1, 0, none⟩) h1).trans c1, k1⟩, ⟨e2, (hb.cell (p := ⟨2, 0, none⟩) h2).trans c2, k2⟩⟩
/-- .. and what a letter's error is: one, whichever. -/
def SiPost (l : List UInt8) (w : World) (e : Ending) (w' : World) : Prop :=
  ∃ n E, e = .returned (.tuple #[.int .i64 n, E]) ∧ in64 n ∧ (E = .nilIface ∨ ∃ t p, E = .iface t p) ∧ (l.all isHex = true → (numOf l < 9223372036854775808 → E = .nilIface ∧ n = (numOf l : Int)) ∧ (¬ numOf l < 9223372036854775808 → E ≠ .nilIface)) ∧ Below w.heap.size w w'
def Tok1 : Prop := True
def Tok2 : Prop := True
def NumSays (l : List UInt8) (n : Int) (E : Value) : Prop := l.all isHex = true → (numOf l < 9223372036854775808 → E = .nilIface ∧ n = (numOf l : Int)) ∧ (¬ numOf l < 9223372036854775808 → E ≠ .nilIface)
def PiTold (l : List UInt8) (w : World) (e : Ending) (w' : World) : Prop :=
  ∃ n E, e = .returned (.tuple #[.int .i64 n, E]) ∧ (E = .nilIface ∨ (E = errV 1 ∧ Tok1) ∨ (E = errV 2 ∧ Tok2)) ∧ Hid (in64 n) ∧ Hid (NumSays l n E) ∧ Hid (Below w.heap.size w w')
theorem PiPost.told {l : List UInt8} {w w' : World} {e : Ending} (h : PiPost l w e w') : PiTold l w e w' := by
  obtain ⟨n, E, he, hn, h3, hv, hb⟩ := h
  exact ⟨n, E, he, h3.imp id (Or.imp (fun h => ⟨h, trivial⟩) (fun h => ⟨h, trivial⟩)), Lib.hid hn, Lib.hid hv, Lib.hid hb⟩
def ErrPost (w : World) (e : Ending) (w' : World) : Prop := ∃ t p, e = .returned (.iface t p) ∧ Below w.heap.size w w'
set_option maxHeartbeats 1000000 in
theorem spint_any (s : ByteArray) (h16 : s.size = 16) (w : World) {B : Nat} (hE : Errs B w) (hB : B ≤ w.heap.size) :
    Calls Tryz.prog 87 #[.string s, .int .i64 16, .int .i64 64] w (SiPost s.data.toList w) := by
  have HU := Lib.hid (pint_any s h16 w)
  have HT1 : Hid (∀ (w1 : World) (fn : ByteArray), Below w.heap.size w w1 → Calls Tryz.prog 134 #[.string fn, .string s, .int .i64 16, .int .i64 64, .iface 212 (.int .i64 2)] w1 (ErrPost w1)) := Lib.hid (fun w1 fn hb => by
    obtain ⟨_, _, ⟨ev, c1, k1⟩, _⟩ := hE.below (hb.mono hB)
    exact (Tryz.strconv_toError_syntax fn s 16 64 ev w1 (by omega) c1 k1).mono fun e w2 ⟨N, h1, _, _, h2⟩ => ⟨_, _, h1, h2⟩)
  have HT2 : Hid (∀ (w1 : World) (fn : ByteArray), Below w.heap.size w w1 → Calls Tryz.prog 134 #[.string fn, .string s, .int .i64 16, .int .i64 64, .iface 212 (.int .i64 1)] w1 (ErrPost w1)) := Lib.hid (fun w1 fn hb => by
    obtain ⟨_, _, _, ⟨ev, c1, k1⟩⟩ := hE.below (hb.mono hB)
    exact (Tryz.strconv_toError_range fn s 16 64 ev w1 (by omega) c1 k1).mono fun e w2 ⟨N, h1, _, _, h2⟩ => ⟨_, _, h1, h2⟩)
  clear hE hB
  have HU3 := Lib.hid (HU.out.mono fun e w' h => PiPost.told h)
  go_enter Tryz.func87, Tryz.ntmps87
  go_wp2_with (first
    | (go_at_call 133; refine HU3.out.mono ?_; rintro e w1 ⟨n, E, rfl, (rfl | ⟨rfl, HF1⟩ | ⟨rfl, HF2⟩), HN, HV, HB⟩; all_goals (try unfold errV))
    | (have HG := HF1; go_at_call 134; refine (HT2.out w1 _ HB.out).mono ?_; rintro e w2 ⟨t, p, rfl, hb2⟩; have HB2 := Lib.hid (HB.out.trans (hb2.mono HB.out.size)); clear hb2)
    | (have HG := HF2; go_at_call 134; refine (HT1.out w1 _ HB.out).mono ?_; rintro e w2 ⟨t, p, rfl, hb2⟩; have HB2 := Lib.hid (HB.out.trans (hb2.mono HB.out.size)); clear hb2))
  · go_ret2
    exact ⟨n, _, rfl, HN.out, .inl rfl, HV.out, HB.out⟩
  · go_ret2
    exact ⟨n, _, rfl, HN.out, .inr ⟨_, _, rfl⟩, fun ha => ⟨fun h => absurd ((HV.out ha).1 h).1 (by unfold errV; intro e; cases e), fun _ e => by cases e⟩, HB2.out⟩
  · go_ret2
    exact ⟨n, _, rfl, HN.out, .inr ⟨_, _, rfl⟩, fun ha => ⟨fun h => absurd ((HV.out ha).1 h).1 (by unfold errV; intro e; cases e), fun _ e => by cases e⟩, HB2.out⟩
/-- The three ways. -/
def Si3 (s : ByteArray) (w : World) (e : Ending) (w' : World) : Prop :=
  ∃ n E, e = .returned (.tuple #[.int .i64 n, E]) ∧ Hid (in64 n) ∧ Hid (Below w.heap.size w w') ∧
    ((E = .nilIface ∧ ((txt (hexL n)).toList == s.toList) = true ∧ ∃ k : Nat, n = (k : Int) ∧ Hid (unhexV s.data.toList = some k)) ∨
     (E = .nilIface ∧ ((txt (hexL n)).toList == s.toList) = false ∧ Hid (unhexV s.data.toList = none)) ∨
     (∃ t p, E = .iface t p ∧ Hid (unhexV s.data.toList = none)))
theorem SiPost.three {s : ByteArray} (h16 : s.size = 16) {w w' : World} {e : Ending} (h : SiPost s.data.toList w e w') : Si3 s w e w' := by
  obtain ⟨n, E, he, hn, hE, hv, hb⟩ := h
  have hl : s.data.toList.length = 16 := by rw [← size_eq]; exact h16
  refine ⟨n, E, he, Lib.hid hn, Lib.hid hb, ?_⟩
  by_cases ha : s.data.toList.all isHex = true
  · by_cases hlt : numOf s.data.toList < 9223372036854775808
    · obtain ⟨rfl, rfl⟩ := (hv ha).1 hlt
      have hu : unhexV s.data.toList = some (numOf s.data.toList) := by unfold unhexV; rw [if_pos ⟨hl, ha, (head_iff _ hl ha).2 hlt⟩]
      exact .inl ⟨rfl, str_eq (str_ext (by rw [txt_list]; exact (hex_back hlt).2 hu)), _, rfl, Lib.hid hu⟩
    · rcases hE with rfl | ⟨t, p, rfl⟩
      · exact absurd rfl ((hv ha).2 hlt)
      · exact .inr (.inr ⟨t, p, rfl, Lib.hid (by unfold unhexV; rw [if_neg fun h => hlt ((head_iff _ hl ha).1 h.2.2)])⟩)
  · have hu : unhexV s.data.toList = none := by unfold unhexV; rw [if_neg fun h => ha h.2.1]
    rcases hE with rfl | ⟨t, p, rfl⟩
    · refine .inr (.inl ⟨rfl, str_ne fun e => ha ?_, Lib.hid hu⟩)
      have : s.data.toList = hexL n := by rw [← e]; rfl
      rw [this]; exact lowd_hex _ _
    · exact .inr (.inr ⟨t, p, rfl, Lib.hid hu⟩)
def UnPost (l : List UInt8) (w : World) (e : Ending) (w' : World) : Prop :=
  Below w.heap.size w w' ∧ ((∃ n, unhexV l = some n ∧ e = .returned (.tuple #[.int .i64 (n : Int), .bool true])) ∨ (unhexV l = none ∧ e = .returned (.tuple #[.int .i64 0, .bool false])))
set_option maxHeartbeats 1000000 in
theorem unhex_any (s : ByteArray) (hs : s.size ≤ 9223372036854775807) (w : World) {B : Nat} (hE : Errs B w) (hT : Tab B w) (hB : B ≤ w.heap.size) :
    Calls Tryz.prog 61 #[.string s] w (UnPost s.data.toList w) := by
  by_cases h16 : s.size = 16
  · have hd : ((s.size : Int) != 16) = false := by rw [bne_eq_false_iff_eq]; omega
    have HU := Lib.hid ((spint_any s h16 w hE hB).mono fun e w' h => h.three h16)
    have HH := Lib.hid (fun (n : Int) (hn : in64 n) (w1 : World) (hb : Below w.heap.size w w1) => hex_any n hn w1 (hT.below (hb.mono hB)) (Nat.le_trans hB hb.size))
    clear hE hT hB
    go_enter Tryz.func61, Tryz.ntmps61
    go_wp2_with (first
      | (go_at_call 87; refine HU.out.mono ?_; rintro e w1 ⟨n, E, rfl, HN, HB, (⟨rfl, hq, k, rfl, HK⟩ | ⟨rfl, hq, HK⟩ | ⟨t, p, rfl, HK⟩)⟩)
      | (go_at_call 41; refine (HH.out _ HN.out w1 HB.out).mono ?_; rintro e w2 ⟨rfl, hb2⟩; have HB2 := Lib.hid (HB.out.trans (hb2.mono HB.out.size)); clear hb2))
    · go_ret2
      exact ⟨HB2.out, .inl ⟨k, HK.out, rfl⟩⟩
    · go_ret2
      exact ⟨HB2.out, .inr ⟨HK.out, rfl⟩⟩
    · go_ret2
      exact ⟨HB.out, .inr ⟨HK.out, rfl⟩⟩
  · have hd : ((s.size : Int) != 16) = true := by rw [bne_iff_ne]; omega
    have HX := Lib.hid (show unhexV s.data.toList = none by unfold unhexV; rw [if_neg fun h => h16 (by rw [size_eq]; exact h.1)])
    clear hE hT hB
    go_enter Tryz.func61, Tryz.ntmps61
    go_wp2
    go_ret2
    exact ⟨Below.refl _ _, .inr ⟨HX.out, rfl⟩⟩
end Go.Proofs.YtnkhgajghfonhaaGreatDoor
namespace Go.Proofs.YtnkhgajghfonhaaGreatDoor
open Go.ChangeShapes Go.WideShapes Go.ChangeAt Go.RowKit
set_option linter.unusedVariables false
theorem even_pow (k : Nat) : 16 ^ (k + 1) % 2 = 0 := by rw [Nat.pow_succ]; omega
end Go.Proofs.YtnkhgajghfonhaaGreatDoor
