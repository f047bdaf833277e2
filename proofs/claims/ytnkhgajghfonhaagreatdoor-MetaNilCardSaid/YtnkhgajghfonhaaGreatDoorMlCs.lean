/- Several texts in one: MlC0, MlC1, MlC2, MlC3. -/
import Derived.Test.YtnkhgajghfonhaaGreatDoorMem
import Derived.Test.YtnkhgajghfonhaaGreatDoorFraB
import Derived.Test.YtnkhgajghfonhaaGreatDoorFraFA
import Derived.Test.YtnkhgajghfonhaaGreatDoorRegion
import Derived.Lib.Bytealg
import Derived.Lib.Small
import Derived.Lib.Replace
import Derived.Lib.UnsafeStr
import Derived.Scope
import Derived.WalkMore
import Derived.Test.YtnkhgajghfonhaaGreatDoorRows
import Derived.WalkKit
import Derived.WalkLawsBesides
import Derived.WalkSpells
import Derived.ProofKit
import Derived.Below
import Derived.Outline
import Derived.Lib.Hide
import Derived.BigQuiet
import Derived.Deep.QuietTactic
import Derived.Deep.RegionWith
import Derived.Deep.RegionHeld3
import Derived.LoopTactic
import Derived.Lib.BufferMore
import Derived.Deep.AppendLies
import Derived.Maps.AppendAt
import Derived.Deep.Onto
import Derived.Lib.AppendStr
import Derived.OwnWalk
import Derived.Laws.IdiomStrings
import Derived.RangeFuncBox
import Derived.Deep.RegionLaw
import Derived.Recover
/- What a seat needs of several texts. -/
/- From ValPlain. -/
namespace Go.Proofs.YtnkhgajghfonhaaGreatDoor
set_option linter.unusedVariables false
def be (n : Nat) : Nat → List UInt8
  | 0 => []
  | m + 1 => UInt8.ofNat (n / 256 ^ m % 256) :: be n m
end Go.Proofs.YtnkhgajghfonhaaGreatDoor
/- From ValPlain2. -/
namespace Go.Proofs.YtnkhgajghfonhaaGreatDoor
open Go.Lib
set_option linter.unusedVariables false
end Go.Proofs.YtnkhgajghfonhaaGreatDoor
/- From CodPlain. -/
namespace Go.Proofs.YtnkhgajghfonhaaGreatDoor
set_option linter.unusedVariables false
def numL (n : Nat) : List UInt8 := if n < 128 then [UInt8.ofNat n] else UInt8.ofNat (n % 128 + 128) :: numL (n / 128)
termination_by n
decreasing_by omega
theorem numL_small {n : Nat} (h : n < 128) : numL n = [UInt8.ofNat n] := by rw [numL, if_pos h]
theorem numL_big {n : Nat} (h : 128 ≤ n) : numL n = UInt8.ofNat (n % 128 + 128) :: numL (n / 128) := by rw [numL, if_neg (by omega)]
theorem numL_pos (n : Nat) : 0 < (numL n).length := by
  rw [numL]
  split <;> simp
theorem numL_len : ∀ (m n : Nat), n < 128 ^ (m + 1) → (numL n).length ≤ m + 1
  | 0, n, h => by rw [numL_small (by omega)]; simp
  | m + 1, n, h => by
    rw [numL]
    split
    · simp
    · have := numL_len m (n / 128) (by rw [Nat.pow_succ] at h; omega)
      simp only [List.length_cons]
      omega
theorem numL_len64 {n : Nat} (h : n < 18446744073709551616) : (numL n).length ≤ 10 := by
  have e : (128 : Nat) ^ (9 + 1) = 1180591620717411303424 := by decide
  exact numL_len 9 n (by omega)
/-- The number of at most m digits with which l begins; m < 10: one that goes on another one. -/
def unG : Nat → List UInt8 → Option (Nat × List UInt8)
  | 0, _ => none
  | _ + 1, [] => none
  | m + 1, c :: r =>
    if m = 0 ∧ 1 < c.toNat then none
    else if c.toNat < 128 then (if m < 9 ∧ c.toNat = 0 then none else some (c.toNat, r))
    else (unG m r).map fun p => (c.toNat - 128 + 128 * p.1, p.2)
def unL (l : List UInt8) : Option (Nat × List UInt8) := unG 10 l
theorem ofNat_toNat {n : Nat} (h : n < 256) : (UInt8.ofNat n).toNat = n := by
  rw [UInt8.toNat_ofNat']
  omega
theorem toNat_ofNat (c : UInt8) : UInt8.ofNat c.toNat = c := by simp
theorem unG_num : ∀ (m n : Nat) (r : List UInt8), n < 2 * 128 ^ m → (m < 9 → 0 < n) → unG (m + 1) (numL n ++ r) = some (n, r)
  | m, n, r, h, hp => by
    by_cases hs : n < 128
    · rw [numL_small hs, List.singleton_append, unG, ofNat_toNat (by omega)]
      rw [if_neg (by rintro ⟨rfl, h1⟩; simp at h; omega), if_pos hs, if_neg (by rintro ⟨h1, h2⟩; have := hp h1; omega)]
    · match m with
      | 0 => simp at h; omega
      | m + 1 =>
        rw [numL_big (by omega), List.cons_append, unG, ofNat_toNat (by omega), if_neg (by omega), if_neg (by omega)]
        rw [unG_num m (n / 128) r (by rw [Nat.pow_succ] at h; omega) (fun _ => by omega)]
        simp only [Option.map_some, Option.some.injEq, Prod.mk.injEq, and_true]
        omega
theorem unG_only : ∀ (m n : Nat) (l r : List UInt8), m ≤ 9 → unG (m + 1) l = some (n, r) → l = numL n ++ r ∧ n < 2 * 128 ^ m ∧ (m < 9 → 0 < n)
  | m, n, [], r, h9, h => by rw [unG] at h; cases h
  | m, n, c :: l, r, h9, h => by
    have hc := c.toNat_lt
    rw [unG] at h
    split at h
    · cases h
    · rename_i h0
      split at h
      · rename_i h1
        split at h
        · cases h
        · rename_i h2
          simp only [Option.some.injEq, Prod.mk.injEq] at h
          obtain ⟨rfl, rfl⟩ := h
          rw [numL_small h1]
          refine ⟨by simp, ?_, fun h9 => by omega⟩
          match m with
          | 0 => simp; omega
          | m + 1 =>
            rw [Nat.pow_succ]
            have : 0 < 128 ^ m := Nat.pow_pos (by omega)
            omega
      · rename_i h1
        match m with
        | 0 => rw [unG] at h; cases h
        | m + 1 =>
          simp only [Option.map_eq_some_iff, Prod.mk.injEq] at h
          obtain ⟨⟨n', r'⟩, h3, h4, h5⟩ := h
          simp only at h4 h5
          subst h5
          obtain ⟨i1, i2, i3⟩ := unG_only m n' l r' (by omega) h3
          have hn := i3 (by omega)
          have hb : 128 ≤ n := by omega
          refine ⟨?_, ?_, fun _ => by omega⟩
          · rw [numL_big hb, i1, List.cons_append]
            rw [show n / 128 = n' by omega, show n % 128 + 128 = c.toNat by omega, toNat_ofNat]
          · rw [Nat.pow_succ]
            omega
theorem unL_num {n : Nat} (h : n < 18446744073709551616) (r : List UInt8) : unL (numL n ++ r) = some (n, r) :=
  unG_num 9 n r (by have : (128 : Nat) ^ 9 = 9223372036854775808 := by decide
                    omega) (fun h => by omega)
theorem unL_only {n : Nat} {l r : List UInt8} (h : unL l = some (n, r)) : l = numL n ++ r ∧ n < 18446744073709551616 := by
  obtain ⟨h1, h2, _⟩ := unG_only 9 n l r (by omega) h
  have : (128 : Nat) ^ 9 = 9223372036854775808 := by decide
  exact ⟨h1, by omega⟩
/-- What is written, and how it is read. -/
structure Codec {α : Type} (enc : α → List UInt8) (dec : List UInt8 → Option (α × List UInt8)) (ok : α → Prop) : Prop where
  back : ∀ a r, ok a → dec (enc a ++ r) = some (a, r)
  only : ∀ a l r, dec l = some (a, r) → l = enc a ++ r ∧ ok a
  pos : ∀ a, ok a → 0 < (enc a).length
theorem Codec.less {α : Type} {enc : α → List UInt8} {dec : List UInt8 → Option (α × List UInt8)} {ok : α → Prop} (h : Codec enc dec ok) {a : α} {l r : List UInt8} (hd : dec l = some (a, r)) : r.length < l.length := by
  obtain ⟨h1, h2⟩ := h.only a l r hd
  have := h.pos a h2
  rw [h1, List.length_append]
  omega
theorem Codec.suffix {α : Type} {enc : α → List UInt8} {dec : List UInt8 → Option (α × List UInt8)} {ok : α → Prop} (h : Codec enc dec ok) {a : α} {l r : List UInt8} (hd : dec l = some (a, r)) : r = l.drop (l.length - r.length) := by
  obtain ⟨h1, h2⟩ := h.only a l r hd
  rw [h1, List.length_append, Nat.add_sub_cancel, List.drop_left]
theorem num_codec : Codec numL unL (fun n => n < 18446744073709551616) :=
  ⟨fun a r h => unL_num h r, fun a l r h => unL_only h, fun a _ => numL_pos a⟩
def wordL (s : ByteArray) : List UInt8 := numL s.size ++ s.data.toList
def takeL (n : Nat) (l : List UInt8) : Option (ByteArray × List UInt8) := if n ≤ l.length then some (txt (l.take n), l.drop n) else none
def rWord (l : List UInt8) : Option (ByteArray × List UInt8) :=
  match unL l with
  | none => none
  | some p => takeL p.1 p.2
theorem rWord_none {l : List UInt8} (h : unL l = none) : rWord l = none := by unfold rWord; rw [h]
theorem rWord_some {l r : List UInt8} {n : Nat} (h : unL l = some (n, r)) : rWord l = takeL n r := by unfold rWord; rw [h]
theorem word_codec : Codec wordL rWord (fun s => s.size < 18446744073709551616) := by
  refine ⟨fun a r h => ?_, fun a l r h => ?_, fun a _ => ?_⟩
  · unfold wordL
    rw [List.append_assoc, rWord_some (unL_num h _)]
    have := size_eq a
    unfold takeL
    rw [if_pos (by rw [List.length_append]; omega), this, List.take_left, List.drop_left, txt_data]
  · unfold rWord at h
    split at h
    · cases h
    · rename_i p hp
      unfold takeL at h
      split at h
      · rename_i hle
        simp only [Option.some.injEq, Prod.mk.injEq] at h
        obtain ⟨rfl, rfl⟩ := h
        obtain ⟨n, r⟩ := p
        obtain ⟨h4, h5⟩ := unL_only hp
        simp only at hle ⊢
        have hs : (txt (r.take n)).size = n := by rw [txt_size, List.length_take]; omega
        unfold wordL
        rw [hs, txt_list, List.append_assoc, List.take_append_drop]
        exact ⟨h4, h5⟩
      · cases h
  · unfold wordL
    have := numL_pos a.size
    rw [List.length_append]
    omega
section
variable {α : Type} {enc : α → List UInt8} {dec : List UInt8 → Option (α × List UInt8)} {ok : α → Prop}
def rMany (dec : List UInt8 → Option (α × List UInt8)) : Nat → List UInt8 → Option (List α × List UInt8)
  | 0, l => some ([], l)
  | n + 1, l => match dec l with
    | none => none
    | some p => (rMany dec n p.2).map fun q => (p.1 :: q.1, q.2)
theorem rMany_zero (l : List UInt8) : rMany dec 0 l = some ([], l) := rfl
theorem rMany_none {n : Nat} {l : List UInt8} (h : dec l = none) : rMany dec (n + 1) l = none := by rw [rMany, h]
theorem rMany_some {n : Nat} {l r : List UInt8} {a : α} (h : dec l = some (a, r)) : rMany dec (n + 1) l = (rMany dec n r).map fun q => (a :: q.1, q.2) := by rw [rMany, h]
/-- A list, and reading one. -/
def listL (enc : α → List UInt8) (als : List α) : List UInt8 := numL als.length ++ als.flatMap enc
def rList (dec : List UInt8 → Option (α × List UInt8)) (most : Nat) (l : List UInt8) : Option (List α × List UInt8) :=
  match unL l with
  | none => none
  | some p => if p.1 ≤ most then rMany dec p.1 p.2 else none
theorem rList_none {most : Nat} {l : List UInt8} (h : unL l = none) : rList dec most l = none := by unfold rList; rw [h]
theorem rList_some {most n : Nat} {l r : List UInt8} (h : unL l = some (n, r)) (hn : n ≤ most) : rList dec most l = rMany dec n r := by unfold rList; rw [h]; simp [hn]
theorem rList_many {most n : Nat} {l r : List UInt8} (h : unL l = some (n, r)) (hn : most < n) : rList dec most l = none := by unfold rList; rw [h]; simp; omega
/-- The list of which l are the bytes, to its end. -/
def whole (dec : List UInt8 → Option (α × List UInt8)) (l : List UInt8) : Option (List α) :=
  match rList dec 16777216 l with
  | some (als, []) => some als
  | _ => none
theorem whole_none {l : List UInt8} (h : rList dec 16777216 l = none) : whole dec l = none := by unfold whole; rw [h]
theorem whole_some {l : List UInt8} {als : List α} (h : rList dec 16777216 l = some (als, [])) : whole dec l = some als := by unfold whole; rw [h]
theorem whole_rest {l r : List UInt8} {als : List α} (h : rList dec 16777216 l = some (als, r)) (hr : 0 < r.length) : whole dec l = none := by
  unfold whole
  rw [h]
  cases r with
  | nil => simp at hr
  | cons c r => rfl
end
structure Pa where
  s : ByteArray
  t : ByteArray
def pairL (p : Pa) : List UInt8 := wordL p.s ++ wordL p.t
def rPair (l : List UInt8) : Option (Pa × List UInt8) :=
  match rWord l with
  | none => none
  | some p => (rWord p.2).map fun q => (⟨p.1, q.1⟩, q.2)
def okP (p : Pa) : Prop := p.s.size < 18446744073709551616 ∧ p.t.size < 18446744073709551616
theorem pair_codec : Codec pairL rPair okP := by
  refine ⟨fun a r h => ?_, fun a l r h => ?_, fun a h => ?_⟩
  · obtain ⟨s, t⟩ := a
    obtain ⟨h1, h2⟩ := h
    unfold pairL rPair
    rw [List.append_assoc, word_codec.back _ _ h1]
    simp only
    rw [word_codec.back _ _ h2]
    rfl
  · unfold rPair at h
    split at h
    · cases h
    · rename_i p hp
      simp only [Option.map_eq_some_iff, Prod.mk.injEq] at h
      obtain ⟨q, h1, h2, h3⟩ := h
      subst h2 h3
      obtain ⟨h5, h6⟩ := word_codec.only p.1 _ p.2 hp
      obtain ⟨h7, h8⟩ := word_codec.only q.1 _ q.2 h1
      refine ⟨?_, h6, h8⟩
      rw [h5, h7]
      simp [pairL]
  · have := word_codec.pos a.s h.1
    unfold pairL
    rw [List.length_append]
    omega
end Go.Proofs.YtnkhgajghfonhaaGreatDoor

/- What a seat needs of several texts. -/
/- From Scope. -/
namespace Go.Proofs.YtnkhgajghfonhaaGreatDoor
open Go
end Go.Proofs.YtnkhgajghfonhaaGreatDoor
/- From CodVals. -/
namespace Go.Proofs.YtnkhgajghfonhaaGreatDoor
open Go.ChangeShapes Go.WideShapes Go.ChangeAt Go.RowKit
set_option linter.unusedVariables false
end Go.Proofs.YtnkhgajghfonhaaGreatDoor
/- From CodBuf. -/
namespace Go.Proofs.YtnkhgajghfonhaaGreatDoor
open Go.ChangeShapes Go.WideShapes Go.ChangeAt Go.RowKit
open Go.Lib (byteCells byteCells_length byteCells_append strCells)
set_option linter.unusedVariables false
end Go.Proofs.YtnkhgajghfonhaaGreatDoor
/- From CodNum. -/
namespace Go.Proofs.YtnkhgajghfonhaaGreatDoor
open Go.ChangeShapes Go.WideShapes Go.ChangeAt Go.RowKit
open Go.Lib (byteCells byteCells_length byteCells_append strCells)
set_option linter.unusedVariables false
set_option maxRecDepth 10000 in
theorem or128_nat : ∀ x, x < 256 → x ||| 128 = x % 128 + 128 := by decide
theorem or128 (m : Nat) : bits .or .u8 ((m : Int) % 256) 128 = ((m % 128 + 128 : Nat) : Int) := by
  rw [show (m : Int) % 256 = ((m % 256 : Nat) : Int) by omega, show (128 : Int) = ((128 : Nat) : Int) from rfl, u8_or_nat _ _ (by omega) (by omega), or128_nat _ (by omega)]
  omega
theorem digit_cell (m : Nat) : [Value.int .u8 ((m % 128 + 128 : Nat) : Int)] = byteCells [UInt8.ofNat (m % 128 + 128)] := by
  simp only [byteCells, List.map_cons, List.map_nil]
  rw [ofNat_toNat (by omega)]
theorem last_cell (m : Nat) (h : m < 256) : [Value.int .u8 (m : Int)] = byteCells [UInt8.ofNat m] := by
  simp only [byteCells, List.map_cons, List.map_nil]
  rw [ofNat_toNat h]
set_option maxHeartbeats 1000000 in
theorem num_walk (n : Nat) (hn : n < 18446744073709551616) (w : World) :
    Calls Tryz.prog 141 #[.int .u64 (n : Int)] w (BufPost (numL n) w) := by
  have HL := Lib.hid (numL_len64 hn)
  go_enter Tryz.func141, Tryz.ntmps141
  go_wp2
  go_loopw [0, 3] (fun nv bv wr => ∃ (m : Nat) (L : List UInt8) (A : Option Addr) (k c : Nat), m ≤ n ∧ nv = .int .u64 (m : Int) ∧ bv = .slice A k c ∧ Hid (numL n = L ++ numL m) ∧ Hid (Buf w.heap.size A k c L wr) ∧ Hid (Keep w.heap.size w wr)) (fun nv _ _ => (intOf nv).toNat)
  case atStart => exact ⟨n, [], none, 0, 0, Nat.le_refl _, rfl, rfl, Lib.hid rfl, Lib.hid (Buf.nil _ _ (Nat.le_refl _)), Lib.hid (Keep.refl _ _)⟩
  case round =>
    obtain ⟨m, L, A, k, c, hm, rfl, rfl, HN, HB, HK⟩ := hrel
    have hLl : L.length ≤ 10 := by have h1 := HL.out; rw [HN.out, List.length_append] at h1; omega
    by_cases hlt : 128 ≤ m
    · have ho := or128 m
      have HN2 := Lib.hid (show numL n = (L ++ [UInt8.ofNat (m % 128 + 128)]) ++ numL (m / 128) by rw [HN.out, numL_big hlt]; simp)
      have hg : decide ((128 : Int) ≤ (m : Int)) = true := decide_eq_true (by omega)
      go_wp2_with (at_builtin; go_loud (refine append_bytes rfl _ _ rfl w.heap.size A k c L rfl _ [UInt8.ofNat (m % 128 + 128)] 1 HB.out _ rfl (by simp) rfl [_] (digit_cell m) (by simp; omega) ?_); intro A1 n1 c1 w1 hn1 hb1 hk1; have H1 := Lib.hid hb1; have K1 := Lib.hid (HK.out.trans hk1); clear hb1 hk1; subst hn1)
      go_roundw
      case rel => exact ⟨m / 128, _, A1, _, c1, by omega, by go_num, rfl, HN2, H1, K1⟩
      case measure => simp [intOf]; omega
    · have HN2 := Lib.hid (show numL n = L ++ [UInt8.ofNat m] by rw [HN.out, numL_small (by omega)])
      have hg : decide ((128 : Int) ≤ (m : Int)) = false := decide_eq_false (by omega)
      go_wp2_with (at_builtin; go_loud (refine append_bytes rfl _ _ rfl w.heap.size A k c L rfl _ [UInt8.ofNat m] 1 HB.out _ rfl (by simp) rfl [_] (last_cell m (by omega)) (by simp; omega) ?_); intro A1 n1 c1 w1 hn1 hb1 hk1; have H1 := Lib.hid hb1; have K1 := Lib.hid (HK.out.trans hk1); clear hb1 hk1; subst hn1)
      go_ret
      exact ⟨A1, _, c1, rfl, by rw [HN2.out]; exact H1.out, K1.out.below⟩
end Go.Proofs.YtnkhgajghfonhaaGreatDoor
/- From CodUn. -/
namespace Go.Proofs.YtnkhgajghfonhaaGreatDoor
open Go.ChangeShapes Go.WideShapes Go.ChangeAt Go.RowKit
open Go.Lib (byteCells byteCells_length byteCells_append strCells)
set_option linter.unusedVariables false
def unOut (t : Nat) : Option (Nat × List UInt8) → Value
  | none => .tuple #[.int .u64 0, .int .i64 0, .int .i64 41]
  | some p => .tuple #[.int .u64 (p.1 : Int), .int .i64 ((t - p.2.length : Nat) : Int), .int .i64 0]
/-- k digits have been read: they come to a. -/
def ReadK (l : List UInt8) (k a : Nat) : Prop := unL l = (unG (10 - k) (l.drop k)).map fun p => (a + 128 ^ k * p.1, p.2)
theorem ReadK.start (l : List UInt8) : ReadK l 0 0 := by
  unfold ReadK unL
  simp only [Nat.sub_zero, List.drop_zero, Nat.pow_zero, Nat.one_mul, Nat.zero_add]
  cases unG 10 l <;> rfl
section
variable {l : List UInt8} {k a : Nat} {x : UInt8}
theorem ReadK.step (h : ReadK l k a) (hk : k < 10) (hd : l.drop k = x :: l.drop (k + 1)) (h9 : ¬ (k = 9 ∧ 1 < x.toNat)) (hx : 128 ≤ x.toNat) : ReadK l (k + 1) (a + 128 ^ k * (x.toNat % 128)) := by
  have := x.toNat_lt
  unfold ReadK at *
  rw [h, hd, show 10 - k = (9 - k) + 1 by omega, unG, if_neg (by omega), if_neg (by omega), show 10 - (k + 1) = 9 - k by omega]
  cases unG (9 - k) (l.drop (k + 1)) with
  | none => rfl
  | some p =>
    simp only [Option.map_some, Option.some.injEq, Prod.mk.injEq, and_true]
    rw [Nat.pow_succ, Nat.mul_add, Nat.add_assoc, Nat.mul_assoc, show x.toNat - 128 = x.toNat % 128 by omega]
theorem ReadK.last (h : ReadK l k a) (hk : k < 10) (hd : l.drop k = x :: l.drop (k + 1)) (h9 : ¬ (k = 9 ∧ 1 < x.toNat)) (hx : x.toNat < 128) (h0 : ¬ (x.toNat = 0 ∧ 0 < k)) : unL l = some (a + 128 ^ k * (x.toNat % 128), l.drop (k + 1)) := by
  unfold ReadK at *
  rw [h, hd, show 10 - k = (9 - k) + 1 by omega, unG, if_neg (by omega), if_pos hx, if_neg (by omega)]
  simp only [Option.map_some, Option.some.injEq, Prod.mk.injEq, and_true]
  rw [show x.toNat % 128 = x.toNat by omega]
theorem ReadK.far (h : ReadK l k a) (hk : k < 10) (hd : l.drop k = x :: l.drop (k + 1)) (h9 : k = 9 ∧ 1 < x.toNat) : unL l = none := by
  unfold ReadK at *
  rw [h, hd, show 10 - k = (9 - k) + 1 by omega, unG, if_pos (by omega)]
  rfl
theorem ReadK.zero (h : ReadK l k a) (hk : k < 10) (hd : l.drop k = x :: l.drop (k + 1)) (h0 : x.toNat = 0 ∧ 0 < k) : unL l = none := by
  unfold ReadK at *
  rw [h, hd, show 10 - k = (9 - k) + 1 by omega, unG, if_neg (by omega), if_pos (by omega), if_pos (by omega)]
  rfl
theorem ReadK.end_ (h : ReadK l k a) (he : l.length ≤ k ∨ k = 10) : unL l = none := by
  unfold ReadK at *
  rw [h]
  rcases he with he | rfl
  · rw [List.drop_of_length_le he]
    cases 10 - k <;> rfl
  · rfl
end
theorem drop_at (l : List UInt8) (k : Nat) (h : k < l.length) : l.drop k = l[k] :: l.drop (k + 1) := List.drop_eq_getElem_cons h
theorem u64_in (n : Nat) (h : n < 18446744073709551616) : IntKind.u64.wrap (n : Int) = (n : Int) := by
  rw [IntKind.wrap_u64]
  omega
theorem digit_le (k y : Nat) (hk : k ≤ 9) (hy : y < 128) (h9 : k = 9 → y ≤ 1) : 128 ^ k * y + 128 ^ k ≤ 18446744073709551616 := by
  have e9 : (128 : Nat) ^ 9 = 9223372036854775808 := by decide
  have e8 : (128 : Nat) ^ 8 = 72057594037927936 := by decide
  by_cases h : k = 9
  · have := h9 h
    subst h
    rw [e9]
    omega
  · have h1 : (128 : Nat) ^ k ≤ 128 ^ 8 := Nat.pow_le_pow_right (by omega) (by omega)
    have h2 : 128 ^ k * y ≤ 128 ^ 8 * 127 := Nat.mul_le_mul h1 (by omega)
    rw [e8] at h1 h2
    omega
theorem shl_digit (k y : Nat) : (y : Int) * 2 ^ (7 * k) = ((128 ^ k * y : Nat) : Int) := by
  have e : (2 : Int) ^ (7 * k) = ((128 ^ k : Nat) : Int) := by rw [show (128 : Nat) = 2 ^ 7 from rfl, ← Nat.pow_mul, Int.natCast_pow]; rfl
  rw [e, Nat.mul_comm, Int.natCast_mul]
theorem or_digit (a k y : Nat) (ha : a < 128 ^ k) (hb : 128 ^ k * y + 128 ^ k ≤ 18446744073709551616) : bits .or .u64 (a : Int) ((128 ^ k * y : Nat) : Int) = ((a + 128 ^ k * y : Nat) : Int) := by
  have hp : 0 < 128 ^ k := Nat.pow_pos (by omega)
  rw [u64_or_nat _ _ (by omega) (by omega)]
  congr 1
  rw [show (128 : Nat) ^ k = 2 ^ (7 * k) by rw [Nat.pow_mul]] at *
  rw [Nat.or_comm, ← Nat.two_pow_add_eq_or_of_lt ha, Nat.add_comm]
theorem andnot_digit (x : Nat) (h : x < 256) : bits .andNot .u8 (x : Int) 128 = ((x % 128 : Nat) : Int) := by
  rw [show (128 : Int) = ((128 : Nat) : Int) from rfl, u8_andNot_nat _ _ h (by omega)]
  congr 1
  exact Nat.and_two_pow_sub_one_eq_mod x 7
theorem next_lt {a k y : Nat} (ha : a < 128 ^ k) (hy : y < 128) : a + 128 ^ k * y < 128 ^ (k + 1) := by
  have h1 : 128 ^ k * y ≤ 128 ^ k * 127 := Nat.mul_le_mul_left _ (by omega)
  rw [Nat.pow_succ]
  omega
/-- What 'n |= uint64(c&^128) << (7*i)' comes to. -/
theorem code_digit (a k x : Nat) (ha : a < 128 ^ k) (hk : k ≤ 9) (hx : x < 256) (h9 : ¬ (k = 9 ∧ 1 < x)) :
    bits .or .u64 (a : Int) (IntKind.u64.wrap (IntKind.u64.wrap (bits .andNot .u8 (x : Int) 128) * 2 ^ (7 * k))) = ((a + 128 ^ k * (x % 128) : Nat) : Int) := by
  have hb := digit_le k (x % 128) hk (by omega) (fun e => by omega)
  have hp : 0 < 128 ^ k := Nat.pow_pos (by omega)
  rw [andnot_digit x hx, u64_in _ (by omega), shl_digit, u64_in _ (by omega), or_digit a k _ ha hb]
theorem unOut_eq (t : Nat) {o : Option (Nat × List UInt8)} {p : Nat × List UInt8} (h : o = some p) : unOut t o = .tuple #[.int .u64 (p.1 : Int), .int .i64 ((t - p.2.length : Nat) : Int), .int .i64 0] := by rw [h]; rfl
set_option maxRecDepth 4000 in
set_option maxHeartbeats 1000000 in
theorem unnum_walk (l : List UInt8) (A : Option Addr) (n c : Nat) (w : World) (hn : n = l.length) (hc : n ≤ c) (hcm : c ≤ maxLen) (hb : BytesAt w w.heap.size A l) :
    Calls Tryz.prog 199 #[.slice A n c] w fun e w' => e = .returned (unOut n (unL l)) ∧ w = w' := by
  have HN := Lib.hid hn
  have HB := Lib.hid hb
  clear hn hb
  have hcm2 : c ≤ 9223372036854775807 := by unfold maxLen at hcm; omega
  clear hcm
  have hmin : (if (10 : Int) < (n : Int) then (10 : Int) else (n : Int)) = ((min n 10 : Nat) : Int) := by split <;> omega
  go_enter Tryz.func199, Tryz.ntmps199
  go_wp2
  go_loop [5, 14] (fun av iv => ∃ (k a : Nat), k ≤ min n 10 ∧ iv = .int .i64 (k : Int) ∧ av = .int .u64 (a : Int) ∧ Hid (a < 128 ^ k) ∧ Hid (ReadK l k a)) (fun _ iv => 10 - (intOf iv).toNat)
  case atStart => exact ⟨0, 0, by omega, rfl, rfl, Lib.hid (by decide), Lib.hid (ReadK.start l)⟩
  case round =>
    obtain ⟨k, a, hk, rfl, rfl, HA, HR⟩ := hrel
    by_cases hlt : k < min n 10
    · have hkl : k < l.length := by rw [← HN.out]; omega
      obtain ⟨b, off, rfl, hB, c0⟩ := HB.out k hkl
      have hd := drop_at l k hkl
      obtain ⟨x, hX⟩ : ∃ x, l[k] = x := ⟨_, rfl⟩
      rw [hX] at c0 hd
      have HD := Lib.hid hd
      clear hd hX
      have hx8 : x.toNat < 256 := x.toNat_lt
      by_cases h9 : k = 9 ∧ 1 < x.toNat
      · have HF := Lib.hid (HR.out.far (by omega) HD.out h9)
        obtain ⟨rfl, h9⟩ := h9
        clear HD HR
        go_wp2
        go_ret3
        exact ⟨by rw [HF.out]; rfl, rfl⟩
      · have HC := Lib.hid (code_digit a k x.toNat HA.out (by omega) hx8 h9)
        have HA2 := Lib.hid (next_lt (y := x.toNat % 128) HA.out (by omega))
        have s0 : (0 : Int) ≤ 7 * (k : Int) := by omega
        have hkk : k < 10 := by omega
        by_cases h128 : 128 ≤ x.toNat
        · have HR2 := Lib.hid (HR.out.step hkk HD.out h9 h128)
          have H9 := Lib.hid h9
          clear h9
          by_cases k9 : k = 9
          · have := H9.out
            omega
          · have e9 : ((k : Int) == 9) = false := by rw [beq_eq_false_iff_ne]; omega
            go_wp2
            go_round
            case rel => exact ⟨k + 1, a + 128 ^ k * (x.toNat % 128), by omega, by go_num, by rw [HC.out], HA2, HR2⟩
            case measure => simp [intOf]; omega
        · by_cases h0 : x.toNat = 0 ∧ 0 < k
          · have HF := Lib.hid (HR.out.zero hkk HD.out h0)
            obtain ⟨h0, hk0⟩ := h0
            clear HD HR h9
            have e9 : decide ((1 : Int) < (x.toNat : Int)) = false := decide_eq_false (by omega)
            have e0 : ((x.toNat : Int) == 0) = true := by rw [beq_iff_eq]; omega
            clear h0
            by_cases k9 : k = 9
            · subst k9
              go_wp2
              go_ret3
              exact ⟨by rw [HF.out]; rfl, rfl⟩
            · have e9 : ((k : Int) == 9) = false := by rw [beq_eq_false_iff_ne]; omega
              go_wp2
              go_ret3
              exact ⟨by rw [HF.out]; rfl, rfl⟩
          · have HF := Lib.hid (unOut_eq n (HR.out.last hkk HD.out h9 (by omega) h0))
            have HL := Lib.hid (show n - (l.drop (k + 1)).length = k + 1 by rw [List.length_drop, ← HN.out]; omega)
            have H9 := Lib.hid h9
            have H0 := Lib.hid h0
            clear HD HR h9 h0
            have fin : ∀ (e : Int), e = ((a + 128 ^ k * (x.toNat % 128) : Nat) : Int) → (Ending.returned (.tuple #[.int .u64 e, .int .i64 ((k : Int) + 1), .int .i64 0])) = .returned (unOut n (unL l)) := by
              intro e he
              rw [HF.out, he]
              dsimp only
              rw [HL.out]
              rfl
            have FIN := Lib.hid fin
            clear fin
            by_cases k9 : k = 9
            · have e9 : decide ((1 : Int) < (x.toNat : Int)) = false := decide_eq_false (by have := H9.out; omega)
              have ez : ((x.toNat : Int) == 0) = false := by rw [beq_eq_false_iff_ne]; have := H0.out; omega
              subst k9
              go_wp2
              go_ret3
              exact ⟨FIN.out _ HC.out, rfl⟩
            · have e9 : ((k : Int) == 9) = false := by rw [beq_eq_false_iff_ne]; omega
              by_cases hz : x.toNat = 0
              · have hk0 : k = 0 := by have := H0.out; omega
                subst hk0
                rw [Nat.add_zero] at c0
                have ez : ((x.toNat : Int) == 0) = true := by rw [beq_iff_eq]; omega
                go_wp2
                go_ret3
                exact ⟨FIN.out _ (by have h := HC.out; simp only [hz] at h ⊢; simpa using h), rfl⟩
              · have ez : ((x.toNat : Int) == 0) = false := by rw [beq_eq_false_iff_ne]; omega
                go_wp2
                go_ret3
                exact ⟨FIN.out _ HC.out, rfl⟩
    · have HF := Lib.hid (HR.out.end_ (by rw [← HN.out]; omega))
      go_wp2
      go_ret3
      exact ⟨by rw [HF.out]; rfl, rfl⟩
end Go.Proofs.YtnkhgajghfonhaaGreatDoor

/- What a seat needs of several texts. -/
/- From CodRnum. -/
namespace Go.Proofs.YtnkhgajghfonhaaGreatDoor
open Go.ChangeShapes Go.WideShapes Go.ChangeAt Go.RowKit
open Go.Lib (byteCells byteCells_length byteCells_append strCells)
set_option linter.unusedVariables false
theorem later_cell {w w' : World} {a : Addr} {v : Value} (hb : Below w.heap.size w w') (h : w.cell? a = some v) : w'.cell? a = some v := (hb.cell (World.block_lt_of_cell? w a h)).trans h
end Go.Proofs.YtnkhgajghfonhaaGreatDoor
/- From CodW. -/
namespace Go.Proofs.YtnkhgajghfonhaaGreatDoor
open Go.ChangeShapes Go.WideShapes Go.ChangeAt Go.RowKit
open Go.Lib (byteCells byteCells_length byteCells_append strCells)
set_option linter.unusedVariables false
theorem Buf.new (w : World) (v : Value) (c : UInt8) (h : v = .int .u8 (c.toNat : Int)) (B : Nat) (hB : B ≤ w.heap.size) : Buf B (some ⟨w.heap.size, 0, none⟩) 1 1 [c] (w.alloc (.cells #[v] 5)) := by
  subst h
  refine ⟨rfl, Nat.le_trans hB (by simp), rfl, .inr ⟨w.heap.size, 1, #[.int .u8 (c.toNat : Int)], rfl, hB, World.alloc_heap_new _ _, Nat.le_refl _, by decide, rfl, rfl⟩⟩
theorem Buf.cells {B : Nat} {A : Option Addr} {n c : Nat} {bs : List UInt8} {w : World} (h : Buf B A n c bs w) (hp : 0 < bs.length) : ∃ g cap, A = some ⟨g, 0, none⟩ ∧ B ≤ g ∧ g < w.heap.size ∧ c = cap ∧ ∀ j u, (byteCells bs)[j]? = some u → w.cell? ((⟨g, 0, none⟩ : Addr).add j) = some u := by
  obtain ⟨g, cap, hv, hg, hlt⟩ := h.2.2.form (by have := h.1; omega)
  have hcs := h.2.2.cells (g := g) (by rw [hv]; rfl)
  injection hv with h1 h2 h3
  exact ⟨g, cap, h1, hg, hlt, h3, hcs⟩
/-- 'b = append(b, x...)' of other bytes of the call's own. -/
theorem append_buf {ops : Array Oper} {rest : List Oper} {o : Oper} {a : Act} {Q : Exit → Act → World → Prop} (hgd : o.guard = none) (s x : Operand)
    (ho : o.op = .call { callee := .builtin .append, args := #[s, x], argTypes := #[22, 22] })
    (B : Nat) (A : Option Addr) (n c : Nat) (bs : List UInt8) (hs : a.eval s = .slice A n c) (w0 : World) (hb : Buf B A n c bs w0)
    (B2 : Nat) (A2 : Option Addr) (n2 c2 : Nat) (news : List UInt8) (hx : a.eval x = .slice A2 n2 c2) (hb2 : Buf B2 A2 n2 c2 news w0) (hpos : 0 < news.length) (hlen : bs.length + news.length ≤ 1099511627776)
    (h : ∀ A' n' c' w', Buf B A' n' c' (bs ++ news) w' → Keep B w0 w' → w0.grownBy w' (Value.ownBlock (.slice A n c)) → wpList Tryz.prog ops Q rest (a.put o.dst (.slice A' n' c')) w') :
    wpList Tryz.prog ops Q (o :: rest) a w0 := by
  obtain ⟨i0, hi, hz0, hz1, hz2⟩ := info_parts infoByte
  obtain ⟨g, cap, rfl, hg, hlt, rfl, hcs⟩ := hb2.cells hpos
  have hn2 := hb2.1
  subst hn2
  refine wpList_append_own_at _ hgd s x 22 ho B 5 i0 _ 1 1 Tryz.underlying22 hi hz0 hz1 hz2 rfl (by decide) (.slice A n c) n (byteCells bs) hs hb.2.2 ⟨g, 0, none⟩ news.length c2 (byteCells news) hx (by rw [byteCells_length, Nat.mul_one])
    hcs (byte_one _) (by have := hb.1; unfold maxLen; omega) (by have := hb.1; omega) hb.2.1 ?_
  intro v' w' hown hg _ _
  obtain ⟨A', c', rfl⟩ := own_slice hown
  have hk : Keep B w0 w' := Keep.grown hb hg
  exact h A' (n + news.length) c' w' ⟨by rw [hb.1]; simp, Nat.le_trans hb.2.1 hk.size, by rw [byteCells_append]; exact hown⟩ hk hg
set_option maxHeartbeats 1000000 in
theorem text_walk (s : ByteArray) (hs : s.size ≤ 549755813888) (w : World) : Calls Tryz.prog 142 #[.string s] w (BufPost (wordL s) w) := by
  have HC := Lib.hid (num_walk s.size (by omega) w)
  have hl := Lib.hid (numL_len64 (show s.size < 18446744073709551616 by omega))
  have hW : IntKind.u64.wrap (s.size : Int) = (s.size : Int) := u64_in _ (by omega)
  go_enter Tryz.func142, Tryz.ntmps142
  go_wp2_with (first | (go_at_call 141; refine HC.out.mono ?_; rintro e w2 ⟨A, k, c, rfl, hb, hbel⟩; have HB := Lib.hid hb; have HBel := Lib.hid hbel; clear hb hbel) | (at_builtin; go_loud (refine append_text rfl _ _ rfl w.heap.size A k c (numL s.size) rfl _ s HB.out rfl (by have := hl.out; omega) ?_); intro A1 n1 c1 w1 hn1 hb1 hk1; have H1 := Lib.hid hb1; have K1 := Lib.hid (HBel.out.trans hk1.below); clear hb1 hk1; subst hn1))
  go_ret
  exact ⟨A1, _, c1, rfl, H1.out, K1.out⟩
end Go.Proofs.YtnkhgajghfonhaaGreatDoor
/- From CodW2. -/
namespace Go.Proofs.YtnkhgajghfonhaaGreatDoor
open Go.ChangeShapes Go.WideShapes Go.ChangeAt Go.RowKit
open Go.Lib (byteCells byteCells_length byteCells_append strCells)
set_option linter.unusedVariables false
theorem hop {w W w2 : World} (h : Below w.heap.size w W) (hb : Below W.heap.size W w2) : Below w.heap.size w w2 := h.trans (hb.mono h.size)
theorem hop2 {w W w2 : World} {A : Option Addr} {n c : Nat} {bs : List UInt8} (h : Below w.heap.size w W) (hb : Below W.heap.size W w2) (hbuf : Buf W.heap.size A n c bs w2) : Below w.heap.size w w2 ∧ Buf w.heap.size A n c bs w2 := ⟨hop h hb, hbuf.more h.size⟩
/-- 'append' of bytes of the call's own, as one step of a region that draws. -/
theorem step_append_buf {ops : Array Oper} {o : Oper} {a : Act} {w : World} {K : Act → World → Prop} {Q : Exit → Act → World → Prop} {E : Prop}
    (hg : o.guard = none) (s x : Operand) (hop : o.op = Op.call { callee := Callee.builtin Builtin.append, args := #[s, x], argTypes := #[22, 22] })
    (B : Nat) (A : Option Addr) (n c : Nat) (bs : List UInt8) (hs : a.eval s = .slice A n c) (hb : Buf B A n c bs w)
    (B2 : Nat) (A2 : Option Addr) (n2 c2 : Nat) (news : List UInt8) (hx : a.eval x = .slice A2 n2 c2) (hb2 : Buf B2 A2 n2 c2 news w) (hpos : 0 < news.length) (hlen : bs.length + news.length ≤ 1099511627776)
    (hK : ∀ A' n' c' w', Buf B A' n' c' (bs ++ news) w' → Keep B w w' → K (a.put o.dst (.slice A' n' c')) w') :
    if Region.wanted o (yielded ops a.tmps) = true then Oper.wp Tryz.prog o a w K Q else E := by
  have hw : Region.wanted o (yielded ops a.tmps) = true := by simp [Region.wanted, hg]
  rw [if_pos hw]
  obtain ⟨i0, hi, hz0, hz1, hz2⟩ := info_parts infoByte
  obtain ⟨g, cap, rfl, hg, hlt, rfl, hcs⟩ := hb2.cells hpos
  have hn2 := hb2.1
  subst hn2
  obtain ⟨v', w', hrun, r1, r2, _⟩ := run_append_own (P := Tryz.prog) w B 22 o.type 5 i0 _ 1 1 Tryz.underlying22 hi hz0 hz1 hz2 rfl (by decide) (.slice A n c) n (byteCells bs) hb.2.2 ⟨g, 0, none⟩ news.length c2 (byteCells news)
    (by rw [byteCells_length, Nat.mul_one]) hcs (byte_one _) (by have := hb.1; unfold maxLen; omega) (by have := hb.1; omega) hb.2.1
  obtain ⟨A', c', rfl⟩ := own_slice r1
  have hk : Keep B w w' := Keep.grown hb r2
  unfold Oper.wp
  simp [execOp, hop, resolve, invoke, builtin, hs, hx, hrun, Result.andThen]
  exact hK A' (n + news.length) c' w' ⟨by rw [hb.1]; simp, Nat.le_trans hb.2.1 hk.size, by rw [byteCells_append]; exact r1⟩ hk
set_option maxHeartbeats 1000000 in
set_option maxRecDepth 20000 in
theorem pair_walk (p : Pa) (hs : p.s.size ≤ 274877906944) (ht : p.t.size ≤ 274877906944) (w : World) : Calls Tryz.prog 96 #[.agg #[.string p.s, .string p.t]] w (BufPost (pairL p) w) := by
  obtain ⟨s, t⟩ := p
  simp only at hs ht ⊢
  have hs2 : s.size ≤ 549755813888 := by omega
  have ht2 : t.size ≤ 549755813888 := by omega
  have hl : Hid ((wordL s).length + (wordL t).length ≤ 1099511627776) := Lib.hid (by
    unfold wordL
    have := numL_len64 (show s.size < 18446744073709551616 by omega)
    have := numL_len64 (show t.size < 18446744073709551616 by omega)
    rw [List.length_append, List.length_append, ← size_eq, ← size_eq]
    omega)
  have hp : Hid (0 < (wordL t).length) := Lib.hid (word_codec.pos t (by omega))
  clear hs ht
  go_enter Tryz.func96, Tryz.ntmps96
  go_wp2
  go_region_law (first | (refine step_append_buf rfl _ _ rfl w.heap.size _ _ _ (wordL s) rfl (by assumption) w.heap.size _ _ _ (wordL t) rfl (by assumption) hp.out hl.out ?_; intro A' n' c' w4 hb4 hk4) | (go_simp; go_at_call 142; refine (text_walk _ (by assumption) _).mono ?_; rintro e w2 ⟨A, k, c, rfl, hb, hbel⟩; obtain ⟨hB2, hb'⟩ := hop2 (w := w) (by first | assumption | exact ((Below.refl _ w).alloc (Nat.le_refl _) _).drew | exact ((Below.refl _ w).alloc (Nat.le_refl _) _)) hbel hb; have c0 := later_cell (a := ⟨w.heap.size, 0, none⟩) (v := .string s) hbel (by first | assumption | simp [go_sem]); have c1 := later_cell (a := ⟨w.heap.size, 1, none⟩) (v := .string t) hbel (by first | assumption | simp [go_sem]); try (have hbo := Buf.below (B := w.heap.size) (by assumption) hbel)))
  all_goals
    clear c0 c1
    go_wp2
    go_ret
    exact ⟨_, _, _, rfl, hb4, hB2.trans hk4.below⟩
end Go.Proofs.YtnkhgajghfonhaaGreatDoor
/- From CodRow. -/
namespace Go.Proofs.YtnkhgajghfonhaaGreatDoor
open Go.ChangeShapes Go.WideShapes Go.ChangeAt Go.RowKit
open Go.Lib (byteCells byteCells_length byteCells_append strCells)
set_option linter.unusedVariables false
def pCells (p : Pa) : List Value := [.string p.s, .string p.t]
theorem pCells_length (n : Pa) : (pCells n).length = 2 := rfl
theorem pCells_one (n : Pa) : ∀ u ∈ pCells n, u.oneCell' = true := by simp [pCells, Value.oneCell']
/-- What the list's bytes come to, up to place k. -/
def upTo {α : Type} (enc : α → List UInt8) (l : List α) (k : Nat) : List UInt8 := numL l.length ++ (l.take k).flatMap enc
section
variable {α : Type} {enc : α → List UInt8} {l : List α} {k : Nat}
theorem upTo_zero : upTo enc l 0 = numL l.length := by simp [upTo]
theorem upTo_next (h : k < l.length) : upTo enc l (k + 1) = upTo enc l k ++ enc l[k] := by
  unfold upTo
  rw [List.take_succ_eq_append_getElem h, List.flatMap_append]
  simp only [List.flatMap_cons, List.flatMap_nil, List.append_nil, List.append_assoc]
theorem upTo_all (h : l.length ≤ k) : upTo enc l k = listL enc l := by
  unfold upTo listL
  rw [List.take_of_length_le h]
theorem upTo_le (k : Nat) : (upTo enc l k).length ≤ (listL enc l).length := by
  have h : l.flatMap enc = (l.take k).flatMap enc ++ (l.drop k).flatMap enc := by rw [← List.flatMap_append, List.take_append_drop]
  unfold upTo listL
  rw [h]
  simp only [List.length_append]
  omega
end
end Go.Proofs.YtnkhgajghfonhaaGreatDoor
/- From CodWithin. -/
namespace Go.Proofs.YtnkhgajghfonhaaGreatDoor
open Go.ChangeShapes Go.WideShapes Go.ChangeAt Go.RowKit
open Go.Lib (byteCells byteCells_length byteCells_append strCells)
set_option linter.unusedVariables false
set_option maxHeartbeats 2000000 in
theorem within_pair (l : List Pa) (A : Option Addr) (n c : Nat) (w : World) (hn : n = l.length) (hm : n ≤ 1099511627776) (hat : RowC pCells 2 w w.heap.size A l)
    (hone : ∀ (j : Nat) (h : j < l.length) (W : World), Below w.heap.size w W → Calls Tryz.prog 96 #[.agg #[.string l[j].s, .string l[j].t]] W (BufPost (pairL l[j]) W)) (hpos : ∀ a ∈ l, 0 < (pairL a).length) (htot : (listL pairL l).length ≤ 16777216) :
    Calls Tryz.prog 95 #[.int .i64 16777216, .slice A n c, .func (.func 96) #[] #[]] w fun e w' => ∃ A' n' c', e = .returned (.tuple #[.slice A' n' c', .int .i64 0]) ∧ Buf w.heap.size A' n' c' (listL pairL l) w' ∧ Below w.heap.size w w' := by
  have HN := Lib.hid hn
  have HA := Lib.hid hat
  have HO := Lib.hid hone
  have HP := Lib.hid hpos
  have HT := Lib.hid htot
  have HC := Lib.hid (num_walk n (by omega) w)
  have hW : IntKind.u64.wrap (n : Int) = (n : Int) := u64_in _ (by omega)
  clear hn hat hone hpos htot
  go_enter Tryz.func95, Tryz.ntmps95
  go_wp2_with (go_at_call 141; refine HC.out.mono ?_; rintro e w1 ⟨A1, n1, c1, rfl, hb1, hbel1⟩; have HB1 := Lib.hid hb1; have HBel1 := Lib.hid hbel1; clear hb1 hbel1)
  go_loopw [8, 17] (fun bv iv wr => ∃ (k : Nat) (A' : Option Addr) (n' c' : Nat), k ≤ n ∧ iv = .int .i64 (k : Int) ∧ bv = .slice A' n' c' ∧ Hid (Buf w.heap.size A' n' c' (upTo pairL l k) wr) ∧ Hid (Below w.heap.size w wr)) (fun _ iv _ => n - (intOf iv).toNat)
  case atStart => exact ⟨0, A1, n1, c1, Nat.zero_le _, rfl, rfl, Lib.hid (by rw [upTo_zero, ← HN.out]; exact HB1.out), HBel1⟩
  case round =>
    obtain ⟨k, A', n', c', hk, rfl, rfl, HB, HBel⟩ := hrel
    by_cases hlt : k < n
    · have hkl : k < l.length := by rw [← HN.out]; exact hlt
      obtain ⟨b, off, rfl, hB, hc⟩ := (HA.out.below HBel.out) k hkl
      have c0 := hc 0 _ rfl
      have c1 := hc 1 _ rfl
      rw [Nat.add_zero] at c0
      obtain ⟨x, hx⟩ : ∃ x, l[k] = x := ⟨_, rfl⟩
      have HX := Lib.hid hx
      have HC2 := Lib.hid (fun W => HO.out k hkl W)
      rw [hx] at HC2
      simp only [hx] at c0 c1
      have hbs := HBel.out.size
      have HPX := Lib.hid (HP.out x (by rw [← hx]; exact List.getElem_mem hkl))
      have HUN := Lib.hid (upTo_next (enc := pairL) hkl)
      rw [hx] at HUN
      have hle := upTo_le (enc := pairL) (l := l) (k + 1)
      have hle2 : Hid ((upTo pairL l k).length + (pairL x).length ≤ 1099511627776) := Lib.hid (by have h1 := HT.out; rw [HUN.out, List.length_append] at hle; omega)
      have HLE := Lib.hid (Nat.le_trans hle HT.out)
      clear hx hle hc
      go_wp2_with (first | (go_at_call 96; refine (HC2.out _ (HBel.out.alloc hbs _)).mono ?_; rintro e w2 ⟨A2, n2, c2, rfl, hb2, hbel2⟩; have HB2 := Lib.hid hb2; have HBb := Lib.hid ((HB.out.alloc _).below hbel2); have HBel2 := Lib.hid (Below.trans (HBel.out.alloc hbs _) (hbel2.mono (by simp; omega))); clear hb2 hbel2) | (at_builtin; go_loud (refine append_buf rfl _ _ rfl w.heap.size _ _ _ (upTo pairL l k) rfl _ HBb.out _ _ _ _ _ rfl HB2.out HPX.out hle2.out ?_); intro A3 n3 c3 w3 hb3 hk3 hg3; have H3 := Lib.hid hb3; have K3 := Lib.hid (HBel2.out.trans hk3.below); have hn3 : ¬ (16777216 : Int) < (n3 : Int) := (by have h1 := hb3.1; have h2 := HLE.out; rw [HUN.out] at h2; omega); clear hb3 hk3 hg3))
      go_roundw
      case rel => exact ⟨k + 1, A3, n3, c3, by omega, by go_num, rfl, Lib.hid (by rw [HUN.out]; exact H3.out), K3⟩
      case measure => simp [intOf]; omega
    · have HF := Lib.hid (upTo_all (enc := pairL) (l := l) (k := k) (by rw [← HN.out]; omega))
      go_wp2
      go_ret2
      exact ⟨A', n', c', rfl, by rw [← HF.out]; exact HB.out, HBel.out⟩
end Go.Proofs.YtnkhgajghfonhaaGreatDoor
/- From CodTell. -/
namespace Go.Proofs.YtnkhgajghfonhaaGreatDoor
open Go.ChangeShapes Go.WideShapes Go.ChangeAt Go.RowKit
open Go.Lib (byteCells byteCells_length byteCells_append strCells)
set_option linter.unusedVariables false
def TellPost (o : Option (List UInt8)) (w : World) (e : Ending) (w' : World) : Prop :=
  match o with
  | none => e = .returned (.tuple #[.slice none 0 0, .int .i64 41]) ∧ Below w.heap.size w w'
  | some bs => ∃ A n c, e = .returned (.tuple #[.slice A n c, .int .i64 0]) ∧ Buf w.heap.size A n c bs w' ∧ Below w.heap.size w w'
theorem wordL_len {s : ByteArray} (h : s.size < 18446744073709551616) : (wordL s).length ≤ 10 + s.size := by
  have := numL_len64 h
  unfold wordL
  rw [List.length_append, ← size_eq]
  omega
theorem flat_le {α : Type} {enc : α → List UInt8} {m : Nat} : ∀ (l : List α), (∀ a ∈ l, (enc a).length ≤ m) → (l.flatMap enc).length ≤ m * l.length
  | [], _ => by simp
  | a :: l, h => by
    have h1 := flat_le l (fun x hx => h x (by simp [hx]))
    have h2 := h a (by simp)
    simp only [List.flatMap_cons, List.length_append, List.length_cons, Nat.mul_add, Nat.mul_one]
    omega
theorem listL_le {α : Type} {enc : α → List UInt8} {m : Nat} {l : List α} (hl : l.length < 18446744073709551616) (h : ∀ a ∈ l, (enc a).length ≤ m) : (listL enc l).length ≤ 10 + m * l.length := by
  have h1 := numL_len64 hl
  have h2 := flat_le l h
  unfold listL
  rw [List.length_append]
  omega
set_option maxRecDepth 4000 in
theorem pairs_walk (l : List Pa) (hw : ∀ p ∈ l, p.s.size ≤ 274877906944 ∧ p.t.size ≤ 274877906944) (htot : (listL pairL l).length ≤ 16777216) (A : Option Addr) (n c : Nat) (w : World) (hn : n = l.length) (hm : n ≤ 1099511627776) (hat : RowC pCells 2 w w.heap.size A l) :
    Calls Tryz.prog 67 #[.slice A n c] w (TellPost (some (listL pairL l)) w) := by
  have H := Lib.hid (within_pair l A n c w hn hm hat (fun j hj W _ => pair_walk l[j] (hw _ (List.getElem_mem hj)).1 (hw _ (List.getElem_mem hj)).2 W) (fun a ha => pair_codec.pos a ⟨by have := (hw a ha).1; omega, by have := (hw a ha).2; omega⟩) htot)
  clear hn hat
  go_enter Tryz.func67, Tryz.ntmps67
  go_wp2_with (go_at_call 95; refine H.out.mono ?_; rintro e w1 ⟨A1, n1, c1, rfl, hb1, hbel1⟩; have HB1 := Lib.hid hb1; have HBel1 := Lib.hid hbel1; clear hb1 hbel1)
  go_ret2
  exact ⟨A1, n1, c1, rfl, HB1.out, HBel1.out⟩
end Go.Proofs.YtnkhgajghfonhaaGreatDoor

/- What a seat needs of several texts. -/
/- From CodRead. -/
namespace Go.Proofs.YtnkhgajghfonhaaGreatDoor
open Go.ChangeShapes Go.WideShapes Go.ChangeAt Go.RowKit
open Go.Lib (byteCells byteCells_length byteCells_append strCells)
set_option linter.unusedVariables false
/-- Of what was there nothing has turned but block r. -/
def Past (r : Nat) (w w' : World) : Prop := w.grownBy w' (some r)
theorem Past.refl (r : Nat) (w : World) : Past r w w := ⟨rfl, rfl, rfl, Nat.le_refl _, fun _ _ _ => rfl⟩
theorem Past.trans {r : Nat} {a b c : World} (h : Past r a b) (k : Past r b c) : Past r a c :=
  ⟨k.os.trans h.os, k.tape.trans h.tape, k.output.trans h.output, Nat.le_trans h.size k.size, fun i hi hne => (k.block i (Nat.lt_of_lt_of_le hi h.size) hne).trans (h.block i hi hne)⟩
theorem Past.of {r : Nat} {w w' : World} (h : Below w.heap.size w w') : Past r w w' := ⟨h.os, h.tape, h.output, h.size, fun k hk _ => h.block k hk⟩
theorem Past.alloc {r : Nat} {a w : World} (h : Past r a w) (o : Obj) : Past r a (w.alloc o) := h.trans (Past.of ((Below.refl _ w).alloc (Nat.le_refl _) o))
theorem Past.drew {r : Nat} {a w : World} (h : Past r a w) : Past r a w.drew := ⟨h.os, h.tape, h.output, h.size, h.block⟩
theorem Past.set (r i : Nat) (w : World) (v : Value) : Past r w (w.setCell ⟨r, i, none⟩ v) :=
  ⟨rfl, rfl, rfl, by simp [World.setCell], fun k _ hne => Below.heap_setCell _ _ _ _ (by intro e; exact hne (by rw [e]))⟩
theorem Past.below {r B : Nat} {w w' : World} (h : Past r w w') (hB : B ≤ r) (hs : B ≤ w.heap.size) : Below B w w' :=
  ⟨h.os, h.tape, h.output, h.size, fun k hk => h.block k (by omega) (by intro e; injection e with e; omega)⟩
theorem Past.cell {r : Nat} {w w' : World} (h : Past r w w') {p : Addr} (hp : p.block ≠ r) (hlt : p.block < w.heap.size) : w'.cell? p = w.cell? p :=
  World.cell?_of_block (w := w) (h.block p.block hlt (by intro e; injection e with e; exact hp e))
/-- The reader in block r has l still to be read. -/
def Rd (w : World) (r : Nat) (l : List UInt8) : Prop :=
  ∃ A c, w.cell? ⟨r, 0, none⟩ = some (.slice A l.length c) ∧ w.frozen? ⟨r, 0, none⟩ = false ∧ l.length ≤ c ∧ c ≤ maxLen ∧ BytesAt w r A l
theorem Rd.lt {w : World} {r : Nat} {l : List UInt8} (h : Rd w r l) : r < w.heap.size := by
  obtain ⟨A, c, h0, _⟩ := h
  exact World.block_lt_of_cell? w _ h0
theorem Rd.below {w w' : World} {r : Nat} {l : List UInt8} (h : Rd w r l) (hb : Below w.heap.size w w') : Rd w' r l := by
  have hlt := h.lt
  obtain ⟨A, c, h0, h1, h2, h3, h4⟩ := h
  exact ⟨A, c, (hb.cell (p := ⟨r, 0, none⟩) hlt).trans h0, (hb.frozen (p := ⟨r, 0, none⟩) hlt).trans h1, h2, h3, h4.below (hb.mono (by omega))⟩
def gaveUp : PanicEntry := { v := .iface 26 (.int .i64 41), recovered := false }
theorem must_ok (p : Value) (w : World) : Calls Tryz.prog 137 #[p, .bool true] w fun e w' => e = .returned (.tuple #[]) ∧ w = w' := by
  go_enter Tryz.func137, Tryz.ntmps137
  go_wp2
  go_end0
  exact ⟨rfl, rfl⟩
theorem must_no (p : Value) (w : World) : Calls Tryz.prog 137 #[p, .bool false] w fun e w' => e = .panicked [gaveUp] ∧ w = w' := by
  go_enter Tryz.func137, Tryz.ntmps137
  go_wp2
  exact ⟨rfl, rfl, rfl⟩
theorem Rd.step {w : World} {r n m c : Nat} {l : List UInt8} {A : Option Addr} (h0 : w.cell? ⟨r, 0, none⟩ = some (.slice A m c)) (h1 : w.frozen? ⟨r, 0, none⟩ = false) (hm : l.length = m) (hn : n ≤ m) (hc : m ≤ c) (hcm : c ≤ maxLen) (hb : BytesAt w r A l) :
    Rd (w.setCell ⟨r, 0, none⟩ (.slice (if c = n then A else A.map (·.add n)) (m - n) (c - n))) r (l.drop n) := by
  refine ⟨if c = n then A else A.map (·.add n), c - n, ?_, ?_, ?_, ?_, ?_⟩
  · rw [World.cell?_setCell_same _ _ _ h0, List.length_drop, hm]
  · rw [World.frozen?_setCell]
    exact h1
  · rw [List.length_drop]; omega
  · omega
  · exact (hb.drop n c (by omega) (by omega)).below ((Below.refl r w).setCell (Nat.le_refl _) _)
def NextPost (r n : Nat) (l : List UInt8) (w : World) (e : Ending) (w' : World) : Prop :=
  ∃ A c, e = .returned (.slice A n c) ∧ n ≤ c ∧ c ≤ maxLen ∧ BytesAt w' r A (l.take n) ∧ Rd w' r (l.drop n) ∧ Past r w w'
theorem next_ok (r : Nat) (n : Nat) (l : List UInt8) (w : World) (h : Rd w r l) (hn : n ≤ l.length) :
    Calls Tryz.prog 173 #[.pointer (some ⟨r, 0, none⟩), .int .u64 (n : Int)] w (NextPost r n l w) := by
  obtain ⟨A, c, h0, h1, h2, h3, h4⟩ := h
  obtain ⟨m, hm⟩ : ∃ m, l.length = m := ⟨_, rfl⟩
  have hc : c ≤ 9223372036854775807 := by unfold maxLen at h3; omega
  rw [hm] at h0 h2 hn
  have HS := Lib.hid (Rd.step h0 h1 hm hn h2 h3 h4)
  have HB := Lib.hid ((h4.take n).below ((Below.refl r w).setCell (p := ⟨r, 0, none⟩) (Nat.le_refl _) (.slice (if c = n then A else A.map (·.add n)) (m - n) (c - n))))
  have H3 := Lib.hid (show n ≤ c by omega)
  have H4 := Lib.hid h3
  clear hm h4 h3
  have hW : IntKind.u64.wrap (m : Int) = (m : Int) := u64_in _ (by omega)
  by_cases hcn : c = n
  · subst hcn
    rw [if_pos rfl, show m - c = 0 by omega, Nat.sub_self] at HS HB
    go_enter Tryz.func173, Tryz.ntmps173
    go_wp2_with (go_at_call 137; refine (must_ok _ _).mono ?_; rintro e w' ⟨rfl, rfl⟩)
    go_ret
    exact ⟨A, c, rfl, H3.out, H4.out, HB.out, HS.out, Past.set _ _ _ _⟩
  · rw [if_neg hcn] at HS HB
    go_enter Tryz.func173, Tryz.ntmps173
    go_wp2_with (go_at_call 137; refine (must_ok _ _).mono ?_; rintro e w' ⟨rfl, rfl⟩)
    go_ret
    exact ⟨A, c, rfl, H3.out, H4.out, HB.out, HS.out, Past.set _ _ _ _⟩
set_option maxHeartbeats 1000000 in
theorem next_no (r : Nat) (n : Nat) (l : List UInt8) (w : World) (h : Rd w r l) (hn : l.length < n) :
    Calls Tryz.prog 173 #[.pointer (some ⟨r, 0, none⟩), .int .u64 (n : Int)] w fun e w' => e = .panicked [gaveUp] ∧ w = w' := by
  obtain ⟨A, c, h0, h1, h2, h3, h4⟩ := h
  obtain ⟨m, hm⟩ : ∃ m, l.length = m := ⟨_, rfl⟩
  have hc : c ≤ 9223372036854775807 := by unfold maxLen at h3; omega
  rw [hm] at h0 h2 hn
  clear hm h4 h3
  have hW : IntKind.u64.wrap (m : Int) = (m : Int) := u64_in _ (by omega)
  have hg : decide (n ≤ m) = false := decide_eq_false (by omega)
  clear hn
  go_enter Tryz.func173, Tryz.ntmps173
  go_wp2_with (go_at_call 137; refine (must_no _ _).mono ?_; rintro e w' ⟨rfl, rfl⟩)
  exact ⟨rfl, rfl, rfl⟩
/-- What a reader of one item leaves. -/
def RdPost {α : Type} (r : Nat) (val : α → Value) (o : Option (α × List UInt8)) (w : World) (e : Ending) (w' : World) : Prop :=
  match o with
  | none => e = .panicked [gaveUp] ∧ Past r w w'
  | some p => e = .returned (val p.1) ∧ Rd w' r p.2 ∧ Past r w w'
set_option maxHeartbeats 1000000 in
theorem number_walk (r : Nat) (l : List UInt8) (w : World) (h : Rd w r l) (hl : l.length ≤ 16777216) :
    Calls Tryz.prog 172 #[.pointer (some ⟨r, 0, none⟩)] w (RdPost r (fun n : Nat => .int .u64 (n : Int)) (unL l) w) := by
  have HR := Lib.hid h
  obtain ⟨A, c, h0, h1, h2, h3, h4⟩ := h
  have hU := unnum_walk l A l.length c w rfl h2 h3 (h4.more (by have := HR.out.lt; omega))
  rcases hu : unL l with _ | ⟨n, rest⟩
  · rw [hu] at hU
    unfold unOut at hU
    have HU := Lib.hid hU
    clear hU h4 h2 h3
    go_enter Tryz.func172, Tryz.ntmps172
    go_wp2_with (first | (go_at_call 199; refine HU.out.mono ?_; rintro e w' ⟨rfl, rfl⟩) | (go_at_call 137; refine (must_no _ _).mono ?_; rintro e w' ⟨rfl, rfl⟩))
    exact ⟨rfl, rfl, Past.refl _ _⟩
  · rw [hu] at hU
    unfold unOut at hU
    have hlt := num_codec.less hu
    have HS := Lib.hid (num_codec.suffix hu)
    simp only at hU
    obtain ⟨k, hk⟩ : ∃ k, l.length - rest.length = k := ⟨_, rfl⟩
    have hk2 : Hid (k ≤ l.length) := Lib.hid (by omega)
    have hW : IntKind.u64.wrap (k : Int) = (k : Int) := u64_in _ (by omega)
    rw [hk] at hU HS
    have HU := Lib.hid hU
    clear hU h4 h2 h3 hk hlt
    go_enter Tryz.func172, Tryz.ntmps172
    go_wp2_with (first | (go_at_call 199; refine HU.out.mono ?_; rintro e w' ⟨rfl, rfl⟩) | (go_at_call 137; refine (must_ok _ _).mono ?_; rintro e w' ⟨rfl, rfl⟩) | (go_at_call 173; refine (next_ok r k l _ HR.out hk2.out).mono ?_; rintro e w1 ⟨A1, c1, rfl, _, _, _, hr1, hp1⟩; have HR1 := Lib.hid hr1; have HP1 := Lib.hid hp1; clear hr1 hp1))
    go_ret
    exact ⟨rfl, by rw [HS.out]; exact HR1.out, HP1.out⟩
set_option maxHeartbeats 1000000 in
theorem rtext_walk (r : Nat) (l : List UInt8) (w : World) (h : Rd w r l) (hl : l.length ≤ 16777216) :
    Calls Tryz.prog 139 #[.pointer (some ⟨r, 0, none⟩)] w (RdPost r (fun s => .string s) (rWord l) w) := by
  have hN := number_walk r l w h hl
  rcases hu : unL l with _ | ⟨n, rest⟩
  · rw [hu] at hN
    rw [rWord_none hu]
    have HN := Lib.hid hN
    clear hN h
    go_enter Tryz.func139, Tryz.ntmps139
    go_wp2_with (go_at_call 172; refine HN.out.mono ?_; rintro e w1 ⟨rfl, hp1⟩; have HP1 := Lib.hid hp1; clear hp1)
    exact ⟨rfl, rfl, HP1.out⟩
  · rw [hu] at hN
    rw [rWord_some hu]
    have HN := Lib.hid hN
    have hn := (unL_only hu).2
    unfold takeL
    by_cases hle : n ≤ rest.length
    · rw [if_pos hle]
      have HLE := Lib.hid hle
      clear hN h hle
      go_enter Tryz.func139, Tryz.ntmps139
      go_wp2_with (first | (go_at_call 172; refine HN.out.mono ?_; rintro e w1 ⟨rfl, hr1, hp1⟩; have HR1 := Lib.hid hr1; have HP1 := Lib.hid hp1; clear hp1 hr1) | (go_at_call 173; refine (next_ok r n rest _ HR1.out HLE.out).mono ?_; rintro e w2 ⟨A2, c2, rfl, hc2, hm2, hb2, hr2, hp2⟩; have HR2 := Lib.hid hr2; have HP2 := Lib.hid (HP1.out.trans hp2); have hcv := string_of_bytes A2 n c2 (rest.take n) w2 (by rw [List.length_take]; have := HLE.out; omega) hb2; clear hr2 hp2 hb2))
      go_ret
      exact ⟨rfl, HR2.out, HP2.out⟩
    · rw [if_neg hle]
      have HLE := Lib.hid (show rest.length < n by omega)
      clear hN h hle
      go_enter Tryz.func139, Tryz.ntmps139
      go_wp2_with (first | (go_at_call 172; refine HN.out.mono ?_; rintro e w1 ⟨rfl, hr1, hp1⟩; have HR1 := Lib.hid hr1; have HP1 := Lib.hid hp1; clear hp1 hr1) | (go_at_call 173; refine (next_no r n rest _ HR1.out HLE.out).mono ?_; rintro e w2 ⟨rfl, rfl⟩))
      exact ⟨rfl, rfl, HP1.out⟩
end Go.Proofs.YtnkhgajghfonhaaGreatDoor
/- From CodItem. -/
namespace Go.Proofs.YtnkhgajghfonhaaGreatDoor
open Go.ChangeShapes Go.WideShapes Go.ChangeAt Go.RowKit
open Go.Lib (byteCells byteCells_length byteCells_append strCells)
set_option linter.unusedVariables false
theorem Past.setNew {r : Nat} {a w : World} (h : Past r a w) {p : Addr} (hp : a.heap.size ≤ p.block) (v : Value) : Past r a (w.setCell p v) :=
  ⟨h.os, h.tape, h.output, by have := h.size; simp [World.setCell]; omega, fun k hk hne => (Below.heap_setCell _ _ _ _ (by omega)).trans (h.block k hk hne)⟩
theorem Past.frozen {r : Nat} {w w' : World} (h : Past r w w') {p : Addr} (hp : p.block ≠ r) (hlt : p.block < w.heap.size) : w'.frozen? p = w.frozen? p :=
  World.frozen?_of_block (w := w) (h.block p.block hlt (by intro e; injection e with e; exact hp e))
theorem Rd.other {w : World} {r : Nat} {l : List UInt8} (h : Rd w r l) {p : Addr} (hp : r < p.block) (v : Value) : Rd (w.setCell p v) r l := by
  obtain ⟨A, c, h0, h1, h2, h3, h4⟩ := h
  refine ⟨A, c, ?_, ?_, h2, h3, h4.below ((Below.refl r w).setCell (by omega) _)⟩
  · rw [World.cell?_setCell_other _ _ _ _ (by intro e; rw [e] at hp; simp at hp)]
    exact h0
  · rw [World.frozen?_setCell]
    exact h1
theorem Rd.alloc {w : World} {r : Nat} {l : List UInt8} (h : Rd w r l) (o : Obj) : Rd (w.alloc o) r l := h.below ((Below.refl _ w).alloc (Nat.le_refl _) o)
/-- Two cells of a block of the call's own. -/
structure Two (w : World) (g : Nat) (x y : Value) : Prop where
  c0 : w.cell? ⟨g, 0, none⟩ = some x
  c1 : w.cell? ⟨g, 1, none⟩ = some y
  f0 : w.frozen? ⟨g, 0, none⟩ = false
  f1 : w.frozen? ⟨g, 1, none⟩ = false
theorem Two.new (w : World) (x y : Value) (T : TypeId) : Two (w.alloc (.cells #[x, y] T)) w.heap.size x y := ⟨by simp [go_sem], by simp [go_sem], by simp [go_sem], by simp [go_sem]⟩
theorem Two.past {r : Nat} {w w' : World} {g : Nat} {x y : Value} (h : Two w g x y) (hp : Past r w w') (hne : g ≠ r) : Two w' g x y := by
  have hlt := World.block_lt_of_cell? w _ h.c0
  exact ⟨(hp.cell (p := ⟨g, 0, none⟩) hne hlt).trans h.c0, (hp.cell (p := ⟨g, 1, none⟩) hne hlt).trans h.c1, (hp.frozen (p := ⟨g, 0, none⟩) hne hlt).trans h.f0, (hp.frozen (p := ⟨g, 1, none⟩) hne hlt).trans h.f1⟩
set_option maxHeartbeats 2000000 in
theorem rpair_walk (r : Nat) (l : List UInt8) (w : World) (h : Rd w r l) (hl : l.length ≤ 16777216) :
    Calls Tryz.prog 91 #[.pointer (some ⟨r, 0, none⟩)] w (RdPost r (fun c : Pa => .agg #[.string c.s, .string c.t]) (rPair l) w) := by
  have HR := Lib.hid h
  have HNE := Lib.hid h.lt
  have HW := fun W hW => rtext_walk r l W hW hl
  unfold rPair
  rcases hu : rWord l with _ | ⟨s, m⟩
  · rw [hu] at HW
    have HT := Lib.hid HW
    clear HW h
    go_enter Tryz.func91, Tryz.ntmps91
    go_wp2_with (go_at_call 139; refine (HT.out _ (HR.out.alloc _)).mono ?_; rintro e w1 ⟨rfl, hp1⟩; have HP1 := Lib.hid (Past.trans ((Past.refl r w).alloc _) hp1); clear hp1)
    exact ⟨rfl, rfl, HP1.out⟩
  · have hml := word_codec.less hu
    have HV := fun W hW => rtext_walk r m W hW (by omega)
    rw [hu] at HW
    dsimp only
    rcases hv : rWord m with _ | ⟨t, q⟩
    · rw [hv] at HV
      have HT := Lib.hid HW
      have HU := Lib.hid HV
      clear HW HV h
      go_enter Tryz.func91, Tryz.ntmps91
      go_wp2_with (first | (go_at_call 139; refine (HT.out _ (HR.out.alloc _)).mono ?_; rintro e w1 ⟨rfl, hr1, hp1⟩; have HR1 := Lib.hid hr1; have HP1 := Lib.hid (Past.trans ((Past.refl r w).alloc _) hp1); clear hp1 hr1) | (go_at_call 139; refine (HU.out _ HR1.out).mono ?_; rintro e w2 ⟨rfl, hp2⟩; have HP2 := Lib.hid (HP1.out.trans hp2); clear hp2))
      exact ⟨rfl, rfl, HP2.out⟩
    · rw [hv] at HV
      have HT := Lib.hid HW
      have HU := Lib.hid HV
      clear HW HV h
      go_enter Tryz.func91, Tryz.ntmps91
      go_wp2_with (first | (go_at_call 139; refine (HT.out _ (HR.out.alloc _)).mono ?_; rintro e w1 ⟨rfl, hr1, hp1⟩; have HR1 := Lib.hid hr1; have HX1 := Lib.hid ((Two.new w _ _ _).past hp1 (by have := HNE.out; omega)); have HP1 := Lib.hid (Past.trans ((Past.refl r w).alloc _) hp1); clear hp1 hr1) | (go_at_call 139; refine (HU.out _ HR1.out).mono ?_; rintro e w2 ⟨rfl, hr2, hp2⟩; have HR2 := Lib.hid hr2; have HX2 := HX1.out.past hp2 (by have := HNE.out; omega); have x0 := HX2.c0; have x1 := HX2.c1; have z0 := HX2.f0; have z1 := HX2.f1; have HP2 := Lib.hid (HP1.out.trans hp2); clear hp2 hr2 HX2))
      refine bodyPost_ret (v := .agg #[.string s, .string t]) (by simp [results, Tryz.results91, go_sem, x0, x1]) rfl ⟨rfl, (HR2.out.other HNE.out _).other HNE.out _, (HP2.out.setNew (p := ⟨w.heap.size, 0, none⟩) (Nat.le_refl _) _).setNew (p := ⟨w.heap.size, 1, none⟩) (Nat.le_refl _) _⟩
end Go.Proofs.YtnkhgajghfonhaaGreatDoor
/- From CodVal. -/
namespace Go.Proofs.YtnkhgajghfonhaaGreatDoor
open Go.ChangeShapes Go.WideShapes Go.ChangeAt Go.RowKit
open Go.Lib (byteCells byteCells_length byteCells_append strCells)
set_option linter.unusedVariables false
end Go.Proofs.YtnkhgajghfonhaaGreatDoor
/- From CodItems. -/
namespace Go.Proofs.YtnkhgajghfonhaaGreatDoor
open Go.ChangeShapes Go.WideShapes Go.ChangeAt Go.RowKit
open Go.Lib (byteCells byteCells_length byteCells_append strCells)
set_option linter.unusedVariables false
theorem own_past {r : Nat} {w w' : World} {base : Nat} {e : TypeId} {size : Nat} {v : Value} {n : Nat} {xs : List Value} (h : w.ownsRow base e size v n xs) (hp : Past r w w') (hr : r < base) : w'.ownsRow base e size v n xs := by
  refine ⟨h.1, ?_⟩
  rcases h.2 with ⟨rfl, h0⟩ | ⟨g, cap, cur, rfl, hg, hh, rest⟩
  · exact .inl ⟨rfl, h0⟩
  · exact .inr ⟨g, cap, cur, rfl, hg, (hp.block g (Array.getElem?_eq_some_iff.1 hh).1 (by intro e; injection e with e; omega)).trans hh, rest⟩
theorem Rd.grown {r B : Nat} {w w' : World} {l : List UInt8} (h : Rd w r l) (hb : Below B w w') (hr : r < B) : Rd w' r l := by
  obtain ⟨A, c, h0, h1, h2, h3, h4⟩ := h
  exact ⟨A, c, (hb.cell (p := ⟨r, 0, none⟩) hr).trans h0, (hb.frozen (p := ⟨r, 0, none⟩) hr).trans h1, h2, h3, h4.below (hb.mono (by omega))⟩
/-- Below B nothing has turned but block r. -/
def PastB (r B : Nat) (w w' : World) : Prop := w'.os = w.os ∧ w'.tape = w.tape ∧ w'.output = w.output ∧ w.heap.size ≤ w'.heap.size ∧ ∀ k, k < B → k ≠ r → w'.heap[k]? = w.heap[k]?
theorem PastB.refl (r B : Nat) (w : World) : PastB r B w w := ⟨rfl, rfl, rfl, Nat.le_refl _, fun _ _ _ => rfl⟩
theorem PastB.past {r B : Nat} {a b c : World} (h : PastB r B a b) (k : Past r b c) (hB : B ≤ b.heap.size) : PastB r B a c :=
  ⟨k.os.trans h.1, k.tape.trans h.2.1, k.output.trans h.2.2.1, Nat.le_trans h.2.2.2.1 k.size, fun i hi hne => (k.block i (by omega) (by intro e; injection e with e; exact hne e)).trans (h.2.2.2.2 i hi hne)⟩
theorem PastB.below {r B : Nat} {a b c : World} (h : PastB r B a b) (k : Below B b c) : PastB r B a c :=
  ⟨k.os.trans h.1, k.tape.trans h.2.1, k.output.trans h.2.2.1, Nat.le_trans h.2.2.2.1 k.size, fun i hi hne => (k.block i hi).trans (h.2.2.2.2 i hi hne)⟩
theorem PastB.whole {r : Nat} {a b : World} (h : PastB r a.heap.size a b) : Past r a b := ⟨h.1, h.2.1, h.2.2.1, h.2.2.2.1, fun k hk hne => h.2.2.2.2 k hk (by intro e; exact hne (by rw [e]))⟩
/-- k items have been read: they are xs; m is left. -/
def ManyK {α : Type} (dec : List UInt8 → Option (α × List UInt8)) (n : Nat) (l : List UInt8) (k : Nat) (xs : List α) (m : List UInt8) : Prop := xs.length = k ∧ rMany dec n l = (rMany dec (n - k) m).map fun q => (xs ++ q.1, q.2)
section
variable {α : Type} {dec : List UInt8 → Option (α × List UInt8)} {n k : Nat} {l m : List UInt8} {xs : List α}
theorem ManyK.start : ManyK dec n l 0 [] l := ⟨rfl, by rw [Nat.sub_zero]; cases rMany dec n l <;> simp⟩
theorem ManyK.bad (h : ManyK dec n l k xs m) (hk : k < n) (hd : dec m = none) : rMany dec n l = none := by
  rw [h.2, show n - k = (n - k - 1) + 1 by omega, rMany_none hd]
  rfl
theorem ManyK.next {a : α} {q : List UInt8} (h : ManyK dec n l k xs m) (hk : k < n) (hd : dec m = some (a, q)) : ManyK dec n l (k + 1) (xs ++ [a]) q := by
  refine ⟨by simp [h.1], ?_⟩
  rw [h.2, show n - k = (n - (k + 1)) + 1 by omega, rMany_some hd]
  cases rMany dec (n - (k + 1)) q <;> simp
theorem ManyK.done (h : ManyK dec n l k xs m) (hk : n ≤ k) : rMany dec n l = some (xs, m) := by
  rw [h.2, show n - k = 0 by omega, rMany_zero]
  simp
end
/-- What items leaves. -/
def ItemsPost {α : Type} (r : Nat) (E : TypeId) (sz : Nat) (f : α → List Value) (o : Option (List α × List UInt8)) (w : World) (e : Ending) (w' : World) : Prop :=
  match o with
  | none => e = .panicked [gaveUp] ∧ Past r w w'
  | some p => ∃ A c, e = .returned (.slice A p.1.length c) ∧ w'.ownsRow w.heap.size E sz (.slice A p.1.length c) p.1.length (p.1.flatMap f) ∧ Rd w' r p.2 ∧ Past r w w'
theorem info_pair : (Tryz.prog.info? 120).map (fun i => (i.zero, i.size, i.bytes)) = some (some (Value.agg #[.string ⟨#[]⟩, .string ⟨#[]⟩]), 2, 32) := by kernel_rfl
set_option maxHeartbeats 2000000 in
theorem items_pair (r : Nat) (l : List UInt8) (w : World) (h : Rd w r l) (hl : l.length ≤ 16777216) :
    Calls Tryz.prog 138 #[.pointer (some ⟨r, 0, none⟩), .int .u64 16777216, .func (.func 91) #[] #[]] w (ItemsPost r 120 2 pCells (rList rPair 16777216 l) w) := by
  have HR := Lib.hid h
  have HNE := Lib.hid h.lt
  have hN := number_walk r l w h hl
  rcases hu : unL l with _ | ⟨n, m⟩
  · rw [hu] at hN
    rw [rList_none hu]
    have HN := Lib.hid hN
    clear hN h
    go_enter Tryz.func138, Tryz.ntmps138
    go_wp2_with (go_at_call 172; refine HN.out.mono ?_; rintro e w1 ⟨rfl, hp1⟩; have HP1 := Lib.hid hp1; clear hp1)
    exact ⟨rfl, rfl, HP1.out⟩
  · rw [hu] at hN
    have HN := Lib.hid hN
    have HML := Lib.hid (num_codec.less hu)
    by_cases hm : n ≤ 16777216
    · rw [rList_some hu hm]
      have hg1 : decide ((n : Int) ≤ 16777216) = true := decide_eq_true (by omega)
      clear hN h
      go_enter Tryz.func138, Tryz.ntmps138
      go_wp2_with (first | (go_at_call 172; refine HN.out.mono ?_; rintro e w1 ⟨rfl, hr1, hp1⟩; have HR1 := Lib.hid hr1; have HP1 := Lib.hid hp1; clear hp1 hr1) | (go_at_call 137; refine (must_ok _ _).mono ?_; rintro e w2 ⟨rfl, rfl⟩))
      clear hg1
      go_loopw [8, 17] (fun lv iv wr => ∃ (k : Nat) (xs : List Pa) (q : List UInt8) (A : Option Addr) (c : Nat), k ≤ n ∧ iv = .int .u64 (k : Int) ∧ lv = .slice A k c ∧ Hid (ManyK rPair n m k xs q) ∧ Hid (q.length ≤ m.length) ∧ Hid (wr.ownsRow w.heap.size 120 2 (.slice A k c) k (xs.flatMap pCells)) ∧ Hid (Rd wr r q) ∧ Hid (PastB r w.heap.size w wr)) (fun _ iv _ => n - (intOf iv).toNat)
      case atStart => exact ⟨0, [], m, none, 0, Nat.zero_le _, rfl, rfl, Lib.hid ManyK.start, Lib.hid (Nat.le_refl _), Lib.hid (World.ownsRow_nil _ _ _ _), HR1, Lib.hid ((PastB.refl r _ w).past HP1.out (Nat.le_refl _))⟩
      case round =>
        obtain ⟨k, xs, q, A, c, hk, rfl, rfl, HM, HQ, HO, HRr, HPr⟩ := hrel
        by_cases hlt : k < n
        · have HW := rpair_walk r q wr HRr.out (by have := HQ.out; have := HML.out; omega)
          have HWS := Lib.hid HPr.out.2.2.2.1
          rcases hd : rPair q with _ | ⟨a, q2⟩
          · rw [hd] at HW
            have HC := Lib.hid HW
            have HF := Lib.hid (HM.out.bad hlt hd)
            clear HW
            go_wp2_with (go_at_call 91; refine HC.out.mono ?_; rintro e w2 ⟨rfl, hp2⟩; have HP2 := Lib.hid (HPr.out.past hp2 HWS.out).whole; clear hp2)
            rw [HF.out]
            exact ⟨rfl, rfl, HP2.out⟩
          · rw [hd] at HW
            have HC := Lib.hid HW
            have HF := Lib.hid (HM.out.next hlt hd)
            have HQ2 := Lib.hid (show q2.length ≤ m.length by have h1 := pair_codec.less hd; have := HQ.out; omega)
            clear HW
            go_wp2_with (first | (go_at_call 91; refine HC.out.mono ?_; rintro e w2 ⟨rfl, hr2, hp2⟩; have HR2 := Lib.hid hr2; have HO2 := Lib.hid (own_past HO.out hp2 HNE.out); have HS2 := Lib.hid (Nat.le_trans HWS.out hp2.size); have HP2 := Lib.hid (HPr.out.past hp2 HWS.out); clear hp2 hr2) | (at_builtin; go_loud (refine append_item Tryz.underlying116 info_pair rfl (by decide) pCells_length pCells_one rfl _ _ rfl w.heap.size A k c xs rfl _ a HO2.out HS2.out _ rfl rfl (by omega) (by unfold maxLen; omega) [_, _] rfl ?_); intro A3 n3 c3 w3 hn3 ho3 hb3 hg3; have HO3 := Lib.hid ho3; have HR3 := Lib.hid (HR2.out.grown hb3 HNE.out); have HP3 := Lib.hid (HP2.out.below hb3); clear ho3 hb3 hg3; subst hn3))
            go_roundw
            case rel => exact ⟨k + 1, xs ++ [a], q2, A3, c3, by omega, by go_num, rfl, HF, HQ2, HO3, HR3, HP3⟩
            case measure => simp [intOf]; omega
        · have HF := Lib.hid (HM.out.done (by omega))
          have HL := Lib.hid HM.out.1
          have hkn : k = n := by omega
          subst hkn
          go_wp2
          go_ret
          rw [HF.out]
          refine ⟨A, c, ?_, ?_, HRr.out, HPr.out.whole⟩
          · rw [HL.out]; rfl
          · rw [HL.out]; exact HO.out
    · rw [rList_many hu (by omega)]
      have hg1 : decide ((n : Int) ≤ 16777216) = false := decide_eq_false (by omega)
      have hg2 : decide (n ≤ 16777216) = false := decide_eq_false hm
      clear hN h hm
      go_enter Tryz.func138, Tryz.ntmps138
      go_wp2_with (first | (go_at_call 172; refine HN.out.mono ?_; rintro e w1 ⟨rfl, hr1, hp1⟩; have HR1 := Lib.hid hr1; have HP1 := Lib.hid hp1; clear hp1 hr1) | (go_at_call 137; refine (must_no _ _).mono ?_; rintro e w2 ⟨rfl, rfl⟩))
      exact ⟨rfl, rfl, HP1.out⟩
end Go.Proofs.YtnkhgajghfonhaaGreatDoor
/- From CodRows. -/
namespace Go.Proofs.YtnkhgajghfonhaaGreatDoor
open Go.ChangeShapes Go.WideShapes Go.ChangeAt Go.RowKit
open Go.Lib (byteCells byteCells_length byteCells_append strCells)
set_option linter.unusedVariables false
end Go.Proofs.YtnkhgajghfonhaaGreatDoor
/- From CodWhole. -/
namespace Go.Proofs.YtnkhgajghfonhaaGreatDoor
open Go.ChangeShapes Go.WideShapes Go.ChangeAt Go.RowKit
open Go.Lib (byteCells byteCells_length byteCells_append strCells)
set_option linter.unusedVariables false
def saved : PanicEntry := { v := .iface 26 (.int .i64 41), recovered := true }
theorem must_b (p : Value) (b : Bool) (w : World) : Calls Tryz.prog 137 #[p, .bool b] w fun e w' => (b = true → e = .returned (.tuple #[]) ∧ w = w') ∧ (b = false → e = .panicked [gaveUp] ∧ w = w') := by
  cases b
  · exact (must_no p w).mono fun e w' h => ⟨fun h => (by cases h), fun _ => h⟩
  · exact (must_ok p w).mono fun e w' h => ⟨fun _ => h, fun h => (by cases h)⟩
theorem past3 {r B : Nat} {w W w2 : World} (h : Below B w W) (hp : Past r W w2) (hr : B ≤ r) (hB : B ≤ W.heap.size) : Below B w w2 := h.trans (hp.below hr hB)
/-- What whole leaves, of items of one kind. -/
def WholePost {α : Type} (E : TypeId) (sz : Nat) (f : α → List Value) (o : Option (List α)) (w : World) (e : Ending) (w' : World) : Prop :=
  match o with
  | none => e = .returned (.tuple #[.slice none 0 0, .int .i64 41]) ∧ Below w.heap.size w w'
  | some xs => ∃ A c, e = .returned (.tuple #[.slice A xs.length c, .int .i64 0]) ∧ w'.ownsRow w.heap.size E sz (.slice A xs.length c) xs.length (xs.flatMap f) ∧ Below w.heap.size w w'
/-- One cell of a block. -/
structure OneC (w : World) (g : Nat) (x : Value) : Prop where
  c0 : w.cell? ⟨g, 0, none⟩ = some x
  f0 : w.frozen? ⟨g, 0, none⟩ = false
theorem OneC.past {r : Nat} {w w' : World} {g : Nat} {x : Value} (h : OneC w g x) (hp : Past r w w') (hne : g ≠ r) : OneC w' g x := by
  have hlt := World.block_lt_of_cell? w _ h.c0
  exact ⟨(hp.cell (p := ⟨g, 0, none⟩) hne hlt).trans h.c0, (hp.frozen (p := ⟨g, 0, none⟩) hne hlt).trans h.f0⟩
theorem catch_panicking_pair (p q : Addr) (x : Value) (y : Value) (w : World) (hc : w.cell? p = some x) (hz : w.frozen? p = false) (hc2 : w.cell? q = some y) (hz2 : w.frozen? q = false) (hne : p ≠ q) :
    CallsD Tryz.prog 136 #[.pointer (some p), .pointer (some q)] (.panicking [gaveUp]) w fun e u' w' =>
      e = .returned (.tuple #[]) ∧ u' = .panicking [saved] ∧ w' = (w.setCell p (.slice none 0 0)).setCell q (.int .i64 41) := by
  refine callsD_of_wpS Tryz.func136 rfl fun c₀ cs hu => ?_
  apply wpS_seq
  apply wpS_region
  simp [wpOpsS, go_sem, recoverD, hu, Tryz.ntmps136, Exit.thenS, gaveUp]
  refine wpS_cond (t := true) (by simp [Act.eval, Array.replicate]) ?_
  simp only [if_true]
  apply wpS_region
  have hc3 : (w.setCell p (.slice none 0 0)).cell? q = some y := by rw [World.cell?_setCell_other _ _ _ _ hne]; exact hc2
  have hz3 : (w.setCell p (.slice none 0 0)).frozen? q = false := by rw [World.frozen?_setCell]; exact hz2
  simp [wpOpsS, go_sem, hc, hz, hc3, hz3, bodyPostS, results, Tryz.results136, saved]
theorem catch_idle_pair (p q : Addr) (w : World) :
    CallsD Tryz.prog 136 #[.pointer (some p), .pointer (some q)] .returning w fun e u' w' => e = .returned (.tuple #[]) ∧ u' = .returning ∧ w' = w := by
  refine callsD_of_wpS Tryz.func136 rfl fun c₀ cs hu => ?_
  apply wpS_seq
  apply wpS_region
  simp [wpOpsS, go_sem, recoverD, hu, Tryz.ntmps136, Exit.thenS]
  refine wpS_cond (t := false) (by simp [Act.eval, Array.replicate]) ?_
  simp only [Bool.false_eq_true, if_false]
  refine wpS_of_wp (wp_skip ?_)
  cases c₀
  simp_all [bodyPostS, results, Tryz.results136]
set_option maxRecDepth 4000 in
set_option maxHeartbeats 2000000 in
theorem whole_pair (l : List UInt8) (A : Option Addr) (n c : Nat) (w : World) (hn : n = l.length) (hc : n ≤ c) (hcm : c ≤ maxLen) (hl : n ≤ 16777216) (hb : BytesAt w w.heap.size A l) :
    Calls Tryz.prog 90 #[.slice A n c, .func (.func 91) #[] #[]] w (WholePost 120 2 pCells (whole rPair l) w) := by
  have hmf : ∀ (fn : Fn) (first cap : Array Value) (w : World), (Instr.makeFunc fn first cap).run Tryz.prog w = .ok (.func fn first cap) w := fun _ _ _ _ => rfl
  have HRD := Lib.hid (show Rd (((w.alloc (.cells #[.slice none 0 0] 116)).alloc (.cells #[.int .i64 0] 26)).alloc (.cells #[.slice A n c] 188)) (w.heap.size + 1 + 1) l from by
    refine ⟨A, c, ?_, ?_, by omega, hcm, (hb.below ((((Below.refl _ w).alloc (Nat.le_refl _) _).alloc (by simp) _).alloc (by simp; omega) _)).more (by omega)⟩
    · rw [← hn]; simp [go_sem]
    · simp [go_sem])
  have HB := Lib.hid (((((Below.refl _ w).alloc (Nat.le_refl _) (.cells #[.slice none 0 0] 116)).alloc (by simp) (.cells #[.int .i64 0] 26)).alloc (by simp; omega) (.cells #[.slice A n c] 188)))
  have HX := Lib.hid (show OneC (((w.alloc (.cells #[.slice none 0 0] 116)).alloc (.cells #[.int .i64 0] 26)).alloc (.cells #[.slice A n c] 188)) w.heap.size (.slice none 0 0) from ⟨by simp [go_sem], by simp [go_sem]⟩)
  have HY := Lib.hid (show OneC (((w.alloc (.cells #[.slice none 0 0] 116)).alloc (.cells #[.int .i64 0] 26)).alloc (.cells #[.slice A n c] 188)) (w.heap.size + 1) (.int .i64 0) from ⟨by simp [go_sem], by simp [go_sem]⟩)
  have HI := items_pair (w.heap.size + 1 + 1) l _ HRD.out (by omega)
  have hl2 : ¬ (16777216 : Int) < (n : Int) := by omega
  have hl3 : decide (n ≤ 16777216) = true := decide_eq_true hl
  have hl4 : decide ((n : Int) ≤ 16777216) = true := decide_eq_true (by omega)
  clear hb hcm hn
  rcases hu : rList rPair 16777216 l with _ | ⟨xs, m⟩
  · rw [hu] at HI
    rw [whole_none hu]
    have HIT := Lib.hid HI
    clear HI
    go_enter_defers Tryz.func90, Tryz.ntmps90
    go_wp2_with (first | (go_at_call 137; refine (must_b _ _ _).mono ?_; intro e w' hh; first | (obtain ⟨rfl, rfl⟩ := hh.1 rfl) | (obtain ⟨rfl, rfl⟩ := hh.2 rfl)) | (go_at_call 138; refine HIT.out.mono ?_; rintro e w2 ⟨rfl, hp2⟩; have HP2 := Lib.hid hp2; have HX2 := Lib.hid (HX.out.past hp2 (by omega)); have HY2 := Lib.hid (HY.out.past hp2 (by omega)); clear hp2))
    have x0 := HX2.out.c0
    have y0 := HY2.out.c0
    refine leaves_cons (f := 136) (args := #[.pointer (some ⟨w.heap.size, 0, none⟩), .pointer (some ⟨w.heap.size + 1, 0, none⟩)]) (by simp) (by simp [go_sem]) ?_
    refine (catch_panicking_pair ⟨w.heap.size, 0, none⟩ ⟨w.heap.size + 1, 0, none⟩ (.slice none 0 0) (.int .i64 0) _ (by simp [go_sem, x0]) (by simp [go_sem, HX2.out.f0]) (by simp [go_sem, y0]) (by simp [go_sem, HY2.out.f0]) (by simp)).mono ?_
    rintro e u' w'' ⟨rfl, rfl, rfl⟩
    refine ⟨.tuple #[.slice none 0 0, .int .i64 41], by simp [results, Tryz.results90, go_sem, x0, y0], rfl, ?_⟩
    exact ((past3 HB.out HP2.out (by omega) (by first | (simp; done) | (simp; omega))).setCell (p := ⟨w.heap.size, 0, none⟩) (Nat.le_refl _) _).setCell (p := ⟨w.heap.size + 1, 0, none⟩) (by simp) _
  · rw [hu] at HI
    match m, hu with
    | [], hu =>
      rw [whole_some hu]
      have HIT := Lib.hid HI
      clear HI
      go_enter_defers Tryz.func90, Tryz.ntmps90
      go_wp2_with (first | (go_at_call 137; refine (must_b _ _ _).mono ?_; intro e w' hh; first | (obtain ⟨rfl, rfl⟩ := hh.1 rfl) | (obtain ⟨rfl, rfl⟩ := hh.2 rfl)) | (go_at_call 138; refine HIT.out.mono ?_; rintro e w2 ⟨A2, c2, rfl, ho2, hr2, hp2⟩; have HO2 := Lib.hid ho2; have HR2 := Lib.hid hr2; have HP2 := Lib.hid hp2; have HX2 := Lib.hid (HX.out.past hp2 (by omega)); have HY2 := Lib.hid (HY.out.past hp2 (by omega)); obtain ⟨A3, c3, h30, h31, _, _, _⟩ := hr2; have x0 := HX2.out.c0; have x1 := HX2.out.f0; have y0 := HY2.out.c0; have y1 := HY2.out.f0; clear hp2 ho2))
      refine leaves_cons (f := 136) (args := #[.pointer (some ⟨w.heap.size, 0, none⟩), .pointer (some ⟨w.heap.size + 1, 0, none⟩)]) (by simp) (by simp [go_sem]) ?_
      refine (catch_idle_pair ⟨w.heap.size, 0, none⟩ ⟨w.heap.size + 1, 0, none⟩ _).mono ?_
      rintro e u' w'' ⟨rfl, rfl, rfl⟩
      refine ⟨.tuple #[.slice A2 xs.length c2, .int .i64 0], by simp [results, Tryz.results90, go_sem, x0, y0], A2, c2, rfl, ?_, ?_⟩
      · exact (ownsRow_setCell_below (ownsRow_setCell_below (ownsRow_setCell_below (HO2.out) (by first | (simp; done) | (simp; omega)) _) (by first | (simp; done) | (simp; omega)) _) (by first | (simp; done) | (simp; omega)) _).mono (by first | (simp; done) | (simp; omega))
      · exact (((past3 HB.out HP2.out (by omega) (by first | (simp; done) | (simp; omega))).setCell (p := ⟨w.heap.size, 0, none⟩) (Nat.le_refl _) _).setCell (p := ⟨w.heap.size, 0, none⟩) (Nat.le_refl _) _).setCell (p := ⟨w.heap.size + 1, 0, none⟩) (by simp) _
    | c1 :: t1, hu =>
      rw [whole_rest hu (by simp)]
      obtain ⟨k, hk⟩ : ∃ k, (c1 :: t1).length = k := ⟨_, rfl⟩
      have HK := Lib.hid hk
      have e0 : ((k : Int) == 0) = false := by simp at hk; rw [beq_eq_false_iff_ne]; omega
      have e1 : (k == 0) = false := by simp at hk; rw [beq_eq_false_iff_ne]; omega
      clear hk
      have HIT := Lib.hid HI
      clear HI
      go_enter_defers Tryz.func90, Tryz.ntmps90
      go_wp2_with (first | (go_at_call 137; refine (must_b _ _ _).mono ?_; intro e w' hh; first | (obtain ⟨rfl, rfl⟩ := hh.1 rfl) | (obtain ⟨rfl, rfl⟩ := hh.2 rfl)) | (go_at_call 138; refine HIT.out.mono ?_; rintro e w2 ⟨A2, c2, rfl, ho2, hr2, hp2⟩; have HP2 := Lib.hid hp2; have HX2 := Lib.hid (HX.out.past hp2 (by omega)); have HY2 := Lib.hid (HY.out.past hp2 (by omega)); obtain ⟨A3, c3, h30, h31, _, _, _⟩ := hr2; rw [HK.out] at h30; have x0 := HX2.out.c0; have x1 := HX2.out.f0; have y0 := HY2.out.c0; have y1 := HY2.out.f0; clear hp2 ho2))
      have x0 := HX2.out.c0
      have y0 := HY2.out.c0
      refine leaves_cons (f := 136) (args := #[.pointer (some ⟨w.heap.size, 0, none⟩), .pointer (some ⟨w.heap.size + 1, 0, none⟩)]) (by simp) (by simp [go_sem]) ?_
      refine (catch_panicking_pair ⟨w.heap.size, 0, none⟩ ⟨w.heap.size + 1, 0, none⟩ (.slice A2 xs.length c2) (.int .i64 0) _ (by simp [go_sem, x0]) (by simp [go_sem, HX2.out.f0]) (by simp [go_sem, y0]) (by simp [go_sem, HY2.out.f0]) (by simp)).mono ?_
      rintro e u' w'' ⟨rfl, rfl, rfl⟩
      refine ⟨.tuple #[.slice none 0 0, .int .i64 41], by simp [results, Tryz.results90, go_sem, x0, y0], rfl, ?_⟩
      exact (((past3 HB.out HP2.out (by omega) (by first | (simp; done) | (simp; omega))).setCell (p := ⟨w.heap.size, 0, none⟩) (Nat.le_refl _) _).setCell (p := ⟨w.heap.size, 0, none⟩) (Nat.le_refl _) _).setCell (p := ⟨w.heap.size + 1, 0, none⟩) (by simp) _
end Go.Proofs.YtnkhgajghfonhaaGreatDoor
/- From CodAlive. -/
namespace Go.Proofs.YtnkhgajghfonhaaGreatDoor
open Go.ChangeShapes Go.WideShapes Go.ChangeAt Go.RowKit
open Go.Lib (byteCells byteCells_length byteCells_append strCells)
set_option linter.unusedVariables false
theorem unpairs_walk (l : List UInt8) (A : Option Addr) (n c : Nat) (w : World) (hn : n = l.length) (hc : n ≤ c) (hcm : c ≤ maxLen) (hl : n ≤ 16777216) (hb : BytesAt w w.heap.size A l) :
    Calls Tryz.prog 63 #[.slice A n c] w (WholePost 120 2 pCells (whole rPair l) w) := by
  have H := whole_pair l A n c w hn hc hcm hl hb
  cases hu : whole rPair l with
  | none =>
    rw [hu] at H
    have HH := Lib.hid H
    clear H hb hn hc hcm hl
    go_enter Tryz.func63, Tryz.ntmps63
    go_wp2_with (go_at_call 90; refine HH.out.mono ?_; rintro e w1 ⟨rfl, hb1⟩; have HB1 := Lib.hid hb1; clear hb1)
    go_ret2
    exact ⟨rfl, HB1.out⟩
  | some xs =>
    rw [hu] at H
    have HH := Lib.hid H
    clear H hb hn hc hcm hl
    go_enter Tryz.func63, Tryz.ntmps63
    go_wp2_with (go_at_call 90; refine HH.out.mono ?_; rintro e w1 ⟨A1, c1, rfl, ho1, hb1⟩; have HO1 := Lib.hid ho1; have HB1 := Lib.hid hb1; clear hb1 ho1)
    go_ret2
    exact ⟨A1, c1, rfl, HO1.out, HB1.out⟩
theorem RowC.new {α : Type} {f : α → List Value} {sz : Nat} (hl : ∀ a, (f a).length = sz) (w : World) (l : List α) (E : TypeId) (cs : Array Value) (hc : cs = (l.flatMap f).toArray) : RowC f sz (w.alloc (.cells cs E)) (w.alloc (.cells cs E)).heap.size (some ⟨w.heap.size, 0, none⟩) l := by
  subst hc
  intro j hj
  refine ⟨w.heap.size, 0, rfl, by simp, fun i v hv => ?_⟩
  have := new_cells w (l.flatMap f) E _ _ (flat_at hl l j hj i v hv)
  rw [add_at] at this
  rw [Nat.add_assoc]
  exact this
theorem BytesAt.new (w : World) (l : List UInt8) (cs : Array Value) (hc : cs = (byteCells l).toArray) : BytesAt (w.alloc (.cells cs 5)) (w.alloc (.cells cs 5)).heap.size (some ⟨w.heap.size, 0, none⟩) l := by
  subst hc
  intro j hj
  have := new_cells w (byteCells l) 5 j (.int .u8 (l[j].toNat : Int)) (by simp [byteCells, List.getElem?_eq_getElem hj])
  rw [add_at] at this
  exact ⟨w.heap.size, 0, rfl, by simp, this⟩
end Go.Proofs.YtnkhgajghfonhaaGreatDoor
