/- What a seat needs of several texts. -/
import Derived.Lib.Bytealg
import Derived.Lib.Small
import Derived.Lib.Replace
import Derived.Lib.UnsafeStr
/- From ValPlain. -/
namespace Go.Proofs.Ytceoneigflejeaa
set_option linter.unusedVariables false
def in64 (x : Int) : Prop := -9223372036854775808 ≤ x ∧ x ≤ 9223372036854775807
def txt (l : List UInt8) : ByteArray := ⟨l.toArray⟩
theorem txt_list (l : List UInt8) : (txt l).data.toList = l := rfl
theorem txt_data (s : ByteArray) : txt s.data.toList = s := by cases s; simp [txt]
theorem txt_size (l : List UInt8) : (txt l).size = l.length := by simp [txt, ByteArray.size]
theorem size_eq (s : ByteArray) : s.size = s.data.toList.length := by simp
theorem str_ext {a b : ByteArray} (h : a.data.toList = b.data.toList) : a = b := by
  rw [← txt_data a, ← txt_data b, h]
def be (n : Nat) : Nat → List UInt8
  | 0 => []
  | m + 1 => UInt8.ofNat (n / 256 ^ m % 256) :: be n m
end Go.Proofs.Ytceoneigflejeaa
/- From ValPlain2. -/
namespace Go.Proofs.Ytceoneigflejeaa
open Go.Lib
set_option linter.unusedVariables false
end Go.Proofs.Ytceoneigflejeaa
/- From CodPlain. -/
namespace Go.Proofs.Ytceoneigflejeaa
set_option linter.unusedVariables false
def numL (n : Nat) : List UInt8 := if n < 128 then [UInt8.ofNat n] else UInt8.ofNat (n % 128 + 128) :: numL (n / 128)
termination_by n
decreasing_by omega
theorem numL_small {n : Nat} (h : n < 128) : numL n = [UInt8.ofNat n] := by rw [numL, if_pos h]
theorem numL_big {n : Nat} (h : 128 ≤ n) : numL n = UInt8.ofNat (n % 128 + 128) :: numL (n / 128) := by rw [numL, if_neg (by omega)]
theorem numL_pos (n : Nat) : 0 < (numL n).length := by
  rw [numL]
  split <;> simp
theorem numL_len : ∀ (m n : Nat), n < 128 ^ (m + 1) → (numL n).length ≤ m + 1
  | 0, n, h => by rw [numL_small (by omega)]; simp
  | m + 1, n, h => by
    rw [numL]
    split
    · simp
    · have := numL_len m (n / 128) (by rw [Nat.pow_succ] at h; omega)
      simp only [List.length_cons]
      omega
theorem numL_len64 {n : Nat} (h : n < 18446744073709551616) : (numL n).length ≤ 10 := by
  have e : (128 : Nat) ^ (9 + 1) = 1180591620717411303424 := by decide
  exact numL_len 9 n (by omega)
/-- The number of at most m digits with which l begins; m < 10: one that goes on another one. -/
def unG : Nat → List UInt8 → Option (Nat × List UInt8)
  | 0, _ => none
  | _ + 1, [] => none
  | m + 1, c :: r =>
    if m = 0 ∧ 1 < c.toNat then none
    else if c.toNat < 128 then (if m < 9 ∧ c.toNat = 0 then none else some (c.toNat, r))
    else (unG m r).map fun p => (c.toNat - 128 + 128 * p.1, p.2)
def unL (l : List UInt8) : Option (Nat × List UInt8) := unG 10 l
theorem ofNat_toNat {n : Nat} (h : n < 256) : (UInt8.ofNat n).toNat = n := by
  rw [UInt8.toNat_ofNat']
  omega
theorem toNat_ofNat (c : UInt8) : UInt8.ofNat c.toNat = c := by simp
theorem unG_num : ∀ (m n : Nat) (r : List UInt8), n < 2 * 128 ^ m → (m < 9 → 0 < n) → unG (m + 1) (numL n ++ r) = some (n, r)
  | m, n, r, h, hp => by
    by_cases hs : n < 128
    · rw [numL_small hs, List.singleton_append, unG, ofNat_toNat (by omega)]
      rw [if_neg (by rintro ⟨rfl, h1⟩; simp at h; omega), if_pos hs, if_neg (by rintro ⟨h1, h2⟩; have := hp h1; omega)]
    · match m with
      | 0 => simp at h; omega
      | m + 1 =>
        rw [numL_big (by omega), List.cons_append, unG, ofNat_toNat (by omega), if_neg (by omega), if_neg (by omega)]
        rw [unG_num m (n / 128) r (by rw [Nat.pow_succ] at h; omega) (fun _ => by omega)]
        simp only [Option.map_some, Option.some.injEq, Prod.mk.injEq, and_true]
        omega
theorem unG_only : ∀ (m n : Nat) (l r : List UInt8), m ≤ 9 → unG (m + 1) l = some (n, r) → l = numL n ++ r ∧ n < 2 * 128 ^ m ∧ (m < 9 → 0 < n)
  | m, n, [], r, h9, h => by rw [unG] at h; cases h
  | m, n, c :: l, r, h9, h => by
    have hc := c.toNat_lt
    rw [unG] at h
    split at h
    · cases h
    · rename_i h0
      split at h
      · rename_i h1
        split at h
        · cases h
        · rename_i h2
          simp only [Option.some.injEq, Prod.mk.injEq] at h
          obtain ⟨rfl, rfl⟩ := h
          rw [numL_small h1]
          refine ⟨by simp, ?_, fun h9 => by omega⟩
          match m with
          | 0 => simp; omega
          | m + 1 =>
            rw [Nat.pow_succ]
            have : 0 < 128 ^ m := Nat.pow_pos (by omega)
            omega
      · rename_i h1
        match m with
        | 0 => rw [unG] at h; cases h
        | m + 1 =>
          simp only [Option.map_eq_some_iff, Prod.mk.injEq] at h
          obtain ⟨⟨n', r'⟩, h3, h4, h5⟩ := h
          simp only at h4 h5
          subst h5
          obtain ⟨i1, i2, i3⟩ := unG_only m n' l r' (by omega) h3
          have hn := i3 (by omega)
          have hb : 128 ≤ n := by omega
          refine ⟨?_, ?_, fun _ => by omega⟩
          · rw [numL_big hb, i1, List.cons_append]
            rw [show n / 128 = n' by omega, show n % 128 + 128 = c.toNat by omega, toNat_ofNat]
          · rw [Nat.pow_succ]
            omega
theorem unL_num {n : Nat} (h : n < 18446744073709551616) (r : List UInt8) : unL (numL n ++ r) = some (n, r) :=
  unG_num 9 n r (by have : (128 : Nat) ^ 9 = 9223372036854775808 := by decide
                    omega) (fun h => by omega)
theorem unL_only {n : Nat} {l r : List UInt8} (h : unL l = some (n, r)) : l = numL n ++ r ∧ n < 18446744073709551616 := by
  obtain ⟨h1, h2, _⟩ := unG_only 9 n l r (by omega) h
  have : (128 : Nat) ^ 9 = 9223372036854775808 := by decide
  exact ⟨h1, by omega⟩
/-- What is written, and how it is read. -/
structure Codec {α : Type} (enc : α → List UInt8) (dec : List UInt8 → Option (α × List UInt8)) (ok : α → Prop) : Prop where
  back : ∀ a r, ok a → dec (enc a ++ r) = some (a, r)
  only : ∀ a l r, dec l = some (a, r) → l = enc a ++ r ∧ ok a
  pos : ∀ a, ok a → 0 < (enc a).length
theorem Codec.less {α : Type} {enc : α → List UInt8} {dec : List UInt8 → Option (α × List UInt8)} {ok : α → Prop} (h : Codec enc dec ok) {a : α} {l r : List UInt8} (hd : dec l = some (a, r)) : r.length < l.length := by
  obtain ⟨h1, h2⟩ := h.only a l r hd
  have := h.pos a h2
  rw [h1, List.length_append]
  omega
theorem Codec.suffix {α : Type} {enc : α → List UInt8} {dec : List UInt8 → Option (α × List UInt8)} {ok : α → Prop} (h : Codec enc dec ok) {a : α} {l r : List UInt8} (hd : dec l = some (a, r)) : r = l.drop (l.length - r.length) := by
  obtain ⟨h1, h2⟩ := h.only a l r hd
  rw [h1, List.length_append, Nat.add_sub_cancel, List.drop_left]
theorem num_codec : Codec numL unL (fun n => n < 18446744073709551616) :=
  ⟨fun a r h => unL_num h r, fun a l r h => unL_only h, fun a _ => numL_pos a⟩
def zig (n : Int) : Nat := if n < 0 then (2 * -(n + 1) + 1).toNat else (2 * n).toNat
def unzig (n : Nat) : Int := if n % 2 = 1 then -((n / 2 : Nat) : Int) - 1 else ((n / 2 : Nat) : Int)
theorem unzig_zig (n : Int) : unzig (zig n) = n := by
  unfold zig unzig
  split <;> split <;> omega
theorem zig_unzig (n : Nat) : zig (unzig n) = n := by
  unfold zig unzig
  split <;> split <;> omega
theorem zig_lt {n : Int} (h : in64 n) : zig n < 18446744073709551616 := by
  unfold in64 at h
  unfold zig
  split <;> omega
theorem unzig_in {n : Nat} (h : n < 18446744073709551616) : in64 (unzig n) := by
  unfold in64 unzig
  split <;> omega
def intL (n : Int) : List UInt8 := numL (zig n)
def rInt (l : List UInt8) : Option (Int × List UInt8) := (unL l).map fun p => (unzig p.1, p.2)
theorem int_codec : Codec intL rInt in64 := by
  refine ⟨fun a r h => ?_, fun a l r h => ?_, fun a _ => numL_pos _⟩
  · unfold rInt intL
    rw [unL_num (zig_lt h)]
    simp [unzig_zig]
  · unfold rInt at h
    simp only [Option.map_eq_some_iff, Prod.mk.injEq] at h
    obtain ⟨⟨n, r'⟩, h1, h2, h3⟩ := h
    simp only at h2 h3
    subst h2 h3
    obtain ⟨h4, h5⟩ := unL_only h1
    unfold intL
    rw [zig_unzig]
    exact ⟨h4, unzig_in h5⟩
section
variable {α : Type} {enc : α → List UInt8} {dec : List UInt8 → Option (α × List UInt8)} {ok : α → Prop}
def rMany (dec : List UInt8 → Option (α × List UInt8)) : Nat → List UInt8 → Option (List α × List UInt8)
  | 0, l => some ([], l)
  | n + 1, l => match dec l with
    | none => none
    | some p => (rMany dec n p.2).map fun q => (p.1 :: q.1, q.2)
theorem rMany_zero (l : List UInt8) : rMany dec 0 l = some ([], l) := rfl
theorem rMany_none {n : Nat} {l : List UInt8} (h : dec l = none) : rMany dec (n + 1) l = none := by rw [rMany, h]
theorem rMany_some {n : Nat} {l r : List UInt8} {a : α} (h : dec l = some (a, r)) : rMany dec (n + 1) l = (rMany dec n r).map fun q => (a :: q.1, q.2) := by rw [rMany, h]
theorem rMany_only (hc : Codec enc dec ok) : ∀ (n : Nat) (as : List α) (l r : List UInt8), rMany dec n l = some (as, r) → as.length = n ∧ (∀ a ∈ as, ok a) ∧ l = as.flatMap enc ++ r
  | 0, as, l, r, h => by
    simp only [rMany, Option.some.injEq, Prod.mk.injEq] at h
    obtain ⟨rfl, rfl⟩ := h
    exact ⟨rfl, by simp, rfl⟩
  | n + 1, as, l, r, h => by
    rw [rMany] at h
    split at h
    · cases h
    · rename_i p hp
      simp only [Option.map_eq_some_iff, Prod.mk.injEq] at h
      obtain ⟨⟨as', r'⟩, h1, h2, h3⟩ := h
      simp only at h2 h3
      subst h2 h3
      obtain ⟨i1, i2, i3⟩ := rMany_only hc n as' p.2 r' h1
      obtain ⟨j1, j2⟩ := hc.only p.1 l p.2 hp
      refine ⟨by simp [i1], fun a ha => ?_, ?_⟩
      · rcases List.mem_cons.1 ha with h | h
        · rw [h]; exact j2
        · exact i2 a h
      · rw [List.flatMap_cons, List.append_assoc, ← i3]
        exact j1
theorem flat_pos (hc : Codec enc dec ok) : ∀ (as : List α), (∀ a ∈ as, ok a) → as.length ≤ (as.flatMap enc).length
  | [], _ => by simp
  | a :: as, h => by
    have h1 := flat_pos hc as (fun x hx => h x (by simp [hx]))
    have h2 := hc.pos a (h a (by simp))
    simp only [List.flatMap_cons, List.length_append, List.length_cons]
    omega
theorem rMany_le (hc : Codec enc dec ok) {n : Nat} {as : List α} {l r : List UInt8} (h : rMany dec n l = some (as, r)) : n + r.length ≤ l.length := by
  obtain ⟨h1, h2, h3⟩ := rMany_only hc n as l r h
  have := flat_pos hc as h2
  rw [h3, List.length_append]
  omega
/-- A list, and reading one. -/
def listL (enc : α → List UInt8) (as : List α) : List UInt8 := numL as.length ++ as.flatMap enc
def rList (dec : List UInt8 → Option (α × List UInt8)) (most : Nat) (l : List UInt8) : Option (List α × List UInt8) :=
  match unL l with
  | none => none
  | some p => if p.1 ≤ most then rMany dec p.1 p.2 else none
theorem rList_none {most : Nat} {l : List UInt8} (h : unL l = none) : rList dec most l = none := by unfold rList; rw [h]
theorem rList_some {most n : Nat} {l r : List UInt8} (h : unL l = some (n, r)) (hn : n ≤ most) : rList dec most l = rMany dec n r := by unfold rList; rw [h]; simp [hn]
theorem rList_many {most n : Nat} {l r : List UInt8} (h : unL l = some (n, r)) (hn : most < n) : rList dec most l = none := by unfold rList; rw [h]; simp; omega
/-- The list of which l are the bytes, to its end. -/
def whole (dec : List UInt8 → Option (α × List UInt8)) (l : List UInt8) : Option (List α) :=
  match rList dec 16777216 l with
  | some (as, []) => some as
  | _ => none
theorem whole_none {l : List UInt8} (h : rList dec 16777216 l = none) : whole dec l = none := by unfold whole; rw [h]
theorem whole_some {l : List UInt8} {as : List α} (h : rList dec 16777216 l = some (as, [])) : whole dec l = some as := by unfold whole; rw [h]
theorem whole_rest {l r : List UInt8} {as : List α} (h : rList dec 16777216 l = some (as, r)) (hr : 0 < r.length) : whole dec l = none := by
  unfold whole
  rw [h]
  cases r with
  | nil => simp at hr
  | cons c r => rfl
end
end Go.Proofs.Ytceoneigflejeaa
