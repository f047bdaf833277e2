/- Numbers, texts and lists as bytes, and reading them: plain words, no program is named here. -/
import Derived.Test.YtkpajmgbiepmbaaValPlain2
namespace Go.Proofs.Ytkpajmgbiepmbaa
set_option linter.unusedVariables false

/- numbers -/
def numL (n : Nat) : List UInt8 := if n < 128 then [UInt8.ofNat n] else UInt8.ofNat (n % 128 + 128) :: numL (n / 128)
termination_by n
decreasing_by omega
theorem numL_small {n : Nat} (h : n < 128) : numL n = [UInt8.ofNat n] := by rw [numL, if_pos h]
theorem numL_big {n : Nat} (h : 128 ≤ n) : numL n = UInt8.ofNat (n % 128 + 128) :: numL (n / 128) := by rw [numL, if_neg (by omega)]
theorem numL_pos (n : Nat) : 0 < (numL n).length := by
  rw [numL]
  split <;> simp
theorem numL_len : ∀ (m n : Nat), n < 128 ^ (m + 1) → (numL n).length ≤ m + 1
  | 0, n, h => by rw [numL_small (by omega)]; simp
  | m + 1, n, h => by
    rw [numL]
    split
    · simp
    · have := numL_len m (n / 128) (by rw [Nat.pow_succ] at h; omega)
      simp only [List.length_cons]
      omega
theorem numL_len64 {n : Nat} (h : n < 18446744073709551616) : (numL n).length ≤ 10 := by
  have e : (128 : Nat) ^ (9 + 1) = 1180591620717411303424 := by decide
  exact numL_len 9 n (by omega)

/-- The number of at most m digits with which l begins; m < 10: one that goes on another one. -/
def unG : Nat → List UInt8 → Option (Nat × List UInt8)
  | 0, _ => none
  | _ + 1, [] => none
  | m + 1, c :: r =>
    if m = 0 ∧ 1 < c.toNat then none
    else if c.toNat < 128 then (if m < 9 ∧ c.toNat = 0 then none else some (c.toNat, r))
    else (unG m r).map fun p => (c.toNat - 128 + 128 * p.1, p.2)
def unL (l : List UInt8) : Option (Nat × List UInt8) := unG 10 l

theorem ofNat_toNat {n : Nat} (h : n < 256) : (UInt8.ofNat n).toNat = n := by
  rw [UInt8.toNat_ofNat']
  omega
theorem toNat_ofNat (c : UInt8) : UInt8.ofNat c.toNat = c := by simp

theorem unG_num : ∀ (m n : Nat) (r : List UInt8), n < 2 * 128 ^ m → (m < 9 → 0 < n) → unG (m + 1) (numL n ++ r) = some (n, r)
  | m, n, r, h, hp => by
    by_cases hs : n < 128
    · rw [numL_small hs, List.singleton_append, unG, ofNat_toNat (by omega)]
      rw [if_neg (by rintro ⟨rfl, h1⟩; simp at h; omega), if_pos hs, if_neg (by rintro ⟨h1, h2⟩; have := hp h1; omega)]
    · match m with
      | 0 => simp at h; omega
      | m + 1 =>
        rw [numL_big (by omega), List.cons_append, unG, ofNat_toNat (by omega), if_neg (by omega), if_neg (by omega)]
        rw [unG_num m (n / 128) r (by rw [Nat.pow_succ] at h; omega) (fun _ => by omega)]
        simp only [Option.map_some, Option.some.injEq, Prod.mk.injEq, and_true]
        omega
theorem unG_only : ∀ (m n : Nat) (l r : List UInt8), m ≤ 9 → unG (m + 1) l = some (n, r) → l = numL n ++ r ∧ n < 2 * 128 ^ m ∧ (m < 9 → 0 < n)
  | m, n, [], r, h9, h => by rw [unG] at h; cases h
  | m, n, c :: l, r, h9, h => by
    have hc := c.toNat_lt
    rw [unG] at h
    split at h
    · cases h
    · rename_i h0
      split at h
      · rename_i h1
        split at h
        · cases h
        · rename_i h2
          simp only [Option.some.injEq, Prod.mk.injEq] at h
          obtain ⟨rfl, rfl⟩ := h
          rw [numL_small h1]
          refine ⟨by simp, ?_, fun h9 => by omega⟩
          match m with
          | 0 => simp; omega
          | m + 1 =>
            rw [Nat.pow_succ]
            have : 0 < 128 ^ m := Nat.pow_pos (by omega)
            omega
      · rename_i h1
        match m with
        | 0 => rw [unG] at h; cases h
        | m + 1 =>
          simp only [Option.map_eq_some_iff, Prod.mk.injEq] at h
          obtain ⟨⟨n', r'⟩, h3, h4, h5⟩ := h
          simp only at h4 h5
          subst h5
          obtain ⟨i1, i2, i3⟩ := unG_only m n' l r' (by omega) h3
          have hn := i3 (by omega)
          have hb : 128 ≤ n := by omega
          refine ⟨?_, ?_, fun _ => by omega⟩
          · rw [numL_big hb, i1, List.cons_append]
            rw [show n / 128 = n' by omega, show n % 128 + 128 = c.toNat by omega, toNat_ofNat]
          · rw [Nat.pow_succ]
            omega

theorem unL_num {n : Nat} (h : n < 18446744073709551616) (r : List UInt8) : unL (numL n ++ r) = some (n, r) :=
  unG_num 9 n r (by have : (128 : Nat) ^ 9 = 9223372036854775808 := by decide
                    omega) (fun h => by omega)
theorem unL_only {n : Nat} {l r : List UInt8} (h : unL l = some (n, r)) : l = numL n ++ r ∧ n < 18446744073709551616 := by
  obtain ⟨h1, h2, _⟩ := unG_only 9 n l r (by omega) h
  have : (128 : Nat) ^ 9 = 9223372036854775808 := by decide
  exact ⟨h1, by omega⟩

/-- What is written, and how it is read. -/
structure Codec {α : Type} (enc : α → List UInt8) (dec : List UInt8 → Option (α × List UInt8)) (ok : α → Prop) : Prop where
  back : ∀ a r, ok a → dec (enc a ++ r) = some (a, r)
  only : ∀ a l r, dec l = some (a, r) → l = enc a ++ r ∧ ok a
  pos : ∀ a, ok a → 0 < (enc a).length
theorem Codec.less {α : Type} {enc : α → List UInt8} {dec : List UInt8 → Option (α × List UInt8)} {ok : α → Prop} (h : Codec enc dec ok) {a : α} {l r : List UInt8} (hd : dec l = some (a, r)) : r.length < l.length := by
  obtain ⟨h1, h2⟩ := h.only a l r hd
  have := h.pos a h2
  rw [h1, List.length_append]
  omega
theorem Codec.suffix {α : Type} {enc : α → List UInt8} {dec : List UInt8 → Option (α × List UInt8)} {ok : α → Prop} (h : Codec enc dec ok) {a : α} {l r : List UInt8} (hd : dec l = some (a, r)) : r = l.drop (l.length - r.length) := by
  obtain ⟨h1, h2⟩ := h.only a l r hd
  rw [h1, List.length_append, Nat.add_sub_cancel, List.drop_left]

theorem num_codec : Codec numL unL (fun n => n < 18446744073709551616) :=
  ⟨fun a r h => unL_num h r, fun a l r h => unL_only h, fun a _ => numL_pos a⟩

/- ints -/
def zig (n : Int) : Nat := if n < 0 then (2 * -(n + 1) + 1).toNat else (2 * n).toNat
def unzig (n : Nat) : Int := if n % 2 = 1 then -((n / 2 : Nat) : Int) - 1 else ((n / 2 : Nat) : Int)
theorem unzig_zig (n : Int) : unzig (zig n) = n := by
  unfold zig unzig
  split <;> split <;> omega
theorem zig_unzig (n : Nat) : zig (unzig n) = n := by
  unfold zig unzig
  split <;> split <;> omega
theorem zig_lt {n : Int} (h : in64 n) : zig n < 18446744073709551616 := by
  unfold in64 at h
  unfold zig
  split <;> omega
theorem unzig_in {n : Nat} (h : n < 18446744073709551616) : in64 (unzig n) := by
  unfold in64 unzig
  split <;> omega
def intL (n : Int) : List UInt8 := numL (zig n)
def rInt (l : List UInt8) : Option (Int × List UInt8) := (unL l).map fun p => (unzig p.1, p.2)
theorem int_codec : Codec intL rInt in64 := by
  refine ⟨fun a r h => ?_, fun a l r h => ?_, fun a _ => numL_pos _⟩
  · unfold rInt intL
    rw [unL_num (zig_lt h)]
    simp [unzig_zig]
  · unfold rInt at h
    simp only [Option.map_eq_some_iff, Prod.mk.injEq] at h
    obtain ⟨⟨n, r'⟩, h1, h2, h3⟩ := h
    simp only at h2 h3
    subst h2 h3
    obtain ⟨h4, h5⟩ := unL_only h1
    unfold intL
    rw [zig_unzig]
    exact ⟨h4, unzig_in h5⟩

/- texts -/
def wordL (s : ByteArray) : List UInt8 := numL s.size ++ s.data.toList
def takeL (n : Nat) (l : List UInt8) : Option (ByteArray × List UInt8) := if n ≤ l.length then some (txt (l.take n), l.drop n) else none
def rWord (l : List UInt8) : Option (ByteArray × List UInt8) :=
  match unL l with
  | none => none
  | some p => takeL p.1 p.2
theorem rWord_none {l : List UInt8} (h : unL l = none) : rWord l = none := by unfold rWord; rw [h]
theorem rWord_some {l r : List UInt8} {n : Nat} (h : unL l = some (n, r)) : rWord l = takeL n r := by unfold rWord; rw [h]
theorem word_codec : Codec wordL rWord (fun s => s.size < 18446744073709551616) := by
  refine ⟨fun a r h => ?_, fun a l r h => ?_, fun a _ => ?_⟩
  · unfold wordL
    rw [List.append_assoc, rWord_some (unL_num h _)]
    have := size_eq a
    unfold takeL
    rw [if_pos (by rw [List.length_append]; omega), this, List.take_left, List.drop_left, txt_data]
  · unfold rWord at h
    split at h
    · cases h
    · rename_i p hp
      unfold takeL at h
      split at h
      · rename_i hle
        simp only [Option.some.injEq, Prod.mk.injEq] at h
        obtain ⟨rfl, rfl⟩ := h
        obtain ⟨n, r⟩ := p
        obtain ⟨h4, h5⟩ := unL_only hp
        simp only at hle ⊢
        have hs : (txt (r.take n)).size = n := by rw [txt_size, List.length_take]; omega
        unfold wordL
        rw [hs, txt_list, List.append_assoc, List.take_append_drop]
        exact ⟨h4, h5⟩
      · cases h
  · unfold wordL
    have := numL_pos a.size
    rw [List.length_append]
    omega

/- many, one behind the other -/
section
variable {α : Type} {enc : α → List UInt8} {dec : List UInt8 → Option (α × List UInt8)} {ok : α → Prop}
def rMany (dec : List UInt8 → Option (α × List UInt8)) : Nat → List UInt8 → Option (List α × List UInt8)
  | 0, l => some ([], l)
  | n + 1, l => match dec l with
    | none => none
    | some p => (rMany dec n p.2).map fun q => (p.1 :: q.1, q.2)
theorem rMany_zero (l : List UInt8) : rMany dec 0 l = some ([], l) := rfl
theorem rMany_none {n : Nat} {l : List UInt8} (h : dec l = none) : rMany dec (n + 1) l = none := by rw [rMany, h]
theorem rMany_some {n : Nat} {l r : List UInt8} {a : α} (h : dec l = some (a, r)) : rMany dec (n + 1) l = (rMany dec n r).map fun q => (a :: q.1, q.2) := by rw [rMany, h]
theorem rMany_back (hc : Codec enc dec ok) : ∀ (as : List α) (r : List UInt8), (∀ a ∈ as, ok a) → rMany dec as.length (as.flatMap enc ++ r) = some (as, r)
  | [], r, _ => rfl
  | a :: as, r, h => by
    rw [List.length_cons, List.flatMap_cons, List.append_assoc, rMany_some (hc.back a _ (h a (by simp))), rMany_back hc as r (fun x hx => h x (by simp [hx]))]
    rfl
theorem rMany_only (hc : Codec enc dec ok) : ∀ (n : Nat) (as : List α) (l r : List UInt8), rMany dec n l = some (as, r) → as.length = n ∧ (∀ a ∈ as, ok a) ∧ l = as.flatMap enc ++ r
  | 0, as, l, r, h => by
    simp only [rMany, Option.some.injEq, Prod.mk.injEq] at h
    obtain ⟨rfl, rfl⟩ := h
    exact ⟨rfl, by simp, rfl⟩
  | n + 1, as, l, r, h => by
    rw [rMany] at h
    split at h
    · cases h
    · rename_i p hp
      simp only [Option.map_eq_some_iff, Prod.mk.injEq] at h
      obtain ⟨⟨as', r'⟩, h1, h2, h3⟩ := h
      simp only at h2 h3
      subst h2 h3
      obtain ⟨i1, i2, i3⟩ := rMany_only hc n as' p.2 r' h1
      obtain ⟨j1, j2⟩ := hc.only p.1 l p.2 hp
      refine ⟨by simp [i1], fun a ha => ?_, ?_⟩
      · rcases List.mem_cons.1 ha with h | h
        · rw [h]; exact j2
        · exact i2 a h
      · rw [List.flatMap_cons, List.append_assoc, ← i3]
        exact j1
theorem flat_pos (hc : Codec enc dec ok) : ∀ (as : List α), (∀ a ∈ as, ok a) → as.length ≤ (as.flatMap enc).length
  | [], _ => by simp
  | a :: as, h => by
    have h1 := flat_pos hc as (fun x hx => h x (by simp [hx]))
    have h2 := hc.pos a (h a (by simp))
    simp only [List.flatMap_cons, List.length_append, List.length_cons]
    omega
theorem rMany_le (hc : Codec enc dec ok) {n : Nat} {as : List α} {l r : List UInt8} (h : rMany dec n l = some (as, r)) : n + r.length ≤ l.length := by
  obtain ⟨h1, h2, h3⟩ := rMany_only hc n as l r h
  have := flat_pos hc as h2
  rw [h3, List.length_append]
  omega
theorem rMany_snoc : ∀ (n : Nat) (l r : List UInt8) (as : List α), rMany dec n l = some (as, r) → ∀ m, rMany dec (n + m) l = (rMany dec m r).map fun q => (as ++ q.1, q.2)
  | 0, l, r, as, h, m => by
    simp only [rMany, Option.some.injEq, Prod.mk.injEq] at h
    obtain ⟨rfl, rfl⟩ := h
    rw [Nat.zero_add]
    cases rMany dec m l <;> simp
  | n + 1, l, r, as, h, m => by
    rw [rMany] at h
    split at h
    · cases h
    · rename_i p hp
      simp only [Option.map_eq_some_iff, Prod.mk.injEq] at h
      obtain ⟨⟨as', r'⟩, h1, h2, h3⟩ := h
      simp only at h2 h3
      subst h2 h3
      rw [show n + 1 + m = (n + m) + 1 by omega, rMany_some hp, rMany_snoc n p.2 r' as' h1 m]
      cases rMany dec m r' <;> simp

/-- A list, and reading one. -/
def listL (enc : α → List UInt8) (as : List α) : List UInt8 := numL as.length ++ as.flatMap enc
def rList (dec : List UInt8 → Option (α × List UInt8)) (most : Nat) (l : List UInt8) : Option (List α × List UInt8) :=
  match unL l with
  | none => none
  | some p => if p.1 ≤ most then rMany dec p.1 p.2 else none
theorem rList_none {most : Nat} {l : List UInt8} (h : unL l = none) : rList dec most l = none := by unfold rList; rw [h]
theorem rList_some {most n : Nat} {l r : List UInt8} (h : unL l = some (n, r)) (hn : n ≤ most) : rList dec most l = rMany dec n r := by unfold rList; rw [h]; simp [hn]
theorem rList_many {most n : Nat} {l r : List UInt8} (h : unL l = some (n, r)) (hn : most < n) : rList dec most l = none := by unfold rList; rw [h]; simp; omega
theorem list_codec (hc : Codec enc dec ok) (most : Nat) (hm : most < 18446744073709551616) : Codec (listL enc) (rList dec most) (fun as => as.length ≤ most ∧ ∀ a ∈ as, ok a) := by
  refine ⟨fun a r h => ?_, fun a l r h => ?_, fun a _ => ?_⟩
  · unfold listL
    rw [List.append_assoc, rList_some (unL_num (by omega) _) h.1, rMany_back hc a r h.2]
  · unfold rList at h
    split at h
    · cases h
    · rename_i p hp
      split at h
      · rename_i hle
        obtain ⟨i1, i2, i3⟩ := rMany_only hc _ _ _ _ h
        obtain ⟨n, r'⟩ := p
        obtain ⟨h4, h5⟩ := unL_only hp
        unfold listL
        simp only at i1 i3 hle
        rw [List.append_assoc, ← i3, i1]
        exact ⟨h4, by omega, i2⟩
      · cases h
  · unfold listL
    have := numL_pos a.length
    rw [List.length_append]
    omega

/-- The list of which l are the bytes, to its end. -/
def whole (dec : List UInt8 → Option (α × List UInt8)) (l : List UInt8) : Option (List α) :=
  match rList dec 16777216 l with
  | some (as, []) => some as
  | _ => none
theorem whole_none {l : List UInt8} (h : rList dec 16777216 l = none) : whole dec l = none := by unfold whole; rw [h]
theorem whole_some {l : List UInt8} {as : List α} (h : rList dec 16777216 l = some (as, [])) : whole dec l = some as := by unfold whole; rw [h]
theorem whole_rest {l r : List UInt8} {as : List α} (h : rList dec 16777216 l = some (as, r)) (hr : 0 < r.length) : whole dec l = none := by
  unfold whole
  rw [h]
  cases r with
  | nil => simp at hr
  | cons c r => rfl
theorem whole_back (hc : Codec enc dec ok) {as : List α} (hn : as.length ≤ 16777216) (h : ∀ a ∈ as, ok a) : whole dec (listL enc as) = some as := by
  have := (list_codec hc 16777216 (by decide)).back as [] ⟨hn, h⟩
  rw [List.append_nil] at this
  exact whole_some this
theorem whole_only (hc : Codec enc dec ok) {as : List α} {l : List UInt8} (h : whole dec l = some as) : l = listL enc as ∧ as.length ≤ 16777216 ∧ ∀ a ∈ as, ok a := by
  unfold whole at h
  split at h
  · rename_i as' he
    injection h with h
    subst h
    obtain ⟨h1, h2⟩ := (list_codec hc 16777216 (by decide)).only _ _ _ he
    rw [List.append_nil] at h1
    exact ⟨h1, h2⟩
  · cases h
end

/- values -/
def valL (v : V) : List UInt8 :=
  UInt8.ofNat v.k.toNat :: (if v.k = 1 then intL v.n else if v.k = 2 then [UInt8.ofNat v.n.toNat] else if v.k = 3 then wordL v.s else [])
def rVal : List UInt8 → Option (V × List UInt8)
  | [] => none
  | c :: r =>
    if c.toNat = 1 then (rInt r).map fun p => (⟨1, p.1, mt⟩, p.2)
    else if c.toNat = 2 then (match r with
      | [] => none
      | d :: r => if d.toNat ≤ 1 then some (⟨2, (d.toNat : Int), mt⟩, r) else none)
    else if c.toNat = 3 then (match rWord r with
      | none => none
      | some p => if p.1.size ≤ 200 then some (⟨3, 0, p.1⟩, p.2) else none)
    else if c.toNat = 0 then some (⟨0, 0, mt⟩, r) else none
def okV (v : V) : Prop := chk v = 0 ∧ v.wf
theorem val_codec : Codec valL rVal okV := by
  refine ⟨fun v r h => ?_, fun v l r h => ?_, fun a _ => by simp [valL]⟩
  · obtain ⟨k, n, s⟩ := v
    obtain ⟨hc, hk, hn, hs⟩ := h
    rcases chk_kinds hc with ⟨h1, h2, h3⟩ | ⟨h1, h3⟩ | ⟨h1, h2, h3⟩ | ⟨h1, h2, h3⟩
    · simp only at h1 h2 h3
      subst h1 h2
      rw [empty_of_size h3]
      simp [valL, rVal, mt]
    · simp only at h1 h3
      subst h1
      rw [empty_of_size h3]
      have := int_codec.back n r hn
      simp [valL, rVal, mt, this]
    · simp only at h1 h2 h3
      subst h1
      rw [empty_of_size h3]
      rcases h2 with rfl | rfl <;> simp [valL, rVal, mt]
    · simp only at h1 h2 h3
      subst h1 h2
      have := word_codec.back s r (by omega)
      simp [valL, rVal, this, h3]
  · match l with
    | [] => cases h
    | c :: t =>
      have hc8 := c.toNat_lt
      unfold rVal at h
      dsimp only at h
      split at h
      · rename_i h1
        simp only [Option.map_eq_some_iff, Prod.mk.injEq] at h
        obtain ⟨⟨n, r'⟩, h2, h3, h4⟩ := h
        simp only at h3 h4
        subst h3 h4
        obtain ⟨h5, h6⟩ := int_codec.only _ _ _ h2
        refine ⟨?_, by simp [chk, mt_size], by simp [in64], h6, by simp [mt_size]⟩
        have : UInt8.ofNat (1 : Int).toNat = c := by rw [show (1 : Int).toNat = c.toNat by omega, toNat_ofNat]
        simp [valL, ← h5, ← this]
      · split at h
        · rename_i h0 h1
          match t with
          | [] => cases h
          | d :: t =>
            have hd8 := d.toNat_lt
            simp only at h
            split at h
            · rename_i hd
              simp only [Option.some.injEq, Prod.mk.injEq] at h
              obtain ⟨rfl, rfl⟩ := h
              refine ⟨?_, ?_, by simp [in64], ?_, by simp [mt_size]⟩
              · have e1 : UInt8.ofNat (2 : Int).toNat = c := by rw [show (2 : Int).toNat = c.toNat by omega, toNat_ofNat]
                simp [valL, ← e1]
              · simp [chk, mt_size]; omega
              · simp only [in64]; omega
            · cases h
        · split at h
          · rename_i h0 h00 h1
            split at h
            · cases h
            · rename_i p hp
              split at h
              · rename_i hs
                simp only [Option.some.injEq, Prod.mk.injEq] at h
                obtain ⟨rfl, rfl⟩ := h
                obtain ⟨h5, h6⟩ := word_codec.only p.1 _ p.2 hp
                refine ⟨?_, ?_, by simp [in64], by simp [in64], ?_⟩
                · have e1 : UInt8.ofNat (3 : Int).toNat = c := by rw [show (3 : Int).toNat = c.toNat by omega, toNat_ofNat]
                  simp [valL, ← e1, ← h5]
                · simp [chk]; omega
                · simp only; omega
              · cases h
          · split at h
            · rename_i h0 h00 h000 h1
              simp only [Option.some.injEq, Prod.mk.injEq] at h
              obtain ⟨rfl, rfl⟩ := h
              refine ⟨?_, by simp [chk, mt_size], by simp [in64], by simp [in64], by simp [mt_size]⟩
              have e1 : UInt8.ofNat (0 : Int).toNat = c := by rw [show (0 : Int).toNat = c.toNat by omega, toNat_ofNat]
              simp [valL, ← e1]
            · cases h

/- rows, columns, pairs -/
def rRow (l : List UInt8) : Option (List V × List UInt8) := rList rVal 12 l
def rowL (l : List V) : List UInt8 := listL valL l
def okR (l : List V) : Prop := l.length ≤ 12 ∧ ∀ v ∈ l, okV v
theorem row_codec : Codec rowL rRow okR := list_codec val_codec 12 (by decide)
structure Co where
  s : ByteArray
  k : Int
structure Pa where
  s : ByteArray
  t : ByteArray
def colL (c : Co) : List UInt8 := wordL c.s ++ [UInt8.ofNat c.k.toNat]
def rCol (l : List UInt8) : Option (Co × List UInt8) :=
  match rWord l with
  | none => none
  | some (s, []) => none
  | some (s, c :: r) => some (⟨s, (c.toNat : Int)⟩, r)
def okC (c : Co) : Prop := c.s.size < 18446744073709551616 ∧ 0 ≤ c.k ∧ c.k ≤ 255
theorem col_codec : Codec colL rCol okC := by
  refine ⟨fun a r h => ?_, fun a l r h => ?_, fun a _ => by simp [colL]⟩
  · obtain ⟨s, k⟩ := a
    obtain ⟨h1, h2, h3⟩ := h
    simp only at h1 h2 h3
    unfold colL rCol
    rw [List.append_assoc, word_codec.back _ _ h1]
    simp only [List.singleton_append, Option.some.injEq, Prod.mk.injEq, Co.mk.injEq, and_true, true_and]
    rw [ofNat_toNat (by omega)]
    omega
  · unfold rCol at h
    split at h
    · cases h
    · cases h
    · rename_i s c t hp
      simp only [Option.some.injEq, Prod.mk.injEq] at h
      obtain ⟨rfl, rfl⟩ := h
      obtain ⟨h5, h6⟩ := word_codec.only _ _ _ hp
      have := c.toNat_lt
      refine ⟨?_, h6, by simp only; omega, by simp only; omega⟩
      rw [h5]
      simp [colL]
def pairL (p : Pa) : List UInt8 := wordL p.s ++ wordL p.t
def rPair (l : List UInt8) : Option (Pa × List UInt8) :=
  match rWord l with
  | none => none
  | some p => (rWord p.2).map fun q => (⟨p.1, q.1⟩, q.2)
def okP (p : Pa) : Prop := p.s.size < 18446744073709551616 ∧ p.t.size < 18446744073709551616
theorem pair_codec : Codec pairL rPair okP := by
  refine ⟨fun a r h => ?_, fun a l r h => ?_, fun a h => ?_⟩
  · obtain ⟨s, t⟩ := a
    obtain ⟨h1, h2⟩ := h
    unfold pairL rPair
    rw [List.append_assoc, word_codec.back _ _ h1]
    simp only
    rw [word_codec.back _ _ h2]
    rfl
  · unfold rPair at h
    split at h
    · cases h
    · rename_i p hp
      simp only [Option.map_eq_some_iff, Prod.mk.injEq] at h
      obtain ⟨q, h1, h2, h3⟩ := h
      subst h2 h3
      obtain ⟨h5, h6⟩ := word_codec.only p.1 _ p.2 hp
      obtain ⟨h7, h8⟩ := word_codec.only q.1 _ q.2 h1
      refine ⟨?_, h6, h8⟩
      rw [h5, h7]
      simp [pairL]
  · have := word_codec.pos a.s h.1
    unfold pairL
    rw [List.length_append]
    omega
end Go.Proofs.Ytkpajmgbiepmbaa
