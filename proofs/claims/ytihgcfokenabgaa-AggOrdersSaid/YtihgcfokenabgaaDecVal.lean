/- What a seat needs of several texts. -/
import Derived.Test.YtihgcfokenabgaaMem
import Derived.Test.YtihgcfokenabgaaOpen
import Derived.Lib.Bytealg
import Derived.Lib.Small
import Derived.Lib.Replace
import Derived.Lib.UnsafeStr
import Derived.Test.YtihgcfokenabgaaRows
import Derived.Test.YtihgcfokenabgaaScope
import Derived.WalkKit
import Derived.WalkLawsBesides
import Derived.WalkSpells
import Derived.ProofKit
import Derived.Below
import Derived.Outline
import Derived.Lib.Hide
import Derived.BigQuiet
import Derived.Deep.QuietTactic
import Derived.Deep.RegionWith
import Derived.Deep.RegionHeld3
import Derived.LoopTactic
import Derived.Lib.BufferMore
import Derived.Deep.AppendLies
import Derived.Deep.Slices
import Derived.Deep.Fields
import Derived.ChangeSame
import Derived.Lib.SmallJoins
/- From DecVal. -/
namespace Go.Proofs.Ytihgcfokenabgaa
set_option linter.unusedVariables false
/-- A value: its kind, its number, its text. -/
structure V where
  k : Int
  n : Int
  s : ByteArray
def V.wf (v : V) : Prop := in64 v.k ∧ in64 v.n ∧ v.s.size ≤ 9223372036854775807
def chk (v : V) : Int :=
  if v.k < 0 ∨ 3 < v.k then 30
  else if v.k = 3 then (if v.n ≠ 0 ∨ 200 < v.s.size then 31 else 0)
  else if v.s.size ≠ 0 ∨ (v.k = 0 ∧ v.n ≠ 0) ∨ (v.k = 2 ∧ v.n ≠ 0 ∧ v.n ≠ 1) then 31 else 0
theorem chk_kinds {v : V} (h : chk v = 0) : (v.k = 0 ∧ v.n = 0 ∧ v.s.size = 0) ∨ (v.k = 1 ∧ v.s.size = 0) ∨ (v.k = 2 ∧ (v.n = 0 ∨ v.n = 1) ∧ v.s.size = 0) ∨ (v.k = 3 ∧ v.n = 0 ∧ v.s.size ≤ 200) := by
  unfold chk at h
  split at h
  · omega
  · split at h
    · split at h <;> omega
    · split at h <;> omega
theorem empty_of_size {s : ByteArray} (h : s.size = 0) : s = ⟨#[]⟩ := by
  apply str_ext
  rw [size_eq] at h
  exact List.eq_nil_of_length_eq_zero h
end Go.Proofs.Ytihgcfokenabgaa
namespace Go.Proofs.Ytihgcfokenabgaa
open Go.Lib
set_option linter.unusedVariables false
def cmpV (a b : V) : Int :=
  if compareInt a.k b.k ≠ 0 then compareInt a.k b.k
  else if compareInt a.n b.n ≠ 0 then compareInt a.n b.n
  else compareBytes a.s.data.toList b.s.data.toList
def cmpR : List V → List V → Int
  | [], [] => 0
  | [], _ :: _ => -1
  | _ :: _, [] => 1
  | a :: a_s, b :: bs => if cmpV a b ≠ 0 then cmpV a b else cmpR a_s bs
theorem compareInt_zero {a b : Int} : compareInt a b = 0 ↔ a = b := by
  unfold compareInt
  split
  · constructor <;> intro h <;> omega
  · split
    · constructor <;> intro h <;> omega
    · constructor <;> intro h <;> omega
theorem compareBytes_self (a : List UInt8) : compareBytes a a = 0 := by
  induction a with
  | nil => rfl
  | cons c a ih => rw [compareBytes, if_neg (UInt8.lt_irrefl c), if_neg (UInt8.lt_irrefl c), ih]
theorem compareBytes_zero : ∀ {a b : List UInt8}, compareBytes a b = 0 → a = b
  | [], [], _ => rfl
  | [], _ :: _, h => by simp [compareBytes] at h
  | _ :: _, [], h => by simp [compareBytes] at h
  | c :: a, d :: b, h => by
    rw [compareBytes] at h
    split at h
    · omega
    · split at h
      · omega
      · rename_i h1 h2
        have : c = d := by
          rw [UInt8.lt_iff_toNat_lt] at h1 h2
          exact UInt8.toNat_inj.1 (by omega)
        rw [this, compareBytes_zero h]
theorem cmpV_zero {a b : V} : cmpV a b = 0 ↔ a = b := by
  constructor
  · intro h
    unfold cmpV at h
    split at h
    · contradiction
    · split at h
      · contradiction
      · rename_i h1 h2
        obtain ⟨_, _, _⟩ := a
        obtain ⟨_, _, _⟩ := b
        rw [V.mk.injEq]
        exact ⟨compareInt_zero.1 (by simpa using h1), compareInt_zero.1 (by simpa using h2), str_ext (compareBytes_zero h)⟩
  · rintro rfl
    unfold cmpV
    rw [if_neg (by simp [compareInt_zero]), if_neg (by simp [compareInt_zero]), compareBytes_self]
theorem cmpR_zero : ∀ {a b : List V}, cmpR a b = 0 ↔ a = b
  | [], [] => by simp [cmpR]
  | [], _ :: _ => by simp [cmpR]
  | _ :: _, [] => by simp [cmpR]
  | v :: a, u :: b => by
    rw [cmpR]
    split
    · rename_i h
      constructor
      · intro h'; contradiction
      · intro h'
        rw [List.cons.injEq] at h'
        exact absurd (cmpV_zero.2 h'.1) h
    · rename_i h
      rw [cmpR_zero, List.cons.injEq]
      have := cmpV_zero.1 (by simpa using h : cmpV v u = 0)
      simp [this]
end Go.Proofs.Ytihgcfokenabgaa
namespace Go.Proofs.Ytihgcfokenabgaa
open Go.ChangeShapes Go.WideShapes Go.ChangeAt Go.RowKit
set_option linter.unusedVariables false
def V.val (v : V) : Value := .agg #[.int .i64 v.k, .int .i64 v.n, .string v.s]
theorem isEmpty_size (s : ByteArray) : s.toList.isEmpty = decide (s.size = 0) := by
  rw [Lib.toList_data, size_eq]
  cases s.data.toList <;> simp
theorem toList_nil (s : ByteArray) : (s.toList = []) = (s.size = 0) := by
  rw [Lib.toList_data, size_eq]
  cases s.data.toList <;> simp
theorem check_any (v : V) (hw : v.wf) (w : World) :
    Calls Try.prog 27 #[v.val] w fun e w' => e = .returned (.int .i64 (chk v)) ∧ Below w.heap.size w w' := by
  obtain ⟨k, n, s⟩ := v
  obtain ⟨wk, wn, ws⟩ := hw
  simp only [in64] at wk wn ws
  unfold V.val
  dsimp only
  go_enter Try.func27, Try.ntmps27
  go_wp2
  refine wp_scope_land 2 ?_
  go_wp2
  all_goals (try (refine wp_goto ?_; refine land_goto rfl ?_; go_wp2))
  all_goals (try (refine wp_goto ?_; refine land_goto rfl ?_; go_wp2))
  all_goals (try (go_step3; go_wp2))
  all_goals (try rw [land_ret])
  all_goals go_ret
  all_goals refine ⟨ret_int ?_, (Below.refl _ _).alloc (Nat.le_refl _) _⟩
  all_goals try simp only [isEmpty_size, decide_eq_true_eq, decide_eq_false_iff_not, beq_iff_eq, beq_eq_false_iff_ne, bne_iff_ne, ne_eq, bne_eq_false_iff_eq] at *
  all_goals (unfold chk; dsimp only; repeat' split)
  all_goals first | rfl | (exfalso; omega)
theorem rcheck_any (v : V) (hw : v.wf) (w : World) :
    Calls Try.prog 17 #[v.val] w fun e w' => e = .returned (.int .i64 (chk v)) ∧ Below w.heap.size w w' := by
  obtain ⟨k, n, s⟩ := v
  obtain ⟨wk, wn, ws⟩ := hw
  simp only [in64] at wk wn ws
  unfold V.val
  dsimp only
  go_enter Try.func17, Try.ntmps17
  go_wp2
  all_goals go_ret
  all_goals refine ⟨ret_int ?_, (Below.refl _ _).alloc (Nat.le_refl _) _⟩
  all_goals try simp only [toList_nil, beq_iff_eq, beq_eq_false_iff_ne, bne_iff_ne, ne_eq, bne_eq_false_iff_eq] at *
  all_goals (unfold chk; dsimp only; repeat' split)
  all_goals first | rfl | (exfalso; omega)
/-- The values l lie side by side from A on, below block B. -/
def Row3 (w : World) (B : Nat) (A : Option Addr) (l : List V) : Prop :=
  ∀ (j : Nat) (h : j < l.length), ∃ b off, A = some ⟨b, off, none⟩ ∧ b < B ∧ w.cell? ⟨b, off + j * 3, none⟩ = some (.int .i64 l[j].k) ∧
    w.cell? ⟨b, off + j * 3 + 1, none⟩ = some (.int .i64 l[j].n) ∧ w.cell? ⟨b, off + j * 3 + 2, none⟩ = some (.string l[j].s)
theorem Row3.below {w w' : World} {B : Nat} {A : Option Addr} {l : List V} (h : Row3 w B A l) (hb : Below B w w') : Row3 w' B A l := by
  intro j hj
  obtain ⟨b, off, e, hlt, h0, h1, h2⟩ := h j hj
  exact ⟨b, off, e, hlt, (hb.cell (p := ⟨b, _, none⟩) hlt).trans h0, (hb.cell (p := ⟨b, _, none⟩) hlt).trans h1, (hb.cell (p := ⟨b, _, none⟩) hlt).trans h2⟩
theorem Row3.more {w : World} {B B' : Nat} {A : Option Addr} {l : List V} (h : Row3 w B A l) (hb : B ≤ B') : Row3 w B' A l := by
  intro j hj
  obtain ⟨b, off, e, hlt, h0, h1, h2⟩ := h j hj
  exact ⟨b, off, e, by omega, h0, h1, h2⟩
def first3 (a b c : Int) : Int := if a ≠ 0 then a else if b ≠ 0 then b else c
theorem less_iff : ∀ a b : List UInt8, Op.bytesLess a b = (Lib.compareBytes a b == -1)
  | [], [] => rfl
  | [], _ :: _ => rfl
  | _ :: _, [] => rfl
  | c :: a, d :: b => by
    have ih := less_iff a b
    rw [Op.bytesLess, Lib.compareBytes]
    by_cases h1 : c < d
    · simp [h1]
    · by_cases h2 : d < c
      · have h3 : (c == d) = false := by
          rw [beq_eq_false_iff_ne]
          rintro rfl
          exact h1 h2
        simp [h1, h2, h3]
      · have h3 : c = d := by
          rw [UInt8.lt_iff_toNat_lt] at h1 h2
          exact UInt8.toNat_inj.1 (by omega)
        subst h3
        simp [h1, ih]
theorem three_bytes : ∀ a b : List UInt8, Lib.compareBytes a b = -1 ∨ Lib.compareBytes a b = 0 ∨ Lib.compareBytes a b = 1
  | [], [] => .inr (.inl rfl)
  | [], _ :: _ => .inl rfl
  | _ :: _, [] => .inr (.inr rfl)
  | c :: a, d :: b => by
    rw [Lib.compareBytes]
    split
    · exact .inl rfl
    · split
      · exact .inr (.inr rfl)
      · exact three_bytes a b
theorem zero_bytes (a b : List UInt8) : (a = b) = (Lib.compareBytes a b = 0) :=
  propext ⟨fun h => by rw [h, compareBytes_self], compareBytes_zero⟩
theorem rcmp_any (a b : V) (ha : a.wf) (hb : b.wf) (w : World) :
    Calls Try.prog 31 #[a.val, b.val] w fun e w' => e = .returned (.int .i64 (cmpV a b)) ∧ Below w.heap.size w w' := by
  obtain ⟨k, n, s⟩ := a
  obtain ⟨k', n', s'⟩ := b
  unfold V.val
  dsimp only
  have e : cmpV ⟨k, n, s⟩ ⟨k', n', s'⟩ = first3 (Lib.compareInt k k') (Lib.compareInt n n') (Lib.compareBytes s.data.toList s'.data.toList) := rfl
  rw [e]
  clear e
  generalize hx : Lib.compareInt k k' = x
  generalize hy : Lib.compareInt n n' = y
  generalize hz : Lib.compareBytes s.data.toList s'.data.toList = z
  have HX := Lib.hid hx
  have HY := Lib.hid hy
  have HZ := Lib.hid hz
  clear hx hy hz
  go_enter Try.func31, Try.ntmps31
  go_wp2
  all_goals go_ret
  all_goals refine ⟨ret_int ?_, ((Below.refl _ _).alloc (Nat.le_refl _) _).alloc (by simp) _⟩
  all_goals
    have h3 := three_bytes s.data.toList s'.data.toList
    rw [← HX.out, ← HY.out, ← HZ.out]
    clear HX HY HZ
    try simp only [Lib.toList_data, less_iff, zero_bytes, beq_iff_eq, beq_eq_false_iff_ne, ne_eq] at *
    generalize Lib.compareBytes s.data.toList s'.data.toList = q at *
    unfold first3 Lib.compareInt
    repeat' split
  all_goals omega
theorem cmpR_same {l m : List V} {k : Nat} (hl : k < l.length) (hm : k < m.length) (h : cmpR l m = cmpR (l.drop k) (m.drop k)) (hc : cmpV l[k] m[k] = 0) : cmpR l m = cmpR (l.drop (k + 1)) (m.drop (k + 1)) := by
  rw [h, List.drop_eq_getElem_cons hl, List.drop_eq_getElem_cons hm, cmpR, if_neg (by simpa using hc)]
theorem cmpR_here {l m : List V} {k : Nat} (hl : k < l.length) (hm : k < m.length) (h : cmpR l m = cmpR (l.drop k) (m.drop k)) (hc : cmpV l[k] m[k] ≠ 0) : cmpR l m = cmpV l[k] m[k] := by
  rw [h, List.drop_eq_getElem_cons hl, List.drop_eq_getElem_cons hm, cmpR, if_pos hc]
theorem cmpR_long {l m : List V} {k : Nat} (hl : k < l.length) (hm : m.length ≤ k) (h : cmpR l m = cmpR (l.drop k) (m.drop k)) : cmpR l m = 1 := by
  rw [h, List.drop_eq_getElem_cons hl, List.drop_of_length_le hm, cmpR]
theorem cmpR_short {l m : List V} {k : Nat} (hl : l.length ≤ k) (hm : k < m.length) (h : cmpR l m = cmpR (l.drop k) (m.drop k)) : cmpR l m = -1 := by
  rw [h, List.drop_eq_getElem_cons hm, List.drop_of_length_le hl, cmpR]
theorem cmpR_end {l m : List V} {k : Nat} (hl : l.length ≤ k) (hm : m.length ≤ k) (h : cmpR l m = cmpR (l.drop k) (m.drop k)) : cmpR l m = 0 := by
  rw [h, List.drop_of_length_le hm, List.drop_of_length_le hl, cmpR]
set_option maxHeartbeats 1000000 in
theorem rcmprow_any (l m : List V) (hwl : ∀ v ∈ l, v.wf) (hwm : ∀ v ∈ m, v.wf) (n1 c1 n2 c2 : Nat) (A B : Option Addr) (w : World) (hl : n1 = l.length) (hm : n2 = m.length) (h1 : n1 ≤ maxLen) (h2 : n2 ≤ maxLen)
    (hA : Row3 w w.heap.size A l) (hB : Row3 w w.heap.size B m) :
    Calls Try.prog 36 #[.slice A n1 c1, .slice B n2 c2] w fun e w' => e = .returned (.int .i64 (cmpR l m)) ∧ Below w.heap.size w w' := by
  have HL := Lib.hid hl
  have HM := Lib.hid hm
  have HA := Lib.hid hA
  have HB := Lib.hid hB
  have HW := Lib.hid hwl
  have HW2 := Lib.hid hwm
  clear hl hm hA hB hwl hwm
  unfold maxLen at h1 h2
  go_enter Try.func36, Try.ntmps36
  go_wp2
  go_loopw [5] (fun i wr => ∃ k : Nat, k ≤ n1 ∧ k ≤ n2 ∧ i = .int .i64 k ∧ Hid (cmpR l m = cmpR (l.drop k) (m.drop k)) ∧ Below w.heap.size w wr) (fun i _ => n1 - (intOf i).toNat)
  case atStart => exact ⟨0, Nat.zero_le _, Nat.zero_le _, rfl, Lib.hid rfl, Below.refl _ _⟩
  case round =>
    obtain ⟨k, hk1, hk2, rfl, HC, hbel⟩ := hrel
    have hsz := hbel.size
    by_cases hlt : k < n1
    · have hkl : k < l.length := by rw [← HL.out]; exact hlt
      obtain ⟨b, off, rfl, hB1, a0, a1, a2⟩ := (HA.out.below hbel) k hkl
      by_cases hlt2 : k < n2
      · have hkm : k < m.length := by rw [← HM.out]; exact hlt2
        obtain ⟨b', off', rfl, hB2, b0, b1, b2⟩ := (HB.out.below hbel) k hkm
        have q1 : b < wr.heap.size := by omega
        have q2 : b' < wr.heap.size := by omega
        obtain ⟨v, HV⟩ : ∃ v, Hid (l[k] = v) := ⟨_, Lib.hid rfl⟩
        obtain ⟨u, HU⟩ : ∃ u, Hid (m[k] = u) := ⟨_, Lib.hid rfl⟩
        rw [HV.out] at a0 a1 a2
        rw [HU.out] at b0 b1 b2
        have hwv : v.wf := HW.out v (by rw [← HV.out]; exact List.getElem_mem hkl)
        have hwu : u.wf := HW2.out u (by rw [← HU.out]; exact List.getElem_mem hkm)
        have i1 : (0 : Int) ≤ (k : Int) := by omega
        have i2 : (k : Int) < (n1 : Int) := by omega
        have i3 : (k : Int) < (n2 : Int) := by omega
        by_cases hc : cmpV v u = 0
        · have HC2 := Lib.hid (cmpR_same hkl hkm HC.out (by rw [HV.out, HU.out]; exact hc))
          go_wp2_with fail
          go_region_with (go_at_call 31; refine (rcmp_any v u hwv hwu _).mono ?_; rintro e w' ⟨rfl, hb⟩)
          all_goals
            go_wp2
            go_roundw
            case rel => exact ⟨k + 1, by omega, by omega, by go_num, HC2, hbel.drew.trans (hb.mono (by simp; omega))⟩
            case measure => simp [intOf]; omega
        · have hne : (cmpV v u != 0) = true := by simpa using hc
          have hne2 : (cmpV v u == 0) = false := by simpa using hc
          have HC2 := Lib.hid (show cmpR l m = cmpV v u by rw [cmpR_here hkl hkm HC.out (by rw [HV.out, HU.out]; exact hc), HV.out, HU.out])
          go_wp2_with fail
          go_region_with (go_at_call 31; refine (rcmp_any v u hwv hwu _).mono ?_; rintro e w' ⟨rfl, hb⟩)
          all_goals
            go_wp2
            go_ret
            exact ⟨ret_int HC2.out.symm, hbel.drew.trans (hb.mono (by simp; omega))⟩
      · have HC2 := Lib.hid (cmpR_long hkl (by rw [← HM.out]; omega) HC.out)
        go_wp2
        go_ret
        exact ⟨ret_int HC2.out.symm, hbel⟩
    · by_cases hlt2 : k < n2
      · have HC2 := Lib.hid (cmpR_short (by rw [← HL.out]; omega) (by rw [← HM.out]; exact hlt2) HC.out)
        have hdd : decide (n1 < n2) = true := decide_eq_true (by omega)
        go_wp2
        go_ret
        exact ⟨ret_int HC2.out.symm, hbel⟩
      · have HC2 := Lib.hid (cmpR_end (by rw [← HL.out]; omega) (by rw [← HM.out]; omega) HC.out)
        have hdd : decide (n1 < n2) = false := decide_eq_false (by omega)
        go_wp2
        go_ret
        exact ⟨ret_int HC2.out.symm, hbel⟩
def sameB (l m : List V) : Bool := decide (l.length = m.length) && (cmpR l m == 0)
theorem same_any (l m : List V) (hwl : ∀ v ∈ l, v.wf) (hwm : ∀ v ∈ m, v.wf) (n1 c1 n2 c2 : Nat) (A B : Option Addr) (w : World) (hl : n1 = l.length) (hm : n2 = m.length) (h1 : n1 ≤ maxLen) (h2 : n2 ≤ maxLen)
    (hA : Row3 w w.heap.size A l) (hB : Row3 w w.heap.size B m) :
    Calls Try.prog 20 #[.slice A n1 c1, .slice B n2 c2] w fun e w' => e = .returned (.bool (sameB l m)) ∧ Below w.heap.size w w' := by
  have H := Lib.hid (rcmprow_any l m hwl hwm n1 c1 n2 c2 A B w hl hm h1 h2 hA hB)
  unfold maxLen at h1 h2
  by_cases hs : n1 = n2
  · have e : sameB l m = (cmpR l m == 0) := by unfold sameB; rw [decide_eq_true (by omega), Bool.true_and]
    rw [e]
    clear e hwl hwm hl hm hA hB
    subst hs
    go_enter Try.func20, Try.ntmps20
    go_wp2_with (go_at_call 36; refine H.out.mono ?_; rintro e w' ⟨rfl, hb⟩)
    go_ret
    exact ⟨rfl, hb⟩
  · have e : sameB l m = false := by unfold sameB; rw [decide_eq_false (by omega), Bool.false_and]
    rw [e]
    clear e hwl hwm hl hm hA hB H
    have hne : (n1 == n2) = false := by simpa using hs
    have hne2 : ((n1 : Int) == (n2 : Int)) = false := by simpa using (by omega : ¬ (n1 : Int) = n2)
    go_enter Try.func20, Try.ntmps20
    go_wp2
    go_ret
    exact ⟨rfl, Below.refl _ _⟩
def bigB (l : List V) : Bool := decide (40 < l.length) || l.any fun v => decide (600 < v.s.size)
theorem big_any (l : List V) (hwl : ∀ v ∈ l, v.wf) (len cap : Nat) (A : Option Addr) (w : World) (hl : len = l.length) (h1 : len ≤ maxLen) (hA : Row3 w w.heap.size A l) :
    Calls Try.prog 18 #[.slice A len cap] w fun e w' => e = .returned (.bool (bigB l)) ∧ w = w' := by
  have HL := Lib.hid hl
  have HA := Lib.hid hA
  have HW := Lib.hid hwl
  clear hl hA hwl
  unfold maxLen at h1
  by_cases h40 : 40 < len
  · have e : bigB l = true := by unfold bigB; rw [decide_eq_true (by rw [← HL.out]; exact h40), Bool.true_or]
    rw [e]
    clear e
    go_enter Try.func18, Try.ntmps18
    go_wp2
    go_ret
    exact ⟨rfl, rfl⟩
  · have hd : decide ((40 : Int) < (len : Int)) = false := decide_eq_false (by omega)
    go_enter Try.func18, Try.ntmps18
    go_wp2
    clear hd
    go_loop [3] (fun i => ∃ k : Nat, k ≤ len ∧ i = .int .i64 k ∧ Hid ((l.take k).any (fun v => decide (600 < v.s.size)) = false)) (fun i => len - (intOf i).toNat)
    case atStart => exact ⟨0, Nat.zero_le _, rfl, Lib.hid rfl⟩
    case round =>
      obtain ⟨k, hk, rfl, HA2⟩ := hrel
      by_cases hlt : k < len
      · have hkl : k < l.length := by rw [← HL.out]; exact hlt
        obtain ⟨b, off, rfl, hB, c0, c1, c2⟩ := HA.out k hkl
        obtain ⟨v, HV⟩ : ∃ v, Hid (l[k] = v) := ⟨_, Lib.hid rfl⟩
        rw [HV.out] at c0 c1 c2
        have hwv : v.wf := HW.out v (by rw [← HV.out]; exact List.getElem_mem hkl)
        have hws : v.s.size ≤ 9223372036854775807 := hwv.2.2
        by_cases hc : 600 < v.s.size
        · have HE := Lib.hid (show bigB l = true by
            unfold bigB
            rw [show l.any (fun v => decide (600 < v.s.size)) = true by rw [List.any_eq_true]; exact ⟨l[k], List.getElem_mem hkl, by rw [HV.out]; exact decide_eq_true hc⟩, Bool.or_true])
          go_wp2
          go_ret
          exact ⟨ret_bool HE.out.symm, rfl⟩
        · have HA3 := Lib.hid (show (l.take (k + 1)).any (fun v => decide (600 < v.s.size)) = false by
            rw [List.take_succ_eq_append_getElem hkl, List.any_append, HA2.out, HV.out]
            simp; omega)
          go_wp2
          go_round
          case rel => exact ⟨k + 1, by omega, by go_num, HA3⟩
          case measure => simp [intOf]; omega
      · have HE := Lib.hid (show bigB l = false by
          have h2 := HA2.out
          rw [List.take_of_length_le (by rw [← HL.out]; omega)] at h2
          unfold bigB
          rw [h2, decide_eq_false (by rw [← HL.out]; omega)]
          rfl)
        go_wp2
        go_ret
        exact ⟨ret_bool HE.out.symm, rfl⟩
def V.cells (v : V) : List Value := [.int .i64 v.k, .int .i64 v.n, .string v.s]
def cellsOf (l : List V) : List Value := l.flatMap V.cells
theorem cellsOf_length (l : List V) : (cellsOf l).length = l.length * 3 := by
  induction l with
  | nil => rfl
  | cons v l ih => simp [cellsOf, V.cells] at ih ⊢; omega
theorem cells_at : ∀ (l : List V) (q : Nat) (h : q < l.length), (cellsOf l)[q * 3]? = some (.int .i64 l[q].k) ∧ (cellsOf l)[q * 3 + 1]? = some (.int .i64 l[q].n) ∧ (cellsOf l)[q * 3 + 2]? = some (.string l[q].s)
  | [], q, h => by simp at h
  | v :: l, 0, h => by simp [cellsOf, V.cells]
  | v :: l, q + 1, h => by
    have ih := cells_at l q (by simpa using h)
    have e : cellsOf (v :: l) = [.int .i64 v.k, .int .i64 v.n, .string v.s] ++ cellsOf l := rfl
    have hs : ∀ j, ([Value.int .i64 v.k, .int .i64 v.n, .string v.s] ++ cellsOf l)[j + 3]? = (cellsOf l)[j]? := fun j => by
      rw [List.getElem?_append_right (by simp)]
      simp
    rw [e, show (q + 1) * 3 = q * 3 + 3 by omega, show q * 3 + 3 + 1 = q * 3 + 1 + 3 by omega, show q * 3 + 3 + 2 = q * 3 + 2 + 3 by omega, hs, hs, hs]
    simpa using ih
theorem cells_one (l : List V) : ∀ u ∈ cellsOf l, u.oneCell' = true := by
  intro u hu
  simp only [cellsOf, List.mem_flatMap, V.cells] at hu
  obtain ⟨v, _, hv⟩ := hu
  simp at hv
  rcases hv with rfl | rfl | rfl <;> rfl
theorem row3_of_own {w : World} {base : Nat} {A : Option Addr} {n c : Nat} {l : List V} (h : w.ownsRow base 33 3 (.slice A n c) n (cellsOf l)) : n = l.length ∧ Row3 w w.heap.size A l := by
  have hl := h.1
  rw [cellsOf_length] at hl
  have hn : n = l.length := by omega
  refine ⟨hn, fun j hj => ?_⟩
  obtain ⟨g, cap, hv, _, hlt⟩ := h.form (by omega)
  injection hv with h1 _ _
  subst h1
  obtain ⟨e0, e1, e2⟩ := cells_at l j hj
  have hc := h.cells (g := g) rfl
  have c0 := hc _ _ e0
  have c1 := hc _ _ e1
  have c2 := hc _ _ e2
  rw [add_at] at c0 c1 c2
  exact ⟨g, 0, rfl, hlt, c0, by rw [Nat.add_assoc]; exact c1, by rw [Nat.add_assoc]; exact c2⟩
theorem cells_of_row3 {w : World} {B : Nat} {b off : Nat} {l : List V} (h : Row3 w B (some ⟨b, off, none⟩) l) : ∀ j u, (cellsOf l)[j]? = some u → w.cell? ((⟨b, off, none⟩ : Addr).add j) = some u := by
  intro j u hu
  have hj : j < l.length * 3 := by rw [← cellsOf_length]; exact (List.getElem?_eq_some_iff.1 hu).1
  obtain ⟨b', off', e, _, c0, c1, c2⟩ := h (j / 3) (by omega)
  simp only [Option.some.injEq, Addr.mk.injEq, and_true] at e
  obtain ⟨rfl, rfl⟩ := e
  obtain ⟨e0, e1, e2⟩ := cells_at l (j / 3) (by omega)
  rw [add_at]
  rcases (show j = j / 3 * 3 ∨ j = j / 3 * 3 + 1 ∨ j = j / 3 * 3 + 2 by omega) with h | h | h
  · rw [← h] at e0 c0; rw [e0] at hu; injection hu with hu; subst hu; exact c0
  · rw [← h] at e1; rw [Nat.add_assoc, ← h] at c1; rw [e1] at hu; injection hu with hu; subst hu; exact c1
  · rw [← h] at e2; rw [Nat.add_assoc, ← h] at c2; rw [e2] at hu; injection hu with hu; subst hu; exact c2
theorem infoVal : (Try.prog.info? 33).map (fun i => (i.zero, i.size, i.bytes)) = some (some (Value.agg #[.int .i64 0, .int .i64 0, .string ⟨#[]⟩]), 3, 32) := by kernel_rfl
theorem Row3.none_ {w : World} {B : Nat} {l : List V} (h : Row3 w B none l) : l = [] := by
  cases l with
  | nil => rfl
  | cons v l =>
    obtain ⟨b, off, e, _⟩ := h 0 (by simp)
    cases e
theorem Row3.some_ {w : World} {B : Nat} {a : Addr} {l : List V} (h : Row3 w B (some a) l) : ∀ j u, (cellsOf l)[j]? = some u → w.cell? (a.add j) = some u := by
  cases l with
  | nil => intro j u hu; simp [cellsOf] at hu
  | cons v l =>
    obtain ⟨b, off, e, _⟩ := h 0 (by simp)
    injection e with e
    subst e
    exact cells_of_row3 h
end Go.Proofs.Ytihgcfokenabgaa
namespace Go.Proofs.Ytihgcfokenabgaa
open Go.ChangeShapes Go.WideShapes Go.ChangeAt Go.RowKit
open Go.Lib (byteCells byteCells_length byteCells_append strCells)
set_option linter.unusedVariables false
theorem sameB_self (l : List V) : sameB l l = true := by
  unfold sameB
  rw [cmpR_zero.2 rfl, decide_eq_true rfl]
  rfl
end Go.Proofs.Ytihgcfokenabgaa
namespace Go.Proofs.Ytihgcfokenabgaa
open Go Go.ChangeShapes Go.WideShapes Go.Deep Go.RowKit Go.Joins
set_option linter.unusedVariables false
section
variable {H : Type} {enc : TypeId × Value → H} {w : World}
theorem i64_wf {n : Int} (h : (Lit.int .i64 n).wf = true) : in64 n := by
  simpa [Lit.wf, IntKind.min, IntKind.max, IntKind.signed, IntKind.bits, in64] using h
set_option maxRecDepth 100000 in
theorem open_one {base : Nat} {spare : Nat → Bool} {held : Bool} {m : Nat} {cs : List Value} {x : DataW H × List MemPlace} (h : DataW.trod enc Try.prog w base spare held m 33 cs = some x) :
    ∃ v : V, v.wf ∧ cs = v.cells := by
  obtain ⟨xs, n, _, _, hlen, hxl, hf⟩ := DataW.trod_struct Try.underlying33 h
  rw [show Try.prog.cellsOf 33 = 3 by kernel_rfl] at hlen
  match cs, hlen with
  | [c0, c1, c2], _ =>
    match xs, hxl with
    | [y0, y1, y2], _ =>
      have h0 : DataW.trod enc Try.prog w base spare held n 3 (([c0, c1, c2].drop 0).take (Try.prog.cellsOf 3)) = some y0 := hf 0 _ rfl
      have h1 : DataW.trod enc Try.prog w base spare held n 2 (([c0, c1, c2].drop 1).take (Try.prog.cellsOf 2)) = some y1 := hf 1 _ rfl
      have h2 : DataW.trod enc Try.prog w base spare held n 9 (([c0, c1, c2].drop 2).take (Try.prog.cellsOf 9)) = some y2 := hf 2 _ rfl
      rw [show Try.prog.cellsOf 3 = 1 by kernel_rfl] at h0
      rw [show Try.prog.cellsOf 2 = 1 by kernel_rfl] at h1
      rw [show Try.prog.cellsOf 9 = 1 by kernel_rfl] at h2
      obtain ⟨k, e0, _, w0⟩ := DataW.trod_int Try.underlying3 h0
      obtain ⟨z, e1, _, w1⟩ := DataW.trod_int Try.underlying2 h1
      obtain ⟨s, e2, _, w2⟩ := DataW.trod_string Try.underlying9 h2
      simp at e0 e1 e2
      subst e0 e1 e2
      exact ⟨⟨k, z, s⟩, ⟨i64_wf w0, i64_wf w1, w2⟩, rfl⟩
set_option maxRecDepth 100000 in
theorem open_row {v : Value} {d : DataW H} {p : List MemPlace} {r : Reach} {b0 : Nat} (hv : Value.okWide Try.prog w r b0 49 v) (h : DataW.Trod enc Try.prog w 0 (fun _ => true) true 49 v d p) (hlt : ∀ x ∈ p, x.block < w.heap.size) :
    ∃ (A : Option Addr) (len c : Nat) (l : List V), v = .slice A len c ∧ len = l.length ∧ len ≤ maxLen ∧ (∀ u ∈ l, u.wf) ∧ Row3 w w.heap.size A l := by
  obtain ⟨A0, len0, cap0, rfl⟩ := okWide_slice Try.underlying49 hv
  obtain ⟨fuel, hf⟩ := h
  rcases open_slice Try.underlying49 hf with ⟨hcs, _⟩ | ⟨a, len, cap, m, n, D, Pl, hcs, _, hl, hm, hmm, _, hi⟩
  · simp [Value.cells] at hcs
    obtain ⟨rfl, rfl, rfl⟩ := hcs
    exact ⟨none, 0, 0, [], rfl, rfl, by decide, by simp, fun j hj => by simp at hj⟩
  · simp [Value.cells] at hcs
    obtain ⟨rfl, rfl, rfl⟩ := hcs
    simp only [if_true] at hmm
    rw [show Try.prog.cellsOf 33 = 3 by kernel_rfl] at hi
    have per : ∀ i, i < len0 → ∃ u : V, u.wf ∧ ∀ j (x : Value), u.cells[j]? = some x → w.cell? (a.add (i * 3 + j)) = some x := by
      intro i hil
      obtain ⟨cs', hc, ht⟩ := hi i (by omega)
      obtain ⟨u, hu, hcu⟩ := open_one ht
      obtain ⟨_, hcl, hat⟩ := World.cells?_some hc
      refine ⟨u, hu, fun j x hx => ?_⟩
      have hj : j < 3 := by
        have := (List.getElem?_eq_some_iff.1 hx).1
        simpa [V.cells] using this
      rw [← Go.Deep.add_add, hat j hj, hcu]
      exact hx
    have build : ∀ k, k ≤ len0 → ∃ l : List V, l.length = k ∧ (∀ u ∈ l, u.wf) ∧ ∀ q (hq : q < l.length), ∀ j (x : Value), l[q].cells[j]? = some x → w.cell? (a.add (q * 3 + j)) = some x := by
      intro k
      induction k with
      | zero => intro _; exact ⟨[], rfl, by simp, fun q hq => by simp at hq⟩
      | succ k ih =>
        intro hk
        obtain ⟨l, h1, h2, h3⟩ := ih (by omega)
        obtain ⟨u, hu, hc⟩ := per k (by omega)
        refine ⟨l ++ [u], by simp [h1], fun x hx => ?_, fun q hq j x hx => ?_⟩
        · rcases List.mem_append.1 hx with h | h
          · exact h2 x h
          · simp at h; subst h; exact hu
        · by_cases hq2 : q < l.length
          · rw [List.getElem_append_left hq2] at hx
            exact h3 q hq2 j x hx
          · obtain rfl : q = k := by simp at hq; omega
            rw [List.getElem_append_right (by omega)] at hx
            simp at hx
            exact hc j x hx
    obtain ⟨l, h1, h2, h3⟩ := build len0 (Nat.le_refl _)
    refine ⟨some a, len0, cap0, l, rfl, h1.symm, by omega, h2, fun q hq => ?_⟩
    have c0 := h3 q hq 0 _ rfl
    have c1 := h3 q hq 1 _ rfl
    have c2 := h3 q hq 2 _ rfl
    have z0 := h3 0 (by omega) 0 _ rfl
    have hsp : a.spot = none := by
      have := World.cell?_spot z0
      simpa [Addr.add] using this
    obtain ⟨b, off, sp⟩ := a
    obtain rfl : sp = none := hsp
    rw [add_at] at c0 c1 c2
    exact ⟨b, off, rfl, World.block_lt_of_cell? w _ c0, c0, by rw [Nat.add_assoc]; exact c1, by rw [Nat.add_assoc]; exact c2⟩
end
end Go.Proofs.Ytihgcfokenabgaa
