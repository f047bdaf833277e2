/- Values and rows: what is right, comparing, what is too big: both texts (from stage 3). -/
import Derived.Test.YtkpajmgbiepmbaaRows
import Derived.Test.YtkpajmgbiepmbaaValPlain2
import Derived.Test.YtkpajmgbiepmbaaScope
import Derived.WalkKit
import Derived.WalkLawsBesides
import Derived.WalkSpells
import Derived.ProofKit
import Derived.Below
import Derived.Outline
import Derived.Lib.Hide
import Derived.BigQuiet
import Derived.Deep.QuietTactic
import Derived.Deep.RegionWith
import Derived.Deep.RegionHeld3
import Derived.LoopTactic
import Derived.Lib.BufferMore
import Derived.Deep.AppendLies
namespace Go.Proofs.Ytkpajmgbiepmbaa
open Go.ChangeShapes Go.WideShapes Go.ChangeAt Go.RowKit
set_option linter.unusedVariables false

def V.val (v : V) : Value := .agg #[.int .i64 v.k, .int .i64 v.n, .string v.s]

theorem ret_int {k : IntKind} {a b : Int} (h : a = b) : Ending.returned (.int k a) = .returned (.int k b) := by rw [h]
theorem ret_bool {a b : Bool} (h : a = b) : Ending.returned (.bool a) = .returned (.bool b) := by rw [h]
theorem isEmpty_size (s : ByteArray) : s.toList.isEmpty = decide (s.size = 0) := by
  rw [Lib.toList_data, size_eq]
  cases s.data.toList <;> simp
theorem toList_nil (s : ByteArray) : (s.toList = []) = (s.size = 0) := by
  rw [Lib.toList_data, size_eq]
  cases s.data.toList <;> simp

theorem check_any (v : V) (hw : v.wf) (w : World) :
    Calls Try.prog 64 #[v.val] w fun e w' => e = .returned (.int .i64 (chk v)) ∧ Below w.heap.size w w' := by
  obtain ⟨k, n, s⟩ := v
  obtain ⟨wk, wn, ws⟩ := hw
  simp only [in64] at wk wn ws
  unfold V.val
  dsimp only
  go_enter Try.func64, Try.ntmps64
  go_wp2
  refine wp_scope_land 2 ?_
  go_wp2
  all_goals (try (refine wp_goto ?_; refine land_goto rfl ?_; go_wp2))
  all_goals (try (refine wp_goto ?_; refine land_goto rfl ?_; go_wp2))
  all_goals (try (go_step3; go_wp2))
  all_goals (try rw [land_ret])
  all_goals go_ret
  all_goals refine ⟨ret_int ?_, (Below.refl _ _).alloc (Nat.le_refl _) _⟩
  all_goals try simp only [isEmpty_size, decide_eq_true_eq, decide_eq_false_iff_not, beq_iff_eq, beq_eq_false_iff_ne, bne_iff_ne, ne_eq, bne_eq_false_iff_eq] at *
  all_goals (unfold chk; dsimp only; repeat' split)
  all_goals first | rfl | (exfalso; omega)

theorem rcheck_any (v : V) (hw : v.wf) (w : World) :
    Calls Try.prog 67 #[v.val] w fun e w' => e = .returned (.int .i64 (chk v)) ∧ Below w.heap.size w w' := by
  obtain ⟨k, n, s⟩ := v
  obtain ⟨wk, wn, ws⟩ := hw
  simp only [in64] at wk wn ws
  unfold V.val
  dsimp only
  go_enter Try.func67, Try.ntmps67
  go_wp2
  all_goals go_ret
  all_goals refine ⟨ret_int ?_, (Below.refl _ _).alloc (Nat.le_refl _) _⟩
  all_goals try simp only [toList_nil, beq_iff_eq, beq_eq_false_iff_ne, bne_iff_ne, ne_eq, bne_eq_false_iff_eq] at *
  all_goals (unfold chk; dsimp only; repeat' split)
  all_goals first | rfl | (exfalso; omega)

/-- The values l lie side by side from A on, below block B. -/
def Row3 (w : World) (B : Nat) (A : Option Addr) (l : List V) : Prop :=
  ∀ (j : Nat) (h : j < l.length), ∃ b off, A = some ⟨b, off, none⟩ ∧ b < B ∧ w.cell? ⟨b, off + j * 3, none⟩ = some (.int .i64 l[j].k) ∧
    w.cell? ⟨b, off + j * 3 + 1, none⟩ = some (.int .i64 l[j].n) ∧ w.cell? ⟨b, off + j * 3 + 2, none⟩ = some (.string l[j].s)

theorem Row3.below {w w' : World} {B : Nat} {A : Option Addr} {l : List V} (h : Row3 w B A l) (hb : Below B w w') : Row3 w' B A l := by
  intro j hj
  obtain ⟨b, off, e, hlt, h0, h1, h2⟩ := h j hj
  exact ⟨b, off, e, hlt, (hb.cell (p := ⟨b, _, none⟩) hlt).trans h0, (hb.cell (p := ⟨b, _, none⟩) hlt).trans h1, (hb.cell (p := ⟨b, _, none⟩) hlt).trans h2⟩
theorem Row3.more {w : World} {B B' : Nat} {A : Option Addr} {l : List V} (h : Row3 w B A l) (hb : B ≤ B') : Row3 w B' A l := by
  intro j hj
  obtain ⟨b, off, e, hlt, h0, h1, h2⟩ := h j hj
  exact ⟨b, off, e, by omega, h0, h1, h2⟩
theorem rowB_far {l : List V} (h : 12 < l.length) : rowB l = false := by
  unfold rowB
  rw [decide_eq_false (by omega), Bool.false_and]
theorem rowB_bad {l : List V} {v : V} (hm : v ∈ l) (h : chk v ≠ 0) : rowB l = false := by
  unfold rowB allB
  rw [show l.all (fun v => chk v == 0) = false by rw [List.all_eq_false]; exact ⟨v, hm, by simpa using h⟩, Bool.and_false]
theorem rowB_all {l : List V} (h12 : l.length ≤ 12) (h : allB l = true) : rowB l = true := by
  unfold rowB
  rw [decide_eq_true h12, h]
  rfl
theorem allB_snoc {l : List V} {k : Nat} (hk : k < l.length) (h : allB (l.take k) = true) (hc : chk l[k] = 0) : allB (l.take (k + 1)) = true := by
  rw [List.take_succ_eq_append_getElem hk]
  unfold allB at *
  rw [List.all_append, h]
  simp [hc]

theorem rrow_any (l : List V) (hw : ∀ v ∈ l, v.wf) (len cap : Nat) (A : Option Addr) (w : World) (hl : len = l.length) (hm : len ≤ maxLen) (hr : Row3 w w.heap.size A l) :
    Calls Try.prog 40 #[.slice A len cap] w fun e w' => e = .returned (.bool (rowB l)) ∧ Below w.heap.size w w' := by
  have HL := Lib.hid hl
  have HR := Lib.hid hr
  have HW := Lib.hid hw
  clear hl hr hw
  unfold maxLen at hm
  by_cases h12 : 12 < len
  · go_enter Try.func40, Try.ntmps40
    go_wp2
    go_ret
    exact ⟨ret_bool (rowB_far (by rw [← HL.out]; exact h12)).symm, Below.refl _ _⟩
  · have hd : decide ((12 : Int) < (len : Int)) = false := decide_eq_false (by omega)
    go_enter Try.func40, Try.ntmps40
    go_wp2
    clear hd
    go_loopw [3] (fun i wr => ∃ k : Nat, k ≤ len ∧ i = .int .i64 k ∧ Hid (allB (l.take k) = true) ∧ Below w.heap.size w wr) (fun i _ => len - (intOf i).toNat)
    case atStart => exact ⟨0, Nat.zero_le _, rfl, Lib.hid rfl, Below.refl _ _⟩
    case round =>
      obtain ⟨k, hk, rfl, HA, hbel⟩ := hrel
      by_cases hlt : k < len
      · have hkl : k < l.length := by rw [← HL.out]; exact hlt
        obtain ⟨b, off, rfl, hB, c0, c1, c2⟩ := (HR.out.below hbel) k hkl
        obtain ⟨v, HV⟩ : ∃ v, Hid (l[k] = v) := ⟨_, Lib.hid rfl⟩
        rw [HV.out] at c0 c1 c2
        have hwv : v.wf := HW.out v (by rw [← HV.out]; exact List.getElem_mem hkl)
        by_cases hc : chk v = 0
        · have HA2 := Lib.hid (allB_snoc hkl HA.out (by rw [HV.out]; exact hc))
          go_wp2_with (go_at_call 67; refine (rcheck_any v hwv _).mono ?_; rintro e w' ⟨rfl, hb⟩)
          go_roundw
          case rel => exact ⟨k + 1, by omega, by go_num, HA2, hbel.trans (hb.mono hbel.size)⟩
          case measure => simp [intOf]; omega
        · have hne : (chk v != 0) = true := by simpa using hc
          have hne2 : (chk v == 0) = false := by simpa using hc
          go_wp2_with (go_at_call 67; refine (rcheck_any v hwv _).mono ?_; rintro e w' ⟨rfl, hb⟩)
          go_ret
          exact ⟨ret_bool (rowB_bad (by rw [← HV.out]; exact List.getElem_mem hkl) hc).symm, hbel.trans (hb.mono hbel.size)⟩
      · have hk2 : k = len := by omega
        have HA2 := Lib.hid (show allB l = true by have := HA.out; rwa [hk2, HL.out, List.take_length] at this)
        clear hk2
        go_wp2
        go_ret
        exact ⟨ret_bool (rowB_all (by rw [← HL.out]; omega) HA2.out).symm, hbel⟩
theorem row_any (l : List V) (hw : ∀ v ∈ l, v.wf) (len cap : Nat) (A : Option Addr) (w : World) (hl : len = l.length) (hm : len ≤ maxLen) (hr : Row3 w w.heap.size A l) :
    Calls Try.prog 37 #[.slice A len cap] w fun e w' => e = .returned (.bool (rowB l)) ∧ Below w.heap.size w w' := by
  have HL := Lib.hid hl
  have HR := Lib.hid hr
  have HW := Lib.hid hw
  clear hl hr hw
  unfold maxLen at hm
  by_cases h12 : 12 < len
  · go_enter Try.func37, Try.ntmps37
    go_wp2
    go_ret
    exact ⟨ret_bool (rowB_far (by rw [← HL.out]; exact h12)).symm, Below.refl _ _⟩
  · have hd : decide ((12 : Int) < (len : Int)) = false := decide_eq_false (by omega)
    go_enter Try.func37, Try.ntmps37
    go_wp2
    clear hd
    go_loopw [10] (fun i wr => ∃ k : Nat, k ≤ len ∧ i = .int .i64 k ∧ Hid (allB (l.take k) = true) ∧ Below w.heap.size w wr) (fun i _ => len - (intOf i).toNat)
    case atStart => exact ⟨0, Nat.zero_le _, rfl, Lib.hid rfl, Below.refl _ _⟩
    case round =>
      obtain ⟨k, hk, rfl, HA, hbel⟩ := hrel
      by_cases hlt : k < len
      · have hkl : k < l.length := by rw [← HL.out]; exact hlt
        obtain ⟨b, off, rfl, hB, c0, c1, c2⟩ := (HR.out.below hbel) k hkl
        obtain ⟨v, HV⟩ : ∃ v, Hid (l[k] = v) := ⟨_, Lib.hid rfl⟩
        rw [HV.out] at c0 c1 c2
        have hwv : v.wf := HW.out v (by rw [← HV.out]; exact List.getElem_mem hkl)
        by_cases hc : chk v = 0
        · have HA2 := Lib.hid (allB_snoc hkl HA.out (by rw [HV.out]; exact hc))
          go_wp2_with (go_at_call 64; refine (check_any v hwv _).mono ?_; rintro e w' ⟨rfl, hb⟩)
          go_roundw
          case rel => exact ⟨k + 1, by omega, by go_num, HA2, (hbel.alloc hbel.size _).trans (hb.mono (by have := hbel.size; simp; omega))⟩
          case measure => simp [intOf]; omega
        · have hne : (chk v != 0) = true := by simpa using hc
          have hne2 : (chk v == 0) = false := by simpa using hc
          go_wp2_with (go_at_call 64; refine (check_any v hwv _).mono ?_; rintro e w' ⟨rfl, hb⟩)
          go_ret
          exact ⟨ret_bool (rowB_bad (by rw [← HV.out]; exact List.getElem_mem hkl) hc).symm, (hbel.alloc hbel.size _).trans (hb.mono (by have := hbel.size; simp; omega))⟩
      · have hk2 : k = len := by omega
        have HA2 := Lib.hid (show allB l = true by have := HA.out; rwa [hk2, HL.out, List.take_length] at this)
        clear hk2
        go_wp2
        go_ret
        exact ⟨ret_bool (rowB_all (by rw [← HL.out]; omega) HA2.out).symm, hbel⟩

def first3 (a b c : Int) : Int := if a ≠ 0 then a else if b ≠ 0 then b else c
theorem less_iff : ∀ a b : List UInt8, Op.bytesLess a b = (Lib.compareBytes a b == -1)
  | [], [] => rfl
  | [], _ :: _ => rfl
  | _ :: _, [] => rfl
  | c :: a, d :: b => by
    have ih := less_iff a b
    rw [Op.bytesLess, Lib.compareBytes]
    by_cases h1 : c < d
    · simp [h1]
    · by_cases h2 : d < c
      · have h3 : (c == d) = false := by
          rw [beq_eq_false_iff_ne]
          rintro rfl
          exact h1 h2
        simp [h1, h2, h3]
      · have h3 : c = d := by
          rw [UInt8.lt_iff_toNat_lt] at h1 h2
          exact UInt8.toNat_inj.1 (by omega)
        subst h3
        simp [h1, ih]
theorem three_bytes : ∀ a b : List UInt8, Lib.compareBytes a b = -1 ∨ Lib.compareBytes a b = 0 ∨ Lib.compareBytes a b = 1
  | [], [] => .inr (.inl rfl)
  | [], _ :: _ => .inl rfl
  | _ :: _, [] => .inr (.inr rfl)
  | c :: a, d :: b => by
    rw [Lib.compareBytes]
    split
    · exact .inl rfl
    · split
      · exact .inr (.inr rfl)
      · exact three_bytes a b
theorem zero_bytes (a b : List UInt8) : (a = b) = (Lib.compareBytes a b = 0) :=
  propext ⟨fun h => by rw [h, compareBytes_self], compareBytes_zero⟩
theorem rcmp_any (a b : V) (ha : a.wf) (hb : b.wf) (w : World) :
    Calls Try.prog 87 #[a.val, b.val] w fun e w' => e = .returned (.int .i64 (cmpV a b)) ∧ Below w.heap.size w w' := by
  obtain ⟨k, n, s⟩ := a
  obtain ⟨k', n', s'⟩ := b
  unfold V.val
  dsimp only
  have e : cmpV ⟨k, n, s⟩ ⟨k', n', s'⟩ = first3 (Lib.compareInt k k') (Lib.compareInt n n') (Lib.compareBytes s.data.toList s'.data.toList) := rfl
  rw [e]
  clear e
  generalize hx : Lib.compareInt k k' = x
  generalize hy : Lib.compareInt n n' = y
  generalize hz : Lib.compareBytes s.data.toList s'.data.toList = z
  have HX := Lib.hid hx
  have HY := Lib.hid hy
  have HZ := Lib.hid hz
  clear hx hy hz
  go_enter Try.func87, Try.ntmps87
  go_wp2
  all_goals go_ret
  all_goals refine ⟨ret_int ?_, ((Below.refl _ _).alloc (Nat.le_refl _) _).alloc (by simp) _⟩
  all_goals
    have h3 := three_bytes s.data.toList s'.data.toList
    rw [← HX.out, ← HY.out, ← HZ.out]
    clear HX HY HZ
    try simp only [Lib.toList_data, less_iff, zero_bytes, beq_iff_eq, beq_eq_false_iff_ne, ne_eq] at *
    generalize Lib.compareBytes s.data.toList s'.data.toList = q at *
    unfold first3 Lib.compareInt
    repeat' split
  all_goals omega
theorem cmpR_same {l m : List V} {k : Nat} (hl : k < l.length) (hm : k < m.length) (h : cmpR l m = cmpR (l.drop k) (m.drop k)) (hc : cmpV l[k] m[k] = 0) : cmpR l m = cmpR (l.drop (k + 1)) (m.drop (k + 1)) := by
  rw [h, List.drop_eq_getElem_cons hl, List.drop_eq_getElem_cons hm, cmpR, if_neg (by simpa using hc)]
theorem cmpR_here {l m : List V} {k : Nat} (hl : k < l.length) (hm : k < m.length) (h : cmpR l m = cmpR (l.drop k) (m.drop k)) (hc : cmpV l[k] m[k] ≠ 0) : cmpR l m = cmpV l[k] m[k] := by
  rw [h, List.drop_eq_getElem_cons hl, List.drop_eq_getElem_cons hm, cmpR, if_pos hc]
theorem cmpR_long {l m : List V} {k : Nat} (hl : k < l.length) (hm : m.length ≤ k) (h : cmpR l m = cmpR (l.drop k) (m.drop k)) : cmpR l m = 1 := by
  rw [h, List.drop_eq_getElem_cons hl, List.drop_of_length_le hm, cmpR]
theorem cmpR_short {l m : List V} {k : Nat} (hl : l.length ≤ k) (hm : k < m.length) (h : cmpR l m = cmpR (l.drop k) (m.drop k)) : cmpR l m = -1 := by
  rw [h, List.drop_eq_getElem_cons hm, List.drop_of_length_le hl, cmpR]
theorem cmpR_end {l m : List V} {k : Nat} (hl : l.length ≤ k) (hm : m.length ≤ k) (h : cmpR l m = cmpR (l.drop k) (m.drop k)) : cmpR l m = 0 := by
  rw [h, List.drop_of_length_le hm, List.drop_of_length_le hl, cmpR]

set_option maxHeartbeats 1000000 in
theorem rcmprow_any (l m : List V) (hwl : ∀ v ∈ l, v.wf) (hwm : ∀ v ∈ m, v.wf) (n1 c1 n2 c2 : Nat) (A B : Option Addr) (w : World) (hl : n1 = l.length) (hm : n2 = m.length) (h1 : n1 ≤ maxLen) (h2 : n2 ≤ maxLen)
    (hA : Row3 w w.heap.size A l) (hB : Row3 w w.heap.size B m) :
    Calls Try.prog 83 #[.slice A n1 c1, .slice B n2 c2] w fun e w' => e = .returned (.int .i64 (cmpR l m)) ∧ Below w.heap.size w w' := by
  have HL := Lib.hid hl
  have HM := Lib.hid hm
  have HA := Lib.hid hA
  have HB := Lib.hid hB
  have HW := Lib.hid hwl
  have HW2 := Lib.hid hwm
  clear hl hm hA hB hwl hwm
  unfold maxLen at h1 h2
  go_enter Try.func83, Try.ntmps83
  go_wp2
  go_loopw [5] (fun i wr => ∃ k : Nat, k ≤ n1 ∧ k ≤ n2 ∧ i = .int .i64 k ∧ Hid (cmpR l m = cmpR (l.drop k) (m.drop k)) ∧ Below w.heap.size w wr) (fun i _ => n1 - (intOf i).toNat)
  case atStart => exact ⟨0, Nat.zero_le _, Nat.zero_le _, rfl, Lib.hid rfl, Below.refl _ _⟩
  case round =>
    obtain ⟨k, hk1, hk2, rfl, HC, hbel⟩ := hrel
    have hsz := hbel.size
    by_cases hlt : k < n1
    · have hkl : k < l.length := by rw [← HL.out]; exact hlt
      obtain ⟨b, off, rfl, hB1, a0, a1, a2⟩ := (HA.out.below hbel) k hkl
      by_cases hlt2 : k < n2
      · have hkm : k < m.length := by rw [← HM.out]; exact hlt2
        obtain ⟨b', off', rfl, hB2, b0, b1, b2⟩ := (HB.out.below hbel) k hkm
        have q1 : b < wr.heap.size := by omega
        have q2 : b' < wr.heap.size := by omega
        obtain ⟨v, HV⟩ : ∃ v, Hid (l[k] = v) := ⟨_, Lib.hid rfl⟩
        obtain ⟨u, HU⟩ : ∃ u, Hid (m[k] = u) := ⟨_, Lib.hid rfl⟩
        rw [HV.out] at a0 a1 a2
        rw [HU.out] at b0 b1 b2
        have hwv : v.wf := HW.out v (by rw [← HV.out]; exact List.getElem_mem hkl)
        have hwu : u.wf := HW2.out u (by rw [← HU.out]; exact List.getElem_mem hkm)
        have i1 : (0 : Int) ≤ (k : Int) := by omega
        have i2 : (k : Int) < (n1 : Int) := by omega
        have i3 : (k : Int) < (n2 : Int) := by omega
        by_cases hc : cmpV v u = 0
        · have HC2 := Lib.hid (cmpR_same hkl hkm HC.out (by rw [HV.out, HU.out]; exact hc))
          go_wp2_with fail
          go_region_with (go_at_call 87; refine (rcmp_any v u hwv hwu _).mono ?_; rintro e w' ⟨rfl, hb⟩)
          all_goals
            go_wp2
            go_roundw
            case rel => exact ⟨k + 1, by omega, by omega, by go_num, HC2, hbel.drew.trans (hb.mono (by simp; omega))⟩
            case measure => simp [intOf]; omega
        · have hne : (cmpV v u != 0) = true := by simpa using hc
          have hne2 : (cmpV v u == 0) = false := by simpa using hc
          have HC2 := Lib.hid (show cmpR l m = cmpV v u by rw [cmpR_here hkl hkm HC.out (by rw [HV.out, HU.out]; exact hc), HV.out, HU.out])
          go_wp2_with fail
          go_region_with (go_at_call 87; refine (rcmp_any v u hwv hwu _).mono ?_; rintro e w' ⟨rfl, hb⟩)
          all_goals
            go_wp2
            go_ret
            exact ⟨ret_int HC2.out.symm, hbel.drew.trans (hb.mono (by simp; omega))⟩
      · have HC2 := Lib.hid (cmpR_long hkl (by rw [← HM.out]; omega) HC.out)
        go_wp2
        go_ret
        exact ⟨ret_int HC2.out.symm, hbel⟩
    · by_cases hlt2 : k < n2
      · have HC2 := Lib.hid (cmpR_short (by rw [← HL.out]; omega) (by rw [← HM.out]; exact hlt2) HC.out)
        have hdd : decide (n1 < n2) = true := decide_eq_true (by omega)
        go_wp2
        go_ret
        exact ⟨ret_int HC2.out.symm, hbel⟩
      · have HC2 := Lib.hid (cmpR_end (by rw [← HL.out]; omega) (by rw [← HM.out]; omega) HC.out)
        have hdd : decide (n1 < n2) = false := decide_eq_false (by omega)
        go_wp2
        go_ret
        exact ⟨ret_int HC2.out.symm, hbel⟩

def sameB (l m : List V) : Bool := decide (l.length = m.length) && (cmpR l m == 0)
theorem same_any (l m : List V) (hwl : ∀ v ∈ l, v.wf) (hwm : ∀ v ∈ m, v.wf) (n1 c1 n2 c2 : Nat) (A B : Option Addr) (w : World) (hl : n1 = l.length) (hm : n2 = m.length) (h1 : n1 ≤ maxLen) (h2 : n2 ≤ maxLen)
    (hA : Row3 w w.heap.size A l) (hB : Row3 w w.heap.size B m) :
    Calls Try.prog 61 #[.slice A n1 c1, .slice B n2 c2] w fun e w' => e = .returned (.bool (sameB l m)) ∧ Below w.heap.size w w' := by
  have H := Lib.hid (rcmprow_any l m hwl hwm n1 c1 n2 c2 A B w hl hm h1 h2 hA hB)
  unfold maxLen at h1 h2
  by_cases hs : n1 = n2
  · have e : sameB l m = (cmpR l m == 0) := by unfold sameB; rw [decide_eq_true (by omega), Bool.true_and]
    rw [e]
    clear e hwl hwm hl hm hA hB
    subst hs
    go_enter Try.func61, Try.ntmps61
    go_wp2_with (go_at_call 83; refine H.out.mono ?_; rintro e w' ⟨rfl, hb⟩)
    go_ret
    exact ⟨rfl, hb⟩
  · have e : sameB l m = false := by unfold sameB; rw [decide_eq_false (by omega), Bool.false_and]
    rw [e]
    clear e hwl hwm hl hm hA hB H
    have hne : (n1 == n2) = false := by simpa using hs
    have hne2 : ((n1 : Int) == (n2 : Int)) = false := by simpa using (by omega : ¬ (n1 : Int) = n2)
    go_enter Try.func61, Try.ntmps61
    go_wp2
    go_ret
    exact ⟨rfl, Below.refl _ _⟩

def bigB (l : List V) : Bool := decide (40 < l.length) || l.any fun v => decide (600 < v.s.size)
theorem big_any (l : List V) (hwl : ∀ v ∈ l, v.wf) (len cap : Nat) (A : Option Addr) (w : World) (hl : len = l.length) (h1 : len ≤ maxLen) (hA : Row3 w w.heap.size A l) :
    Calls Try.prog 36 #[.slice A len cap] w fun e w' => e = .returned (.bool (bigB l)) ∧ w = w' := by
  have HL := Lib.hid hl
  have HA := Lib.hid hA
  have HW := Lib.hid hwl
  clear hl hA hwl
  unfold maxLen at h1
  by_cases h40 : 40 < len
  · have e : bigB l = true := by unfold bigB; rw [decide_eq_true (by rw [← HL.out]; exact h40), Bool.true_or]
    rw [e]
    clear e
    go_enter Try.func36, Try.ntmps36
    go_wp2
    go_ret
    exact ⟨rfl, rfl⟩
  · have hd : decide ((40 : Int) < (len : Int)) = false := decide_eq_false (by omega)
    go_enter Try.func36, Try.ntmps36
    go_wp2
    clear hd
    go_loop [3] (fun i => ∃ k : Nat, k ≤ len ∧ i = .int .i64 k ∧ Hid ((l.take k).any (fun v => decide (600 < v.s.size)) = false)) (fun i => len - (intOf i).toNat)
    case atStart => exact ⟨0, Nat.zero_le _, rfl, Lib.hid rfl⟩
    case round =>
      obtain ⟨k, hk, rfl, HA2⟩ := hrel
      by_cases hlt : k < len
      · have hkl : k < l.length := by rw [← HL.out]; exact hlt
        obtain ⟨b, off, rfl, hB, c0, c1, c2⟩ := HA.out k hkl
        obtain ⟨v, HV⟩ : ∃ v, Hid (l[k] = v) := ⟨_, Lib.hid rfl⟩
        rw [HV.out] at c0 c1 c2
        have hwv : v.wf := HW.out v (by rw [← HV.out]; exact List.getElem_mem hkl)
        have hws : v.s.size ≤ 9223372036854775807 := hwv.2.2
        by_cases hc : 600 < v.s.size
        · have HE := Lib.hid (show bigB l = true by
            unfold bigB
            rw [show l.any (fun v => decide (600 < v.s.size)) = true by rw [List.any_eq_true]; exact ⟨l[k], List.getElem_mem hkl, by rw [HV.out]; exact decide_eq_true hc⟩, Bool.or_true])
          go_wp2
          go_ret
          exact ⟨ret_bool HE.out.symm, rfl⟩
        · have HA3 := Lib.hid (show (l.take (k + 1)).any (fun v => decide (600 < v.s.size)) = false by
            rw [List.take_succ_eq_append_getElem hkl, List.any_append, HA2.out, HV.out]
            simp; omega)
          go_wp2
          go_round
          case rel => exact ⟨k + 1, by omega, by go_num, HA3⟩
          case measure => simp [intOf]; omega
      · have HE := Lib.hid (show bigB l = false by
          have h2 := HA2.out
          rw [List.take_of_length_le (by rw [← HL.out]; omega)] at h2
          unfold bigB
          rw [h2, decide_eq_false (by rw [← HL.out]; omega)]
          rfl)
        go_wp2
        go_ret
        exact ⟨ret_bool HE.out.symm, rfl⟩

def V.cells (v : V) : List Value := [.int .i64 v.k, .int .i64 v.n, .string v.s]
def cellsOf (l : List V) : List Value := l.flatMap V.cells
theorem cellsOf_length (l : List V) : (cellsOf l).length = l.length * 3 := by
  induction l with
  | nil => rfl
  | cons v l ih => simp [cellsOf, V.cells] at ih ⊢; omega
theorem cellsOf_append (a b : List V) : cellsOf (a ++ b) = cellsOf a ++ cellsOf b := by simp [cellsOf]
theorem cells_at : ∀ (l : List V) (q : Nat) (h : q < l.length), (cellsOf l)[q * 3]? = some (.int .i64 l[q].k) ∧ (cellsOf l)[q * 3 + 1]? = some (.int .i64 l[q].n) ∧ (cellsOf l)[q * 3 + 2]? = some (.string l[q].s)
  | [], q, h => by simp at h
  | v :: l, 0, h => by simp [cellsOf, V.cells]
  | v :: l, q + 1, h => by
    have ih := cells_at l q (by simpa using h)
    have e : cellsOf (v :: l) = [.int .i64 v.k, .int .i64 v.n, .string v.s] ++ cellsOf l := rfl
    have hs : ∀ j, ([Value.int .i64 v.k, .int .i64 v.n, .string v.s] ++ cellsOf l)[j + 3]? = (cellsOf l)[j]? := fun j => by
      rw [List.getElem?_append_right (by simp)]
      simp
    rw [e, show (q + 1) * 3 = q * 3 + 3 by omega, show q * 3 + 3 + 1 = q * 3 + 1 + 3 by omega, show q * 3 + 3 + 2 = q * 3 + 2 + 3 by omega, hs, hs, hs]
    simpa using ih
theorem cells_one (l : List V) : ∀ u ∈ cellsOf l, u.oneCell' = true := by
  intro u hu
  simp only [cellsOf, List.mem_flatMap, V.cells] at hu
  obtain ⟨v, _, hv⟩ := hu
  simp at hv
  rcases hv with rfl | rfl | rfl <;> rfl
theorem add_at (b off j : Nat) : (⟨b, off, none⟩ : Addr).add j = ⟨b, off + j, none⟩ := by unfold Addr.add; split <;> simp_all

theorem row3_of_own {w : World} {base : Nat} {A : Option Addr} {n c : Nat} {l : List V} (h : w.ownsRow base 85 3 (.slice A n c) n (cellsOf l)) : n = l.length ∧ Row3 w w.heap.size A l := by
  have hl := h.1
  rw [cellsOf_length] at hl
  have hn : n = l.length := by omega
  refine ⟨hn, fun j hj => ?_⟩
  obtain ⟨g, cap, hv, _, hlt⟩ := h.form (by omega)
  injection hv with h1 _ _
  subst h1
  obtain ⟨e0, e1, e2⟩ := cells_at l j hj
  have hc := h.cells (g := g) rfl
  have c0 := hc _ _ e0
  have c1 := hc _ _ e1
  have c2 := hc _ _ e2
  rw [add_at] at c0 c1 c2
  exact ⟨g, 0, rfl, hlt, c0, by rw [Nat.add_assoc]; exact c1, by rw [Nat.add_assoc]; exact c2⟩
theorem cells_of_row3 {w : World} {B : Nat} {b off : Nat} {l : List V} (h : Row3 w B (some ⟨b, off, none⟩) l) : ∀ j u, (cellsOf l)[j]? = some u → w.cell? ((⟨b, off, none⟩ : Addr).add j) = some u := by
  intro j u hu
  have hj : j < l.length * 3 := by rw [← cellsOf_length]; exact (List.getElem?_eq_some_iff.1 hu).1
  obtain ⟨b', off', e, _, c0, c1, c2⟩ := h (j / 3) (by omega)
  simp only [Option.some.injEq, Addr.mk.injEq, and_true] at e
  obtain ⟨rfl, rfl⟩ := e
  obtain ⟨e0, e1, e2⟩ := cells_at l (j / 3) (by omega)
  rw [add_at]
  rcases (show j = j / 3 * 3 ∨ j = j / 3 * 3 + 1 ∨ j = j / 3 * 3 + 2 by omega) with h | h | h
  · rw [← h] at e0 c0; rw [e0] at hu; injection hu with hu; subst hu; exact c0
  · rw [← h] at e1; rw [Nat.add_assoc, ← h] at c1; rw [e1] at hu; injection hu with hu; subst hu; exact c1
  · rw [← h] at e2; rw [Nat.add_assoc, ← h] at c2; rw [e2] at hu; injection hu with hu; subst hu; exact c2

theorem infoVal : (Try.prog.info? 85).map (fun i => (i.zero, i.size, i.bytes)) = some (some (Value.agg #[.int .i64 0, .int .i64 0, .string ⟨#[]⟩]), 3, 32) := by kernel_rfl

theorem Row3.none_ {w : World} {B : Nat} {l : List V} (h : Row3 w B none l) : l = [] := by
  cases l with
  | nil => rfl
  | cons v l =>
    obtain ⟨b, off, e, _⟩ := h 0 (by simp)
    cases e
theorem Row3.some_ {w : World} {B : Nat} {a : Addr} {l : List V} (h : Row3 w B (some a) l) : ∀ j u, (cellsOf l)[j]? = some u → w.cell? (a.add j) = some u := by
  cases l with
  | nil => intro j u hu; simp [cellsOf] at hu
  | cons v l =>
    obtain ⟨b, off, e, _⟩ := h 0 (by simp)
    injection e with e
    subst e
    exact cells_of_row3 h

end Go.Proofs.Ytkpajmgbiepmbaa
