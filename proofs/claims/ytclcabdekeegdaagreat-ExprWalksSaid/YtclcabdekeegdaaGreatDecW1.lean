/- What a seat needs of several texts. -/
import Derived.Test.YtclcabdekeegdaaGreatDecP2
/- From DecW1. -/
namespace Go.Proofs.YtclcabdekeegdaaGreat
open Go.ChangeShapes Go.WideShapes Go.ChangeAt Go.RowKit
set_option linter.unusedVariables false
theorem int_any (n : Int) (w : World) :
    Calls Tryz.prog 120 #[.int .i64 n] w fun e w' => e = .returned (V.val ⟨1, n, mt⟩) ∧ Below w.heap.size w w' := by
  go_enter Tryz.func120, Tryz.ntmps120
  go_wp2
  exact bodyPost_ret (v := V.val ⟨1, n, mt⟩) (by simp [results, Tryz.results120, go_sem, V.val, mt]) rfl ⟨rfl, (Below.refl _ _).alloc (Nat.le_refl _) _⟩
theorem bool_any (b : Bool) (w : World) :
    Calls Tryz.prog 117 #[.bool b] w fun e w' => e = .returned (V.val ⟨2, if b then 1 else 0, mt⟩) ∧ Below w.heap.size w w' := by
  cases b
  all_goals
    go_enter Tryz.func117, Tryz.ntmps117
    go_wp2
    refine bodyPost_ret (v := V.val ⟨2, _, mt⟩) (by simp [results, Tryz.results117, go_sem, V.val, mt]) rfl ⟨rfl, ((Below.refl _ _).alloc (Nat.le_refl _) _).alloc (by simp) _⟩
/-- The columns l lie side by side from A on, below block B. -/
def Row2 (w : World) (B : Nat) (A : Option Addr) (l : List C) : Prop :=
  ∀ (j : Nat) (h : j < l.length), ∃ b off, A = some ⟨b, off, none⟩ ∧ b < B ∧ w.cell? ⟨b, off + j * 2, none⟩ = some (.string l[j].s) ∧ w.cell? ⟨b, off + j * 2 + 1, none⟩ = some (.int .i64 l[j].k)
theorem Row2.of {w : World} {B : Nat} {A : Option Addr} {l : List C} (h : RowC C.cells 2 w B A l) : Row2 w B A l := by
  intro j hj
  obtain ⟨b, off, e, hlt, h0⟩ := h j hj
  exact ⟨b, off, e, hlt, h0 0 _ rfl, h0 1 _ rfl⟩
theorem Row2.below {w w' : World} {B : Nat} {A : Option Addr} {l : List C} (h : Row2 w B A l) (hb : Below B w w') : Row2 w' B A l := by
  intro j hj
  obtain ⟨b, off, e, hlt, h0, h1⟩ := h j hj
  exact ⟨b, off, e, hlt, (hb.cell (p := ⟨b, _, none⟩) hlt).trans h0, (hb.cell (p := ⟨b, _, none⟩) hlt).trans h1⟩
theorem Row2.more {w : World} {B B' : Nat} {A : Option Addr} {l : List C} (h : Row2 w B A l) (hb : B ≤ B') : Row2 w B' A l := by
  intro j hj
  obtain ⟨b, off, e, hlt, h0⟩ := h j hj
  exact ⟨b, off, e, by omega, h0⟩
theorem Row2.take {w : World} {B : Nat} {A : Option Addr} {l : List C} (h : Row2 w B A l) (k : Nat) : Row2 w B A (l.take k) := by
  intro j hj
  rw [List.length_take] at hj
  obtain ⟨b, off, e, hlt, h0, h1⟩ := h j (by omega)
  exact ⟨b, off, e, hlt, by rw [List.getElem_take]; exact h0, by rw [List.getElem_take]; exact h1⟩
theorem Row2.some_ {w : World} {B : Nat} {A : Option Addr} {l : List C} (h : Row2 w B A l) (k : Nat) (hk : k < l.length) : ∃ b off, A = some ⟨b, off, none⟩ ∧ b < B := by
  obtain ⟨b, off, e, hlt, _⟩ := h k hk
  exact ⟨b, off, e, hlt⟩
def fI (n : ByteArray) (l : List C) : Int := if findI n l < l.length then (findI n l : Int) else 0
def fB (n : ByteArray) (l : List C) : Bool := decide (findI n l < l.length)
def fM (n : ByteArray) (l : List C) : Int := if findI n l < l.length then (findI n l : Int) else -1
theorem f_hit {n : ByteArray} {l : List C} {k : Nat} (h : findI n l = k) (hk : k < l.length) : fI n l = (k : Int) ∧ fB n l = true ∧ fM n l = (k : Int) := by
  unfold fI fB fM
  rw [h, if_pos hk, if_pos hk, decide_eq_true hk]
  exact ⟨rfl, rfl, rfl⟩
theorem f_miss {n : ByteArray} {l : List C} (h : findI n l = l.length) : fI n l = 0 ∧ fB n l = false ∧ fM n l = -1 := by
  unfold fI fB fM
  rw [h, if_neg (Nat.lt_irrefl _), if_neg (Nat.lt_irrefl _), decide_eq_false (Nat.lt_irrefl _)]
  exact ⟨rfl, rfl, rfl⟩
theorem find_any (l : List C) (n : ByteArray) (len cap : Nat) (A : Option Addr) (w : World) (hl : len = l.length) (hm : len ≤ maxLen) (hr : Row2 w w.heap.size A l) :
    Calls Tryz.prog 92 #[.slice A len cap, .string n] w fun e w' => e = .returned (.tuple #[.int .i64 (fI n l), .bool (fB n l)]) ∧ Below w.heap.size w w' := by
  have HL := Lib.hid hl
  have HR := Lib.hid hr
  clear hl hr
  unfold maxLen at hm
  go_enter Tryz.func92, Tryz.ntmps92
  go_wp2
  go_loopw [10] (fun i wr => ∃ k : Nat, k ≤ len ∧ i = .int .i64 k ∧ Hid (∀ j (hj : j < l.length), j < k → l[j].s ≠ n) ∧ Below w.heap.size w wr) (fun i _ => len - (intOf i).toNat)
  case atStart => exact ⟨0, Nat.zero_le _, rfl, Lib.hid (fun j _ h => by omega), Below.refl _ _⟩
  case round =>
    obtain ⟨k, hk, rfl, HA, hbel⟩ := hrel
    by_cases hlt : k < len
    · have hkl : k < l.length := by rw [← HL.out]; exact hlt
      obtain ⟨b, off, rfl, hB, c0, c1⟩ := (HR.out.below hbel) k hkl
      obtain ⟨c, HV⟩ : ∃ c, Hid (l[k] = c) := ⟨_, Lib.hid rfl⟩
      rw [HV.out] at c0 c1
      by_cases hc : c.s = n
      · have hq := str_eq hc
        have HE := Lib.hid (f_hit (findI_at hkl (by rw [HV.out]; exact hc) (fun j hj => HA.out j (by omega) hj)) hkl)
        clear hc
        go_wp2
        go_ret2
        rw [HE.out.1, HE.out.2.1]
        exact ⟨rfl, hbel.alloc hbel.size _⟩
      · have hq := str_ne hc
        have HA2 := Lib.hid (show ∀ j (hj : j < l.length), j < k + 1 → l[j].s ≠ n from fun j hj h => by
          by_cases h2 : j = k
          · subst h2; rw [HV.out]; exact hc
          · exact HA.out j hj (by omega))
        clear hc
        go_wp2
        go_roundw
        case rel => exact ⟨k + 1, by omega, by go_num, HA2, hbel.alloc hbel.size _⟩
        case measure => simp [intOf]; omega
    · have HE := Lib.hid (f_miss (findI_none fun j hj => HA.out j hj (by have := HL.out; omega)))
      go_wp2
      go_ret2
      rw [HE.out.1, HE.out.2.1]
      exact ⟨rfl, hbel⟩
theorem rfind_any (l : List C) (n : ByteArray) (len cap : Nat) (A : Option Addr) (w : World) (hl : len = l.length) (hm : len ≤ maxLen) (hr : Row2 w w.heap.size A l) :
    Calls Tryz.prog 54 #[.slice A len cap, .string n] w fun e w' => e = .returned (.int .i64 (fM n l)) ∧ w = w' := by
  have HL := Lib.hid hl
  have HR := Lib.hid hr
  clear hl hr
  unfold maxLen at hm
  go_enter Tryz.func54, Tryz.ntmps54
  go_wp2
  go_loop [5] (fun i => ∃ k : Nat, k ≤ len ∧ i = .int .i64 k ∧ Hid (∀ j (hj : j < l.length), j < k → l[j].s ≠ n)) (fun i => len - (intOf i).toNat)
  case atStart => exact ⟨0, Nat.zero_le _, rfl, Lib.hid (fun j _ h => by omega)⟩
  case round =>
    obtain ⟨k, hk, rfl, HA⟩ := hrel
    by_cases hlt : k < len
    · have hkl : k < l.length := by rw [← HL.out]; exact hlt
      obtain ⟨b, off, rfl, hB, c0, c1⟩ := HR.out k hkl
      obtain ⟨c, HV⟩ : ∃ c, Hid (l[k] = c) := ⟨_, Lib.hid rfl⟩
      rw [HV.out] at c0 c1
      by_cases hc : c.s = n
      · have hq := str_eq hc
        have HE := Lib.hid (f_hit (findI_at hkl (by rw [HV.out]; exact hc) (fun j hj => HA.out j (by omega) hj)) hkl)
        clear hc
        go_wp2
        go_ret
        rw [HE.out.2.2]
        exact ⟨rfl, rfl⟩
      · have hq := str_ne hc
        have HA2 := Lib.hid (show ∀ j (hj : j < l.length), j < k + 1 → l[j].s ≠ n from fun j hj h => by
          by_cases h2 : j = k
          · subst h2; rw [HV.out]; exact hc
          · exact HA.out j hj (by omega))
        clear hc
        go_wp2
        go_round
        case rel => exact ⟨k + 1, by omega, by go_num, HA2⟩
        case measure => simp [intOf]; omega
    · have HE := Lib.hid (f_miss (findI_none fun j hj => HA.out j hj (by have := HL.out; omega)))
      go_wp2
      go_ret
      rw [HE.out.2.2]
      exact ⟨rfl, rfl⟩
theorem digit_any (c : UInt8) (w : World) : Calls Tryz.prog 121 #[.int .u8 (c.toNat : Int)] w fun e w' => e = .returned (.bool (dgt c)) ∧ w = w' := by
  have h256 : c.toNat < 256 := c.toNat_lt
  have HD := Lib.hid (show dgt c = decide (48 ≤ c.toNat ∧ c.toNat ≤ 57) from rfl)
  obtain ⟨m, hm⟩ : ∃ m, c.toNat = m := ⟨_, rfl⟩
  rw [hm] at h256 HD ⊢
  rw [HD.out]
  clear HD hm
  go_enter Tryz.func121, Tryz.ntmps121
  by_cases h1 : 48 ≤ m
  · have p1 : decide ((48 : Int) ≤ (m : Int)) = true := decide_eq_true (by omega)
    by_cases h2 : m ≤ 57
    · have p2 : decide ((m : Int) ≤ 57) = true := decide_eq_true (by omega)
      go_wp2
      go_ret
      exact ⟨by simp [h1, h2], rfl⟩
    · have p2 : decide ((m : Int) ≤ 57) = false := decide_eq_false (by omega)
      go_wp2
      go_ret
      exact ⟨by simp [h2], rfl⟩
  · have p1 : decide ((48 : Int) ≤ (m : Int)) = false := decide_eq_false (by omega)
    go_wp2
    go_ret
    exact ⟨by simp [h1], rfl⟩
theorem kind_any (k : Int) (hk : in64 k) (w : World) : Calls Tryz.prog 94 #[.int .i64 k] w fun e w' => e = .returned (.bool (decide (1 ≤ k ∧ k ≤ 3))) ∧ w = w' := by
  unfold in64 at hk
  by_cases h1 : k = 1
  · subst h1
    go_enter Tryz.func94, Tryz.ntmps94
    go_wp2
    go_ret
    exact ⟨rfl, rfl⟩
  · by_cases h2 : k = 2
    · subst h2
      go_enter Tryz.func94, Tryz.ntmps94
      go_wp2
      go_ret
      exact ⟨rfl, rfl⟩
    · have p1 : (k == 1) = false := by simpa using h1
      have p2 : (k == 2) = false := by simpa using h2
      by_cases h3 : k = 3
      · subst h3
        go_enter Tryz.func94, Tryz.ntmps94
        go_wp2
        go_ret
        exact ⟨rfl, rfl⟩
      · have p3 : (k == 3) = false := by simpa using h3
        have HE := Lib.hid (show decide (1 ≤ k ∧ k ≤ 3) = false from decide_eq_false (by omega))
        rw [HE.out]
        clear h1 h2 h3
        go_enter Tryz.func94, Tryz.ntmps94
        go_wp2
        go_ret
        exact ⟨rfl, rfl⟩
theorem hd0_at {s : ByteArray} (h : 0 < s.size) : hd0 s.data.toList = s[0] := by
  have hx : s.data.toList.head? = some s[0] := by
    rw [List.head?_eq_getElem?, List.getElem?_eq_getElem (by rw [← size_eq]; exact h)]; simp; rfl
  unfold hd0
  rw [List.headD_eq_head?_getD, hx]; rfl
theorem list_at {s : ByteArray} {k : Nat} (h : k < s.size) : s.data.toList[k]'(by rw [← size_eq]; exact h) = s[k] := by
  simp; rfl
theorem mem_at {s : ByteArray} {k : Nat} (h : k < s.size) : s[k] ∈ s.data.toList := by
  rw [← list_at h]; exact List.getElem_mem _
theorem empty_eq (s : ByteArray) : (s.toList == (⟨#[]⟩ : ByteArray).toList) = decide (s.size = 0) := by
  rw [str_beq]
  by_cases h : s.size = 0
  · rw [decide_eq_true h, decide_eq_true (empty_of_size h)]
  · rw [decide_eq_false h, decide_eq_false (fun e => h (by rw [e]; rfl))]
end Go.Proofs.YtclcabdekeegdaaGreat
