/- The walks of the makers and of what is right: both texts. -/
import Derived.Test.YtnginemabkecmaaDoorRows
import Derived.Test.YtnginemabkecmaaDoorValPlain3
import Derived.Test.YtnginemabkecmaaDoorScope
import Derived.WalkKit
import Derived.WalkLawsBesides
import Derived.WalkSpells
import Derived.ProofKit
import Derived.Below
import Derived.Outline
import Derived.Lib.Hide
import Derived.BigQuiet
import Derived.Deep.QuietTactic
import Derived.Deep.RegionWith
import Derived.Deep.RegionHeld3
import Derived.LoopTactic
namespace Go.Proofs.YtnginemabkecmaaDoor
open Go.ChangeShapes Go.WideShapes Go.ChangeAt Go.RowKit
set_option linter.unusedVariables false

def V.val (v : V) : Value := .agg #[.int .i64 v.k, .int .i64 v.n, .string v.s]

theorem ret_int {k : IntKind} {a b : Int} (h : a = b) : Ending.returned (.int k a) = .returned (.int k b) := by rw [h]
theorem ret_bool {a b : Bool} (h : a = b) : Ending.returned (.bool a) = .returned (.bool b) := by rw [h]
theorem isEmpty_size (s : ByteArray) : s.toList.isEmpty = decide (s.size = 0) := by
  rw [Lib.toList_data, size_eq]
  cases s.data.toList <;> simp
theorem toList_nil (s : ByteArray) : (s.toList = []) = (s.size = 0) := by
  rw [Lib.toList_data, size_eq]
  cases s.data.toList <;> simp

theorem int_any (n : Int) (w : World) :
    Calls Tryd.prog 15 #[.int .i64 n] w fun e w' => e = .returned (V.val ⟨1, n, mt⟩) ∧ Below w.heap.size w w' := by
  go_enter Tryd.func15, Tryd.ntmps15
  go_wp2
  exact bodyPost_ret (v := V.val ⟨1, n, mt⟩) (by simp [results, Tryd.results15, go_sem, V.val, mt]) rfl ⟨rfl, (Below.refl _ _).alloc (Nat.le_refl _) _⟩
theorem text_any (s : ByteArray) (w : World) :
    Calls Tryd.prog 17 #[.string s] w fun e w' => e = .returned (V.val ⟨3, 0, s⟩) ∧ Below w.heap.size w w' := by
  go_enter Tryd.func17, Tryd.ntmps17
  go_wp2
  exact bodyPost_ret (v := V.val ⟨3, 0, s⟩) (by simp [results, Tryd.results17, go_sem, V.val]) rfl ⟨rfl, (Below.refl _ _).alloc (Nat.le_refl _) _⟩
theorem bool_any (b : Bool) (w : World) :
    Calls Tryd.prog 16 #[.bool b] w fun e w' => e = .returned (V.val ⟨2, if b then 1 else 0, mt⟩) ∧ Below w.heap.size w w' := by
  cases b
  all_goals
    go_enter Tryd.func16, Tryd.ntmps16
    go_wp2
    refine bodyPost_ret (v := V.val ⟨2, _, mt⟩) (by simp [results, Tryd.results16, go_sem, V.val, mt]) rfl ⟨rfl, ((Below.refl _ _).alloc (Nat.le_refl _) _).alloc (by simp) _⟩

theorem check_any (v : V) (hw : v.wf) (w : World) :
    Calls Tryd.prog 11 #[v.val] w fun e w' => e = .returned (.int .i64 (chk v)) ∧ Below w.heap.size w w' := by
  obtain ⟨k, n, s⟩ := v
  obtain ⟨wk, wn, ws⟩ := hw
  simp only [in64] at wk wn ws
  unfold V.val
  dsimp only
  go_enter Tryd.func11, Tryd.ntmps11
  go_wp2
  refine wp_scope_land 2 ?_
  go_wp2
  all_goals (try (refine wp_goto ?_; refine land_goto rfl ?_; go_wp2))
  all_goals (try (refine wp_goto ?_; refine land_goto rfl ?_; go_wp2))
  all_goals (try (go_step3; go_wp2))
  all_goals (try rw [land_ret])
  all_goals go_ret
  all_goals refine ⟨ret_int ?_, (Below.refl _ _).alloc (Nat.le_refl _) _⟩
  all_goals try simp only [isEmpty_size, decide_eq_true_eq, decide_eq_false_iff_not, beq_iff_eq, beq_eq_false_iff_ne, bne_iff_ne, ne_eq, bne_eq_false_iff_eq] at *
  all_goals (unfold chk; dsimp only; repeat' split)
  all_goals first | rfl | (exfalso; omega)

theorem rcheck_any (v : V) (hw : v.wf) (w : World) :
    Calls Tryd.prog 12 #[v.val] w fun e w' => e = .returned (.int .i64 (chk v)) ∧ Below w.heap.size w w' := by
  obtain ⟨k, n, s⟩ := v
  obtain ⟨wk, wn, ws⟩ := hw
  simp only [in64] at wk wn ws
  unfold V.val
  dsimp only
  go_enter Tryd.func12, Tryd.ntmps12
  go_wp2
  all_goals go_ret
  all_goals refine ⟨ret_int ?_, (Below.refl _ _).alloc (Nat.le_refl _) _⟩
  all_goals try simp only [toList_nil, beq_iff_eq, beq_eq_false_iff_ne, bne_iff_ne, ne_eq, bne_eq_false_iff_eq] at *
  all_goals (unfold chk; dsimp only; repeat' split)
  all_goals first | rfl | (exfalso; omega)

/-- The values l lie side by side from A on, below block B. -/
def Row3 (w : World) (B : Nat) (A : Option Addr) (l : List V) : Prop :=
  ∀ (j : Nat) (h : j < l.length), ∃ b off, A = some ⟨b, off, none⟩ ∧ b < B ∧ w.cell? ⟨b, off + j * 3, none⟩ = some (.int .i64 l[j].k) ∧
    w.cell? ⟨b, off + j * 3 + 1, none⟩ = some (.int .i64 l[j].n) ∧ w.cell? ⟨b, off + j * 3 + 2, none⟩ = some (.string l[j].s)

theorem Row3.below {w w' : World} {B : Nat} {A : Option Addr} {l : List V} (h : Row3 w B A l) (hb : Below B w w') : Row3 w' B A l := by
  intro j hj
  obtain ⟨b, off, e, hlt, h0, h1, h2⟩ := h j hj
  exact ⟨b, off, e, hlt, (hb.cell (p := ⟨b, _, none⟩) hlt).trans h0, (hb.cell (p := ⟨b, _, none⟩) hlt).trans h1, (hb.cell (p := ⟨b, _, none⟩) hlt).trans h2⟩
theorem Row3.more {w : World} {B B' : Nat} {A : Option Addr} {l : List V} (h : Row3 w B A l) (hb : B ≤ B') : Row3 w B' A l := by
  intro j hj
  obtain ⟨b, off, e, hlt, h0, h1, h2⟩ := h j hj
  exact ⟨b, off, e, by omega, h0, h1, h2⟩
theorem rowB_far {l : List V} (h : 12 < l.length) : rowB l = false := by
  unfold rowB
  rw [decide_eq_false (by omega), Bool.false_and]
theorem rowB_bad {l : List V} {v : V} (hm : v ∈ l) (h : chk v ≠ 0) : rowB l = false := by
  unfold rowB allB
  rw [show l.all (fun v => chk v == 0) = false by rw [List.all_eq_false]; exact ⟨v, hm, by simpa using h⟩, Bool.and_false]
theorem rowB_all {l : List V} (h12 : l.length ≤ 12) (h : allB l = true) : rowB l = true := by
  unfold rowB
  rw [decide_eq_true h12, h]
  rfl
theorem allB_snoc {l : List V} {k : Nat} (hk : k < l.length) (h : allB (l.take k) = true) (hc : chk l[k] = 0) : allB (l.take (k + 1)) = true := by
  rw [List.take_succ_eq_append_getElem hk]
  unfold allB at *
  rw [List.all_append, h]
  simp [hc]

theorem rrow_any (l : List V) (hw : ∀ v ∈ l, v.wf) (len cap : Nat) (A : Option Addr) (w : World) (hl : len = l.length) (hm : len ≤ maxLen) (hr : Row3 w w.heap.size A l) :
    Calls Tryd.prog 14 #[.slice A len cap] w fun e w' => e = .returned (.bool (rowB l)) ∧ Below w.heap.size w w' := by
  have HL := Lib.hid hl
  have HR := Lib.hid hr
  have HW := Lib.hid hw
  clear hl hr hw
  unfold maxLen at hm
  by_cases h12 : 12 < len
  · go_enter Tryd.func14, Tryd.ntmps14
    go_wp2
    go_ret
    exact ⟨ret_bool (rowB_far (by rw [← HL.out]; exact h12)).symm, Below.refl _ _⟩
  · have hd : decide ((12 : Int) < (len : Int)) = false := decide_eq_false (by omega)
    go_enter Tryd.func14, Tryd.ntmps14
    go_wp2
    clear hd
    go_loopw [3] (fun i wr => ∃ k : Nat, k ≤ len ∧ i = .int .i64 k ∧ Hid (allB (l.take k) = true) ∧ Below w.heap.size w wr) (fun i _ => len - (intOf i).toNat)
    case atStart => exact ⟨0, Nat.zero_le _, rfl, Lib.hid rfl, Below.refl _ _⟩
    case round =>
      obtain ⟨k, hk, rfl, HA, hbel⟩ := hrel
      by_cases hlt : k < len
      · have hkl : k < l.length := by rw [← HL.out]; exact hlt
        obtain ⟨b, off, rfl, hB, c0, c1, c2⟩ := (HR.out.below hbel) k hkl
        obtain ⟨v, HV⟩ : ∃ v, Hid (l[k] = v) := ⟨_, Lib.hid rfl⟩
        rw [HV.out] at c0 c1 c2
        have hwv : v.wf := HW.out v (by rw [← HV.out]; exact List.getElem_mem hkl)
        by_cases hc : chk v = 0
        · have HA2 := Lib.hid (allB_snoc hkl HA.out (by rw [HV.out]; exact hc))
          go_wp2_with (go_at_call 12; refine (rcheck_any v hwv _).mono ?_; rintro e w' ⟨rfl, hb⟩)
          go_roundw
          case rel => exact ⟨k + 1, by omega, by go_num, HA2, hbel.trans (hb.mono hbel.size)⟩
          case measure => simp [intOf]; omega
        · have hne : (chk v != 0) = true := by simpa using hc
          have hne2 : (chk v == 0) = false := by simpa using hc
          go_wp2_with (go_at_call 12; refine (rcheck_any v hwv _).mono ?_; rintro e w' ⟨rfl, hb⟩)
          go_ret
          exact ⟨ret_bool (rowB_bad (by rw [← HV.out]; exact List.getElem_mem hkl) hc).symm, hbel.trans (hb.mono hbel.size)⟩
      · have hk2 : k = len := by omega
        have HA2 := Lib.hid (show allB l = true by have := HA.out; rwa [hk2, HL.out, List.take_length] at this)
        clear hk2
        go_wp2
        go_ret
        exact ⟨ret_bool (rowB_all (by rw [← HL.out]; omega) HA2.out).symm, hbel⟩
end Go.Proofs.YtnginemabkecmaaDoor
