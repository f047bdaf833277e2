/- The walk of the document's copy of a row. -/
import Derived.Test.YtnginemabkecmaaDoorValUnkey
import Derived.Laws.OwnMore
namespace Go.Proofs.YtnginemabkecmaaDoor
open Go.ChangeShapes Go.WideShapes Go.ChangeAt Go.RowKit
set_option linter.unusedVariables false

def FreshPost (l : List V) (w : World) (e : Ending) (w' : World) : Prop :=
  ∃ A c, e = .returned (.slice A l.length c) ∧ w'.ownsRow w.heap.size 23 3 (.slice A l.length c) l.length (cellsOf l) ∧ w.heap.size < w'.heap.size ∧ Below w.heap.size w w'

set_option maxHeartbeats 1000000 in
theorem rcopy_any (l : List V) (len c : Nat) (A : Option Addr) (w : World) (hl : len = l.length) (hm : len ≤ 65536) (hr : Row3 w w.heap.size A l) :
    Calls Tryd.prog 28 #[.slice A len c] w (FreshPost l w) := by
  have HL := Lib.hid hl
  have HR := Lib.hid hr
  clear hl hr
  go_enter Tryd.func28, Tryd.ntmps28
  go_wp2
  go_loopw [3, 4] (fun sv iv wr => ∃ (k : Nat) (A' : Option Addr) (c' : Nat), k ≤ len ∧ iv = .int .i64 (k : Int) ∧ sv = .slice A' k c' ∧ Hid (wr.ownsRow w.heap.size 23 3 (.slice A' k c') k (cellsOf (l.take k)) ∧ w.heap.size < wr.heap.size ∧ Below w.heap.size w wr)) (fun _ iv _ => len - (intOf iv).toNat)
  case atStart =>
    refine ⟨0, _, _, Nat.zero_le _, rfl, rfl, Lib.hid ⟨?_, by simp, (Below.refl _ _).alloc (Nat.le_refl _) _⟩⟩
    exact World.ownsRow_made (e := 23) (size := 3) (base := w.heap.size) w #[] 0 (Nat.le_refl _) (by decide) rfl
  case round =>
    obtain ⟨k, A', c', hk, rfl, rfl, HK⟩ := hrel
    have hlt0 := HK.out.2.1
    by_cases hlt : k < len
    · have hkl : k < l.length := by rw [← HL.out]; exact hlt
      have hs := HK.out.2.2.size
      obtain ⟨b, off, rfl, hB, c0, c1, c2⟩ := (HR.out.below HK.out.2.2) k hkl
      obtain ⟨v, HV⟩ : ∃ v, Hid (l[k] = v) := ⟨_, Lib.hid rfl⟩
      rw [HV.out] at c0 c1 c2
      have HT := Lib.hid (show l.take (k + 1) = l.take k ++ [v] by rw [List.take_succ_eq_append_getElem hkl, HV.out])
      go_wp2_with (at_builtin; go_loud (refine append_val rfl _ _ rfl w.heap.size A' k c' (l.take k) rfl _ v HK.out.1 hs _ rfl (by simp) (by omega) [_, _, _] rfl ?_); intro A3 n3 c3 w3 hn3 ho3 hb3; have HO3 := Lib.hid ho3; have HB3 := Lib.hid (HK.out.2.2.trans hb3); have hl3 := hb3.size; clear ho3 hb3; subst hn3)
      go_roundw
      case rel => exact ⟨k + 1, A3, c3, by omega, by go_num, rfl, Lib.hid ⟨by rw [HT.out]; exact HO3.out, by omega, HB3.out⟩⟩
      case measure => simp [intOf]; omega
    · obtain rfl : k = len := by omega
      have hn := HL.out
      go_wp2
      go_ret
      subst hn
      have ho := HK.out.1
      rw [List.take_length] at ho
      exact ⟨A', c', rfl, ho, HK.out.2.1, HK.out.2.2⟩

/-- Only block g has turned below D. -/
theorem Spare.setAt {g D : Nat} {a w : World} (h : Spare g D a w) (i : Nat) (u : Value) : Spare g D a (w.setCell ⟨g, i, none⟩ u) :=
  h.trans ⟨rfl, rfl, rfl, by simp [World.setCell], fun k _ hk => Below.heap_setCell w _ u k hk⟩
theorem own_one {w : World} {base : Nat} {A : Option Addr} {n c : Nat} {xs : List Value} (h : w.ownsRow base 23 3 (.slice A n c) n xs) (hlt : base < w.heap.size) :
    ∃ g, base ≤ g ∧ g < w.heap.size ∧ ∀ a, A = some a → a = ⟨g, 0, none⟩ := by
  rcases h.2 with ⟨hv, h0⟩ | ⟨g, cap, cur, hv, hg, hh, rest⟩
  · injection hv with h1 _ _
    subst h1
    exact ⟨base, Nat.le_refl _, hlt, fun a e => by cases e⟩
  · injection hv with h1 _ _
    subst h1
    exact ⟨g, hg, (Array.getElem?_eq_some_iff.1 hh).1, fun a e => by cases e; rfl⟩
end Go.Proofs.YtnginemabkecmaaDoor
