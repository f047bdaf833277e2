/- Layer 15, walked: the example. -/
import Derived.Test.YtihgcfokenabgaaAgX8
namespace Go.Proofs.Ytihgcfokenabgaa
open Go Go.ChangeShapes Go.WideShapes Go.ChangeAt Go.RowKit
set_option linter.unusedVariables false
set_option linter.unusedSimpArgs false
theorem ex_fold : fold3 zeroA [9223372036854775807, 1, -1] = ⟨3, 9223372036854775807, nulA⟩ := by kernel_rfl
theorem ex_worth : worthA 3 ⟨3, 9223372036854775807, nulA⟩ = (intA 9223372036854775807, 0) := by kernel_rfl
theorem alive_any (w : World) : Calls Try.prog 8 #[] w fun e w' => e = .returned (.bool true) ∧ Below w.heap.size w w' := by
  obtain ⟨W1, hW1⟩ : ∃ W1, w.alloc (.cells #[.int .i64 9223372036854775807, .int .i64 1, .int .i64 (-1)] 2) = W1 := ⟨_, rfl⟩
  have hb1 : Below w.heap.size w W1 := by rw [← hW1]; exact (Below.refl _ _).alloc (Nat.le_refl _) _
  have hq : W1.heap[w.heap.size]? = some (.cells #[.int .i64 9223372036854775807, .int .i64 1, .int .i64 (-1)] 2) := by rw [← hW1]; exact World.alloc_heap_new _ _
  have HF := Lib.hid (afold64_any [9223372036854775807, 1, -1] (by simp [In64]) 3 3 (some ⟨w.heap.size, 0, none⟩) W1 rfl (by decide) (by decide) (by
    intro j hj
    refine ⟨w.heap.size, 0, rfl, heap_lt hq, ?_⟩
    match j, hj with
    | 0, _ => simp [World.cell?, hq]
    | 1, _ => simp [World.cell?, hq]
    | 2, _ => simp [World.cell?, hq]))
  have HW := Lib.hid (fun W => aworth_any 3 ⟨3, 9223372036854775807, nulA⟩ (by unfold In128; decide) W)
  rw [ex_fold] at HF
  simp only [ex_worth] at HW
  unfold Ac.V at HF HW
  unfold V.val intA at HW
  have HB1 := Lib.hid hb1
  clear hb1 hq
  go_enter Try.func8, Try.ntmps8
  go_wp2_with (first
    | (go_at_call 24; go_loud (refine HF.out.mono ?_; rintro en w2 ⟨rfl, hb2⟩; have HB2 := Lib.hid (hop1 HB1.out hb2); clear hb2))
    | (go_at_call 15; go_loud (refine (HW.out _).mono ?_; rintro en w3 ⟨rfl, hb3⟩; have HB3 := Lib.hid (hop1 HB2.out (hop1 ((Below.refl _ _).alloc (Nat.le_refl _) _) hb3)); clear hb3)))
  go_ret
  exact ⟨by simp, HB3.out.alloc HB3.out.size _⟩
end Go.Proofs.Ytihgcfokenabgaa
