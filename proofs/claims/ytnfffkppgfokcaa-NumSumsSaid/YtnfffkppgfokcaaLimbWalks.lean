/- The walks of the document's own sums by parts of sixteen bits. -/
import Derived.Test.YtnfffkppgfokcaaNumLaws
import Derived.Test.YtnfffkppgfokcaaLimbPlain
import Derived.LoopTactic
namespace Go.Proofs.Ytnfffkppgfokcaa
open Go.ChangeShapes Go.WideShapes Go.ChangeAt Go.RowKit

theorem wide_any (n : Int) (hn : In64 n) (w : World) :
    Calls Try.prog 20 #[.int .i64 n] w fun e w' => e = .returned (SumV n) ∧ Below w.heap.size w w' := by
  have H2 := Lib.hid (lo_of n)
  by_cases h : n < 0
  · have H := Lib.hid (show (-1 : Int) = hiZ n by unfold hiZ In64 at *; rw [IntKind.wrap_i64]; omega)
    go_enter Try.func20, Try.ntmps20
    go_wp2
    rw [H2.out, H.out]
    exact bodyPost_ret (v := SumV n) (by simp [results, Try.results20, go_sem]) rfl ⟨rfl, (Below.refl _ _).alloc (Nat.le_refl _) _⟩
  · have H := Lib.hid (show (0 : Int) = hiZ n by unfold hiZ In64 at *; rw [IntKind.wrap_i64]; omega)
    go_enter Try.func20, Try.ntmps20
    go_wp2
    rw [H2.out]
    rw [H.out]
    exact bodyPost_ret (v := SumV n) (by simp [results, Try.results20, go_sem]) rfl ⟨rfl, (Below.refl _ _).alloc (Nat.le_refl _) _⟩

set_option maxRecDepth 100000 in
set_option maxHeartbeats 1000000 in
theorem limbs_any (x : Int) (w : World) :
    Calls Try.prog 28 #[SumV x] w fun e w' => e = .returned (LimV x) ∧ Below w.heap.size w w' := by
  have h0 := lim_lo0 x; have h1 := lim_lo1 x; have h2 := lim_lo2 x; have h3 := lim_lo3 x
  have h4 := lim_hi0 x; have h5 := lim_hi1 x; have h6 := lim_hi2 x; have h7 := lim_hi3 x
  go_enter Try.func28, Try.ntmps28
  go_wp2
  refine wp_loop_rounds 5 ?_
  iterate 5 (rw [rounds_succ]; go_wp2)
  exact bodyPost_ret (v := LimV x) (by simp [results, Try.results28, go_sem]) rfl ⟨rfl, (((Below.refl _ _).alloc (Nat.le_refl _) _).alloc (by simp) _).alloc (by simp; omega) _⟩

set_option maxRecDepth 100000 in
set_option maxHeartbeats 1000000 in
theorem of_limbs (x : Int) (w : World) :
    Calls Try.prog 29 #[LimV x] w fun e w' => e = .returned (SumV x) ∧ Below w.heap.size w w' := by
  have t0 := lo_top x; have t1 := hi_top x
  have l0 := lo_step0 x; have l1 := lo_step1 x; have l2 := lo_step2 x
  have k0 := hi_step0 x; have k1 := hi_step1 x; have k2 := hi_step2 x
  have z0 := lo_end x; have z1 := hi_end x
  go_enter Try.func29, Try.ntmps29
  go_wp2
  refine wp_loop_rounds 5 ?_
  iterate 5 (rw [rounds_succ]; go_wp2)
  exact bodyPost_ret (v := SumV x) (by simp [results, Try.results29, go_sem]) rfl ⟨rfl, ((Below.refl _ _).alloc (Nat.le_refl _) _).alloc (by simp) _⟩
end Go.Proofs.Ytnfffkppgfokcaa
