/- The walks of package num: each function's contract over sums that stand for whole numbers. -/
import Derived.Test.YtnfffkppgfokcaaRows
import Derived.Test.YtnfffkppgfokcaaNumPlain
import Derived.WalkKit
import Derived.WalkLawsBesides
import Derived.WalkSpells
import Derived.ProofKit
import Derived.Below
import Derived.Outline
import Derived.Lib.Hide
import Derived.Laws.Externs
import Derived.BigQuiet
import Derived.Deep.QuietTactic
import Derived.Deep.RegionWith
import Derived.Deep.RegionHeld3
namespace Go.Proofs.Ytnfffkppgfokcaa
open Go.ChangeShapes Go.WideShapes Go.ChangeAt Go.RowKit

theorem of_any (n : Int) (hn : In64 n) (w : World) :
    Calls Try.prog 23 #[.int .i64 n] w fun e w' => e = .returned (SumV n) ∧ Below w.heap.size w w' := by
  have H := Lib.hid (hi_of hn)
  have H2 := Lib.hid (lo_of n)
  go_enter Try.func23, Try.ntmps23
  go_wp2
  rw [H.out, H2.out]
  exact bodyPost_ret (v := SumV n) (by simp [results, Try.results23, go_sem]) rfl ⟨rfl, (Below.refl _ _).alloc (Nat.le_refl _) _⟩

theorem add64_0 (x y : Int) (hx : 0 ≤ x) (hy : 0 ≤ y) (w : World) :
    (callFunc 31 #[.int .u64 x, .int .u64 y, .int .u64 0]).run Try.prog w = .ok (.value (.tuple #[.int .u64 (loA x y), .int .u64 (cyA x y)])) w := by
  rw [run_callFunc_extern Try.func31 (by kernel_rfl) (by kernel_rfl) (by kernel_rfl) (e := add64Entry) (by kernel_rfl), run_add64 x y 0 hx hy (by omega) (by omega)]
  simp only [Result.andThen, loA, cyA, Int.add_zero]

theorem both_any (x y : Int) (w : World) :
    Calls Try.prog 17 #[SumV x, SumV y] w fun e w' => e = .returned (SumV (x + y)) ∧ Below w.heap.size w w' := by
  have h := fun W => add64_0 (loZ x) (loZ y) (loZ_nonneg x) (loZ_nonneg y) W
  go_enter Try.func17, Try.ntmps17
  go_wp2
  clear h
  rw [hi_both', lo_both]
  exact bodyPost_ret (v := SumV (x + y)) (by simp [results, Try.results17, go_sem]) rfl ⟨rfl, (((Below.refl _ _).alloc (Nat.le_refl _) _).alloc (by simp) _).alloc (by simp; omega) _⟩

theorem bcell {W w1 : World} (hb : Below W.heap.size W w1) : (∀ b o, b < W.heap.size → w1.cell? ⟨b, o, none⟩ = W.cell? ⟨b, o, none⟩) ∧ (∀ b o, b < W.heap.size → w1.frozen? ⟨b, o, none⟩ = W.frozen? ⟨b, o, none⟩) :=
  ⟨fun b o h => hb.cell (p := ⟨b, o, none⟩) h, fun b o h => hb.frozen (p := ⟨b, o, none⟩) h⟩

theorem frozen_later {w wx : World} {a : Addr} {v : Value} (hb : Below w.heap.size w wx) (h : w.cell? a = some v) (hf : w.frozen? a = false) : wx.frozen? a = false :=
  (hb.frozen (World.block_lt_of_cell? _ _ h)).trans hf

theorem add_any (x n : Int) (hn : In64 n) (w : World) :
    Calls Try.prog 19 #[SumV x, .int .i64 n] w fun e w' => e = .returned (SumV (x + n)) ∧ Below w.heap.size w w' := by
  go_enter Try.func19, Try.ntmps19
  go_wp2
  go_region_with ((first | (go_at_call 23; refine (of_any n hn _).mono ?_; rintro e w1 ⟨rfl, hb⟩; have c0 : w1.cell? ⟨w.heap.size, 0, none⟩ = some (.int .i64 (hiZ x)) := cell_later hb (by simp [go_sem]); have c1 : w1.cell? ⟨w.heap.size, 1, none⟩ = some (.int .u64 (loZ x)) := cell_later hb (by simp [go_sem]); have d0 : w1.cell? ⟨w.heap.size + 1, 0, none⟩ = some (.int .i64 0) := cell_later hb (by simp [go_sem]); have d1 : w1.cell? ⟨w.heap.size + 1, 1, none⟩ = some (.int .u64 0) := cell_later hb (by simp [go_sem]); have f0 : w1.frozen? ⟨w.heap.size + 1, 0, none⟩ = false := frozen_later (v := .int .i64 0) hb (by simp [go_sem]) (by simp [go_sem]); have f1 : w1.frozen? ⟨w.heap.size + 1, 1, none⟩ = false := frozen_later (v := .int .u64 0) hb (by simp [go_sem]) (by simp [go_sem])) | (go_at_call 17; refine (both_any x n _).mono ?_; rintro e w2 ⟨rfl, hb2⟩; have d2 := cell_later hb2 d0; have d3 := cell_later hb2 d1; have f2 := frozen_later hb2 d0 f0; have f3 := frozen_later hb2 d1 f1)))
  all_goals
    go_wp2
    have hA : Below w.heap.size w w2 := (((((Below.refl _ _).alloc (Nat.le_refl _) _).alloc (by simp) _).drew).trans (hb.mono (by simp; omega))).trans (hb2.mono (by have := hb.size; simp at this; omega))
    exact bodyPost_ret (v := SumV (x + n)) (by simp [results, Try.results19, go_sem, d2, d3]) rfl ⟨rfl, (hA.setCell (by simp) _).setCell (by simp) _⟩

theorem negative_any (x : Int) (w : World) :
    Calls Try.prog 24 #[SumV x] w fun e w' => e = .returned (SumV (-x)) ∧ Below w.heap.size w w' := by
  have H := not_hi x
  have H2 := not_lo x
  have s1 : IntKind.i64.signed = true := rfl
  have s2 : IntKind.u64.signed = false := rfl
  have e1 : -x - 1 + 1 = -x := by omega
  have E1 := Lib.hid e1
  clear e1
  go_enter Try.func24, Try.ntmps24
  go_wp2_with (go_at_call 19; refine (add_any (-x - 1) 1 (by unfold In64; omega) _).mono ?_; rw [E1.out]; rintro e w1 ⟨rfl, hb⟩; have d0 : w1.cell? ⟨w.heap.size + 1, 0, none⟩ = some (.int .i64 0) := cell_later hb (by simp [go_sem]); have d1 : w1.cell? ⟨w.heap.size + 1, 1, none⟩ = some (.int .u64 0) := cell_later hb (by simp [go_sem]); have f0 : w1.frozen? ⟨w.heap.size + 1, 0, none⟩ = false := frozen_later (v := .int .i64 0) hb (by simp [go_sem]) (by simp [go_sem]); have f1 : w1.frozen? ⟨w.heap.size + 1, 1, none⟩ = false := frozen_later (v := .int .u64 0) hb (by simp [go_sem]) (by simp [go_sem]))
  have hA : Below w.heap.size w w1 := ((((Below.refl _ _).alloc (Nat.le_refl _) _).alloc (by simp) _)).trans (hb.mono (by simp; omega))
  exact bodyPost_ret (v := SumV (-x)) (by simp [results, Try.results24, go_sem, d0, d1]) rfl ⟨rfl, (hA.setCell (by simp) _).setCell (by simp) _⟩

end Go.Proofs.Ytnfffkppgfokcaa
