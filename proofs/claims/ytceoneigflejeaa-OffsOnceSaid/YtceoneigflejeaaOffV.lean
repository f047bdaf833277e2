/- The walk of the examples. -/
import Derived.Test.YtceoneigflejeaaOffU
import Derived.Test.YtceoneigflejeaaOffR
namespace Go.Proofs.Ytceoneigflejeaa
open Go.ChangeShapes Go.WideShapes Go.ChangeAt Go.RowKit
open Go.Lib (byteCells byteCells_length byteCells_append strCells)
set_option linter.unusedVariables false

theorem ex_three (w : World) : Calls Try.prog 16 #[.slice (some ⟨w.heap.size + 1 + 1 + 1, 0, none⟩) 3 3]
    ((((w.alloc (.cells #[.int .i64 0, .int .i64 2] 26)).alloc (.cells #[.int .i64 2, .int .i64 2] 26)).alloc (.cells #[.int .i64 2, .int .i64 5] 26)).alloc (.cells #[.slice (some ⟨w.heap.size, 0, none⟩) 1 1, .slice (some ⟨w.heap.size + 1, 0, none⟩) 1 1, .slice (some ⟨w.heap.size + 1 + 1, 0, none⟩) 1 1] 22))
    fun e w' => e = .returned (.bool true) ∧ Below w.heap.size w w' := by
  obtain ⟨w1, h1⟩ : ∃ w1, w.alloc (.cells #[.int .i64 0, .int .i64 2] 26) = w1 := ⟨_, rfl⟩
  obtain ⟨w2, h2⟩ : ∃ w2, w1.alloc (.cells #[.int .i64 2, .int .i64 2] 26) = w2 := ⟨_, rfl⟩
  obtain ⟨w3, h3⟩ : ∃ w3, w2.alloc (.cells #[.int .i64 2, .int .i64 5] 26) = w3 := ⟨_, rfl⟩
  obtain ⟨w4, h4⟩ : ∃ w4, w3.alloc (.cells #[.slice (some ⟨w.heap.size, 0, none⟩) 1 1, .slice (some ⟨w.heap.size + 1, 0, none⟩) 1 1, .slice (some ⟨w.heap.size + 1 + 1, 0, none⟩) 1 1] 22) = w4 := ⟨_, rfl⟩
  have s1 : w1.heap.size = w.heap.size + 1 := by rw [← h1]; simp
  have s2 : w2.heap.size = w.heap.size + 1 + 1 := by rw [← h2]; simp [s1]
  have s3 : w3.heap.size = w.heap.size + 1 + 1 + 1 := by rw [← h3]; simp [s2]
  have b1 : Below w.heap.size w w1 := by rw [← h1]; exact (Below.refl _ w).alloc (Nat.le_refl _) _
  have b2 : Below w1.heap.size w1 w2 := by rw [← h2]; exact (Below.refl _ w1).alloc (Nat.le_refl _) _
  have b3 : Below w2.heap.size w2 w3 := by rw [← h3]; exact (Below.refl _ w2).alloc (Nat.le_refl _) _
  have b4 : Below w3.heap.size w3 w4 := by rw [← h4]; exact (Below.refl _ w3).alloc (Nat.le_refl _) _
  have r1 : RowC rgCells 2 w1 w1.heap.size (some ⟨w.heap.size, 0, none⟩) [⟨0, 2⟩] := by rw [← h1]; exact RowC.new rgCells_length w [⟨0, 2⟩] _ _ rfl
  have r2 : RowC rgCells 2 w2 w2.heap.size (some ⟨w1.heap.size, 0, none⟩) [⟨2, 2⟩] := by rw [← h2]; exact RowC.new rgCells_length w1 [⟨2, 2⟩] _ _ rfl
  have r3 : RowC rgCells 2 w3 w3.heap.size (some ⟨w2.heap.size, 0, none⟩) [⟨2, 5⟩] := by rw [← h3]; exact RowC.new rgCells_length w2 [⟨2, 5⟩] _ _ rfl
  rw [h1, h2, h3, h4, ← s3]
  rw [s1] at r2
  rw [s2] at r3
  have r4 : RowC rsCells 1 w4 w4.heap.size (some ⟨w3.heap.size, 0, none⟩) [⟨some ⟨w.heap.size, 0, none⟩, 1, [⟨0, 2⟩]⟩, ⟨some ⟨w.heap.size + 1, 0, none⟩, 1, [⟨2, 2⟩]⟩, ⟨some ⟨w.heap.size + 1 + 1, 0, none⟩, 1, [⟨2, 5⟩]⟩] := by
    rw [← h4]; exact RowC.new rsCells_length w3 _ _ _ rfl
  have q3 := (r3.below b4).more b4.size
  have q2 := (((r2.below b3).more b3.size).below b4).more b4.size
  have q1 := (((((r1.below b2).more b2.size).below b3).more b3.size).below b4).more b4.size
  refine (tiles_walk _ _ 3 3 w4 rfl (by omega) (by omega) (by decide) r4 (fun r hr => ?_)).mono ?_
  · simp only [List.mem_cons, List.not_mem_nil, or_false] at hr
    rcases hr with rfl | rfl | rfl
    · exact ⟨q1, (show (1 : Nat) ≤ maxLen by decide)⟩
    · exact ⟨q2, (show (1 : Nat) ≤ maxLen by decide)⟩
    · exact ⟨q3, (show (1 : Nat) ≤ maxLen by decide)⟩
  · rintro e w' ⟨rfl, hb⟩
    exact ⟨rfl, hop (hop (hop (hop b1 b2) b3) b4) hb⟩
theorem ex_one (w : World) : Calls Try.prog 16 #[.slice (some ⟨w.heap.size + 1, 0, none⟩) 1 1]
    ((w.alloc (.cells #[.int .i64 1, .int .i64 2] 26)).alloc (.cells #[.slice (some ⟨w.heap.size, 0, none⟩) 1 1] 22))
    fun e w' => e = .returned (.bool false) ∧ Below w.heap.size w w' := by
  obtain ⟨w1, h1⟩ : ∃ w1, w.alloc (.cells #[.int .i64 1, .int .i64 2] 26) = w1 := ⟨_, rfl⟩
  obtain ⟨w2, h2⟩ : ∃ w2, w1.alloc (.cells #[.slice (some ⟨w.heap.size, 0, none⟩) 1 1] 22) = w2 := ⟨_, rfl⟩
  have s1 : w1.heap.size = w.heap.size + 1 := by rw [← h1]; simp
  have b1 : Below w.heap.size w w1 := by rw [← h1]; exact (Below.refl _ w).alloc (Nat.le_refl _) _
  have b2 : Below w1.heap.size w1 w2 := by rw [← h2]; exact (Below.refl _ w1).alloc (Nat.le_refl _) _
  have r1 : RowC rgCells 2 w1 w1.heap.size (some ⟨w.heap.size, 0, none⟩) [⟨1, 2⟩] := by rw [← h1]; exact RowC.new rgCells_length w [⟨1, 2⟩] _ _ rfl
  rw [h1, h2, ← s1]
  have r2 : RowC rsCells 1 w2 w2.heap.size (some ⟨w1.heap.size, 0, none⟩) [⟨some ⟨w.heap.size, 0, none⟩, 1, [⟨1, 2⟩]⟩] := by
    rw [← h2]; exact RowC.new rsCells_length w1 _ _ _ rfl
  have q1 := (r1.below b2).more b2.size
  refine (tiles_walk _ _ 1 1 w2 rfl (by omega) (by omega) (by decide) r2 (fun r hr => ?_)).mono ?_
  · simp only [List.mem_cons, List.not_mem_nil, or_false] at hr
    subst hr
    exact ⟨q1, (show (1 : Nat) ≤ maxLen by decide)⟩
  · rintro e w' ⟨rfl, hb⟩
    exact ⟨rfl, hop (hop b1 b2) hb⟩
theorem ex_pack : listL intL (numsOf [⟨0, 1⟩]) = [2, 0, 2] := by simp [numsOf, listL, intL, zig, numL_small]
theorem ex_packs (w : World) : Calls Try.prog 18 #[.slice (some ⟨w.heap.size, 0, none⟩) 1 1] (w.alloc (.cells #[.int .i64 0, .int .i64 1] 26))
    fun e w' => ∃ A c, e = .returned (.tuple #[.slice A 3 c, .int .i64 0]) ∧ Buf w.heap.size A 3 c [2, 0, 2] w' ∧ Below w.heap.size w w' := by
  refine (pack_walk [⟨0, 1⟩] _ 1 1 _ rfl (by decide) (RowC.new rgCells_length w [⟨0, 1⟩] _ _ rfl)).mono ?_
  intro e w' h
  obtain ⟨A, n, c, rfl, hb, hbel⟩ := h.1 rfl
  rw [ex_pack] at hb
  have hn : n = 3 := hb.1
  subst hn
  exact ⟨A, c, rfl, hb.more (by simp), hop ((Below.refl _ w).alloc (Nat.le_refl _) _) hbel⟩

set_option maxRecDepth 4000 in
set_option maxHeartbeats 2000000 in
theorem alive_any (w : World) : Calls Try.prog 7 #[] w fun e w' => e = .returned (.bool true) ∧ Below w.heap.size w w' := by
  have ht : (txt [2, 0, 2]).toList = [2, 0, 2] := by rw [Lib.toList_data]; rfl
  go_enter Try.func7, Try.ntmps7
  go_wp2_with (first | (go_at_call 18; refine (ex_packs w).mono ?_; rintro e w1 ⟨A1, c1, rfl, hb1, hbel1⟩; have hcv1 := string_of_buf hb1; have HB := Lib.hid hbel1; clear hb1 hbel1) | (have HSEC := HB2; go_at_call 16; refine (ex_one w2).mono ?_; rintro e w3 ⟨rfl, hbel3⟩; have HB3 := Lib.hid (hop HB2.out hbel3); clear hbel3) | (go_at_call 16; refine (ex_three w1).mono ?_; rintro e w2 ⟨rfl, hbel2⟩; have HB2 := Lib.hid (hop HB.out hbel2); clear hbel2))
  go_ret
  exact ⟨rfl, HB3.out⟩
end Go.Proofs.Ytceoneigflejeaa
