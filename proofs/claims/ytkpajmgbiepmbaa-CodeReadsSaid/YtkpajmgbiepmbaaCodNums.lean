/- The walk of the law on numbers. -/
import Derived.Test.YtkpajmgbiepmbaaCodAlive
import Derived.Test.YtkpajmgbiepmbaaRegion
namespace Go.Proofs.Ytkpajmgbiepmbaa
open Go.ChangeShapes Go.WideShapes Go.ChangeAt Go.RowKit
open Go.Lib (byteCells byteCells_length byteCells_append strCells)
set_option linter.unusedVariables false

theorem laid_bytes (s : ByteArray) (w : World) (cap : Nat) (t : TypeId) (fr : Nat × Nat) : BytesAt (w.alloc (.cells (bytesRow s cap) t fr)).drew (w.alloc (.cells (bytesRow s cap) t fr)).drew.heap.size (some ⟨w.heap.size, 0, none⟩) s.data.toList := by
  intro j hj
  have hj' : j < s.data.size := by simpa using hj
  refine ⟨w.heap.size, 0, rfl, ?_, ?_⟩
  · show w.heap.size < (w.alloc (.cells (bytesRow s cap) t fr)).heap.size
    simp
  rw [Nat.zero_add]
  show (w.alloc (.cells (bytesRow s cap) t fr)).cell? _ = _
  rw [World.cell?_alloc_mark]
  unfold bytesRow
  rw [Array.getElem?_append_left (by simpa using hj')]
  have e : s.data[j]? = some s.data[j] := Array.getElem?_eq_getElem hj'
  simp [e]
theorem runnum0_walk (s : ByteArray) (w : World) (hs : s.size ≤ 1099511627776) :
    Calls Try.prog 11 #[.string s, .int .i64 0] w fun e w' => e = .returned (rOut s.size (unL s.data.toList)) ∧ w = w' := by
  have h := runnum_walk s 0 w hs (by omega)
  rw [List.drop_zero] at h
  exact h
theorem unnum_text (s : ByteArray) (c : Nat) (b : Nat) (w : World) (hc : s.size ≤ c) (hcm : c ≤ maxLen) (hb : BytesAt w w.heap.size (some ⟨b, 0, none⟩) s.data.toList) :
    Calls Try.prog 10 #[.slice (some ⟨b, 0, none⟩) s.size c] w fun e w' => e = .returned (unOut s.size (unL s.data.toList)) ∧ w = w' :=
  unnum_walk s.data.toList _ s.size c w (size_eq s) hc hcm hb

set_option maxRecDepth 4000 in
set_option maxHeartbeats 2000000 in
theorem codenums_walk (n : Nat) (hn : n < 18446744073709551616) (s : ByteArray) (hs : s.size ≤ maxLen) (w : World) :
    Calls Try.prog 3 #[.int .u64 (n : Int), .string s] w fun e w' => e = .returned (.bool true) ∧ Below w.heap.size w w' := by
  have hs1 : s.size ≤ 9223372036854775807 := by unfold maxLen at hs; omega
  by_cases h2 : 2000 < s.size
  · clear hs
    go_enter Try.func3, Try.ntmps3
    go_wp2_with (go_at_call 9; refine (alive_any _).mono ?_; rintro e w1 ⟨rfl, hb1⟩; have HB1 := Lib.hid hb1; clear hb1)
    go_ret
    exact ⟨rfl, HB1.out⟩
  · have hs2 : s.size ≤ 2000 := by omega
    have hd2 : decide ((2000 : Int) < (s.size : Int)) = false := decide_eq_false (by omega)
    have HS := Lib.hid hs
    have HN := Lib.hid hn
    have HZ := Lib.hid (numL_len64 hn)
    obtain ⟨T, hT⟩ : ∃ T, txt (numL n) = T := ⟨_, rfl⟩
    have HT := Lib.hid hT
    have hcv := fun W => run_bytes_of_string (P := Try.prog) W 9 27 5 s Try.underlying9 Try.underlying27 Try.underlying5
    clear h2 hs hT
    have HP := Lib.hid (show n < 128 ^ 10 by
      have e : (128 : Nat) ^ 10 = 1180591620717411303424 := by decide
      omega)
    rcases hu : unL s.data.toList with _ | ⟨m, q⟩
    · have HU := Lib.hid hu
      clear hu
      go_enter Try.func3, Try.ntmps3
      go_wp2_with (first | (go_at_call 9; refine (alive_any _).mono ?_; rintro e w1 ⟨rfl, hb1⟩; have HB1 := Lib.hid hb1; clear hb1) | (go_at_call 10; refine (unnum_text s _ _ _ (grownCap_ge _ _ _ _) (grownCap_le_maxLen _ _ _ _ HS.out) ?c1).mono ?_; (case c1 => exact laid_bytes s _ _ _ _); rw [HU.out]; unfold unOut; rintro e w2 ⟨rfl, rfl⟩) | (go_at_call 11; refine (runnum0_walk s _ (by omega)).mono ?_; rw [HU.out]; unfold rOut; rintro e w2 ⟨rfl, rfl⟩))
      have hbw := ((HB1.out.alloc HB1.out.size (Obj.cells (bytesRow s (grownCap w1 s.size 0 5)) 5 ((bytesRow s (grownCap w1 s.size 0 5)).size, (bytesRow s (grownCap w1 s.size 0 5)).size + 1))).drew).drew
      refine held_begin 17 (fun W => Below w.heap.size w W) rfl (by kernel_rfl) ?_
      refine held_take (i := 0) (t := 33) (v := .int .u64 0) (fuel := 16) rfl rfl (by kernel_rfl) (by kernel_rfl) (by kernel_rfl) (fun _ _ _ h => h) (.inl ⟨rfl, fun _ _ => rfl⟩) hbw ?_
      simp only [List.setIfInBounds_toArray, List.set_cons_succ, List.set_cons_zero]
      refine held_take (i := 1) (t := 34) (v := .int .u64 0) (fuel := 15) rfl rfl (by kernel_rfl) (by kernel_rfl) (by kernel_rfl) (fun _ _ _ h => h) (.inl ⟨rfl, fun _ _ => rfl⟩) hbw ?_
      simp only [List.setIfInBounds_toArray, List.set_cons_succ, List.set_cons_zero]
      refine held_take (i := 2) (t := 35) (v := .bool true) (fuel := 14) rfl rfl (by kernel_rfl) (by kernel_rfl) (by kernel_rfl) (fun _ _ _ h => h) (.inl ⟨rfl, fun _ _ => by simp [execOp, Act.eval, go_sem]⟩) hbw ?_
      simp only [List.setIfInBounds_toArray, List.set_cons_succ, List.set_cons_zero]
      refine held_take (i := 3) (t := 36) (v := .bool true) (fuel := 13) rfl rfl (by kernel_rfl) (by kernel_rfl) (by kernel_rfl) (fun _ _ _ h => h) (.inl ⟨rfl, fun _ _ => rfl⟩) hbw ?_
      simp only [List.setIfInBounds_toArray, List.set_cons_succ, List.set_cons_zero]
      refine held_take (i := 4) (t := 37) (v := .int .i64 0) (fuel := 12) rfl rfl (by kernel_rfl) (by kernel_rfl) (by kernel_rfl) (fun _ _ _ h => h) (.inl ⟨rfl, fun _ _ => rfl⟩) hbw ?_
      simp only [List.setIfInBounds_toArray, List.set_cons_succ, List.set_cons_zero]
      refine held_take (i := 5) (t := 38) (v := .int .i64 0) (fuel := 11) rfl rfl (by kernel_rfl) (by kernel_rfl) (by kernel_rfl) (fun _ _ _ h => h) (.inl ⟨rfl, fun _ _ => rfl⟩) hbw ?_
      simp only [List.setIfInBounds_toArray, List.set_cons_succ, List.set_cons_zero]
      refine held_take (i := 6) (t := 39) (v := .bool true) (fuel := 10) rfl rfl (by kernel_rfl) (by kernel_rfl) (by kernel_rfl) (fun _ _ _ h => h) (.inl ⟨rfl, fun _ _ => by simp [execOp, Act.eval, go_sem]⟩) hbw ?_
      simp only [List.setIfInBounds_toArray, List.set_cons_succ, List.set_cons_zero]
      refine held_take (i := 7) (t := 40) (v := .bool true) (fuel := 9) rfl rfl (by kernel_rfl) (by kernel_rfl) (by kernel_rfl) (fun _ _ _ h => h) (.inl ⟨rfl, fun _ _ => by simp [execOp, Act.eval, go_sem]⟩) hbw ?_
      simp only [List.setIfInBounds_toArray, List.set_cons_succ, List.set_cons_zero]
      refine held_take (i := 8) (t := 41) (v := .bool true) (fuel := 8) rfl rfl (by kernel_rfl) (by kernel_rfl) (by kernel_rfl) (fun _ _ _ h => h) (.inl ⟨rfl, fun _ _ => rfl⟩) hbw ?_
      simp only [List.setIfInBounds_toArray, List.set_cons_succ, List.set_cons_zero]
      refine held_take (i := 9) (t := 42) (v := .int .u64 (n : Int)) (fuel := 7) rfl rfl (by kernel_rfl) (by kernel_rfl) (by kernel_rfl) (fun _ _ _ h => h) (.inl ⟨rfl, fun _ _ => rfl⟩) hbw ?_
      simp only [List.setIfInBounds_toArray, List.set_cons_succ, List.set_cons_zero]
      refine held_take (i := 12) (t := 45) (v := .int .u64 (n : Int)) (fuel := 6) rfl rfl (by kernel_rfl) (by kernel_rfl) (by kernel_rfl) (fun _ _ _ h => h) (.inl ⟨rfl, fun _ _ => rfl⟩) hbw ?_
      simp only [List.setIfInBounds_toArray, List.set_cons_succ, List.set_cons_zero]
      refine held_call (i := 10) rfl (by kernel_rfl) (by kernel_rfl) ?_
      simp [Oper.wp, execOp, Act.eval, Act.put, go_sem]
      refine (num_walk n HN.out _).mono ?_
      rintro e w3 ⟨A3, n3, c3, rfl, hbuf, hbel3⟩
      have hb3 := hop hbw hbel3
      refine ⟨hb3, held_more (S' := fun W => Below w.heap.size w W ∧ Buf 0 A3 n3 c3 (numL n) W) (fun _ h => h.1) _ _ _ _ ?_⟩
      try simp only [List.setIfInBounds_toArray, List.set_cons_succ, List.set_cons_zero]
      refine held_take (i := 11) (t := 44) (v := .string T) (fuel := 4) rfl rfl (by kernel_rfl) (by kernel_rfl) (by kernel_rfl) (fun _ _ _ h => h) (.inl ⟨rfl, fun W h => by have hc := string_of_buf h.2; rw [HT.out] at hc; simp [execOp, Act.eval, hc]⟩) ⟨hb3, hbuf.more (Nat.zero_le _)⟩ ?_
      simp only [List.setIfInBounds_toArray, List.set_cons_succ, List.set_cons_zero]
      refine held_call (i := 13) rfl (by kernel_rfl) (by kernel_rfl) ?_
      simp [Oper.wp, execOp, Act.eval, Act.put, go_sem]
      refine (rnum_walk 10 n HP.out HN.out _).mono ?_
      rw [HT.out]
      rintro e w4 ⟨rfl, hbel4⟩
      have hb4 : Below w.heap.size w w4 ∧ Buf 0 A3 n3 c3 (numL n) w4 := ⟨hop hb3 hbel4, (hbuf.more (Nat.zero_le _)).below hbel4⟩
      refine ⟨hb4, ?_⟩
      try simp only [List.setIfInBounds_toArray, List.set_cons_succ, List.set_cons_zero]
      refine held_take (i := 14) (t := 47) (v := .bool true) (fuel := 2) rfl rfl (by kernel_rfl) (by kernel_rfl) (by kernel_rfl) (fun _ _ _ h => h) (.inl ⟨rfl, fun _ _ => by simp [execOp, Act.eval, go_sem]⟩) hb4 ?_
      simp only [List.setIfInBounds_toArray, List.set_cons_succ, List.set_cons_zero]
      refine held_take (i := 15) (t := 48) (v := .bool true) (fuel := 1) rfl rfl (by kernel_rfl) (by kernel_rfl) (by kernel_rfl) (fun _ _ _ h => h) (.inl ⟨rfl, fun _ _ => by simp [execOp, Act.eval, go_sem]⟩) hb4 ?_
      simp only [List.setIfInBounds_toArray, List.set_cons_succ, List.set_cons_zero]
      refine held_take (i := 16) (t := 4) (v := .bool true) (fuel := 0) rfl rfl (by kernel_rfl) (by kernel_rfl) (by kernel_rfl) (fun _ _ _ h => h) (.inl ⟨rfl, fun _ _ => rfl⟩) hb4 ?_
      simp only [List.setIfInBounds_toArray, List.set_cons_succ, List.set_cons_zero]
      refine ⟨by kernel_rfl, ?_⟩
      go_wp2
      go_ret
      exact ⟨rfl, hb4.1⟩
    · have HU := Lib.hid hu
      clear hu
      go_enter Try.func3, Try.ntmps3
      go_wp2_with (first | (go_at_call 9; refine (alive_any _).mono ?_; rintro e w1 ⟨rfl, hb1⟩; have HB1 := Lib.hid hb1; clear hb1) | (go_at_call 10; refine (unnum_text s _ _ _ (grownCap_ge _ _ _ _) (grownCap_le_maxLen _ _ _ _ HS.out) ?c1).mono ?_; (case c1 => exact laid_bytes s _ _ _ _); rw [HU.out]; unfold unOut; rintro e w2 ⟨rfl, rfl⟩) | (go_at_call 11; refine (runnum0_walk s _ (by omega)).mono ?_; rw [HU.out]; unfold rOut; rintro e w2 ⟨rfl, rfl⟩))
      have hbw := ((HB1.out.alloc HB1.out.size (Obj.cells (bytesRow s (grownCap w1 s.size 0 5)) 5 ((bytesRow s (grownCap w1 s.size 0 5)).size, (bytesRow s (grownCap w1 s.size 0 5)).size + 1))).drew).drew
      refine held_begin 17 (fun W => Below w.heap.size w W) rfl (by kernel_rfl) ?_
      refine held_take (i := 0) (t := 33) (v := .int .u64 (m : Int)) (fuel := 16) rfl rfl (by kernel_rfl) (by kernel_rfl) (by kernel_rfl) (fun _ _ _ h => h) (.inl ⟨rfl, fun _ _ => rfl⟩) hbw ?_
      simp only [List.setIfInBounds_toArray, List.set_cons_succ, List.set_cons_zero]
      refine held_take (i := 1) (t := 34) (v := .int .u64 (m : Int)) (fuel := 15) rfl rfl (by kernel_rfl) (by kernel_rfl) (by kernel_rfl) (fun _ _ _ h => h) (.inl ⟨rfl, fun _ _ => rfl⟩) hbw ?_
      simp only [List.setIfInBounds_toArray, List.set_cons_succ, List.set_cons_zero]
      refine held_take (i := 2) (t := 35) (v := .bool true) (fuel := 14) rfl rfl (by kernel_rfl) (by kernel_rfl) (by kernel_rfl) (fun _ _ _ h => h) (.inl ⟨rfl, fun _ _ => by simp [execOp, Act.eval, go_sem]⟩) hbw ?_
      simp only [List.setIfInBounds_toArray, List.set_cons_succ, List.set_cons_zero]
      refine held_take (i := 3) (t := 36) (v := .bool true) (fuel := 13) rfl rfl (by kernel_rfl) (by kernel_rfl) (by kernel_rfl) (fun _ _ _ h => h) (.inl ⟨rfl, fun _ _ => rfl⟩) hbw ?_
      simp only [List.setIfInBounds_toArray, List.set_cons_succ, List.set_cons_zero]
      refine held_take (i := 4) (t := 37) (v := .int .i64 ((s.size - q.length : Nat) : Int)) (fuel := 12) rfl rfl (by kernel_rfl) (by kernel_rfl) (by kernel_rfl) (fun _ _ _ h => h) (.inl ⟨rfl, fun _ _ => rfl⟩) hbw ?_
      simp only [List.setIfInBounds_toArray, List.set_cons_succ, List.set_cons_zero]
      refine held_take (i := 5) (t := 38) (v := .int .i64 ((s.size - q.length : Nat) : Int)) (fuel := 11) rfl rfl (by kernel_rfl) (by kernel_rfl) (by kernel_rfl) (fun _ _ _ h => h) (.inl ⟨rfl, fun _ _ => rfl⟩) hbw ?_
      simp only [List.setIfInBounds_toArray, List.set_cons_succ, List.set_cons_zero]
      refine held_take (i := 6) (t := 39) (v := .bool true) (fuel := 10) rfl rfl (by kernel_rfl) (by kernel_rfl) (by kernel_rfl) (fun _ _ _ h => h) (.inl ⟨rfl, fun _ _ => by simp [execOp, Act.eval, go_sem]⟩) hbw ?_
      simp only [List.setIfInBounds_toArray, List.set_cons_succ, List.set_cons_zero]
      refine held_take (i := 7) (t := 40) (v := .bool true) (fuel := 9) rfl rfl (by kernel_rfl) (by kernel_rfl) (by kernel_rfl) (fun _ _ _ h => h) (.inl ⟨rfl, fun _ _ => by simp [execOp, Act.eval, go_sem]⟩) hbw ?_
      simp only [List.setIfInBounds_toArray, List.set_cons_succ, List.set_cons_zero]
      refine held_take (i := 8) (t := 41) (v := .bool true) (fuel := 8) rfl rfl (by kernel_rfl) (by kernel_rfl) (by kernel_rfl) (fun _ _ _ h => h) (.inl ⟨rfl, fun _ _ => rfl⟩) hbw ?_
      simp only [List.setIfInBounds_toArray, List.set_cons_succ, List.set_cons_zero]
      refine held_take (i := 9) (t := 42) (v := .int .u64 (n : Int)) (fuel := 7) rfl rfl (by kernel_rfl) (by kernel_rfl) (by kernel_rfl) (fun _ _ _ h => h) (.inl ⟨rfl, fun _ _ => rfl⟩) hbw ?_
      simp only [List.setIfInBounds_toArray, List.set_cons_succ, List.set_cons_zero]
      refine held_take (i := 12) (t := 45) (v := .int .u64 (n : Int)) (fuel := 6) rfl rfl (by kernel_rfl) (by kernel_rfl) (by kernel_rfl) (fun _ _ _ h => h) (.inl ⟨rfl, fun _ _ => rfl⟩) hbw ?_
      simp only [List.setIfInBounds_toArray, List.set_cons_succ, List.set_cons_zero]
      refine held_call (i := 10) rfl (by kernel_rfl) (by kernel_rfl) ?_
      simp [Oper.wp, execOp, Act.eval, Act.put, go_sem]
      refine (num_walk n HN.out _).mono ?_
      rintro e w3 ⟨A3, n3, c3, rfl, hbuf, hbel3⟩
      have hb3 := hop hbw hbel3
      refine ⟨hb3, held_more (S' := fun W => Below w.heap.size w W ∧ Buf 0 A3 n3 c3 (numL n) W) (fun _ h => h.1) _ _ _ _ ?_⟩
      try simp only [List.setIfInBounds_toArray, List.set_cons_succ, List.set_cons_zero]
      refine held_take (i := 11) (t := 44) (v := .string T) (fuel := 4) rfl rfl (by kernel_rfl) (by kernel_rfl) (by kernel_rfl) (fun _ _ _ h => h) (.inl ⟨rfl, fun W h => by have hc := string_of_buf h.2; rw [HT.out] at hc; simp [execOp, Act.eval, hc]⟩) ⟨hb3, hbuf.more (Nat.zero_le _)⟩ ?_
      simp only [List.setIfInBounds_toArray, List.set_cons_succ, List.set_cons_zero]
      refine held_call (i := 13) rfl (by kernel_rfl) (by kernel_rfl) ?_
      simp [Oper.wp, execOp, Act.eval, Act.put, go_sem]
      refine (rnum_walk 10 n HP.out HN.out _).mono ?_
      rw [HT.out]
      rintro e w4 ⟨rfl, hbel4⟩
      have hb4 : Below w.heap.size w w4 ∧ Buf 0 A3 n3 c3 (numL n) w4 := ⟨hop hb3 hbel4, (hbuf.more (Nat.zero_le _)).below hbel4⟩
      refine ⟨hb4, ?_⟩
      try simp only [List.setIfInBounds_toArray, List.set_cons_succ, List.set_cons_zero]
      refine held_take (i := 14) (t := 47) (v := .bool true) (fuel := 2) rfl rfl (by kernel_rfl) (by kernel_rfl) (by kernel_rfl) (fun _ _ _ h => h) (.inl ⟨rfl, fun _ _ => by simp [execOp, Act.eval, go_sem]⟩) hb4 ?_
      simp only [List.setIfInBounds_toArray, List.set_cons_succ, List.set_cons_zero]
      refine held_take (i := 15) (t := 48) (v := .bool true) (fuel := 1) rfl rfl (by kernel_rfl) (by kernel_rfl) (by kernel_rfl) (fun _ _ _ h => h) (.inl ⟨rfl, fun _ _ => by simp [execOp, Act.eval, go_sem]⟩) hb4 ?_
      simp only [List.setIfInBounds_toArray, List.set_cons_succ, List.set_cons_zero]
      refine held_take (i := 16) (t := 4) (v := .bool true) (fuel := 0) rfl rfl (by kernel_rfl) (by kernel_rfl) (by kernel_rfl) (fun _ _ _ h => h) (.inl ⟨rfl, fun _ _ => rfl⟩) hb4 ?_
      simp only [List.setIfInBounds_toArray, List.set_cons_succ, List.set_cons_zero]
      refine ⟨by kernel_rfl, ?_⟩
      go_wp2
      go_ret
      exact ⟨rfl, hb4.1⟩
end Go.Proofs.Ytkpajmgbiepmbaa
