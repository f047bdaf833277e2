/- The statement FsNil: the walk. -/
import Derived.Test.YtlmkhieojgpgcaaFsActs
import Derived.Test.YtlmkhieojgpgcaaFsAlive
namespace Go.Proofs.Ytlmkhieojgpgcaa
open Go.ChangeShapes Go.WideShapes Go.ChangeAt Go.RowKit Go.ChangeMaps Go.MapKept
set_option linter.unusedVariables false

theorem do_nil (k : Int) (h0 : 0 ≤ k) (h1 : k ≤ 11) (d n b : ByteArray) (N T : Int) (A : Option Addr) (len c : Nat) (w : World) (hb : b.size ≤ 9223372036854775807) :
    Calls Try.prog 21 #[.pointer none, acV k d n b N T A len c] w (NilPost w) := by
  have hcv := fun W => run_bytes_of_string (P := Try.prog) W 9 31 5 b Try.underlying9 Try.underlying31 Try.underlying5
  have HRN := Lib.hid (fun w => rename_nil d n b.data.toList w)
  rw [txt_data] at HRN
  have HBA := Lib.hid (fun (o : Obj) => Below.al (Below.refl _ w) (Nat.le_refl _) o)
  have h : k = 0 ∨ k = 1 ∨ k = 2 ∨ k = 3 ∨ k = 4 ∨ k = 5 ∨ k = 6 ∨ k = 7 ∨ k = 8 ∨ k = 9 ∨ k = 10 ∨ k = 11 := by omega
  clear h0 h1
  rcases h with rfl | rfl | rfl | rfl | rfl | rfl | rfl | rfl | rfl | rfl | rfl | rfl
  · unfold acV
    go_enter Try.func21, Try.ntmps21
    go_wp2_with (go_at_call 9; refine (mkdir_nil d _).mono ?_; rintro e w1 ⟨rfl, h⟩; have HB := Lib.hid (show Below w.heap.size w w1 from (HBA.out _).trans (h.mono (HBA.out _).size)); clear h)
    go_ret
    exact ⟨rfl, HB.out⟩
  · unfold acV
    go_enter Try.func21, Try.ntmps21
    go_wp2_with (go_at_call 10; refine (create_nil d n _).mono ?_; rintro e w1 ⟨rfl, h⟩; have HB := Lib.hid (show Below w.heap.size w w1 from (HBA.out _).trans (h.mono (HBA.out _).size)); clear h)
    go_ret
    exact ⟨rfl, HB.out⟩
  · exact do2_nil d n b N T A len c w hb
  · unfold acV
    go_enter Try.func21, Try.ntmps21
    go_wp2_with (go_at_call 12; refine (sync_nil d n _).mono ?_; rintro e w1 ⟨rfl, h⟩; have HB := Lib.hid (show Below w.heap.size w w1 from (HBA.out _).trans (h.mono (HBA.out _).size)); clear h)
    go_ret
    exact ⟨rfl, HB.out⟩
  · unfold acV
    go_enter Try.func21, Try.ntmps21
    go_wp2_with (go_at_call 13; refine (syncDir_nil d _).mono ?_; rintro e w1 ⟨rfl, h⟩; have HB := Lib.hid (show Below w.heap.size w w1 from (HBA.out _).trans (h.mono (HBA.out _).size)); clear h)
    go_ret
    exact ⟨rfl, HB.out⟩
  · unfold acV
    go_enter Try.func21, Try.ntmps21
    go_wp2_with (go_at_call 15; refine (HRN.out _).mono ?_; rintro e w1 ⟨rfl, h⟩; have HB := Lib.hid (show Below w.heap.size w w1 from (HBA.out _).trans (h.mono (HBA.out _).size)); clear h)
    go_ret
    exact ⟨rfl, HB.out⟩
  · unfold acV
    go_enter Try.func21, Try.ntmps21
    go_wp2_with (go_at_call 27; refine (remove_nil d n _).mono ?_; rintro e w1 ⟨rfl, h⟩; have HB := Lib.hid (show Below w.heap.size w w1 from (HBA.out _).trans (h.mono (HBA.out _).size)); clear h)
    go_ret
    exact ⟨rfl, HB.out⟩
  · unfold acV
    go_enter Try.func21, Try.ntmps21
    go_wp2_with (go_at_call 48; refine (room_nil N _).mono ?_; rintro e w1 ⟨rfl, h⟩; have HB := Lib.hid (show Below w.heap.size w w1 from (HBA.out _).trans (h.mono (HBA.out _).size)); clear h)
    go_ret
    exact ⟨rfl, HB.out⟩
  · unfold acV
    go_enter Try.func21, Try.ntmps21
    go_wp2_with (go_at_call 14; refine (fuse_nil N _).mono ?_; rintro e w1 ⟨rfl, h⟩; have HB := Lib.hid (show Below w.heap.size w w1 from (HBA.out _).trans (h.mono (HBA.out _).size)); clear h)
    go_ret
    exact ⟨rfl, HB.out⟩
  · unfold acV
    go_enter Try.func21, Try.ntmps21
    go_wp2_with (go_at_call 16; refine (crash_nil A len c _).mono ?_; rintro e w1 ⟨rfl, h⟩; have HB := Lib.hid (show Below w.heap.size w w1 from (HBA.out _).trans (h.mono (HBA.out _).size)); clear h)
    go_ret
    exact ⟨rfl, HB.out⟩
  · unfold acV
    go_enter Try.func21, Try.ntmps21
    go_wp2_with (go_at_call 49; refine (spoil_nil d n N T _).mono ?_; rintro e w1 ⟨rfl, h⟩; have HB := Lib.hid (show Below w.heap.size w w1 from (HBA.out _).trans (h.mono (HBA.out _).size)); clear h)
    go_ret
    exact ⟨rfl, HB.out⟩
  · unfold acV
    go_enter Try.func21, Try.ntmps21
    go_wp2_with (go_at_call 50; refine (plant_nil d n _ _ _ _).mono ?_; rintro e w1 ⟨rfl, h⟩; have HB := Lib.hid (show Below w.heap.size w w1 from ((HBA.out _).alloc (HBA.out _).size _).drew.trans (h.mono ((HBA.out _).alloc (HBA.out _).size _).drew.size)); clear h)
    go_ret
    exact ⟨rfl, HB.out⟩
theorem nil_big (a : Ac) (hc : a.c ≤ maxLen) (hl : a.ps.length ≤ a.c) (hp : 1000 < a.ps.length) (w : World) :
    Calls Try.prog 5 #[a.val] w fun e w' => e = .returned (.bool true) ∧ Below w.heap.size w w' := by
  obtain ⟨k, d, n, b, N, T, A, c, ps⟩ := a
  simp only at hc hl hp
  unfold maxLen at hc
  obtain ⟨len, hlen⟩ : ∃ len, ps.length = len := ⟨_, rfl⟩
  rw [hlen] at hp hl
  unfold Ac.val acV
  simp only [hlen]
  clear hlen
  have hd : decide ((1000 : Int) < (len : Int)) = true := decide_eq_true (by omega)
  have c6 : ∀ w1, Below (w.alloc (.cells #[.int .i64 k, .string d, .string n, .string b, .int .i64 N, .int .u8 T, .slice A len c] 43)).heap.size (w.alloc (.cells #[.int .i64 k, .string d, .string n, .string b, .int .i64 N, .int .u8 T, .slice A len c] 43)) w1 → w1.cell? ⟨w.heap.size, 6, none⟩ = some (.slice A len c) := fun w1 hb => ((Cells.new w _ _).below hb (by simp)).cell 6
  have HC6 := Lib.hid c6
  clear c6
  go_enter Try.func5, Try.ntmps5
  go_wp2_with (go_at_call 7; refine (alive_any _).mono ?_; rintro e w1 ⟨rfl, hb1⟩; have c6 := HC6.out _ hb1; have HB1 := Lib.hid hb1; clear hb1)
  go_ret
  exact ⟨rfl, (Below.al (Below.refl _ w) (Nat.le_refl _) _).trans (HB1.out.mono (by simp))⟩
set_option maxHeartbeats 1000000 in
theorem nil_small (a : Ac) (w : World) (hb : a.b.size ≤ 9223372036854775807) (hp : a.ps.length ≤ 1000) :
    Calls Try.prog 5 #[a.val] w fun e w' => e = .returned (.bool true) ∧ Below w.heap.size w w' := by
  obtain ⟨k, d, n, b, N, T, A, c, ps⟩ := a
  simp only at hb hp
  obtain ⟨len, hlen⟩ : ∃ len, ps.length = len := ⟨_, rfl⟩
  rw [hlen] at hp
  unfold Ac.val
  simp only [hlen]
  clear hlen
  have HDO := Lib.hid (fun (w : World) (h : 0 ≤ k ∧ k ≤ 11) => do_nil k h.1 h.2 d n b N T A len c w hb)
  unfold acV at HDO ⊢
  have hd : decide ((1000 : Int) < (len : Int)) = false := decide_eq_false (by omega)
  have HC := Lib.hid (show ∀ w1, Below (w.alloc (.cells #[.int .i64 k, .string d, .string n, .string b, .int .i64 N, .int .u8 T, .slice A len c] 43)).heap.size (w.alloc (.cells #[.int .i64 k, .string d, .string n, .string b, .int .i64 N, .int .u8 T, .slice A len c] 43)) w1 → ∀ i, w1.cell? ⟨w.heap.size, i, none⟩ = (#[.int .i64 k, .string d, .string n, .string b, .int .i64 N, .int .u8 T, .slice A len c] : Array Value)[i]? from fun w1 hb i => ((Cells.new w _ _).below hb (by simp)).cell i)
  clear hb hp
  by_cases hk : 0 ≤ k ∧ k ≤ 11
  · have hk0 : decide ((0 : Int) ≤ k) = true := decide_eq_true hk.1
    have hk1 : decide (k ≤ (11 : Int)) = true := decide_eq_true hk.2
    go_enter Try.func5, Try.ntmps5
    go_wp2_with (first
      | (go_at_call 7; refine (alive_any _).mono ?_; rintro e w1 ⟨rfl, hb1⟩; have HBw1 := Lib.hid hb1; clear hb1; have y0w1 : w1.cell? ⟨w.heap.size, 0, none⟩ = some (.int .i64 k) := HC.out _ HBw1.out 0; have y1w1 : w1.cell? ⟨w.heap.size, 1, none⟩ = some (.string d) := HC.out _ HBw1.out 1; have y2w1 : w1.cell? ⟨w.heap.size, 2, none⟩ = some (.string n) := HC.out _ HBw1.out 2; have y3w1 : w1.cell? ⟨w.heap.size, 3, none⟩ = some (.string b) := HC.out _ HBw1.out 3; have y4w1 : w1.cell? ⟨w.heap.size, 4, none⟩ = some (.int .i64 N) := HC.out _ HBw1.out 4; have y5w1 : w1.cell? ⟨w.heap.size, 5, none⟩ = some (.int .u8 T) := HC.out _ HBw1.out 5; have y6w1 : w1.cell? ⟨w.heap.size, 6, none⟩ = some (.slice A len c) := HC.out _ HBw1.out 6)
      | (go_at_call 18; refine (read_nil d n w1).mono ?_; rintro e w2 ⟨rfl, hb2⟩; have HBw2 := Lib.hid (HBw1.out.trans (hb2.mono HBw1.out.size)); clear hb2; have y0w2 : w2.cell? ⟨w.heap.size, 0, none⟩ = some (.int .i64 k) := HC.out _ HBw2.out 0; have y1w2 : w2.cell? ⟨w.heap.size, 1, none⟩ = some (.string d) := HC.out _ HBw2.out 1; have y2w2 : w2.cell? ⟨w.heap.size, 2, none⟩ = some (.string n) := HC.out _ HBw2.out 2; have y3w2 : w2.cell? ⟨w.heap.size, 3, none⟩ = some (.string b) := HC.out _ HBw2.out 3; have y4w2 : w2.cell? ⟨w.heap.size, 4, none⟩ = some (.int .i64 N) := HC.out _ HBw2.out 4; have y5w2 : w2.cell? ⟨w.heap.size, 5, none⟩ = some (.int .u8 T) := HC.out _ HBw2.out 5; have y6w2 : w2.cell? ⟨w.heap.size, 6, none⟩ = some (.slice A len c) := HC.out _ HBw2.out 6)
      | (go_at_call 17; refine (list_nil d w2).mono ?_; rintro e w2b ⟨rfl, rfl⟩)
      | (go_at_call 21; refine (HDO.out w2 hk).mono ?_; unfold NilPost; rintro e w3 ⟨rfl, hb3⟩; have HBw3 := Lib.hid (HBw2.out.trans (hb3.mono HBw2.out.size)); clear hb3)
      | (go_at_call 22; refine (dirs_nil _).mono ?_; rintro e w4 ⟨rfl, rfl⟩)
      | (go_at_call 23; refine (used_nil _).mono ?_; rintro e w4 ⟨rfl, rfl⟩)
      | (go_at_call 20; refine (steps_nil _).mono ?_; rintro e w4 ⟨rfl, rfl⟩)
      | (go_at_call 19; refine (on_nil _).mono ?_; rintro e w4 ⟨rfl, rfl⟩))
    go_ret
    exact ⟨rfl, (Below.al (Below.refl _ w) (Nat.le_refl _) _).trans (HBw3.out.mono (by simp))⟩
  · by_cases hk2 : 0 ≤ k
    · have hk0 : decide ((0 : Int) ≤ k) = true := decide_eq_true hk2
      have hk1 : decide (k ≤ (11 : Int)) = false := decide_eq_false (by omega)
      go_enter Try.func5, Try.ntmps5
      go_wp2_with (first
        | (go_at_call 7; refine (alive_any _).mono ?_; rintro e w1 ⟨rfl, hb1⟩; have HBw1 := Lib.hid hb1; clear hb1; have y0w1 : w1.cell? ⟨w.heap.size, 0, none⟩ = some (.int .i64 k) := HC.out _ HBw1.out 0; have y1w1 : w1.cell? ⟨w.heap.size, 1, none⟩ = some (.string d) := HC.out _ HBw1.out 1; have y2w1 : w1.cell? ⟨w.heap.size, 2, none⟩ = some (.string n) := HC.out _ HBw1.out 2; have y3w1 : w1.cell? ⟨w.heap.size, 3, none⟩ = some (.string b) := HC.out _ HBw1.out 3; have y4w1 : w1.cell? ⟨w.heap.size, 4, none⟩ = some (.int .i64 N) := HC.out _ HBw1.out 4; have y5w1 : w1.cell? ⟨w.heap.size, 5, none⟩ = some (.int .u8 T) := HC.out _ HBw1.out 5; have y6w1 : w1.cell? ⟨w.heap.size, 6, none⟩ = some (.slice A len c) := HC.out _ HBw1.out 6)
        | (go_at_call 18; refine (read_nil d n w1).mono ?_; rintro e w2 ⟨rfl, hb2⟩; have HBw2 := Lib.hid (HBw1.out.trans (hb2.mono HBw1.out.size)); clear hb2; have y0w2 : w2.cell? ⟨w.heap.size, 0, none⟩ = some (.int .i64 k) := HC.out _ HBw2.out 0; have y1w2 : w2.cell? ⟨w.heap.size, 1, none⟩ = some (.string d) := HC.out _ HBw2.out 1; have y2w2 : w2.cell? ⟨w.heap.size, 2, none⟩ = some (.string n) := HC.out _ HBw2.out 2; have y3w2 : w2.cell? ⟨w.heap.size, 3, none⟩ = some (.string b) := HC.out _ HBw2.out 3; have y4w2 : w2.cell? ⟨w.heap.size, 4, none⟩ = some (.int .i64 N) := HC.out _ HBw2.out 4; have y5w2 : w2.cell? ⟨w.heap.size, 5, none⟩ = some (.int .u8 T) := HC.out _ HBw2.out 5; have y6w2 : w2.cell? ⟨w.heap.size, 6, none⟩ = some (.slice A len c) := HC.out _ HBw2.out 6)
        | (go_at_call 17; refine (list_nil d w2).mono ?_; rintro e w2b ⟨rfl, rfl⟩)
        | (go_at_call 21; refine (HDO.out w2).mono ?_; unfold NilPost; rintro e w3 ⟨rfl, hb3⟩; have HBw3 := Lib.hid (HBw2.out.trans (hb3.mono HBw2.out.size)); clear hb3)
        | (go_at_call 22; refine (dirs_nil _).mono ?_; rintro e w4 ⟨rfl, rfl⟩)
        | (go_at_call 23; refine (used_nil _).mono ?_; rintro e w4 ⟨rfl, rfl⟩)
        | (go_at_call 20; refine (steps_nil _).mono ?_; rintro e w4 ⟨rfl, rfl⟩)
        | (go_at_call 19; refine (on_nil _).mono ?_; rintro e w4 ⟨rfl, rfl⟩))
      go_ret
      exact ⟨rfl, (Below.al (Below.refl _ w) (Nat.le_refl _) _).trans (HBw2.out.mono (by simp))⟩
    · have hk0 : decide ((0 : Int) ≤ k) = false := decide_eq_false hk2
      have hk1 : decide (k ≤ (11 : Int)) = true := decide_eq_true (by omega)
      go_enter Try.func5, Try.ntmps5
      go_wp2_with (first
        | (go_at_call 7; refine (alive_any _).mono ?_; rintro e w1 ⟨rfl, hb1⟩; have HBw1 := Lib.hid hb1; clear hb1; have y0w1 : w1.cell? ⟨w.heap.size, 0, none⟩ = some (.int .i64 k) := HC.out _ HBw1.out 0; have y1w1 : w1.cell? ⟨w.heap.size, 1, none⟩ = some (.string d) := HC.out _ HBw1.out 1; have y2w1 : w1.cell? ⟨w.heap.size, 2, none⟩ = some (.string n) := HC.out _ HBw1.out 2; have y3w1 : w1.cell? ⟨w.heap.size, 3, none⟩ = some (.string b) := HC.out _ HBw1.out 3; have y4w1 : w1.cell? ⟨w.heap.size, 4, none⟩ = some (.int .i64 N) := HC.out _ HBw1.out 4; have y5w1 : w1.cell? ⟨w.heap.size, 5, none⟩ = some (.int .u8 T) := HC.out _ HBw1.out 5; have y6w1 : w1.cell? ⟨w.heap.size, 6, none⟩ = some (.slice A len c) := HC.out _ HBw1.out 6)
        | (go_at_call 18; refine (read_nil d n w1).mono ?_; rintro e w2 ⟨rfl, hb2⟩; have HBw2 := Lib.hid (HBw1.out.trans (hb2.mono HBw1.out.size)); clear hb2; have y0w2 : w2.cell? ⟨w.heap.size, 0, none⟩ = some (.int .i64 k) := HC.out _ HBw2.out 0; have y1w2 : w2.cell? ⟨w.heap.size, 1, none⟩ = some (.string d) := HC.out _ HBw2.out 1; have y2w2 : w2.cell? ⟨w.heap.size, 2, none⟩ = some (.string n) := HC.out _ HBw2.out 2; have y3w2 : w2.cell? ⟨w.heap.size, 3, none⟩ = some (.string b) := HC.out _ HBw2.out 3; have y4w2 : w2.cell? ⟨w.heap.size, 4, none⟩ = some (.int .i64 N) := HC.out _ HBw2.out 4; have y5w2 : w2.cell? ⟨w.heap.size, 5, none⟩ = some (.int .u8 T) := HC.out _ HBw2.out 5; have y6w2 : w2.cell? ⟨w.heap.size, 6, none⟩ = some (.slice A len c) := HC.out _ HBw2.out 6)
        | (go_at_call 17; refine (list_nil d w2).mono ?_; rintro e w2b ⟨rfl, rfl⟩)
        | (go_at_call 21; refine (HDO.out w2).mono ?_; unfold NilPost; rintro e w3 ⟨rfl, hb3⟩; have HBw3 := Lib.hid (HBw2.out.trans (hb3.mono HBw2.out.size)); clear hb3)
        | (go_at_call 22; refine (dirs_nil _).mono ?_; rintro e w4 ⟨rfl, rfl⟩)
        | (go_at_call 23; refine (used_nil _).mono ?_; rintro e w4 ⟨rfl, rfl⟩)
        | (go_at_call 20; refine (steps_nil _).mono ?_; rintro e w4 ⟨rfl, rfl⟩)
        | (go_at_call 19; refine (on_nil _).mono ?_; rintro e w4 ⟨rfl, rfl⟩))
      go_ret
      exact ⟨rfl, (Below.al (Below.refl _ w) (Nat.le_refl _) _).trans (HBw2.out.mono (by simp))⟩
theorem nil_walk (a : Ac) (w : World) (hg : a.good w) (hb : a.b.size ≤ 9223372036854775807) :
    Calls Try.prog 5 #[a.val] w fun e w' => e = .returned (.bool true) ∧ Below w.heap.size w w' := by
  by_cases h : 1000 < a.ps.length
  · exact nil_big a hg.cap hg.len h w
  · exact nil_small a w hb (by omega)
end Go.Proofs.Ytlmkhieojgpgcaa
