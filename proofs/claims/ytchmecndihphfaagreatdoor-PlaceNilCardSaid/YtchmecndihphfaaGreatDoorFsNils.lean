/- simfs: no file system: what each call answers. -/
import Derived.Test.YtchmecndihphfaaGreatDoorFsCrashA
namespace Go.Proofs.YtchmecndihphfaaGreatDoor
open Go.ChangeShapes Go.WideShapes Go.ChangeAt Go.RowKit Go.ChangeMaps Go.MapKept
set_option linter.unusedVariables false

def NilPost (w : World) (e : Ending) (w' : World) : Prop := e = .returned (.int .i64 1) ∧ Below w.heap.size w w'
theorem room_nil (n : Int) (w : World) : Calls Tryz.prog 66 #[.pointer none, .int .i64 n] w (NilPost w) := by
  go_enter Tryz.func66, Tryz.ntmps66
  go_wp2
  go_ret
  exact ⟨rfl, Below.refl _ _⟩
theorem fuse_nil (n : Int) (w : World) : Calls Tryz.prog 27 #[.pointer none, .int .i64 n] w (NilPost w) := by
  go_enter Tryz.func27, Tryz.ntmps27
  go_wp2
  go_ret
  exact ⟨rfl, Below.refl _ _⟩
theorem mkdir_nil (d : ByteArray) (w : World) : Calls Tryz.prog 26 #[.pointer none, .string d] w (NilPost w) := by
  go_enter Tryz.func26, Tryz.ntmps26
  go_wp2_with (go_at_call 78; refine (live_nil _ _ _).mono ?_; rintro e w1 ⟨rfl, rfl⟩)
  go_ret
  exact ⟨rfl, Below.al (Below.al (Below.refl _ w) (Nat.le_refl _) _) (Nat.le_refl _) _⟩
theorem syncDir_nil (d : ByteArray) (w : World) : Calls Tryz.prog 49 #[.pointer none, .string d] w (NilPost w) := by
  go_enter Tryz.func49, Tryz.ntmps49
  go_wp2_with (go_at_call 78; refine (live_nil _ _ _).mono ?_; rintro e w1 ⟨rfl, rfl⟩)
  go_ret
  exact ⟨rfl, Below.al (Below.refl _ w) (Nat.le_refl _) _⟩
theorem create_nil (d n : ByteArray) (w : World) : Calls Tryz.prog 41 #[.pointer none, .string d, .string n] w (NilPost w) := by
  go_enter Tryz.func41, Tryz.ntmps41
  go_wp2_with (go_at_call 78; refine (live_nil _ _ _).mono ?_; rintro e w1 ⟨rfl, rfl⟩)
  go_ret
  exact ⟨rfl, Below.al (Below.al (Below.al (Below.refl _ w) (Nat.le_refl _) _) (Nat.le_refl _) _) (Nat.le_refl _) _⟩
theorem sync_nil (d n : ByteArray) (w : World) : Calls Tryz.prog 45 #[.pointer none, .string d, .string n] w (NilPost w) := by
  go_enter Tryz.func45, Tryz.ntmps45
  go_wp2_with (go_at_call 98; refine (liveFile_nil _ none 0 0 w.heap.size _ (by simp <;> omega) (by decide) [] (own_none _ _) _).mono ?_; rintro e w1 ⟨rfl, hb⟩; have HB := Lib.hid hb; clear hb)
  go_ret
  exact ⟨rfl, Below.al (HB.out) (Nat.le_refl _) _⟩
theorem append_nil (d n : ByteArray) (A : Option Addr) (len c : Nat) (w : World) : Calls Tryz.prog 43 #[.pointer none, .string d, .string n, .slice A len c] w (NilPost w) := by
  go_enter Tryz.func43, Tryz.ntmps43
  go_wp2_with (go_at_call 98; refine (liveFile_nil _ none 0 0 w.heap.size _ (by simp <;> omega) (by decide) [] (own_none _ _) _).mono ?_; rintro e w1 ⟨rfl, hb⟩; have HB := Lib.hid hb; clear hb)
  go_ret
  exact ⟨rfl, Below.al ((Below.al (Below.al (Below.refl _ w) (Nat.le_refl _) _) (Nat.le_refl _) _).trans HB.out) (Nat.le_refl _) _⟩
theorem remove_nil (d n : ByteArray) (w : World) : Calls Tryz.prog 64 #[.pointer none, .string d, .string n] w (NilPost w) := by
  go_enter Tryz.func64, Tryz.ntmps64
  go_wp2_with (go_at_call 98; refine (liveFile_nil _ none 0 0 w.heap.size _ (by simp <;> omega) (by decide) [] (own_none _ _) _).mono ?_; rintro e w1 ⟨rfl, hb⟩; have HB := Lib.hid hb; clear hb)
  go_ret
  exact ⟨rfl, Below.al (Below.al ((Below.al (Below.al (Below.refl _ w) (Nat.le_refl _) _) (Nat.le_refl _) _).trans HB.out) (Nat.le_refl _) _) (Nat.le_refl _) _⟩
theorem rename_nil (d n : ByteArray) (m : Nm) (w : World) : Calls Tryz.prog 47 #[.pointer none, .string d, .string n, .string (txt m)] w (NilPost w) := by
  obtain ⟨w0, hw0⟩ : ∃ w0, ((w.alloc (.cells #[.pointer none] 25)).alloc (.cells #[.string n] 9)).alloc (.cells #[.string (txt m)] 9) = w0 := ⟨_, rfl⟩
  have hsz : w0.heap.size = w.heap.size + 3 := by rw [← hw0]; simp
  have HW00 := Lib.hid (show Below w.heap.size w w0 by rw [← hw0]; exact Below.al (Below.al (Below.al (Below.refl _ w) (Nat.le_refl _) _) (Nat.le_refl _) _) (Nat.le_refl _) _)
  have HO1 : (w0.alloc (.cells #[.string (txt m)] 9)).ownsRow w0.heap.size 9 1 (.slice (some ⟨w.heap.size + 3, 0, none⟩) 1 1) 1 [encStr m] := by
    have := own_one w0 w0.heap.size (Nat.le_refl _) m
    rw [hsz] at this ⊢
    exact this
  have HL := Lib.hid (liveFile_nil (.string d) _ 1 1 w0.heap.size (w0.alloc (.cells #[.string (txt m)] 9)) (by simp) (by decide) _ HO1 n)
  have HB0 := Lib.hid (show Below w0.heap.size w0 (w0.alloc (.cells #[.string (txt m)] 9)) from Below.al (Below.refl _ w0) (Nat.le_refl _) _)
  clear HO1
  subst hw0
  clear hsz
  go_enter Tryz.func47, Tryz.ntmps47
  go_wp2_with (go_at_call 98; refine HL.out.mono ?_; rintro e w1 ⟨rfl, hb⟩; have HB := Lib.hid hb; clear hb)
  go_ret
  exact ⟨rfl, HW00.out.trans ((Below.al (Below.al (HB0.out.trans HB.out) (Nat.le_refl _) _) (Nat.le_refl _) _).mono HW00.out.size)⟩
theorem read_nil (d n : ByteArray) (w : World) : Calls Tryz.prog 58 #[.pointer none, .string d, .string n] w fun e w' => e = .returned (.tuple #[.slice none 0 0, .int .i64 1]) ∧ Below w.heap.size w w' := by
  go_enter Tryz.func58, Tryz.ntmps58
  go_wp2_with (go_at_call 98; refine (liveFile_nil _ none 0 0 w.heap.size _ (by simp <;> omega) (by decide) [] (own_none _ _) _).mono ?_; rintro e w1 ⟨rfl, hb⟩; have HB := Lib.hid hb; clear hb)
  go_ret2
  exact ⟨rfl, HB.out⟩
theorem list_nil (d : ByteArray) (w : World) : Calls Tryz.prog 62 #[.pointer none, .string d] w fun e w' => e = .returned (.tuple #[.slice none 0 0, .int .i64 1]) ∧ w = w' := by
  go_enter Tryz.func62, Tryz.ntmps62
  go_wp2_with (go_at_call 78; refine (live_nil _ _ _).mono ?_; rintro e w1 ⟨rfl, rfl⟩)
  go_ret2
  exact ⟨rfl, rfl⟩
theorem dirs_nil  (w : World) : Calls Tryz.prog 77 #[.pointer none] w fun e w' => e = .returned (.slice none 0 0) ∧ w = w' := by
  go_enter Tryz.func77, Tryz.ntmps77
  go_wp2
  go_ret
  exact ⟨rfl, rfl⟩
theorem used_nil  (w : World) : Calls Tryz.prog 74 #[.pointer none] w fun e w' => e = .returned (.int .i64 0) ∧ w = w' := by
  go_enter Tryz.func74, Tryz.ntmps74
  go_wp2
  go_ret
  exact ⟨rfl, rfl⟩
theorem steps_nil  (w : World) : Calls Tryz.prog 33 #[.pointer none] w fun e w' => e = .returned (.int .i64 0) ∧ w = w' := by
  go_enter Tryz.func33, Tryz.ntmps33
  go_wp2
  go_ret
  exact ⟨rfl, rfl⟩
theorem on_nil  (w : World) : Calls Tryz.prog 76 #[.pointer none] w fun e w' => e = .returned (.bool false) ∧ w = w' := by
  go_enter Tryz.func76, Tryz.ntmps76
  go_wp2
  go_ret
  exact ⟨rfl, rfl⟩
theorem spoil_nil (d n : ByteArray) (at_ : Int) (t : Int) (w : World) : Calls Tryz.prog 67 #[.pointer none, .string d, .string n, .int .i64 at_, .int .u8 t] w (NilPost w) := by
  go_enter Tryz.func67, Tryz.ntmps67
  go_wp2_with (go_at_call 115; refine (file_nil _ _ none 0 0 w.heap.size _ (by simp) (by decide) [] (own_none _ _) n rfl).mono ?_; rintro e w1 ⟨rfl, hb⟩; have HB := Lib.hid hb; clear hb)
  go_ret
  exact ⟨rfl, HB.out⟩
theorem plant_nil (d n : ByteArray) (A : Option Addr) (len c : Nat) (w : World) : Calls Tryz.prog 68 #[.pointer none, .string d, .string n, .slice A len c] w (NilPost w) := by
  go_enter Tryz.func68, Tryz.ntmps68
  go_wp2_with (go_at_call 116; refine (directory_nil _ _ _).mono ?_; rintro e w1 ⟨rfl, rfl⟩)
  go_ret
  exact ⟨rfl, Below.al (Below.refl _ w) (Nat.le_refl _) _⟩
end Go.Proofs.YtchmecndihphfaaGreatDoor
