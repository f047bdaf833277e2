/- What a seat needs of several texts. -/
import Derived.Test.YtnkhgajghfonhaaGreatDoorFsCrashA
/- From FsNils. -/
namespace Go.Proofs.YtnkhgajghfonhaaGreatDoor
open Go.ChangeShapes Go.WideShapes Go.ChangeAt Go.RowKit Go.ChangeMaps Go.MapKept
set_option linter.unusedVariables false
def NilPost (w : World) (e : Ending) (w' : World) : Prop := e = .returned (.int .i64 1) ∧ Below w.heap.size w w'
theorem fuse_nil (n : Int) (w : World) : Calls Tryz.prog 10 #[.pointer none, .int .i64 n] w (NilPost w) := by
  go_enter Tryz.func10, Tryz.ntmps10
  go_wp2
  go_ret
  exact ⟨rfl, Below.refl _ _⟩
theorem mkdir_nil (d : ByteArray) (w : World) : Calls Tryz.prog 56 #[.pointer none, .string d] w (NilPost w) := by
  go_enter Tryz.func56, Tryz.ntmps56
  go_wp2_with (go_at_call 81; refine (live_nil _ _ _).mono ?_; rintro e w1 ⟨rfl, rfl⟩)
  go_ret
  exact ⟨rfl, Below.al (Below.al (Below.refl _ w) (Nat.le_refl _) _) (Nat.le_refl _) _⟩
theorem syncDir_nil (d : ByteArray) (w : World) : Calls Tryz.prog 69 #[.pointer none, .string d] w (NilPost w) := by
  go_enter Tryz.func69, Tryz.ntmps69
  go_wp2_with (go_at_call 81; refine (live_nil _ _ _).mono ?_; rintro e w1 ⟨rfl, rfl⟩)
  go_ret
  exact ⟨rfl, Below.al (Below.refl _ w) (Nat.le_refl _) _⟩
theorem create_nil (d n : ByteArray) (w : World) : Calls Tryz.prog 108 #[.pointer none, .string d, .string n] w (NilPost w) := by
  go_enter Tryz.func108, Tryz.ntmps108
  go_wp2_with (go_at_call 81; refine (live_nil _ _ _).mono ?_; rintro e w1 ⟨rfl, rfl⟩)
  go_ret
  exact ⟨rfl, Below.al (Below.al (Below.al (Below.refl _ w) (Nat.le_refl _) _) (Nat.le_refl _) _) (Nat.le_refl _) _⟩
theorem sync_nil (d n : ByteArray) (w : World) : Calls Tryz.prog 112 #[.pointer none, .string d, .string n] w (NilPost w) := by
  go_enter Tryz.func112, Tryz.ntmps112
  go_wp2_with (go_at_call 97; refine (liveFile_nil _ none 0 0 w.heap.size _ (by simp <;> omega) (by decide) [] (own_none _ _) _).mono ?_; rintro e w1 ⟨rfl, hb⟩; have HB := Lib.hid hb; clear hb)
  go_ret
  exact ⟨rfl, Below.al (HB.out) (Nat.le_refl _) _⟩
theorem append_nil (d n : ByteArray) (A : Option Addr) (len c : Nat) (w : World) : Calls Tryz.prog 110 #[.pointer none, .string d, .string n, .slice A len c] w (NilPost w) := by
  go_enter Tryz.func110, Tryz.ntmps110
  go_wp2_with (go_at_call 97; refine (liveFile_nil _ none 0 0 w.heap.size _ (by simp <;> omega) (by decide) [] (own_none _ _) _).mono ?_; rintro e w1 ⟨rfl, hb⟩; have HB := Lib.hid hb; clear hb)
  go_ret
  exact ⟨rfl, Below.al ((Below.al (Below.al (Below.refl _ w) (Nat.le_refl _) _) (Nat.le_refl _) _).trans HB.out) (Nat.le_refl _) _⟩
theorem remove_nil (d n : ByteArray) (w : World) : Calls Tryz.prog 68 #[.pointer none, .string d, .string n] w (NilPost w) := by
  go_enter Tryz.func68, Tryz.ntmps68
  go_wp2_with (go_at_call 97; refine (liveFile_nil _ none 0 0 w.heap.size _ (by simp <;> omega) (by decide) [] (own_none _ _) _).mono ?_; rintro e w1 ⟨rfl, hb⟩; have HB := Lib.hid hb; clear hb)
  go_ret
  exact ⟨rfl, Below.al (Below.al ((Below.al (Below.al (Below.refl _ w) (Nat.le_refl _) _) (Nat.le_refl _) _).trans HB.out) (Nat.le_refl _) _) (Nat.le_refl _) _⟩
theorem rename_nil (d n : ByteArray) (m : Nm) (w : World) : Calls Tryz.prog 114 #[.pointer none, .string d, .string n, .string (txt m)] w (NilPost w) := by
  obtain ⟨w0, hw0⟩ : ∃ w0, ((w.alloc (.cells #[.pointer none] 25)).alloc (.cells #[.string n] 9)).alloc (.cells #[.string (txt m)] 9) = w0 := ⟨_, rfl⟩
  have hsz : w0.heap.size = w.heap.size + 3 := by rw [← hw0]; simp
  have HW00 := Lib.hid (show Below w.heap.size w w0 by rw [← hw0]; exact Below.al (Below.al (Below.al (Below.refl _ w) (Nat.le_refl _) _) (Nat.le_refl _) _) (Nat.le_refl _) _)
  have HO1 : (w0.alloc (.cells #[.string (txt m)] 9)).ownsRow w0.heap.size 9 1 (.slice (some ⟨w.heap.size + 3, 0, none⟩) 1 1) 1 [encStr m] := by
    have := own_one w0 w0.heap.size (Nat.le_refl _) m
    rw [hsz] at this ⊢
    exact this
  have HL := Lib.hid (liveFile_nil (.string d) _ 1 1 w0.heap.size (w0.alloc (.cells #[.string (txt m)] 9)) (by simp) (by decide) _ HO1 n)
  have HB0 := Lib.hid (show Below w0.heap.size w0 (w0.alloc (.cells #[.string (txt m)] 9)) from Below.al (Below.refl _ w0) (Nat.le_refl _) _)
  clear HO1
  subst hw0
  clear hsz
  go_enter Tryz.func114, Tryz.ntmps114
  go_wp2_with (go_at_call 97; refine HL.out.mono ?_; rintro e w1 ⟨rfl, hb⟩; have HB := Lib.hid hb; clear hb)
  go_ret
  exact ⟨rfl, HW00.out.trans ((Below.al (Below.al (HB0.out.trans HB.out) (Nat.le_refl _) _) (Nat.le_refl _) _).mono HW00.out.size)⟩
theorem read_nil (d n : ByteArray) (w : World) : Calls Tryz.prog 88 #[.pointer none, .string d, .string n] w fun e w' => e = .returned (.tuple #[.slice none 0 0, .int .i64 1]) ∧ Below w.heap.size w w' := by
  go_enter Tryz.func88, Tryz.ntmps88
  go_wp2_with (go_at_call 97; refine (liveFile_nil _ none 0 0 w.heap.size _ (by simp <;> omega) (by decide) [] (own_none _ _) _).mono ?_; rintro e w1 ⟨rfl, hb⟩; have HB := Lib.hid hb; clear hb)
  go_ret2
  exact ⟨rfl, HB.out⟩
theorem list_nil (d : ByteArray) (w : World) : Calls Tryz.prog 55 #[.pointer none, .string d] w fun e w' => e = .returned (.tuple #[.slice none 0 0, .int .i64 1]) ∧ w = w' := by
  go_enter Tryz.func55, Tryz.ntmps55
  go_wp2_with (go_at_call 81; refine (live_nil _ _ _).mono ?_; rintro e w1 ⟨rfl, rfl⟩)
  go_ret2
  exact ⟨rfl, rfl⟩
theorem steps_nil  (w : World) : Calls Tryz.prog 16 #[.pointer none] w fun e w' => e = .returned (.int .i64 0) ∧ w = w' := by
  go_enter Tryz.func16, Tryz.ntmps16
  go_wp2
  go_ret
  exact ⟨rfl, rfl⟩
end Go.Proofs.YtnkhgajghfonhaaGreatDoor
