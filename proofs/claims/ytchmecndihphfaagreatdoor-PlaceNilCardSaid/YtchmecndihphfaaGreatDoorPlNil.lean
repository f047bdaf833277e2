/- The statement PlaceNil: the walk. -/
import Derived.Test.YtchmecndihphfaaGreatDoorPlAlive
import Derived.Test.YtchmecndihphfaaGreatDoorFsNils
namespace Go.Proofs.YtchmecndihphfaaGreatDoor
open Go Go.ChangeShapes Go.WideShapes Go.ChangeAt Go.RowKit Go.ChangeMaps Go.MapKept
set_option linter.unusedVariables false

theorem get_nil (d n : ByteArray) (w : World) : Calls Tryz.prog 16 #[.pointer none, .string d, .string n] w fun e w' => e = .returned (.tuple #[.slice none 0 0, .int .i64 1]) ∧ Below w.heap.size w w' := by
  go_enter Tryz.func16, Tryz.ntmps16
  go_wp2_with (go_at_call 58; refine (read_nil _ _ _).mono ?_; rintro e w1 ⟨rfl, hb⟩; have HB := Lib.hid hb; clear hb)
  go_ret2
  exact ⟨rfl, HB.out⟩
theorem clean_nil (d : ByteArray) (w : World) : Calls Tryz.prog 18 #[.pointer none, .string d] w fun e w' => e = .returned (.tuple #[.int .i64 0, .int .i64 1]) ∧ Below w.heap.size w w' := by
  go_enter Tryz.func18, Tryz.ntmps18
  go_wp2_with (go_at_call 62; refine (list_nil _ _).mono ?_; rintro e w1 ⟨rfl, rfl⟩)
  refine bodyPost_ret (v := .tuple #[.int .i64 0, .int .i64 1]) (by simp [results, Tryz.results18, go_sem]) rfl ?_
  exact ⟨rfl, Below.al (Below.al (Below.al (Below.al (Below.refl _ w) (Nat.le_refl _) _) (Nat.le_refl _) _) (Nat.le_refl _) _) (Nat.le_refl _) _⟩
theorem ready_nil (d : ByteArray) (w : World) : Calls Tryz.prog 20 #[.pointer none, .string d] w fun e w' => e = .returned (.tuple #[.slice none 0 0, .int .i64 1]) ∧ Below w.heap.size w w' := by
  go_enter Tryz.func20, Tryz.ntmps20
  go_wp2_with (first
    | (go_at_call 62; refine (list_nil _ _).mono ?_; rintro e w1 ⟨rfl, rfl⟩)
    | (go_at_call 18; refine (clean_nil _ _).mono ?_; rintro e w1 ⟨rfl, hb⟩; have HB := Lib.hid hb; clear hb))
  go_ret2
  exact ⟨rfl, HB.out⟩
theorem put_nil (d n : ByteArray) (A : Option Addr) (len c : Nat) (w : World) : Calls Tryz.prog 12 #[.pointer none, .string d, .string n, .slice A len c] w (NilPost w) := by
  go_enter Tryz.func12, Tryz.ntmps12
  go_wp2
  go_ret
  exact ⟨rfl, Below.refl _ _⟩
theorem raw_nil (d n : ByteArray) (A : Option Addr) (len c : Nat) (w : World) : Calls Tryz.prog 14 #[.pointer none, .string d, .string n, .slice A len c] w (NilPost w) := by
  go_enter Tryz.func14, Tryz.ntmps14
  go_wp2
  go_ret
  exact ⟨rfl, Below.al (Below.al (Below.al (Below.al (Below.refl _ w) (Nat.le_refl _) _) (Nat.le_refl _) _) (Nat.le_refl _) _) (Nat.le_refl _) _⟩
set_option maxHeartbeats 2000000 in
theorem nil_walk (d n b : ByteArray) (hb : b.size ≤ 140737488351232) (w : World) (hT : Tab w.heap.size w) :
    Calls Tryz.prog 7 #[.string d, .string n, .string b] w fun e w' => e = .returned (.bool true) ∧ Below w.heap.size w w' := by
  have HA := Lib.hid (alive_any w hT (Nat.le_refl _))
  have hcv := fun W => run_bytes_of_string (P := Tryz.prog) W 9 40 5 b Tryz.underlying9 Tryz.underlying40 Tryz.underlying5
  clear hT
  by_cases hbig : 4000 < b.size
  · have d0 : decide ((4000 : Int) < (b.size : Int)) = true := decide_eq_true (by omega)
    go_enter Tryz.func7, Tryz.ntmps7
    go_wp2_with (go_at_call 8; refine HA.out.mono ?_; rintro e w1 ⟨rfl, h1⟩; have HB1 := Lib.hid h1; clear h1)
    go_ret
    exact ⟨rfl, HB1.out⟩
  · have d0 : decide ((4000 : Int) < (b.size : Int)) = false := decide_eq_false (by omega)
    clear hbig
    go_enter Tryz.func7, Tryz.ntmps7
    go_wp2_with (first
      | (go_at_call 8; refine HA.out.mono ?_; rintro e w1 ⟨rfl, h1⟩; have HB1 := Lib.hid h1; clear h1)
      | (go_at_call 16; refine (get_nil _ _ _).mono ?_; rintro e w2 ⟨rfl, h1⟩; have HB2 := Lib.hid (HB1.out.trans (h1.mono HB1.out.size)); clear h1)
      | (go_at_call 18; refine (clean_nil _ _).mono ?_; rintro e w3 ⟨rfl, h1⟩; have HB3 := Lib.hid (HB2.out.trans (h1.mono HB2.out.size)); clear h1)
      | (go_at_call 20; refine (ready_nil _ _).mono ?_; rintro e w4 ⟨rfl, h1⟩; have HB4 := Lib.hid (HB3.out.trans (h1.mono HB3.out.size)); clear h1)
      | (go_at_call 12; refine (put_nil _ _ _ _ _ _).mono ?_; rintro e w5 ⟨rfl, h1⟩; have HB5 := Lib.hid ((HB4.out.alloc HB4.out.size _).drew.trans (h1.mono (HB4.out.alloc HB4.out.size _).drew.size)); clear h1)
      | (go_at_call 14; refine (raw_nil _ _ _ _ _ _).mono ?_; rintro e w6 ⟨rfl, h1⟩; have HB6 := Lib.hid ((HB5.out.alloc HB5.out.size _).drew.trans (h1.mono (HB5.out.alloc HB5.out.size _).drew.size)); clear h1))
    go_ret
    exact ⟨rfl, HB6.out⟩
end Go.Proofs.YtchmecndihphfaaGreatDoor
