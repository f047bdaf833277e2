/- segment: Open of a directory not yet there. -/
import Derived.Test.YtkcnmajjfljilaaGreatDoorSgS
namespace Go.Proofs.YtkcnmajjfljilaaGreatDoor
open Go Go.ChangeShapes Go.WideShapes Go.ChangeAt Go.RowKit Go.ChangeMaps Go.MapKept
set_option linter.unusedVariables false
set_option linter.unusedSimpArgs false

theorem numbers_none (A : Option Addr) (c : Nat) (w : World) : Calls Tryz.prog 40 #[.slice A 0 c] w fun e w' => e = .returned (.slice none 0 0) ∧ w = w' := by
  go_enter Tryz.func40, Tryz.ntmps40
  go_wp2
  go_loop [3, 12] (fun a i => a = .slice none 0 0 ∧ i = .int .i64 0) (fun _ _ => 0)
  case atStart => exact ⟨rfl, rfl⟩
  case round =>
    obtain ⟨rfl, rfl⟩ := hrel
    go_wp2
    go_ret
    exact ⟨rfl, rfl⟩
theorem take_none (l : Nat) (w : World) : Calls Tryz.prog 39 #[.pointer (some ⟨l, 0, none⟩), .slice none 0 0] w fun e w' => e = .returned (.int .i64 0) ∧ w = w' := by
  go_enter Tryz.func39, Tryz.ntmps39
  go_wp2
  go_loop [11] (fun i => i = .int .i64 0) (fun _ => 0)
  case atStart => rfl
  case round =>
    obtain rfl := hrel
    go_wp2
    go_ret
    exact ⟨rfl, rfl⟩
section
variable {Q : Nat → Prop} {B f M : Nat} {dir : Nm} {room used size : Int} {s : Fs} {w : World}
theorem seg_fresh {w2 : World} {s' : Fs} (hr : Rep Q B f s' w2) (hs : Sl s' room used dir 0 [] []) (hw : WfK M s') (hB : B ≤ w2.heap.size) : Sg Q B w2.heap.size f dir room used 0 M size [] [] 0 s' (w2.alloc (.cells #[.pointer (some ⟨f, 0, none⟩), .string (txt dir), .int .i64 size, .slice none 0 0, .int .i64 0, .int .i64 0, .int .i64 0] 96)) := by
  have hal : Below w2.heap.size w2 (w2.alloc (.cells #[.pointer (some ⟨f, 0, none⟩), .string (txt dir), .int .i64 size, .slice none 0 0, .int .i64 0, .int .i64 0, .int .i64 0] 96)) := (Below.refl _ w2).alloc (Nat.le_refl _) _
  refine ⟨⟨(· = w2.heap.size), ⟨⟨none, 0, Cells.new w2 _ _, World.ownsRow_nil _ 0 _ 1, fun k hk => by cases hk⟩, rfl, fun k hk => by rw [hk]; simp, by decide⟩, hr.more (chb hal) (fun i hi => ?_), fun i hi => ?_⟩, hs, hw, by decide, by decide⟩
  · rcases hi with h | h
    · exact .inl h
    · exact .inr (by rw [h]; simp)
  · subst hi
    refine ⟨fun hq => ?_, hB⟩
    obtain ⟨L, hL⟩ := hr
    have := hL.kold _ hq
    omega
set_option maxRecDepth 100000 in
set_option maxHeartbeats 4000000 in
/-- A log is opened in a directory not yet there. -/
theorem open_sg (hr : Rep Q B f s w) (wf : WfK M s) (g : Gl s room used) (hd : right dir = true) (hn : dir ∉ s.names) (hl : s.names.length < 64) (hM : M + 2 ≤ 1000000) (hBw : B ≤ w.heap.size) (hT : Tab B w) (hsz : 1 ≤ size ∧ size ≤ 16777216) :
    Calls Tryz.prog 25 #[.pointer (some ⟨f, 0, none⟩), .string (txt dir), .int .i64 size] w fun e w' => ∃ l s', e = .returned (.tuple #[.pointer (some ⟨l, 0, none⟩), .int .i64 0]) ∧ Sg Q B l f dir room used 0 (M + 2) size [] [] 0 s' w' ∧ Turn Q B w w' ∧ s'.names = nins dir s.names ∧ (∀ d, d ≠ dir → s'.dir d = s.dir d) := by
  obtain ⟨h1, h2, h3, h4, h5, h6, h7⟩ := fresh_sl g hd hn hl
  have hwm := wfk_mkdir wf dir
  have HRD := Lib.hid (ready_any hr wf dir (by rw [h1, h2]; simpa using hM) hBw)
  rw [h3] at HRD
  obtain ⟨s', hs'⟩ : ∃ s', (mkdirR s dir).2 = s' := ⟨_, rfl⟩
  rw [hs'] at HRD h4 h5 h6 hwm
  have HSL := Lib.hid h4
  have HWF := Lib.hid hwm
  have HTAB := Lib.hid hT
  have H5 := Lib.hid h5
  have H6 := Lib.hid h6
  obtain ⟨g1, g2⟩ := hsz
  have g3 : ¬ size < 1 := by omega
  have g4 : ¬ 16777216 < size := by omega
  clear hr wf g hd hn hl h1 h2 h3 h4 h5 h6 h7 hs' hwm hT
  go_enter Tryz.func25, Tryz.ntmps25
  go_wp2_with (first
    | (go_at_call 38; go_loud (refine HRD.out.mono ?_; rintro e w2 ⟨v, rfl, h1, h2, h3⟩; obtain ⟨A2, c2, rfl, _⟩ := names_own h1; have HR2 := Lib.hid h2; have HT2 := Lib.hid h3; clear h1 h2 h3))
    | (go_at_call 40; go_loud (refine (numbers_none A2 c2 _).mono ?_; rintro e w3 ⟨rfl, rfl⟩))
    | (go_at_call 39; go_loud (refine (take_none _ _).mono ?_; rintro e w3 ⟨rfl, rfl⟩))
    | (go_at_call 29; go_loud (refine (sync_sg (seg_fresh HR2.out HSL.out HWF.out (Nat.le_trans hBw HT2.out.size)) hM (Nat.le_trans hBw (Nat.le_trans HT2.out.size (by simp))) (HTAB.out.below (HT2.out.below.alloc (Nat.le_trans hBw HT2.out.size) _))).mono ?_; rintro e w4 ⟨rfl, s4, p1, p2, p3⟩; have HP1 := Lib.hid p1; have HP2 := Lib.hid p2; have HP3 := Lib.hid p3; clear p1 p2 p3)))
  go_ret2
  exact ⟨_, s4, rfl, HP1.out, HT2.out.trans ((Turn.of ((Below.refl _ w2).alloc (Nat.le_refl _) _) (Nat.le_trans hBw HT2.out.size)).trans HP2.out), HP3.out.beside.1.trans H5.out, fun d hd => (HP3.out.beside.2 d hd).trans (H6.out d hd)⟩
end
end Go.Proofs.YtkcnmajjfljilaaGreatDoor
