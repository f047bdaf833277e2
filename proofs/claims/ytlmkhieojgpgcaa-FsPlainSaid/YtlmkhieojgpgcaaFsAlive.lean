/- alive: the chapter's example. -/
import Derived.Test.YtlmkhieojgpgcaaFsIs
import Derived.Lib.SlBytesConst
namespace Go.Proofs.Ytlmkhieojgpgcaa
open Go.ChangeShapes Go.WideShapes Go.ChangeAt Go.RowKit Go.ChangeMaps Go.MapKept
open Go.Lib (byteCells byteCells_length byteCells_append strCells)
set_option linter.unusedVariables false

theorem mget_one (n : Nm) (x : Nat) : mget [(n, x)] n = some x := by simp [mget]
theorem mset_nil (n : Nm) (x : Nat) : mset [] n x = [(n, x)] := rfl
/-- The states of the example. -/
def ex1 : Fs := (mkdirR (newFs 100) nd).2
def ex2 (x : Nat) : Fs := (createR ex1 nd na x).2
def ex3 (x : Nat) : Fs := (appendR (ex2 x) nd na [120, 121]).2
def ex4 (x : Nat) : Fs := (syncDirR (ex3 x) nd).2
def ex5 (x : Nat) : Fs := crashS (ex4 x) [0, 1]
structure ExOk (x : Nat) : Prop where
  e1 : (mkdirR (newFs 100) nd).1 = 0
  e2 : (createR ex1 nd na x).1 = 0
  e3 : (appendR (ex2 x) nd na [120, 121]).1 = 0
  e4 : (syncDirR (ex3 x) nd).1 = 0
  lf : lfE (ex5 x) nd na [] = 0
  read : readB (ex5 x) nd na = [120]
  steps : (ex5 x).steps = 4
theorem ex_ok (x : Nat) : ExOk x := by
  obtain ⟨i1, f1, e1⟩ := is_mkdir (room := 100) (by omega)
  obtain ⟨i2, f2, e2⟩ := is_create i1 na_right rfl (by decide) (by decide) x
  have g2 : mget (didDir ⟨[], [], []⟩ (.create na x)).now na = some x := mget_one na x
  obtain ⟨i3, f3, e3⟩ := is_append i2 na_right g2 (by rw [f2]; exact upd_same _ _ _) [120, 121] (by decide) (by decide) (by decide)
  obtain ⟨i4, f4, e4⟩ := is_syncDir i3 (by decide)
  obtain ⟨u, i5, f5⟩ := is_crash i4 [0, 1]
  have hnow : (settledDir (settledDir (didDir ⟨[], [], []⟩ (.create na x)) 1) 0).now = [(na, x)] := rfl
  have hpk : pickK [0, 1] (settledDir (didDir ⟨[], [], []⟩ (.create na x)) (didDir ⟨[], [], []⟩ (.create na x)).pend.length).pend.length = 0 := rfl
  rw [hpk] at i5 f5
  have g5 : mget (settledDir (settledDir (didDir ⟨[], [], []⟩ (.create na x)) (didDir ⟨[], [], []⟩ (.create na x)).pend.length) 0).now na = some x := mget_one na x
  obtain ⟨l5, o5⟩ := i5.lf na_right [] rfl g5
  refine ⟨e1, e2, e3, e4, l5, ?_, i5.steps⟩
  unfold readB
  rw [if_pos (show lfE (ex5 x) nd na [] = 0 from l5)]
  have o5' : fileOf (ex5 x) nd na = x := o5
  show bytesOf (ex5 x) (fileOf (ex5 x) nd na) = _
  rw [o5']
  unfold bytesOf
  have : (ex5 x).file x = some ([120], 1) := by
    have f5' : (ex5 x).file = (stepD ⟨[1], (ex4 x).file, 0⟩ [(na, x)]).file := f5
    have hx4 : (ex4 x).file x = some ([120, 121], 0) := (congrFun f4 x).trans ((congrFun f3 x).trans (upd_same _ _ _))
    rw [f5']
    simp only [stepD, List.foldl_cons, List.foldl_nil, step2]
    rw [hx4]
    exact upd_same _ _ _
  rw [this]; rfl
theorem exWf (x : Nat) : WfK 0 (newFs 100) ∧ WfK 1 ex1 ∧ WfK 2 (ex2 x) ∧ WfK 3 (ex3 x) ∧ WfK 4 (ex4 x) ∧ WfK 4 (ex5 x) := by
  have h0 := WfK.new (room := 100) rfl
  have h1 := wfk_mkdir h0 nd
  have h2 := wfk_create h1 nd na x
  have h3 := wfk_append h2 nd na [120, 121]
  have h4 := wfk_syncDir h3 nd
  exact ⟨h0, h1, h2, h3, h4, wfk_crash h4 (by decide) _⟩
theorem xy_at (w : World) : BytesAt (w.alloc (.cells #[.int .u8 120, .int .u8 121] 5 (2, 3))) (w.alloc (.cells #[.int .u8 120, .int .u8 121] 5 (2, 3))).heap.size (some ⟨w.heap.size, 0, none⟩) [120, 121] := by
  intro j hj
  refine ⟨w.heap.size, 0, rfl, by simp, ?_⟩
  rw [Nat.zero_add, World.cell?_alloc_mark]
  rcases j with _ | _ | j
  · rfl
  · rfl
  · simp at hj; omega
theorem picks_at (w : World) (B : Nat) : PicksAt B (w.alloc (.cells #[.int .i64 0, .int .i64 1] 3)) (some ⟨w.heap.size, 0, none⟩) [0, 1] := by
  intro j hj
  refine ⟨w.heap.size, 0, rfl, .inr ⟨_, Cells.new w _ _⟩, ?_⟩
  rw [Nat.zero_add, (Cells.new w _ _).cell j]
  rcases j with _ | _ | j
  · rfl
  · rfl
  · simp at hj; omega
theorem Rep.quiet {Kp : Nat → Prop} {B f : Nat} {s : Fs} {w w' : World} (h : Rep Kp B f s w) (k : Ch (fun _ => False) w w') : Rep Kp B f s w' := by
  obtain ⟨L, h⟩ := h; exact ⟨L, h.quiet k⟩
set_option maxHeartbeats 1000000 in
theorem alive_any (w : World) : Calls Try.prog 7 #[] w fun e w' => e = .returned (.bool true) ∧ Below w.heap.size w w' := by
  have HOK := Lib.hid ex_ok
  have kc := fun (w : World) (C : Array Value) (n c : Nat) => Lib.run_convert_bytes_const (P := Try.prog) w 31 5 C n c Try.underlying31 Try.underlying5
  have HWF := Lib.hid exWf
  have HE1 := Lib.hid (show (mkdirR (newFs 100) nd).1 = 0 from (ex_ok 0).e1)
  go_enter Try.func7, Try.ntmps7
  go_wp2_with (first
    | (go_at_call 8; go_loud (refine (new_any (Kp := fun _ => False) 100 rfl w (fun _ h => h.elim)).mono ?_); rintro e w1 ⟨f, rfl, h1, h2⟩; have HR1 := Lib.hid h1; have HB1 := Lib.hid h2; clear h1 h2)
    | (go_at_call 9; go_loud (refine (mkdir_any HR1.out ((HWF.out 0).1.wf (by decide)) HB1.out.size nd).mono ?_); unfold Post; rw [HE1.out]; rintro e w2 ⟨rfl, h1, h2⟩; have HR2 := Lib.hid (show Rep (fun _ => False) w.heap.size f ex1 w2 from h1); have HB2 := Lib.hid (HB1.out.trans h2.below); clear h1 h2)
    | (go_at_call 10; go_loud (refine (create_any HR2.out ((HWF.out 0).2.1.wf (by decide)) HB2.out.size nd na).mono ?_); unfold Post; rintro e w3 ⟨x, hx, rfl, h1, h2⟩; rw [(HOK.out x).e2]; have HR3 := Lib.hid (show Rep (fun _ => False) w.heap.size f (ex2 x) w3 from h1); have HB3 := Lib.hid (HB2.out.trans h2.below); clear h1 h2 hx)
    | (go_at_call 11; go_loud (refine (append_any (HR3.out.quiet ((Ch.refl _ w3).alloc (.cells #[.int .u8 120, .int .u8 121] 5 (2, 3)))) ((HWF.out x).2.2.1.wf (by decide)) (HB3.out.alloc HB3.out.size _).size nd na 2 2 ⟨w3.heap.size, 0, none⟩ [120, 121] rfl (xy_at w3) (by decide)).mono ?_); unfold Post; rw [(HOK.out x).e3]; rintro e w4 ⟨rfl, h1, h2⟩; have HR4 := Lib.hid (show Rep (fun _ => False) w.heap.size f (ex3 x) w4 from h1); have HB4 := Lib.hid ((HB3.out.alloc HB3.out.size _).trans h2.below); clear h1 h2)
    | (go_at_call 13; go_loud (refine (syncDir_any HR4.out ((HWF.out x).2.2.2.1.wf (by decide)) HB4.out.size nd).mono ?_); unfold Post; rw [(HOK.out x).e4]; rintro e w5 ⟨rfl, h1, h2⟩; have HR5 := Lib.hid (show Rep (fun _ => False) w.heap.size f (ex4 x) w5 from h1); have HB5 := Lib.hid (HB4.out.trans h2.below); clear h1 h2)
    | (go_at_call 16; go_loud (refine (crash_any (HR5.out.quiet ((Ch.refl _ w5).alloc (.cells #[.int .i64 0, .int .i64 1] 3))) ((HWF.out x).2.2.2.2.1.wf (by decide)) (HB5.out.alloc HB5.out.size _).size (some ⟨w5.heap.size, 0, none⟩) 2 2 [0, 1] rfl (by decide) (by decide) (picks_at w5 _) (by intro x hx; simp at hx; rcases hx with rfl | rfl <;> (unfold in64; omega))).mono ?_); unfold Post; rintro e w6 ⟨rfl, h1, h2⟩; have HR6 := Lib.hid (show Rep (fun _ => False) w.heap.size f (ex5 x) w6 from h1); have HB6 := Lib.hid ((HB5.out.alloc HB5.out.size _).trans h2.below); clear h1 h2)
    | (go_at_call 18; go_loud (refine (read_any HR6.out ((HWF.out x).2.2.2.2.2.wf (by decide)) nd na).mono ?_); unfold ReadPost; rw [(HOK.out x).lf, (HOK.out x).read]; rintro e w7 ⟨A, n, c, rfl, h1, h2⟩; have HR7 := Lib.hid (HR6.out.quiet (Ch.of_below h2)); have HB7 := Lib.hid (HB6.out.trans (h2.mono HB6.out.size)); have hcv : (convert 31 9 (.slice A n c)).run Try.prog w7 = .ok (.string ⟨#[120]⟩) w7 := string_of_buf h1; clear h1 h2)
    | (go_at_call 20; go_loud (refine (steps_any HR7.out).mono ?_); rw [(HOK.out x).steps]; rintro e w8 ⟨rfl, rfl⟩))
  go_ret
  exact ⟨rfl, HB7.out⟩
end Go.Proofs.Ytlmkhieojgpgcaa
