/- alive: the chapter's examples. -/
import Derived.Test.YtchmecndihphfaaGreatDoorPlWholeP
import Derived.Test.YtchmecndihphfaaGreatDoorHexB
import Derived.Lib.SlBytesConst
namespace Go.Proofs.YtchmecndihphfaaGreatDoor
open Go Go.ChangeShapes Go.WideShapes Go.ChangeAt Go.RowKit Go.ChangeMaps Go.MapKept
open Go.Lib (byteCells byteCells_length byteCells_append strCells)
set_option linter.unusedVariables false

theorem hex255 : txt (hexL 255) = ⟨#[48, 48, 48, 48, 48, 48, 48, 48, 48, 48, 48, 48, 48, 48, 102, 102]⟩ := by decide
theorem ready_new {room : Int} (hr : 0 ≤ room) : readyR (newFs room) nd = ([], 0, pw1 room) := by
  obtain ⟨i1, f1, e1⟩ := is_mkdir (room := room) hr
  have hM : readyM (newFs room) nd = (0, pw1 room) := by
    unfold readyM
    rw [show liveE (newFs room) nd [] = 61 from rfl, if_pos rfl]
    show _ = (0, (mkdirR (newFs room) nd).2)
    rw [← e1]
  have hC : cleanR (pw1 room) nd = (0, 0, pw1 room) := by
    have hl : listN (pw1 room) nd = [] := Is.list i1
    have hv : liveE (pw1 room) nd [] = 0 := Is.live i1 [] rfl
    unfold cleanR
    rw [hl, hv, if_neg (by simp), show tmps [] = [] from rfl, if_neg (by simp [rmAll]), if_pos rfl]; rfl
  unfold readyR
  rw [hM, if_neg (by simp)]
  rw [show cleanR (0, pw1 room).2 nd = _ from hC, if_neg (by simp)]
  show (listN (pw1 room) nd, liveE (pw1 room) nd [], pw1 room) = _
  rw [show listN (pw1 room) nd = [] from Is.list i1, show liveE (pw1 room) nd [] = 0 from Is.live i1 [] rfl]
structure AlOk (x : Nat) : Prop where
  put : (rawR (pw1 1000) nd na (fr [120]) x).1 = 0
  get : getE (rawR (pw1 1000) nd na (fr [120]) x).2 nd na = 0
  got : getB (rawR (pw1 1000) nd na (fr [120]) x).2 nd na = [120]
  steps : (rawR (pw1 1000) nd na (fr [120]) x).2.steps = 6
theorem al_ok (x : Nat) : AlOk x := by
  have hl := fr_length [120]
  obtain ⟨h1, h2, u, hu, h3⟩ := put_first (room := 1000) (by omega) [120] (by rw [hl]; decide) (by rw [hl]; decide) x
  obtain ⟨h4, h5⟩ := get_is h3 (mget_one na x) h2 (by decide)
  exact ⟨h1, h4, h5, h3.steps⟩
theorem alWf (x : Nat) : WfK 0 (newFs 1000) ∧ WfK 1 (pw1 1000) ∧ WfK 7 (rawR (pw1 1000) nd na (fr [120]) x).2 := by
  have h0 := WfK.new (room := 1000) rfl
  have h1 := wfk_mkdir h0 nd
  exact ⟨h0, h1, wfk_raw h1 nd na (fr [120]) x⟩
theorem x_at (w : World) : BytesAt (w.alloc (.cells #[.int .u8 120] 5 (1, 2))) (w.alloc (.cells #[.int .u8 120] 5 (1, 2))).heap.size (some ⟨w.heap.size, 0, none⟩) [120] := by
  intro j hj
  refine ⟨w.heap.size, 0, rfl, by simp, ?_⟩
  obtain rfl : j = 0 := by simp at hj; exact hj
  rw [Nat.zero_add, World.cell?_alloc_mark]
  rfl
theorem ready_len {room : Int} (hr : 0 ≤ room) : (listN (readyM (newFs room) nd).2 nd).length = 0 := by
  obtain ⟨i1, f1, e1⟩ := is_mkdir (room := room) hr
  have : (readyM (newFs room) nd).2 = pw1 room := by
    unfold readyM
    rw [show liveE (newFs room) nd [] = 61 from rfl, if_pos rfl]; rfl
  rw [this, show listN (pw1 room) nd = [] from Is.list i1]; rfl
set_option maxHeartbeats 2000000 in
set_option maxRecDepth 20000 in
theorem alive_any (w : World) {B : Nat} (hT : Tab B w) (hB : B ≤ w.heap.size) : Calls Tryz.prog 8 #[] w fun e w' => e = .returned (.bool true) ∧ Below w.heap.size w w' := by
  have HOK := Lib.hid al_ok
  have HWF := Lib.hid alWf
  have HT := Lib.hid (fun (w1 : World) (hb : Below w.heap.size w w1) => by
    have h := hex_any 255 ⟨by omega, by omega⟩ w1 (hT.below (hb.mono hB)) (Nat.le_trans hB hb.size)
    rw [hex255] at h
    exact h)
  have HRD := Lib.hid (fun (f : Nat) (w1 : World) (hr : Rep (fun _ => False) w.heap.size f (newFs 1000) w1) (hb : Below w.heap.size w w1) => by
    have h := ready_any hr (WfK.new (room := 1000) rfl) nd (by rw [ready_len (by omega)]; decide) hb.size
    rw [ready_new (by omega)] at h
    exact h)
  clear hT hB
  have kc := fun (w : World) (C : Array Value) (n c : Nat) => Lib.run_convert_bytes_const (P := Tryz.prog) w 40 5 C n c Tryz.underlying40 Tryz.underlying5
  go_enter Tryz.func8, Tryz.ntmps8
  go_wp2_with (first
    | (go_at_call 9; go_loud (refine (new_any (Kp := fun _ => False) 1000 rfl w (fun _ h => h.elim)).mono ?_); rintro e w1 ⟨f, rfl, h1, h2⟩; have HR1 := Lib.hid h1; have HB1 := Lib.hid h2; clear h1 h2)
    | (go_at_call 20; go_loud (refine (HRD.out f w1 HR1.out HB1.out).mono ?_); rintro e w2 ⟨v, rfl, h1, h2, h3⟩; obtain ⟨A2, c2, rfl, _⟩ := names_own h1; have HR2 := Lib.hid (show Rep (fun _ => False) w.heap.size f (pw1 1000) w2 from h2); have HB2 := Lib.hid (HB1.out.trans h3.below); clear h1 h2 h3)
    | (go_at_call 12; go_loud (refine (put_any (HR2.out.quiet ((Ch.refl _ w2).alloc (.cells #[.int .u8 120] 5 (1, 2)))) (HWF.out 0).2.1 (by decide) (HB2.out.alloc HB2.out.size _).size nd na 1 1 ⟨w2.heap.size, 0, none⟩ [120] rfl (by decide) (x_at w2)).mono ?_); rintro e w3 ⟨x, hx, rfl, h1, h2⟩; rw [(HOK.out x).put]; have HR3 := Lib.hid h1; have HB3 := Lib.hid ((HB2.out.alloc HB2.out.size _).trans h2.below); clear h1 h2 hx)
    | (go_at_call 31; go_loud (refine (HT.out w3 HB3.out).mono ?_); rintro e w4 ⟨rfl, h1⟩; have HR4 := Lib.hid (HR3.out.below h1); have HB4 := Lib.hid (HB3.out.trans (h1.mono HB3.out.size)); clear h1)
    | (go_at_call 16; go_loud (refine (get_any HR4.out (HWF.out x).2.2 (by decide) nd na).mono ?_); unfold ReadPost; rw [(HOK.out x).get, (HOK.out x).got]; rintro e w5 ⟨A, n, c, rfl, h1, h2⟩; have HR5 := Lib.hid (HR4.out.below h2); have HB5 := Lib.hid (HB4.out.trans (h2.mono HB4.out.size)); have hcv : (convert 40 9 (.slice A n c)).run Tryz.prog w5 = .ok (.string ⟨#[120]⟩) w5 := string_of_buf h1; clear h1 h2)
    | (go_at_call 33; go_loud (refine (steps_any HR5.out).mono ?_); rw [(HOK.out x).steps]; rintro e w6 ⟨rfl, rfl⟩))
  go_ret
  exact ⟨rfl, HB5.out⟩
end Go.Proofs.YtchmecndihphfaaGreatDoor
