/- What a seat needs of several texts. -/
import Derived.Test.YtnkhgajghfonhaaGreatDoorPlWholeP
import Derived.Test.YtnkhgajghfonhaaGreatDoorHexB
import Derived.Lib.SlBytesConst
/- From PlAlive. -/
namespace Go.Proofs.YtnkhgajghfonhaaGreatDoor
open Go Go.ChangeShapes Go.WideShapes Go.ChangeAt Go.RowKit Go.ChangeMaps Go.MapKept
open Go.Lib (byteCells byteCells_length byteCells_append strCells)
set_option linter.unusedVariables false
theorem hex255 : txt (hexL 255) = ⟨#[48, 48, 48, 48, 48, 48, 48, 48, 48, 48, 48, 48, 48, 48, 102, 102]⟩ := by decide
theorem ready_new {room : Int} (hr : 0 ≤ room) : readyR (newFs room) nd = ([], 0, pw1 room) := by
  obtain ⟨i1, f1, e1⟩ := is_mkdir (room := room) hr
  have hM : readyM (newFs room) nd = (0, pw1 room) := by
    unfold readyM
    rw [show liveE (newFs room) nd [] = 61 from rfl, if_pos rfl]
    show _ = (0, (mkdirR (newFs room) nd).2)
    rw [← e1]
  have hC : cleanR (pw1 room) nd = (0, 0, pw1 room) := by
    have hl : listN (pw1 room) nd = [] := Is.list i1
    have hv : liveE (pw1 room) nd [] = 0 := Is.live i1 [] rfl
    unfold cleanR
    rw [hl, hv, if_neg (by simp), show tmps [] = [] from rfl, if_neg (by simp [rmAll]), if_pos rfl]; rfl
  unfold readyR
  rw [hM, if_neg (by simp)]
  rw [show cleanR (0, pw1 room).2 nd = _ from hC, if_neg (by simp)]
  show (listN (pw1 room) nd, liveE (pw1 room) nd [], pw1 room) = _
  rw [show listN (pw1 room) nd = [] from Is.list i1, show liveE (pw1 room) nd [] = 0 from Is.live i1 [] rfl]
structure AlOk (x : Nat) : Prop where
  put : (rawR (pw1 1000) nd na (fr [120]) x).1 = 0
  get : getE (rawR (pw1 1000) nd na (fr [120]) x).2 nd na = 0
  got : getB (rawR (pw1 1000) nd na (fr [120]) x).2 nd na = [120]
  steps : (rawR (pw1 1000) nd na (fr [120]) x).2.steps = 6
theorem al_ok (x : Nat) : AlOk x := by
  have hl := fr_length [120]
  obtain ⟨h1, h2, u, hu, h3⟩ := put_first (room := 1000) (by omega) [120] (by rw [hl]; decide) (by rw [hl]; decide) x
  obtain ⟨h4, h5⟩ := get_is h3 (mget_one na x) h2 (by decide)
  exact ⟨h1, h4, h5, h3.steps⟩
theorem alWf (x : Nat) : WfK 0 (newFs 1000) ∧ WfK 1 (pw1 1000) ∧ WfK 7 (rawR (pw1 1000) nd na (fr [120]) x).2 := by
  have h0 := WfK.new (room := 1000) rfl
  have h1 := wfk_mkdir h0 nd
  exact ⟨h0, h1, wfk_raw h1 nd na (fr [120]) x⟩
theorem x_at (w : World) : BytesAt (w.alloc (.cells #[.int .u8 120] 5 (1, 2))) (w.alloc (.cells #[.int .u8 120] 5 (1, 2))).heap.size (some ⟨w.heap.size, 0, none⟩) [120] := by
  intro j hj
  refine ⟨w.heap.size, 0, rfl, by simp, ?_⟩
  obtain rfl : j = 0 := by simp at hj; exact hj
  rw [Nat.zero_add, World.cell?_alloc_mark]
  rfl
theorem ready_len {room : Int} (hr : 0 ≤ room) : (listN (readyM (newFs room) nd).2 nd).length = 0 := by
  obtain ⟨i1, f1, e1⟩ := is_mkdir (room := room) hr
  have : (readyM (newFs room) nd).2 = pw1 room := by
    unfold readyM
    rw [show liveE (newFs room) nd [] = 61 from rfl, if_pos rfl]; rfl
  rw [this, show listN (pw1 room) nd = [] from Is.list i1]; rfl
end Go.Proofs.YtnkhgajghfonhaaGreatDoor
