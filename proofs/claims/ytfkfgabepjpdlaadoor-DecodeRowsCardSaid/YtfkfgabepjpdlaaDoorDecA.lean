/- Layer 12: the chapter's examples; columns (the whole law). -/
import Derived.Test.YtfkfgabepjpdlaaDoorDecW9
namespace Go.Proofs.YtfkfgabepjpdlaaDoor
open Go.ChangeShapes Go.WideShapes Go.ChangeAt Go.RowKit
open Go.Lib (byteCells byteCells_length byteCells_append strCells)
set_option linter.unusedVariables false

def exC : List C := [⟨⟨#[97]⟩, 1⟩, ⟨⟨#[98]⟩, 3⟩]
def exR : List V := [⟨1, -7, mt⟩, ⟨3, 0, ⟨#[120, 44, 121]⟩⟩]
def exB : List UInt8 := [45, 55, 44, 120, 92, 44, 121]
def exB2 : List UInt8 := [48, 55, 44, 120]
theorem exC_right : rightB exC = true := by decide
theorem exB_rec : recV exC exR = exB := by
  have h : recE exC exR = 0 := by
    unfold recE
    rw [if_neg (by rw [exC_right]; simp), if_neg (by decide), if_neg (by decide)]
  unfold recV
  rw [if_pos h]
  have h7 : Lib.decDigits 7 = [55] := by rw [dig_small (by decide)]; decide
  have hi : Lib.itoa (-7) = [45, 55] := by
    unfold Lib.itoa
    rw [if_pos (by decide), show (-7 : Int).natAbs = 7 from rfl, h7]
  show jn [wr ⟨1, -7, mt⟩, wr ⟨3, 0, ⟨#[120, 44, 121]⟩⟩] = exB
  rw [show wr ⟨1, -7, mt⟩ = Lib.itoa (-7) from rfl, hi]
  decide
theorem exR_wf : ∀ v ∈ exR, v.wf := by
  intro v hv
  simp only [exR, List.mem_cons, List.not_mem_nil, or_false] at hv
  rcases hv with rfl | rfl
  · exact ⟨by simp [in64], by simp [in64], by decide⟩
  · exact ⟨by simp [in64], by simp [in64], by decide⟩
theorem ex_row : rowE exC exB = 0 ∧ rowV exC exB = exR := by
  have h : recE exC exR = 0 := by
    unfold recE
    rw [if_neg (by rw [exC_right]; simp), if_neg (by decide), if_neg (by decide)]
  have := row_rec exR_wf h
  rwa [exB_rec] at this
theorem ex_bad : rowE exC exB2 = 122 ∧ rowV exC exB2 = [] := by
  have hs : splitL exB2 = [[48, 55], [120]] := by decide
  have hi : intV [48, 55] = none := by
    have hp : Lib.parseIntB 64 [48, 55] = .ok 7 := by decide
    have h7 : Lib.itoa 7 = [55] := by
      unfold Lib.itoa
      rw [if_neg (by decide), show (7 : Int).toNat = 7 from rfl, dig_small (by decide)]; decide
    unfold intV
    rw [hp]
    simp only [h7]
    rfl
  have hn : rowsV exC (splitL exB2) = none := by
    refine rowsV_bad (i := 0) (by decide) (by decide) ?_
    show saysV 1 ((splitL exB2)[0]'_) = none
    simp only [hs]
    show saysV 1 [48, 55] = none
    rw [saysV_int (by decide), hi]; rfl
  have he : rowE exC exB2 = 122 := by
    unfold rowE
    rw [if_neg (by rw [exC_right]; simp), if_neg (by decide), if_pos hn]
  refine ⟨he, ?_⟩
  unfold rowV
  rw [he, if_neg (by decide)]
theorem ex_cols (w : World) : Row2 (w.alloc (.cells #[.string ⟨#[97]⟩, .int .i64 1, .string ⟨#[98]⟩, .int .i64 3] 51)) (w.alloc (.cells #[.string ⟨#[97]⟩, .int .i64 1, .string ⟨#[98]⟩, .int .i64 3] 51)).heap.size (some ⟨w.heap.size, 0, none⟩) exC := by
  intro j hj
  refine ⟨w.heap.size, 0, rfl, by simp, ?_, ?_⟩ <;> rw [World.cell?_alloc_mark]
  · match j, hj with
    | 0, _ => rfl
    | 1, _ => rfl
  · match j, hj with
    | 0, _ => rfl
    | 1, _ => rfl
theorem lit_bytes (w : World) (bs : List UInt8) (cells : Array Value) (fr : Nat × Nat) (h : cells = (byteCells bs).toArray) : BytesAt (w.alloc (.cells cells 5 fr)) (w.alloc (.cells cells 5 fr)).heap.size (some ⟨w.heap.size, 0, none⟩) bs := by
  intro j hj
  refine ⟨w.heap.size, 0, rfl, by simp, ?_⟩
  rw [World.cell?_alloc_mark, h]
  simp [byteCells, List.getElem?_eq_getElem hj]
theorem row_ex (w w0 : World) (cap cb : Nat) (Ab : Option Addr) (g n : Nat) (bs : List UInt8) (hcap : 2 ≤ cap) (hcm : cap ≤ maxLen) (hg : Row2 w w.heap.size (some ⟨g, 0, none⟩) exC) (hb : BytesAt w w.heap.size Ab bs) (hn : n = bs.length) (h1 : n ≤ 1000) {B : Nat} (hE : Env B w) (hB : B ≤ w.heap.size) :
    Calls Tryd.prog 16 #[.slice (some ⟨g, 0, none⟩) 2 cap, .slice Ab n cb] w (RowPost (rowE exC bs) (rowV exC bs) w) :=
  row_cols exC (by
    intro c hc
    simp only [exC, List.mem_cons, List.not_mem_nil, or_false] at hc
    rcases hc with rfl | rfl <;> exact ⟨by simp [in64], by decide⟩) 2 cap _ bs n cb Ab w rfl (by decide) hcap hcm hg hn (by omega) hb hE hB
def Ex1 (w : World) (e : Ending) (w' : World) : Prop :=
  ∃ g c, e = .returned (.tuple #[.slice (some ⟨g, 0, none⟩) 2 c, .int .i64 0]) ∧ w'.cell? ⟨g, 1, none⟩ = some (.int .i64 (-7)) ∧ w'.cell? ⟨g, 5, none⟩ = some (.string ⟨#[120, 44, 121]⟩) ∧ Below w.heap.size w w'
theorem ex_one {w : World} {e : Ending} {w' : World} (h : RowPost (rowE exC exB) (rowV exC exB) w e w') : Ex1 w e w' := by
  rw [ex_row.1, ex_row.2] at h
  obtain ⟨A, n, c, rfl, hn, ho, hb⟩ := h
  obtain rfl : n = 2 := hn
  obtain ⟨g, cap, hv, _, _⟩ := ho.form (by decide)
  injection hv with h1 h2 h3
  subst h1
  have c1 := ho.cellAt 1 (by decide)
  have c5 := ho.cellAt 5 (by decide)
  exact ⟨g, c, rfl, c1, c5, hb⟩
theorem ex_two {w : World} {e : Ending} {w' : World} (h : RowPost (rowE exC exB2) (rowV exC exB2) w e w') : (∃ A n c, e = .returned (.tuple #[.slice A n c, .int .i64 122])) ∧ Below w.heap.size w w' := by
  rw [ex_bad.1, ex_bad.2] at h
  obtain ⟨A, n, c, rfl, hn, ho, hb⟩ := h
  exact ⟨⟨A, n, c, rfl⟩, hb⟩
set_option maxHeartbeats 1000000 in
set_option maxRecDepth 20000 in
theorem alive_any (w : World) {B : Nat} (hE : Env B w) (hB : B ≤ w.heap.size) :
    Calls Tryd.prog 8 #[] w fun e w' => e = .returned (.bool true) ∧ Below w.heap.size w w' := by
  have HE := Lib.hid (fun W (h : Below w.heap.size w W) => hE.below (h.mono hB))
  have HB := Lib.hid hB
  clear hE hB
  obtain ⟨wc, hwc⟩ : ∃ wc, w.alloc (.cells #[.string ⟨#[97]⟩, .int .i64 1, .string ⟨#[98]⟩, .int .i64 3] 51) = wc := ⟨_, rfl⟩
  have HC := Lib.hid (ex_cols w)
  rw [hwc] at HC
  have HBC := Lib.hid (show Below w.heap.size w wc by rw [← hwc]; exact (Below.refl _ _).alloc (Nat.le_refl _) _)
  have hq : ((⟨#[120, 44, 121]⟩ : ByteArray).toList == [120, 44, 121]) = true := by rw [Lib.toList_data]; rfl
  have kc := fun w C n c => Lib.run_convert_bytes_const (P := Tryd.prog) w 35 5 C n c Tryd.underlying35 Tryd.underlying5
  have HROW := Lib.hid (fun (W : World) (cells : Array Value) (fr : Nat × Nat) (bs : List UInt8) (hbs : cells = (byteCells bs).toArray) (hlen : bs.length ≤ 1000) (h : Below wc.heap.size wc W) =>
    row_ex (W.alloc (.cells cells 5 fr)) w 2 bs.length (some ⟨W.heap.size, 0, none⟩) w.heap.size bs.length bs (by decide) (by decide)
      (((HC.out.below h).below ((Below.refl _ W).alloc h.size _)).more (by have := h.size; simp; omega)) (lit_bytes W bs cells fr hbs) rfl hlen (HE.out _ ((hop0 HBC.out h).alloc (Nat.le_trans HBC.out.size h.size) _)) (by have h1 := HB.out; have h2 := HBC.out.size; have h3 := h.size; simp; omega))
  go_enter Tryd.func8, Tryd.ntmps8
  go_wp2_with (first
    | (have HSEC := HFIRST; go_at_call 16; refine (HROW.out w1 _ (4, 5) exB2 rfl (by decide) HB1.out).mono ?_; intro e w2 h1; obtain ⟨⟨A2, n2, c2, rfl⟩, hb2⟩ := ex_two h1; have HB2 := Lib.hid (show Below w1.heap.size w1 w2 from ((Below.refl _ w1).alloc (Nat.le_refl _) _).trans (hb2.mono (by simp))); replace c1 := later_cell HB2.out c1; replace c5 := later_cell HB2.out c5; clear hb2 h1)
    | (go_at_call 16; refine (HROW.out wc _ (7, 8) exB rfl (by decide) (Below.refl _ _)).mono ?_; intro e w1 h1; obtain ⟨g, c, rfl, c1, c5, hb1⟩ := ex_one h1; have HB1 := Lib.hid (show Below wc.heap.size wc w1 from ((Below.refl _ wc).alloc (Nat.le_refl _) _).trans (hb1.mono (by simp))); clear hb1 h1; have HFIRST := True.intro))
  go_ret
  exact ⟨rfl, hop0 HBC.out (hop0 HB1.out HB2.out)⟩
end Go.Proofs.YtfkfgabepjpdlaaDoor
