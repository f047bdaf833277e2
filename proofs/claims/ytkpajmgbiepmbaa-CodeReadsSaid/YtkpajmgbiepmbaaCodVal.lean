/- The walk of the reader: values. -/
import Derived.Test.YtkpajmgbiepmbaaCodItem
namespace Go.Proofs.Ytkpajmgbiepmbaa
open Go.ChangeShapes Go.WideShapes Go.ChangeAt Go.RowKit
open Go.Lib (byteCells byteCells_length byteCells_append strCells)
set_option linter.unusedVariables false

theorem Box.past {r : Nat} {w w' : World} {g : Nat} {v : V} (h : Box w g v) (hp : Past r w w') (hne : g ≠ r) : Box w' g v :=
  (hp.block g h.lt (by intro e; injection e with e; exact hne e)).trans h
theorem Box.set1 {w : World} {g : Nat} {v : V} (h : Box w g v) (n : Int) : Box (w.setCell ⟨g, 1, none⟩ (.int .i64 n)) g ⟨v.k, n, v.s⟩ := by
  have h' : w.heap[g]? = _ := h
  show (w.setCell _ _).heap[g]? = _
  simp only [World.setCell, Array.getElem?_modify, if_true, h', Option.map_some]
  rfl
theorem Box.set2 {w : World} {g : Nat} {v : V} (h : Box w g v) (s : ByteArray) : Box (w.setCell ⟨g, 2, none⟩ (.string s)) g ⟨v.k, v.n, s⟩ := by
  have h' : w.heap[g]? = _ := h
  show (w.setCell _ _).heap[g]? = _
  simp only [World.setCell, Array.getElem?_modify, if_true, h', Option.map_some]
  rfl
theorem Box.set_other {w : World} {g : Nat} {v : V} (h : Box w g v) {p : Addr} (hp : g ≠ p.block) (x : Value) : Box (w.setCell p x) g v := (Below.heap_setCell w p x g hp).trans h
def Vv (v : V) : Value := .agg #[.int .i64 v.k, .int .i64 v.n, .string v.s]
set_option maxHeartbeats 4000000 in
theorem rvalue_walk (r : Nat) (l : List UInt8) (w : World) (h : Rd w r l) (hl : l.length ≤ 16777216) :
    Calls Try.prog 73 #[.pointer (some ⟨r, 0, none⟩)] w (RdPost r Vv (rVal l) w) := by
  have HR := Lib.hid h
  have HNE := Lib.hid h.lt
  match l with
  | [] =>
    have HN := Lib.hid (single_walk r [] _ (h.alloc (.cells #[.int .i64 0, .int .i64 0, .string ⟨#[]⟩] 85)))
    clear h
    go_enter Try.func73, Try.ntmps73
    go_wp2_with (go_at_call 77; refine HN.out.mono ?_; rintro e w1 ⟨rfl, hp1⟩; have HP1 := Lib.hid (Past.trans ((Past.refl r w).alloc _) hp1); clear hp1)
    exact ⟨rfl, rfl, HP1.out⟩
  | c :: t =>
    have htl : t.length ≤ 16777216 := by simp at hl; omega
    have hc8 : c.toNat < 256 := c.toNat_lt
    clear h hl
    unfold rVal
    dsimp only
    by_cases k1 : c.toNat = 1
    · rw [if_pos k1]
      have HW := fun W hW => integer_walk r t W hW htl
      rcases hu : rInt t with _ | ⟨n, q⟩
      · rw [hu] at HW
        have HT := Lib.hid HW
        clear HW
        go_enter Try.func73, Try.ntmps73
        go_wp2_with (first | (go_at_call 77; refine (single_walk r _ _ (HR.out.alloc _)).mono ?_; rintro e w1 ⟨rfl, hr1, hp1⟩; have HR1 := Lib.hid hr1; have HS1 := Lib.hid (show w.heap.size < w1.heap.size by have := hp1.size; simp at this; omega); have HX1 := Lib.hid ((Box.new w ⟨0, 0, mt⟩).past hp1 (by have := HNE.out; omega)); have HP1 := Lib.hid (Past.trans ((Past.refl r w).alloc _) hp1); clear hp1 hr1) | (go_at_call 57; refine (HT.out _ (HR1.out.alloc _)).mono ?_; rintro e w2 ⟨rfl, hp2⟩; have HP2 := Lib.hid ((HP1.out.alloc _).trans hp2); clear hp2))
        exact ⟨rfl, rfl, HP2.out⟩
      · rw [hu] at HW
        have HT := Lib.hid HW
        have hin := (int_codec.only _ _ _ hu).2
        have HWF := Lib.hid (show V.wf ⟨1, n, mt⟩ from ⟨by unfold in64; dsimp only; omega, hin, by simp [mt_size]⟩)
        have HCK := Lib.hid (show chk ⟨1, n, mt⟩ = 0 by simp [chk, mt_size])
        clear HW hin
        go_enter Try.func73, Try.ntmps73
        go_wp2_with (first | (go_at_call 77; refine (single_walk r _ _ (HR.out.alloc _)).mono ?_; rintro e w1 ⟨rfl, hr1, hp1⟩; have HR1 := Lib.hid hr1; have HS1 := Lib.hid (show w.heap.size < w1.heap.size by have := hp1.size; simp at this; omega); have HX1 := Lib.hid ((Box.new w ⟨0, 0, mt⟩).past hp1 (by have := HNE.out; omega)); have HP1 := Lib.hid (Past.trans ((Past.refl r w).alloc _) hp1); clear hp1 hr1) | (go_at_call 57; refine (HT.out _ (HR1.out.alloc _)).mono ?_; rintro e w2 ⟨rfl, hr2, hp2⟩; have HR2 := Lib.hid hr2; have HX2 := Lib.hid ((HX1.out.alloc _).past hp2 (by have := HNE.out; omega)); have HY2 := Lib.hid ((Box.new w1 ⟨1, 0, mt⟩).past hp2 (by have := HNE.out; have := HS1.out; omega)); have y0 := HY2.out.k; have y1 := HY2.out.n; have y2 := HY2.out.s; have z0 := HY2.out.frozen 0; have z1 := HY2.out.frozen 1; have z2 := HY2.out.frozen 2; have HS2 := Lib.hid hp2.size; have HP2 := Lib.hid ((HP1.out.alloc _).trans hp2); clear hp2 hr2) | (go_at_call 64; refine (check_any ⟨1, n, mt⟩ HWF.out _).mono ?_; rw [HCK.out]; rintro e w3 ⟨rfl, hb3⟩; have HY3 := (HY2.out.set1 n).below hb3; have HX3 := (HX2.out.set_other (p := ⟨w1.heap.size, 1, none⟩) (by have := HS1.out; simp; omega) _).below hb3; have u0 := HY3.k; have u1 := HY3.n; have u2 := HY3.s; have x0 := HX3.k; have x1 := HX3.n; have x2 := HX3.s; have f0 := HX3.frozen 0; have f1 := HX3.frozen 1; have f2 := HX3.frozen 2; have HR3 := Lib.hid ((HR2.out.other (p := ⟨w1.heap.size, 1, none⟩) (by have := HNE.out; have := HS1.out; simp; omega) _).below hb3); have HP3 := Lib.hid ((HP2.out.setNew (p := ⟨w1.heap.size, 1, none⟩) (by have := HS1.out; simp; omega) _).trans (Past.of hb3)); clear hb3 HX3 HY3) | (go_at_call 70; refine (must_ok _ _).mono ?_; rintro e w4 ⟨rfl, rfl⟩))
        refine bodyPost_ret (v := Vv ⟨1, n, mt⟩) (by simp [results, Try.results73, go_sem, Vv, mt, x0, x1, x2]) rfl ⟨rfl, ((HR3.out.other HNE.out _).other HNE.out _).other HNE.out _, ((HP3.out.setNew (p := ⟨w.heap.size, 0, none⟩) (Nat.le_refl _) _).setNew (p := ⟨w.heap.size, 1, none⟩) (Nat.le_refl _) _).setNew (p := ⟨w.heap.size, 2, none⟩) (Nat.le_refl _) _⟩
    · rw [if_neg k1]
      by_cases k2 : c.toNat = 2
      · rw [if_pos k2]
        match t with
        | [] =>
          dsimp only
          go_enter Try.func73, Try.ntmps73
          go_wp2_with (first | (go_at_call 77; refine (single_walk r _ _ (HR.out.alloc _)).mono ?_; rintro e w1 ⟨rfl, hr1, hp1⟩; have HR1 := Lib.hid hr1; have HS1 := Lib.hid (show w.heap.size < w1.heap.size by have := hp1.size; simp at this; omega); have HX1 := Lib.hid ((Box.new w ⟨0, 0, mt⟩).past hp1 (by have := HNE.out; omega)); have HP1 := Lib.hid (Past.trans ((Past.refl r w).alloc _) hp1); clear hp1 hr1) | (go_at_call 77; refine (single_walk r _ _ (HR1.out.alloc _)).mono ?_; rintro e w2 ⟨rfl, hp2⟩; have HP2 := Lib.hid ((HP1.out.alloc _).trans hp2); clear hp2))
          exact ⟨rfl, rfl, HP2.out⟩
        | d :: q =>
          have hd8 : d.toNat < 256 := d.toNat_lt
          have HWF := Lib.hid (show V.wf ⟨2, (d.toNat : Int), mt⟩ from ⟨by unfold in64; dsimp only; omega, by unfold in64; dsimp only; omega, by simp [mt_size]⟩)
          dsimp only
          by_cases kd : d.toNat ≤ 1
          · rw [if_pos kd]
            have HCK := Lib.hid (show chk ⟨2, (d.toNat : Int), mt⟩ = 0 by simp [chk, mt_size]; omega)
            clear htl kd
            go_enter Try.func73, Try.ntmps73
            go_wp2_with (first | (go_at_call 77; refine (single_walk r _ _ (HR.out.alloc _)).mono ?_; rintro e w1 ⟨rfl, hr1, hp1⟩; have HR1 := Lib.hid hr1; have HS1 := Lib.hid (show w.heap.size < w1.heap.size by have := hp1.size; simp at this; omega); have HX1 := Lib.hid ((Box.new w ⟨0, 0, mt⟩).past hp1 (by have := HNE.out; omega)); have HP1 := Lib.hid (Past.trans ((Past.refl r w).alloc _) hp1); clear hp1 hr1) | (go_at_call 77; refine (single_walk r _ _ (HR1.out.alloc _)).mono ?_; rintro e w2 ⟨rfl, hr2, hp2⟩; have HR2 := Lib.hid hr2; have HX2 := Lib.hid ((HX1.out.alloc _).past hp2 (by have := HNE.out; omega)); have HY2 := Lib.hid ((Box.new w1 ⟨2, 0, mt⟩).past hp2 (by have := HNE.out; have := HS1.out; omega)); have y0 := HY2.out.k; have y1 := HY2.out.n; have y2 := HY2.out.s; have z0 := HY2.out.frozen 0; have z1 := HY2.out.frozen 1; have z2 := HY2.out.frozen 2; have HS2 := Lib.hid hp2.size; have HP2 := Lib.hid ((HP1.out.alloc _).trans hp2); clear hp2 hr2) | (go_at_call 64; refine (check_any ⟨2, (d.toNat : Int), mt⟩ HWF.out _).mono ?_; rw [HCK.out]; rintro e w3 ⟨rfl, hb3⟩; have HY3 := (HY2.out.set1 (d.toNat : Int)).below hb3; have HX3 := (HX2.out.set_other (p := ⟨w1.heap.size, 1, none⟩) (by have := HS1.out; simp; omega) _).below hb3; have u0 := HY3.k; have u1 := HY3.n; have u2 := HY3.s; have x0 := HX3.k; have x1 := HX3.n; have x2 := HX3.s; have f0 := HX3.frozen 0; have f1 := HX3.frozen 1; have f2 := HX3.frozen 2; have HR3 := Lib.hid ((HR2.out.other (p := ⟨w1.heap.size, 1, none⟩) (by have := HNE.out; have := HS1.out; simp; omega) _).below hb3); have HP3 := Lib.hid ((HP2.out.setNew (p := ⟨w1.heap.size, 1, none⟩) (by have := HS1.out; simp; omega) _).trans (Past.of hb3)); clear hb3 HX3 HY3) | (go_at_call 70; refine (must_ok _ _).mono ?_; rintro e w4 ⟨rfl, rfl⟩))
            refine bodyPost_ret (v := Vv ⟨2, (d.toNat : Int), mt⟩) (by simp [results, Try.results73, go_sem, Vv, mt, x0, x1, x2]) rfl ⟨rfl, ((HR3.out.other HNE.out _).other HNE.out _).other HNE.out _, ((HP3.out.setNew (p := ⟨w.heap.size, 0, none⟩) (Nat.le_refl _) _).setNew (p := ⟨w.heap.size, 1, none⟩) (Nat.le_refl _) _).setNew (p := ⟨w.heap.size, 2, none⟩) (Nat.le_refl _) _⟩
          · rw [if_neg kd]
            have HCK := Lib.hid (show chk ⟨2, (d.toNat : Int), mt⟩ = 31 by simp [chk, mt_size]; omega)
            clear htl kd
            go_enter Try.func73, Try.ntmps73
            go_wp2_with (first | (go_at_call 77; refine (single_walk r _ _ (HR.out.alloc _)).mono ?_; rintro e w1 ⟨rfl, hr1, hp1⟩; have HR1 := Lib.hid hr1; have HS1 := Lib.hid (show w.heap.size < w1.heap.size by have := hp1.size; simp at this; omega); have HX1 := Lib.hid ((Box.new w ⟨0, 0, mt⟩).past hp1 (by have := HNE.out; omega)); have HP1 := Lib.hid (Past.trans ((Past.refl r w).alloc _) hp1); clear hp1 hr1) | (go_at_call 77; refine (single_walk r _ _ (HR1.out.alloc _)).mono ?_; rintro e w2 ⟨rfl, hr2, hp2⟩; have HR2 := Lib.hid hr2; have HX2 := Lib.hid ((HX1.out.alloc _).past hp2 (by have := HNE.out; omega)); have HY2 := Lib.hid ((Box.new w1 ⟨2, 0, mt⟩).past hp2 (by have := HNE.out; have := HS1.out; omega)); have y0 := HY2.out.k; have y1 := HY2.out.n; have y2 := HY2.out.s; have z0 := HY2.out.frozen 0; have z1 := HY2.out.frozen 1; have z2 := HY2.out.frozen 2; have HS2 := Lib.hid hp2.size; have HP2 := Lib.hid ((HP1.out.alloc _).trans hp2); clear hp2 hr2) | (go_at_call 64; refine (check_any ⟨2, (d.toNat : Int), mt⟩ HWF.out _).mono ?_; rw [HCK.out]; rintro e w3 ⟨rfl, hb3⟩; have HY3 := (HY2.out.set1 (d.toNat : Int)).below hb3; have HX3 := (HX2.out.set_other (p := ⟨w1.heap.size, 1, none⟩) (by have := HS1.out; simp; omega) _).below hb3; have u0 := HY3.k; have u1 := HY3.n; have u2 := HY3.s; have x0 := HX3.k; have x1 := HX3.n; have x2 := HX3.s; have f0 := HX3.frozen 0; have f1 := HX3.frozen 1; have f2 := HX3.frozen 2; have HR3 := Lib.hid ((HR2.out.other (p := ⟨w1.heap.size, 1, none⟩) (by have := HNE.out; have := HS1.out; simp; omega) _).below hb3); have HP3 := Lib.hid ((HP2.out.setNew (p := ⟨w1.heap.size, 1, none⟩) (by have := HS1.out; simp; omega) _).trans (Past.of hb3)); clear hb3 HX3 HY3) | (go_at_call 70; refine (must_no _ _).mono ?_; rintro e w4 ⟨rfl, rfl⟩))
            exact ⟨rfl, rfl, HP3.out⟩
      · rw [if_neg k2]
        by_cases k3 : c.toNat = 3
        · rw [if_pos k3]
          have HW := fun W hW => rtext_walk r t W hW htl
          rcases hu : rWord t with _ | ⟨x, q⟩
          · rw [hu] at HW
            have HT := Lib.hid HW
            dsimp only
            clear HW
            go_enter Try.func73, Try.ntmps73
            go_wp2_with (first | (go_at_call 77; refine (single_walk r _ _ (HR.out.alloc _)).mono ?_; rintro e w1 ⟨rfl, hr1, hp1⟩; have HR1 := Lib.hid hr1; have HS1 := Lib.hid (show w.heap.size < w1.heap.size by have := hp1.size; simp at this; omega); have HX1 := Lib.hid ((Box.new w ⟨0, 0, mt⟩).past hp1 (by have := HNE.out; omega)); have HP1 := Lib.hid (Past.trans ((Past.refl r w).alloc _) hp1); clear hp1 hr1) | (go_at_call 76; refine (HT.out _ (HR1.out.alloc _)).mono ?_; rintro e w2 ⟨rfl, hp2⟩; have HP2 := Lib.hid ((HP1.out.alloc _).trans hp2); clear hp2))
            exact ⟨rfl, rfl, HP2.out⟩
          · rw [hu] at HW
            have HT := Lib.hid HW
            have hle := word_codec.less hu
            have hin := (word_codec.only _ _ _ hu)
            have hsz : x.size ≤ 16777216 := by
              have h1 := congrArg List.length hin.1
              unfold wordL at h1
              simp only [List.length_append, ← size_eq] at h1
              omega
            have HWF := Lib.hid (show V.wf ⟨3, 0, x⟩ from ⟨by unfold in64; dsimp only; omega, by simp [in64], by dsimp only; omega⟩)
            dsimp only
            by_cases ks : x.size ≤ 200
            · rw [if_pos ks]
              have HCK := Lib.hid (show chk ⟨3, 0, x⟩ = 0 by simp [chk]; omega)
              clear HW hin ks hle
              go_enter Try.func73, Try.ntmps73
              go_wp2_with (first | (go_at_call 77; refine (single_walk r _ _ (HR.out.alloc _)).mono ?_; rintro e w1 ⟨rfl, hr1, hp1⟩; have HR1 := Lib.hid hr1; have HS1 := Lib.hid (show w.heap.size < w1.heap.size by have := hp1.size; simp at this; omega); have HX1 := Lib.hid ((Box.new w ⟨0, 0, mt⟩).past hp1 (by have := HNE.out; omega)); have HP1 := Lib.hid (Past.trans ((Past.refl r w).alloc _) hp1); clear hp1 hr1) | (go_at_call 76; refine (HT.out _ (HR1.out.alloc _)).mono ?_; rintro e w2 ⟨rfl, hr2, hp2⟩; have HR2 := Lib.hid hr2; have HX2 := Lib.hid ((HX1.out.alloc _).past hp2 (by have := HNE.out; omega)); have HY2 := Lib.hid ((Box.new w1 ⟨3, 0, mt⟩).past hp2 (by have := HNE.out; have := HS1.out; omega)); have y0 := HY2.out.k; have y1 := HY2.out.n; have y2 := HY2.out.s; have z0 := HY2.out.frozen 0; have z1 := HY2.out.frozen 1; have z2 := HY2.out.frozen 2; have HS2 := Lib.hid hp2.size; have HP2 := Lib.hid ((HP1.out.alloc _).trans hp2); clear hp2 hr2) | (go_at_call 64; refine (check_any ⟨3, 0, x⟩ HWF.out _).mono ?_; rw [HCK.out]; rintro e w3 ⟨rfl, hb3⟩; have HY3 := (HY2.out.set2 x).below hb3; have HX3 := (HX2.out.set_other (p := ⟨w1.heap.size, 2, none⟩) (by have := HS1.out; simp; omega) _).below hb3; have u0 := HY3.k; have u1 := HY3.n; have u2 := HY3.s; have x0 := HX3.k; have x1 := HX3.n; have x2 := HX3.s; have f0 := HX3.frozen 0; have f1 := HX3.frozen 1; have f2 := HX3.frozen 2; have HR3 := Lib.hid ((HR2.out.other (p := ⟨w1.heap.size, 2, none⟩) (by have := HNE.out; have := HS1.out; simp; omega) _).below hb3); have HP3 := Lib.hid ((HP2.out.setNew (p := ⟨w1.heap.size, 2, none⟩) (by have := HS1.out; simp; omega) _).trans (Past.of hb3)); clear hb3 HX3 HY3) | (go_at_call 70; refine (must_ok _ _).mono ?_; rintro e w4 ⟨rfl, rfl⟩))
              refine bodyPost_ret (v := Vv ⟨3, 0, x⟩) (by simp [results, Try.results73, go_sem, Vv, mt, x0, x1, x2]) rfl ⟨rfl, ((HR3.out.other HNE.out _).other HNE.out _).other HNE.out _, ((HP3.out.setNew (p := ⟨w.heap.size, 0, none⟩) (Nat.le_refl _) _).setNew (p := ⟨w.heap.size, 1, none⟩) (Nat.le_refl _) _).setNew (p := ⟨w.heap.size, 2, none⟩) (Nat.le_refl _) _⟩
            · rw [if_neg ks]
              have HCK := Lib.hid (show chk ⟨3, 0, x⟩ = 31 by simp [chk]; omega)
              clear HW hin ks hle
              go_enter Try.func73, Try.ntmps73
              go_wp2_with (first | (go_at_call 77; refine (single_walk r _ _ (HR.out.alloc _)).mono ?_; rintro e w1 ⟨rfl, hr1, hp1⟩; have HR1 := Lib.hid hr1; have HS1 := Lib.hid (show w.heap.size < w1.heap.size by have := hp1.size; simp at this; omega); have HX1 := Lib.hid ((Box.new w ⟨0, 0, mt⟩).past hp1 (by have := HNE.out; omega)); have HP1 := Lib.hid (Past.trans ((Past.refl r w).alloc _) hp1); clear hp1 hr1) | (go_at_call 76; refine (HT.out _ (HR1.out.alloc _)).mono ?_; rintro e w2 ⟨rfl, hr2, hp2⟩; have HR2 := Lib.hid hr2; have HX2 := Lib.hid ((HX1.out.alloc _).past hp2 (by have := HNE.out; omega)); have HY2 := Lib.hid ((Box.new w1 ⟨3, 0, mt⟩).past hp2 (by have := HNE.out; have := HS1.out; omega)); have y0 := HY2.out.k; have y1 := HY2.out.n; have y2 := HY2.out.s; have z0 := HY2.out.frozen 0; have z1 := HY2.out.frozen 1; have z2 := HY2.out.frozen 2; have HS2 := Lib.hid hp2.size; have HP2 := Lib.hid ((HP1.out.alloc _).trans hp2); clear hp2 hr2) | (go_at_call 64; refine (check_any ⟨3, 0, x⟩ HWF.out _).mono ?_; rw [HCK.out]; rintro e w3 ⟨rfl, hb3⟩; have HY3 := (HY2.out.set2 x).below hb3; have HX3 := (HX2.out.set_other (p := ⟨w1.heap.size, 2, none⟩) (by have := HS1.out; simp; omega) _).below hb3; have u0 := HY3.k; have u1 := HY3.n; have u2 := HY3.s; have x0 := HX3.k; have x1 := HX3.n; have x2 := HX3.s; have f0 := HX3.frozen 0; have f1 := HX3.frozen 1; have f2 := HX3.frozen 2; have HR3 := Lib.hid ((HR2.out.other (p := ⟨w1.heap.size, 2, none⟩) (by have := HNE.out; have := HS1.out; simp; omega) _).below hb3); have HP3 := Lib.hid ((HP2.out.setNew (p := ⟨w1.heap.size, 2, none⟩) (by have := HS1.out; simp; omega) _).trans (Past.of hb3)); clear hb3 HX3 HY3) | (go_at_call 70; refine (must_no _ _).mono ?_; rintro e w4 ⟨rfl, rfl⟩))
              exact ⟨rfl, rfl, HP3.out⟩
        · rw [if_neg k3]
          have HWF := Lib.hid (show V.wf ⟨(c.toNat : Int), 0, mt⟩ from ⟨by unfold in64; dsimp only; omega, by simp [in64], by simp [mt_size]⟩)
          have e1 : ((c.toNat : Int) == 1) = false := by rw [beq_eq_false_iff_ne]; omega
          have e2 : ((c.toNat : Int) == 2) = false := by rw [beq_eq_false_iff_ne]; omega
          have e3 : ((c.toNat : Int) == 3) = false := by rw [beq_eq_false_iff_ne]; omega
          by_cases k0 : c.toNat = 0
          · rw [if_pos k0]
            have HCK := Lib.hid (show chk ⟨(c.toNat : Int), 0, mt⟩ = 0 by simp [chk, mt_size, k0])
            have HKC := Lib.hid (show (c.toNat : Int) = 0 by omega)
            clear k1 k2 k3 k0
            go_enter Try.func73, Try.ntmps73
            go_wp2_with (first | (go_at_call 77; refine (single_walk r _ _ (HR.out.alloc _)).mono ?_; rintro e w1 ⟨rfl, hr1, hp1⟩; have HR1 := Lib.hid hr1; have HS1 := Lib.hid (show w.heap.size < w1.heap.size by have := hp1.size; simp at this; omega); have HX1 := Lib.hid ((Box.new w ⟨0, 0, mt⟩).past hp1 (by have := HNE.out; omega)); have HP1 := Lib.hid (Past.trans ((Past.refl r w).alloc _) hp1); clear hp1 hr1) | (go_at_call 64; refine (check_any ⟨(c.toNat : Int), 0, mt⟩ HWF.out _).mono ?_; rw [HCK.out]; rintro e w3 ⟨rfl, hb3⟩; have HY3 := (Box.new w1 ⟨(c.toNat : Int), 0, mt⟩).below hb3; have HX3 := (HX1.out.alloc _).below hb3; have u0 := HY3.k; have u1 := HY3.n; have u2 := HY3.s; have x0 := HX3.k; have x1 := HX3.n; have x2 := HX3.s; have f0 := HX3.frozen 0; have f1 := HX3.frozen 1; have f2 := HX3.frozen 2; have HR3 := Lib.hid ((HR1.out.alloc _).below hb3); have HP3 := Lib.hid ((HP1.out.alloc _).trans (Past.of hb3)); clear hb3 HX3 HY3) | (go_at_call 70; refine (must_ok _ _).mono ?_; rintro e w4 ⟨rfl, rfl⟩))
            refine bodyPost_ret (v := Vv ⟨0, 0, mt⟩) (by rw [show (⟨0, 0, mt⟩ : V) = ⟨(c.toNat : Int), 0, mt⟩ by rw [HKC.out]]; simp [results, Try.results73, go_sem, Vv, mt, x0, x1, x2]) rfl ⟨rfl, ((HR3.out.other HNE.out _).other HNE.out _).other HNE.out _, ((HP3.out.setNew (p := ⟨w.heap.size, 0, none⟩) (Nat.le_refl _) _).setNew (p := ⟨w.heap.size, 1, none⟩) (Nat.le_refl _) _).setNew (p := ⟨w.heap.size, 2, none⟩) (Nat.le_refl _) _⟩
          · rw [if_neg k0]
            have HCK := Lib.hid (show chk ⟨(c.toNat : Int), 0, mt⟩ = 30 by simp [chk]; omega)
            clear k1 k2 k3 k0
            go_enter Try.func73, Try.ntmps73
            go_wp2_with (first | (go_at_call 77; refine (single_walk r _ _ (HR.out.alloc _)).mono ?_; rintro e w1 ⟨rfl, hr1, hp1⟩; have HR1 := Lib.hid hr1; have HS1 := Lib.hid (show w.heap.size < w1.heap.size by have := hp1.size; simp at this; omega); have HX1 := Lib.hid ((Box.new w ⟨0, 0, mt⟩).past hp1 (by have := HNE.out; omega)); have HP1 := Lib.hid (Past.trans ((Past.refl r w).alloc _) hp1); clear hp1 hr1) | (go_at_call 64; refine (check_any ⟨(c.toNat : Int), 0, mt⟩ HWF.out _).mono ?_; rw [HCK.out]; rintro e w3 ⟨rfl, hb3⟩; have HY3 := (Box.new w1 ⟨(c.toNat : Int), 0, mt⟩).below hb3; have HX3 := (HX1.out.alloc _).below hb3; have u0 := HY3.k; have u1 := HY3.n; have u2 := HY3.s; have x0 := HX3.k; have x1 := HX3.n; have x2 := HX3.s; have f0 := HX3.frozen 0; have f1 := HX3.frozen 1; have f2 := HX3.frozen 2; have HR3 := Lib.hid ((HR1.out.alloc _).below hb3); have HP3 := Lib.hid ((HP1.out.alloc _).trans (Past.of hb3)); clear hb3 HX3 HY3) | (go_at_call 70; refine (must_no _ _).mono ?_; rintro e w4 ⟨rfl, rfl⟩))
            exact ⟨rfl, rfl, HP3.out⟩
end Go.Proofs.Ytkpajmgbiepmbaa
