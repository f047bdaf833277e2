/- The walk of the plain text that reads a value. -/
import Derived.Test.YtkpajmgbiepmbaaCodRread
import Derived.Test.YtkpajmgbiepmbaaCodVal
namespace Go.Proofs.Ytkpajmgbiepmbaa
open Go.ChangeShapes Go.WideShapes Go.ChangeAt Go.RowKit
open Go.Lib (byteCells byteCells_length byteCells_append strCells)
set_option linter.unusedVariables false

def VPost (t : Nat) (o : Option (V × List UInt8)) (w : World) (e : Ending) (w' : World) : Prop :=
  match o with
  | none => (∃ v : V, e = .returned (.tuple #[Vv v, .int .i64 (-1)])) ∧ Below w.heap.size w w'
  | some p => e = .returned (.tuple #[Vv p.1, .int .i64 ((t - p.2.length : Nat) : Int)]) ∧ Below w.heap.size w w'
theorem Box.new2 (w : World) (o : Obj) (v : V) : Box ((w.alloc o).alloc (.cells #[.int .i64 v.k, .int .i64 v.n, .string v.s] 85)) (w.heap.size + 1) v := by
  have := Box.new (w.alloc o) v
  simpa using this
theorem below2 (w : World) (o p : Obj) : Below w.heap.size w ((w.alloc o).alloc p) := ((Below.refl _ w).alloc (Nat.le_refl _) o).alloc (by simp) p
theorem vret {t : Nat} {v u : V} {r : List UInt8} {x : Int} (hv : v = u) (hx : x = ((t - r.length : Nat) : Int)) : Ending.returned (.tuple #[Vv v, .int .i64 x]) = .returned (.tuple #[Vv u, .int .i64 ((t - r.length : Nat) : Int)]) := by rw [hv, hx]
set_option maxRecDepth 4000 in
set_option maxHeartbeats 4000000 in
theorem punvalue_walk (s : ByteArray) (q : List UInt8) (o : Nat) (ho : o + q.length = s.size) (hq : Suf s q) (hs : s.size ≤ 1099511627776) (w : World) :
    Calls Try.prog 58 #[.string s, .int .i64 (o : Int)] w (VPost s.size (rVal q) w) := by
  match q with
  | [] =>
    have h1 : (s.size : Int) ≤ (o : Int) := by simp at ho; omega
    clear ho hq
    unfold rVal
    go_enter Try.func58, Try.ntmps58
    go_wp2
    refine bodyPost_ret (v := .tuple #[Vv ⟨0, 0, mt⟩, .int .i64 (-1)]) (by simp [results, Try.results58, go_sem, Vv, mt]) rfl ⟨⟨_, rfl⟩, (Below.refl _ w).alloc (Nat.le_refl _) _⟩
  | c :: r =>
    have hlt : o < s.size := by simp at ho; omega
    have hidx := hq.get ho hlt
    have ho1 : o + 1 + r.length = s.size := by simp at ho; omega
    have hq1 := hq.tail
    have hc8 : c.toNat < 256 := c.toNat_lt
    clear ho hq
    unfold rVal
    dsimp only
    by_cases k1 : c.toNat = 1
    · rw [if_pos k1]
      have HK := Lib.hid (show (c.toNat : Int) = 1 by omega)
      have HW := punint_walk s r (o + 1) ho1 hq1 hs
      rw [show (((o + 1 : Nat) : Int)) = (o : Int) + 1 by omega] at HW
      rcases hu : rInt r with _ | ⟨x, r2⟩
      · rw [hu] at HW
        have HT := Lib.hid HW
        have HWF := Lib.hid (show V.wf ⟨1, 0, mt⟩ from ⟨by unfold in64; dsimp only; omega, by unfold in64; dsimp only; omega, by first | (simp [mt_size]; done) | (dsimp only; omega)⟩)
        have HCK := Lib.hid (show chk ⟨1, 0, mt⟩ = 0 by simp [chk, mt_size]; try omega)
        clear HW ho1 hq1
        go_enter Try.func58, Try.ntmps58
        go_wp2_with (first | (go_at_call 60; refine (HT.out _).mono ?_; unfold rdOut iVal; rintro e w2 ⟨rfl, rfl⟩) | (go_at_call 67; refine (rcheck_any ⟨1, 0, mt⟩ HWF.out _).mono ?_; rw [HCK.out]; rintro e w3 ⟨rfl, hb3⟩; have HY3 := (Box.new2 w _ ⟨1, 0, mt⟩).below hb3; have HX3 := ((Box.new w ⟨0, 0, mt⟩).alloc _).below hb3; have u0 := HY3.k; have u1 := HY3.n; have u2 := HY3.s; have x0 := HX3.k; have x1 := HX3.n; have x2 := HX3.s; have f0 := HX3.frozen 0; have f1 := HX3.frozen 1; have f2 := HX3.frozen 2; have HB3 := Lib.hid (hop (below2 w _ _) hb3); clear hb3 HX3 HY3))
        refine bodyPost_ret (v := .tuple #[Vv ⟨1, 0, mt⟩, .int .i64 (-1)]) (by simp [results, Try.results58, go_sem, Vv, mt, x0, x1, x2]) rfl ⟨⟨_, rfl⟩, ((HB3.out.setCell (p := ⟨w.heap.size, 0, none⟩) (Nat.le_refl _) _).setCell (p := ⟨w.heap.size, 1, none⟩) (Nat.le_refl _) _).setCell (p := ⟨w.heap.size, 2, none⟩) (Nat.le_refl _) _⟩
      · rw [hu] at HW
        have HT := Lib.hid HW
        have hin := (int_codec.only _ _ _ hu).2
        have HWF := Lib.hid (show V.wf ⟨1, x, mt⟩ from ⟨by unfold in64; dsimp only; omega, by first | exact hin | (unfold in64; dsimp only; omega), by first | (simp [mt_size]; done) | (dsimp only; omega)⟩)
        have HCK := Lib.hid (show chk ⟨1, x, mt⟩ = 0 by simp [chk, mt_size]; try omega)
        clear HW ho1 hq1 hin
        go_enter Try.func58, Try.ntmps58
        go_wp2_with (first | (go_at_call 60; refine (HT.out _).mono ?_; unfold rdOut iVal; rintro e w2 ⟨rfl, rfl⟩) | (go_at_call 67; refine (rcheck_any ⟨1, x, mt⟩ HWF.out _).mono ?_; rw [HCK.out]; rintro e w3 ⟨rfl, hb3⟩; have HY3 := (Box.new2 w _ ⟨1, x, mt⟩).below hb3; have HX3 := ((Box.new w ⟨0, 0, mt⟩).alloc _).below hb3; have u0 := HY3.k; have u1 := HY3.n; have u2 := HY3.s; have x0 := HX3.k; have x1 := HX3.n; have x2 := HX3.s; have f0 := HX3.frozen 0; have f1 := HX3.frozen 1; have f2 := HX3.frozen 2; have HB3 := Lib.hid (hop (below2 w _ _) hb3); clear hb3 HX3 HY3))
        refine bodyPost_ret (v := .tuple #[Vv ⟨1, x, mt⟩, .int .i64 ((s.size - r2.length : Nat) : Int)]) (by simp [results, Try.results58, go_sem, Vv, mt, x0, x1, x2]) rfl ⟨rfl, ((HB3.out.setCell (p := ⟨w.heap.size, 0, none⟩) (Nat.le_refl _) _).setCell (p := ⟨w.heap.size, 1, none⟩) (Nat.le_refl _) _).setCell (p := ⟨w.heap.size, 2, none⟩) (Nat.le_refl _) _⟩
    · rw [if_neg k1]
      have e1 : ((c.toNat : Int) == 1) = false := by rw [beq_eq_false_iff_ne]; omega
      by_cases k2 : c.toNat = 2
      · rw [if_pos k2]
        have HK := Lib.hid (show (c.toNat : Int) = 2 by omega)
        match r with
        | [] =>
          dsimp only
          have h2 : (s.size : Int) ≤ (o : Int) + 1 := by simp at ho1; omega
          clear ho1 hq1 e1
          go_enter Try.func58, Try.ntmps58
          go_wp2
          refine bodyPost_ret (v := .tuple #[Vv ⟨2, 0, mt⟩, .int .i64 (-1)]) (by simp [results, Try.results58, go_sem, Vv, mt]) rfl ⟨⟨_, rfl⟩, below2 w _ _⟩
        | d :: r2 =>
          have hlt2 : o + 1 < s.size := by simp at ho1; omega
          have hidx2 := hq1.get ho1 hlt2
          have ho2 : o + 1 + 1 + r2.length = s.size := by simp at ho1; omega
          have hd8 : d.toNat < 256 := d.toNat_lt
          dsimp only
          by_cases kd : d.toNat ≤ 1
          · rw [if_pos kd]
            have HWF := Lib.hid (show V.wf ⟨2, (d.toNat : Int), mt⟩ from ⟨by unfold in64; dsimp only; omega, by unfold in64; dsimp only; omega, by first | (simp [mt_size]; done) | (dsimp only; omega)⟩)
            have HCK := Lib.hid (show chk ⟨2, (d.toNat : Int), mt⟩ = 0 by simp [chk, mt_size]; try omega)
            have HPL := Lib.hid (show (o : Int) + 1 + 1 = ((s.size - r2.length : Nat) : Int) by omega)
            clear hq1 kd
            go_enter Try.func58, Try.ntmps58
            go_wp2_with (first | (go_at_call 67; refine (rcheck_any ⟨2, (d.toNat : Int), mt⟩ HWF.out _).mono ?_; rw [HCK.out]; rintro e w3 ⟨rfl, hb3⟩; have HY3 := (Box.new2 w _ ⟨2, (d.toNat : Int), mt⟩).below hb3; have HX3 := ((Box.new w ⟨0, 0, mt⟩).alloc _).below hb3; have u0 := HY3.k; have u1 := HY3.n; have u2 := HY3.s; have x0 := HX3.k; have x1 := HX3.n; have x2 := HX3.s; have f0 := HX3.frozen 0; have f1 := HX3.frozen 1; have f2 := HX3.frozen 2; have HB3 := Lib.hid (hop (below2 w _ _) hb3); clear hb3 HX3 HY3))
            refine bodyPost_ret (v := .tuple #[Vv ⟨2, (d.toNat : Int), mt⟩, .int .i64 ((o : Int) + 1 + 1)]) (by simp [results, Try.results58, go_sem, Vv, mt, x0, x1, x2]) rfl ⟨vret rfl HPL.out, ((HB3.out.setCell (p := ⟨w.heap.size, 0, none⟩) (Nat.le_refl _) _).setCell (p := ⟨w.heap.size, 1, none⟩) (Nat.le_refl _) _).setCell (p := ⟨w.heap.size, 2, none⟩) (Nat.le_refl _) _⟩
          · rw [if_neg kd]
            have HWF := Lib.hid (show V.wf ⟨2, (d.toNat : Int), mt⟩ from ⟨by unfold in64; dsimp only; omega, by unfold in64; dsimp only; omega, by first | (simp [mt_size]; done) | (dsimp only; omega)⟩)
            have HCK := Lib.hid (show chk ⟨2, (d.toNat : Int), mt⟩ = 31 by simp [chk, mt_size]; try omega)
            clear ho1 hq1 kd
            go_enter Try.func58, Try.ntmps58
            go_wp2_with (first | (go_at_call 67; refine (rcheck_any ⟨2, (d.toNat : Int), mt⟩ HWF.out _).mono ?_; rw [HCK.out]; rintro e w3 ⟨rfl, hb3⟩; have HY3 := (Box.new2 w _ ⟨2, (d.toNat : Int), mt⟩).below hb3; have HX3 := ((Box.new w ⟨0, 0, mt⟩).alloc _).below hb3; have u0 := HY3.k; have u1 := HY3.n; have u2 := HY3.s; have x0 := HX3.k; have x1 := HX3.n; have x2 := HX3.s; have f0 := HX3.frozen 0; have f1 := HX3.frozen 1; have f2 := HX3.frozen 2; have HB3 := Lib.hid (hop (below2 w _ _) hb3); clear hb3 HX3 HY3))
            refine bodyPost_ret (v := .tuple #[Vv ⟨2, (d.toNat : Int), mt⟩, .int .i64 (-1)]) (by simp [results, Try.results58, go_sem, Vv, mt, x0, x1, x2]) rfl ⟨⟨_, rfl⟩, ((HB3.out.setCell (p := ⟨w.heap.size, 0, none⟩) (Nat.le_refl _) _).setCell (p := ⟨w.heap.size, 1, none⟩) (Nat.le_refl _) _).setCell (p := ⟨w.heap.size, 2, none⟩) (Nat.le_refl _) _⟩
      · rw [if_neg k2]
        have e2 : ((c.toNat : Int) == 2) = false := by rw [beq_eq_false_iff_ne]; omega
        by_cases k3 : c.toNat = 3
        · rw [if_pos k3]
          have HK := Lib.hid (show (c.toNat : Int) = 3 by omega)
          have HW := punword_walk s r (o + 1) ho1 hq1 hs
          rw [show (((o + 1 : Nat) : Int)) = (o : Int) + 1 by omega] at HW
          rcases hu : rWord r with _ | ⟨x, r2⟩
          · rw [hu] at HW
            have HT := Lib.hid HW
            dsimp only
            have HWF := Lib.hid (show V.wf ⟨3, 0, mt⟩ from ⟨by unfold in64; dsimp only; omega, by unfold in64; dsimp only; omega, by first | (simp [mt_size]; done) | (dsimp only; omega)⟩)
            have HCK := Lib.hid (show chk ⟨3, 0, mt⟩ = 0 by simp [chk, mt_size]; try omega)
            clear HW ho1 hq1
            go_enter Try.func58, Try.ntmps58
            go_wp2_with (first | (go_at_call 59; refine (HT.out _).mono ?_; unfold rdOut sVal; rintro e w2 ⟨rfl, rfl⟩) | (go_at_call 67; refine (rcheck_any ⟨3, 0, mt⟩ HWF.out _).mono ?_; rw [HCK.out]; rintro e w3 ⟨rfl, hb3⟩; have HY3 := (Box.new2 w _ ⟨3, 0, mt⟩).below hb3; have HX3 := ((Box.new w ⟨0, 0, mt⟩).alloc _).below hb3; have u0 := HY3.k; have u1 := HY3.n; have u2 := HY3.s; have x0 := HX3.k; have x1 := HX3.n; have x2 := HX3.s; have f0 := HX3.frozen 0; have f1 := HX3.frozen 1; have f2 := HX3.frozen 2; have HB3 := Lib.hid (hop (below2 w _ _) hb3); clear hb3 HX3 HY3))
            refine bodyPost_ret (v := .tuple #[Vv ⟨3, 0, mt⟩, .int .i64 (-1)]) (by simp [results, Try.results58, go_sem, Vv, mt, x0, x1, x2]) rfl ⟨⟨_, rfl⟩, ((HB3.out.setCell (p := ⟨w.heap.size, 0, none⟩) (Nat.le_refl _) _).setCell (p := ⟨w.heap.size, 1, none⟩) (Nat.le_refl _) _).setCell (p := ⟨w.heap.size, 2, none⟩) (Nat.le_refl _) _⟩
          · rw [hu] at HW
            have HT := Lib.hid HW
            have hsz : x.size ≤ 1099511627776 := by
              have h1 := congrArg List.length (word_codec.only _ _ _ hu).1
              unfold wordL at h1
              simp only [List.length_append, ← size_eq] at h1
              omega
            dsimp only
            by_cases ks : x.size ≤ 200
            · rw [if_pos ks]
              have HWF := Lib.hid (show V.wf ⟨3, 0, x⟩ from ⟨by unfold in64; dsimp only; omega, by unfold in64; dsimp only; omega, by dsimp only; omega⟩)
              have HCK := Lib.hid (show chk ⟨3, 0, x⟩ = 0 by simp [chk]; try omega)
              clear HW ho1 hq1 ks
              go_enter Try.func58, Try.ntmps58
              go_wp2_with (first | (go_at_call 59; refine (HT.out _).mono ?_; unfold rdOut sVal; rintro e w2 ⟨rfl, rfl⟩) | (go_at_call 67; refine (rcheck_any ⟨3, 0, x⟩ HWF.out _).mono ?_; rw [HCK.out]; rintro e w3 ⟨rfl, hb3⟩; have HY3 := (Box.new2 w _ ⟨3, 0, x⟩).below hb3; have HX3 := ((Box.new w ⟨0, 0, mt⟩).alloc _).below hb3; have u0 := HY3.k; have u1 := HY3.n; have u2 := HY3.s; have x0 := HX3.k; have x1 := HX3.n; have x2 := HX3.s; have f0 := HX3.frozen 0; have f1 := HX3.frozen 1; have f2 := HX3.frozen 2; have HB3 := Lib.hid (hop (below2 w _ _) hb3); clear hb3 HX3 HY3))
              refine bodyPost_ret (v := .tuple #[Vv ⟨3, 0, x⟩, .int .i64 ((s.size - r2.length : Nat) : Int)]) (by simp [results, Try.results58, go_sem, Vv, mt, x0, x1, x2]) rfl ⟨rfl, ((HB3.out.setCell (p := ⟨w.heap.size, 0, none⟩) (Nat.le_refl _) _).setCell (p := ⟨w.heap.size, 1, none⟩) (Nat.le_refl _) _).setCell (p := ⟨w.heap.size, 2, none⟩) (Nat.le_refl _) _⟩
            · rw [if_neg ks]
              have HWF := Lib.hid (show V.wf ⟨3, 0, x⟩ from ⟨by unfold in64; dsimp only; omega, by unfold in64; dsimp only; omega, by dsimp only; omega⟩)
              have HCK := Lib.hid (show chk ⟨3, 0, x⟩ = 31 by simp [chk]; try omega)
              clear HW ho1 hq1 ks
              go_enter Try.func58, Try.ntmps58
              go_wp2_with (first | (go_at_call 59; refine (HT.out _).mono ?_; unfold rdOut sVal; rintro e w2 ⟨rfl, rfl⟩) | (go_at_call 67; refine (rcheck_any ⟨3, 0, x⟩ HWF.out _).mono ?_; rw [HCK.out]; rintro e w3 ⟨rfl, hb3⟩; have HY3 := (Box.new2 w _ ⟨3, 0, x⟩).below hb3; have HX3 := ((Box.new w ⟨0, 0, mt⟩).alloc _).below hb3; have u0 := HY3.k; have u1 := HY3.n; have u2 := HY3.s; have x0 := HX3.k; have x1 := HX3.n; have x2 := HX3.s; have f0 := HX3.frozen 0; have f1 := HX3.frozen 1; have f2 := HX3.frozen 2; have HB3 := Lib.hid (hop (below2 w _ _) hb3); clear hb3 HX3 HY3))
              refine bodyPost_ret (v := .tuple #[Vv ⟨3, 0, x⟩, .int .i64 (-1)]) (by simp [results, Try.results58, go_sem, Vv, mt, x0, x1, x2]) rfl ⟨⟨_, rfl⟩, ((HB3.out.setCell (p := ⟨w.heap.size, 0, none⟩) (Nat.le_refl _) _).setCell (p := ⟨w.heap.size, 1, none⟩) (Nat.le_refl _) _).setCell (p := ⟨w.heap.size, 2, none⟩) (Nat.le_refl _) _⟩
        · rw [if_neg k3]
          have e3 : ((c.toNat : Int) == 3) = false := by rw [beq_eq_false_iff_ne]; omega
          by_cases k0 : c.toNat = 0
          · rw [if_pos k0]
            have HK := Lib.hid (show (c.toNat : Int) = 0 by omega)
            have HWF := Lib.hid (show V.wf ⟨0, 0, mt⟩ from ⟨by unfold in64; dsimp only; omega, by unfold in64; dsimp only; omega, by first | (simp [mt_size]; done) | (dsimp only; omega)⟩)
            have HCK := Lib.hid (show chk ⟨0, 0, mt⟩ = 0 by simp [chk, mt_size]; try omega)
            have HPL := Lib.hid (show (o : Int) + 1 = ((s.size - r.length : Nat) : Int) by omega)
            clear hq1
            go_enter Try.func58, Try.ntmps58
            go_wp2_with (first | (go_at_call 67; refine (rcheck_any ⟨0, 0, mt⟩ HWF.out _).mono ?_; rw [HCK.out]; rintro e w3 ⟨rfl, hb3⟩; have HY3 := (Box.new2 w _ ⟨0, 0, mt⟩).below hb3; have HX3 := ((Box.new w ⟨0, 0, mt⟩).alloc _).below hb3; have u0 := HY3.k; have u1 := HY3.n; have u2 := HY3.s; have x0 := HX3.k; have x1 := HX3.n; have x2 := HX3.s; have f0 := HX3.frozen 0; have f1 := HX3.frozen 1; have f2 := HX3.frozen 2; have HB3 := Lib.hid (hop (below2 w _ _) hb3); clear hb3 HX3 HY3))
            refine bodyPost_ret (v := .tuple #[Vv ⟨0, 0, mt⟩, .int .i64 ((o : Int) + 1)]) (by simp [results, Try.results58, go_sem, Vv, mt, x0, x1, x2]) rfl ⟨vret rfl HPL.out, ((HB3.out.setCell (p := ⟨w.heap.size, 0, none⟩) (Nat.le_refl _) _).setCell (p := ⟨w.heap.size, 1, none⟩) (Nat.le_refl _) _).setCell (p := ⟨w.heap.size, 2, none⟩) (Nat.le_refl _) _⟩
          · rw [if_neg k0]
            have HWF := Lib.hid (show V.wf ⟨(c.toNat : Int), 0, mt⟩ from ⟨by unfold in64; dsimp only; omega, by unfold in64; dsimp only; omega, by first | (simp [mt_size]; done) | (dsimp only; omega)⟩)
            have HCK := Lib.hid (show chk ⟨(c.toNat : Int), 0, mt⟩ = 30 by simp [chk, mt_size]; try omega)
            clear ho1 hq1
            go_enter Try.func58, Try.ntmps58
            go_wp2_with (first | (go_at_call 67; refine (rcheck_any ⟨(c.toNat : Int), 0, mt⟩ HWF.out _).mono ?_; rw [HCK.out]; rintro e w3 ⟨rfl, hb3⟩; have HY3 := (Box.new2 w _ ⟨(c.toNat : Int), 0, mt⟩).below hb3; have HX3 := ((Box.new w ⟨0, 0, mt⟩).alloc _).below hb3; have u0 := HY3.k; have u1 := HY3.n; have u2 := HY3.s; have x0 := HX3.k; have x1 := HX3.n; have x2 := HX3.s; have f0 := HX3.frozen 0; have f1 := HX3.frozen 1; have f2 := HX3.frozen 2; have HB3 := Lib.hid (hop (below2 w _ _) hb3); clear hb3 HX3 HY3))
            refine bodyPost_ret (v := .tuple #[Vv ⟨(c.toNat : Int), 0, mt⟩, .int .i64 (-1)]) (by simp [results, Try.results58, go_sem, Vv, mt, x0, x1, x2]) rfl ⟨⟨_, rfl⟩, ((HB3.out.setCell (p := ⟨w.heap.size, 0, none⟩) (Nat.le_refl _) _).setCell (p := ⟨w.heap.size, 1, none⟩) (Nat.le_refl _) _).setCell (p := ⟨w.heap.size, 2, none⟩) (Nat.le_refl _) _⟩
end Go.Proofs.Ytkpajmgbiepmbaa
