/- The statement FsRenames: the walk. -/
import Derived.Test.YtlmkhieojgpgcaaFsSafe
namespace Go.Proofs.Ytlmkhieojgpgcaa
open Go.ChangeShapes Go.WideShapes Go.ChangeAt Go.RowKit Go.ChangeMaps Go.MapKept
open Go.Lib (byteCells byteCells_length byteCells_append strCells)
set_option linter.unusedVariables false

theorem ren_big (F M : ByteArray) (hF : F.size ≤ 140737488351232) (hM : M.size ≤ 140737488351232) (A : Option Addr) (n c : Nat) (hc : n ≤ c) (hcm : c ≤ maxLen) (q : Int) (hb : 4000 < F.size + M.size ∨ 100 < n ∨ F = M) (w : World) :
    Calls Try.prog 4 #[.string F, .string M, .slice A n c, .int .u8 q] w fun e w' => e = .returned (.bool true) ∧ Below w.heap.size w w' := by
  unfold maxLen at hcm
  by_cases h1 : 4000 < F.size + M.size
  · have hd : decide ((4000 : Int) < (F.size : Int) + (M.size : Int)) = true := decide_eq_true (by omega)
    clear hb
    go_enter Try.func4, Try.ntmps4
    go_wp2_with (go_at_call 7; refine (alive_any _).mono ?_; rintro e w1 ⟨rfl, hb1⟩; have HB1 := Lib.hid hb1; clear hb1)
    go_ret
    exact ⟨rfl, HB1.out⟩
  · have hd : decide ((4000 : Int) < (F.size : Int) + (M.size : Int)) = false := decide_eq_false (by omega)
    by_cases h2 : 100 < n
    · clear hb
      go_enter Try.func4, Try.ntmps4
      go_wp2_with (go_at_call 7; refine (alive_any _).mono ?_; rintro e w1 ⟨rfl, hb1⟩; have HB1 := Lib.hid hb1; clear hb1)
      go_ret
      exact ⟨rfl, HB1.out⟩
    · obtain rfl : F = M := by rcases hb with h | h | h <;> first | omega | exact h
      clear hb
      go_enter Try.func4, Try.ntmps4
      go_wp2_with (go_at_call 7; refine (alive_any _).mono ?_; rintro e w1 ⟨rfl, hb1⟩; have HB1 := Lib.hid hb1; clear hb1)
      go_ret
      exact ⟨rfl, HB1.out⟩
set_option maxHeartbeats 4000000 in
set_option maxRecDepth 20000 in
theorem ren_small (F M : ByteArray) (A : Option Addr) (n c : Nat) (ps : List Int) (hn : n = ps.length) (hc : n ≤ c) (hcm : c ≤ maxLen) (hfit : ∀ x ∈ ps, in64 x) (q : Nat) (hq : q < 256) (hl : F.size + M.size ≤ 4000) (hn1 : n ≤ 100) (hFM : F ≠ M) (w : World) (hp : RowC iCells 1 w w.heap.size A ps) :
    Calls Try.prog 4 #[.string F, .string M, .slice A n c, .int .u8 (q : Int)] w fun e w' => e = .returned (.bool true) ∧ Below w.heap.size w w' := by
  have hcs := fun W => run_bytes_of_string (P := Try.prog) W 9 31 5 F Try.underlying9 Try.underlying31 Try.underlying5
  have hct := fun W => run_bytes_of_string (P := Try.prog) W 9 31 5 M Try.underlying9 Try.underlying31 Try.underlying5
  have hd : decide ((4000 : Int) < (F.size : Int) + (M.size : Int)) = false := decide_eq_false (by omega)
  have hbeq : (F.toList == M.toList) = false := str_ne hFM
  have hlFM : F.data.toList.length + M.data.toList.length ≤ 4000 := by rw [← size_eq, ← size_eq]; exact hl
  have HSY := Lib.hid (fun x y (hy : (rn6 F.data.toList x (q % 7 : Nat)).file y = none) => ren_sync F.data.toList M.data.toList hlFM (q % 7) (Nat.mod_lt _ (by decide)) x y hy)
  have HOK := Lib.hid (fun x y (hy : (rn6 F.data.toList x (q % 7 : Nat)).file y = none) => ren_out F.data.toList M.data.toList hlFM (q % 7) (Nat.mod_lt _ (by decide)) x y hy ps)
  have HW5 := Lib.hid (wf_at5 F.data.toList)
  have HWS := Lib.hid (fun x y => wf_rn F.data.toList M.data.toList x y ((q % 7 : Nat) : Int) (by omega) ps)
  have HP := Lib.hid (show ∀ (W : World) (B : Nat), Below w.heap.size w W → w.heap.size ≤ B → PicksAt B W A ps from fun W B hb hB => picks_of (hp.below hb) hB)
  have HN := Lib.hid hn
  have HFIT := Lib.hid hfit
  clear hp hn hfit hlFM
  have hmod : (q : Int) % 7 = ((q % 7 : Nat) : Int) := by omega
  have HMOD := Lib.hid hmod
  clear hmod
  obtain ⟨q7, hq7⟩ : ∃ q7, q % 7 = q7 := ⟨_, rfl⟩
  rw [hq7] at HSY HOK HWS HMOD
  clear hq7
  by_cases h3 : 3 ≤ q7
  · have HE9 := Lib.hid (show ∀ x y (hy : (rn6 F.data.toList x (q7 : Int)).file y = none), (rn9 F.data.toList M.data.toList x y q7).1 = 0 from fun x y hy => by rw [HSY.out x y hy, if_pos h3])
    clear HSY h3
    go_enter Try.func4, Try.ntmps4
    go_wp2_with (first
      | (go_at_call 7; refine (alive_any _).mono ?_; rintro e w1 ⟨rfl, hb1⟩; have HB1 := Lib.hid hb1; clear hb1)
      | (go_at_call 8; refine (new_any 1048576 rfl w1).mono ?_; rintro e w2 ⟨f, rfl, h1, h2⟩; have HR2 := Lib.hid h1; have HB2 := Lib.hid h2; clear h1 h2)
      | (go_at_call 9; refine (Calls.weak (mkdir_any HR2.out ((WfK.new (room := 1048576) rfl).wf (by decide)) HB2.out.size nd)).mono ?_; rintro e w3 ⟨E3, rfl, h1, h2⟩; have HR3 := Lib.hid h1; have HB3 := Lib.hid (HB2.out.trans h2); clear h1 h2)
      | (go_at_call 10; refine (create_any HR3.out ((HW5.out 0).1.wf (by decide)) HB3.out.size nd na).mono ?_; unfold Post; rintro e w4 ⟨x, hx, rfl, h1, h2⟩; have HR4 := Lib.hid h1; have HB4 := Lib.hid (HB3.out.trans h2); clear h1 h2 hx HR3 HB3)
      | (go_at_call 11; refine (Calls.weak (append_laid HR4.out ((HW5.out x).2.1.wf (by decide)) HB4.out.size nd na F (by omega) _ _ _)).mono ?_; rintro e w5 ⟨E5, rfl, h1, h2⟩; have HR5 := Lib.hid h1; have HB5 := Lib.hid (HB4.out.trans h2); clear h1 h2 HR4 HB4)
      | (go_at_call 12; refine (Calls.weak (sync_any HR5.out ((HW5.out x).2.2.1.wf (by decide)) HB5.out.size nd na)).mono ?_; rintro e w6 ⟨E6, rfl, h1, h2⟩; have HR6 := Lib.hid h1; have HB6 := Lib.hid (HB5.out.trans h2); clear h1 h2 HR5 HB5)
      | (go_at_call 13; refine (Calls.weak (syncDir_any HR6.out ((HW5.out x).2.2.2.1.wf (by decide)) HB6.out.size nd)).mono ?_; rintro e w7 ⟨E7, rfl, h1, h2⟩; have HR7 := Lib.hid (show Rep w1.heap.size f (at5 F.data.toList x) w7 from h1); have HB7 := Lib.hid (HB6.out.trans h2); clear h1 h2 HR6 HB6))
    go_wp2_with (first
      | (go_at_call 14; rw [HMOD.out]; refine (Calls.weak (fuse_any HR7.out HB7.out.size _)).mono ?_; rintro e w8 ⟨E8, rfl, h1, h2⟩; have HR8 := Lib.hid (show Rep w1.heap.size f (rn6 F.data.toList x q7) w8 from h1); have HB8 := Lib.hid (HB7.out.trans h2); clear h1 h2 HR7 HB7)
      | (go_at_call 10; refine (create_any HR8.out ((HWS.out x 0).1.wf (by decide)) HB8.out.size nd nt).mono ?_; unfold Post; rintro e w8a ⟨y, hy, rfl, h1, h2⟩; have HY := Lib.hid hy; have HR8a := Lib.hid (show Rep w1.heap.size f (rn7 F.data.toList x y q7) w8a from h1); have HB8a := Lib.hid (HB8.out.trans h2); clear h1 h2 hy HR8 HB8)
      | (go_at_call 11; refine (Calls.weak (append_laid HR8a.out ((HWS.out x y).2.1.wf (by decide)) HB8a.out.size nd nt M (by omega) _ _ _)).mono ?_; rintro e w9 ⟨E9, rfl, h1, h2⟩; have HR9 := Lib.hid (show Rep w1.heap.size f (rn8 F.data.toList M.data.toList x y q7) w9 from h1); have HB9 := Lib.hid (HB8a.out.trans h2); clear h1 h2 HR8a HB8a)
      | (go_at_call 12; refine (sync_any HR9.out ((HWS.out x y).2.2.1.wf (by decide)) HB9.out.size nd nt).mono ?_; unfold Post; rw [show (syncR (rn8 F.data.toList M.data.toList x y q7) nd nt).1 = 0 from HE9.out x y HY.out]; rintro e w10 ⟨rfl, h1, h2⟩; have HR10 := Lib.hid (show Rep w1.heap.size f (rn9 F.data.toList M.data.toList x y q7).2 w10 from h1); have HB10 := Lib.hid (HB9.out.trans h2); clear h1 h2 HR9 HB9)
      | (go_at_call 15; refine (Calls.weak (rename_any HR10.out ((HWS.out x y).2.2.2.1.wf (by decide)) HB10.out.size nd nt na)).mono ?_; rintro e w11 ⟨E11, rfl, h1, h2⟩; have HR11 := Lib.hid (show Rep w1.heap.size f (rn10 F.data.toList M.data.toList x y q7) w11 from (by unfold rn10; rw [if_pos (HE9.out x y HY.out)]; exact h1)); have HB11 := Lib.hid (HB10.out.trans h2); clear h1 h2 HR10 HB10)
      | (go_at_call 13; refine (Calls.weak (syncDir_any HR11.out ((HWS.out x y).2.2.2.2.1.wf (by decide)) HB11.out.size nd)).mono ?_; rintro e w12 ⟨E12, rfl, h1, h2⟩; have HR12 := Lib.hid (show Rep w1.heap.size f (rn11 F.data.toList M.data.toList x y q7) w12 from h1); have HB12 := Lib.hid (HB11.out.trans h2); clear h1 h2 HR11 HB11)
      | (go_at_call 20; refine (steps_any HR12.out).mono ?_; rintro e w12b ⟨rfl, rfl⟩)
      | (go_at_call 16; refine (crash_any HR12.out ((HWS.out x y).2.2.2.2.2.1.wf (by decide)) HB12.out.size A n c ps HN.out hc hcm (HP.out w12 w1.heap.size (HB1.out.trans (HB12.out.mono HB1.out.size)) HB1.out.size) HFIT.out).mono ?_; unfold Post; rintro e w13 ⟨rfl, h1, h2⟩; have HR13 := Lib.hid (show Rep w1.heap.size f (rn12 F.data.toList M.data.toList x y q7 ps) w13 from h1); have HB13 := Lib.hid (HB12.out.trans h2); clear h1 h2 HR12 HB12))
    have RO := HOK.out x y HY.out
    have HWF := Lib.hid ((HWS.out x y).2.2.2.2.2.2.wf (by decide))
    have HRD := Lib.hid (read_any HR13.out HWF.out nd na)
    have hst := ((HWS.out x y).2.2.2.2.2.1).steps
    obtain ⟨st, hst0⟩ : ∃ st, (rn11 F.data.toList M.data.toList x y q7).steps = st := ⟨_, rfl⟩
    obtain ⟨b, hb⟩ : ∃ b, readB (rn12 F.data.toList M.data.toList x y q7 ps) nd na = b := ⟨_, rfl⟩
    have hr1 := RO.read
    have hr2 := RO.new
    rw [RO.lf, hb] at HRD
    rw [hb] at hr1 hr2
    rw [hst0] at hr2 hst
    rw [hst0]
    have hr1' : txt b = F ∨ txt b = M := hr1.imp (fun h => by rw [h]; exact txt_data F) (fun h => by rw [h]; exact txt_data M)
    have hr2' : 10 ≤ st → txt b = M := fun h => by rw [hr2 h]; exact txt_data M
    have HB0 := Lib.hid (HB1.out.trans (HB13.out.mono HB1.out.size))
    clear RO HOK hb hst0 HP HFIT HN hr1 hr2 HWS HE9
    obtain ⟨S, hS⟩ : ∃ S, txt b = S := ⟨_, rfl⟩
    rw [hS] at hr1' hr2'
    have HRD2 : Hid (Calls Try.prog 18 #[.pointer (some ⟨f, 0, none⟩), .string (txt nd), .string (txt na)] w13 fun e w' => ∃ A2 n2 c2, e = .returned (.tuple #[.slice A2 n2 c2, .int .i64 0]) ∧ ((convert 31 9 (.slice A2 n2 c2)).run Try.prog w' = .ok (.string S) w') ∧ Below w13.heap.size w13 w') :=
      Lib.hid (HRD.out.mono fun e w' ⟨A2, n2, c2, h1, h2, h3⟩ => ⟨A2, n2, c2, h1, by rw [← hS]; obtain rfl := h2.1; exact string_of_buf h2, h3⟩)
    clear HRD hS
    by_cases hS2 : S = M
    · rw [hS2] at HRD2
      clear hS2 hr1' hr2'
      have hne1 : (M.toList == F.toList) = false := str_ne (Ne.symm hFM)
      have hne2 : (M.toList != F.toList) = true := by simp [bne, hne1]
      by_cases h10 : st < 10
      · have hd10 : decide (st < 10) = true := decide_eq_true h10
        go_wp2_with (go_at_call 18; refine HRD2.out.mono ?_; rintro e w14 ⟨A2, n2, c3, rfl, hcv, h2⟩; have HB14 := Lib.hid h2; clear h2)
        go_ret
        exact ⟨rfl, HB0.out.trans (HB14.out.mono HB0.out.size)⟩
      · have hd10 : decide (st < 10) = false := decide_eq_false h10
        go_wp2_with (go_at_call 18; refine HRD2.out.mono ?_; rintro e w14 ⟨A2, n2, c3, rfl, hcv, h2⟩; have HB14 := Lib.hid h2; clear h2)
        go_ret
        exact ⟨rfl, HB0.out.trans (HB14.out.mono HB0.out.size)⟩
    · have hS3 : S = F := hr1'.resolve_right hS2
      rw [hS3] at HRD2
      clear hS3
      have h10 : st < 10 := by
        by_cases h : 10 ≤ st
        · exact absurd (hr2' h) hS2
        · omega
      have hd10 : decide (st < 10) = true := decide_eq_true h10
      clear hr1' hr2' hS2
      go_wp2_with (go_at_call 18; refine HRD2.out.mono ?_; rintro e w14 ⟨A2, n2, c3, rfl, hcv, h2⟩; have HB14 := Lib.hid h2; clear h2)
      go_ret
      exact ⟨rfl, HB0.out.trans (HB14.out.mono HB0.out.size)⟩
  · have HE9 := Lib.hid (show ∀ x y (hy : (rn6 F.data.toList x (q7 : Int)).file y = none), (rn9 F.data.toList M.data.toList x y q7).1 = 60 from fun x y hy => by rw [HSY.out x y hy, if_neg h3])
    clear HSY h3
    go_enter Try.func4, Try.ntmps4
    go_wp2_with (first
      | (go_at_call 7; refine (alive_any _).mono ?_; rintro e w1 ⟨rfl, hb1⟩; have HB1 := Lib.hid hb1; clear hb1)
      | (go_at_call 8; refine (new_any 1048576 rfl w1).mono ?_; rintro e w2 ⟨f, rfl, h1, h2⟩; have HR2 := Lib.hid h1; have HB2 := Lib.hid h2; clear h1 h2)
      | (go_at_call 9; refine (Calls.weak (mkdir_any HR2.out ((WfK.new (room := 1048576) rfl).wf (by decide)) HB2.out.size nd)).mono ?_; rintro e w3 ⟨E3, rfl, h1, h2⟩; have HR3 := Lib.hid h1; have HB3 := Lib.hid (HB2.out.trans h2); clear h1 h2)
      | (go_at_call 10; refine (create_any HR3.out ((HW5.out 0).1.wf (by decide)) HB3.out.size nd na).mono ?_; unfold Post; rintro e w4 ⟨x, hx, rfl, h1, h2⟩; have HR4 := Lib.hid h1; have HB4 := Lib.hid (HB3.out.trans h2); clear h1 h2 hx HR3 HB3)
      | (go_at_call 11; refine (Calls.weak (append_laid HR4.out ((HW5.out x).2.1.wf (by decide)) HB4.out.size nd na F (by omega) _ _ _)).mono ?_; rintro e w5 ⟨E5, rfl, h1, h2⟩; have HR5 := Lib.hid h1; have HB5 := Lib.hid (HB4.out.trans h2); clear h1 h2 HR4 HB4)
      | (go_at_call 12; refine (Calls.weak (sync_any HR5.out ((HW5.out x).2.2.1.wf (by decide)) HB5.out.size nd na)).mono ?_; rintro e w6 ⟨E6, rfl, h1, h2⟩; have HR6 := Lib.hid h1; have HB6 := Lib.hid (HB5.out.trans h2); clear h1 h2 HR5 HB5)
      | (go_at_call 13; refine (Calls.weak (syncDir_any HR6.out ((HW5.out x).2.2.2.1.wf (by decide)) HB6.out.size nd)).mono ?_; rintro e w7 ⟨E7, rfl, h1, h2⟩; have HR7 := Lib.hid (show Rep w1.heap.size f (at5 F.data.toList x) w7 from h1); have HB7 := Lib.hid (HB6.out.trans h2); clear h1 h2 HR6 HB6))
    go_wp2_with (first
      | (go_at_call 14; rw [HMOD.out]; refine (Calls.weak (fuse_any HR7.out HB7.out.size _)).mono ?_; rintro e w8 ⟨E8, rfl, h1, h2⟩; have HR8 := Lib.hid (show Rep w1.heap.size f (rn6 F.data.toList x q7) w8 from h1); have HB8 := Lib.hid (HB7.out.trans h2); clear h1 h2 HR7 HB7)
      | (go_at_call 10; refine (create_any HR8.out ((HWS.out x 0).1.wf (by decide)) HB8.out.size nd nt).mono ?_; unfold Post; rintro e w8a ⟨y, hy, rfl, h1, h2⟩; have HY := Lib.hid hy; have HR8a := Lib.hid (show Rep w1.heap.size f (rn7 F.data.toList x y q7) w8a from h1); have HB8a := Lib.hid (HB8.out.trans h2); clear h1 h2 hy HR8 HB8)
      | (go_at_call 11; refine (Calls.weak (append_laid HR8a.out ((HWS.out x y).2.1.wf (by decide)) HB8a.out.size nd nt M (by omega) _ _ _)).mono ?_; rintro e w9 ⟨E9, rfl, h1, h2⟩; have HR9 := Lib.hid (show Rep w1.heap.size f (rn8 F.data.toList M.data.toList x y q7) w9 from h1); have HB9 := Lib.hid (HB8a.out.trans h2); clear h1 h2 HR8a HB8a)
      | (go_at_call 12; refine (sync_any HR9.out ((HWS.out x y).2.2.1.wf (by decide)) HB9.out.size nd nt).mono ?_; unfold Post; rw [show (syncR (rn8 F.data.toList M.data.toList x y q7) nd nt).1 = 60 from HE9.out x y HY.out]; rintro e w11 ⟨rfl, h1, h2⟩; have HR11 := Lib.hid (show Rep w1.heap.size f (rn10 F.data.toList M.data.toList x y q7) w11 from (by unfold rn10; rw [if_neg (by rw [HE9.out x y HY.out]; decide)]; exact h1)); have HB11 := Lib.hid (HB9.out.trans h2); clear h1 h2 HR9 HB9)
      | (go_at_call 13; refine (Calls.weak (syncDir_any HR11.out ((HWS.out x y).2.2.2.2.1.wf (by decide)) HB11.out.size nd)).mono ?_; rintro e w12 ⟨E12, rfl, h1, h2⟩; have HR12 := Lib.hid (show Rep w1.heap.size f (rn11 F.data.toList M.data.toList x y q7) w12 from h1); have HB12 := Lib.hid (HB11.out.trans h2); clear h1 h2 HR11 HB11)
      | (go_at_call 20; refine (steps_any HR12.out).mono ?_; rintro e w12b ⟨rfl, rfl⟩)
      | (go_at_call 16; refine (crash_any HR12.out ((HWS.out x y).2.2.2.2.2.1.wf (by decide)) HB12.out.size A n c ps HN.out hc hcm (HP.out w12 w1.heap.size (HB1.out.trans (HB12.out.mono HB1.out.size)) HB1.out.size) HFIT.out).mono ?_; unfold Post; rintro e w13 ⟨rfl, h1, h2⟩; have HR13 := Lib.hid (show Rep w1.heap.size f (rn12 F.data.toList M.data.toList x y q7 ps) w13 from h1); have HB13 := Lib.hid (HB12.out.trans h2); clear h1 h2 HR12 HB12))
    have RO := HOK.out x y HY.out
    have HWF := Lib.hid ((HWS.out x y).2.2.2.2.2.2.wf (by decide))
    have HRD := Lib.hid (read_any HR13.out HWF.out nd na)
    have hst := ((HWS.out x y).2.2.2.2.2.1).steps
    obtain ⟨st, hst0⟩ : ∃ st, (rn11 F.data.toList M.data.toList x y q7).steps = st := ⟨_, rfl⟩
    obtain ⟨b, hb⟩ : ∃ b, readB (rn12 F.data.toList M.data.toList x y q7 ps) nd na = b := ⟨_, rfl⟩
    have hr1 := RO.read
    have hr2 := RO.new
    rw [RO.lf, hb] at HRD
    rw [hb] at hr1 hr2
    rw [hst0] at hr2 hst
    rw [hst0]
    have hr1' : txt b = F ∨ txt b = M := hr1.imp (fun h => by rw [h]; exact txt_data F) (fun h => by rw [h]; exact txt_data M)
    have hr2' : 10 ≤ st → txt b = M := fun h => by rw [hr2 h]; exact txt_data M
    have HB0 := Lib.hid (HB1.out.trans (HB13.out.mono HB1.out.size))
    clear RO HOK hb hst0 HP HFIT HN hr1 hr2 HWS HE9
    obtain ⟨S, hS⟩ : ∃ S, txt b = S := ⟨_, rfl⟩
    rw [hS] at hr1' hr2'
    have HRD2 : Hid (Calls Try.prog 18 #[.pointer (some ⟨f, 0, none⟩), .string (txt nd), .string (txt na)] w13 fun e w' => ∃ A2 n2 c2, e = .returned (.tuple #[.slice A2 n2 c2, .int .i64 0]) ∧ ((convert 31 9 (.slice A2 n2 c2)).run Try.prog w' = .ok (.string S) w') ∧ Below w13.heap.size w13 w') :=
      Lib.hid (HRD.out.mono fun e w' ⟨A2, n2, c2, h1, h2, h3⟩ => ⟨A2, n2, c2, h1, by rw [← hS]; obtain rfl := h2.1; exact string_of_buf h2, h3⟩)
    clear HRD hS
    by_cases hS2 : S = M
    · rw [hS2] at HRD2
      clear hS2 hr1' hr2'
      have hne1 : (M.toList == F.toList) = false := str_ne (Ne.symm hFM)
      have hne2 : (M.toList != F.toList) = true := by simp [bne, hne1]
      by_cases h10 : st < 10
      · have hd10 : decide (st < 10) = true := decide_eq_true h10
        go_wp2_with (go_at_call 18; refine HRD2.out.mono ?_; rintro e w14 ⟨A2, n2, c3, rfl, hcv, h2⟩; have HB14 := Lib.hid h2; clear h2)
        go_ret
        exact ⟨rfl, HB0.out.trans (HB14.out.mono HB0.out.size)⟩
      · have hd10 : decide (st < 10) = false := decide_eq_false h10
        go_wp2_with (go_at_call 18; refine HRD2.out.mono ?_; rintro e w14 ⟨A2, n2, c3, rfl, hcv, h2⟩; have HB14 := Lib.hid h2; clear h2)
        go_ret
        exact ⟨rfl, HB0.out.trans (HB14.out.mono HB0.out.size)⟩
    · have hS3 : S = F := hr1'.resolve_right hS2
      rw [hS3] at HRD2
      clear hS3
      have h10 : st < 10 := by
        by_cases h : 10 ≤ st
        · exact absurd (hr2' h) hS2
        · omega
      have hd10 : decide (st < 10) = true := decide_eq_true h10
      clear hr1' hr2' hS2
      go_wp2_with (go_at_call 18; refine HRD2.out.mono ?_; rintro e w14 ⟨A2, n2, c3, rfl, hcv, h2⟩; have HB14 := Lib.hid h2; clear h2)
      go_ret
      exact ⟨rfl, HB0.out.trans (HB14.out.mono HB0.out.size)⟩
theorem ren_walk (F M : ByteArray) (hF : F.size ≤ 140737488351232) (hM : M.size ≤ 140737488351232) (A : Option Addr) (n c : Nat) (ps : List Int) (hn : n = ps.length) (hc : n ≤ c) (hcm : c ≤ maxLen) (hfit : ∀ x ∈ ps, in64 x) (q : Nat) (hq : q < 256) (w : World) (hp : RowC iCells 1 w w.heap.size A ps) :
    Calls Try.prog 4 #[.string F, .string M, .slice A n c, .int .u8 (q : Int)] w fun e w' => e = .returned (.bool true) ∧ Below w.heap.size w w' := by
  by_cases h : 4000 < F.size + M.size ∨ 100 < n ∨ F = M
  · exact ren_big F M hF hM A n c hc hcm q h w
  · exact ren_small F M A n c ps hn hc hcm hfit q hq (by omega) (by omega) (fun e => h (.inr (.inr e))) w hp
end Go.Proofs.Ytlmkhieojgpgcaa
