/- The statement PlaceWhole: the walk. -/
import Derived.Test.YtchmecndihphfaaGreatDoorPlAlive
namespace Go.Proofs.YtchmecndihphfaaGreatDoor
open Go Go.ChangeShapes Go.WideShapes Go.ChangeAt Go.RowKit Go.ChangeMaps Go.MapKept
open Go.Lib (byteCells byteCells_length byteCells_append strCells)
set_option linter.unusedVariables false

def iCells (x : Int) : List Value := [.int .i64 x]
theorem picks_of {w : World} {B0 B : Nat} {A : Option Addr} {ps : List Int} (h : RowC iCells 1 w B0 A ps) (hB : B0 ≤ B) : PicksAt B w A ps := by
  intro j hj
  obtain ⟨b, off, e, hlt, h0⟩ := h j hj
  refine ⟨b, off, e, .inl (by omega), ?_⟩
  have := h0 0 _ rfl
  simpa using this
/-- A call's answer, whatever it is, and what is left. -/
def PostE (Kp : Nat → Prop) (B f : Nat) (s : Fs) (w : World) (e : Ending) (w' : World) : Prop := ∃ E : Int, e = .returned (.int .i64 E) ∧ Rep Kp B f s w' ∧ Below B w w'
theorem Calls.weak {P : Program} {g : FuncId} {args : Array Value} {Kp : Nat → Prop} {B f : Nat} {r : Int × Fs} {w W : World} (h : Calls P g args W (Post Kp B f r w)) : Calls P g args W (PostE Kp B f r.2 w) := h.mono fun _ _ ⟨h1, h2, h3⟩ => ⟨r.1, h1, h2, h3.below⟩
/-- Put of '[]byte(t)'. -/
theorem put_laid {Kp : Nat → Prop} {B f K : Nat} {s : Fs} {w : World} (h : Rep Kp B f s w) (wf : WfK K s) (hK : K + 6 ≤ 1000000) (hBw : B ≤ w.heap.size) (dir name : Nm) (t : ByteArray) (ht : t.size ≤ 16777208) (cap cap' : Nat) (fr_ : Nat × Nat) :
    Calls Tryz.prog 12 #[.pointer (some ⟨f, 0, none⟩), .string (txt dir), .string (txt name), .slice (some ⟨w.heap.size, 0, none⟩) t.size cap] (w.alloc (.cells (bytesRow t cap') 5 fr_)).drew fun e w' => ∃ x, ∃ E : Int, s.file x = none ∧ (rawR s dir name (fr t.data.toList) x).1 = E ∧ e = .returned (.int .i64 E) ∧ Rep Kp B f (rawR s dir name (fr t.data.toList) x).2 w' ∧ Turn Kp B w w' := by
  have hb : Below w.heap.size w (w.alloc (.cells (bytesRow t cap') 5 fr_)).drew := ((Below.refl _ w).alloc (Nat.le_refl _) _).drew
  refine (put_any (h.below hb) wf hK (Nat.le_trans hBw hb.size) dir name t.size cap ⟨w.heap.size, 0, none⟩ t.data.toList (size_eq t) ht (laid_bytes t w cap' _ fr_)).mono fun e w' ⟨x, hx, h1, h2, h3⟩ => ⟨x, _, hx, rfl, h1, h2, (Turn.of hb hBw).trans h3⟩
theorem whole_wf (F M : List UInt8) (x y q : Nat) (hq : q < 8) (ps : List Int) : WfK 1 (pw1 1048576) ∧ WfK 7 (pw2 F x) ∧ WfK 7 (pw3 F x q) ∧ WfK 13 (pw4 F M x y q).2 ∧ WfK 13 (pw5 F M x y q ps) := by
  have h1 := wfk_mkdir (WfK.new (room := 1048576) rfl) nd
  have h2 := wfk_raw h1 nd na (fr F) x
  have h3 := wfk_fuse h2 (q : Int) (by omega)
  have h4 := wfk_raw h3 nd na (fr M) y
  exact ⟨h1, h2, h3, h4, wfk_crash h4 (by decide) ps⟩
theorem whole_big (F M : ByteArray) (hF : F.size ≤ 140737488351232) (hM : M.size ≤ 140737488351232) (A : Option Addr) (n c : Nat) (hc : n ≤ c) (hcm : c ≤ maxLen) (q : Int) (hb : 4000 < F.size + M.size ∨ 100 < n) (w : World) (hT : Tab w.heap.size w) :
    Calls Tryz.prog 4 #[.string F, .string M, .int .u8 q, .slice A n c] w fun e w' => e = .returned (.bool true) ∧ Below w.heap.size w w' := by
  unfold maxLen at hcm
  have HA := Lib.hid (alive_any w hT (Nat.le_refl _))
  clear hT
  by_cases h1 : 4000 < F.size + M.size
  · have hd : decide ((4000 : Int) < (F.size : Int) + (M.size : Int)) = true := decide_eq_true (by omega)
    clear hb
    go_enter Tryz.func4, Tryz.ntmps4
    go_wp2_with (go_at_call 8; refine HA.out.mono ?_; rintro e w1 ⟨rfl, hb1⟩; have HB1 := Lib.hid hb1; clear hb1)
    go_ret
    exact ⟨rfl, HB1.out⟩
  · have h2 : 100 < n := by omega
    have hd : decide ((4000 : Int) < (F.size : Int) + (M.size : Int)) = false := decide_eq_false (by omega)
    clear hb
    go_enter Tryz.func4, Tryz.ntmps4
    go_wp2_with (go_at_call 8; refine HA.out.mono ?_; rintro e w1 ⟨rfl, hb1⟩; have HB1 := Lib.hid hb1; clear hb1)
    go_ret
    exact ⟨rfl, HB1.out⟩
set_option maxHeartbeats 4000000 in
set_option maxRecDepth 20000 in
theorem whole_small (F M : ByteArray) (A : Option Addr) (n c : Nat) (ps : List Int) (hn : n = ps.length) (hc : n ≤ c) (hcm : c ≤ maxLen) (hfit : ∀ x ∈ ps, in64 x) (q : Nat) (hq : q < 256) (hl : F.size + M.size ≤ 4000) (hn1 : n ≤ 100) (w : World) (hp : RowC iCells 1 w w.heap.size A ps) (hT : Tab w.heap.size w) :
    Calls Tryz.prog 4 #[.string F, .string M, .int .u8 (q : Int), .slice A n c] w fun e w' => e = .returned (.bool true) ∧ Below w.heap.size w w' := by
  have hcs := fun W => run_bytes_of_string (P := Tryz.prog) W 9 40 5 F Tryz.underlying9 Tryz.underlying40 Tryz.underlying5
  have hct := fun W => run_bytes_of_string (P := Tryz.prog) W 9 40 5 M Tryz.underlying9 Tryz.underlying40 Tryz.underlying5
  have hd : decide ((4000 : Int) < (F.size : Int) + (M.size : Int)) = false := decide_eq_false (by omega)
  have hlFM : F.data.toList.length + M.data.toList.length ≤ 4000 := by rw [← size_eq, ← size_eq]; exact hl
  have HA := Lib.hid (alive_any w hT (Nat.le_refl _))
  have HOK := Lib.hid (fun x y (hy : (pw3 F.data.toList x (q % 8 : Nat)).file y = none) => whole_out F.data.toList M.data.toList hlFM x y (q % 8) hy ps)
  have HW := Lib.hid (fun x y => whole_wf F.data.toList M.data.toList x y (q % 8) (Nat.mod_lt _ (by decide)) ps)
  have HP := Lib.hid (show ∀ (W : World) (B : Nat), Below w.heap.size w W → w.heap.size ≤ B → PicksAt B W A ps from fun W B hb hB => picks_of (hp.below hb) hB)
  have HPF := Lib.hid (fun x => (put_first (room := 1048576) (by omega) F.data.toList (by rw [fr_length]; omega) (by rw [fr_length]; omega) x).1)
  have HMK := Lib.hid (show (mkdirR (newFs 1048576) nd).1 = 0 from rfl)
  have HN := Lib.hid hn
  have HFIT := Lib.hid hfit
  clear hp hn hfit hlFM hT
  have hmod : (q : Int) % 8 = ((q % 8 : Nat) : Int) := by omega
  have HMOD := Lib.hid hmod
  clear hmod
  go_enter Tryz.func4, Tryz.ntmps4
  have HFIRST := Lib.hid True.intro
  go_wp2_with (first
    | (go_at_call 8; refine HA.out.mono ?_; rintro e w1 ⟨rfl, hb1⟩; have HB1 := Lib.hid hb1; clear hb1)
    | (go_at_call 9; refine (new_any (Kp := fun _ => False) 1048576 rfl w1 (fun _ h => h.elim)).mono ?_; rintro e w2 ⟨f, rfl, h1, h2⟩; have HR2 := Lib.hid h1; have HB2 := Lib.hid h2; clear h1 h2)
    | (go_at_call 26; refine (mkdir_any HR2.out ((WfK.new (room := 1048576) rfl).wf (by decide)) HB2.out.size nd).mono ?_; unfold Post; rw [HMK.out]; rintro e w3 ⟨rfl, h1, h2⟩; have HR3 := Lib.hid (show Rep (fun _ => False) w1.heap.size f (pw1 1048576) w3 from h1); have HB3 := Lib.hid (HB2.out.trans h2.below); clear h1 h2)
    | (have HSEC := HR5; go_at_call 12; refine (put_laid HR5.out (HW.out x 0).2.2.1 (by decide) HB5.out.size nd na M (by omega) _ _ _).mono ?_; rintro e w6 ⟨y, E4, hy, hE4, rfl, h1, h2⟩; have HY := Lib.hid hy; have HE4 := Lib.hid (show (pw4 F.data.toList M.data.toList x y (q % 8 : Nat)).1 = E4 from hE4); have HR6 := Lib.hid (show Rep (fun _ => False) w1.heap.size f (pw4 F.data.toList M.data.toList x y (q % 8 : Nat)).2 w6 from h1); have HB6 := Lib.hid (HB5.out.trans h2.below); clear h1 h2 hy hE4 HR5 HSEC)
    | (have HF1 := HFIRST; go_at_call 12; refine (put_laid HR3.out (HW.out 0 0).1 (by decide) HB3.out.size nd na F (by omega) _ _ _).mono ?_; rintro e w4 ⟨x, E2, hx, hE2, rfl, h1, h2⟩; obtain rfl : (0 : Int) = E2 := (HPF.out x).symm.trans hE2; have HR4 := Lib.hid (show Rep (fun _ => False) w1.heap.size f (pw2 F.data.toList x) w4 from h1); have HB4 := Lib.hid (HB3.out.trans h2.below); clear h1 h2 hx hE2 HF1 HFIRST)
    | (go_at_call 27; rw [HMOD.out]; refine (Calls.weak (fuse_any HR4.out HB4.out.size _)).mono ?_; rintro e w5 ⟨E5, rfl, h1, h2⟩; have HR5 := Lib.hid (show Rep (fun _ => False) w1.heap.size f (pw3 F.data.toList x (q % 8 : Nat)) w5 from h1); have HB5 := Lib.hid (HB4.out.trans h2); clear h1 h2)
    | (go_at_call 28; refine (crash_any HR6.out ((HW.out x y).2.2.2.1.wf (by decide)) HB6.out.size A n c ps HN.out hc hcm (HP.out w6 w1.heap.size (HB1.out.trans (HB6.out.mono HB1.out.size)) HB1.out.size) HFIT.out).mono ?_; unfold Post; rintro e w7 ⟨rfl, h1, h2⟩; have HR7 := Lib.hid (show Rep (fun _ => False) w1.heap.size f (pw5 F.data.toList M.data.toList x y (q % 8 : Nat) ps) w7 from h1); have HB7 := Lib.hid (HB6.out.trans h2.below); clear h1 h2))
  have SO := HOK.out x y HY.out
  have HWF := Lib.hid (HW.out x y).2.2.2.2
  obtain ⟨s', hrd⟩ := SO.ready
  have HG := Lib.hid (get_any HR7.out HWF.out (by decide) nd na)
  have HR := Lib.hid (fun (w1 : World) (hb : Below w7.heap.size w7 w1) => by
    have h := ready_any (HR7.out.below hb) HWF.out nd (by have := listN_K (wfk_readyM HWF.out nd) nd; omega) (Nat.le_trans HB7.out.size hb.size)
    rw [hrd] at h
    exact h)
  obtain ⟨b, hb⟩ : ∃ b, getB (pw5 F.data.toList M.data.toList x y (q % 8 : Nat) ps) nd na = b := ⟨_, rfl⟩
  have hdone : E4 = 0 ↔ 5 ≤ q % 8 := by rw [← HE4.out]; exact SO.done
  have hwhich : b = F.data.toList ∨ b = M.data.toList := by rw [← hb]; exact SO.which
  have hnew : E4 = 0 → b = M.data.toList := by rw [← HE4.out, ← hb]; exact SO.new
  rw [SO.get, hb] at HG
  have hfe : (E4 == 0) = decide ((5 : Int) ≤ ((q % 8 : Nat) : Int)) := by
    by_cases h : E4 = 0
    · rw [h]; have := hdone.1 h; rw [decide_eq_true (by omega)]; rfl
    · have : ¬ 5 ≤ q % 8 := fun h2 => h (hdone.2 h2)
      rw [decide_eq_false (by omega), beq_eq_false_iff_ne]; exact h
  clear SO HOK hb hrd hdone
  have HFE := Lib.hid hfe
  have hF : ∀ t : ByteArray, b = t.data.toList → ((txt b).toList == t.toList) = true := fun t h => str_eq (str_ext (by rw [txt_list]; exact h))
  have hna : ((txt na).toList == [97]) = true := by rw [Lib.toList_data]; rfl
  obtain ⟨B1, hB1⟩ : ∃ B1, ((txt b).toList == F.toList) = B1 := ⟨_, rfl⟩
  obtain ⟨B2, hB2⟩ : ∃ B2, ((txt b).toList == M.toList) = B2 := ⟨_, rfl⟩
  have hcase : B1 = true ∨ B2 = true := hwhich.imp (fun h => by rw [← hB1]; exact hF F h) (fun h => by rw [← hB2]; exact hF M h)
  have hcase2 : E4 = 0 → B2 = true := fun h => by rw [← hB2]; exact hF M (hnew h)
  have hcase3 : (E4 == 0) = true → B2 = true := fun h => hcase2 (by simpa using h)
  clear hF hwhich hnew hfe hcase2
  obtain ⟨B3, hB3⟩ : ∃ B3, (E4 == 0) = B3 := ⟨_, rfl⟩
  rw [hB3] at hcase3
  have hd5 : decide ((5 : Int) ≤ (q : Int) % 8) = B3 := by rw [HMOD.out, ← HFE.out, hB3]
  have HCASE := Lib.hid hcase
  have HCASE3 := Lib.hid hcase3
  clear hcase hcase3
  cases B1 <;> cases B2 <;> cases B3 <;> first
    | exact absurd HCASE.out (by decide)
    | exact absurd HCASE3.out (by decide)
    | skip
  all_goals go_wp2_with (first
    | (go_at_call 16; refine HG.out.mono ?_; rintro e w8 ⟨A2, n2, c2, rfl, h1, h2⟩; have hst : ∀ nq, (convert 40 9 (.slice A2 n2 c2)).run Tryz.prog (w8.drewN nq) = .ok (.string (txt b)) (w8.drewN nq) := (fun nq => string_of_buf (show Buf w7.heap.size A2 n2 c2 b (w8.drewN nq) from h1)); have hst0 : (convert 40 9 (.slice A2 n2 c2)).run Tryz.prog w8 = .ok (.string (txt b)) w8 := (string_of_buf h1); have HB8 := Lib.hid h2; clear h1 h2)
    | (go_at_call 20; refine (HR.out w8 HB8.out).mono ?_; rintro e w9 ⟨v, rfl, h1, h2, h3⟩; obtain ⟨A3, c3, rfl, h4, _⟩ := names_own h1; obtain ⟨g, rfl, hc0⟩ := h4 0 Nat.zero_lt_one; have HB9 := Lib.hid ((HB7.out.trans (HB8.out.mono HB7.out.size)).trans h3.below); clear h1 h2 h3 h4))
  all_goals go_ret
  all_goals exact ⟨rfl, HB1.out.trans (HB9.out.mono HB1.out.size)⟩
theorem whole_walk (F M : ByteArray) (hF : F.size ≤ 140737488351232) (hM : M.size ≤ 140737488351232) (A : Option Addr) (n c : Nat) (ps : List Int) (hn : n = ps.length) (hc : n ≤ c) (hcm : c ≤ maxLen) (hfit : ∀ x ∈ ps, in64 x) (q : Nat) (hq : q < 256) (w : World) (hp : RowC iCells 1 w w.heap.size A ps) (hT : Tab w.heap.size w) :
    Calls Tryz.prog 4 #[.string F, .string M, .int .u8 (q : Int), .slice A n c] w fun e w' => e = .returned (.bool true) ∧ Below w.heap.size w w' := by
  by_cases h : 4000 < F.size + M.size ∨ 100 < n
  · exact whole_big F M hF hM A n c hc hcm q h w hT
  · exact whole_small F M A n c ps hn hc hcm hfit q hq (by omega) (by omega) w hp hT
end Go.Proofs.YtchmecndihphfaaGreatDoor
