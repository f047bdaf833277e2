/- What a seat needs of several texts. -/
import Derived.Test.YtkcnmajjfljilaaGreatDoorFsMs
import Derived.Test.YtkcnmajjfljilaaGreatDoorFsClone
/- From FsM4. -/
namespace Go.Proofs.YtkcnmajjfljilaaGreatDoor
open Go.ChangeShapes Go.WideShapes Go.ChangeAt Go.RowKit Go.ChangeMaps Go.MapKept
open Go.Lib (byteCells byteCells_length byteCells_append strCells)
set_option linter.unusedVariables false
/-- A new file system. -/
def newFs (room : Int) : Fs := ⟨room, 0, 0, -1, true, [], fun _ => ⟨[], [], []⟩, fun _ => none⟩
theorem new_any {Kp : Nat → Prop} (room : Int) (hr : isRoom room = true) (w : World) (hK : ∀ k, Kp k → k < w.heap.size) :
    Calls Tryz.prog 11 #[.int .i64 room] w fun e w' => ∃ f, e = .returned (.tuple #[.pointer (some ⟨f, 0, none⟩), .int .i64 0]) ∧ Rep Kp w.heap.size f (newFs room) w' ∧ Below w.heap.size w w' := by
  have hm := @run_makeMap Tryz.prog
  have HR := Lib.hid (isRoom_any room w)
  have HRR := Lib.hid hr
  clear hr
  go_enter Tryz.func11, Tryz.ntmps11
  go_wp2_with (go_at_call 24; refine HR.out.mono ?_; rw [HRR.out]; rintro e w1 ⟨rfl, rfl⟩)
  go_ret2
  have h1 := MapAt.made w
  refine ⟨w.heap.size + 1, rfl, ⟨⟨w.heap.size, fun _ => 0, fun _ => 0, fun _ => 0, fun _ => .slice none 0 0, fun _ => none, fun _ => 0⟩, ?_⟩, ((Below.refl _ w).alloc (Nat.le_refl _) _).alloc (by simp) _⟩
  exact
  { fs := by
      have := Cells.new (w.alloc (.map #[] 0)) (fsCells w.heap.size room 0 0 (-1) true) 67
      rw [show (w.alloc (.map #[] 0)).heap.size = w.heap.size + 1 by simp] at this
      exact this
    top := h1.ch ((Ch.refl (fun _ => False) _).alloc _) fun h => h
    dir := fun n hn => by simp [newFs] at hn
    base := fun n hn => by simp [newFs] at hn
    now := fun n hn => by simp [newFs] at hn
    pend := fun n hn => by simp [newFs] at hn
    file := fun x b sf hx => by simp [newFs] at hx
    low := ⟨by omega, Nat.le_refl _⟩
    lowd := fun n hn => by simp [newFs] at hn
    lowf := fun x b sf hx => by simp [newFs] at hx
    own := fun n hn => by simp [newFs] at hn
    sep := fun n hn => by simp [newFs] at hn
    fsep := fun x y bx sx b_y sy hx => by simp [newFs] at hx
    kold := fun k hk => by have := hK k hk; simp; omega
    kf := ⟨fun hk => by have := hK _ hk; omega, fun hk => by have := hK _ hk; simp at this⟩
    kd := fun n hn => by simp [newFs] at hn
    kx := fun x b sf hx => by simp [newFs] at hx }
section
variable {Kp : Nat → Prop} {B f : Nat} {s : Fs} {w : World}
def fuseR (s : Fs) (n : Int) : Int × Fs := if n < 0 then (2, s) else (0, { s with fuse := n })
def readB (s : Fs) (dir name : Nm) : List UInt8 := if lfE s dir name [] = 0 then bytesOf s (fileOf s dir name) else []
/-- Bytes in new memory, and an error. -/
def ReadPost (E : Int) (b : List UInt8) (w : World) (e : Ending) (w' : World) : Prop := ∃ A n c, e = .returned (.tuple #[.slice A n c, .int .i64 E]) ∧ Buf w.heap.size A n c b w' ∧ Below w.heap.size w w'
theorem read_any (h : Rep Kp B f s w) (wf : Wf s) (dir name : Nm) : Calls Tryz.prog 76 #[.pointer (some ⟨f, 0, none⟩), .string (txt dir), .string (txt name)] w (ReadPost (lfE s dir name []) (readB s dir name) w) := by
  obtain ⟨L, h⟩ := h
  have HL := Lib.hid (liveFile_any h w (Below.refl _ w) dir name [] (.slice none 0 0) (own_none w _) (by simp))
  rcases lf_cases L s dir name [] with ⟨hE, hD, ⟨x, hP, hx⟩, hon, hall, hin⟩ | hE
  · rw [hE, hP, hD, ptrOf_some, ptrOf_some] at HL
    obtain ⟨b, sf, hfx⟩ := wf.now hin (mget_some hx)
    have hbo : readB s dir name = b := by unfold readB; rw [if_pos hE]; unfold fileOf bytesOf; rw [hx]; simp [hfx]
    have hbl := (wf.files x b sf hfx).1
    have HX := Lib.hid (fun w1 (hb : Below w.heap.size w w1) => ((h.quiet (Ch.of_below hb)).file x b sf hfx))
    rw [hE, hbo]
    clear hE hP hD hall hbo
    have HB2 := Lib.hid (fun w1 (hb : Below w.heap.size w w1) => clone_any b b.length (L.fc x) (L.fa x) w1 rfl (by omega) w1.heap.size (Nat.le_refl _) (by
      have hr := (HX.out w1 hb).row
      exact (show Buf B (L.fa x) b.length (L.fc x) b w1 from ⟨rfl, Nat.le_trans h.low.1 (Nat.le_trans (Nat.le_of_lt h.fs.lt) hb.size), hr⟩).bytes))
    clear h wf
    go_enter Tryz.func76, Tryz.ntmps76
    go_wp2_with (first
      | (go_at_call 69; refine HL.out.mono ?_; rintro e w1 ⟨rfl, hb⟩; have HB := Lib.hid hb; have y1 : w1.cell? ⟨x, 0, none⟩ = some (.slice (L.fa x) b.length (L.fc x)) := (HX.out w1 hb).cells.cell 0; clear hb)
      | (go_at_call 106; refine (HB2.out w1 HB.out).mono ?_; rintro e w2 ⟨A2, c2, rfl, h1, h2⟩; have H1 := Lib.hid h1; have H2 := Lib.hid h2; clear h1 h2))
    go_ret2
    exact ⟨_, _, _, rfl, H1.out.more HB.out.size, HB.out.trans (H2.out.mono HB.out.size)⟩
  · have hbo : readB s dir name = [] := by unfold readB; rw [if_neg hE]
    obtain ⟨E, hEE⟩ : ∃ E, lfE s dir name [] = E := ⟨_, rfl⟩
    obtain ⟨D, hDD⟩ : ∃ D, lfD L s dir name [] = D := ⟨_, rfl⟩
    obtain ⟨X, hXX⟩ : ∃ X, lfP s dir name [] = X := ⟨_, rfl⟩
    rw [hEE] at hE
    rw [hEE, hDD, hXX] at HL
    rw [hEE, hbo]
    have hne : (E != 0) = true := by rw [bne_iff_ne]; exact hE
    clear h wf hEE hDD hXX hbo
    go_enter Tryz.func76, Tryz.ntmps76
    go_wp2_with (go_at_call 69; refine HL.out.mono ?_; rintro e w1 ⟨rfl, hb⟩; have HB := Lib.hid hb; clear hb)
    go_ret2
    exact ⟨none, 0, 0, rfl, Buf.nil _ _ HB.out.size, HB.out⟩
def listN (s : Fs) (dir : Nm) : List Nm := if liveE s dir [] = 0 then (s.dir dir).now.map (·.1) else []
/-- Names in new memory, and an error. -/
def ListPost (E : Int) (ns : List Nm) (w : World) (e : Ending) (w' : World) : Prop := ∃ v, e = .returned (.tuple #[v, .int .i64 E]) ∧ w'.ownsRow w.heap.size 9 1 v ns.length (ns.map encStr) ∧ Below w.heap.size w w'
theorem Rising.on {l : List (Nm × Nat)} (h : Rising l) (o : FOp) : Rising (o.on l) := by
  cases o with
  | create a x => exact h.mset _ _
  | rename a b x => exact (h.mdel _).mset _ _
  | remove a => exact h.mdel _
theorem Rising.replay {l : List (Nm × Nat)} (h : Rising l) (os : List FOp) : Rising (replay os l) := by
  induction os generalizing l with
  | nil => exact h
  | cons o os ih => exact ih (h.on o)
theorem list_any (h : Rep Kp B f s w) (wf : Wf s) (dir : Nm) : Calls Tryz.prog 57 #[.pointer (some ⟨f, 0, none⟩), .string (txt dir)] w (ListPost (liveE s dir []) (listN s dir) w) := by
  obtain ⟨L, h⟩ := h
  have HL := Lib.hid (live_any h w (Below.refl _ w) dir [] (.slice none 0 0) (own_none w _) (by simp))
  rcases live_cases L s dir [] with ⟨hE, hP, hon, hall, hin⟩ | ⟨hE, hP⟩
  · rw [hE, hP, ptrOf_some] at HL
    have hln : listN s dir = (s.dir dir).now.map (·.1) := by unfold listN; rw [if_pos hE]
    have HD1 := Lib.hid (fun w1 (hb : Below w.heap.size w w1) => ((h.quiet (Ch.of_below hb)).dir dir hin))
    have hris : Rising (s.dir dir).now := by rw [(wf.dirs dir hin).2.1]; exact (wf.dirs dir hin).2.2.replay _
    have HC := Lib.hid (fun w1 (hb : Below w.heap.size w w1) => risingFile (L.nw dir) (s.dir dir).now w1 ((h.quiet (Ch.of_below hb)).now dir hin) hris (wf.nowlen hin))
    rw [hE, hln]
    clear h wf hE hP hall hln hris
    go_enter Tryz.func57, Tryz.ntmps57
    go_wp2_with (first
      | (go_at_call 83; refine HL.out.mono ?_; rintro e w1 ⟨rfl, hb⟩; have HB := Lib.hid hb; have y1 : w1.cell? ⟨L.blk dir, 1, none⟩ = some (.map (some (L.nw dir))) := (HD1.out w1 hb).cell 1; clear hb)
      | (go_at_call 84; refine (HC.out w1 HB.out).mono ?_; rintro e w2 ⟨v, rfl, h1, h2⟩; have H1 := Lib.hid h1; have H2 := Lib.hid h2; clear h1 h2))
    go_ret2
    exact ⟨_, rfl, by rw [List.length_map]; exact H1.out.mono HB.out.size, HB.out.trans (H2.out.mono HB.out.size)⟩
  · have hln : listN s dir = [] := by unfold listN; rw [if_neg hE]
    obtain ⟨E, hEE⟩ : ∃ E, liveE s dir [] = E := ⟨_, rfl⟩
    rw [hEE] at hE HL
    rw [hP, ptrOf_none] at HL
    rw [hEE, hln]
    have hne : (E != 0) = true := by rw [bne_iff_ne]; exact hE
    clear h wf hP hEE hln
    go_enter Tryz.func57, Tryz.ntmps57
    go_wp2_with (go_at_call 83; refine HL.out.mono ?_; rintro e w1 ⟨rfl, hb⟩; have HB := Lib.hid hb; clear hb)
    go_ret2
    exact ⟨_, rfl, own_none _ _, HB.out⟩
def mkdirR (s : Fs) (dir : Nm) : Int × Fs :=
  if liveE s dir [] = 0 then (63, s) else if liveE s dir [] ≠ 61 then (liveE s dir [], s)
  else if 64 ≤ s.names.length then (66, s) else if s.fuse = 0 then (60, outed s) else (0, mkdirS (stepped s) dir)
theorem live61 {s : Fs} {dir : Nm} (h : liveE s dir [] = 61) : right dir = true ∧ dir ∉ s.names := by
  unfold liveE dirE at h
  split at h
  · split at h
    · rename_i h1
      split at h
      · cases h
      · rename_i h2
        exact ⟨by simpa using h1, h2⟩
    · cases h
  · cases h
set_option maxHeartbeats 1000000 in
theorem mkdir_any (h : Rep Kp B f s w) (wf : Wf s) (hBw : B ≤ w.heap.size) (dir : Nm) :
    Calls Tryz.prog 58 #[.pointer (some ⟨f, 0, none⟩), .string (txt dir)] w (Post Kp B f (mkdirR s dir) w) := by
  obtain ⟨L, h⟩ := h
  obtain ⟨w0, hw0⟩ : ∃ w0, (w.alloc (.cells #[.pointer (some ⟨f, 0, none⟩)] 32)).alloc (.cells #[.string (txt dir)] 9) = w0 := ⟨_, rfl⟩
  have hsz : w0.heap.size = w.heap.size + 2 := by rw [← hw0]; simp
  have HW00 : Below w.heap.size w w0 := by rw [← hw0]; exact Below.al (Below.al (Below.refl _ w) (Nat.le_refl _) _) (Nat.le_refl _) _
  have HF0 := Lib.hid (show Cells w0 w.heap.size #[adr f] 32 by rw [← hw0]; exact (Cells.new w _ _).alloc _)
  have HG0 := Lib.hid (show Cells w0 (w.heap.size + 1) #[.string (txt dir)] 9 by rw [← hw0]; exact Cells.new1 w _ _ _)
  have h0 : RepL Kp B f L s w0 := h.quiet (Ch.of_below HW00)
  have HL := Lib.hid (live_any h0 w0 (Below.refl _ w0) dir [] (.slice none 0 0) (own_none w0 _) (by simp))
  have HQ := Lib.hid (fun w1 (hb : Below w0.heap.size w0 w1) => h0.quiet (Ch.of_below hb))
  have HBB := Lib.hid (fun w1 (hb : Below w0.heap.size w0 w1) => (Turn.of (HW00.trans (hb.mono (show w.heap.size ≤ w0.heap.size by omega))) hBw : Turn Kp B w w1))
  have HFB := Lib.hid (fun w1 (hb : Below w0.heap.size w0 w1) => HF0.out.below hb (by omega))
  have HGB := Lib.hid (fun w1 (hb : Below w0.heap.size w0 w1) => HG0.out.below hb (by omega))
  have HFF := Lib.hid (fun w1 (hb : Below w0.heap.size w0 w1) => (HQ.out w1 hb).fs)
  have HTT := Lib.hid (fun w1 (hb : Below w0.heap.size w0 w1) => (HQ.out w1 hb).top)
  have hfw := h.fs.lt
  obtain ⟨pd, hpd⟩ : ∃ px, ptrOf (liveP L s dir []) = .pointer px := by cases liveP L s dir [] <;> exact ⟨_, rfl⟩
  rw [hpd] at HL
  clear hpd
  by_cases hE0 : liveE s dir [] = 0
  · rw [hE0] at HL
    have HIF := Lib.hid hE0
    subst hw0
    clear h h0 hE0 HW00 hsz wf
    go_enter Tryz.func58, Tryz.ntmps58
    go_wp2_with (go_at_call 83; refine HL.out.mono ?_; rintro e w1 ⟨rfl, hb⟩; have HB := Lib.hid hb; clear hb)
    go_ret
    unfold Post mkdirR
    rw [if_pos HIF.out]
    exact ⟨rfl, ⟨_, HQ.out _ HB.out⟩, HBB.out _ HB.out⟩
  · by_cases hE1 : liveE s dir [] = 61
    · obtain ⟨hr, hnin⟩ := live61 hE1
      have hrl := right_len hr
      rw [hE1] at HL
      have HIF := Lib.hid (show ¬ liveE s dir [] = 0 from hE0)
      have HIF1 := Lib.hid (show ¬ (liveE s dir [] ≠ 61) from fun h => h hE1)
      have HS := Lib.hid (fun (W : World) (hW : Below w0.heap.size w0 W) => by
        have r := HQ.out W hW
        have hBW : B ≤ W.heap.size := by have := hW.size; omega
        exact (step_any r wf.steps wf.fuse 85 #[adr w.heap.size, adr (w.heap.size + 1)] (enters_of Tryz.func85 (by kernel_rfl) rfl)
          (R := fun w3 => (∃ L', RepL Kp B f L' (mkdirS (stepped s) dir) w3) ∧ Ch (fun i => i = f ∨ i = L.M) W w3)
          (fun w3 hr hch => (mkdir1_any hr dir hnin w.heap.size (w.heap.size + 1) ((HFB.out W hW).ch hch (by omega)) ((HGB.out W hW).ch hch (by omega)) hrl (Nat.le_trans wf.many (by omega)) (Nat.le_trans hBW hch.size)).mono
            fun e w4 ⟨he, L', a, b⟩ => ⟨he, ⟨L', a⟩, (hch.mono fun k _ e => .inl e).then_ b fun i _ e => .inr e⟩)))
      have HLO := Lib.hid (show ∀ k, (k = f ∨ k = L.M) → B ≤ k ∧ ¬ Kp k from fun k e => e.elim (fun e => e ▸ h.lowF) (fun e => e ▸ h.lowM))
      obtain ⟨N, hN⟩ : ∃ N, s.names.length = N := ⟨_, rfl⟩
      have HNN := Lib.hid hN
      have HLN := Lib.hid (fun w1 (hb : Below w0.heap.size w0 w1) ty => (by
        have := (HTT.out w1 hb).len (t := 65) Tryz.underlying65 ty
        unfold topOf at this
        rw [List.length_map, hN] at this
        exact this : (Builtin.len_ #[65] ty #[.map (some L.M)]).run Tryz.prog w1 = .ok (.int .i64 (N : Int)) w1))
      subst hw0
      clear h h0 hE0 hE1 HW00 hsz wf hN hr
      by_cases hbig : 64 ≤ N
      · have hg : decide ((64 : Int) ≤ (N : Int)) = true := decide_eq_true (by omega)
        go_enter Tryz.func58, Tryz.ntmps58
        go_wp2_with (go_at_call 83; refine HL.out.mono ?_; rintro e w1 ⟨rfl, hb⟩; have HB := Lib.hid hb; have y1 : w1.cell? ⟨w.heap.size, 0, none⟩ = some (.pointer (some ⟨f, 0, none⟩)) := (HFB.out _ hb).cell 0; have y2 : w1.cell? ⟨f, 0, none⟩ = some (.map (some L.M)) := (HFF.out _ hb).cell 0; have y3 := HLN.out w1 hb; clear hb)
        go_ret
        unfold Post mkdirR
        rw [if_neg HIF.out, if_neg HIF1.out, if_pos (by rw [HNN.out]; exact hbig)]
        exact ⟨rfl, ⟨_, HQ.out _ HB.out⟩, HBB.out _ HB.out⟩
      · have hg : decide ((64 : Int) ≤ (N : Int)) = false := decide_eq_false (by omega)
        go_enter Tryz.func58, Tryz.ntmps58
        go_wp2_with (first
          | (go_at_call 83; refine HL.out.mono ?_; rintro e w1 ⟨rfl, hb⟩; have HB := Lib.hid hb; have y1 : w1.cell? ⟨w.heap.size, 0, none⟩ = some (.pointer (some ⟨f, 0, none⟩)) := (HFB.out _ hb).cell 0; have y2 : w1.cell? ⟨f, 0, none⟩ = some (.map (some L.M)) := (HFF.out _ hb).cell 0; have y3 := HLN.out w1 hb; clear hb)
          | (go_at_call 70; go_loud (refine (HS.out w1 HB.out).mono ?_); rintro e w2 ⟨E, rfl, hd⟩; have HD := Lib.hid hd; clear hd))
        go_ret
        have hB2 := Nat.le_trans hBw (HBB.out _ HB.out).size
        unfold Post mkdirR
        rw [if_neg HIF.out, if_neg HIF1.out, if_neg (by rw [HNN.out]; exact hbig)]
        rcases HD.out with ⟨h0, rfl, hr, hch⟩ | ⟨h0, rfl, ⟨L', hr⟩, hch⟩
        · rw [if_pos h0]
          exact ⟨rfl, ⟨_, hr⟩, (HBB.out _ HB.out).trans (hch.toTurn (fun k _ e => HLO.out k (.inl e)) hB2)⟩
        · rw [if_neg h0]
          exact ⟨rfl, ⟨_, hr⟩, (HBB.out _ HB.out).trans (hch.toTurn (fun k _ e => HLO.out k e) hB2)⟩
    · obtain ⟨E, hEE⟩ : ∃ E, liveE s dir [] = E := ⟨_, rfl⟩
      have HEE := Lib.hid hEE
      rw [hEE] at HL hE0 hE1
      have HIF := Lib.hid hE0
      have HIF1 := Lib.hid hE1
      have hne0 : ((E : Int) == 0) = false := by rw [beq_eq_false_iff_ne]; exact hE0
      have hne1 : (E != 61) = true := by rw [bne_iff_ne]; exact hE1
      subst hw0
      clear h h0 hEE HW00 hsz wf
      go_enter Tryz.func58, Tryz.ntmps58
      go_wp2_with (go_at_call 83; refine HL.out.mono ?_; rintro e w1 ⟨rfl, hb⟩; have HB := Lib.hid hb; clear hb)
      go_ret
      unfold Post mkdirR
      rw [HEE.out, if_neg HIF.out, if_pos HIF1.out]
      exact ⟨rfl, ⟨_, HQ.out _ HB.out⟩, HBB.out _ HB.out⟩
end
end Go.Proofs.YtkcnmajjfljilaaGreatDoor
