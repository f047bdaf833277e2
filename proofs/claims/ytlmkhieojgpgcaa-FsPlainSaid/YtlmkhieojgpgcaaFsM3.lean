/- simfs: Remove, Rename. -/
import Derived.Test.YtlmkhieojgpgcaaFsM2
import Derived.LaidEqlPtr
namespace Go.Proofs.Ytlmkhieojgpgcaa
open Go.ChangeShapes Go.WideShapes Go.ChangeAt Go.RowKit Go.ChangeMaps Go.MapKept
set_option linter.unusedVariables false

theorem Cells.new1 (w : World) (o : Obj) (c : Array Value) (t : TypeId) : Cells ((w.alloc o).alloc (.cells c t)) (w.heap.size + 1) c t := by
  have := Cells.new (w.alloc o) c t
  rwa [show (w.alloc o).heap.size = w.heap.size + 1 by simp] at this
theorem Cells.new2 (w : World) (o o2 : Obj) (c : Array Value) (t : TypeId) : Cells (((w.alloc o).alloc o2).alloc (.cells c t)) (w.heap.size + 2) c t := by
  have := Cells.new1 (w.alloc o) o2 c t
  rwa [show (w.alloc o).heap.size = w.heap.size + 1 by simp] at this
def removeR (s : Fs) (dir name : Nm) : Int × Fs :=
  if lfE s dir name [] ≠ 0 then (lfE s dir name [], s)
  else if s.fuse = 0 then (60, outed s)
  else (0, { stepped s with used := s.used - (bytesOf s (fileOf s dir name)).length, dir := upd s.dir dir (didDir (s.dir dir) (.remove name)) })
set_option maxHeartbeats 1000000 in
theorem remove_any {Kp : Nat → Prop} {B f : Nat} {s : Fs} {w : World} (h : Rep Kp B f s w) (wf : Wf s) (hBw : B ≤ w.heap.size) (dir name : Nm) :
    Calls Try.prog 27 #[.pointer (some ⟨f, 0, none⟩), .string (txt dir), .string (txt name)] w (Post Kp B f (removeR s dir name) w) := by
  obtain ⟨L, h⟩ := h
  obtain ⟨w0, hw0⟩ : ∃ w0, (w.alloc (.cells #[.pointer (some ⟨f, 0, none⟩)] 24)).alloc (.cells #[.string (txt name)] 9) = w0 := ⟨_, rfl⟩
  have hsz : w0.heap.size = w.heap.size + 2 := by rw [← hw0]; simp
  have HW00 : Below w.heap.size w w0 := by rw [← hw0]; exact ((Below.refl _ w).alloc (Nat.le_refl _) _).alloc (by simp) _
  have HF0 := Lib.hid (show Cells w0 w.heap.size #[adr f] 24 by rw [← hw0]; exact (Cells.new w _ _).alloc _)
  have HG0 := Lib.hid (show Cells w0 (w.heap.size + 1) #[.string (txt name)] 9 by
    have := Cells.new (w.alloc (.cells #[.pointer (some ⟨f, 0, none⟩)] 24)) #[.string (txt name)] 9
    rw [← hw0]; simpa using this)
  have h0 : RepL Kp B f L s w0 := h.quiet (Ch.of_below HW00)
  have HL := Lib.hid (liveFile_any h0 w0 (Below.refl _ w0) dir name [] (.slice none 0 0) (own_none w0 _) (by simp))
  have HQ := Lib.hid (fun w1 (hb : Below w0.heap.size w0 w1) => h0.quiet (Ch.of_below hb))
  have HBB := Lib.hid (fun w1 (hb : Below w0.heap.size w0 w1) => (Turn.of (HW00.trans (hb.mono (show w.heap.size ≤ w0.heap.size by omega))) hBw : Turn Kp B w w1))
  have HFB := Lib.hid (fun w1 (hb : Below w0.heap.size w0 w1) => HF0.out.below hb (by omega))
  have HGB := Lib.hid (fun w1 (hb : Below w0.heap.size w0 w1) => HG0.out.below hb (by omega))
  have hfw := h.fs.lt
  rcases lf_cases L s dir name [] with ⟨hE, hD, ⟨x, hP, hx⟩, hon, hall, hin⟩ | hE
  · rw [hE, hP, hD, ptrOf_some, ptrOf_some] at HL
    have HIF := Lib.hid (show ¬ (lfE s dir name [] ≠ 0) from fun h => h hE)
    have hnm : right name = true := by
      rw [List.all_append, Bool.and_eq_true] at hall
      simpa using hall.1
    have hnl := right_len hnm
    obtain ⟨b, sf, hfx⟩ := wf.now hin (mget_some hx)
    have HFO := Lib.hid (show fileOf s dir name = x by unfold fileOf; rw [hx]; rfl)
    have HBO := Lib.hid (show bytesOf s x = b by unfold bytesOf; rw [hfx]; rfl)
    have hbl := (wf.files x b sf hfx).1
    have hu := wf.used
    have HS := Lib.hid (fun (w1 : World) (hb : Below w0.heap.size w0 w1) (W : World) (hW : Below w0.heap.size w0 W) (k1 : Cells W w1.heap.size #[adr (L.blk dir)] 55) (k2 : Cells W (w1.heap.size + 1) #[adr x] 60) => by
      have hs1 := hb.size
      have r := HQ.out W hW
      have hBW : B ≤ W.heap.size := by have := hW.size; omega
      exact (step_any r wf.steps wf.fuse 51 #[adr w.heap.size, adr (w1.heap.size + 1), adr w1.heap.size, adr (w.heap.size + 1)] (enters_of Try.func51 (by kernel_rfl) rfl)
        (R := fun w3 => (∃ L', RepL Kp B f L' { stepped s with used := s.used - b.length, dir := upd s.dir dir (didDir (s.dir dir) (.remove name)) } w3) ∧ Ch (fun i => i = f ∨ dirOf L dir i) W w3)
        (fun w3 hr hch => (remove1_any hr dir name hin w.heap.size (w1.heap.size + 1) w1.heap.size (w.heap.size + 1) x ((HFB.out W hW).ch hch (by omega)) (k2.ch hch (by omega)) (k1.ch hch (by omega)) ((HGB.out W hW).ch hch (by omega)) b sf hfx hnl (Nat.le_trans hBW hch.size) (wf.nowlen hin) (wf.pendlen hin) hu (by omega) (h.fresh (by omega))).mono
          fun e w4 ⟨he, L', a, b⟩ => ⟨he, ⟨L', a⟩, (hch.mono fun k _ e => .inl e).then_ b fun i _ e => e⟩)))
    have HLO := Lib.hid (show ∀ k, (k = f ∨ dirOf L dir k) → B ≤ k ∧ ¬ Kp k from fun k e => e.elim (fun e => e ▸ h.lowF) (h.lowDir hin k))
    have HSZ := Lib.hid hsz
    subst hw0
    clear h h0 hE hP hD hall HW00 hsz wf hu hnm
    go_enter Try.func27, Try.ntmps27
    go_wp2_with (first
      | (go_at_call 36; refine HL.out.mono ?_; rintro e w1 ⟨rfl, hb⟩; have HB := Lib.hid hb; have HW := Lib.hid (Below.al (Below.al hb (Nat.le_refl _) (.cells #[.pointer (some ⟨L.blk dir, 0, none⟩)] 55)) (Nat.le_refl _) (.cells #[.pointer (some ⟨x, 0, none⟩)] 60)); have y3 : ∀ o o2, ((w1.alloc o).alloc o2).cell? ⟨w.heap.size, 0, none⟩ = some (.pointer (some ⟨f, 0, none⟩)) := fun o o2 => (HFB.out _ (Below.al (Below.al hb (Nat.le_refl _) o) (Nat.le_refl _) o2)).cell 0; clear hb)
      | (go_at_call 30; go_loud (refine (HS.out w1 HB.out _ HW.out ((Cells.new w1 _ _).alloc _) ?k2).mono ?_); rotate_left; rintro e w2 ⟨E, rfl, hd⟩; have HD := Lib.hid hd; clear hd))
    · go_ret
      have hb0 := HW.out
      have hB2 : B ≤ ((w1.alloc (.cells #[.pointer (some ⟨L.blk dir, 0, none⟩)] 55)).alloc (.cells #[.pointer (some ⟨x, 0, none⟩)] 60)).heap.size := by
        have := (HBB.out _ hb0).size; omega
      unfold Post removeR
      rw [if_neg HIF.out, HFO.out, HBO.out]
      rcases HD.out with ⟨h0, rfl, hr, hch⟩ | ⟨h0, rfl, ⟨L', hr⟩, hch⟩
      · rw [if_pos h0]
        exact ⟨rfl, ⟨_, hr⟩, (HBB.out _ hb0).trans (hch.toTurn (fun k _ e => HLO.out k (.inl e)) hB2)⟩
      · rw [if_neg h0]
        exact ⟨rfl, ⟨_, hr⟩, (HBB.out _ hb0).trans (hch.toTurn (fun k _ e => HLO.out k e) hB2)⟩
    · exact Cells.new1 w1 _ _ _
  · have HIF := Lib.hid hE
    obtain ⟨E, hEE⟩ : ∃ E, lfE s dir name [] = E := ⟨_, rfl⟩
    obtain ⟨D, hDD⟩ : ∃ D, lfD L s dir name [] = D := ⟨_, rfl⟩
    obtain ⟨X, hXX⟩ : ∃ X, lfP s dir name [] = X := ⟨_, rfl⟩
    have HEE := Lib.hid hEE
    rw [hEE] at hE
    rw [hEE, hDD, hXX] at HL
    have hne : (E != 0) = true := by rw [bne_iff_ne]; exact hE
    obtain ⟨px, hpx⟩ : ∃ px, ptrOf X = .pointer px := by cases X <;> exact ⟨_, rfl⟩
    obtain ⟨pd, hpd⟩ : ∃ px, ptrOf D = .pointer px := by cases D <;> exact ⟨_, rfl⟩
    rw [hpx, hpd] at HL
    subst hw0
    clear h h0 hEE hDD hXX hpx hpd HW00 hsz
    go_enter Try.func27, Try.ntmps27
    go_wp2_with (go_at_call 36; refine HL.out.mono ?_; rintro e w1 ⟨rfl, hb⟩; have HB := Lib.hid hb; clear hb)
    go_ret
    have hb0 := Below.al (Below.al HB.out (Nat.le_refl _) (.cells #[.pointer pd] 55)) (Nat.le_refl _) (.cells #[.pointer px] 60)
    have hq := HQ.out _ hb0
    unfold Post removeR
    rw [if_pos HIF.out, HEE.out]
    exact ⟨rfl, ⟨_, hq⟩, HBB.out _ hb0⟩

/-! ### Rename -/
theorem infoFile : (Try.prog.info? 67).map (fun i => i.size) = some 2 := by kernel_rfl
theorem neq_files (w : World) {x y : Nat} {c d : Array Value} {s t : TypeId} (hx : Cells w x c s) (hy : Cells w y d t) (hne : y ≠ x) : (binOp .neq 60 (.pointer (some ⟨y, 0, none⟩)) (.pointer (some ⟨x, 0, none⟩))).run Try.prog w = .ok (.bool true) w := by
  cases hi : Try.prog.info? 67 with
  | none => have := infoFile; rw [hi] at this; cases this
  | some j =>
    have hj : j.size = 2 := by have := infoFile; rw [hi] at this; simpa using this
    have h : ∀ d : Nat, (Op.equalIn (d + 1) 60 (.pointer (some ⟨y, 0, none⟩)) (.pointer (some ⟨x, 0, none⟩))).run Try.prog w = .ok false w := fun d => by
      simp [Op.equalIn, run_underlying Try.underlying60, sizeOf, typeInfo, hi, hj, run_sameAddr_other w (a := ⟨y, 0, none⟩) (b := ⟨x, 0, none⟩) (by intro e; injection e with e; exact hne e) hy hx]
    simp only [binOp]
    simp [Op.equal, Op.maxDepth, h 9999]
theorem same_files (w : World) (x : Nat) : (binOp .neq 60 (.pointer (some ⟨x, 0, none⟩)) (.pointer (some ⟨x, 0, none⟩))).run Try.prog w = .ok (.bool false) w := by
  cases hi : Try.prog.info? 67 with
  | none => have := infoFile; rw [hi] at this; cases this
  | some j =>
    have h : ∀ d : Nat, (Op.equalIn (d + 1) 60 (.pointer (some ⟨x, 0, none⟩)) (.pointer (some ⟨x, 0, none⟩))).run Try.prog w = .ok true w := fun d => by
      simp [Op.equalIn, run_underlying Try.underlying60, sizeOf, typeInfo, hi, run_sameAddr_same]
    simp only [binOp]
    simp [Op.equal, Op.maxDepth, h 9999]

def goneOf (s : Fs) (dir from_ to : Nm) : Int :=
  match mget (s.dir dir).now to with
  | some y => if y = fileOf s dir from_ then 0 else ((bytesOf s y).length : Int)
  | none => 0
def renameR (s : Fs) (dir from_ to : Nm) : Int × Fs :=
  if lfE s dir from_ [to] ≠ 0 then (lfE s dir from_ [to], s)
  else if s.fuse = 0 then (60, outed s)
  else (0, { stepped s with used := s.used - goneOf s dir from_ to, dir := upd s.dir dir (didDir (s.dir dir) (.rename from_ to (fileOf s dir from_))) })
set_option maxHeartbeats 1000000 in
theorem rename_any {Kp : Nat → Prop} {B f : Nat} {s : Fs} {w : World} (h : Rep Kp B f s w) (wf : Wf s) (hBw : B ≤ w.heap.size) (dir from_ to : Nm) :
    Calls Try.prog 15 #[.pointer (some ⟨f, 0, none⟩), .string (txt dir), .string (txt from_), .string (txt to)] w (Post Kp B f (renameR s dir from_ to) w) := by
  obtain ⟨L, h⟩ := h
  obtain ⟨w0, hw0⟩ : ∃ w0, ((w.alloc (.cells #[.pointer (some ⟨f, 0, none⟩)] 24)).alloc (.cells #[.string (txt from_)] 9)).alloc (.cells #[.string (txt to)] 9) = w0 := ⟨_, rfl⟩
  have hsz : w0.heap.size = w.heap.size + 3 := by rw [← hw0]; simp
  have HW00 : Below w.heap.size w w0 := by rw [← hw0]; exact Below.al (Below.al (Below.al (Below.refl _ w) (Nat.le_refl _) _) (Nat.le_refl _) _) (Nat.le_refl _) _
  have HF0 := Lib.hid (show Cells w0 w.heap.size #[adr f] 24 by rw [← hw0]; exact ((Cells.new w _ _).alloc _).alloc _)
  have HG0 := Lib.hid (show Cells w0 (w.heap.size + 1) #[.string (txt from_)] 9 by rw [← hw0]; exact (Cells.new1 w _ _ _).alloc _)
  have HT0 := Lib.hid (show Cells w0 (w.heap.size + 2) #[.string (txt to)] 9 by rw [← hw0]; exact Cells.new2 w _ _ _ _)
  have h0 : RepL Kp B f L s w0 := h.quiet (Ch.of_below HW00)
  have HO1 : (w0.alloc (.cells #[.string (txt to)] 9)).ownsRow w0.heap.size 9 1 (.slice (some ⟨w.heap.size + 3, 0, none⟩) 1 1) 1 [encStr to] := by
    have := own_one w0 w0.heap.size (Nat.le_refl _) to
    rw [hsz] at this ⊢
    exact this
  have HL := Lib.hid (liveFile_any h0 _ (Below.al (Below.refl _ w0) (Nat.le_refl _) (.cells #[.string (txt to)] 9)) dir from_ [to] (.slice (some ⟨w.heap.size + 3, 0, none⟩) 1 1) HO1 (by simp))
  clear HO1
  have HQ := Lib.hid (fun w1 (hb : Below w0.heap.size w0 w1) => h0.quiet (Ch.of_below hb))
  have HBB := Lib.hid (fun w1 (hb : Below w0.heap.size w0 w1) => (Turn.of (HW00.trans (hb.mono (show w.heap.size ≤ w0.heap.size by omega))) hBw : Turn Kp B w w1))
  have HFB := Lib.hid (fun w1 (hb : Below w0.heap.size w0 w1) => HF0.out.below hb (by omega))
  have HGB := Lib.hid (fun w1 (hb : Below w0.heap.size w0 w1) => HG0.out.below hb (by omega))
  have HTB := Lib.hid (fun w1 (hb : Below w0.heap.size w0 w1) => HT0.out.below hb (by omega))
  have hfw := h.fs.lt
  rcases lf_cases L s dir from_ [to] with ⟨hE, hD, ⟨x, hP, hx⟩, hon, hall, hin⟩ | hE
  · rw [hE, hP, hD, ptrOf_some, ptrOf_some] at HL
    have HIF := Lib.hid (show ¬ (lfE s dir from_ [to] ≠ 0) from fun h => h hE)
    rw [List.all_append, Bool.and_eq_true, List.all_append, Bool.and_eq_true] at hall
    have hnl := right_len (show right from_ = true by simpa using hall.1.2)
    have htl := right_len (show right to = true by simpa using hall.1.1)
    have HFO := Lib.hid (show fileOf s dir from_ = x by unfold fileOf; rw [hx]; rfl)
    have hu := wf.used
    have HS := Lib.hid (fun (w1 : World) (hb : Below w0.heap.size w0 w1) (g : Int) (W : World) (hW : Below w0.heap.size w0 W) (k1 : Cells W w1.heap.size #[adr (L.blk dir)] 55) (k2 : Cells W (w1.heap.size + 1) #[adr x] 60) (k3 : Cells W (w1.heap.size + 2) #[.int .i64 g] 3) (hg : 0 ≤ g ∧ g ≤ 1099511627776) => by
      have hs1 := hb.size
      have r := HQ.out W hW
      have hBW : B ≤ W.heap.size := by have := hW.size; omega
      exact (step_any r wf.steps wf.fuse 41 #[adr w.heap.size, adr (w1.heap.size + 2), adr w1.heap.size, adr (w.heap.size + 1), adr (w1.heap.size + 1), adr (w.heap.size + 2)] (enters_of Try.func41 (by kernel_rfl) rfl)
        (R := fun w3 => (∃ L', RepL Kp B f L' { stepped s with used := s.used - g, dir := upd s.dir dir (didDir (s.dir dir) (.rename from_ to x)) } w3) ∧ Ch (fun i => i = f ∨ dirOf L dir i) W w3)
        (fun w3 hr hch => (rename1_any hr dir from_ to hin w.heap.size (w1.heap.size + 2) w1.heap.size (w.heap.size + 1) (w1.heap.size + 1) (w.heap.size + 2) x g ((HFB.out W hW).ch hch (by omega)) (k3.ch hch (by omega)) (k1.ch hch (by omega)) ((HGB.out W hW).ch hch (by omega)) (k2.ch hch (by omega)) ((HTB.out W hW).ch hch (by omega)) hnl htl (Nat.le_trans hBW hch.size) (wf.nowlen hin) (wf.pendlen hin) hu hg ⟨h.fresh (by omega), h.fresh (by omega), h.fresh (by omega)⟩).mono
          fun e w4 ⟨he, L', a, b⟩ => ⟨he, ⟨L', a⟩, (hch.mono fun k _ e => .inl e).then_ b fun i _ e => e⟩)))
    have HLO := Lib.hid (show ∀ k, (k = f ∨ dirOf L dir k) → B ≤ k ∧ ¬ Kp k from fun k e => e.elim (fun e => e ▸ h.lowF) (h.lowDir hin k))
    have HLK := Lib.hid (fun (w1 : World) (hb : Below w0.heap.size w0 w1) => ((HQ.out _ hb).now dir hin).look (t := 62) (e' := 0) Try.underlying62 zero_file to (by unfold maxLen; omega))
    have HSZ := Lib.hid hsz
    obtain ⟨M, hM⟩ : ∃ M, mget (s.dir dir).now to = M := ⟨_, rfl⟩
    rw [hM] at HLK
    cases M with
    | none =>
      have HGO := Lib.hid (show goneOf s dir from_ to = 0 by unfold goneOf; rw [hM])
      simp only [ptrOf_none, Option.isSome] at HLK
      subst hw0
      clear h h0 hE hP hD hall HW00 hsz wf hu hM
      go_enter Try.func15, Try.ntmps15
      go_wp2_with (go_at_call 36; refine HL.out.mono ?_; rintro e w1 ⟨rfl, hb⟩; have HB := Lib.hid hb; have HW := Lib.hid (fun (g : Int) => (Below.al (Below.al (Below.al hb (Nat.le_refl _) (.cells #[.pointer (some ⟨L.blk dir, 0, none⟩)] 55)) (Nat.le_refl _) (.cells #[.pointer (some ⟨x, 0, none⟩)] 60)) (Nat.le_refl _) (.cells #[.int .i64 g] 3)).drew); have y3 : ∀ o o2 o3, (((w1.alloc o).alloc o2).alloc o3).cell? ⟨w.heap.size, 0, none⟩ = some (.pointer (some ⟨f, 0, none⟩)) := fun o o2 o3 => (HFB.out _ (Below.al (Below.al (Below.al hb (Nat.le_refl _) o) (Nat.le_refl _) o2) (Nat.le_refl _) o3)).cell 0; have y4 : ∀ o o2 o3, (((w1.alloc o).alloc o2).alloc o3).cell? ⟨w.heap.size + 2, 0, none⟩ = some (.string (txt to)) := fun o o2 o3 => (HTB.out _ (Below.al (Below.al (Below.al hb (Nat.le_refl _) o) (Nat.le_refl _) o2) (Nat.le_refl _) o3)).cell 0; have y5 : ∀ o o2 o3, (((w1.alloc o).alloc o2).alloc o3).cell? ⟨L.blk dir, 1, none⟩ = some (.map (some (L.nw dir))) := fun o o2 o3 => ((HQ.out _ (Below.al (Below.al (Below.al hb (Nat.le_refl _) o) (Nat.le_refl _) o2) (Nat.le_refl _) o3)).dir dir hin).cell 1; have y6 : ∀ o o2 o3, (Instr.lookup 62 (.map (some (L.nw dir))) (.string (txt to)) true).run Try.prog (((w1.alloc o).alloc o2).alloc o3).drew = .ok (.tuple #[.pointer none, .bool false]) (((w1.alloc o).alloc o2).alloc o3).drew := fun o o2 o3 => HLK.out _ (Below.al (Below.al (Below.al hb (Nat.le_refl _) o) (Nat.le_refl _) o2) (Nat.le_refl _) o3).drew; clear hb)
      go_region
      go_wp2_with (go_at_call 30; go_loud (refine (HS.out w1 HB.out (0) _ (HW.out (0)) ?a1 ?a2 ?a3 ⟨by decide, by decide⟩).mono ?_); rotate_left 3; rintro e w2 ⟨E, rfl, hd⟩; have HD := Lib.hid hd; clear hd)
      · go_ret
        have hb0 := HW.out (0)
        have hB2 := Nat.le_trans hBw (HBB.out _ hb0).size
        unfold Post renameR
        rw [if_neg HIF.out, HFO.out, HGO.out]
        rcases HD.out with ⟨h0, rfl, hr, hch⟩ | ⟨h0, rfl, ⟨L', hr⟩, hch⟩
        · rw [if_pos h0]
          exact ⟨rfl, ⟨_, hr⟩, (HBB.out _ hb0).trans (hch.toTurn (fun k _ e => HLO.out k (.inl e)) hB2)⟩
        · rw [if_neg h0]
          exact ⟨rfl, ⟨_, hr⟩, (HBB.out _ hb0).trans (hch.toTurn (fun k _ e => HLO.out k e) hB2)⟩
      · exact ((Cells.new w1 _ _).alloc _).alloc _
      · exact (Cells.new1 w1 _ _ _).alloc _
      · exact Cells.new2 w1 _ _ _ _
    | some y =>
      obtain ⟨by_, sy, hfy⟩ := wf.now hin (mget_some hM)
      obtain ⟨bx, sx, hfx⟩ := wf.now hin (mget_some hx)
      have hby := (wf.files y by_ sy hfy).1
      simp only [ptrOf_some, Option.isSome] at HLK
      by_cases hxy : y = x
      · subst hxy
        have HGO := Lib.hid (show goneOf s dir from_ to = 0 by unfold goneOf; rw [hM]; simp [HFO.out])
        subst hw0
        clear h h0 hE hP hD hall HW00 hsz wf hu hM
        go_enter Try.func15, Try.ntmps15
        go_wp2_with (go_at_call 36; refine HL.out.mono ?_; rintro e w1 ⟨rfl, hb⟩; have HB := Lib.hid hb; have HW := Lib.hid (fun (g : Int) => (Below.al (Below.al (Below.al hb (Nat.le_refl _) (.cells #[.pointer (some ⟨L.blk dir, 0, none⟩)] 55)) (Nat.le_refl _) (.cells #[.pointer (some ⟨y, 0, none⟩)] 60)) (Nat.le_refl _) (.cells #[.int .i64 g] 3)).drew); have y3 : ∀ o o2 o3, (((w1.alloc o).alloc o2).alloc o3).cell? ⟨w.heap.size, 0, none⟩ = some (.pointer (some ⟨f, 0, none⟩)) := fun o o2 o3 => (HFB.out _ (Below.al (Below.al (Below.al hb (Nat.le_refl _) o) (Nat.le_refl _) o2) (Nat.le_refl _) o3)).cell 0; have y4 : ∀ o o2 o3, (((w1.alloc o).alloc o2).alloc o3).cell? ⟨w.heap.size + 2, 0, none⟩ = some (.string (txt to)) := fun o o2 o3 => (HTB.out _ (Below.al (Below.al (Below.al hb (Nat.le_refl _) o) (Nat.le_refl _) o2) (Nat.le_refl _) o3)).cell 0; have y5 : ∀ o o2 o3, (((w1.alloc o).alloc o2).alloc o3).cell? ⟨L.blk dir, 1, none⟩ = some (.map (some (L.nw dir))) := fun o o2 o3 => ((HQ.out _ (Below.al (Below.al (Below.al hb (Nat.le_refl _) o) (Nat.le_refl _) o2) (Nat.le_refl _) o3)).dir dir hin).cell 1; have y6 : ∀ o o2 o3, (Instr.lookup 62 (.map (some (L.nw dir))) (.string (txt to)) true).run Try.prog (((w1.alloc o).alloc o2).alloc o3).drew = .ok (.tuple #[.pointer (some ⟨y, 0, none⟩), .bool true]) (((w1.alloc o).alloc o2).alloc o3).drew := fun o o2 o3 => HLK.out _ (Below.al (Below.al (Below.al hb (Nat.le_refl _) o) (Nat.le_refl _) o2) (Nat.le_refl _) o3).drew; have y8 := fun W => same_files W y; clear hb)
        go_region
        go_wp2_with (go_at_call 30; go_loud (refine (HS.out w1 HB.out (0) _ (HW.out (0)) ?b1 ?b2 ?b3 ⟨by decide, by decide⟩).mono ?_); rotate_left 3; rintro e w2 ⟨E, rfl, hd⟩; have HD := Lib.hid hd; clear hd)
        · go_ret
          have hb0 := HW.out (0)
          have hB2 := Nat.le_trans hBw (HBB.out _ hb0).size
          unfold Post renameR
          rw [if_neg HIF.out, HFO.out, HGO.out]
          rcases HD.out with ⟨h0, rfl, hr, hch⟩ | ⟨h0, rfl, ⟨L', hr⟩, hch⟩
          · rw [if_pos h0]
            exact ⟨rfl, ⟨_, hr⟩, (HBB.out _ hb0).trans (hch.toTurn (fun k _ e => HLO.out k (.inl e)) hB2)⟩
          · rw [if_neg h0]
            exact ⟨rfl, ⟨_, hr⟩, (HBB.out _ hb0).trans (hch.toTurn (fun k _ e => HLO.out k e) hB2)⟩
        · exact ((Cells.new w1 _ _).alloc _).alloc _
        · exact (Cells.new1 w1 _ _ _).alloc _
        · exact Cells.new2 w1 _ _ _ _
      · have HGO := Lib.hid (show goneOf s dir from_ to = by_.length by unfold goneOf; rw [hM, HFO.out]; simp only [if_neg hxy]; unfold bytesOf; rw [hfy]; rfl)
        subst hw0
        clear h h0 hE hP hD hall HW00 hsz wf hu hM
        go_enter Try.func15, Try.ntmps15
        go_wp2_with (go_at_call 36; refine HL.out.mono ?_; rintro e w1 ⟨rfl, hb⟩; have HB := Lib.hid hb; have HW := Lib.hid (fun (g : Int) => (Below.al (Below.al (Below.al hb (Nat.le_refl _) (.cells #[.pointer (some ⟨L.blk dir, 0, none⟩)] 55)) (Nat.le_refl _) (.cells #[.pointer (some ⟨x, 0, none⟩)] 60)) (Nat.le_refl _) (.cells #[.int .i64 g] 3)).drew); have y3 : ∀ o o2 o3, (((w1.alloc o).alloc o2).alloc o3).cell? ⟨w.heap.size, 0, none⟩ = some (.pointer (some ⟨f, 0, none⟩)) := fun o o2 o3 => (HFB.out _ (Below.al (Below.al (Below.al hb (Nat.le_refl _) o) (Nat.le_refl _) o2) (Nat.le_refl _) o3)).cell 0; have y4 : ∀ o o2 o3, (((w1.alloc o).alloc o2).alloc o3).cell? ⟨w.heap.size + 2, 0, none⟩ = some (.string (txt to)) := fun o o2 o3 => (HTB.out _ (Below.al (Below.al (Below.al hb (Nat.le_refl _) o) (Nat.le_refl _) o2) (Nat.le_refl _) o3)).cell 0; have y5 : ∀ o o2 o3, (((w1.alloc o).alloc o2).alloc o3).cell? ⟨L.blk dir, 1, none⟩ = some (.map (some (L.nw dir))) := fun o o2 o3 => ((HQ.out _ (Below.al (Below.al (Below.al hb (Nat.le_refl _) o) (Nat.le_refl _) o2) (Nat.le_refl _) o3)).dir dir hin).cell 1; have y6 : ∀ o o2 o3, (Instr.lookup 62 (.map (some (L.nw dir))) (.string (txt to)) true).run Try.prog (((w1.alloc o).alloc o2).alloc o3).drew = .ok (.tuple #[.pointer (some ⟨y, 0, none⟩), .bool true]) (((w1.alloc o).alloc o2).alloc o3).drew := fun o o2 o3 => HLK.out _ (Below.al (Below.al (Below.al hb (Nat.le_refl _) o) (Nat.le_refl _) o2) (Nat.le_refl _) o3).drew; have y7 : ∀ o o2 o3, (((w1.alloc o).alloc o2).alloc o3).cell? ⟨y, 0, none⟩ = some (.slice (L.fa y) by_.length (L.fc y)) := fun o o2 o3 => ((HQ.out _ (Below.al (Below.al (Below.al hb (Nat.le_refl _) o) (Nat.le_refl _) o2) (Nat.le_refl _) o3)).file y by_ sy hfy).cells.cell 0; have y8 : ∀ o o2 o3, (binOp .neq 60 (.pointer (some ⟨y, 0, none⟩)) (.pointer (some ⟨x, 0, none⟩))).run Try.prog (((w1.alloc o).alloc o2).alloc o3).drew = .ok (.bool true) (((w1.alloc o).alloc o2).alloc o3).drew := fun o o2 o3 => neq_files _ ((HQ.out _ (Below.al (Below.al (Below.al hb (Nat.le_refl _) o) (Nat.le_refl _) o2) (Nat.le_refl _) o3).drew).file x bx sx hfx).cells ((HQ.out _ (Below.al (Below.al (Below.al hb (Nat.le_refl _) o) (Nat.le_refl _) o2) (Nat.le_refl _) o3).drew).file y by_ sy hfy).cells hxy; clear hb)
        go_region
        go_wp2_with (go_at_call 30; go_loud (refine (HS.out w1 HB.out (by_.length : Int) _ (HW.out (by_.length : Int)) ?c1 ?c2 ?c3 ⟨by omega, by omega⟩).mono ?_); rotate_left 3; rintro e w2 ⟨E, rfl, hd⟩; have HD := Lib.hid hd; clear hd)
        · go_ret
          have hb0 := HW.out (by_.length : Int)
          have hB2 := Nat.le_trans hBw (HBB.out _ hb0).size
          unfold Post renameR
          rw [if_neg HIF.out, HFO.out, HGO.out]
          rcases HD.out with ⟨h0, rfl, hr, hch⟩ | ⟨h0, rfl, ⟨L', hr⟩, hch⟩
          · rw [if_pos h0]
            exact ⟨rfl, ⟨_, hr⟩, (HBB.out _ hb0).trans (hch.toTurn (fun k _ e => HLO.out k (.inl e)) hB2)⟩
          · rw [if_neg h0]
            exact ⟨rfl, ⟨_, hr⟩, (HBB.out _ hb0).trans (hch.toTurn (fun k _ e => HLO.out k e) hB2)⟩
        · exact ((Cells.new w1 _ _).alloc _).alloc _
        · exact (Cells.new1 w1 _ _ _).alloc _
        · exact Cells.new2 w1 _ _ _ _
  · have HIF := Lib.hid hE
    obtain ⟨E, hEE⟩ : ∃ E, lfE s dir from_ [to] = E := ⟨_, rfl⟩
    obtain ⟨D, hDD⟩ : ∃ D, lfD L s dir from_ [to] = D := ⟨_, rfl⟩
    obtain ⟨X, hXX⟩ : ∃ X, lfP s dir from_ [to] = X := ⟨_, rfl⟩
    have HEE := Lib.hid hEE
    rw [hEE] at hE
    rw [hEE, hDD, hXX] at HL
    have hne : (E != 0) = true := by rw [bne_iff_ne]; exact hE
    obtain ⟨px, hpx⟩ : ∃ px, ptrOf X = .pointer px := by cases X <;> exact ⟨_, rfl⟩
    obtain ⟨pd, hpd⟩ : ∃ px, ptrOf D = .pointer px := by cases D <;> exact ⟨_, rfl⟩
    rw [hpx, hpd] at HL
    subst hw0
    clear h h0 hEE hDD hXX hpx hpd HW00 hsz
    go_enter Try.func15, Try.ntmps15
    go_wp2_with (go_at_call 36; refine HL.out.mono ?_; rintro e w1 ⟨rfl, hb⟩; have HB := Lib.hid hb; clear hb)
    go_ret
    have hb0 := Below.al (Below.al HB.out (Nat.le_refl _) (.cells #[.pointer pd] 55)) (Nat.le_refl _) (.cells #[.pointer px] 60)
    have hq := HQ.out _ hb0
    unfold Post renameR
    rw [if_pos HIF.out, HEE.out]
    exact ⟨rfl, ⟨_, hq⟩, HBB.out _ hb0⟩
end Go.Proofs.Ytlmkhieojgpgcaa
