/- simfs: Sync, Create. -/
import Derived.Test.YtlmkhieojgpgcaaFsMeth
namespace Go.Proofs.Ytlmkhieojgpgcaa
open Go.ChangeShapes Go.WideShapes Go.ChangeAt Go.RowKit Go.ChangeMaps Go.MapKept
set_option linter.unusedVariables false

def fileOf (s : Fs) (dir name : Nm) : Nat := (mget (s.dir dir).now name).getD 0
def bytesOf (s : Fs) (x : Nat) : List UInt8 := ((s.file x).getD ([], 0)).1
def safeOf (s : Fs) (x : Nat) : Nat := ((s.file x).getD ([], 0)).2
def syncR (s : Fs) (dir name : Nm) : Int × Fs :=
  if lfE s dir name [] ≠ 0 then (lfE s dir name [], s) else if s.fuse = 0 then (60, outed s)
  else (0, { stepped s with file := upd s.file (fileOf s dir name) (some (bytesOf s (fileOf s dir name), (bytesOf s (fileOf s dir name)).length)) })
theorem Below.al {B : Nat} {a w : World} (h : Below B a w) (hB : B ≤ a.heap.size) (o : Obj) : Below B a (w.alloc o) := h.alloc (Nat.le_trans hB h.size) o
set_option maxHeartbeats 1000000 in
theorem sync_any {Kp : Nat → Prop} {B f : Nat} {s : Fs} {w : World} (h : Rep Kp B f s w) (wf : Wf s) (hBw : B ≤ w.heap.size) (dir name : Nm) :
    Calls Try.prog 12 #[.pointer (some ⟨f, 0, none⟩), .string (txt dir), .string (txt name)] w (Post Kp B f (syncR s dir name) w) := by
  obtain ⟨L, h⟩ := h
  have HL := Lib.hid (liveFile_any h w (Below.refl _ w) dir name [] (.slice none 0 0) (own_none w _) (by simp))
  have HQ := Lib.hid (fun w1 (hb : Below w.heap.size w w1) => h.quiet (Ch.of_below hb))
  have HBB := Lib.hid (fun w1 (hb : Below w.heap.size w w1) => (Turn.of hb hBw : Turn Kp B w w1))
  rcases lf_cases L s dir name [] with ⟨hE, hD, ⟨x, hP, hx⟩, hon, hall, hin⟩ | hE
  · rw [hE, hP, hD, ptrOf_some, ptrOf_some] at HL
    have HIF := Lib.hid (show ¬ (lfE s dir name [] ≠ 0) from fun h => h hE)
    obtain ⟨b, sf, hfx⟩ := wf.now hin (mget_some hx)
    have hfo : fileOf s dir name = x := by unfold fileOf; rw [hx]; rfl
    have hbo : bytesOf s x = b := by unfold bytesOf; rw [hfx]; rfl
    have HS := Lib.hid (fun (w1 : World) (hb : Below w.heap.size w w1) (b1 : Nat) (h1 : Cells w1 b1 #[adr x] 60) (hb1 : b1 ≠ f) =>
      step_any (HQ.out w1 hb) wf.steps wf.fuse 38 #[adr b1] (enters_of Try.func38 (by kernel_rfl) rfl)
        (R := fun w2 => ∃ L', RepL Kp B f L' { stepped s with file := upd s.file x (some (b, b.length)) } w2 ∧ Ch (fun i => i = f ∨ i = x) w1 w2)
        (fun w2 hr hch => (sync1_any hr b1 x (h1.ch hch hb1) b sf hfx (Nat.le_trans hBw (Nat.le_trans hb.size hch.size))).mono fun e w3 ⟨he, L', a, b⟩ => ⟨he, L', a, (hch.mono fun k _ e => .inl e).then_ b fun i _ e => .inr e⟩))
    have HFF := Lib.hid h.lowF
    have HXX := Lib.hid (h.lowX hfx)
    have hfl := h.fs.lt
    have HFL := Lib.hid hfl
    have HFO := Lib.hid hfo
    have HBO := Lib.hid hbo
    clear h hE hP hD hall hfo hbo
    go_enter Try.func12, Try.ntmps12
    go_wp2_with (first
      | (go_at_call 36; refine HL.out.mono ?_; rintro e w1 ⟨rfl, hb⟩; have HB := Lib.hid hb; clear hb)
      | (go_at_call 30; refine (HS.out _ (Below.al HB.out (Nat.le_refl _) _) w1.heap.size (Cells.new _ _ _) (by have := HFL.out; have := HB.out.size; omega)).mono ?_; rintro e w2 ⟨E, rfl, hd⟩; have HD := Lib.hid hd; clear hd))
    go_ret
    have hb0 := HBB.out _ (Below.al HB.out (Nat.le_refl _) (.cells #[.pointer (some ⟨x, 0, none⟩)] 60))
    have hsz : B ≤ (w1.alloc (.cells #[.pointer (some ⟨x, 0, none⟩)] 60)).heap.size := Nat.le_trans hBw hb0.size
    unfold Post syncR
    rcases HD.out with ⟨h0, rfl, hr, hch⟩ | ⟨h0, rfl, L', hr, hch⟩
    · rw [if_neg HIF.out, if_pos h0]
      exact ⟨rfl, ⟨_, hr⟩, hb0.trans (hch.toTurn (fun k _ e => e ▸ HFF.out) hsz)⟩
    · rw [if_neg HIF.out, if_neg h0, HFO.out, HBO.out]
      exact ⟨rfl, ⟨_, hr⟩, hb0.trans (hch.toTurn (fun k _ e => e.elim (fun e => e ▸ HFF.out) (fun e => e ▸ HXX.out)) hsz)⟩
  · have HIF := Lib.hid hE
    obtain ⟨E, hEE⟩ : ∃ E, lfE s dir name [] = E := ⟨_, rfl⟩
    obtain ⟨D, hDD⟩ : ∃ D, ptrOf (lfD L s dir name []) = D := ⟨_, rfl⟩
    obtain ⟨X, hXX⟩ : ∃ X, lfP s dir name [] = X := ⟨_, rfl⟩
    have HEE := Lib.hid hEE
    rw [hEE] at hE
    rw [hEE, hDD, hXX] at HL
    have hne : (E != 0) = true := by rw [bne_iff_ne]; exact hE
    clear h hEE hDD hXX
    have HPX : ∃ px, ptrOf X = .pointer px := by cases X <;> exact ⟨_, rfl⟩
    obtain ⟨px, hpx⟩ := HPX
    rw [hpx] at HL
    clear hpx
    go_enter Try.func12, Try.ntmps12
    go_wp2_with (go_at_call 36; refine HL.out.mono ?_; rintro e w1 ⟨rfl, hb⟩; have HB := Lib.hid hb; clear hb)
    go_ret
    have hb0 := Below.al HB.out (Nat.le_refl _) (.cells #[.pointer px] 60)
    have hq := HQ.out _ hb0
    unfold Post syncR
    rw [if_pos HIF.out, HEE.out]
    exact ⟨rfl, ⟨_, hq⟩, HBB.out _ hb0⟩

/-! ### Create -/
def createR (s : Fs) (dir name : Nm) (x : Nat) : Int × Fs :=
  if liveE s dir [name] ≠ 0 then (liveE s dir [name], s)
  else if (mget (s.dir dir).now name).isSome then (63, s)
  else if 4096 ≤ (s.dir dir).now.length then (66, s)
  else if s.fuse = 0 then (60, outed s)
  else (0, { stepped s with dir := upd s.dir dir (didDir (s.dir dir) (.create name x)), file := upd s.file x (some ([], 0)) })
theorem fileAt_new (B : Nat) (w : World) : FileAt B (w.alloc (.cells #[.slice none 0 0, .int .i64 0] 67)) w.heap.size none 0 [] 0 :=
  ⟨Cells.new w _ _, World.ownsRow_nil _ _ _ 1⟩
/-- A file comes that no entry has. -/
theorem RepL.newFile {Kp : Nat → Prop} {B f : Nat} {L : Lay} {s : Fs} {w : World} (h : RepL Kp B f L s w) (hBw : B ≤ w.heap.size) : RepL Kp B f { L with fa := upd L.fa w.heap.size none, fc := upd L.fc w.heap.size 0 } { s with file := upd s.file w.heap.size (some ([], 0)) } (w.alloc (.cells #[.slice none 0 0, .int .i64 0] 67)) := by
  have hch : Ch (fun _ => False) w (w.alloc (.cells #[.slice none 0 0, .int .i64 0] 67)) := (Ch.refl _ w).alloc _
  have hn := h.none_ (Nat.le_refl w.heap.size)
  exact h.fileOnly (x := w.heap.size) (A := none) (c := 0) (b := []) (sf := 0) (fun b0 s0 hx => by rw [hn] at hx; cases hx) (fun _ => ⟨Nat.le_refl _, fun k hk => by simp [Value.ownBlock] at hk⟩) (hch.mono fun _ _ h => h.elim) hBw (fileAt_new B w) (h.fs.ch hch fun h => h)
theorem Cells.below {w w' : World} {B b : Nat} {c : Array Value} {t : TypeId} (h : Cells w b c t) (hb : Below B w w') (hlt : b < B) : Cells w' b c t := (hb.block b hlt).trans h
set_option maxHeartbeats 1000000 in
theorem create_any {Kp : Nat → Prop} {B f : Nat} {s : Fs} {w : World} (h : Rep Kp B f s w) (wf : Wf s) (hBw : B ≤ w.heap.size) (dir name : Nm) :
    Calls Try.prog 10 #[.pointer (some ⟨f, 0, none⟩), .string (txt dir), .string (txt name)] w fun e w' => ∃ x, s.file x = none ∧ Post Kp B f (createR s dir name x) w e w' := by
  obtain ⟨L, h⟩ := h
  obtain ⟨w0, hw0⟩ : ∃ w0, w.alloc (.cells #[.string (txt name)] 9) = w0 := ⟨_, rfl⟩
  have hsz : w0.heap.size = w.heap.size + 1 := by rw [← hw0]; simp
  have HSZ := Lib.hid hsz
  have HW00 : Below w.heap.size w w0 := by rw [← hw0]; exact (Below.refl _ w).alloc (Nat.le_refl _) _
  have HN0 := Lib.hid (show Cells w0 w.heap.size #[.string (txt name)] 9 by rw [← hw0]; exact Cells.new w _ _)
  have h0 : RepL Kp B f L s w0 := by rw [← hw0]; exact h.quiet ((Ch.refl _ w).alloc _)
  have HO1 : (w0.alloc (.cells #[.string (txt name)] 9)).ownsRow w0.heap.size 9 1 (.slice (some ⟨w.heap.size + 1, 0, none⟩) 1 1) 1 [encStr name] := by
    have := own_one w0 w0.heap.size (Nat.le_refl _) name
    rw [hsz] at this ⊢
    exact this
  have HL := Lib.hid (live_any h0 _ (Below.al (Below.refl _ w0) (Nat.le_refl _) (.cells #[.string (txt name)] 9)) dir [name] (.slice (some ⟨w.heap.size + 1, 0, none⟩) 1 1) HO1 (by simp))
  clear HO1
  have HQ := Lib.hid (fun w1 (hb : Below w0.heap.size w0 w1) => h0.quiet (Ch.of_below hb))
  have HBB := Lib.hid (fun w1 (hb : Below w0.heap.size w0 w1) => (Turn.of (HW00.trans (hb.mono (show w.heap.size ≤ w0.heap.size by omega))) hBw : Turn Kp B w w1))
  have HN := Lib.hid (fun w1 (hb : Below w0.heap.size w0 w1) => HN0.out.below hb (by omega))
  have HNX := Lib.hid (fun x (hx : w.heap.size ≤ x) => h.none_ hx)
  have hfw := h.fs.lt
  rcases live_cases L s dir [name] with ⟨hE, hP, hon, hall, hin⟩ | ⟨hE, hP⟩
  · rw [hE, hP, ptrOf_some] at HL
    have HIF := Lib.hid (show ¬ (liveE s dir [name] ≠ 0) from fun h => h hE)
    have hnm : right name = true := by
      rw [List.all_append, Bool.and_eq_true] at hall
      simpa using hall.1
    have hnl := right_len hnm
    have hnml : name.length ≤ maxLen := by unfold maxLen; omega
    have HD1 := Lib.hid (fun (w1 : World) (hb : Below w0.heap.size w0 w1) (o : Obj) => (((HQ.out _ (Below.al hb (Nat.le_refl _) o)).dir dir hin).cell 1 : (w1.alloc o).cell? ⟨L.blk dir, 1, none⟩ = some (.map (some (L.nw dir)))))
    have HN1 := Lib.hid (fun (w1 : World) (hb : Below w0.heap.size w0 w1) (o : Obj) => ((HN.out _ (Below.al hb (Nat.le_refl _) o)).cell 0 : (w1.alloc o).cell? ⟨w.heap.size, 0, none⟩ = some (.string (txt name))))
    have HLK := Lib.hid (fun (w1 : World) (hb : Below w0.heap.size w0 w1) (o : Obj) => ((HQ.out _ (Below.al hb (Nat.le_refl _) o).drew).now dir hin).look (t := 62) (e' := 0) Try.underlying62 zero_file name hnml)
    have HLN := Lib.hid (fun (w1 : World) (hb : Below w0.heap.size w0 w1) (o : Obj) (ty : TypeId) => ((HQ.out _ (Below.al hb (Nat.le_refl _) o).drew).now dir hin).len (t := 62) Try.underlying62 ty)
    have hflow := h.lowF
    have hdlow := h.lowDir hin
    have hpl := wf.pendlen hin
    have hnl2 := wf.nowlen hin
    have hf0 := h0.fs.lt
    obtain ⟨M, hM⟩ : ∃ M, mget (s.dir dir).now name = M := ⟨_, rfl⟩
    have HM := Lib.hid hM
    rw [hM] at HLK
    obtain ⟨N, hN⟩ : ∃ N, (s.dir dir).now.length = N := ⟨_, rfl⟩
    have HNN := Lib.hid hN
    rw [hN] at HLN
    have HS := Lib.hid (fun (w1 : World) (hb : Below w0.heap.size w0 w1) (w2 : World) (hw2 : w2 = ((((w1.alloc (.cells #[.pointer (some ⟨L.blk dir, 0, none⟩)] 55)).alloc (.cells #[.slice none 0 0, .int .i64 0] 67)).alloc (.cells #[.pointer (some ⟨w1.heap.size + 1, 0, none⟩)] 60)).drew)) => by
      have hb1 := Below.al hb (Nat.le_refl _) (.cells #[.pointer (some ⟨L.blk dir, 0, none⟩)] 55)
      have hs1 : (w1.alloc (.cells #[.pointer (some ⟨L.blk dir, 0, none⟩)] 55)).heap.size = w1.heap.size + 1 := by simp
      have hwb := hb.size
      have r1 := (HQ.out _ hb1).newFile (Nat.le_trans (show B ≤ w0.heap.size by omega) hb1.size)
      rw [hs1] at r1
      have q2 : Ch (fun _ => False) ((w1.alloc (.cells #[.pointer (some ⟨L.blk dir, 0, none⟩)] 55)).alloc (.cells #[.slice none 0 0, .int .i64 0] 67)) w2 := by rw [hw2]; exact ((Ch.refl _ _).alloc _).drew
      have r2 := r1.quiet q2
      have hb2 : Below w0.heap.size w0 w2 := by rw [hw2]; exact (Below.al (Below.al hb1 (Nat.le_refl _) _) (Nat.le_refl _) _).drew
      have k1 : Cells w2 w1.heap.size #[adr (L.blk dir)] 55 := ((Cells.new w1 _ _).alloc _).ch q2 fun h => h
      have k2 : Cells w2 (w1.heap.size + 2) #[adr (w1.heap.size + 1)] 60 := by
        have := Cells.new ((w1.alloc (.cells #[.pointer (some ⟨L.blk dir, 0, none⟩)] 55)).alloc (.cells #[.slice none 0 0, .int .i64 0] 67)) #[adr (w1.heap.size + 1)] 60
        have e : ((w1.alloc (.cells #[.pointer (some ⟨L.blk dir, 0, none⟩)] 55)).alloc (.cells #[.slice none 0 0, .int .i64 0] 67)).heap.size = w1.heap.size + 2 := by simp
        rw [e] at this
        rw [hw2]; exact this
      have k3 := HN.out _ hb2
      have hx : s.file (w1.heap.size + 1) = none := HNX.out _ (by omega)
      have hB2 : B ≤ w2.heap.size := by have := hb2.size; omega
      have hst := step_any r2 (s := { s with file := upd s.file (w1.heap.size + 1) (some ([], 0)) }) wf.steps wf.fuse 33 #[adr w1.heap.size, adr (w1.heap.size + 2), adr w.heap.size] (enters_of Try.func33 (by kernel_rfl) rfl)
        (R := fun w3 => (∃ L', RepL Kp B f L' { stepped s with dir := upd s.dir dir (didDir (s.dir dir) (.create name (w1.heap.size + 1))), file := upd s.file (w1.heap.size + 1) (some ([], 0)) } w3) ∧ Ch (fun i => i = f ∨ dirOf L dir i) w2 w3)
        (fun w3 hr hch => (create1_any hr dir name hin _ _ _ _ (k1.ch hch (by omega)) (k2.ch hch (by omega)) (k3.ch hch (by omega)) hnl (Nat.le_trans hB2 hch.size) hnl2 hpl ⟨h.fresh (by omega), h.fresh (by omega)⟩).mono fun e w4 ⟨he, L', a, b⟩ => ⟨he, ⟨L', a⟩, (hch.mono fun k _ e => .inl e).then_ b fun i _ e => .inr e⟩)
      exact (⟨hx, hst, trivial, hb2, hB2⟩ : _ ∧ _ ∧ True ∧ _ ∧ _))
    have HX := Lib.hid hflow
    have HDL := Lib.hid hdlow
    have HFW := Lib.hid hfw
    subst hw0
    clear h h0 hE hP hall hM hN hsz hflow hdlow hnm
    cases M with
    | some x0 =>
      simp only [ptrOf_some, Option.isSome] at HLK
      go_enter Try.func10, Try.ntmps10
      go_wp2_with (go_at_call 29; refine HL.out.mono ?_; rintro e w1 ⟨rfl, hb⟩; have HB := Lib.hid hb; have y1 : ∀ o, (w1.alloc o).cell? ⟨L.blk dir, 1, none⟩ = some (.map (some (L.nw dir))) := HD1.out w1 hb; have y2 : ∀ o, (w1.alloc o).cell? ⟨w.heap.size, 0, none⟩ = some (.string (txt name)) := HN1.out w1 hb; have y3 := HLK.out w1 hb; clear hb)
      go_region
      go_wp2
      go_ret
      have hb0 := Below.al HB.out (Nat.le_refl _) (.cells #[.pointer (some ⟨L.blk dir, 0, none⟩)] 55)
      have hq := HQ.out _ hb0.drew
      refine ⟨_, HNX.out _ (Nat.le_refl _), ?_⟩
      unfold Post createR
      rw [if_neg HIF.out, if_pos (by rw [HM.out]; rfl)]
      exact ⟨rfl, ⟨_, hq⟩, HBB.out _ hb0.drew⟩
    | none =>
      simp only [ptrOf_none, Option.isSome] at HLK
      by_cases hbig : 4096 ≤ N
      · have hg : decide ((4096 : Int) ≤ (N : Int)) = true := decide_eq_true (by omega)
        go_enter Try.func10, Try.ntmps10
        go_wp2_with (go_at_call 29; refine HL.out.mono ?_; rintro e w1 ⟨rfl, hb⟩; have HB := Lib.hid hb; have y1 : ∀ o, (w1.alloc o).cell? ⟨L.blk dir, 1, none⟩ = some (.map (some (L.nw dir))) := HD1.out w1 hb; have y2 : ∀ o, (w1.alloc o).cell? ⟨w.heap.size, 0, none⟩ = some (.string (txt name)) := HN1.out w1 hb; have y3 := HLK.out w1 hb; have y4 := HLN.out w1 hb; clear hb)
        go_region
        go_wp2
        go_ret
        have hb0 := Below.al HB.out (Nat.le_refl _) (.cells #[.pointer (some ⟨L.blk dir, 0, none⟩)] 55)
        have hq := HQ.out _ hb0.drew
        refine ⟨_, HNX.out _ (Nat.le_refl _), ?_⟩
        unfold Post createR
        rw [if_neg HIF.out, if_neg (by rw [HM.out]; simp), if_pos (by rw [HNN.out]; exact hbig)]
        exact ⟨rfl, ⟨_, hq⟩, HBB.out _ hb0.drew⟩
      · have hg : decide ((4096 : Int) ≤ (N : Int)) = false := decide_eq_false (by omega)
        go_enter Try.func10, Try.ntmps10
        go_wp2_with (go_at_call 29; refine HL.out.mono ?_; rintro e w1 ⟨rfl, hb⟩; have HB := Lib.hid hb; have y1 : ∀ o, (w1.alloc o).cell? ⟨L.blk dir, 1, none⟩ = some (.map (some (L.nw dir))) := HD1.out w1 hb; have y2 : ∀ o, (w1.alloc o).cell? ⟨w.heap.size, 0, none⟩ = some (.string (txt name)) := HN1.out w1 hb; have y3 := HLK.out w1 hb; have y4 := HLN.out w1 hb; clear hb)
        go_region
        go_wp2_with (go_at_call 30; go_loud (refine (HS.out w1 HB.out _ rfl).2.1.mono ?_); rintro e w2 ⟨E, rfl, hd⟩; have HD := Lib.hid hd; clear hd)
        go_ret
        obtain ⟨hx, _, hl, hb2, hB2⟩ := HS.out w1 HB.out _ rfl
        refine ⟨_, hx, ?_⟩
        unfold Post createR
        rw [if_neg HIF.out, if_neg (by rw [HM.out]; simp), if_neg (by rw [HNN.out]; exact hbig)]
        rcases HD.out with ⟨h0, rfl, hr, hch⟩ | ⟨h0, rfl, ⟨L', hr⟩, hch⟩
        · rw [if_pos h0]
          refine ⟨rfl, ⟨_, hr.less s.file (fun y p hp => ?_)⟩, (HBB.out _ hb2).trans (hch.toTurn (fun k _ e => e ▸ HX.out) hB2)⟩
          by_cases hy : y = w1.heap.size + 1
          · rw [hy, hx] at hp; cases hp
          · show upd s.file (w1.heap.size + 1) (some ([], 0)) y = some p
            rw [upd_other _ _ _ _ hy]; exact hp
        · rw [if_neg h0]
          exact ⟨rfl, ⟨_, hr⟩, (HBB.out _ hb2).trans (hch.toTurn (fun k _ e => e.elim (fun e => e ▸ HX.out) (HDL.out k)) hB2)⟩
  · have HIF := Lib.hid hE
    obtain ⟨E, hEE⟩ : ∃ E, liveE s dir [name] = E := ⟨_, rfl⟩
    have HEE := Lib.hid hEE
    rw [hEE] at hE HL
    rw [hP, ptrOf_none] at HL
    have hne : (E != 0) = true := by rw [bne_iff_ne]; exact hE
    subst hw0
    clear h h0 hP hEE hsz
    go_enter Try.func10, Try.ntmps10
    go_wp2_with (go_at_call 29; refine HL.out.mono ?_; rintro e w1 ⟨rfl, hb⟩; have HB := Lib.hid hb; clear hb)
    go_ret
    have hb0 := Below.al HB.out (Nat.le_refl _) (.cells #[.pointer none] 55)
    have hq := HQ.out _ hb0
    refine ⟨_, HNX.out _ (Nat.le_refl _), ?_⟩
    unfold Post createR
    rw [if_pos HIF.out, HEE.out]
    exact ⟨rfl, ⟨_, hq⟩, HBB.out _ hb0⟩
end Go.Proofs.Ytlmkhieojgpgcaa
