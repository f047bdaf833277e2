/- Several texts in one: FsMeth, FsM1, FsM2, FsM3. -/
import Derived.Test.YtkcnmajjfljilaaGreatDoorFsStepsA
import Derived.LaidEqlPtr
/- simfs: the calls: what they answer, what they leave. -/
namespace Go.Proofs.YtkcnmajjfljilaaGreatDoor
open Go.ChangeShapes Go.WideShapes Go.ChangeAt Go.RowKit Go.ChangeMaps Go.MapKept
set_option linter.unusedVariables false

/-- What every file system keeps. -/
structure Wf (s : Fs) : Prop where
  steps : 0 ≤ s.steps ∧ s.steps < 1000000000
  fuse : -1 ≤ s.fuse ∧ s.fuse ≤ 9223372036854775807
  used : -1152921504606846976 ≤ s.used ∧ s.used ≤ 1152921504606846976
  room : 0 ≤ s.room ∧ s.room ≤ 1073741824
  names : s.names.Pairwise (· < ·)
  many : s.names.length ≤ 64
  dirs : ∀ n ∈ s.names, (s.dir n).base.length + (s.dir n).pend.length ≤ 1000000 ∧ (s.dir n).now = replay (s.dir n).pend (s.dir n).base ∧ Rising (s.dir n).base
  files : ∀ x b sf, s.file x = some (b, sf) → b.length ≤ 16777216 ∧ sf ≤ b.length
  there : ∀ n ∈ s.names, ∀ k ≤ (s.dir n).pend.length, ∀ p ∈ replay ((s.dir n).pend.take k) (s.dir n).base, (∃ q, s.file p.2 = some q) ∧ p.1.length ≤ 32
  short : ∀ n ∈ s.names, n.length ≤ 32
theorem Wf.nowlen {s : Fs} (h : Wf s) {n : Nm} (hn : n ∈ s.names) : (s.dir n).now.length ≤ 1000000 := by
  have := (h.dirs n hn).1
  rw [(h.dirs n hn).2.1]
  have := replay_length (s.dir n).pend (s.dir n).base
  omega
theorem Wf.pendlen {s : Fs} (h : Wf s) {n : Nm} (hn : n ∈ s.names) : (s.dir n).pend.length ≤ 1000000 := by have := (h.dirs n hn).1; omega
theorem Wf.now {s : Fs} (h : Wf s) {n : Nm} (hn : n ∈ s.names) {p : Nm × Nat} (hp : p ∈ (s.dir n).now) : ∃ b sf, s.file p.2 = some (b, sf) := by
  rw [(h.dirs n hn).2.1] at hp
  obtain ⟨⟨⟨b, sf⟩, hq⟩, _⟩ := h.there n hn (s.dir n).pend.length (Nat.le_refl _) p (by rw [List.take_of_length_le (Nat.le_refl _)]; exact hp)
  exact ⟨b, sf, hq⟩
theorem RepL.boxed {Kp : Nat → Prop} {B f : Nat} {L : Lay} {s : Fs} {w w' : World} (h : RepL Kp B f L s w) {p : Nat} {c : Array Value} {t : TypeId} (hp : Cells w p c t) (ht : t ≠ 146 ∧ t ≠ 204 ∧ t ≠ 128 ∧ t ≠ 5 ∧ t ≠ 9 ∧ t ≠ 124 ∧ t ≠ 67) (k : Ch (· = p) w w') : RepL Kp B f L s w' :=
  h.turned k (h.off_cells (fun i _ e => ⟨_, _, e ▸ hp, ht.1, ht.2.1, ht.2.2.1, ht.2.2.2.1, ht.2.2.2.2.1, ht.2.2.2.2.2.1⟩) (fun i e => e ▸ hp.lt)) (h.fs.ch k fun e => h.fs.ne hp (Ne.symm ht.2.2.2.2.2.2) e)
theorem RepL.fresh {Kp : Nat → Prop} {B f : Nat} {L : Lay} {s : Fs} {w : World} (h : RepL Kp B f L s w) {k : Nat} (hk : w.heap.size ≤ k) : ¬ Kp k := fun hkk => by have := h.kold k hkk; omega
theorem RepL.none_ {Kp : Nat → Prop} {B f : Nat} {L : Lay} {s : Fs} {w : World} (h : RepL Kp B f L s w) {x : Nat} (hx : w.heap.size ≤ x) : s.file x = none := by
  cases hf : s.file x with
  | none => rfl
  | some p => have := (h.file x p.1 p.2 hf).cells.lt; omega
theorem RepL.lowDir {Kp : Nat → Prop} {B f : Nat} {L : Lay} {s : Fs} {w : World} (h : RepL Kp B f L s w) {n : Nm} (hn : n ∈ s.names) : ∀ k, dirOf L n k → B ≤ k ∧ ¬ Kp k := by
  rintro k (rfl | rfl | e)
  · exact ⟨(h.lowd n hn).1, (h.kd n hn).1⟩
  · exact ⟨(h.lowd n hn).2.2, (h.kd n hn).2.2.1⟩
  · obtain ⟨d, _, hd⟩ := (h.pend n hn).row e; exact ⟨hd, (h.kd n hn).2.2.2 k e⟩
theorem RepL.lowBase {Kp : Nat → Prop} {B f : Nat} {L : Lay} {s : Fs} {w : World} (h : RepL Kp B f L s w) {n : Nm} (hn : n ∈ s.names) : ∀ k, baseOf L n k → B ≤ k ∧ ¬ Kp k := by
  rintro k (rfl | rfl)
  · exact ⟨(h.lowd n hn).1, (h.kd n hn).1⟩
  · exact ⟨(h.lowd n hn).2.1, (h.kd n hn).2.1⟩

/-! ### SyncDir -/
def syncDirR (s : Fs) (dir : Nm) : Int × Fs :=
  if liveE s dir [] ≠ 0 then (liveE s dir [], s) else if s.fuse = 0 then (60, outed s)
  else (0, { stepped s with dir := upd s.dir dir (settledDir (s.dir dir) (s.dir dir).pend.length) })
def Post (Kp : Nat → Prop) (B f : Nat) (r : Int × Fs) (w : World) (e : Ending) (w' : World) : Prop := e = .returned (.int .i64 r.1) ∧ Rep Kp B f r.2 w' ∧ Turn Kp B w w'
set_option maxHeartbeats 4000000 in
theorem syncDir_any {Kp : Nat → Prop} {B f : Nat} {s : Fs} {w : World} (h : Rep Kp B f s w) (wf : Wf s) (hBw : B ≤ w.heap.size) (dir : Nm) :
    Calls Tryz.prog 68 #[.pointer (some ⟨f, 0, none⟩), .string (txt dir)] w (Post Kp B f (syncDirR s dir) w) := by
  obtain ⟨L, h⟩ := h
  have HL := Lib.hid (live_any h w (Below.refl _ w) dir [] (.slice none 0 0) (own_none w _) (by simp))
  have HQ := Lib.hid (fun w1 (hb : Below w.heap.size w w1) => h.quiet (Ch.of_below hb))
  have HBB := Lib.hid (fun w1 (hb : Below w.heap.size w w1) => (Turn.of hb hBw : Turn Kp B w w1))
  rcases live_cases L s dir [] with ⟨hE, hP, hon, hall, hin⟩ | ⟨hE, hP⟩
  · rw [hE, hP, ptrOf_some] at HL
    have HIF := Lib.hid (show ¬ (liveE s dir [] ≠ 0) from fun h => h hE)
    have HS := Lib.hid (fun (w1 : World) (hb : Below w.heap.size w w1) (b1 : Nat) (h1 : Cells w1 b1 #[adr (L.blk dir)] 123) (hb1 : b1 ≠ f) =>
      step_any (HQ.out w1 hb) wf.steps wf.fuse 101 #[adr b1] (enters_of Tryz.func101 (by kernel_rfl) rfl)
        (R := fun w2 => ∃ L', RepL Kp B f L' { stepped s with dir := upd s.dir dir (settledDir (s.dir dir) (s.dir dir).pend.length) } w2 ∧ Ch (fun i => i = f ∨ baseOf L dir i) w1 w2)
        (fun w2 hr hch => (syncDir1_any hr dir hin b1 (h1.ch hch hb1) (wf.dirs dir hin).1 (wf.dirs dir hin).2.1 (Nat.le_trans hBw (Nat.le_trans hb.size hch.size))).mono fun e w3 ⟨he, L', a, b⟩ => ⟨he, L', a, (hch.mono fun k _ e => .inl e).then_ b fun i _ e => .inr e⟩))
    have hlow := h.lowBase hin
    have hflow := h.lowF
    have HFF := Lib.hid hflow
    have hfl := h.fs.lt
    have HLO := Lib.hid hlow
    have HFL := Lib.hid hfl
    clear h hE hP hall hlow
    go_enter Tryz.func68, Tryz.ntmps68
    go_wp2_with (first
      | (go_at_call 83; refine HL.out.mono ?_; rintro e w1 ⟨rfl, hb⟩; have HB := Lib.hid hb; clear hb)
      | (go_at_call 70; refine (HS.out _ ((Below.trans HB.out ((Below.refl _ _).alloc HB.out.size _))) w1.heap.size (Cells.new _ _ _) (by have := HFL.out; have := HB.out.size; omega)).mono ?_; rintro e w2 ⟨E, rfl, hd⟩; have HD := Lib.hid hd; clear hd))
    go_ret
    have hb0 := HBB.out _ (HB.out.alloc HB.out.size (.cells #[.pointer (some ⟨L.blk dir, 0, none⟩)] 123))
    have hsz : B ≤ (w1.alloc (.cells #[.pointer (some ⟨L.blk dir, 0, none⟩)] 123)).heap.size := Nat.le_trans hBw hb0.size
    rcases HD.out with ⟨h0, rfl, hr, hch⟩ | ⟨h0, rfl, L', hr, hch⟩
    · unfold Post syncDirR
      rw [if_neg HIF.out, if_pos h0]
      exact ⟨rfl, ⟨_, hr⟩, hb0.trans (hch.toTurn (fun k _ e => e ▸ HFF.out) hsz)⟩
    · unfold Post syncDirR
      rw [if_neg HIF.out, if_neg h0]
      exact ⟨rfl, ⟨_, hr⟩, hb0.trans (hch.toTurn (fun k _ e => e.elim (fun e => e ▸ HFF.out) (HLO.out k)) hsz)⟩
  · have HIF := Lib.hid hE
    obtain ⟨E, hEE⟩ : ∃ E, liveE s dir [] = E := ⟨_, rfl⟩
    have HEE := Lib.hid hEE
    rw [hEE] at hE HL
    rw [hP, ptrOf_none] at HL
    have hne : (E != 0) = true := by rw [bne_iff_ne]; exact hE
    clear h hP hEE
    go_enter Tryz.func68, Tryz.ntmps68
    go_wp2_with (go_at_call 83; refine HL.out.mono ?_; rintro e w1 ⟨rfl, hb⟩; have HB := Lib.hid hb; clear hb)
    go_ret
    have hb0 := HB.out
    have hq := HQ.out _ (hb0.alloc hb0.size (.cells #[.pointer none] 123))
    unfold Post syncDirR
    rw [if_pos HIF.out, HEE.out]
    exact ⟨rfl, ⟨_, hq⟩, HBB.out _ (hb0.alloc hb0.size _)⟩
end Go.Proofs.YtkcnmajjfljilaaGreatDoor

/- simfs: Sync, Create. -/
namespace Go.Proofs.YtkcnmajjfljilaaGreatDoor
open Go.ChangeShapes Go.WideShapes Go.ChangeAt Go.RowKit Go.ChangeMaps Go.MapKept
set_option linter.unusedVariables false

def fileOf (s : Fs) (dir name : Nm) : Nat := (mget (s.dir dir).now name).getD 0
def bytesOf (s : Fs) (x : Nat) : List UInt8 := ((s.file x).getD ([], 0)).1
def safeOf (s : Fs) (x : Nat) : Nat := ((s.file x).getD ([], 0)).2
def syncR (s : Fs) (dir name : Nm) : Int × Fs :=
  if lfE s dir name [] ≠ 0 then (lfE s dir name [], s) else if s.fuse = 0 then (60, outed s)
  else (0, { stepped s with file := upd s.file (fileOf s dir name) (some (bytesOf s (fileOf s dir name), (bytesOf s (fileOf s dir name)).length)) })
theorem Below.al {B : Nat} {a w : World} (h : Below B a w) (hB : B ≤ a.heap.size) (o : Obj) : Below B a (w.alloc o) := h.alloc (Nat.le_trans hB h.size) o
set_option maxHeartbeats 1000000 in
theorem sync_any {Kp : Nat → Prop} {B f : Nat} {s : Fs} {w : World} (h : Rep Kp B f s w) (wf : Wf s) (hBw : B ≤ w.heap.size) (dir name : Nm) :
    Calls Tryz.prog 47 #[.pointer (some ⟨f, 0, none⟩), .string (txt dir), .string (txt name)] w (Post Kp B f (syncR s dir name) w) := by
  obtain ⟨L, h⟩ := h
  have HL := Lib.hid (liveFile_any h w (Below.refl _ w) dir name [] (.slice none 0 0) (own_none w _) (by simp))
  have HQ := Lib.hid (fun w1 (hb : Below w.heap.size w w1) => h.quiet (Ch.of_below hb))
  have HBB := Lib.hid (fun w1 (hb : Below w.heap.size w w1) => (Turn.of hb hBw : Turn Kp B w w1))
  rcases lf_cases L s dir name [] with ⟨hE, hD, ⟨x, hP, hx⟩, hon, hall, hin⟩ | hE
  · rw [hE, hP, hD, ptrOf_some, ptrOf_some] at HL
    have HIF := Lib.hid (show ¬ (lfE s dir name [] ≠ 0) from fun h => h hE)
    obtain ⟨b, sf, hfx⟩ := wf.now hin (mget_some hx)
    have hfo : fileOf s dir name = x := by unfold fileOf; rw [hx]; rfl
    have hbo : bytesOf s x = b := by unfold bytesOf; rw [hfx]; rfl
    have HS := Lib.hid (fun (w1 : World) (hb : Below w.heap.size w w1) (b1 : Nat) (h1 : Cells w1 b1 #[adr x] 124) (hb1 : b1 ≠ f) =>
      step_any (HQ.out w1 hb) wf.steps wf.fuse 73 #[adr b1] (enters_of Tryz.func73 (by kernel_rfl) rfl)
        (R := fun w2 => ∃ L', RepL Kp B f L' { stepped s with file := upd s.file x (some (b, b.length)) } w2 ∧ Ch (fun i => i = f ∨ i = x) w1 w2)
        (fun w2 hr hch => (sync1_any hr b1 x (h1.ch hch hb1) b sf hfx (Nat.le_trans hBw (Nat.le_trans hb.size hch.size))).mono fun e w3 ⟨he, L', a, b⟩ => ⟨he, L', a, (hch.mono fun k _ e => .inl e).then_ b fun i _ e => .inr e⟩))
    have HFF := Lib.hid h.lowF
    have HXX := Lib.hid (h.lowX hfx)
    have hfl := h.fs.lt
    have HFL := Lib.hid hfl
    have HFO := Lib.hid hfo
    have HBO := Lib.hid hbo
    clear h hE hP hD hall hfo hbo
    go_enter Tryz.func47, Tryz.ntmps47
    go_wp2_with (first
      | (go_at_call 69; refine HL.out.mono ?_; rintro e w1 ⟨rfl, hb⟩; have HB := Lib.hid hb; clear hb)
      | (go_at_call 70; refine (HS.out _ (Below.al HB.out (Nat.le_refl _) _) w1.heap.size (Cells.new _ _ _) (by have := HFL.out; have := HB.out.size; omega)).mono ?_; rintro e w2 ⟨E, rfl, hd⟩; have HD := Lib.hid hd; clear hd))
    go_ret
    have hb0 := HBB.out _ (Below.al HB.out (Nat.le_refl _) (.cells #[.pointer (some ⟨x, 0, none⟩)] 124))
    have hsz : B ≤ (w1.alloc (.cells #[.pointer (some ⟨x, 0, none⟩)] 124)).heap.size := Nat.le_trans hBw hb0.size
    unfold Post syncR
    rcases HD.out with ⟨h0, rfl, hr, hch⟩ | ⟨h0, rfl, L', hr, hch⟩
    · rw [if_neg HIF.out, if_pos h0]
      exact ⟨rfl, ⟨_, hr⟩, hb0.trans (hch.toTurn (fun k _ e => e ▸ HFF.out) hsz)⟩
    · rw [if_neg HIF.out, if_neg h0, HFO.out, HBO.out]
      exact ⟨rfl, ⟨_, hr⟩, hb0.trans (hch.toTurn (fun k _ e => e.elim (fun e => e ▸ HFF.out) (fun e => e ▸ HXX.out)) hsz)⟩
  · have HIF := Lib.hid hE
    obtain ⟨E, hEE⟩ : ∃ E, lfE s dir name [] = E := ⟨_, rfl⟩
    obtain ⟨D, hDD⟩ : ∃ D, ptrOf (lfD L s dir name []) = D := ⟨_, rfl⟩
    obtain ⟨X, hXX⟩ : ∃ X, lfP s dir name [] = X := ⟨_, rfl⟩
    have HEE := Lib.hid hEE
    rw [hEE] at hE
    rw [hEE, hDD, hXX] at HL
    have hne : (E != 0) = true := by rw [bne_iff_ne]; exact hE
    clear h hEE hDD hXX
    have HPX : ∃ px, ptrOf X = .pointer px := by cases X <;> exact ⟨_, rfl⟩
    obtain ⟨px, hpx⟩ := HPX
    rw [hpx] at HL
    clear hpx
    go_enter Tryz.func47, Tryz.ntmps47
    go_wp2_with (go_at_call 69; refine HL.out.mono ?_; rintro e w1 ⟨rfl, hb⟩; have HB := Lib.hid hb; clear hb)
    go_ret
    have hb0 := Below.al HB.out (Nat.le_refl _) (.cells #[.pointer px] 124)
    have hq := HQ.out _ hb0
    unfold Post syncR
    rw [if_pos HIF.out, HEE.out]
    exact ⟨rfl, ⟨_, hq⟩, HBB.out _ hb0⟩

/-! ### Create -/
def createR (s : Fs) (dir name : Nm) (x : Nat) : Int × Fs :=
  if liveE s dir [name] ≠ 0 then (liveE s dir [name], s)
  else if (mget (s.dir dir).now name).isSome then (63, s)
  else if 4096 ≤ (s.dir dir).now.length then (66, s)
  else if s.fuse = 0 then (60, outed s)
  else (0, { stepped s with dir := upd s.dir dir (didDir (s.dir dir) (.create name x)), file := upd s.file x (some ([], 0)) })
theorem fileAt_new (B : Nat) (w : World) : FileAt B (w.alloc (.cells #[.slice none 0 0, .int .i64 0] 128)) w.heap.size none 0 [] 0 :=
  ⟨Cells.new w _ _, World.ownsRow_nil _ _ _ 1⟩
/-- A file comes that no entry has. -/
theorem RepL.newFile {Kp : Nat → Prop} {B f : Nat} {L : Lay} {s : Fs} {w : World} (h : RepL Kp B f L s w) (hBw : B ≤ w.heap.size) : RepL Kp B f { L with fa := upd L.fa w.heap.size none, fc := upd L.fc w.heap.size 0 } { s with file := upd s.file w.heap.size (some ([], 0)) } (w.alloc (.cells #[.slice none 0 0, .int .i64 0] 128)) := by
  have hch : Ch (fun _ => False) w (w.alloc (.cells #[.slice none 0 0, .int .i64 0] 128)) := (Ch.refl _ w).alloc _
  have hn := h.none_ (Nat.le_refl w.heap.size)
  exact h.fileOnly (x := w.heap.size) (A := none) (c := 0) (b := []) (sf := 0) (fun b0 s0 hx => by rw [hn] at hx; cases hx) (fun _ => ⟨Nat.le_refl _, fun k hk => by simp [Value.ownBlock] at hk⟩) (hch.mono fun _ _ h => h.elim) hBw (fileAt_new B w) (h.fs.ch hch fun h => h)
theorem Cells.below {w w' : World} {B b : Nat} {c : Array Value} {t : TypeId} (h : Cells w b c t) (hb : Below B w w') (hlt : b < B) : Cells w' b c t := (hb.block b hlt).trans h
set_option maxHeartbeats 1000000 in
theorem create_any {Kp : Nat → Prop} {B f : Nat} {s : Fs} {w : World} (h : Rep Kp B f s w) (wf : Wf s) (hBw : B ≤ w.heap.size) (dir name : Nm) :
    Calls Tryz.prog 67 #[.pointer (some ⟨f, 0, none⟩), .string (txt dir), .string (txt name)] w fun e w' => ∃ x, s.file x = none ∧ Post Kp B f (createR s dir name x) w e w' := by
  obtain ⟨L, h⟩ := h
  obtain ⟨w0, hw0⟩ : ∃ w0, w.alloc (.cells #[.string (txt name)] 9) = w0 := ⟨_, rfl⟩
  have hsz : w0.heap.size = w.heap.size + 1 := by rw [← hw0]; simp
  have HSZ := Lib.hid hsz
  have HW00 : Below w.heap.size w w0 := by rw [← hw0]; exact (Below.refl _ w).alloc (Nat.le_refl _) _
  have HN0 := Lib.hid (show Cells w0 w.heap.size #[.string (txt name)] 9 by rw [← hw0]; exact Cells.new w _ _)
  have h0 : RepL Kp B f L s w0 := by rw [← hw0]; exact h.quiet ((Ch.refl _ w).alloc _)
  have HO1 : (w0.alloc (.cells #[.string (txt name)] 9)).ownsRow w0.heap.size 9 1 (.slice (some ⟨w.heap.size + 1, 0, none⟩) 1 1) 1 [encStr name] := by
    have := own_one w0 w0.heap.size (Nat.le_refl _) name
    rw [hsz] at this ⊢
    exact this
  have HL := Lib.hid (live_any h0 _ (Below.al (Below.refl _ w0) (Nat.le_refl _) (.cells #[.string (txt name)] 9)) dir [name] (.slice (some ⟨w.heap.size + 1, 0, none⟩) 1 1) HO1 (by simp))
  clear HO1
  have HQ := Lib.hid (fun w1 (hb : Below w0.heap.size w0 w1) => h0.quiet (Ch.of_below hb))
  have HBB := Lib.hid (fun w1 (hb : Below w0.heap.size w0 w1) => (Turn.of (HW00.trans (hb.mono (show w.heap.size ≤ w0.heap.size by omega))) hBw : Turn Kp B w w1))
  have HN := Lib.hid (fun w1 (hb : Below w0.heap.size w0 w1) => HN0.out.below hb (by omega))
  have HNX := Lib.hid (fun x (hx : w.heap.size ≤ x) => h.none_ hx)
  have hfw := h.fs.lt
  rcases live_cases L s dir [name] with ⟨hE, hP, hon, hall, hin⟩ | ⟨hE, hP⟩
  · rw [hE, hP, ptrOf_some] at HL
    have HIF := Lib.hid (show ¬ (liveE s dir [name] ≠ 0) from fun h => h hE)
    have hnm : right name = true := by
      rw [List.all_append, Bool.and_eq_true] at hall
      simpa using hall.1
    have hnl := right_len hnm
    have hnml : name.length ≤ maxLen := by unfold maxLen; omega
    have HD1 := Lib.hid (fun (w1 : World) (hb : Below w0.heap.size w0 w1) (o : Obj) => (((HQ.out _ (Below.al hb (Nat.le_refl _) o)).dir dir hin).cell 1 : (w1.alloc o).cell? ⟨L.blk dir, 1, none⟩ = some (.map (some (L.nw dir)))))
    have HN1 := Lib.hid (fun (w1 : World) (hb : Below w0.heap.size w0 w1) (o : Obj) => ((HN.out _ (Below.al hb (Nat.le_refl _) o)).cell 0 : (w1.alloc o).cell? ⟨w.heap.size, 0, none⟩ = some (.string (txt name))))
    have HLK := Lib.hid (fun (w1 : World) (hb : Below w0.heap.size w0 w1) (o : Obj) => ((HQ.out _ (Below.al hb (Nat.le_refl _) o).drew).now dir hin).look (t := 143) (e' := 0) Tryz.underlying143 zero_file name hnml)
    have HLN := Lib.hid (fun (w1 : World) (hb : Below w0.heap.size w0 w1) (o : Obj) (ty : TypeId) => ((HQ.out _ (Below.al hb (Nat.le_refl _) o).drew).now dir hin).len (t := 143) Tryz.underlying143 ty)
    have hflow := h.lowF
    have hdlow := h.lowDir hin
    have hpl := wf.pendlen hin
    have hnl2 := wf.nowlen hin
    have hf0 := h0.fs.lt
    obtain ⟨M, hM⟩ : ∃ M, mget (s.dir dir).now name = M := ⟨_, rfl⟩
    have HM := Lib.hid hM
    rw [hM] at HLK
    obtain ⟨N, hN⟩ : ∃ N, (s.dir dir).now.length = N := ⟨_, rfl⟩
    have HNN := Lib.hid hN
    rw [hN] at HLN
    have HS := Lib.hid (fun (w1 : World) (hb : Below w0.heap.size w0 w1) (w2 : World) (hw2 : w2 = ((((w1.alloc (.cells #[.pointer (some ⟨L.blk dir, 0, none⟩)] 123)).alloc (.cells #[.slice none 0 0, .int .i64 0] 128)).alloc (.cells #[.pointer (some ⟨w1.heap.size + 1, 0, none⟩)] 124)).drew)) => by
      have hb1 := Below.al hb (Nat.le_refl _) (.cells #[.pointer (some ⟨L.blk dir, 0, none⟩)] 123)
      have hs1 : (w1.alloc (.cells #[.pointer (some ⟨L.blk dir, 0, none⟩)] 123)).heap.size = w1.heap.size + 1 := by simp
      have hwb := hb.size
      have r1 := (HQ.out _ hb1).newFile (Nat.le_trans (show B ≤ w0.heap.size by omega) hb1.size)
      rw [hs1] at r1
      have q2 : Ch (fun _ => False) ((w1.alloc (.cells #[.pointer (some ⟨L.blk dir, 0, none⟩)] 123)).alloc (.cells #[.slice none 0 0, .int .i64 0] 128)) w2 := by rw [hw2]; exact ((Ch.refl _ _).alloc _).drew
      have r2 := r1.quiet q2
      have hb2 : Below w0.heap.size w0 w2 := by rw [hw2]; exact (Below.al (Below.al hb1 (Nat.le_refl _) _) (Nat.le_refl _) _).drew
      have k1 : Cells w2 w1.heap.size #[adr (L.blk dir)] 123 := ((Cells.new w1 _ _).alloc _).ch q2 fun h => h
      have k2 : Cells w2 (w1.heap.size + 2) #[adr (w1.heap.size + 1)] 124 := by
        have := Cells.new ((w1.alloc (.cells #[.pointer (some ⟨L.blk dir, 0, none⟩)] 123)).alloc (.cells #[.slice none 0 0, .int .i64 0] 128)) #[adr (w1.heap.size + 1)] 124
        have e : ((w1.alloc (.cells #[.pointer (some ⟨L.blk dir, 0, none⟩)] 123)).alloc (.cells #[.slice none 0 0, .int .i64 0] 128)).heap.size = w1.heap.size + 2 := by simp
        rw [e] at this
        rw [hw2]; exact this
      have k3 := HN.out _ hb2
      have hx : s.file (w1.heap.size + 1) = none := HNX.out _ (by omega)
      have hB2 : B ≤ w2.heap.size := by have := hb2.size; omega
      have hst := step_any r2 (s := { s with file := upd s.file (w1.heap.size + 1) (some ([], 0)) }) wf.steps wf.fuse 98 #[adr w1.heap.size, adr (w1.heap.size + 2), adr w.heap.size] (enters_of Tryz.func98 (by kernel_rfl) rfl)
        (R := fun w3 => (∃ L', RepL Kp B f L' { stepped s with dir := upd s.dir dir (didDir (s.dir dir) (.create name (w1.heap.size + 1))), file := upd s.file (w1.heap.size + 1) (some ([], 0)) } w3) ∧ Ch (fun i => i = f ∨ dirOf L dir i) w2 w3)
        (fun w3 hr hch => (create1_any hr dir name hin _ _ _ _ (k1.ch hch (by omega)) (k2.ch hch (by omega)) (k3.ch hch (by omega)) hnl (Nat.le_trans hB2 hch.size) hnl2 hpl ⟨h.fresh (by omega), h.fresh (by omega)⟩).mono fun e w4 ⟨he, L', a, b⟩ => ⟨he, ⟨L', a⟩, (hch.mono fun k _ e => .inl e).then_ b fun i _ e => .inr e⟩)
      exact (⟨hx, hst, trivial, hb2, hB2⟩ : _ ∧ _ ∧ True ∧ _ ∧ _))
    have HX := Lib.hid hflow
    have HDL := Lib.hid hdlow
    have HFW := Lib.hid hfw
    subst hw0
    clear h h0 hE hP hall hM hN hsz hflow hdlow hnm
    cases M with
    | some x0 =>
      simp only [ptrOf_some, Option.isSome] at HLK
      go_enter Tryz.func67, Tryz.ntmps67
      go_wp2_with (go_at_call 83; refine HL.out.mono ?_; rintro e w1 ⟨rfl, hb⟩; have HB := Lib.hid hb; have y1 : ∀ o, (w1.alloc o).cell? ⟨L.blk dir, 1, none⟩ = some (.map (some (L.nw dir))) := HD1.out w1 hb; have y2 : ∀ o, (w1.alloc o).cell? ⟨w.heap.size, 0, none⟩ = some (.string (txt name)) := HN1.out w1 hb; have y3 := HLK.out w1 hb; clear hb)
      go_region
      go_wp2
      go_ret
      have hb0 := Below.al HB.out (Nat.le_refl _) (.cells #[.pointer (some ⟨L.blk dir, 0, none⟩)] 123)
      have hq := HQ.out _ hb0.drew
      refine ⟨_, HNX.out _ (Nat.le_refl _), ?_⟩
      unfold Post createR
      rw [if_neg HIF.out, if_pos (by rw [HM.out]; rfl)]
      exact ⟨rfl, ⟨_, hq⟩, HBB.out _ hb0.drew⟩
    | none =>
      simp only [ptrOf_none, Option.isSome] at HLK
      by_cases hbig : 4096 ≤ N
      · have hg : decide ((4096 : Int) ≤ (N : Int)) = true := decide_eq_true (by omega)
        go_enter Tryz.func67, Tryz.ntmps67
        go_wp2_with (go_at_call 83; refine HL.out.mono ?_; rintro e w1 ⟨rfl, hb⟩; have HB := Lib.hid hb; have y1 : ∀ o, (w1.alloc o).cell? ⟨L.blk dir, 1, none⟩ = some (.map (some (L.nw dir))) := HD1.out w1 hb; have y2 : ∀ o, (w1.alloc o).cell? ⟨w.heap.size, 0, none⟩ = some (.string (txt name)) := HN1.out w1 hb; have y3 := HLK.out w1 hb; have y4 := HLN.out w1 hb; clear hb)
        go_region
        go_wp2
        go_ret
        have hb0 := Below.al HB.out (Nat.le_refl _) (.cells #[.pointer (some ⟨L.blk dir, 0, none⟩)] 123)
        have hq := HQ.out _ hb0.drew
        refine ⟨_, HNX.out _ (Nat.le_refl _), ?_⟩
        unfold Post createR
        rw [if_neg HIF.out, if_neg (by rw [HM.out]; simp), if_pos (by rw [HNN.out]; exact hbig)]
        exact ⟨rfl, ⟨_, hq⟩, HBB.out _ hb0.drew⟩
      · have hg : decide ((4096 : Int) ≤ (N : Int)) = false := decide_eq_false (by omega)
        go_enter Tryz.func67, Tryz.ntmps67
        go_wp2_with (go_at_call 83; refine HL.out.mono ?_; rintro e w1 ⟨rfl, hb⟩; have HB := Lib.hid hb; have y1 : ∀ o, (w1.alloc o).cell? ⟨L.blk dir, 1, none⟩ = some (.map (some (L.nw dir))) := HD1.out w1 hb; have y2 : ∀ o, (w1.alloc o).cell? ⟨w.heap.size, 0, none⟩ = some (.string (txt name)) := HN1.out w1 hb; have y3 := HLK.out w1 hb; have y4 := HLN.out w1 hb; clear hb)
        go_region
        go_wp2_with (go_at_call 70; go_loud (refine (HS.out w1 HB.out _ rfl).2.1.mono ?_); rintro e w2 ⟨E, rfl, hd⟩; have HD := Lib.hid hd; clear hd)
        go_ret
        obtain ⟨hx, _, hl, hb2, hB2⟩ := HS.out w1 HB.out _ rfl
        refine ⟨_, hx, ?_⟩
        unfold Post createR
        rw [if_neg HIF.out, if_neg (by rw [HM.out]; simp), if_neg (by rw [HNN.out]; exact hbig)]
        rcases HD.out with ⟨h0, rfl, hr, hch⟩ | ⟨h0, rfl, ⟨L', hr⟩, hch⟩
        · rw [if_pos h0]
          refine ⟨rfl, ⟨_, hr.less s.file (fun y p hp => ?_)⟩, (HBB.out _ hb2).trans (hch.toTurn (fun k _ e => e ▸ HX.out) hB2)⟩
          by_cases hy : y = w1.heap.size + 1
          · rw [hy, hx] at hp; cases hp
          · show upd s.file (w1.heap.size + 1) (some ([], 0)) y = some p
            rw [upd_other _ _ _ _ hy]; exact hp
        · rw [if_neg h0]
          exact ⟨rfl, ⟨_, hr⟩, (HBB.out _ hb2).trans (hch.toTurn (fun k _ e => e.elim (fun e => e ▸ HX.out) (HDL.out k)) hB2)⟩
  · have HIF := Lib.hid hE
    obtain ⟨E, hEE⟩ : ∃ E, liveE s dir [name] = E := ⟨_, rfl⟩
    have HEE := Lib.hid hEE
    rw [hEE] at hE HL
    rw [hP, ptrOf_none] at HL
    have hne : (E != 0) = true := by rw [bne_iff_ne]; exact hE
    subst hw0
    clear h h0 hP hEE hsz
    go_enter Tryz.func67, Tryz.ntmps67
    go_wp2_with (go_at_call 83; refine HL.out.mono ?_; rintro e w1 ⟨rfl, hb⟩; have HB := Lib.hid hb; clear hb)
    go_ret
    have hb0 := Below.al HB.out (Nat.le_refl _) (.cells #[.pointer none] 123)
    have hq := HQ.out _ hb0
    refine ⟨_, HNX.out _ (Nat.le_refl _), ?_⟩
    unfold Post createR
    rw [if_pos HIF.out, HEE.out]
    exact ⟨rfl, ⟨_, hq⟩, HBB.out _ hb0⟩
end Go.Proofs.YtkcnmajjfljilaaGreatDoor

/- simfs: Append. -/
namespace Go.Proofs.YtkcnmajjfljilaaGreatDoor
open Go.ChangeShapes Go.WideShapes Go.ChangeAt Go.RowKit Go.ChangeMaps Go.MapKept
set_option linter.unusedVariables false

theorem fs_noByte {w : World} {f M : Nat} {room used steps fuse : Int} {on : Bool} (h : FsAt w f M room used steps fuse on) (off : Nat) (c : Int) : w.cell? ⟨f, off, none⟩ ≠ some (.int .u8 c) := by
  rw [h.cell off]
  unfold fsCells
  rcases off with _ | _ | _ | _ | _ | _ | off <;> simp
theorem BytesAt.chF {w w' : World} {B f M : Nat} {A : Option Addr} {l : List UInt8} {room used steps fuse : Int} {on : Bool} (h : BytesAt w B A l) (hB : B ≤ w.heap.size) (hf : FsAt w f M room used steps fuse on) (k : Ch (· = f) w w') : BytesAt w' B A l := by
  intro j hj
  obtain ⟨b, off, rfl, hb, hc⟩ := h j hj
  refine ⟨b, off, rfl, hb, ?_⟩
  have hne : b ≠ f := by
    rintro rfl
    exact fs_noByte hf _ _ hc
  exact (World.cell?_of_block (w := w) (a := ⟨b, off + j, none⟩) (k.block b (by omega) hne)).trans hc
def appendR (s : Fs) (dir name : Nm) (news : List UInt8) : Int × Fs :=
  if lfE s dir name [] ≠ 0 then (lfE s dir name [], s)
  else if 16777216 < (bytesOf s (fileOf s dir name)).length + news.length then (67, s)
  else if s.room < s.used + news.length then (64, s)
  else if s.fuse = 0 then (60, outed s)
  else (0, { stepped s with used := s.used + news.length, file := upd s.file (fileOf s dir name) (some (bytesOf s (fileOf s dir name) ++ news, safeOf s (fileOf s dir name))) })
theorem RepL.lowRow {Kp : Nat → Prop} {B f : Nat} {L : Lay} {s : Fs} {w : World} (h : RepL Kp B f L s w) {x : Nat} {b : List UInt8} {sf : Nat} (hx : s.file x = some (b, sf)) : ∀ k, (k = f ∨ k = x ∨ rowOf L x b.length k) → B ≤ k ∧ ¬ Kp k := by
  rintro k (rfl | rfl | e)
  · exact h.lowF
  · exact h.lowX hx
  · obtain ⟨d, _, hd⟩ := (h.file x b sf hx).blk e; exact ⟨hd, (h.kx x b sf hx).2 k e⟩
set_option maxHeartbeats 1000000 in
theorem append_any {Kp : Nat → Prop} {B f : Nat} {s : Fs} {w : World} (h : Rep Kp B f s w) (wf : Wf s) (hBw : B ≤ w.heap.size) (dir name : Nm) (n c : Nat) (a : Addr) (news : List UInt8) (hn : n = news.length) (hsrc : BytesAt w w.heap.size (some a) news) (hnm : n ≤ 1099494850000) :
    Calls Tryz.prog 44 #[.pointer (some ⟨f, 0, none⟩), .string (txt dir), .string (txt name), .slice (some a) n c] w (Post Kp B f (appendR s dir name news) w) := by
  obtain ⟨L, h⟩ := h
  obtain ⟨w0, hw0⟩ : ∃ w0, (w.alloc (.cells #[.pointer (some ⟨f, 0, none⟩)] 32)).alloc (.cells #[.slice (some a) n c] 30) = w0 := ⟨_, rfl⟩
  have hsz : w0.heap.size = w.heap.size + 2 := by rw [← hw0]; simp
  have HW00 : Below w.heap.size w w0 := by rw [← hw0]; exact ((Below.refl _ w).alloc (Nat.le_refl _) _).alloc (by simp) _
  have HF0 := Lib.hid (show Cells w0 w.heap.size #[adr f] 32 by rw [← hw0]; exact (Cells.new w _ _).alloc _)
  have HG0 := Lib.hid (show Cells w0 (w.heap.size + 1) #[.slice (some a) n c] 30 by
    have := Cells.new (w.alloc (.cells #[.pointer (some ⟨f, 0, none⟩)] 32)) #[.slice (some a) n c] 30
    rw [← hw0]; simpa using this)
  have hsrc0 : BytesAt w0 w.heap.size (some a) news := hsrc.below HW00
  have h0 : RepL Kp B f L s w0 := h.quiet (Ch.of_below HW00)
  have HL := Lib.hid (liveFile_any h0 w0 (Below.refl _ w0) dir name [] (.slice none 0 0) (own_none w0 _) (by simp))
  have HQ := Lib.hid (fun w1 (hb : Below w0.heap.size w0 w1) => h0.quiet (Ch.of_below hb))
  have HBB := Lib.hid (fun w1 (hb : Below w0.heap.size w0 w1) => (Turn.of (HW00.trans (hb.mono (show w.heap.size ≤ w0.heap.size by omega))) hBw : Turn Kp B w w1))
  have HFB := Lib.hid (fun w1 (hb : Below w0.heap.size w0 w1) => HF0.out.below hb (by omega))
  have HGB := Lib.hid (fun w1 (hb : Below w0.heap.size w0 w1) => HG0.out.below hb (by omega))
  have HSB := Lib.hid (fun w1 (hb : Below w0.heap.size w0 w1) => hsrc0.below (hb.mono (show w.heap.size ≤ w0.heap.size by omega)))
  have hfw := h.fs.lt
  rcases lf_cases L s dir name [] with ⟨hE, hD, ⟨x, hP, hx⟩, hon, hall, hin⟩ | hE
  · rw [hE, hP, hD, ptrOf_some, ptrOf_some] at HL
    have HIF := Lib.hid (show ¬ (lfE s dir name [] ≠ 0) from fun h => h hE)
    obtain ⟨b, sf, hfx⟩ := wf.now hin (mget_some hx)
    have HFO := Lib.hid (show fileOf s dir name = x by unfold fileOf; rw [hx]; rfl)
    have HBO := Lib.hid (show bytesOf s x = b by unfold bytesOf; rw [hfx]; rfl)
    have HSO := Lib.hid (show safeOf s x = sf by unfold safeOf; rw [hfx]; rfl)
    have hbl := (wf.files x b sf hfx).1
    have hu := wf.used
    have hroom := wf.room
    have HS := Lib.hid (fun (w1 : World) (hb : Below w0.heap.size w0 w1) (W : World) (hW : Below w0.heap.size w0 W) (k1 : Cells W w1.heap.size #[adr x] 124) => by
      have hs1 := hb.size
      have r := HQ.out W hW
      have hBW : B ≤ W.heap.size := by have := hW.size; omega
      exact (step_any r wf.steps wf.fuse 71 #[adr w1.heap.size, adr (w.heap.size + 1), adr w.heap.size] (enters_of Tryz.func71 (by kernel_rfl) rfl)
        (R := fun w3 => (∃ L', RepL Kp B f L' { stepped s with used := s.used + n, file := upd s.file x (some (b ++ news, sf)) } w3) ∧ Ch (fun i => i = f ∨ i = x ∨ rowOf L x b.length i) W w3)
        (fun w3 hr hch => (append1_any hr w1.heap.size (w.heap.size + 1) w.heap.size x w.heap.size n c a news (k1.ch hch (by omega)) ((HGB.out W hW).ch hch (by omega)) ((HFB.out W hW).ch hch (by omega)) ((HSB.out W hW).chF (by have := hW.size; omega) r.fs hch) hn b sf hfx (Nat.le_trans hBW hch.size) (by omega) hu).mono
          fun e w4 ⟨he, L', a, b⟩ => ⟨he, ⟨L', a⟩, (hch.mono fun k _ e => .inl e).then_ b fun i _ e => e⟩)))
    have HLO := Lib.hid (h.lowRow hfx)
    have hxw := (h.file x b sf hfx).cells.lt
    have HN := Lib.hid hn
    have HX0 := Lib.hid (fun (w1 : World) (hb : Below w0.heap.size w0 w1) => ((HQ.out w1 hb).file x b sf hfx).cells)
    have HFS := Lib.hid (fun (w1 : World) (hb : Below w0.heap.size w0 w1) => (HQ.out w1 hb).fs)
    obtain ⟨m, hm⟩ : ∃ m, b.length = m := ⟨_, rfl⟩
    have HX2 : Hid (∀ (w1 : World) (hb : Below w0.heap.size w0 w1) (o : Obj), (w1.alloc o).cell? ⟨x, 0, none⟩ = some (.slice (L.fa x) m (L.fc x))) := Lib.hid (fun w1 hb o => by rw [← hm]; exact (HX0.out _ (Below.al hb (Nat.le_refl _) o)).cell 0)
    have HM := Lib.hid hm
    rw [hm] at hbl
    obtain ⟨hu0, hu1⟩ := hu
    obtain ⟨hr0, hr1⟩ := hroom
    have HSZ := Lib.hid hsz
    subst hw0
    clear h h0 hE hP hD hall hsrc hsrc0 HW00 hm hn hsz wf
    have hni : 0 ≤ (n : Int) := by omega
    have hmi : (m : Int) ≤ 16777216 := by omega
    have hmi0 : 0 ≤ (m : Int) := by omega
    by_cases g1 : 16777216 < m + n
    · have hg : decide ((16777216 : Int) - (m : Int) < (n : Int)) = true := decide_eq_true (by omega)
      go_enter Tryz.func44, Tryz.ntmps44
      go_wp2_with (go_at_call 69; go_loud (refine HL.out.mono ?_); rintro e w1 ⟨rfl, hb⟩; have HB := Lib.hid hb; have y1 : ∀ o, (w1.alloc o).cell? ⟨w.heap.size + 1, 0, none⟩ = some (.slice (some a) n c) := fun o => (HGB.out _ (Below.al hb (Nat.le_refl _) o)).cell 0; have y2 : ∀ o, (w1.alloc o).cell? ⟨x, 0, none⟩ = some (.slice (L.fa x) m (L.fc x)) := HX2.out w1 hb; clear hb)
      go_region
      go_wp2
      go_ret
      have hb0 := (Below.al HB.out (Nat.le_refl _) (.cells #[.pointer (some ⟨x, 0, none⟩)] 124)).drew
      have hq := HQ.out _ hb0
      unfold Post appendR
      rw [if_neg HIF.out, HFO.out, HBO.out, HM.out, ← HN.out, if_pos g1]
      exact ⟨rfl, ⟨_, hq⟩, HBB.out _ hb0⟩
    · have hg : decide ((16777216 : Int) - (m : Int) < (n : Int)) = false := decide_eq_false (by omega)
      by_cases g2 : s.room < s.used + n
      · have hh : decide (s.room - s.used < (n : Int)) = true := decide_eq_true (by omega)
        go_enter Tryz.func44, Tryz.ntmps44
        go_wp2_with (go_at_call 69; refine HL.out.mono ?_; rintro e w1 ⟨rfl, hb⟩; have HB := Lib.hid hb; have y1 : ∀ o, (w1.alloc o).cell? ⟨w.heap.size + 1, 0, none⟩ = some (.slice (some a) n c) := fun o => (HGB.out _ (Below.al hb (Nat.le_refl _) o)).cell 0; have y2 : ∀ o, (w1.alloc o).cell? ⟨x, 0, none⟩ = some (.slice (L.fa x) m (L.fc x)) := HX2.out w1 hb; have y3 : ∀ o, (w1.alloc o).cell? ⟨w.heap.size, 0, none⟩ = some (.pointer (some ⟨f, 0, none⟩)) := fun o => (HFB.out _ (Below.al hb (Nat.le_refl _) o)).cell 0; have y4 : ∀ o, (w1.alloc o).cell? ⟨f, 1, none⟩ = some (.int .i64 s.room) := fun o => (HFS.out _ (Below.al hb (Nat.le_refl _) o)).cell 1; have y5 : ∀ o, (w1.alloc o).cell? ⟨f, 2, none⟩ = some (.int .i64 s.used) := fun o => (HFS.out _ (Below.al hb (Nat.le_refl _) o)).cell 2; clear hb)
        go_region
        go_wp2
        go_region
        go_wp2
        go_ret
        have hb0 := (Below.al HB.out (Nat.le_refl _) (.cells #[.pointer (some ⟨x, 0, none⟩)] 124)).drew.drew
        have hq := HQ.out _ hb0
        unfold Post appendR
        rw [if_neg HIF.out, HFO.out, HBO.out, HM.out, ← HN.out, if_neg g1, if_pos g2]
        exact ⟨rfl, ⟨_, hq⟩, HBB.out _ hb0⟩
      · have hh : decide (s.room - s.used < (n : Int)) = false := decide_eq_false (by omega)
        go_enter Tryz.func44, Tryz.ntmps44
        go_wp2_with (go_at_call 69; refine HL.out.mono ?_; rintro e w1 ⟨rfl, hb⟩; have HB := Lib.hid hb; have y1 : ∀ o, (w1.alloc o).cell? ⟨w.heap.size + 1, 0, none⟩ = some (.slice (some a) n c) := fun o => (HGB.out _ (Below.al hb (Nat.le_refl _) o)).cell 0; have y2 : ∀ o, (w1.alloc o).cell? ⟨x, 0, none⟩ = some (.slice (L.fa x) m (L.fc x)) := HX2.out w1 hb; have y3 : ∀ o, (w1.alloc o).cell? ⟨w.heap.size, 0, none⟩ = some (.pointer (some ⟨f, 0, none⟩)) := fun o => (HFB.out _ (Below.al hb (Nat.le_refl _) o)).cell 0; have y4 : ∀ o, (w1.alloc o).cell? ⟨f, 1, none⟩ = some (.int .i64 s.room) := fun o => (HFS.out _ (Below.al hb (Nat.le_refl _) o)).cell 1; have y5 : ∀ o, (w1.alloc o).cell? ⟨f, 2, none⟩ = some (.int .i64 s.used) := fun o => (HFS.out _ (Below.al hb (Nat.le_refl _) o)).cell 2; clear hb)
        go_region
        go_wp2
        go_region
        have HW := Lib.hid (Below.al HB.out (Nat.le_refl _) (.cells #[.pointer (some ⟨x, 0, none⟩)] 124)).drew.drew
        go_wp2_with (go_at_call 70; go_loud (refine (HS.out w1 HB.out _ HW.out (Cells.new w1 _ _)).mono ?_); rintro e w2 ⟨E, rfl, hd⟩; have HD := Lib.hid hd; clear hd)
        go_ret
        have hb0 := HW.out
        have hB2 : B ≤ (w1.alloc (.cells #[.pointer (some ⟨x, 0, none⟩)] 124)).drew.drew.heap.size := by
          have := (HBB.out _ hb0).size; omega
        unfold Post appendR
        rw [if_neg HIF.out, HFO.out, HBO.out, HM.out, HSO.out, ← HN.out, if_neg g1, if_neg (show ¬ s.room < s.used + (n : Int) by omega)]
        rcases HD.out with ⟨h0, rfl, hr, hch⟩ | ⟨h0, rfl, ⟨L', hr⟩, hch⟩
        · rw [if_pos h0]
          exact ⟨rfl, ⟨_, hr⟩, (HBB.out _ hb0).trans (hch.toTurn (fun k _ e => HLO.out k (.inl e)) hB2)⟩
        · rw [if_neg h0]
          exact ⟨rfl, ⟨_, hr⟩, (HBB.out _ hb0).trans (hch.toTurn (fun k _ e => HLO.out k e) hB2)⟩
  · have HIF := Lib.hid hE
    obtain ⟨E, hEE⟩ : ∃ E, lfE s dir name [] = E := ⟨_, rfl⟩
    obtain ⟨D, hDD⟩ : ∃ D, ptrOf (lfD L s dir name []) = D := ⟨_, rfl⟩
    obtain ⟨X, hXX⟩ : ∃ X, lfP s dir name [] = X := ⟨_, rfl⟩
    have HEE := Lib.hid hEE
    rw [hEE] at hE
    rw [hEE, hDD, hXX] at HL
    have hne : (E != 0) = true := by rw [bne_iff_ne]; exact hE
    obtain ⟨px, hpx⟩ : ∃ px, ptrOf X = .pointer px := by cases X <;> exact ⟨_, rfl⟩
    rw [hpx] at HL
    subst hw0
    clear h h0 hEE hDD hXX hpx hsrc hsrc0 HW00 hsz hn
    go_enter Tryz.func44, Tryz.ntmps44
    go_wp2_with (go_at_call 69; refine HL.out.mono ?_; rintro e w1 ⟨rfl, hb⟩; have HB := Lib.hid hb; clear hb)
    go_ret
    have hb0 := Below.al HB.out (Nat.le_refl _) (.cells #[.pointer px] 124)
    have hq := HQ.out _ hb0
    unfold Post appendR
    rw [if_pos HIF.out, HEE.out]
    exact ⟨rfl, ⟨_, hq⟩, HBB.out _ hb0⟩
end Go.Proofs.YtkcnmajjfljilaaGreatDoor

/- simfs: Remove, Rename. -/
namespace Go.Proofs.YtkcnmajjfljilaaGreatDoor
open Go.ChangeShapes Go.WideShapes Go.ChangeAt Go.RowKit Go.ChangeMaps Go.MapKept
set_option linter.unusedVariables false

theorem Cells.new1 (w : World) (o : Obj) (c : Array Value) (t : TypeId) : Cells ((w.alloc o).alloc (.cells c t)) (w.heap.size + 1) c t := by
  have := Cells.new (w.alloc o) c t
  rwa [show (w.alloc o).heap.size = w.heap.size + 1 by simp] at this
theorem Cells.new2 (w : World) (o o2 : Obj) (c : Array Value) (t : TypeId) : Cells (((w.alloc o).alloc o2).alloc (.cells c t)) (w.heap.size + 2) c t := by
  have := Cells.new1 (w.alloc o) o2 c t
  rwa [show (w.alloc o).heap.size = w.heap.size + 1 by simp] at this
def removeR (s : Fs) (dir name : Nm) : Int × Fs :=
  if lfE s dir name [] ≠ 0 then (lfE s dir name [], s)
  else if s.fuse = 0 then (60, outed s)
  else (0, { stepped s with used := s.used - (bytesOf s (fileOf s dir name)).length, dir := upd s.dir dir (didDir (s.dir dir) (.remove name)) })
set_option maxHeartbeats 1000000 in
theorem remove_any {Kp : Nat → Prop} {B f : Nat} {s : Fs} {w : World} (h : Rep Kp B f s w) (wf : Wf s) (hBw : B ≤ w.heap.size) (dir name : Nm) :
    Calls Tryz.prog 88 #[.pointer (some ⟨f, 0, none⟩), .string (txt dir), .string (txt name)] w (Post Kp B f (removeR s dir name) w) := by
  obtain ⟨L, h⟩ := h
  obtain ⟨w0, hw0⟩ : ∃ w0, (w.alloc (.cells #[.pointer (some ⟨f, 0, none⟩)] 32)).alloc (.cells #[.string (txt name)] 9) = w0 := ⟨_, rfl⟩
  have hsz : w0.heap.size = w.heap.size + 2 := by rw [← hw0]; simp
  have HW00 : Below w.heap.size w w0 := by rw [← hw0]; exact ((Below.refl _ w).alloc (Nat.le_refl _) _).alloc (by simp) _
  have HF0 := Lib.hid (show Cells w0 w.heap.size #[adr f] 32 by rw [← hw0]; exact (Cells.new w _ _).alloc _)
  have HG0 := Lib.hid (show Cells w0 (w.heap.size + 1) #[.string (txt name)] 9 by
    have := Cells.new (w.alloc (.cells #[.pointer (some ⟨f, 0, none⟩)] 32)) #[.string (txt name)] 9
    rw [← hw0]; simpa using this)
  have h0 : RepL Kp B f L s w0 := h.quiet (Ch.of_below HW00)
  have HL := Lib.hid (liveFile_any h0 w0 (Below.refl _ w0) dir name [] (.slice none 0 0) (own_none w0 _) (by simp))
  have HQ := Lib.hid (fun w1 (hb : Below w0.heap.size w0 w1) => h0.quiet (Ch.of_below hb))
  have HBB := Lib.hid (fun w1 (hb : Below w0.heap.size w0 w1) => (Turn.of (HW00.trans (hb.mono (show w.heap.size ≤ w0.heap.size by omega))) hBw : Turn Kp B w w1))
  have HFB := Lib.hid (fun w1 (hb : Below w0.heap.size w0 w1) => HF0.out.below hb (by omega))
  have HGB := Lib.hid (fun w1 (hb : Below w0.heap.size w0 w1) => HG0.out.below hb (by omega))
  have hfw := h.fs.lt
  rcases lf_cases L s dir name [] with ⟨hE, hD, ⟨x, hP, hx⟩, hon, hall, hin⟩ | hE
  · rw [hE, hP, hD, ptrOf_some, ptrOf_some] at HL
    have HIF := Lib.hid (show ¬ (lfE s dir name [] ≠ 0) from fun h => h hE)
    have hnm : right name = true := by
      rw [List.all_append, Bool.and_eq_true] at hall
      simpa using hall.1
    have hnl := right_len hnm
    obtain ⟨b, sf, hfx⟩ := wf.now hin (mget_some hx)
    have HFO := Lib.hid (show fileOf s dir name = x by unfold fileOf; rw [hx]; rfl)
    have HBO := Lib.hid (show bytesOf s x = b by unfold bytesOf; rw [hfx]; rfl)
    have hbl := (wf.files x b sf hfx).1
    have hu := wf.used
    have HS := Lib.hid (fun (w1 : World) (hb : Below w0.heap.size w0 w1) (W : World) (hW : Below w0.heap.size w0 W) (k1 : Cells W w1.heap.size #[adr (L.blk dir)] 123) (k2 : Cells W (w1.heap.size + 1) #[adr x] 124) => by
      have hs1 := hb.size
      have r := HQ.out W hW
      have hBW : B ≤ W.heap.size := by have := hW.size; omega
      exact (step_any r wf.steps wf.fuse 133 #[adr w.heap.size, adr (w1.heap.size + 1), adr w1.heap.size, adr (w.heap.size + 1)] (enters_of Tryz.func133 (by kernel_rfl) rfl)
        (R := fun w3 => (∃ L', RepL Kp B f L' { stepped s with used := s.used - b.length, dir := upd s.dir dir (didDir (s.dir dir) (.remove name)) } w3) ∧ Ch (fun i => i = f ∨ dirOf L dir i) W w3)
        (fun w3 hr hch => (remove1_any hr dir name hin w.heap.size (w1.heap.size + 1) w1.heap.size (w.heap.size + 1) x ((HFB.out W hW).ch hch (by omega)) (k2.ch hch (by omega)) (k1.ch hch (by omega)) ((HGB.out W hW).ch hch (by omega)) b sf hfx hnl (Nat.le_trans hBW hch.size) (wf.nowlen hin) (wf.pendlen hin) hu (by omega) (h.fresh (by omega))).mono
          fun e w4 ⟨he, L', a, b⟩ => ⟨he, ⟨L', a⟩, (hch.mono fun k _ e => .inl e).then_ b fun i _ e => e⟩)))
    have HLO := Lib.hid (show ∀ k, (k = f ∨ dirOf L dir k) → B ≤ k ∧ ¬ Kp k from fun k e => e.elim (fun e => e ▸ h.lowF) (h.lowDir hin k))
    have HSZ := Lib.hid hsz
    subst hw0
    clear h h0 hE hP hD hall HW00 hsz wf hu hnm
    go_enter Tryz.func88, Tryz.ntmps88
    go_wp2_with (first
      | (go_at_call 69; refine HL.out.mono ?_; rintro e w1 ⟨rfl, hb⟩; have HB := Lib.hid hb; have HW := Lib.hid (Below.al (Below.al hb (Nat.le_refl _) (.cells #[.pointer (some ⟨L.blk dir, 0, none⟩)] 123)) (Nat.le_refl _) (.cells #[.pointer (some ⟨x, 0, none⟩)] 124)); have y3 : ∀ o o2, ((w1.alloc o).alloc o2).cell? ⟨w.heap.size, 0, none⟩ = some (.pointer (some ⟨f, 0, none⟩)) := fun o o2 => (HFB.out _ (Below.al (Below.al hb (Nat.le_refl _) o) (Nat.le_refl _) o2)).cell 0; clear hb)
      | (go_at_call 70; go_loud (refine (HS.out w1 HB.out _ HW.out ((Cells.new w1 _ _).alloc _) ?k2).mono ?_); rotate_left; rintro e w2 ⟨E, rfl, hd⟩; have HD := Lib.hid hd; clear hd))
    · go_ret
      have hb0 := HW.out
      have hB2 : B ≤ ((w1.alloc (.cells #[.pointer (some ⟨L.blk dir, 0, none⟩)] 123)).alloc (.cells #[.pointer (some ⟨x, 0, none⟩)] 124)).heap.size := by
        have := (HBB.out _ hb0).size; omega
      unfold Post removeR
      rw [if_neg HIF.out, HFO.out, HBO.out]
      rcases HD.out with ⟨h0, rfl, hr, hch⟩ | ⟨h0, rfl, ⟨L', hr⟩, hch⟩
      · rw [if_pos h0]
        exact ⟨rfl, ⟨_, hr⟩, (HBB.out _ hb0).trans (hch.toTurn (fun k _ e => HLO.out k (.inl e)) hB2)⟩
      · rw [if_neg h0]
        exact ⟨rfl, ⟨_, hr⟩, (HBB.out _ hb0).trans (hch.toTurn (fun k _ e => HLO.out k e) hB2)⟩
    · exact Cells.new1 w1 _ _ _
  · have HIF := Lib.hid hE
    obtain ⟨E, hEE⟩ : ∃ E, lfE s dir name [] = E := ⟨_, rfl⟩
    obtain ⟨D, hDD⟩ : ∃ D, lfD L s dir name [] = D := ⟨_, rfl⟩
    obtain ⟨X, hXX⟩ : ∃ X, lfP s dir name [] = X := ⟨_, rfl⟩
    have HEE := Lib.hid hEE
    rw [hEE] at hE
    rw [hEE, hDD, hXX] at HL
    have hne : (E != 0) = true := by rw [bne_iff_ne]; exact hE
    obtain ⟨px, hpx⟩ : ∃ px, ptrOf X = .pointer px := by cases X <;> exact ⟨_, rfl⟩
    obtain ⟨pd, hpd⟩ : ∃ px, ptrOf D = .pointer px := by cases D <;> exact ⟨_, rfl⟩
    rw [hpx, hpd] at HL
    subst hw0
    clear h h0 hEE hDD hXX hpx hpd HW00 hsz
    go_enter Tryz.func88, Tryz.ntmps88
    go_wp2_with (go_at_call 69; refine HL.out.mono ?_; rintro e w1 ⟨rfl, hb⟩; have HB := Lib.hid hb; clear hb)
    go_ret
    have hb0 := Below.al (Below.al HB.out (Nat.le_refl _) (.cells #[.pointer pd] 123)) (Nat.le_refl _) (.cells #[.pointer px] 124)
    have hq := HQ.out _ hb0
    unfold Post removeR
    rw [if_pos HIF.out, HEE.out]
    exact ⟨rfl, ⟨_, hq⟩, HBB.out _ hb0⟩

/-! ### Rename -/
theorem infoFile : (Tryz.prog.info? 128).map (fun i => i.size) = some 2 := by kernel_rfl
theorem neq_files (w : World) {x y : Nat} {c d : Array Value} {s t : TypeId} (hx : Cells w x c s) (hy : Cells w y d t) (hne : y ≠ x) : (binOp .neq 124 (.pointer (some ⟨y, 0, none⟩)) (.pointer (some ⟨x, 0, none⟩))).run Tryz.prog w = .ok (.bool true) w := by
  cases hi : Tryz.prog.info? 128 with
  | none => have := infoFile; rw [hi] at this; cases this
  | some j =>
    have hj : j.size = 2 := by have := infoFile; rw [hi] at this; simpa using this
    have h : ∀ d : Nat, (Op.equalIn (d + 1) 124 (.pointer (some ⟨y, 0, none⟩)) (.pointer (some ⟨x, 0, none⟩))).run Tryz.prog w = .ok false w := fun d => by
      simp [Op.equalIn, run_underlying Tryz.underlying124, sizeOf, typeInfo, hi, hj, run_sameAddr_other w (a := ⟨y, 0, none⟩) (b := ⟨x, 0, none⟩) (by intro e; injection e with e; exact hne e) hy hx]
    simp only [binOp]
    simp [Op.equal, Op.maxDepth, h 9999]
theorem same_files (w : World) (x : Nat) : (binOp .neq 124 (.pointer (some ⟨x, 0, none⟩)) (.pointer (some ⟨x, 0, none⟩))).run Tryz.prog w = .ok (.bool false) w := by
  cases hi : Tryz.prog.info? 128 with
  | none => have := infoFile; rw [hi] at this; cases this
  | some j =>
    have h : ∀ d : Nat, (Op.equalIn (d + 1) 124 (.pointer (some ⟨x, 0, none⟩)) (.pointer (some ⟨x, 0, none⟩))).run Tryz.prog w = .ok true w := fun d => by
      simp [Op.equalIn, run_underlying Tryz.underlying124, sizeOf, typeInfo, hi, run_sameAddr_same]
    simp only [binOp]
    simp [Op.equal, Op.maxDepth, h 9999]

def goneOf (s : Fs) (dir from_ to : Nm) : Int :=
  match mget (s.dir dir).now to with
  | some y => if y = fileOf s dir from_ then 0 else ((bytesOf s y).length : Int)
  | none => 0
def renameR (s : Fs) (dir from_ to : Nm) : Int × Fs :=
  if lfE s dir from_ [to] ≠ 0 then (lfE s dir from_ [to], s)
  else if s.fuse = 0 then (60, outed s)
  else (0, { stepped s with used := s.used - goneOf s dir from_ to, dir := upd s.dir dir (didDir (s.dir dir) (.rename from_ to (fileOf s dir from_))) })
set_option maxHeartbeats 1000000 in
theorem rename_any {Kp : Nat → Prop} {B f : Nat} {s : Fs} {w : World} (h : Rep Kp B f s w) (wf : Wf s) (hBw : B ≤ w.heap.size) (dir from_ to : Nm) :
    Calls Tryz.prog 142 #[.pointer (some ⟨f, 0, none⟩), .string (txt dir), .string (txt from_), .string (txt to)] w (Post Kp B f (renameR s dir from_ to) w) := by
  obtain ⟨L, h⟩ := h
  obtain ⟨w0, hw0⟩ : ∃ w0, ((w.alloc (.cells #[.pointer (some ⟨f, 0, none⟩)] 32)).alloc (.cells #[.string (txt from_)] 9)).alloc (.cells #[.string (txt to)] 9) = w0 := ⟨_, rfl⟩
  have hsz : w0.heap.size = w.heap.size + 3 := by rw [← hw0]; simp
  have HW00 : Below w.heap.size w w0 := by rw [← hw0]; exact Below.al (Below.al (Below.al (Below.refl _ w) (Nat.le_refl _) _) (Nat.le_refl _) _) (Nat.le_refl _) _
  have HF0 := Lib.hid (show Cells w0 w.heap.size #[adr f] 32 by rw [← hw0]; exact ((Cells.new w _ _).alloc _).alloc _)
  have HG0 := Lib.hid (show Cells w0 (w.heap.size + 1) #[.string (txt from_)] 9 by rw [← hw0]; exact (Cells.new1 w _ _ _).alloc _)
  have HT0 := Lib.hid (show Cells w0 (w.heap.size + 2) #[.string (txt to)] 9 by rw [← hw0]; exact Cells.new2 w _ _ _ _)
  have h0 : RepL Kp B f L s w0 := h.quiet (Ch.of_below HW00)
  have HO1 : (w0.alloc (.cells #[.string (txt to)] 9)).ownsRow w0.heap.size 9 1 (.slice (some ⟨w.heap.size + 3, 0, none⟩) 1 1) 1 [encStr to] := by
    have := own_one w0 w0.heap.size (Nat.le_refl _) to
    rw [hsz] at this ⊢
    exact this
  have HL := Lib.hid (liveFile_any h0 _ (Below.al (Below.refl _ w0) (Nat.le_refl _) (.cells #[.string (txt to)] 9)) dir from_ [to] (.slice (some ⟨w.heap.size + 3, 0, none⟩) 1 1) HO1 (by simp))
  clear HO1
  have HQ := Lib.hid (fun w1 (hb : Below w0.heap.size w0 w1) => h0.quiet (Ch.of_below hb))
  have HBB := Lib.hid (fun w1 (hb : Below w0.heap.size w0 w1) => (Turn.of (HW00.trans (hb.mono (show w.heap.size ≤ w0.heap.size by omega))) hBw : Turn Kp B w w1))
  have HFB := Lib.hid (fun w1 (hb : Below w0.heap.size w0 w1) => HF0.out.below hb (by omega))
  have HGB := Lib.hid (fun w1 (hb : Below w0.heap.size w0 w1) => HG0.out.below hb (by omega))
  have HTB := Lib.hid (fun w1 (hb : Below w0.heap.size w0 w1) => HT0.out.below hb (by omega))
  have hfw := h.fs.lt
  rcases lf_cases L s dir from_ [to] with ⟨hE, hD, ⟨x, hP, hx⟩, hon, hall, hin⟩ | hE
  · rw [hE, hP, hD, ptrOf_some, ptrOf_some] at HL
    have HIF := Lib.hid (show ¬ (lfE s dir from_ [to] ≠ 0) from fun h => h hE)
    rw [List.all_append, Bool.and_eq_true, List.all_append, Bool.and_eq_true] at hall
    have hnl := right_len (show right from_ = true by simpa using hall.1.2)
    have htl := right_len (show right to = true by simpa using hall.1.1)
    have HFO := Lib.hid (show fileOf s dir from_ = x by unfold fileOf; rw [hx]; rfl)
    have hu := wf.used
    have HS := Lib.hid (fun (w1 : World) (hb : Below w0.heap.size w0 w1) (g : Int) (W : World) (hW : Below w0.heap.size w0 W) (k1 : Cells W w1.heap.size #[adr (L.blk dir)] 123) (k2 : Cells W (w1.heap.size + 1) #[adr x] 124) (k3 : Cells W (w1.heap.size + 2) #[.int .i64 g] 3) (hg : 0 ≤ g ∧ g ≤ 1099511627776) => by
      have hs1 := hb.size
      have r := HQ.out W hW
      have hBW : B ≤ W.heap.size := by have := hW.size; omega
      exact (step_any r wf.steps wf.fuse 176 #[adr w.heap.size, adr (w1.heap.size + 2), adr w1.heap.size, adr (w.heap.size + 1), adr (w1.heap.size + 1), adr (w.heap.size + 2)] (enters_of Tryz.func176 (by kernel_rfl) rfl)
        (R := fun w3 => (∃ L', RepL Kp B f L' { stepped s with used := s.used - g, dir := upd s.dir dir (didDir (s.dir dir) (.rename from_ to x)) } w3) ∧ Ch (fun i => i = f ∨ dirOf L dir i) W w3)
        (fun w3 hr hch => (rename1_any hr dir from_ to hin w.heap.size (w1.heap.size + 2) w1.heap.size (w.heap.size + 1) (w1.heap.size + 1) (w.heap.size + 2) x g ((HFB.out W hW).ch hch (by omega)) (k3.ch hch (by omega)) (k1.ch hch (by omega)) ((HGB.out W hW).ch hch (by omega)) (k2.ch hch (by omega)) ((HTB.out W hW).ch hch (by omega)) hnl htl (Nat.le_trans hBW hch.size) (wf.nowlen hin) (wf.pendlen hin) hu hg ⟨h.fresh (by omega), h.fresh (by omega), h.fresh (by omega)⟩).mono
          fun e w4 ⟨he, L', a, b⟩ => ⟨he, ⟨L', a⟩, (hch.mono fun k _ e => .inl e).then_ b fun i _ e => e⟩)))
    have HLO := Lib.hid (show ∀ k, (k = f ∨ dirOf L dir k) → B ≤ k ∧ ¬ Kp k from fun k e => e.elim (fun e => e ▸ h.lowF) (h.lowDir hin k))
    have HLK := Lib.hid (fun (w1 : World) (hb : Below w0.heap.size w0 w1) => ((HQ.out _ hb).now dir hin).look (t := 143) (e' := 0) Tryz.underlying143 zero_file to (by unfold maxLen; omega))
    have HSZ := Lib.hid hsz
    obtain ⟨M, hM⟩ : ∃ M, mget (s.dir dir).now to = M := ⟨_, rfl⟩
    rw [hM] at HLK
    cases M with
    | none =>
      have HGO := Lib.hid (show goneOf s dir from_ to = 0 by unfold goneOf; rw [hM])
      simp only [ptrOf_none, Option.isSome] at HLK
      subst hw0
      clear h h0 hE hP hD hall HW00 hsz wf hu hM
      go_enter Tryz.func142, Tryz.ntmps142
      go_wp2_with (go_at_call 69; refine HL.out.mono ?_; rintro e w1 ⟨rfl, hb⟩; have HB := Lib.hid hb; have HW := Lib.hid (fun (g : Int) => (Below.al (Below.al (Below.al hb (Nat.le_refl _) (.cells #[.pointer (some ⟨L.blk dir, 0, none⟩)] 123)) (Nat.le_refl _) (.cells #[.pointer (some ⟨x, 0, none⟩)] 124)) (Nat.le_refl _) (.cells #[.int .i64 g] 3)).drew); have y3 : ∀ o o2 o3, (((w1.alloc o).alloc o2).alloc o3).cell? ⟨w.heap.size, 0, none⟩ = some (.pointer (some ⟨f, 0, none⟩)) := fun o o2 o3 => (HFB.out _ (Below.al (Below.al (Below.al hb (Nat.le_refl _) o) (Nat.le_refl _) o2) (Nat.le_refl _) o3)).cell 0; have y4 : ∀ o o2 o3, (((w1.alloc o).alloc o2).alloc o3).cell? ⟨w.heap.size + 2, 0, none⟩ = some (.string (txt to)) := fun o o2 o3 => (HTB.out _ (Below.al (Below.al (Below.al hb (Nat.le_refl _) o) (Nat.le_refl _) o2) (Nat.le_refl _) o3)).cell 0; have y5 : ∀ o o2 o3, (((w1.alloc o).alloc o2).alloc o3).cell? ⟨L.blk dir, 1, none⟩ = some (.map (some (L.nw dir))) := fun o o2 o3 => ((HQ.out _ (Below.al (Below.al (Below.al hb (Nat.le_refl _) o) (Nat.le_refl _) o2) (Nat.le_refl _) o3)).dir dir hin).cell 1; have y6 : ∀ o o2 o3, (Instr.lookup 143 (.map (some (L.nw dir))) (.string (txt to)) true).run Tryz.prog (((w1.alloc o).alloc o2).alloc o3).drew = .ok (.tuple #[.pointer none, .bool false]) (((w1.alloc o).alloc o2).alloc o3).drew := fun o o2 o3 => HLK.out _ (Below.al (Below.al (Below.al hb (Nat.le_refl _) o) (Nat.le_refl _) o2) (Nat.le_refl _) o3).drew; clear hb)
      go_region
      go_wp2_with (go_at_call 70; go_loud (refine (HS.out w1 HB.out (0) _ (HW.out (0)) ?a1 ?a2 ?a3 ⟨by decide, by decide⟩).mono ?_); rotate_left 3; rintro e w2 ⟨E, rfl, hd⟩; have HD := Lib.hid hd; clear hd)
      · go_ret
        have hb0 := HW.out (0)
        have hB2 := Nat.le_trans hBw (HBB.out _ hb0).size
        unfold Post renameR
        rw [if_neg HIF.out, HFO.out, HGO.out]
        rcases HD.out with ⟨h0, rfl, hr, hch⟩ | ⟨h0, rfl, ⟨L', hr⟩, hch⟩
        · rw [if_pos h0]
          exact ⟨rfl, ⟨_, hr⟩, (HBB.out _ hb0).trans (hch.toTurn (fun k _ e => HLO.out k (.inl e)) hB2)⟩
        · rw [if_neg h0]
          exact ⟨rfl, ⟨_, hr⟩, (HBB.out _ hb0).trans (hch.toTurn (fun k _ e => HLO.out k e) hB2)⟩
      · exact ((Cells.new w1 _ _).alloc _).alloc _
      · exact (Cells.new1 w1 _ _ _).alloc _
      · exact Cells.new2 w1 _ _ _ _
    | some y =>
      obtain ⟨by_, sy, hfy⟩ := wf.now hin (mget_some hM)
      obtain ⟨bx, sx, hfx⟩ := wf.now hin (mget_some hx)
      have hby := (wf.files y by_ sy hfy).1
      simp only [ptrOf_some, Option.isSome] at HLK
      by_cases hxy : y = x
      · subst hxy
        have HGO := Lib.hid (show goneOf s dir from_ to = 0 by unfold goneOf; rw [hM]; simp [HFO.out])
        subst hw0
        clear h h0 hE hP hD hall HW00 hsz wf hu hM
        go_enter Tryz.func142, Tryz.ntmps142
        go_wp2_with (go_at_call 69; refine HL.out.mono ?_; rintro e w1 ⟨rfl, hb⟩; have HB := Lib.hid hb; have HW := Lib.hid (fun (g : Int) => (Below.al (Below.al (Below.al hb (Nat.le_refl _) (.cells #[.pointer (some ⟨L.blk dir, 0, none⟩)] 123)) (Nat.le_refl _) (.cells #[.pointer (some ⟨y, 0, none⟩)] 124)) (Nat.le_refl _) (.cells #[.int .i64 g] 3)).drew); have y3 : ∀ o o2 o3, (((w1.alloc o).alloc o2).alloc o3).cell? ⟨w.heap.size, 0, none⟩ = some (.pointer (some ⟨f, 0, none⟩)) := fun o o2 o3 => (HFB.out _ (Below.al (Below.al (Below.al hb (Nat.le_refl _) o) (Nat.le_refl _) o2) (Nat.le_refl _) o3)).cell 0; have y4 : ∀ o o2 o3, (((w1.alloc o).alloc o2).alloc o3).cell? ⟨w.heap.size + 2, 0, none⟩ = some (.string (txt to)) := fun o o2 o3 => (HTB.out _ (Below.al (Below.al (Below.al hb (Nat.le_refl _) o) (Nat.le_refl _) o2) (Nat.le_refl _) o3)).cell 0; have y5 : ∀ o o2 o3, (((w1.alloc o).alloc o2).alloc o3).cell? ⟨L.blk dir, 1, none⟩ = some (.map (some (L.nw dir))) := fun o o2 o3 => ((HQ.out _ (Below.al (Below.al (Below.al hb (Nat.le_refl _) o) (Nat.le_refl _) o2) (Nat.le_refl _) o3)).dir dir hin).cell 1; have y6 : ∀ o o2 o3, (Instr.lookup 143 (.map (some (L.nw dir))) (.string (txt to)) true).run Tryz.prog (((w1.alloc o).alloc o2).alloc o3).drew = .ok (.tuple #[.pointer (some ⟨y, 0, none⟩), .bool true]) (((w1.alloc o).alloc o2).alloc o3).drew := fun o o2 o3 => HLK.out _ (Below.al (Below.al (Below.al hb (Nat.le_refl _) o) (Nat.le_refl _) o2) (Nat.le_refl _) o3).drew; have y8 := fun W => same_files W y; clear hb)
        go_region
        go_wp2_with (go_at_call 70; go_loud (refine (HS.out w1 HB.out (0) _ (HW.out (0)) ?b1 ?b2 ?b3 ⟨by decide, by decide⟩).mono ?_); rotate_left 3; rintro e w2 ⟨E, rfl, hd⟩; have HD := Lib.hid hd; clear hd)
        · go_ret
          have hb0 := HW.out (0)
          have hB2 := Nat.le_trans hBw (HBB.out _ hb0).size
          unfold Post renameR
          rw [if_neg HIF.out, HFO.out, HGO.out]
          rcases HD.out with ⟨h0, rfl, hr, hch⟩ | ⟨h0, rfl, ⟨L', hr⟩, hch⟩
          · rw [if_pos h0]
            exact ⟨rfl, ⟨_, hr⟩, (HBB.out _ hb0).trans (hch.toTurn (fun k _ e => HLO.out k (.inl e)) hB2)⟩
          · rw [if_neg h0]
            exact ⟨rfl, ⟨_, hr⟩, (HBB.out _ hb0).trans (hch.toTurn (fun k _ e => HLO.out k e) hB2)⟩
        · exact ((Cells.new w1 _ _).alloc _).alloc _
        · exact (Cells.new1 w1 _ _ _).alloc _
        · exact Cells.new2 w1 _ _ _ _
      · have HGO := Lib.hid (show goneOf s dir from_ to = by_.length by unfold goneOf; rw [hM, HFO.out]; simp only [if_neg hxy]; unfold bytesOf; rw [hfy]; rfl)
        subst hw0
        clear h h0 hE hP hD hall HW00 hsz wf hu hM
        go_enter Tryz.func142, Tryz.ntmps142
        go_wp2_with (go_at_call 69; refine HL.out.mono ?_; rintro e w1 ⟨rfl, hb⟩; have HB := Lib.hid hb; have HW := Lib.hid (fun (g : Int) => (Below.al (Below.al (Below.al hb (Nat.le_refl _) (.cells #[.pointer (some ⟨L.blk dir, 0, none⟩)] 123)) (Nat.le_refl _) (.cells #[.pointer (some ⟨x, 0, none⟩)] 124)) (Nat.le_refl _) (.cells #[.int .i64 g] 3)).drew); have y3 : ∀ o o2 o3, (((w1.alloc o).alloc o2).alloc o3).cell? ⟨w.heap.size, 0, none⟩ = some (.pointer (some ⟨f, 0, none⟩)) := fun o o2 o3 => (HFB.out _ (Below.al (Below.al (Below.al hb (Nat.le_refl _) o) (Nat.le_refl _) o2) (Nat.le_refl _) o3)).cell 0; have y4 : ∀ o o2 o3, (((w1.alloc o).alloc o2).alloc o3).cell? ⟨w.heap.size + 2, 0, none⟩ = some (.string (txt to)) := fun o o2 o3 => (HTB.out _ (Below.al (Below.al (Below.al hb (Nat.le_refl _) o) (Nat.le_refl _) o2) (Nat.le_refl _) o3)).cell 0; have y5 : ∀ o o2 o3, (((w1.alloc o).alloc o2).alloc o3).cell? ⟨L.blk dir, 1, none⟩ = some (.map (some (L.nw dir))) := fun o o2 o3 => ((HQ.out _ (Below.al (Below.al (Below.al hb (Nat.le_refl _) o) (Nat.le_refl _) o2) (Nat.le_refl _) o3)).dir dir hin).cell 1; have y6 : ∀ o o2 o3, (Instr.lookup 143 (.map (some (L.nw dir))) (.string (txt to)) true).run Tryz.prog (((w1.alloc o).alloc o2).alloc o3).drew = .ok (.tuple #[.pointer (some ⟨y, 0, none⟩), .bool true]) (((w1.alloc o).alloc o2).alloc o3).drew := fun o o2 o3 => HLK.out _ (Below.al (Below.al (Below.al hb (Nat.le_refl _) o) (Nat.le_refl _) o2) (Nat.le_refl _) o3).drew; have y7 : ∀ o o2 o3, (((w1.alloc o).alloc o2).alloc o3).cell? ⟨y, 0, none⟩ = some (.slice (L.fa y) by_.length (L.fc y)) := fun o o2 o3 => ((HQ.out _ (Below.al (Below.al (Below.al hb (Nat.le_refl _) o) (Nat.le_refl _) o2) (Nat.le_refl _) o3)).file y by_ sy hfy).cells.cell 0; have y8 : ∀ o o2 o3, (binOp .neq 124 (.pointer (some ⟨y, 0, none⟩)) (.pointer (some ⟨x, 0, none⟩))).run Tryz.prog (((w1.alloc o).alloc o2).alloc o3).drew = .ok (.bool true) (((w1.alloc o).alloc o2).alloc o3).drew := fun o o2 o3 => neq_files _ ((HQ.out _ (Below.al (Below.al (Below.al hb (Nat.le_refl _) o) (Nat.le_refl _) o2) (Nat.le_refl _) o3).drew).file x bx sx hfx).cells ((HQ.out _ (Below.al (Below.al (Below.al hb (Nat.le_refl _) o) (Nat.le_refl _) o2) (Nat.le_refl _) o3).drew).file y by_ sy hfy).cells hxy; clear hb)
        go_region
        go_wp2_with (go_at_call 70; go_loud (refine (HS.out w1 HB.out (by_.length : Int) _ (HW.out (by_.length : Int)) ?c1 ?c2 ?c3 ⟨by omega, by omega⟩).mono ?_); rotate_left 3; rintro e w2 ⟨E, rfl, hd⟩; have HD := Lib.hid hd; clear hd)
        · go_ret
          have hb0 := HW.out (by_.length : Int)
          have hB2 := Nat.le_trans hBw (HBB.out _ hb0).size
          unfold Post renameR
          rw [if_neg HIF.out, HFO.out, HGO.out]
          rcases HD.out with ⟨h0, rfl, hr, hch⟩ | ⟨h0, rfl, ⟨L', hr⟩, hch⟩
          · rw [if_pos h0]
            exact ⟨rfl, ⟨_, hr⟩, (HBB.out _ hb0).trans (hch.toTurn (fun k _ e => HLO.out k (.inl e)) hB2)⟩
          · rw [if_neg h0]
            exact ⟨rfl, ⟨_, hr⟩, (HBB.out _ hb0).trans (hch.toTurn (fun k _ e => HLO.out k e) hB2)⟩
        · exact ((Cells.new w1 _ _).alloc _).alloc _
        · exact (Cells.new1 w1 _ _ _).alloc _
        · exact Cells.new2 w1 _ _ _ _
  · have HIF := Lib.hid hE
    obtain ⟨E, hEE⟩ : ∃ E, lfE s dir from_ [to] = E := ⟨_, rfl⟩
    obtain ⟨D, hDD⟩ : ∃ D, lfD L s dir from_ [to] = D := ⟨_, rfl⟩
    obtain ⟨X, hXX⟩ : ∃ X, lfP s dir from_ [to] = X := ⟨_, rfl⟩
    have HEE := Lib.hid hEE
    rw [hEE] at hE
    rw [hEE, hDD, hXX] at HL
    have hne : (E != 0) = true := by rw [bne_iff_ne]; exact hE
    obtain ⟨px, hpx⟩ : ∃ px, ptrOf X = .pointer px := by cases X <;> exact ⟨_, rfl⟩
    obtain ⟨pd, hpd⟩ : ∃ px, ptrOf D = .pointer px := by cases D <;> exact ⟨_, rfl⟩
    rw [hpx, hpd] at HL
    subst hw0
    clear h h0 hEE hDD hXX hpx hpd HW00 hsz
    go_enter Tryz.func142, Tryz.ntmps142
    go_wp2_with (go_at_call 69; refine HL.out.mono ?_; rintro e w1 ⟨rfl, hb⟩; have HB := Lib.hid hb; clear hb)
    go_ret
    have hb0 := Below.al (Below.al HB.out (Nat.le_refl _) (.cells #[.pointer pd] 123)) (Nat.le_refl _) (.cells #[.pointer px] 124)
    have hq := HQ.out _ hb0
    unfold Post renameR
    rw [if_pos HIF.out, HEE.out]
    exact ⟨rfl, ⟨_, hq⟩, HBB.out _ hb0⟩
end Go.Proofs.YtkcnmajjfljilaaGreatDoor
