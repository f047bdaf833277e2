/- simfs: the calls: what they answer, what they leave. -/
import Derived.Test.YtlmkhieojgpgcaaFsSteps3
namespace Go.Proofs.Ytlmkhieojgpgcaa
open Go.ChangeShapes Go.WideShapes Go.ChangeAt Go.RowKit Go.ChangeMaps Go.MapKept
set_option linter.unusedVariables false

/-- What every file system keeps. -/
structure Wf (s : Fs) : Prop where
  steps : 0 ≤ s.steps ∧ s.steps < 1000000000
  fuse : -1 ≤ s.fuse ∧ s.fuse ≤ 9223372036854775807
  used : -1152921504606846976 ≤ s.used ∧ s.used ≤ 1152921504606846976
  room : 0 ≤ s.room ∧ s.room ≤ 1073741824
  names : s.names.Pairwise (· < ·)
  many : s.names.length ≤ 64
  dirs : ∀ n ∈ s.names, (s.dir n).base.length + (s.dir n).pend.length ≤ 1000000 ∧ (s.dir n).now = replay (s.dir n).pend (s.dir n).base ∧ Rising (s.dir n).base
  files : ∀ x b sf, s.file x = some (b, sf) → b.length ≤ 16777216 ∧ sf ≤ b.length
  there : ∀ n ∈ s.names, ∀ k ≤ (s.dir n).pend.length, ∀ p ∈ replay ((s.dir n).pend.take k) (s.dir n).base, (∃ q, s.file p.2 = some q) ∧ p.1.length ≤ 32
  short : ∀ n ∈ s.names, n.length ≤ 32
theorem Wf.nowlen {s : Fs} (h : Wf s) {n : Nm} (hn : n ∈ s.names) : (s.dir n).now.length ≤ 1000000 := by
  have := (h.dirs n hn).1
  rw [(h.dirs n hn).2.1]
  have := replay_length (s.dir n).pend (s.dir n).base
  omega
theorem Wf.pendlen {s : Fs} (h : Wf s) {n : Nm} (hn : n ∈ s.names) : (s.dir n).pend.length ≤ 1000000 := by have := (h.dirs n hn).1; omega
theorem Wf.now {s : Fs} (h : Wf s) {n : Nm} (hn : n ∈ s.names) {p : Nm × Nat} (hp : p ∈ (s.dir n).now) : ∃ b sf, s.file p.2 = some (b, sf) := by
  rw [(h.dirs n hn).2.1] at hp
  obtain ⟨⟨⟨b, sf⟩, hq⟩, _⟩ := h.there n hn (s.dir n).pend.length (Nat.le_refl _) p (by rw [List.take_of_length_le (Nat.le_refl _)]; exact hp)
  exact ⟨b, sf, hq⟩
theorem RepL.boxed {Kp : Nat → Prop} {B f : Nat} {L : Lay} {s : Fs} {w w' : World} (h : RepL Kp B f L s w) {p : Nat} {c : Array Value} {t : TypeId} (hp : Cells w p c t) (ht : t ≠ 65 ∧ t ≠ 78 ∧ t ≠ 67 ∧ t ≠ 5 ∧ t ≠ 9 ∧ t ≠ 60 ∧ t ≠ 54) (k : Ch (· = p) w w') : RepL Kp B f L s w' :=
  h.turned k (h.off_cells (fun i _ e => ⟨_, _, e ▸ hp, ht.1, ht.2.1, ht.2.2.1, ht.2.2.2.1, ht.2.2.2.2.1, ht.2.2.2.2.2.1⟩) (fun i e => e ▸ hp.lt)) (h.fs.ch k fun e => h.fs.ne hp (Ne.symm ht.2.2.2.2.2.2) e)
theorem RepL.fresh {Kp : Nat → Prop} {B f : Nat} {L : Lay} {s : Fs} {w : World} (h : RepL Kp B f L s w) {k : Nat} (hk : w.heap.size ≤ k) : ¬ Kp k := fun hkk => by have := h.kold k hkk; omega
theorem RepL.none_ {Kp : Nat → Prop} {B f : Nat} {L : Lay} {s : Fs} {w : World} (h : RepL Kp B f L s w) {x : Nat} (hx : w.heap.size ≤ x) : s.file x = none := by
  cases hf : s.file x with
  | none => rfl
  | some p => have := (h.file x p.1 p.2 hf).cells.lt; omega
theorem RepL.lowDir {Kp : Nat → Prop} {B f : Nat} {L : Lay} {s : Fs} {w : World} (h : RepL Kp B f L s w) {n : Nm} (hn : n ∈ s.names) : ∀ k, dirOf L n k → B ≤ k ∧ ¬ Kp k := by
  rintro k (rfl | rfl | e)
  · exact ⟨(h.lowd n hn).1, (h.kd n hn).1⟩
  · exact ⟨(h.lowd n hn).2.2, (h.kd n hn).2.2.1⟩
  · obtain ⟨d, _, hd⟩ := (h.pend n hn).row e; exact ⟨hd, (h.kd n hn).2.2.2 k e⟩
theorem RepL.lowBase {Kp : Nat → Prop} {B f : Nat} {L : Lay} {s : Fs} {w : World} (h : RepL Kp B f L s w) {n : Nm} (hn : n ∈ s.names) : ∀ k, baseOf L n k → B ≤ k ∧ ¬ Kp k := by
  rintro k (rfl | rfl)
  · exact ⟨(h.lowd n hn).1, (h.kd n hn).1⟩
  · exact ⟨(h.lowd n hn).2.1, (h.kd n hn).2.1⟩

/-! ### SyncDir -/
def syncDirR (s : Fs) (dir : Nm) : Int × Fs :=
  if liveE s dir [] ≠ 0 then (liveE s dir [], s) else if s.fuse = 0 then (60, outed s)
  else (0, { stepped s with dir := upd s.dir dir (settledDir (s.dir dir) (s.dir dir).pend.length) })
def Post (Kp : Nat → Prop) (B f : Nat) (r : Int × Fs) (w : World) (e : Ending) (w' : World) : Prop := e = .returned (.int .i64 r.1) ∧ Rep Kp B f r.2 w' ∧ Turn Kp B w w'
set_option maxHeartbeats 4000000 in
theorem syncDir_any {Kp : Nat → Prop} {B f : Nat} {s : Fs} {w : World} (h : Rep Kp B f s w) (wf : Wf s) (hBw : B ≤ w.heap.size) (dir : Nm) :
    Calls Try.prog 13 #[.pointer (some ⟨f, 0, none⟩), .string (txt dir)] w (Post Kp B f (syncDirR s dir) w) := by
  obtain ⟨L, h⟩ := h
  have HL := Lib.hid (live_any h w (Below.refl _ w) dir [] (.slice none 0 0) (own_none w _) (by simp))
  have HQ := Lib.hid (fun w1 (hb : Below w.heap.size w w1) => h.quiet (Ch.of_below hb))
  have HBB := Lib.hid (fun w1 (hb : Below w.heap.size w w1) => (Turn.of hb hBw : Turn Kp B w w1))
  rcases live_cases L s dir [] with ⟨hE, hP, hon, hall, hin⟩ | ⟨hE, hP⟩
  · rw [hE, hP, ptrOf_some] at HL
    have HIF := Lib.hid (show ¬ (liveE s dir [] ≠ 0) from fun h => h hE)
    have HS := Lib.hid (fun (w1 : World) (hb : Below w.heap.size w w1) (b1 : Nat) (h1 : Cells w1 b1 #[adr (L.blk dir)] 55) (hb1 : b1 ≠ f) =>
      step_any (HQ.out w1 hb) wf.steps wf.fuse 39 #[adr b1] (enters_of Try.func39 (by kernel_rfl) rfl)
        (R := fun w2 => ∃ L', RepL Kp B f L' { stepped s with dir := upd s.dir dir (settledDir (s.dir dir) (s.dir dir).pend.length) } w2 ∧ Ch (fun i => i = f ∨ baseOf L dir i) w1 w2)
        (fun w2 hr hch => (syncDir1_any hr dir hin b1 (h1.ch hch hb1) (wf.dirs dir hin).1 (wf.dirs dir hin).2.1 (Nat.le_trans hBw (Nat.le_trans hb.size hch.size))).mono fun e w3 ⟨he, L', a, b⟩ => ⟨he, L', a, (hch.mono fun k _ e => .inl e).then_ b fun i _ e => .inr e⟩))
    have hlow := h.lowBase hin
    have hflow := h.lowF
    have HFF := Lib.hid hflow
    have hfl := h.fs.lt
    have HLO := Lib.hid hlow
    have HFL := Lib.hid hfl
    clear h hE hP hall hlow
    go_enter Try.func13, Try.ntmps13
    go_wp2_with (first
      | (go_at_call 29; refine HL.out.mono ?_; rintro e w1 ⟨rfl, hb⟩; have HB := Lib.hid hb; clear hb)
      | (go_at_call 30; refine (HS.out _ ((Below.trans HB.out ((Below.refl _ _).alloc HB.out.size _))) w1.heap.size (Cells.new _ _ _) (by have := HFL.out; have := HB.out.size; omega)).mono ?_; rintro e w2 ⟨E, rfl, hd⟩; have HD := Lib.hid hd; clear hd))
    go_ret
    have hb0 := HBB.out _ (HB.out.alloc HB.out.size (.cells #[.pointer (some ⟨L.blk dir, 0, none⟩)] 55))
    have hsz : B ≤ (w1.alloc (.cells #[.pointer (some ⟨L.blk dir, 0, none⟩)] 55)).heap.size := Nat.le_trans hBw hb0.size
    rcases HD.out with ⟨h0, rfl, hr, hch⟩ | ⟨h0, rfl, L', hr, hch⟩
    · unfold Post syncDirR
      rw [if_neg HIF.out, if_pos h0]
      exact ⟨rfl, ⟨_, hr⟩, hb0.trans (hch.toTurn (fun k _ e => e ▸ HFF.out) hsz)⟩
    · unfold Post syncDirR
      rw [if_neg HIF.out, if_neg h0]
      exact ⟨rfl, ⟨_, hr⟩, hb0.trans (hch.toTurn (fun k _ e => e.elim (fun e => e ▸ HFF.out) (HLO.out k)) hsz)⟩
  · have HIF := Lib.hid hE
    obtain ⟨E, hEE⟩ : ∃ E, liveE s dir [] = E := ⟨_, rfl⟩
    have HEE := Lib.hid hEE
    rw [hEE] at hE HL
    rw [hP, ptrOf_none] at HL
    have hne : (E != 0) = true := by rw [bne_iff_ne]; exact hE
    clear h hP hEE
    go_enter Try.func13, Try.ntmps13
    go_wp2_with (go_at_call 29; refine HL.out.mono ?_; rintro e w1 ⟨rfl, hb⟩; have HB := Lib.hid hb; clear hb)
    go_ret
    have hb0 := HB.out
    have hq := HQ.out _ (hb0.alloc hb0.size (.cells #[.pointer none] 55))
    unfold Post syncDirR
    rw [if_pos HIF.out, HEE.out]
    exact ⟨rfl, ⟨_, hq⟩, HBB.out _ (hb0.alloc hb0.size _)⟩
end Go.Proofs.Ytlmkhieojgpgcaa
