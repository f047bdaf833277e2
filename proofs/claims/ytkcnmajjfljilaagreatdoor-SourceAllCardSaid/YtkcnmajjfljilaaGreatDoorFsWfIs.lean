/- Several texts in one: FsWf, FsIs. -/
import Derived.Test.YtkcnmajjfljilaaGreatDoorFsCrashA
/- simfs: what every call keeps (no memory). -/
namespace Go.Proofs.YtkcnmajjfljilaaGreatDoor
set_option linter.unusedVariables false

theorem mset_get {l : List (Nm × Nat)} {k : Nm} {b : Nat} {p : Nm × Nat} (h : p ∈ mset l k b) : p = (k, b) ∨ p ∈ l := (mem_mset.1 h).imp id (·.1)
/-- All that a directory's entries ever are, is so. -/
def Ever (ok : Nm × Nat → Prop) (d : Dir) : Prop := ∀ k ≤ d.pend.length, ∀ p ∈ replay (d.pend.take k) d.base, ok p
theorem Ever.now {ok : Nm × Nat → Prop} {d : Dir} (h : Ever ok d) (hn : d.now = replay d.pend d.base) : ∀ p ∈ d.now, ok p := by
  intro p hp
  rw [hn] at hp
  exact h d.pend.length (Nat.le_refl _) p (by rw [List.take_of_length_le (Nat.le_refl _)]; exact hp)
theorem Ever.did {ok : Nm × Nat → Prop} {d : Dir} (h : Ever ok d) (hn : d.now = replay d.pend d.base) (o : FOp) (ho : ∀ p ∈ o.on d.now, ok p) : Ever ok (didDir d o) := by
  intro k hk p hp
  simp only [didDir, List.length_append, List.length_singleton] at hk hp
  by_cases h1 : k ≤ d.pend.length
  · rw [List.take_append_of_le_length h1] at hp
    exact h k h1 p hp
  · rw [List.take_of_length_le (by simp; omega), replay_snoc, ← hn] at hp
    exact ho p hp
theorem Ever.settled {ok : Nm × Nat → Prop} {d : Dir} (h : Ever ok d) (k : Nat) (hk : k ≤ d.pend.length) : Ever ok (settledDir d k) := by
  intro j hj p hp
  simp only [settledDir] at hp
  exact h k hk p (by simpa [replay] using hp)
theorem Ever.mono {ok ok' : Nm × Nat → Prop} {d : Dir} (h : Ever ok d) (hm : ∀ p, ok p → ok' p) : Ever ok' d := fun k hk p hp => hm p (h k hk p hp)
theorem did_now {d : Dir} (hn : d.now = replay d.pend d.base) (o : FOp) : (didDir d o).now = replay (didDir d o).pend (didDir d o).base := by
  simp only [didDir, replay_snoc, hn]
theorem settled_now (d : Dir) (k : Nat) : (settledDir d k).now = replay (settledDir d k).pend (settledDir d k).base := rfl

def okE (s : Fs) (p : Nm × Nat) : Prop := (∃ q, s.file p.2 = some q) ∧ p.1.length ≤ 32
/-- As Wf, counted. -/
structure WfK (K : Nat) (s : Fs) : Prop where
  steps : 0 ≤ s.steps ∧ s.steps ≤ K
  fuse : -1 ≤ s.fuse ∧ s.fuse ≤ 9223372036854775807
  used : -(16777216 * (64000000 + (K : Int))) ≤ s.used ∧ s.used ≤ 16777216 * (64000000 + (K : Int))
  room : 0 ≤ s.room ∧ s.room ≤ 1073741824
  names : s.names.Pairwise (· < ·)
  many : s.names.length ≤ 64
  size : ∀ n ∈ s.names, (s.dir n).base.length + (s.dir n).pend.length ≤ K
  now : ∀ n ∈ s.names, (s.dir n).now = replay (s.dir n).pend (s.dir n).base
  rising : ∀ n ∈ s.names, Rising (s.dir n).base
  files : ∀ x b sf, s.file x = some (b, sf) → b.length ≤ 16777216 ∧ sf ≤ b.length
  ever : ∀ n ∈ s.names, Ever (okE s) (s.dir n)
  short : ∀ n ∈ s.names, n.length ≤ 32
theorem WfK.wf {K : Nat} {s : Fs} (h : WfK K s) (hK : K ≤ 1000000) : Wf s :=
  { steps := by have := h.steps; omega, fuse := h.fuse, used := by have := h.used; omega, room := h.room, names := h.names, many := h.many
    dirs := fun n hn => ⟨Nat.le_trans (h.size n hn) hK, h.now n hn, h.rising n hn⟩, files := h.files, there := fun n hn => h.ever n hn, short := h.short }
theorem WfK.mono {K K' : Nat} {s : Fs} (h : WfK K s) (hK : K ≤ K') : WfK K' s :=
  { steps := by have := h.steps; omega, fuse := h.fuse, used := by have := h.used; omega, room := h.room, names := h.names, many := h.many
    size := fun n hn => Nat.le_trans (h.size n hn) hK, now := h.now, rising := h.rising, files := h.files, ever := h.ever, short := h.short }
theorem WfK.new {room : Int} (hr : isRoom room = true) : WfK 0 (newFs room) := by
  have : 0 ≤ room ∧ room ≤ 1073741824 := by simpa [isRoom] using hr
  exact { steps := ⟨Int.le_refl _, Int.le_refl _⟩, fuse := ⟨by show (-1 : Int) ≤ -1; omega, by show (-1 : Int) ≤ _; omega⟩, used := ⟨by show _ ≤ (0 : Int); omega, by show (0 : Int) ≤ _; omega⟩, room := this, names := List.Pairwise.nil, many := Nat.zero_le _
          size := fun n hn => by simp [newFs] at hn, now := fun n hn => by simp [newFs] at hn, rising := fun n hn => by simp [newFs] at hn, files := fun x b sf hx => by simp [newFs] at hx, ever := fun n hn => by simp [newFs] at hn, short := fun n hn => by simp [newFs] at hn }
theorem WfK.out {K : Nat} {s : Fs} (h : WfK K s) : WfK K (outed s) :=
  { steps := h.steps, fuse := h.fuse, used := h.used, room := h.room, names := h.names, many := h.many, size := h.size, now := h.now, rising := h.rising, files := h.files, ever := h.ever, short := h.short }
/-- A step that turns a file's bytes. -/
theorem WfK.file {K : Nat} {s : Fs} (h : WfK K s) (x : Nat) (b : List UInt8) (sf : Nat) (hb : b.length ≤ 16777216) (hs : sf ≤ b.length) (u : Int) (hu : -16777216 ≤ u - s.used ∧ u - s.used ≤ 16777216) : WfK (K + 1) { stepped s with used := u, file := upd s.file x (some (b, sf)) } :=
  { steps := by have := h.steps; simp only [stepped]; omega
    fuse := by have := h.fuse; simp only [stepped]; split <;> omega
    used := by have := h.used; simp only; omega
    room := h.room, names := h.names, many := h.many, size := fun n hn => Nat.le_succ_of_le (h.size n hn), now := h.now, rising := h.rising
    files := fun y b1 s1 hy => by
      by_cases e : y = x
      · subst e; simp only [upd_same] at hy; injection hy with hy; injection hy with h1 h2; subst h1; subst h2; exact ⟨hb, hs⟩
      · simp only [upd_other _ _ _ _ e] at hy; exact h.files y b1 s1 hy
    ever := fun n hn => (h.ever n hn).mono fun p hp => ⟨by
      by_cases e : p.2 = x
      · exact ⟨(b, sf), by simp only [e, upd_same]⟩
      · obtain ⟨q, hq⟩ := hp.1; exact ⟨q, by simp only [upd_other _ _ _ _ e]; exact hq⟩, hp.2⟩
    short := h.short }
/-- A step that turns a directory. -/
theorem WfK.dir {K : Nat} {s : Fs} (h : WfK K s) (n : Nm) (hn : n ∈ s.names) (o : FOp) (ho : ∀ p ∈ o.on (s.dir n).now, okE s p) (u : Int) (hu : -16777216 ≤ u - s.used ∧ u - s.used ≤ 16777216) : WfK (K + 1) { stepped s with used := u, dir := upd s.dir n (didDir (s.dir n) o) } :=
  { steps := by have := h.steps; simp only [stepped]; omega
    fuse := by have := h.fuse; simp only [stepped]; split <;> omega
    used := by have := h.used; simp only; omega
    room := h.room, names := h.names, many := h.many
    size := fun m hm => by
      by_cases e : m = n
      · subst e; simp only [upd_same, didDir, List.length_append, List.length_singleton]; have := h.size m hm; omega
      · simp only [upd_other _ _ _ _ e]; exact Nat.le_succ_of_le (h.size m hm)
    now := fun m hm => by
      by_cases e : m = n
      · subst e; simp only [upd_same]; exact did_now (h.now m hm) o
      · simp only [upd_other _ _ _ _ e]; exact h.now m hm
    rising := fun m hm => by
      by_cases e : m = n
      · subst e; simp only [upd_same]; exact h.rising m hm
      · simp only [upd_other _ _ _ _ e]; exact h.rising m hm
    files := h.files
    ever := fun m hm => by
      by_cases e : m = n
      · subst e; simp only [upd_same]; exact (h.ever m hm).did (h.now m hm) o ho
      · simp only [upd_other _ _ _ _ e]; exact h.ever m hm
    short := h.short }
/-- A directory is settled; no step is counted here. -/
theorem WfK.settle {K : Nat} {s : Fs} (h : WfK K s) (n : Nm) (hn : n ∈ s.names) (k : Nat) (hk : k ≤ (s.dir n).pend.length) : WfK K { s with dir := upd s.dir n (settledDir (s.dir n) k) } :=
  { steps := h.steps, fuse := h.fuse, used := h.used, room := h.room, names := h.names, many := h.many
    size := fun m hm => by
      by_cases e : m = n
      · subst e
        simp only [upd_same, settledDir, List.length_nil]
        have := h.size m hm
        have := replay_length ((s.dir m).pend.take k) (s.dir m).base
        rw [List.length_take] at this
        omega
      · simp only [upd_other _ _ _ _ e]; exact h.size m hm
    now := fun m hm => by
      by_cases e : m = n
      · subst e; simp only [upd_same]; exact settled_now _ _
      · simp only [upd_other _ _ _ _ e]; exact h.now m hm
    rising := fun m hm => by
      by_cases e : m = n
      · subst e; simp only [upd_same]; exact (h.rising m hm).replay _
      · simp only [upd_other _ _ _ _ e]; exact h.rising m hm
    files := h.files
    ever := fun m hm => by
      by_cases e : m = n
      · subst e; simp only [upd_same]; exact (h.ever m hm).settled k hk
      · simp only [upd_other _ _ _ _ e]; exact h.ever m hm
    short := h.short }
theorem WfK.step {K : Nat} {s : Fs} (h : WfK K s) : WfK (K + 1) (stepped s) :=
  { steps := by have := h.steps; simp only [stepped]; omega
    fuse := by have := h.fuse; simp only [stepped]; split <;> omega
    used := by have := h.used; simp only [stepped]; omega
    room := h.room, names := h.names, many := h.many, size := fun n hn => Nat.le_succ_of_le (h.size n hn), now := h.now, rising := h.rising, files := h.files, ever := h.ever, short := h.short }
theorem nins_length (n : Nm) (ns : List Nm) : (nins n ns).length = ns.length + 1 := by
  induction ns with
  | nil => rfl
  | cons m r ih => unfold nins; split <;> simp [ih]
theorem nins_rising {n : Nm} {ns : List Nm} (h : ns.Pairwise (· < ·)) (hn : n ∉ ns) : (nins n ns).Pairwise (· < ·) := by
  induction ns with
  | nil => simp [nins]
  | cons m r ih =>
    have h1 := List.pairwise_cons.1 h
    have hne : n ≠ m := fun e => hn (by rw [e]; exact List.mem_cons_self ..)
    unfold nins
    split
    · rename_i hb
      rw [before_iff] at hb
      refine List.pairwise_cons.2 ⟨fun q hq => ?_, h⟩
      rcases List.mem_cons.1 hq with rfl | hq
      · exact hb
      · exact List.lt_trans hb (h1.1 q hq)
    · rename_i hb
      rw [before_iff] at hb
      refine List.pairwise_cons.2 ⟨fun q hq => ?_, ih h1.2 (fun h => hn (List.mem_cons_of_mem _ h))⟩
      rcases mem_nins.1 hq with rfl | hq
      · exact Decidable.byContradiction fun hc => hne (List.le_antisymm (List.not_lt.1 hc) (List.not_lt.1 hb))
      · exact h1.1 q hq
theorem WfK.mkdir {K : Nat} {s : Fs} (h : WfK K s) (n : Nm) (hn : n ∉ s.names) (hl : n.length ≤ 32) (hm : s.names.length < 64) : WfK K (mkdirS s n) := by
  have old : ∀ m, m ∈ nins n s.names → m ≠ n → m ∈ s.names := fun m hm e => (mem_nins.1 hm).resolve_left e
  exact
  { steps := h.steps, fuse := h.fuse, used := h.used, room := h.room, names := nins_rising h.names hn, many := by simp only [mkdirS, nins_length]; omega
    size := fun m hm => by
      by_cases e : m = n
      · subst e; simp [mkdirS, upd_same]
      · simp only [mkdirS, upd_other _ _ _ _ e]; exact h.size m (old m hm e)
    now := fun m hm => by
      by_cases e : m = n
      · subst e; simp [mkdirS, upd_same, replay]
      · simp only [mkdirS, upd_other _ _ _ _ e]; exact h.now m (old m hm e)
    rising := fun m hm => by
      by_cases e : m = n
      · subst e; simp [mkdirS, upd_same, Rising]
      · simp only [mkdirS, upd_other _ _ _ _ e]; exact h.rising m (old m hm e)
    files := h.files
    ever := fun m hm => by
      by_cases e : m = n
      · subst e; simp only [mkdirS, upd_same]; intro k hk p hp; simp [replay] at hp
      · simp only [mkdirS, upd_other _ _ _ _ e]; exact h.ever m (old m hm e)
    short := fun m hm => by
      by_cases e : m = n
      · subst e; exact hl
      · exact h.short m (old m hm e) }
theorem WfK.file0 {K : Nat} {s : Fs} (h : WfK K s) (x : Nat) (b : List UInt8) (sf : Nat) (hb : b.length ≤ 16777216) (hs : sf ≤ b.length) : WfK K { s with file := upd s.file x (some (b, sf)) } :=
  { steps := h.steps, fuse := h.fuse, used := h.used, room := h.room, names := h.names, many := h.many, size := h.size, now := h.now, rising := h.rising
    files := fun y b1 s1 hy => by
      by_cases e : y = x
      · subst e; simp only [upd_same] at hy; injection hy with hy; injection hy with h1 h2; subst h1; subst h2; exact ⟨hb, hs⟩
      · simp only [upd_other _ _ _ _ e] at hy; exact h.files y b1 s1 hy
    ever := fun n hn => (h.ever n hn).mono fun p hp => ⟨by
      by_cases e : p.2 = x
      · exact ⟨(b, sf), by simp only [e, upd_same]⟩
      · obtain ⟨q, hq⟩ := hp.1; exact ⟨q, by simp only [upd_other _ _ _ _ e]; exact hq⟩, hp.2⟩
    short := h.short }
theorem WfK.bytes {K : Nat} {s : Fs} (h : WfK K s) (x : Nat) : (bytesOf s x).length ≤ 16777216 ∧ safeOf s x ≤ (bytesOf s x).length := by
  unfold bytesOf safeOf
  cases hx : s.file x with
  | none => simp
  | some p => exact h.files x p.1 p.2 hx
theorem wfk_sync {K : Nat} {s : Fs} (h : WfK K s) (dir name : Nm) : WfK (K + 1) (syncR s dir name).2 := by
  unfold syncR
  split
  · exact h.mono (Nat.le_succ _)
  · split
    · exact h.out.mono (Nat.le_succ _)
    · have hb := h.bytes (fileOf s dir name)
      exact h.file _ _ _ hb.1 (Nat.le_refl _) s.used (by omega)
theorem wfk_append {K : Nat} {s : Fs} (h : WfK K s) (dir name : Nm) (news : List UInt8) : WfK (K + 1) (appendR s dir name news).2 := by
  unfold appendR
  split
  · exact h.mono (Nat.le_succ _)
  · split
    · exact h.mono (Nat.le_succ _)
    · split
      · exact h.mono (Nat.le_succ _)
      · split
        · exact h.out.mono (Nat.le_succ _)
        · rename_i h1 _ _
          have hb := h.bytes (fileOf s dir name)
          exact h.file _ _ _ (by rw [List.length_append]; omega) (by rw [List.length_append]; omega) (s.used + news.length) (by omega)
theorem live_ok {s : Fs} {dir : Nm} {ns : List Nm} (h : ¬ (liveE s dir ns ≠ 0)) : (ns ++ [dir]).all right = true ∧ dir ∈ s.names := by
  rcases live_cases ⟨0, fun _ => 0, fun _ => 0, fun _ => 0, fun _ => .bool true, fun _ => none, fun _ => 0⟩ s dir ns with ⟨_, _, _, a, b⟩ | ⟨a, _⟩
  · exact ⟨a, b⟩
  · exact absurd a h
theorem lf_ok {s : Fs} {dir name : Nm} {os : List Nm} (h : ¬ (lfE s dir name os ≠ 0)) : (os ++ [name] ++ [dir]).all right = true ∧ dir ∈ s.names ∧ mget (s.dir dir).now name = some (fileOf s dir name) := by
  rcases lf_cases ⟨0, fun _ => 0, fun _ => 0, fun _ => 0, fun _ => .bool true, fun _ => none, fun _ => 0⟩ s dir name os with ⟨_, _, ⟨x, _, hx⟩, _, a, b⟩ | a
  · exact ⟨a, b, by unfold fileOf; rw [hx]; rfl⟩
  · exact absurd a h
theorem wfk_create {K : Nat} {s : Fs} (h : WfK K s) (dir name : Nm) (x : Nat) : WfK (K + 1) (createR s dir name x).2 := by
  unfold createR
  split
  · exact h.mono (Nat.le_succ _)
  · split
    · exact h.mono (Nat.le_succ _)
    · split
      · exact h.mono (Nat.le_succ _)
      · split
        · exact h.out.mono (Nat.le_succ _)
        · rename_i h1 _ _ _
          obtain ⟨ha, hn⟩ := live_ok h1
          rw [List.all_append, Bool.and_eq_true] at ha
          have hr := right_len (show right name = true by simpa using ha.1)
          have h0 := h.file0 x [] 0 (by simp) (Nat.le_refl _)
          refine h0.dir dir hn (.create name x) (fun p hp => ?_) s.used (by show _ ≤ s.used - s.used ∧ s.used - s.used ≤ _; omega)
          rcases mset_get hp with rfl | hp
          · exact ⟨⟨([], 0), upd_same _ _ _⟩, hr⟩
          · exact (h0.ever dir hn).now (h0.now dir hn) p hp
theorem wfk_remove {K : Nat} {s : Fs} (h : WfK K s) (dir name : Nm) : WfK (K + 1) (removeR s dir name).2 := by
  unfold removeR
  split
  · exact h.mono (Nat.le_succ _)
  · split
    · exact h.out.mono (Nat.le_succ _)
    · rename_i h1 _
      obtain ⟨ha, hn, hg⟩ := lf_ok h1
      have hb := h.bytes (fileOf s dir name)
      exact h.dir dir hn (.remove name) (fun p hp => (h.ever dir hn).now (h.now dir hn) p (mem_mdel.1 hp).1) _ (by omega)
theorem gone_le {K : Nat} {s : Fs} (h : WfK K s) (dir a b : Nm) : 0 ≤ goneOf s dir a b ∧ goneOf s dir a b ≤ 16777216 := by
  unfold goneOf
  split
  · split
    · omega
    · rename_i y _ _; have := (h.bytes y).1; omega
  · omega
theorem wfk_rename {K : Nat} {s : Fs} (h : WfK K s) (dir a b : Nm) : WfK (K + 1) (renameR s dir a b).2 := by
  unfold renameR
  split
  · exact h.mono (Nat.le_succ _)
  · split
    · exact h.out.mono (Nat.le_succ _)
    · rename_i h1 _
      obtain ⟨ha, hn, hg⟩ := lf_ok h1
      have hgo := gone_le h dir a b
      rw [List.all_append, Bool.and_eq_true, List.all_append, Bool.and_eq_true] at ha
      have hr := right_len (show right b = true by simpa using ha.1.1)
      refine h.dir dir hn (.rename a b (fileOf s dir a)) (fun p hp => ?_) _ (by omega)
      have hold := (h.ever dir hn).now (h.now dir hn)
      rcases mset_get hp with rfl | hp
      · exact ⟨(hold _ (mget_some hg)).1, hr⟩
      · exact hold p (mem_mdel.1 hp).1
theorem wfk_syncDir {K : Nat} {s : Fs} (h : WfK K s) (dir : Nm) : WfK (K + 1) (syncDirR s dir).2 := by
  unfold syncDirR
  split
  · exact h.mono (Nat.le_succ _)
  · split
    · exact h.out.mono (Nat.le_succ _)
    · rename_i h1 _
      exact h.step.settle dir (live_ok h1).2 _ (Nat.le_refl _)
theorem wfk_mkdir {K : Nat} {s : Fs} (h : WfK K s) (dir : Nm) : WfK (K + 1) (mkdirR s dir).2 := by
  unfold mkdirR
  split
  · exact h.mono (Nat.le_succ _)
  · split
    · exact h.mono (Nat.le_succ _)
    · split
      · exact h.mono (Nat.le_succ _)
      · split
        · exact h.out.mono (Nat.le_succ _)
        · rename_i h1 h2 _
          have h61 : liveE s dir [] = 61 := Decidable.byContradiction h1
          obtain ⟨hr, hn⟩ := live61 h61
          exact h.step.mkdir dir hn (right_len hr) (by show s.names.length < 64; omega)
theorem wfk_fuse {K : Nat} {s : Fs} (h : WfK K s) (n : Int) (hn : n ≤ 9223372036854775807) : WfK K (fuseR s n).2 := by
  unfold fuseR
  split
  · exact h
  · rename_i h0
    exact { steps := h.steps, fuse := ⟨by show -1 ≤ n; omega, hn⟩, used := h.used, room := h.room, names := h.names, many := h.many, size := h.size, now := h.now, rising := h.rising, files := h.files, ever := h.ever, short := h.short }

/-! ### Crash -/
structure Cutting (s : Fs) (m : Nat) (st : St2) : Prop where
  dom : ∀ x, (∃ q, s.file x = some q) → (∃ q, st.file x = some q)
  fit : ∀ x b sf, st.file x = some (b, sf) → b.length ≤ 16777216 ∧ sf ≤ b.length
  used : 0 ≤ st.used ∧ st.used ≤ 16777216 * (m : Int)
theorem Cutting.step2 {s : Fs} {m : Nat} {st : St2} (h : Cutting s m st) (x : Nat) : Cutting s (m + 1) (step2 st x) := by
  unfold Go.Proofs.YtkcnmajjfljilaaGreatDoor.step2
  split
  · rename_i b sf hx
    have hf := h.fit x b sf hx
    have hk := pickK_le st.ps (b.length - sf)
    refine ⟨fun y hy => ?_, fun y b1 s1 hy => ?_, ?_⟩
    · by_cases e : y = x
      · subst e; exact ⟨_, upd_same _ _ _⟩
      · simp only [upd_other _ _ _ _ e]; exact h.dom y hy
    · by_cases e : y = x
      · subst e
        simp only [upd_same] at hy
        injection hy with hy; injection hy with h1 h2; subst h1; subst h2
        rw [List.length_take]; omega
      · simp only [upd_other _ _ _ _ e] at hy; exact h.fit y b1 s1 hy
    · have := h.used; simp only; omega
  · exact ⟨h.dom, h.fit, by have := h.used; omega⟩
theorem Cutting.stepD {s : Fs} {m : Nat} {st : St2} (h : Cutting s m st) (l : List (Nm × Nat)) : Cutting s (m + l.length) (stepD st l) := by
  induction l generalizing m st with
  | nil => exact h
  | cons p r ih =>
    have := ih (h.step2 p.2)
    rw [List.length_cons, show m + (r.length + 1) = m + 1 + r.length by omega]
    exact this
theorem Cutting.phase2 {s : Fs} {m : Nat} {st : St2} (h : Cutting s m st) (d : Nm → Dir) (ns : List Nm) (hd : ∀ n ∈ ns, (d n).now.length ≤ 1000000) : ∃ m', m' ≤ m + 1000000 * ns.length ∧ Cutting s m' (phase2 d st ns) := by
  induction ns generalizing m st with
  | nil => exact ⟨m, Nat.le_refl _, h⟩
  | cons n r ih =>
    obtain ⟨m', h1, h2⟩ := ih (h.stepD (d n).now) (fun x hx => hd x (List.mem_cons_of_mem _ hx))
    have := hd n (List.mem_cons_self ..)
    refine ⟨m', ?_, h2⟩
    have e : 1000000 * (r.length + 1) = 1000000 * r.length + 1000000 := Nat.mul_succ _ _
    rw [List.length_cons, e]
    omega
theorem wfk_crash {K : Nat} {s : Fs} (h : WfK K s) (hK : K ≤ 1000000) (ps : List Int) : WfK K (crashS s ps) := by
  have hl := lasts_of (h.wf hK) ps
  have hc0 : Cutting s 0 ⟨(phase1 s ps s.names).1, s.file, 0⟩ := ⟨fun x hx => hx, fun x b sf hx => h.files x b sf hx, ⟨Int.le_refl _, by simp⟩⟩
  obtain ⟨m, hm, hc⟩ := hc0.phase2 (phase1 s ps s.names).2 s.names hl.len
  have hm2 : m ≤ 64000000 := by
    have : 1000000 * s.names.length ≤ 1000000 * 64 := Nat.mul_le_mul_left _ h.many
    omega
  have key : ∀ n ∈ s.names, ∃ k, k ≤ (s.dir n).pend.length ∧ (phase1 s ps s.names).2 n = settledDir (s.dir n) k := fun n hn => phase1_at s ps s.names (nodup_of_lt h.names) n hn
  exact
  { steps := h.steps, fuse := ⟨by show (-1 : Int) ≤ -1; omega, by show (-1 : Int) ≤ _; omega⟩
    used := by
      have := hc.used
      refine ⟨?_, ?_⟩ <;> (simp only [crashS]; omega)
    room := h.room, names := h.names, many := h.many
    size := fun n hn => by
      obtain ⟨k, h1, h2⟩ := key n hn
      show ((phase1 s ps s.names).2 n).base.length + ((phase1 s ps s.names).2 n).pend.length ≤ K
      rw [h2]
      have := h.size n hn
      have := replay_length ((s.dir n).pend.take k) (s.dir n).base
      rw [List.length_take] at this
      simp only [settledDir, List.length_nil]
      omega
    now := fun n hn => by
      obtain ⟨k, h1, h2⟩ := key n hn
      show ((phase1 s ps s.names).2 n).now = replay ((phase1 s ps s.names).2 n).pend ((phase1 s ps s.names).2 n).base
      rw [h2]; exact settled_now _ _
    rising := fun n hn => by
      obtain ⟨k, h1, h2⟩ := key n hn
      show Rising ((phase1 s ps s.names).2 n).base
      rw [h2]; exact (h.rising n hn).replay _
    files := hc.fit
    ever := fun n hn => by
      obtain ⟨k, h1, h2⟩ := key n hn
      show Ever _ ((phase1 s ps s.names).2 n)
      rw [h2]
      exact ((h.ever n hn).settled k h1).mono fun p hp => ⟨hc.dom _ hp.1, hp.2⟩
    short := h.short }
end Go.Proofs.YtkcnmajjfljilaaGreatDoor

/- simfs: a file system of one directory (no memory). -/
namespace Go.Proofs.YtkcnmajjfljilaaGreatDoor
set_option linter.unusedVariables false

def nd : Nm := [100]
def na : Nm := [97]
theorem nd_right : right nd = true := by decide
theorem na_right : right na = true := by decide
/-- A file system of the one directory d. -/
structure Is (s : Fs) (room used steps fuse : Int) (on : Bool) (D : Dir) : Prop where
  room : s.room = room
  used : s.used = used
  steps : s.steps = steps
  fuse : s.fuse = fuse
  on : s.on = on
  names : s.names = [nd]
  dir : s.dir nd = D
def dec (fuse : Int) : Int := if fuse = -1 then -1 else fuse - 1
section
variable {s : Fs} {room used steps fuse : Int} {on : Bool} {D : Dir}
theorem Is.live (h : Is s room used steps fuse true D) (ns : List Nm) (hr : ns.all right = true) : liveE s nd ns = 0 := by
  unfold liveE dirE
  rw [h.on, h.names, if_pos rfl, if_pos (by rw [List.all_append, hr]; decide), if_pos (List.mem_singleton.2 rfl)]
theorem Is.lf (h : Is s room used steps fuse true D) {n : Nm} {x : Nat} (hn : right n = true) (os : List Nm) (ho : os.all right = true) (hg : mget D.now n = some x) : lfE s nd n os = 0 ∧ fileOf s nd n = x := by
  have h1 : dirE s nd (os ++ [n]) = 0 := by
    unfold dirE
    rw [h.names, if_pos (by rw [List.all_append, List.all_append, ho]; simp [hn]; decide), if_pos (List.mem_singleton.2 rfl)]
  refine ⟨?_, by unfold fileOf; rw [h.dir, hg]; rfl⟩
  unfold lfE fileE
  rw [h.on, if_pos rfl, if_pos h1, h.dir, hg]
  rfl
theorem Is.off (h : Is s room used steps fuse false D) : (∀ ns, liveE s nd ns = 60) ∧ ∀ n os, lfE s nd n os = 60 := by
  refine ⟨fun ns => ?_, fun n os => ?_⟩
  · unfold liveE; rw [h.on]; rfl
  · unfold lfE; rw [h.on]; rfl
theorem Is.out (h : Is s room used steps fuse on D) : Is (outed s) room used steps fuse false D := ⟨h.room, h.used, h.steps, h.fuse, rfl, h.names, h.dir⟩
theorem is_mkdir (hr : 0 ≤ room) : Is (mkdirR (newFs room) nd).2 room 0 1 (-1) true ⟨[], [], []⟩ ∧ (mkdirR (newFs room) nd).2.file = (fun _ => none) ∧ (mkdirR (newFs room) nd).1 = 0 := by
  have h : mkdirR (newFs room) nd = (0, mkdirS (stepped (newFs room)) nd) := rfl
  rw [h]
  exact ⟨⟨rfl, rfl, rfl, rfl, rfl, rfl, rfl⟩, rfl, rfl⟩
theorem is_create (h : Is s room used steps fuse true D) {n : Nm} (hn : right n = true) (hg : mget D.now n = none) (hl : D.now.length < 4096) (hf : fuse ≠ 0) (x : Nat) :
    Is (createR s nd n x).2 room used (steps + 1) (dec fuse) true (didDir D (.create n x)) ∧ (createR s nd n x).2.file = upd s.file x (some ([], 0)) ∧ (createR s nd n x).1 = 0 := by
  have e : createR s nd n x = (0, { stepped s with dir := upd s.dir nd (didDir (s.dir nd) (.create n x)), file := upd s.file x (some ([], 0)) }) := by
    unfold createR
    rw [h.live [n] (by simp [hn]), if_neg (by simp), h.dir, hg, if_neg (by simp), if_neg (by omega), if_neg (by rw [h.fuse]; exact hf)]
  rw [e]
  refine ⟨⟨h.room, h.used, by show s.steps + 1 = _; rw [h.steps], by show (if s.fuse = -1 then -1 else s.fuse - 1) = _; rw [h.fuse]; rfl, h.on, h.names, ?_⟩, rfl, rfl⟩
  exact (upd_same s.dir nd _).trans (congrArg (fun d => didDir d (.create n x)) h.dir)
theorem is_append (h : Is s room used steps fuse true D) {n : Nm} {x : Nat} {b : List UInt8} {sf : Nat} (hn : right n = true) (hg : mget D.now n = some x) (hx : s.file x = some (b, sf)) (news : List UInt8) (hl : b.length + news.length ≤ 16777216) (hu : used + news.length ≤ room) (hf : fuse ≠ 0) :
    Is (appendR s nd n news).2 room (used + news.length) (steps + 1) (dec fuse) true D ∧ (appendR s nd n news).2.file = upd s.file x (some (b ++ news, sf)) ∧ (appendR s nd n news).1 = 0 := by
  obtain ⟨h1, h2⟩ := h.lf hn [] rfl hg
  have hb : bytesOf s x = b := by unfold bytesOf; rw [hx]; rfl
  have hs : safeOf s x = sf := by unfold safeOf; rw [hx]; rfl
  have e : appendR s nd n news = (0, { stepped s with used := s.used + news.length, file := upd s.file x (some (b ++ news, sf)) }) := by
    unfold appendR
    rw [h1, if_neg (by simp), h2, hb, hs, if_neg (by omega), if_neg (by rw [h.room, h.used]; omega), if_neg (by rw [h.fuse]; exact hf)]
  rw [e]
  exact ⟨⟨h.room, by show s.used + _ = _; rw [h.used], by show s.steps + 1 = _; rw [h.steps], by show (if s.fuse = -1 then -1 else s.fuse - 1) = _; rw [h.fuse]; rfl, h.on, h.names, h.dir⟩, rfl, rfl⟩
theorem out_append (h : Is s room used steps 0 true D) {n : Nm} {x : Nat} {b : List UInt8} {sf : Nat} (hn : right n = true) (hg : mget D.now n = some x) (hx : s.file x = some (b, sf)) (news : List UInt8) (hl : b.length + news.length ≤ 16777216) (hu : used + news.length ≤ room) : (appendR s nd n news).2 = outed s := by
  obtain ⟨h1, h2⟩ := h.lf hn [] rfl hg
  have hb : bytesOf s x = b := by unfold bytesOf; rw [hx]; rfl
  unfold appendR
  rw [h1, if_neg (by simp), h2, hb, if_neg (by omega), if_neg (by rw [h.room, h.used]; omega), if_pos h.fuse]
theorem is_sync (h : Is s room used steps fuse true D) {n : Nm} {x : Nat} {b : List UInt8} {sf : Nat} (hn : right n = true) (hg : mget D.now n = some x) (hx : s.file x = some (b, sf)) (hf : fuse ≠ 0) :
    Is (syncR s nd n).2 room used (steps + 1) (dec fuse) true D ∧ (syncR s nd n).2.file = upd s.file x (some (b, b.length)) ∧ (syncR s nd n).1 = 0 := by
  obtain ⟨h1, h2⟩ := h.lf hn [] rfl hg
  have hb : bytesOf s x = b := by unfold bytesOf; rw [hx]; rfl
  have e : syncR s nd n = (0, { stepped s with file := upd s.file x (some (b, b.length)) }) := by
    unfold syncR
    rw [h1, if_neg (by simp), h2, hb, if_neg (by rw [h.fuse]; exact hf)]
  rw [e]
  exact ⟨⟨h.room, h.used, by show s.steps + 1 = _; rw [h.steps], by show (if s.fuse = -1 then -1 else s.fuse - 1) = _; rw [h.fuse]; rfl, h.on, h.names, h.dir⟩, rfl, rfl⟩
theorem out_sync (h : Is s room used steps 0 true D) {n : Nm} {x : Nat} (hn : right n = true) (hg : mget D.now n = some x) : (syncR s nd n) = (60, outed s) := by
  obtain ⟨h1, h2⟩ := h.lf hn [] rfl hg
  unfold syncR
  rw [h1, if_neg (by simp), if_pos h.fuse]
theorem is_syncDir (h : Is s room used steps fuse true D) (hf : fuse ≠ 0) :
    Is (syncDirR s nd).2 room used (steps + 1) (dec fuse) true (settledDir D D.pend.length) ∧ (syncDirR s nd).2.file = s.file ∧ (syncDirR s nd).1 = 0 := by
  have e : syncDirR s nd = (0, { stepped s with dir := upd s.dir nd (settledDir (s.dir nd) (s.dir nd).pend.length) }) := by
    unfold syncDirR
    rw [h.live [] rfl, if_neg (by simp), if_neg (by rw [h.fuse]; exact hf)]
  rw [e]
  refine ⟨⟨h.room, h.used, by show s.steps + 1 = _; rw [h.steps], by show (if s.fuse = -1 then -1 else s.fuse - 1) = _; rw [h.fuse]; rfl, h.on, h.names, ?_⟩, rfl, rfl⟩
  exact (upd_same s.dir nd _).trans (congrArg (fun d => settledDir d d.pend.length) h.dir)
theorem out_syncDir (h : Is s room used steps 0 true D) : syncDirR s nd = (60, outed s) := by
  unfold syncDirR
  rw [h.live [] rfl, if_neg (by simp), if_pos h.fuse]
theorem out_create (h : Is s room used steps 0 true D) {n : Nm} (hn : right n = true) (hg : mget D.now n = none) (hl : D.now.length < 4096) (x : Nat) : (createR s nd n x).2 = outed s := by
  unfold createR
  rw [h.live [n] (by simp [hn]), if_neg (by simp), h.dir, hg, if_neg (by simp), if_neg (by omega), if_pos h.fuse]
theorem is_rename (h : Is s room used steps fuse true D) {n m : Nm} {x : Nat} (hn : right n = true) (hm : right m = true) (hg : mget D.now n = some x) (hf : fuse ≠ 0) :
    (∃ u, Is (renameR s nd n m).2 room u (steps + 1) (dec fuse) true (didDir D (.rename n m x))) ∧ (renameR s nd n m).2.file = s.file ∧ (renameR s nd n m).1 = 0 := by
  obtain ⟨h1, h2⟩ := h.lf hn [m] (by simp [hm]) hg
  have e : renameR s nd n m = (0, { stepped s with used := s.used - goneOf s nd n m, dir := upd s.dir nd (didDir (s.dir nd) (.rename n m x)) }) := by
    unfold renameR
    rw [h1, if_neg (by simp), h2, if_neg (by rw [h.fuse]; exact hf)]
  rw [e]
  refine ⟨⟨_, ⟨h.room, rfl, by show s.steps + 1 = _; rw [h.steps], by show (if s.fuse = -1 then -1 else s.fuse - 1) = _; rw [h.fuse]; rfl, h.on, h.names, ?_⟩⟩, rfl, rfl⟩
  exact (upd_same s.dir nd _).trans (congrArg (fun d => didDir d (.rename n m x)) h.dir)
theorem out_rename (h : Is s room used steps 0 true D) {n m : Nm} {x : Nat} (hn : right n = true) (hm : right m = true) (hg : mget D.now n = some x) : (renameR s nd n m).2 = outed s := by
  obtain ⟨h1, h2⟩ := h.lf hn [m] (by simp [hm]) hg
  unfold renameR
  rw [h1, if_neg (by simp), if_pos h.fuse]
/-- Without power nothing is done. -/
theorem off_append (h : Is s room used steps fuse false D) (n : Nm) (news : List UInt8) : (appendR s nd n news).2 = s := by unfold appendR; rw [h.off.2, if_pos (by decide)]
theorem off_sync (h : Is s room used steps fuse false D) (n : Nm) : syncR s nd n = (60, s) := by unfold syncR; rw [h.off.2, if_pos (by decide)]
theorem off_syncDir (h : Is s room used steps fuse false D) : syncDirR s nd = (60, s) := by unfold syncDirR; rw [h.off.1, if_pos (by decide)]
theorem off_rename (h : Is s room used steps fuse false D) (n m : Nm) : (renameR s nd n m).2 = s := by unfold renameR; rw [h.off.2, if_pos (by decide)]
theorem off_create (h : Is s room used steps fuse false D) (n : Nm) (x : Nat) : (createR s nd n x).2 = s := by unfold createR; rw [h.off.1, if_pos (by decide)]
theorem is_fuse (h : Is s room used steps fuse on D) (k : Int) (hk : 0 ≤ k) : Is (fuseR s k).2 room used steps k on D ∧ (fuseR s k).2.file = s.file := by
  unfold fuseR
  rw [if_neg (by omega)]
  exact ⟨⟨h.room, h.used, h.steps, rfl, h.on, h.names, h.dir⟩, rfl⟩
/-- What a crash leaves. -/
theorem is_crash (h : Is s room used steps fuse on D) (ps : List Int) :
    ∃ u, Is (crashS s ps) room u steps (-1) true (settledDir D (pickK ps D.pend.length)) ∧ (crashS s ps).file = (stepD ⟨ps.tail, s.file, 0⟩ (settledDir D (pickK ps D.pend.length)).now).file := by
  have h1 : phase1 s ps s.names = (ps.tail, upd s.dir nd (settledDir D (pickK ps D.pend.length))) := by
    unfold phase1
    rw [h.names]
    simp only [List.foldl_cons, List.foldl_nil, step1, h.dir]
  refine ⟨_, ⟨h.room, rfl, h.steps, rfl, rfl, h.names, ?_⟩, ?_⟩
  · show (phase1 s ps s.names).2 nd = _
    rw [h1]; exact upd_same s.dir nd _
  · show (phase2 (phase1 s ps s.names).2 ⟨(phase1 s ps s.names).1, s.file, 0⟩ s.names).file = _
    rw [h1]
    unfold phase2
    rw [h.names]
    simp only [List.foldl_cons, List.foldl_nil, upd_same]
end
end Go.Proofs.YtkcnmajjfljilaaGreatDoor
