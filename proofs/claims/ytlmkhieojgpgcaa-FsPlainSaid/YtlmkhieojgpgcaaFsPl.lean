/- simfs: a file system of one directory, against names and what was put (no memory). -/
import Derived.Test.YtlmkhieojgpgcaaFsIs
namespace Go.Proofs.Ytlmkhieojgpgcaa
set_option linter.unusedVariables false

abbrev Pl := List (Nm × List UInt8)
def idx (ps : Pl) (n : Nm) : Option Nat := ps.findIdx? fun p => p.1 == n
def tot : Pl → Int
  | [] => 0
  | p :: r => (p.2.length : Int) + tot r
theorem tot_perm {a b : Pl} (h : a.Perm b) : tot a = tot b := by
  induction h with
  | nil => rfl
  | cons x _ ih => simp only [tot, ih]
  | swap x y l => simp only [tot]; omega
  | trans _ _ h1 h2 => rw [h1, h2]
theorem idx_none {ps : Pl} {n : Nm} : idx ps n = none ↔ n ∉ ps.map (·.1) := by
  unfold idx
  rw [List.findIdx?_eq_none_iff]
  simp only [List.mem_map, not_exists, not_and, beq_eq_false_iff_ne]
theorem idx_split {ps : Pl} {n : Nm} {i : Nat} (h : idx ps n = some i) : ∃ l b r, ps = l ++ (n, b) :: r ∧ l.length = i := by
  induction ps generalizing i with
  | nil => simp [idx] at h
  | cons p ps ih =>
    unfold idx at h
    rw [List.findIdx?_cons] at h
    by_cases hp : (p.1 == n) = true
    · rw [if_pos hp] at h
      injection h with h
      have : p.1 = n := by simpa using hp
      exact ⟨[], p.2, ps, by rw [← this]; rfl, h⟩
    · rw [if_neg hp] at h
      cases hi : ps.findIdx? (fun p => p.1 == n) with
      | none => rw [hi] at h; simp at h
      | some j =>
        rw [hi] at h
        simp at h
        obtain ⟨l, b, r, rfl, hl⟩ := ih hi
        exact ⟨p :: l, b, r, rfl, by simp [hl, h]⟩
theorem split_erase (l : Pl) (p : Nm × List UInt8) (r : Pl) : (l ++ p :: r).eraseIdx l.length = l ++ r := by
  rw [List.eraseIdx_append_of_length_le (Nat.le_refl _), Nat.sub_self]; rfl
theorem split_set (l : Pl) (p q : Nm × List UInt8) (r : Pl) : (l ++ p :: r).set l.length q = l ++ q :: r := by
  rw [List.set_append, if_neg (Nat.lt_irrefl _), Nat.sub_self]; rfl
theorem idx_at {ps : Pl} {n : Nm} {i : Nat} (h : idx ps n = some i) : ∃ b, ps[i]? = some (n, b) := by
  obtain ⟨l, b, r, rfl, rfl⟩ := idx_split h
  exact ⟨b, by simp⟩
theorem idx_of_mem {ps : Pl} {n : Nm} {b : List UInt8} (h : (n, b) ∈ ps) : ∃ i, idx ps n = some i := by
  cases hi : idx ps n with
  | none => exact absurd (List.mem_map.2 ⟨_, h, rfl⟩) (idx_none.1 hi)
  | some i => exact ⟨i, rfl⟩

structure RelP (s : Fs) (ps : Pl) : Prop where
  names : s.names = [nd]
  on : s.on = true
  fuse : s.fuse = -1
  keys : (ps.map (·.1)).Nodup
  mem : ∀ n b, (n, b) ∈ ps ↔ ∃ x sf, (n, x) ∈ (s.dir nd).now ∧ s.file x = some (b, sf)
  inj : ∀ p ∈ (s.dir nd).now, ∀ q ∈ (s.dir nd).now, p.2 = q.2 → p = q
  rising : Rising (s.dir nd).now
  files : ∀ p ∈ (s.dir nd).now, ∃ q, s.file p.2 = some q
  used : s.used = tot ps
  rights : ∀ p ∈ (s.dir nd).now, right p.1 = true
section
variable {s : Fs} {ps qs : Pl}
theorem RelP.perm (h : RelP s ps) (k : ps.Perm qs) : RelP s qs :=
  { names := h.names, on := h.on, fuse := h.fuse, keys := (k.map _).nodup_iff.1 h.keys, mem := fun n b => by rw [← k.mem_iff]; exact h.mem n b
    inj := h.inj, rising := h.rising, files := h.files, used := h.used.trans (tot_perm k), rights := h.rights }
theorem RelP.new {room : Int} (hr : 0 ≤ room) : RelP (mkdirR (newFs room) nd).2 [] := by
  obtain ⟨h1, h2, h3⟩ := is_mkdir hr
  exact { names := h1.names, on := h1.on, fuse := h1.fuse, keys := List.nodup_nil
          mem := fun n b => by rw [h1.dir]; simp
          inj := fun p hp => by rw [h1.dir] at hp; simp at hp
          rising := by rw [h1.dir]; exact List.Pairwise.nil
          files := fun p hp => by rw [h1.dir] at hp; simp at hp
          used := h1.used
          rights := fun p hp => by rw [h1.dir] at hp; simp at hp }
theorem RelP.live (h : RelP s ps) {ns : List Nm} (he : ¬ liveE s nd ns ≠ 0) : ns.all right = true := by
  have := (live_ok he).1
  rw [List.all_append, Bool.and_eq_true] at this
  exact this.1
theorem RelP.get (h : RelP s ps) {n : Nm} {x : Nat} (hg : mget (s.dir nd).now n = some x) : ∃ b sf, s.file x = some (b, sf) ∧ (n, b) ∈ ps := by
  have hm := mget_some hg
  obtain ⟨⟨b, sf⟩, hq⟩ := h.files _ hm
  exact ⟨b, sf, hq, (h.mem n b).2 ⟨x, sf, hm, hq⟩⟩
theorem RelP.none_ (h : RelP s ps) {n : Nm} (hg : mget (s.dir nd).now n = none) : n ∉ ps.map (·.1) := by
  intro hm
  obtain ⟨⟨m, b⟩, hp, rfl⟩ := List.mem_map.1 hm
  obtain ⟨x, sf, h1, h2⟩ := (h.mem m b).1 hp
  exact mget_none hg h1 rfl
theorem RelP.head {n : Nm} {b : List UInt8} {r : Pl} (h : RelP s ((n, b) :: r)) : n ∉ r.map (·.1) ∧ (r.map (·.1)).Nodup := by
  have := h.keys
  rw [List.map_cons, List.nodup_cons] at this
  exact this
/-- A file comes. -/
theorem RelP.create (h : RelP s ps) {n : Nm} {x : Nat} (hn : right n = true) (hx : s.file x = none) (hg : mget (s.dir nd).now n = none) :
    RelP { stepped s with dir := upd s.dir nd (didDir (s.dir nd) (.create n x)), file := upd s.file x (some ([], 0)) } ((n, []) :: ps) := by
  have hnx : ∀ p ∈ (s.dir nd).now, p.2 ≠ x := fun p hp e => by
    obtain ⟨q, hq⟩ := h.files p hp
    rw [e, hx] at hq; cases hq
  have hd : (upd s.dir nd (didDir (s.dir nd) (.create n x)) nd).now = mset (s.dir nd).now n x := by rw [upd_same]; rfl
  refine { names := h.names, on := h.on, fuse := ?_, keys := ?_, mem := fun m b => ?_, inj := ?_, rising := ?_, files := ?_, used := ?_, rights := ?_ }
  · show (if s.fuse = -1 then -1 else s.fuse - 1) = -1
    rw [if_pos h.fuse]
  · rw [List.map_cons, List.nodup_cons]; exact ⟨h.none_ hg, h.keys⟩
  · simp only [hd, List.mem_cons, mem_mset]
    constructor
    · rintro (e | hm)
      · injection e with e1 e2
        exact ⟨x, 0, .inl (by rw [e1]), by rw [upd_same, e2]⟩
      · obtain ⟨y, sf, h1, h2⟩ := (h.mem m b).1 hm
        exact ⟨y, sf, .inr ⟨h1, mget_none hg h1⟩, by rw [upd_other _ _ _ _ (hnx _ h1)]; exact h2⟩
    · rintro ⟨y, sf, (e | ⟨h1, _⟩), h2⟩
      · injection e with e1 e2
        subst e2
        rw [upd_same] at h2
        injection h2 with h2; injection h2 with h2 _
        exact .inl (by rw [e1, ← h2])
      · rw [upd_other _ _ _ _ (hnx _ h1)] at h2
        exact .inr ((h.mem m b).2 ⟨y, sf, h1, h2⟩)
  · simp only [hd, mem_mset]
    rintro p (rfl | ⟨hp, _⟩) q (rfl | ⟨hq, _⟩) e
    · rfl
    · exact absurd e.symm (hnx q hq)
    · exact absurd e (hnx p hp)
    · exact h.inj p hp q hq e
  · simp only [hd]; exact h.rising.mset _ _
  · simp only [hd, mem_mset]
    rintro p (rfl | ⟨hp, _⟩)
    · exact ⟨_, upd_same _ _ _⟩
    · rw [upd_other _ _ _ _ (hnx p hp)]; exact h.files p hp
  · show s.used = _
    simp only [tot, List.length_nil]
    rw [h.used]; omega
  · simp only [hd, mem_mset]
    rintro p (rfl | ⟨hp, _⟩)
    · exact hn
    · exact h.rights p hp
/-- A file grows. -/
theorem RelP.append {n : Nm} {b : List UInt8} {r : Pl} (h : RelP s ((n, b) :: r)) {x sf : Nat} (news : List UInt8) (hg : mget (s.dir nd).now n = some x) (hx : s.file x = some (b, sf)) :
    RelP { stepped s with used := s.used + news.length, file := upd s.file x (some (b ++ news, sf)) } ((n, b ++ news) :: r) := by
  have hm := mget_some hg
  have hnx : ∀ m y, (m, y) ∈ (s.dir nd).now → m ≠ n → y ≠ x := fun m y hp hne e => hne (by have := h.inj _ hp _ hm e; exact (Prod.mk.inj this).1)
  have hd : (s.dir nd).now = (({ stepped s with used := s.used + news.length, file := upd s.file x (some (b ++ news, sf)) } : Fs).dir nd).now := rfl
  refine { names := h.names, on := h.on, fuse := ?_, keys := ?_, mem := fun m b' => ?_, inj := h.inj, rising := h.rising, files := ?_, used := ?_, rights := ?_ }
  · show (if s.fuse = -1 then -1 else s.fuse - 1) = -1
    rw [if_pos h.fuse]
  · exact h.keys
  · show _ ↔ ∃ y sf', (m, y) ∈ (s.dir nd).now ∧ upd s.file x (some (b ++ news, sf)) y = some (b', sf')
    rw [List.mem_cons]
    constructor
    · rintro (e | hm2)
      · injection e with e1 e2
        exact ⟨x, sf, by rw [e1]; exact hm, by rw [upd_same, e2]⟩
      · have hne : m ≠ n := fun e => h.head.1 (List.mem_map.2 ⟨_, hm2, e⟩)
        obtain ⟨y, sf', h1, h2⟩ := (h.mem m b').1 (List.mem_cons_of_mem _ hm2)
        exact ⟨y, sf', h1, by rw [upd_other _ _ _ _ (hnx m y h1 hne)]; exact h2⟩
    · rintro ⟨y, sf', h1, h2⟩
      by_cases e : m = n
      · subst e
        have : y = x := by have := h.rising.inj h1 hm rfl; exact (Prod.mk.inj this).2
        subst this
        rw [upd_same] at h2
        injection h2 with h2; injection h2 with h2 _
        exact .inl (by rw [h2])
      · rw [upd_other _ _ _ _ (hnx m y h1 e)] at h2
        have := (h.mem m b').2 ⟨y, sf', h1, h2⟩
        rcases List.mem_cons.1 this with e2 | h3
        · exact absurd (Prod.mk.inj e2).1 e
        · exact .inr h3
  · intro p hp
    by_cases e : p.2 = x
    · exact ⟨_, by show upd s.file x _ p.2 = _; rw [e, upd_same]⟩
    · obtain ⟨q, hq⟩ := h.files p hp
      exact ⟨q, by show upd s.file x _ p.2 = _; rw [upd_other _ _ _ _ e]; exact hq⟩
  · show s.used + news.length = _
    rw [h.used]
    simp only [tot, List.length_append]
    omega
  · exact h.rights
/-- An entry goes, whatever comes of it. -/
theorem mem_of_now {n : Nm} {b : List UInt8} {r : Pl} (h : RelP s ((n, b) :: r)) {m : Nm} {b' : List UInt8} (hne : m ≠ n) : (m, b') ∈ r ↔ ∃ x sf, (m, x) ∈ (s.dir nd).now ∧ s.file x = some (b', sf) := by
  rw [← h.mem m b', List.mem_cons]
  constructor
  · exact .inr
  · rintro (e | h)
    · exact absurd (Prod.mk.inj e).1 hne
    · exact h
theorem RelP.remove {n : Nm} {b : List UInt8} {r : Pl} (h : RelP s ((n, b) :: r)) {x sf : Nat} (hg : mget (s.dir nd).now n = some x) (hx : s.file x = some (b, sf)) :
    RelP { stepped s with used := s.used - b.length, dir := upd s.dir nd (didDir (s.dir nd) (.remove n)) } r := by
  have hd : (upd s.dir nd (didDir (s.dir nd) (.remove n)) nd).now = mdel (s.dir nd).now n := by rw [upd_same]; rfl
  refine { names := h.names, on := h.on, fuse := ?_, keys := h.head.2, mem := fun m b' => ?_, inj := ?_, rising := ?_, files := ?_, used := ?_, rights := ?_ }
  · show (if s.fuse = -1 then -1 else s.fuse - 1) = -1
    rw [if_pos h.fuse]
  · simp only [hd, mem_mdel]
    by_cases e : m = n
    · subst e
      constructor
      · intro hm; exact absurd (List.mem_map.2 ⟨_, hm, rfl⟩) h.head.1
      · rintro ⟨y, sf', ⟨_, hne⟩, _⟩; exact absurd rfl hne
    · rw [mem_of_now h e]
      constructor
      · rintro ⟨y, sf', h1, h2⟩; exact ⟨y, sf', ⟨h1, e⟩, h2⟩
      · rintro ⟨y, sf', ⟨h1, _⟩, h2⟩; exact ⟨y, sf', h1, h2⟩
  · simp only [hd, mem_mdel]
    exact fun p hp q hq e => h.inj p hp.1 q hq.1 e
  · simp only [hd]; exact h.rising.mdel _
  · simp only [hd, mem_mdel]; exact fun p hp => h.files p hp.1
  · show s.used - b.length = _
    rw [h.used]; simp only [tot]; omega
  · simp only [hd, mem_mdel]; exact fun p hp => h.rights p hp.1
/-- A name is another one's. -/
theorem RelP.rename {n m : Nm} {b : List UInt8} {r q : Pl} (h : RelP s ((n, b) :: r)) (hrm : right m = true) {x sf : Nat} (hg : mget (s.dir nd).now n = some x) (hx : s.file x = some (b, sf))
    (u : Int) (hu : u = (b.length : Int) + tot q) (hq : ∀ k b', (k, b') ∈ q ↔ (k, b') ∈ r ∧ k ≠ m) (hk : (q.map (·.1)).Nodup) :
    RelP { stepped s with used := u, dir := upd s.dir nd (didDir (s.dir nd) (.rename n m x)) } ((m, b) :: q) := by
  have hm := mget_some hg
  have hd : (upd s.dir nd (didDir (s.dir nd) (.rename n m x)) nd).now = mset (mdel (s.dir nd).now n) m x := by rw [upd_same]; rfl
  have hmem : ∀ p, p ∈ mset (mdel (s.dir nd).now n) m x ↔ p = (m, x) ∨ (p ∈ (s.dir nd).now ∧ p.1 ≠ n ∧ p.1 ≠ m) := fun p => by rw [mem_mset, mem_mdel, and_assoc]
  refine { names := h.names, on := h.on, fuse := ?_, keys := ?_, mem := fun k b' => ?_, inj := ?_, rising := ?_, files := ?_, used := ?_, rights := ?_ }
  · show (if s.fuse = -1 then -1 else s.fuse - 1) = -1
    rw [if_pos h.fuse]
  · rw [List.map_cons, List.nodup_cons]
    refine ⟨fun hc => ?_, hk⟩
    obtain ⟨⟨k, b'⟩, h1, h2⟩ := List.mem_map.1 hc
    exact ((hq k b').1 h1).2 h2
  · simp only [hd, hmem, List.mem_cons]
    constructor
    · rintro (e | h1)
      · injection e with e1 e2
        exact ⟨x, sf, .inl (by rw [e1]), by rw [e2]; exact hx⟩
      · obtain ⟨h2, hne⟩ := (hq k b').1 h1
        have hkn : k ≠ n := fun e => h.head.1 (List.mem_map.2 ⟨_, h2, e⟩)
        obtain ⟨y, sf', h3, h4⟩ := (mem_of_now h hkn).1 h2
        exact ⟨y, sf', .inr ⟨h3, hkn, hne⟩, h4⟩
    · rintro ⟨y, sf', (e | ⟨h1, h2, h3⟩), h4⟩
      · injection e with e1 e2
        subst e2
        have h4' : s.file y = some (b', sf') := h4
        rw [hx] at h4'
        injection h4' with h4'; injection h4' with h4' _
        exact .inl (by rw [e1, h4'])
      · exact .inr ((hq k b').2 ⟨(mem_of_now h h2).2 ⟨y, sf', h1, h4⟩, h3⟩)
  · simp only [hd, hmem]
    have hne : ∀ p, p ∈ (s.dir nd).now → p.1 ≠ n → p.2 ≠ x := fun p hp hne e => hne (by have := h.inj _ hp _ hm e; exact (Prod.mk.inj (show (p.1, p.2) = (n, x) from this)).1)
    rintro p (rfl | ⟨hp, hp1, _⟩) q (rfl | ⟨hq, hq1, _⟩) e
    · rfl
    · exact absurd e.symm (hne q hq hq1)
    · exact absurd e (hne p hp hp1)
    · exact h.inj p hp q hq e
  · simp only [hd]; exact (h.rising.mdel _).mset _ _
  · simp only [hd, hmem]
    rintro p (rfl | ⟨hp, _⟩)
    · exact ⟨_, hx⟩
    · exact h.files p hp
  · show u = _
    rw [hu]; rfl
  · simp only [hd, hmem]
    rintro p (rfl | ⟨hp, _⟩)
    · exact hrm
    · exact h.rights p hp

/-! ### the calls -/
theorem rel_create (h : RelP s ps) (n : Nm) (x : Nat) (hx : s.file x = none) :
    ((createR s nd n x).1 = 0 → idx ps n = none ∧ RelP (createR s nd n x).2 (ps ++ [(n, [])])) ∧ ((createR s nd n x).1 ≠ 0 → (createR s nd n x).2 = s) := by
  unfold createR
  by_cases h1 : liveE s nd [n] ≠ 0
  · rw [if_pos h1]; exact ⟨fun e => absurd e h1, fun _ => rfl⟩
  · rw [if_neg h1]
    by_cases h2 : (mget (s.dir nd).now n).isSome
    · rw [if_pos h2]; exact ⟨fun e => by simp at e, fun _ => rfl⟩
    · rw [if_neg h2]
      by_cases h3 : 4096 ≤ (s.dir nd).now.length
      · rw [if_pos h3]; exact ⟨fun e => by simp at e, fun _ => rfl⟩
      · rw [if_neg h3, if_neg (by rw [h.fuse]; decide)]
        have hg : mget (s.dir nd).now n = none := by simpa using h2
        exact ⟨fun _ => ⟨idx_none.2 (h.none_ hg), (h.create (by simpa using h.live h1) hx hg).perm (List.perm_append_singleton _ _).symm⟩, fun e => absurd rfl e⟩
theorem rel_found (h : RelP s ps) {n : Nm} {os : List Nm} (he : ¬ lfE s nd n os ≠ 0) : ∃ i l b r sf, idx ps n = some i ∧ ps = l ++ (n, b) :: r ∧ l.length = i ∧ mget (s.dir nd).now n = some (fileOf s nd n) ∧ s.file (fileOf s nd n) = some (b, sf) ∧ RelP s ((n, b) :: (l ++ r)) := by
  have hg := (lf_ok he).2.2
  obtain ⟨b, sf, hf, hm⟩ := h.get hg
  obtain ⟨i, hi⟩ := idx_of_mem hm
  obtain ⟨l, b', r, rfl, hl⟩ := idx_split hi
  have hr : RelP s ((n, b') :: (l ++ r)) := h.perm List.perm_middle
  have : b' = b := by
    obtain ⟨y, sf', h1, h2⟩ := (h.mem n b').1 (by simp)
    have := h.rising.inj h1 (mget_some hg) rfl
    rw [(Prod.mk.inj this).2, hf] at h2
    injection h2 with h2
    exact ((Prod.mk.inj h2).1).symm
  subst this
  exact ⟨i, l, b', r, sf, hi, rfl, hl, hg, hf, hr⟩
theorem rel_append (h : RelP s ps) (n : Nm) (news : List UInt8) :
    ((appendR s nd n news).1 = 0 → ∃ i b, idx ps n = some i ∧ ps[i]? = some (n, b) ∧ RelP (appendR s nd n news).2 (ps.set i (n, b ++ news))) ∧ ((appendR s nd n news).1 ≠ 0 → (appendR s nd n news).2 = s) := by
  unfold appendR
  by_cases h1 : lfE s nd n [] ≠ 0
  · rw [if_pos h1]; exact ⟨fun e => absurd e h1, fun _ => rfl⟩
  · rw [if_neg h1]
    by_cases h2 : 16777216 < (bytesOf s (fileOf s nd n)).length + news.length
    · rw [if_pos h2]; exact ⟨fun e => by simp at e, fun _ => rfl⟩
    · rw [if_neg h2]
      by_cases h3 : s.room < s.used + news.length
      · rw [if_pos h3]; exact ⟨fun e => by simp at e, fun _ => rfl⟩
      · rw [if_neg h3, if_neg (by rw [h.fuse]; decide)]
        obtain ⟨i, l, b, r, sf, hi, rfl, hl, hg, hf, hr⟩ := rel_found h h1
        have hb : bytesOf s (fileOf s nd n) = b := by unfold bytesOf; rw [hf]; rfl
        have hs : safeOf s (fileOf s nd n) = sf := by unfold safeOf; rw [hf]; rfl
        refine ⟨fun _ => ⟨i, b, hi, by rw [← hl]; simp, ?_⟩, fun e => absurd rfl e⟩
        rw [hb, hs, ← hl, split_set]
        exact (hr.append news hg hf).perm List.perm_middle.symm
theorem rel_remove (h : RelP s ps) (n : Nm) :
    ((removeR s nd n).1 = 0 → ∃ i b, idx ps n = some i ∧ ps[i]? = some (n, b) ∧ RelP (removeR s nd n).2 (ps.eraseIdx i)) ∧ ((removeR s nd n).1 ≠ 0 → (removeR s nd n).2 = s) := by
  unfold removeR
  by_cases h1 : lfE s nd n [] ≠ 0
  · rw [if_pos h1]; exact ⟨fun e => absurd e h1, fun _ => rfl⟩
  · rw [if_neg h1, if_neg (by rw [h.fuse]; decide)]
    obtain ⟨i, l, b, r, sf, hi, rfl, hl, hg, hf, hr⟩ := rel_found h h1
    have hb : bytesOf s (fileOf s nd n) = b := by unfold bytesOf; rw [hf]; rfl
    refine ⟨fun _ => ⟨i, b, hi, by rw [← hl]; simp, ?_⟩, fun e => absurd rfl e⟩
    rw [hb, ← hl, split_erase]
    exact hr.remove hg hf
/-- Without what has a name. -/
def less (ps : Pl) (m : Nm) : Pl := match idx ps m with
  | none => ps
  | some k => ps.eraseIdx k
theorem less_spec {ps : Pl} (hk : (ps.map (·.1)).Nodup) (m : Nm) : (∀ k b', (k, b') ∈ less ps m ↔ (k, b') ∈ ps ∧ k ≠ m) ∧ ((less ps m).map (·.1)).Nodup := by
  unfold less
  cases hi : idx ps m with
  | none =>
    have := idx_none.1 hi
    exact ⟨fun k b' => ⟨fun h => ⟨h, fun e => this (List.mem_map.2 ⟨_, h, e⟩)⟩, fun h => h.1⟩, hk⟩
  | some j =>
    obtain ⟨l, b, r, rfl, rfl⟩ := idx_split hi
    simp only [split_erase]
    have h1 := ((List.perm_middle (a := (m, b)) (l₁ := l) (l₂ := r)).map (·.1)).nodup_iff.1 hk
    rw [List.map_cons, List.nodup_cons] at h1
    refine ⟨fun k b' => ?_, h1.2⟩
    constructor
    · intro h; exact ⟨by simp only [List.mem_append, List.mem_cons] at h ⊢; rcases h with h | h; exact .inl h; exact .inr (.inr h), fun e => h1.1 (List.mem_map.2 ⟨_, h, e⟩)⟩
    · rintro ⟨h, hne⟩
      simp only [List.mem_append, List.mem_cons] at h ⊢
      rcases h with h | h | h
      · exact .inl h
      · exact absurd (Prod.mk.inj h).1 hne
      · exact .inr h
theorem less_tot {ps : Pl} (hk : (ps.map (·.1)).Nodup) (m : Nm) : ∀ b, (m, b) ∈ ps → tot (less ps m) = tot ps - b.length := by
  intro b hb
  obtain ⟨i, hi⟩ := idx_of_mem hb
  unfold less
  rw [hi]
  obtain ⟨l, b', r, rfl, rfl⟩ := idx_split hi
  simp only [split_erase]
  have hp := List.perm_middle (a := (m, b')) (l₁ := l) (l₂ := r)
  have h1 := (hp.map (·.1)).nodup_iff.1 hk
  rw [List.map_cons, List.nodup_cons] at h1
  have : b = b' := by
    rcases List.mem_cons.1 (hp.mem_iff.1 hb) with e | h
    · exact (Prod.mk.inj e).2
    · exact absurd (List.mem_map.2 ⟨_, h, rfl⟩) h1.1
  rw [tot_perm hp]
  simp only [tot, this]
  omega
theorem rel_rename (h : RelP s ps) (n m : Nm) :
    ((renameR s nd n m).1 = 0 → ∃ i b, idx ps n = some i ∧ ps[i]? = some (n, b) ∧ RelP (renameR s nd n m).2 (less (ps.eraseIdx i) m ++ [(m, b)])) ∧ ((renameR s nd n m).1 ≠ 0 → (renameR s nd n m).2 = s) := by
  unfold renameR
  by_cases h1 : lfE s nd n [m] ≠ 0
  · rw [if_pos h1]; exact ⟨fun e => absurd e h1, fun _ => rfl⟩
  · rw [if_neg h1, if_neg (by rw [h.fuse]; decide)]
    obtain ⟨i, l, b, r, sf, hi, rfl, hl, hg, hf, hr⟩ := rel_found h h1
    refine ⟨fun _ => ⟨i, b, hi, by rw [← hl]; simp, ?_⟩, fun e => absurd rfl e⟩
    rw [← hl, split_erase]
    obtain ⟨hq, hk⟩ := less_spec hr.head.2 m
    refine (hr.rename (by have := (lf_ok h1).1; simp at this; exact this.1) hg hf _ ?_ hq hk).perm (List.perm_append_singleton _ _).symm
    have hu : s.used = (b.length : Int) + tot (l ++ r) := hr.used
    rw [hu]
    unfold goneOf
    cases hm : mget (s.dir nd).now m with
    | none =>
      have hno : m ∉ (l ++ r).map (·.1) := fun hc => by
        have := hr.none_ hm
        rw [List.map_cons] at this
        exact this (List.mem_cons_of_mem _ hc)
      have : less (l ++ r) m = l ++ r := by unfold less; rw [idx_none.2 hno]
      rw [this]; simp
    | some y =>
      simp only []
      by_cases e : y = fileOf s nd n
      · rw [if_pos e]
        have := hr.inj _ (mget_some hm) _ (mget_some hg) e
        have e2 : m = n := (Prod.mk.inj this).1
        have : less (l ++ r) m = l ++ r := by unfold less; rw [idx_none.2 (by rw [e2]; exact hr.head.1)]
        rw [this]; omega
      · rw [if_neg e]
        obtain ⟨b', sf', hy, hmem⟩ := hr.get hm
        have hb' : bytesOf s y = b' := by unfold bytesOf; rw [hy]; rfl
        have hne : m ≠ n := fun e2 => by subst e2; rw [hg] at hm; injection hm with hm; exact e hm.symm
        have hin : (m, b') ∈ l ++ r := by
          rcases List.mem_cons.1 hmem with e2 | h2
          · exact absurd (Prod.mk.inj e2).1 hne
          · exact h2
        rw [hb', less_tot hr.head.2 m b' hin]
        omega
/-- The entries are what was put. -/
theorem RelP.all (h : RelP s ps) : ((s.dir nd).now.map fun p => (p.1, bytesOf s p.2)).Perm ps := by
  have nd1 : ((s.dir nd).now.map fun p => (p.1, bytesOf s p.2)).Nodup := by
    rw [List.Nodup, List.pairwise_map]
    refine h.rising.imp fun {p q} hpq e => ?_
    have := (Prod.mk.inj e).1
    rw [this] at hpq
    exact List.lt_irrefl _ hpq
  have nd2 : ps.Nodup := by
    have := h.keys
    rw [List.Nodup, List.pairwise_map] at this
    exact this.imp fun {p q} hpq e => hpq (by rw [e])
  refine (List.perm_ext_iff_of_nodup nd1 nd2).2 fun ⟨n, b⟩ => ?_
  rw [h.mem, List.mem_map]
  constructor
  · rintro ⟨⟨m, x⟩, h1, h2⟩
    obtain ⟨⟨b', sf⟩, hq⟩ := h.files _ h1
    have e := Prod.mk.inj h2
    refine ⟨x, sf, by rw [← e.1]; exact h1, ?_⟩
    have : bytesOf s x = b' := by unfold bytesOf; rw [hq]; rfl
    rw [hq, ← e.2, this]
  · rintro ⟨x, sf, h1, h2⟩
    exact ⟨(n, x), h1, by unfold bytesOf; rw [h2]; rfl⟩
end
end Go.Proofs.Ytlmkhieojgpgcaa
