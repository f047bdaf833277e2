/- simfs, place: what calls do while the power is on, in any directory (no memory). -/
import Derived.Test.YtkcnmajjfljilaaGreatDoorPlC
namespace Go.Proofs.YtkcnmajjfljilaaGreatDoor
set_option linter.unusedVariables false

/-- The power is on; so much room is used at most. -/
structure Gl (s : Fs) (room used : Int) : Prop where
  on : s.on = true
  fuse : s.fuse = -1
  room : s.room = room
  used : s.used ≤ used
/-- A directory, by what its names are of. -/
structure Dr (s : Fs) (dir : Nm) (cnt : Nat) (mp : Nm → Option Nat) : Prop where
  dirs : dir ∈ s.names ∧ right dir = true
  rising : Rising (s.dir dir).now
  replay : (s.dir dir).now = replay (s.dir dir).pend (s.dir dir).base
  len : (s.dir dir).now.length ≤ cnt
  mp : ∀ n, mget (s.dir dir).now n = mp n
/-- The other directories are as they were. -/
def Beside (dir : Nm) (s s' : Fs) : Prop := s'.names = s.names ∧ ∀ d, d ≠ dir → s'.dir d = s.dir d
theorem Beside.refl (dir : Nm) (s : Fs) : Beside dir s s := ⟨rfl, fun _ _ => rfl⟩
theorem Beside.trans {dir : Nm} {a b c : Fs} (h : Beside dir a b) (k : Beside dir b c) : Beside dir a c := ⟨k.1.trans h.1, fun d hd => (k.2 d hd).trans (h.2 d hd)⟩
theorem Dr.beside {s s' : Fs} {dir d : Nm} {cnt : Nat} {mp : Nm → Option Nat} (h : Dr s d cnt mp) (k : Beside dir s s') (hd : d ≠ dir) : Dr s' d cnt mp := by
  have e := k.2 d hd
  exact ⟨by rw [k.1]; exact h.dirs, by rw [e]; exact h.rising, by rw [e]; exact h.replay, by rw [e]; exact h.len, by rw [e]; exact h.mp⟩
theorem Dr.more {s : Fs} {d : Nm} {cnt c2 : Nat} {mp : Nm → Option Nat} (h : Dr s d cnt mp) (hc : cnt ≤ c2) : Dr s d c2 mp := ⟨h.dirs, h.rising, h.replay, Nat.le_trans h.len hc, h.mp⟩
theorem Gl.more {s : Fs} {room u v : Int} (h : Gl s room u) (hu : u ≤ v) : Gl s room v := ⟨h.on, h.fuse, h.room, Int.le_trans h.used hu⟩
section
variable {s : Fs} {room used : Int} {dir : Nm} {cnt : Nat} {mp : Nm → Option Nat}
theorem gl_live (g : Gl s room used) (d : Dr s dir cnt mp) {ns : List Nm} (hr : ns.all right = true) : liveE s dir ns = 0 := by
  unfold liveE dirE
  rw [g.on, if_pos rfl, if_pos (by rw [List.all_append, hr]; simp [d.dirs.2]), if_pos d.dirs.1]
theorem gl_lf (g : Gl s room used) (d : Dr s dir cnt mp) {n : Nm} {x : Nat} (hn : right n = true) {os : List Nm} (ho : os.all right = true) (hg : mp n = some x) : lfE s dir n os = 0 ∧ fileOf s dir n = x := by
  have h1 : dirE s dir (os ++ [n]) = 0 := by
    unfold dirE
    rw [if_pos (by rw [List.all_append, List.all_append, ho]; simp [hn, d.dirs.2]), if_pos d.dirs.1]
  have h2 : mget (s.dir dir).now n = some x := (d.mp n).trans hg
  refine ⟨?_, by unfold fileOf; rw [h2]; rfl⟩
  unfold lfE fileE
  rw [g.on, if_pos rfl, if_pos h1, h2]
  rfl
theorem gl_fu (g : Gl s room used) : (stepped s).fuse = -1 := by show (if s.fuse = -1 then -1 else s.fuse - 1) = _; rw [g.fuse]; rfl
theorem dr_did (d : Dr s dir cnt mp) {s' : Fs} (o : FOp) (hn : s'.names = s.names) (hd : s'.dir = upd s.dir dir (didDir (s.dir dir) o)) {c2 : Nat} {m2 : Nm → Option Nat} (hc : (o.on (s.dir dir).now).length ≤ c2) (hm : ∀ n, mget (o.on (s.dir dir).now) n = m2 n) :
    Dr s' dir c2 m2 ∧ Beside dir s s' := by
  have e : s'.dir dir = didDir (s.dir dir) o := (congrFun hd dir).trans (upd_same _ _ _)
  refine ⟨⟨by rw [hn]; exact d.dirs, ?_, ?_, ?_, ?_⟩, hn, fun x hx => (congrFun hd x).trans (upd_other _ _ _ _ hx)⟩
  · rw [e]; exact d.rising.on o
  · rw [e]
    show o.on (s.dir dir).now = Go.Proofs.YtkcnmajjfljilaaGreatDoor.replay ((s.dir dir).pend ++ [o]) (s.dir dir).base
    rw [replay_snoc, ← d.replay]
  · rw [e]; exact hc
  · rw [e]; exact hm
theorem gl_create (g : Gl s room used) (d : Dr s dir cnt mp) {n : Nm} (hn : right n = true) (hg : mp n = none) (hl : cnt < 4096) (x : Nat) :
    (createR s dir n x).1 = 0 ∧ Gl (createR s dir n x).2 room used ∧ Dr (createR s dir n x).2 dir (cnt + 1) (fun m => if m = n then some x else mp m) ∧ Beside dir s (createR s dir n x).2 ∧ (createR s dir n x).2.file = upd s.file x (some ([], 0)) := by
  have hlen := d.len
  have e : createR s dir n x = (0, { stepped s with dir := upd s.dir dir (didDir (s.dir dir) (.create n x)), file := upd s.file x (some ([], 0)) }) := by
    unfold createR
    rw [gl_live g d (by simp [hn]), if_neg (by simp), d.mp, hg, if_neg (by simp), if_neg (by omega), if_neg (by rw [g.fuse]; decide)]
  rw [e]
  obtain ⟨d1, d2⟩ := dr_did d (s' := { stepped s with dir := upd s.dir dir (didDir (s.dir dir) (.create n x)), file := upd s.file x (some ([], 0)) }) (.create n x) rfl rfl (c2 := cnt + 1) (m2 := fun m => if m = n then some x else mp m) (by have := mset_length (s.dir dir).now n x; show (mset _ n x).length ≤ _; omega) (fun m => by
    show mget (mset _ n x) m = _
    rw [mget_set d.rising, d.mp])
  exact ⟨rfl, ⟨g.on, gl_fu g, g.room, g.used⟩, d1, d2, rfl⟩
theorem gl_append (g : Gl s room used) (d : Dr s dir cnt mp) {n : Nm} {x : Nat} {b : List UInt8} {sf : Nat} (hn : right n = true) (hg : mp n = some x) (hx : s.file x = some (b, sf)) (news : List UInt8) (hl : b.length + news.length ≤ 16777216) (hu : used + news.length ≤ room) :
    (appendR s dir n news).1 = 0 ∧ Gl (appendR s dir n news).2 room (used + news.length) ∧ Dr (appendR s dir n news).2 dir cnt mp ∧ Beside dir s (appendR s dir n news).2 ∧ (appendR s dir n news).2.file = upd s.file x (some (b ++ news, sf)) := by
  obtain ⟨h1, h2⟩ := gl_lf g d hn (os := []) rfl hg
  have hb : bytesOf s x = b := by unfold bytesOf; rw [hx]; rfl
  have hs : safeOf s x = sf := by unfold safeOf; rw [hx]; rfl
  have hu2 := g.used
  have e : appendR s dir n news = (0, { stepped s with used := s.used + news.length, file := upd s.file x (some (b ++ news, sf)) }) := by
    unfold appendR
    rw [h1, if_neg (by simp), h2, hb, hs, if_neg (by omega), if_neg (by rw [g.room]; omega), if_neg (by rw [g.fuse]; decide)]
  rw [e]
  exact ⟨rfl, ⟨g.on, gl_fu g, g.room, (by show s.used + _ ≤ _; omega)⟩, ⟨d.dirs, d.rising, d.replay, d.len, d.mp⟩, ⟨rfl, fun _ _ => rfl⟩, rfl⟩
theorem gl_sync (g : Gl s room used) (d : Dr s dir cnt mp) {n : Nm} {x : Nat} {b : List UInt8} {sf : Nat} (hn : right n = true) (hg : mp n = some x) (hx : s.file x = some (b, sf)) :
    (syncR s dir n).1 = 0 ∧ Gl (syncR s dir n).2 room used ∧ Dr (syncR s dir n).2 dir cnt mp ∧ Beside dir s (syncR s dir n).2 ∧ (syncR s dir n).2.file = upd s.file x (some (b, b.length)) := by
  obtain ⟨h1, h2⟩ := gl_lf g d hn (os := []) rfl hg
  have hb : bytesOf s x = b := by unfold bytesOf; rw [hx]; rfl
  have e : syncR s dir n = (0, { stepped s with file := upd s.file x (some (b, b.length)) }) := by
    unfold syncR
    rw [h1, if_neg (by simp), h2, hb, if_neg (by rw [g.fuse]; decide)]
  rw [e]
  exact ⟨rfl, ⟨g.on, gl_fu g, g.room, g.used⟩, ⟨d.dirs, d.rising, d.replay, d.len, d.mp⟩, ⟨rfl, fun _ _ => rfl⟩, rfl⟩
theorem gl_rename (g : Gl s room used) (d : Dr s dir cnt mp) {n m : Nm} {x : Nat} (hn : right n = true) (hm : right m = true) (hg : mp n = some x) :
    (renameR s dir n m).1 = 0 ∧ Gl (renameR s dir n m).2 room used ∧ Dr (renameR s dir n m).2 dir (cnt + 1) (fun k => if k = m then some x else if k = n then none else mp k) ∧ Beside dir s (renameR s dir n m).2 ∧ (renameR s dir n m).2.file = s.file := by
  obtain ⟨h1, h2⟩ := gl_lf g d hn (os := [m]) (by simp [hm]) hg
  have e : renameR s dir n m = (0, { stepped s with used := s.used - goneOf s dir n m, dir := upd s.dir dir (didDir (s.dir dir) (.rename n m x)) }) := by
    unfold renameR
    rw [h1, if_neg (by simp), h2, if_neg (by rw [g.fuse]; decide)]
  have hgo : 0 ≤ goneOf s dir n m := by
    unfold goneOf
    split
    · split
      · exact Int.le_refl _
      · omega
    · exact Int.le_refl _
  have hu2 := g.used
  have hlen := d.len
  rw [e]
  obtain ⟨d1, d2⟩ := dr_did d (s' := { stepped s with used := s.used - goneOf s dir n m, dir := upd s.dir dir (didDir (s.dir dir) (.rename n m x)) }) (.rename n m x) rfl rfl (c2 := cnt + 1) (m2 := fun k => if k = m then some x else if k = n then none else mp k)
    (by have h3 := mset_length (mdel (s.dir dir).now n) m x; have h4 := mdel_length (s.dir dir).now n; show (mset (mdel _ n) m x).length ≤ _; omega) (fun k => by
    show mget (mset (mdel _ n) m x) k = _
    rw [mget_set (d.rising.mdel n), mget_del d.rising, d.mp])
  exact ⟨rfl, ⟨g.on, gl_fu g, g.room, (by show s.used - _ ≤ _; omega)⟩, d1, d2, rfl⟩
theorem gl_remove (g : Gl s room used) (d : Dr s dir cnt mp) {n : Nm} {x : Nat} (hn : right n = true) (hg : mp n = some x) :
    (removeR s dir n).1 = 0 ∧ Gl (removeR s dir n).2 room used ∧ Dr (removeR s dir n).2 dir cnt (fun k => if k = n then none else mp k) ∧ Beside dir s (removeR s dir n).2 ∧ (removeR s dir n).2.file = s.file := by
  obtain ⟨h1, h2⟩ := gl_lf g d hn (os := []) rfl hg
  have e : removeR s dir n = (0, { stepped s with used := s.used - (bytesOf s (fileOf s dir n)).length, dir := upd s.dir dir (didDir (s.dir dir) (.remove n)) }) := by
    unfold removeR
    rw [h1, if_neg (by simp), if_neg (by rw [g.fuse]; decide)]
  have hu2 := g.used
  have hlen := d.len
  rw [e]
  obtain ⟨d1, d2⟩ := dr_did d (s' := { stepped s with used := s.used - (bytesOf s (fileOf s dir n)).length, dir := upd s.dir dir (didDir (s.dir dir) (.remove n)) }) (.remove n) rfl rfl (c2 := cnt) (m2 := fun k => if k = n then none else mp k)
    (by have h4 := mdel_length (s.dir dir).now n; show (mdel _ n).length ≤ _; omega) (fun k => by
    show mget (mdel _ n) k = _
    rw [mget_del d.rising, d.mp])
  exact ⟨rfl, ⟨g.on, gl_fu g, g.room, (by show s.used - _ ≤ _; omega)⟩, d1, d2, rfl⟩
theorem gl_syncDir (g : Gl s room used) (d : Dr s dir cnt mp) :
    (syncDirR s dir).1 = 0 ∧ Gl (syncDirR s dir).2 room used ∧ Dr (syncDirR s dir).2 dir cnt mp ∧ Beside dir s (syncDirR s dir).2 ∧ (syncDirR s dir).2.file = s.file := by
  have e : syncDirR s dir = (0, { stepped s with dir := upd s.dir dir (settledDir (s.dir dir) (s.dir dir).pend.length) }) := by
    unfold syncDirR
    rw [gl_live g d (ns := []) rfl, if_neg (by simp), if_neg (by rw [g.fuse]; decide)]
  rw [e]
  have e2 : settledDir (s.dir dir) (s.dir dir).pend.length = ⟨(s.dir dir).now, (s.dir dir).now, []⟩ := by
    unfold settledDir
    rw [List.take_length, ← d.replay]
  have e3 : (upd s.dir dir (settledDir (s.dir dir) (s.dir dir).pend.length)) dir = ⟨(s.dir dir).now, (s.dir dir).now, []⟩ := (upd_same _ _ _).trans e2
  refine ⟨rfl, ⟨g.on, gl_fu g, g.room, g.used⟩, ⟨d.dirs, ?_, ?_, ?_, ?_⟩, ⟨rfl, fun x hx => upd_other _ _ _ _ hx⟩, rfl⟩
  · show Rising ((upd s.dir dir (settledDir (s.dir dir) (s.dir dir).pend.length)) dir).now; rw [e3]; exact d.rising
  · show ((upd s.dir dir (settledDir (s.dir dir) (s.dir dir).pend.length)) dir).now = Go.Proofs.YtkcnmajjfljilaaGreatDoor.replay ((upd s.dir dir (settledDir (s.dir dir) (s.dir dir).pend.length)) dir).pend ((upd s.dir dir (settledDir (s.dir dir) (s.dir dir).pend.length)) dir).base; rw [e3]; rfl
  · show ((upd s.dir dir (settledDir (s.dir dir) (s.dir dir).pend.length)) dir).now.length ≤ _; rw [e3]; exact d.len
  · show ∀ n, mget ((upd s.dir dir (settledDir (s.dir dir) (s.dir dir).pend.length)) dir).now n = mp n; rw [e3]; exact d.mp
/-- A file is laid. -/
structure Laid (s : Fs) (room used : Int) (dir : Nm) (cnt : Nat) (mp : Nm → Option Nat) (name : Nm) (b : List UInt8) (y : Nat) (R : Int × Fs) : Prop where
  ok : R.1 = 0
  gl : Gl R.2 room (used + b.length)
  dr : Dr R.2 dir (cnt + 2) fun k => if k = name then some y else mp k
  beside : Beside dir s R.2
  at_ : R.2.file y = some (b, b.length)
  old : ∀ x, x ≠ y → R.2.file x = s.file x
theorem raw_gl (g : Gl s room used) (d : Dr s dir cnt mp) {name : Nm} (hn : right name = true) (ht : right (tmpN name) = true) (h28 : name.length ≤ 28) (hm : mp (tmpN name) = none) (hc : cnt < 4000) (b : List UInt8) (hb : b.length ≤ 16777216) (hu : used + b.length ≤ room) (y : Nat) :
    Laid s room used dir cnt mp name b y (rawR s dir name b y) := by
  have hr : rawR s dir name b y = rawK s dir name b y 6 := by unfold rawR; rw [if_neg (by omega)]
  rw [hr]
  have k1 : rawK s dir name b y 1 = (0, s) := by
    show thn (0, s) _ = _
    rw [thn_ok rfl]
    show rmListedR s dir (tmpN name) = _
    unfold rmListedR
    have hnot : tmpN name ∉ listN s dir := by
      unfold listN
      rw [if_pos (gl_live g d (ns := []) rfl)]
      intro h
      obtain ⟨p, hp, e⟩ := List.mem_map.1 h
      exact mget_none ((d.mp _).trans hm) hp e
    rw [if_neg (fun e => hnot e.2), gl_live g d (ns := []) rfl]
  obtain ⟨e7, g7, d7, b7, f7⟩ := gl_create g d ht hm (by omega) y
  have k2 : rawK s dir name b y 2 = createR s dir (tmpN name) y := by show thn (rawK s dir name b y 1) _ = _; rw [k1, thn_ok rfl]; rfl
  have k3 : rawK s dir name b y 3 = appendR (createR s dir (tmpN name) y).2 dir (tmpN name) b := by show thn (rawK s dir name b y 2) _ = _; rw [k2, thn_ok e7]; rfl
  generalize (createR s dir (tmpN name) y).2 = s7 at *
  have fy7 : s7.file y = some ([], 0) := (congrFun f7 y).trans (upd_same _ _ _)
  have fo7 : ∀ x, x ≠ y → s7.file x = s.file x := fun x hx => (congrFun f7 x).trans (upd_other _ _ _ _ hx)
  obtain ⟨e8, g8, d8, b8, f8⟩ := gl_append g7 d7 ht (x := y) (by simp) fy7 b (by simp; omega) hu
  have k4 : rawK s dir name b y 4 = syncR (appendR s7 dir (tmpN name) b).2 dir (tmpN name) := by show thn (rawK s dir name b y 3) _ = _; rw [k3, thn_ok e8]; rfl
  generalize (appendR s7 dir (tmpN name) b).2 = s8 at *
  have fy8 : s8.file y = some (b, 0) := (congrFun f8 y).trans (upd_same _ _ _)
  have fo8 : ∀ x, x ≠ y → s8.file x = s.file x := fun x hx => (congrFun f8 x).trans ((upd_other _ _ _ _ hx).trans (fo7 x hx))
  obtain ⟨e9, g9, d9, b9, f9⟩ := gl_sync g8 d8 ht (x := y) (by simp) fy8
  have k5 : rawK s dir name b y 5 = renameR (syncR s8 dir (tmpN name)).2 dir (tmpN name) name := by show thn (rawK s dir name b y 4) _ = _; rw [k4, thn_ok e9]; rfl
  generalize (syncR s8 dir (tmpN name)).2 = s9 at *
  have fy9 : s9.file y = some (b, b.length) := (congrFun f9 y).trans (upd_same _ _ _)
  have fo9 : ∀ x, x ≠ y → s9.file x = s.file x := fun x hx => (congrFun f9 x).trans ((upd_other _ _ _ _ hx).trans (fo8 x hx))
  obtain ⟨e10, g10, d10, b10, f10⟩ := gl_rename g9 d9 ht hn (x := y) (by simp)
  have k6 : rawK s dir name b y 6 = syncDirR (renameR s9 dir (tmpN name) name).2 dir := by show thn (rawK s dir name b y 5) _ = _; rw [k5, thn_ok e10]; rfl
  generalize (renameR s9 dir (tmpN name) name).2 = s10 at *
  obtain ⟨e11, g11, d11, b11, f11⟩ := gl_syncDir g10 d10
  rw [k6]
  refine ⟨e11, g11, ⟨d11.dirs, d11.rising, d11.replay, d11.len, fun n => (d11.mp n).trans ?_⟩, b7.trans (b8.trans (b9.trans (b10.trans b11))), by rw [f11, f10]; exact fy9, fun x hx => by rw [f11, f10]; exact fo9 x hx⟩
  by_cases h1 : n = name
  · rw [if_pos h1, if_pos h1]
  · rw [if_neg h1, if_neg h1]
    by_cases h2 : n = tmpN name
    · rw [if_pos h2, h2, hm]
    · rw [if_neg h2, if_neg h2]
end
end Go.Proofs.YtkcnmajjfljilaaGreatDoor
