/- simfs: a file system of one directory (no memory). -/
import Derived.Test.YtlmkhieojgpgcaaFsWf
namespace Go.Proofs.Ytlmkhieojgpgcaa
set_option linter.unusedVariables false

def nd : Nm := [100]
def na : Nm := [97]
theorem nd_right : right nd = true := by decide
theorem na_right : right na = true := by decide
/-- A file system of the one directory d. -/
structure Is (s : Fs) (room used steps fuse : Int) (on : Bool) (D : Dir) : Prop where
  room : s.room = room
  used : s.used = used
  steps : s.steps = steps
  fuse : s.fuse = fuse
  on : s.on = on
  names : s.names = [nd]
  dir : s.dir nd = D
def dec (fuse : Int) : Int := if fuse = -1 then -1 else fuse - 1
section
variable {s : Fs} {room used steps fuse : Int} {on : Bool} {D : Dir}
theorem Is.live (h : Is s room used steps fuse true D) (ns : List Nm) (hr : ns.all right = true) : liveE s nd ns = 0 := by
  unfold liveE dirE
  rw [h.on, h.names, if_pos rfl, if_pos (by rw [List.all_append, hr]; decide), if_pos (List.mem_singleton.2 rfl)]
theorem Is.lf (h : Is s room used steps fuse true D) {n : Nm} {x : Nat} (hn : right n = true) (os : List Nm) (ho : os.all right = true) (hg : mget D.now n = some x) : lfE s nd n os = 0 ∧ fileOf s nd n = x := by
  have h1 : dirE s nd (os ++ [n]) = 0 := by
    unfold dirE
    rw [h.names, if_pos (by rw [List.all_append, List.all_append, ho]; simp [hn]; decide), if_pos (List.mem_singleton.2 rfl)]
  refine ⟨?_, by unfold fileOf; rw [h.dir, hg]; rfl⟩
  unfold lfE fileE
  rw [h.on, if_pos rfl, if_pos h1, h.dir, hg]
  rfl
theorem Is.off (h : Is s room used steps fuse false D) : (∀ ns, liveE s nd ns = 60) ∧ ∀ n os, lfE s nd n os = 60 := by
  refine ⟨fun ns => ?_, fun n os => ?_⟩
  · unfold liveE; rw [h.on]; rfl
  · unfold lfE; rw [h.on]; rfl
theorem Is.out (h : Is s room used steps fuse on D) : Is (outed s) room used steps fuse false D := ⟨h.room, h.used, h.steps, h.fuse, rfl, h.names, h.dir⟩
theorem is_mkdir (hr : 0 ≤ room) : Is (mkdirR (newFs room) nd).2 room 0 1 (-1) true ⟨[], [], []⟩ ∧ (mkdirR (newFs room) nd).2.file = (fun _ => none) ∧ (mkdirR (newFs room) nd).1 = 0 := by
  have h : mkdirR (newFs room) nd = (0, mkdirS (stepped (newFs room)) nd) := rfl
  rw [h]
  exact ⟨⟨rfl, rfl, rfl, rfl, rfl, rfl, rfl⟩, rfl, rfl⟩
theorem is_create (h : Is s room used steps fuse true D) {n : Nm} (hn : right n = true) (hg : mget D.now n = none) (hl : D.now.length < 4096) (hf : fuse ≠ 0) (x : Nat) :
    Is (createR s nd n x).2 room used (steps + 1) (dec fuse) true (didDir D (.create n x)) ∧ (createR s nd n x).2.file = upd s.file x (some ([], 0)) ∧ (createR s nd n x).1 = 0 := by
  have e : createR s nd n x = (0, { stepped s with dir := upd s.dir nd (didDir (s.dir nd) (.create n x)), file := upd s.file x (some ([], 0)) }) := by
    unfold createR
    rw [h.live [n] (by simp [hn]), if_neg (by simp), h.dir, hg, if_neg (by simp), if_neg (by omega), if_neg (by rw [h.fuse]; exact hf)]
  rw [e]
  refine ⟨⟨h.room, h.used, by show s.steps + 1 = _; rw [h.steps], by show (if s.fuse = -1 then -1 else s.fuse - 1) = _; rw [h.fuse]; rfl, h.on, h.names, ?_⟩, rfl, rfl⟩
  exact (upd_same s.dir nd _).trans (congrArg (fun d => didDir d (.create n x)) h.dir)
theorem is_append (h : Is s room used steps fuse true D) {n : Nm} {x : Nat} {b : List UInt8} {sf : Nat} (hn : right n = true) (hg : mget D.now n = some x) (hx : s.file x = some (b, sf)) (news : List UInt8) (hl : b.length + news.length ≤ 16777216) (hu : used + news.length ≤ room) (hf : fuse ≠ 0) :
    Is (appendR s nd n news).2 room (used + news.length) (steps + 1) (dec fuse) true D ∧ (appendR s nd n news).2.file = upd s.file x (some (b ++ news, sf)) ∧ (appendR s nd n news).1 = 0 := by
  obtain ⟨h1, h2⟩ := h.lf hn [] rfl hg
  have hb : bytesOf s x = b := by unfold bytesOf; rw [hx]; rfl
  have hs : safeOf s x = sf := by unfold safeOf; rw [hx]; rfl
  have e : appendR s nd n news = (0, { stepped s with used := s.used + news.length, file := upd s.file x (some (b ++ news, sf)) }) := by
    unfold appendR
    rw [h1, if_neg (by simp), h2, hb, hs, if_neg (by omega), if_neg (by rw [h.room, h.used]; omega), if_neg (by rw [h.fuse]; exact hf)]
  rw [e]
  exact ⟨⟨h.room, by show s.used + _ = _; rw [h.used], by show s.steps + 1 = _; rw [h.steps], by show (if s.fuse = -1 then -1 else s.fuse - 1) = _; rw [h.fuse]; rfl, h.on, h.names, h.dir⟩, rfl, rfl⟩
theorem out_append (h : Is s room used steps 0 true D) {n : Nm} {x : Nat} {b : List UInt8} {sf : Nat} (hn : right n = true) (hg : mget D.now n = some x) (hx : s.file x = some (b, sf)) (news : List UInt8) (hl : b.length + news.length ≤ 16777216) (hu : used + news.length ≤ room) : (appendR s nd n news).2 = outed s := by
  obtain ⟨h1, h2⟩ := h.lf hn [] rfl hg
  have hb : bytesOf s x = b := by unfold bytesOf; rw [hx]; rfl
  unfold appendR
  rw [h1, if_neg (by simp), h2, hb, if_neg (by omega), if_neg (by rw [h.room, h.used]; omega), if_pos h.fuse]
theorem is_sync (h : Is s room used steps fuse true D) {n : Nm} {x : Nat} {b : List UInt8} {sf : Nat} (hn : right n = true) (hg : mget D.now n = some x) (hx : s.file x = some (b, sf)) (hf : fuse ≠ 0) :
    Is (syncR s nd n).2 room used (steps + 1) (dec fuse) true D ∧ (syncR s nd n).2.file = upd s.file x (some (b, b.length)) ∧ (syncR s nd n).1 = 0 := by
  obtain ⟨h1, h2⟩ := h.lf hn [] rfl hg
  have hb : bytesOf s x = b := by unfold bytesOf; rw [hx]; rfl
  have e : syncR s nd n = (0, { stepped s with file := upd s.file x (some (b, b.length)) }) := by
    unfold syncR
    rw [h1, if_neg (by simp), h2, hb, if_neg (by rw [h.fuse]; exact hf)]
  rw [e]
  exact ⟨⟨h.room, h.used, by show s.steps + 1 = _; rw [h.steps], by show (if s.fuse = -1 then -1 else s.fuse - 1) = _; rw [h.fuse]; rfl, h.on, h.names, h.dir⟩, rfl, rfl⟩
theorem out_sync (h : Is s room used steps 0 true D) {n : Nm} {x : Nat} (hn : right n = true) (hg : mget D.now n = some x) : (syncR s nd n) = (60, outed s) := by
  obtain ⟨h1, h2⟩ := h.lf hn [] rfl hg
  unfold syncR
  rw [h1, if_neg (by simp), if_pos h.fuse]
theorem is_syncDir (h : Is s room used steps fuse true D) (hf : fuse ≠ 0) :
    Is (syncDirR s nd).2 room used (steps + 1) (dec fuse) true (settledDir D D.pend.length) ∧ (syncDirR s nd).2.file = s.file ∧ (syncDirR s nd).1 = 0 := by
  have e : syncDirR s nd = (0, { stepped s with dir := upd s.dir nd (settledDir (s.dir nd) (s.dir nd).pend.length) }) := by
    unfold syncDirR
    rw [h.live [] rfl, if_neg (by simp), if_neg (by rw [h.fuse]; exact hf)]
  rw [e]
  refine ⟨⟨h.room, h.used, by show s.steps + 1 = _; rw [h.steps], by show (if s.fuse = -1 then -1 else s.fuse - 1) = _; rw [h.fuse]; rfl, h.on, h.names, ?_⟩, rfl, rfl⟩
  exact (upd_same s.dir nd _).trans (congrArg (fun d => settledDir d d.pend.length) h.dir)
theorem out_syncDir (h : Is s room used steps 0 true D) : syncDirR s nd = (60, outed s) := by
  unfold syncDirR
  rw [h.live [] rfl, if_neg (by simp), if_pos h.fuse]
theorem out_create (h : Is s room used steps 0 true D) {n : Nm} (hn : right n = true) (hg : mget D.now n = none) (hl : D.now.length < 4096) (x : Nat) : (createR s nd n x).2 = outed s := by
  unfold createR
  rw [h.live [n] (by simp [hn]), if_neg (by simp), h.dir, hg, if_neg (by simp), if_neg (by omega), if_pos h.fuse]
theorem is_rename (h : Is s room used steps fuse true D) {n m : Nm} {x : Nat} (hn : right n = true) (hm : right m = true) (hg : mget D.now n = some x) (hf : fuse ≠ 0) :
    (∃ u, Is (renameR s nd n m).2 room u (steps + 1) (dec fuse) true (didDir D (.rename n m x))) ∧ (renameR s nd n m).2.file = s.file ∧ (renameR s nd n m).1 = 0 := by
  obtain ⟨h1, h2⟩ := h.lf hn [m] (by simp [hm]) hg
  have e : renameR s nd n m = (0, { stepped s with used := s.used - goneOf s nd n m, dir := upd s.dir nd (didDir (s.dir nd) (.rename n m x)) }) := by
    unfold renameR
    rw [h1, if_neg (by simp), h2, if_neg (by rw [h.fuse]; exact hf)]
  rw [e]
  refine ⟨⟨_, ⟨h.room, rfl, by show s.steps + 1 = _; rw [h.steps], by show (if s.fuse = -1 then -1 else s.fuse - 1) = _; rw [h.fuse]; rfl, h.on, h.names, ?_⟩⟩, rfl, rfl⟩
  exact (upd_same s.dir nd _).trans (congrArg (fun d => didDir d (.rename n m x)) h.dir)
theorem out_rename (h : Is s room used steps 0 true D) {n m : Nm} {x : Nat} (hn : right n = true) (hm : right m = true) (hg : mget D.now n = some x) : (renameR s nd n m).2 = outed s := by
  obtain ⟨h1, h2⟩ := h.lf hn [m] (by simp [hm]) hg
  unfold renameR
  rw [h1, if_neg (by simp), if_pos h.fuse]
/-- Without power nothing is done. -/
theorem off_append (h : Is s room used steps fuse false D) (n : Nm) (news : List UInt8) : (appendR s nd n news).2 = s := by unfold appendR; rw [h.off.2, if_pos (by decide)]
theorem off_sync (h : Is s room used steps fuse false D) (n : Nm) : syncR s nd n = (60, s) := by unfold syncR; rw [h.off.2, if_pos (by decide)]
theorem off_syncDir (h : Is s room used steps fuse false D) : syncDirR s nd = (60, s) := by unfold syncDirR; rw [h.off.1, if_pos (by decide)]
theorem off_rename (h : Is s room used steps fuse false D) (n m : Nm) : (renameR s nd n m).2 = s := by unfold renameR; rw [h.off.2, if_pos (by decide)]
theorem off_create (h : Is s room used steps fuse false D) (n : Nm) (x : Nat) : (createR s nd n x).2 = s := by unfold createR; rw [h.off.1, if_pos (by decide)]
theorem is_fuse (h : Is s room used steps fuse on D) (k : Int) (hk : 0 ≤ k) : Is (fuseR s k).2 room used steps k on D ∧ (fuseR s k).2.file = s.file := by
  unfold fuseR
  rw [if_neg (by omega)]
  exact ⟨⟨h.room, h.used, h.steps, rfl, h.on, h.names, h.dir⟩, rfl⟩
/-- What a crash leaves. -/
theorem is_crash (h : Is s room used steps fuse on D) (ps : List Int) :
    ∃ u, Is (crashS s ps) room u steps (-1) true (settledDir D (pickK ps D.pend.length)) ∧ (crashS s ps).file = (stepD ⟨ps.tail, s.file, 0⟩ (settledDir D (pickK ps D.pend.length)).now).file := by
  have h1 : phase1 s ps s.names = (ps.tail, upd s.dir nd (settledDir D (pickK ps D.pend.length))) := by
    unfold phase1
    rw [h.names]
    simp only [List.foldl_cons, List.foldl_nil, step1, h.dir]
  refine ⟨_, ⟨h.room, rfl, h.steps, rfl, rfl, h.names, ?_⟩, ?_⟩
  · show (phase1 s ps s.names).2 nd = _
    rw [h1]; exact upd_same s.dir nd _
  · show (phase2 (phase1 s ps s.names).2 ⟨(phase1 s ps s.names).1, s.file, 0⟩ s.names).file = _
    rw [h1]
    unfold phase2
    rw [h.names]
    simp only [List.foldl_cons, List.foldl_nil, upd_same]
end
end Go.Proofs.Ytlmkhieojgpgcaa
