/- place: Put in a file system of one directory, wherever the power goes (no memory). -/
import Derived.Test.YtnkhgajghfonhaaGreatDoorPlC
namespace Go.Proofs.YtnkhgajghfonhaaGreatDoor
set_option linter.unusedVariables false

def nT : Nm := tmpN na
theorem nT_right : right nT = true := by decide
theorem nT_not : na ≠ nT := by decide
theorem nT_tmp : hasTmp nT = true := by decide
theorem na_tmp : hasTmp na = false := by decide
theorem step2_other (st : St2) (y x : Nat) (h : x ≠ y) : (step2 st y).file x = st.file x := by
  unfold step2
  split
  · exact upd_other _ _ _ _ h
  · rfl
/-- What a crash leaves of a file whose bytes are safe. -/
theorem cut_safe (l : List (Nm × Nat)) (st : St2) (x : Nat) (b : List UInt8) (hx : st.file x = some (b, b.length)) : (stepD st l).file x = some (b, b.length) := by
  induction l generalizing st with
  | nil => exact hx
  | cons p r ih =>
    show (stepD (step2 st p.2) r).file x = _
    refine ih _ ?_
    by_cases e : x = p.2
    · have hk := pickK_le st.ps (b.length - b.length)
      unfold step2
      rw [← e, hx]
      have h0 : b.length + pickK st.ps (b.length - b.length) = b.length := by omega
      show upd st.file x (some (b.take _, _)) x = _
      rw [upd_same, h0, List.take_length]
    · exact (step2_other st p.2 x e).trans hx
section
variable {s : Fs} {room used steps fuse : Int} {on : Bool} {D : Dir}
theorem mget_one (n : Nm) (x : Nat) : mget [(n, x)] n = some x := by simp [mget]
theorem is_remove (h : Is s room used steps fuse true D) {n : Nm} {x : Nat} (hn : right n = true) (hg : mget D.now n = some x) (hf : fuse ≠ 0) :
    (∃ u, Is (removeR s nd n).2 room u (steps + 1) (dec fuse) true (didDir D (.remove n))) ∧ (removeR s nd n).2.file = s.file ∧ (removeR s nd n).1 = 0 := by
  obtain ⟨h1, h2⟩ := h.lf hn [] rfl hg
  have e : removeR s nd n = (0, { stepped s with used := s.used - (bytesOf s (fileOf s nd n)).length, dir := upd s.dir nd (didDir (s.dir nd) (.remove n)) }) := by
    unfold removeR
    rw [h1, if_neg (by simp), if_neg (by rw [h.fuse]; exact hf)]
  rw [e]
  refine ⟨⟨_, ⟨h.room, rfl, by show s.steps + 1 = _; rw [h.steps], by show (if s.fuse = -1 then -1 else s.fuse - 1) = _; rw [h.fuse]; rfl, h.on, h.names, ?_⟩⟩, rfl, rfl⟩
  exact (upd_same s.dir nd _).trans (congrArg (fun d => didDir d (.remove n)) h.dir)
theorem out_create2 (h : Is s room used steps 0 true D) {n : Nm} (hn : right n = true) (hg : mget D.now n = none) (hl : D.now.length < 4096) (x : Nat) : createR s nd n x = (60, outed s) := by
  unfold createR
  rw [h.live [n] (by simp [hn]), if_neg (by simp), h.dir, hg, if_neg (by simp), if_neg (by omega), if_pos h.fuse]
theorem out_append2 (h : Is s room used steps 0 true D) {n : Nm} {x : Nat} {b : List UInt8} {sf : Nat} (hn : right n = true) (hg : mget D.now n = some x) (hx : s.file x = some (b, sf)) (news : List UInt8) (hl : b.length + news.length ≤ 16777216) (hu : used + news.length ≤ room) : appendR s nd n news = (60, outed s) := by
  obtain ⟨h1, h2⟩ := h.lf hn [] rfl hg
  have hb : bytesOf s x = b := by unfold bytesOf; rw [hx]; rfl
  unfold appendR
  rw [h1, if_neg (by simp), h2, hb, if_neg (by omega), if_neg (by rw [h.room, h.used]; omega), if_pos h.fuse]
theorem out_rename2 (h : Is s room used steps 0 true D) {n m : Nm} {x : Nat} (hn : right n = true) (hm : right m = true) (hg : mget D.now n = some x) : renameR s nd n m = (60, outed s) := by
  obtain ⟨h1, h2⟩ := h.lf hn [m] (by simp [hm]) hg
  unfold renameR
  rw [h1, if_neg (by simp), if_pos h.fuse]
theorem Is.list (h : Is s room used steps fuse true D) : listN s nd = D.now.map (·.1) := by
  unfold listN; rw [if_pos (h.live [] rfl), h.dir]
theorem rm_not (h : Is s room used steps fuse true D) {n : Nm} (hn : n ∉ D.now.map (·.1)) : rmListedR s nd n = (0, s) := by
  unfold rmListedR
  rw [h.list, if_neg (fun e => hn e.2), h.live [] rfl]
theorem is_rename2 (h : Is s room used steps fuse true D) {n m : Nm} {x : Nat} (hn : right n = true) (hm : right m = true) (hg : mget D.now n = some x) (hf : fuse ≠ 0) :
    (∃ u, u ≤ used ∧ Is (renameR s nd n m).2 room u (steps + 1) (dec fuse) true (didDir D (.rename n m x))) ∧ (renameR s nd n m).2.file = s.file ∧ (renameR s nd n m).1 = 0 := by
  obtain ⟨h1, h2⟩ := h.lf hn [m] (by simp [hm]) hg
  have e : renameR s nd n m = (0, { stepped s with used := s.used - goneOf s nd n m, dir := upd s.dir nd (didDir (s.dir nd) (.rename n m x)) }) := by
    unfold renameR
    rw [h1, if_neg (by simp), h2, if_neg (by rw [h.fuse]; exact hf)]
  rw [e]
  have hgo : 0 ≤ goneOf s nd n m := by
    unfold goneOf
    split
    · split
      · exact Int.le_refl _
      · omega
    · exact Int.le_refl _
  refine ⟨⟨s.used - goneOf s nd n m, by rw [h.used]; omega, ⟨h.room, rfl, by show s.steps + 1 = _; rw [h.steps], by show (if s.fuse = -1 then -1 else s.fuse - 1) = _; rw [h.fuse]; rfl, h.on, h.names, ?_⟩⟩, rfl, rfl⟩
  exact (upd_same s.dir nd _).trans (congrArg (fun d => didDir d (.rename n m x)) h.dir)
/-- The steps of Raw with the name a, where they are done. -/
def E1 (D : Dir) (y : Nat) : Dir := didDir D (.create nT y)
def E2 (D : Dir) (y : Nat) : Dir := didDir (E1 D y) (.rename nT na y)
end
theorem n60 : (60 : Int) ≠ 0 := by decide
/-- All that Raw does, given how many steps the fuse lets by. -/
structure RawOut (s : Fs) (D : Dir) (b : List UInt8) (y : Nat) (q : Int) (E : Int) (s' : Fs) : Prop where
  ok : E = 0 ↔ q = -1 ∨ 5 ≤ q
  is_ : ∃ room used steps fuse on D', Is s' room used steps fuse on D' ∧ ((E ≠ 0 ∧ D' = D) ∨ (E ≠ 0 ∧ D' = E1 D y) ∨ (E ≠ 0 ∧ D' = E2 D y ∧ s'.file y = some (b, b.length)) ∨ (E = 0 ∧ D' = settledDir (E2 D y) (E2 D y).pend.length ∧ s'.file y = some (b, b.length) ∧ on = true ∧ (q = -1 → fuse = -1) ∧ room = s.room ∧ steps = s.steps + 5 ∧ used ≤ s.used + b.length))
  old : ∀ x, x ≠ y → s'.file x = s.file x
theorem raw_out {s : Fs} {room used steps q : Int} {D : Dir} (h : Is s room used steps q true D) (hq : -1 ≤ q) (hT : nT ∉ D.now.map (·.1)) (hl : D.now.length < 4095) (b : List UInt8) (hb : b.length ≤ 16777216) (hu : used + b.length ≤ room) (y : Nat)
    (hg1 : mget (E1 D y).now nT = some y) : RawOut s D b y q (rawR s nd na b y).1 (rawR s nd na b y).2 := by
  have hgn : mget D.now nT = none := by
    cases hg : mget D.now nT with
    | none => rfl
    | some x => exact absurd (List.mem_map_of_mem (f := (·.1)) (mget_some hg)) hT
  have hr : rawR s nd na b y = rawK s nd na b y 6 := by unfold rawR; rw [if_neg (by decide)]
  rw [hr]
  have k1 : rawK s nd na b y 1 = (0, s) := by
    show thn (0, s) _ = _
    rw [thn_ok rfl]; exact rm_not h hT
  have bad : ∀ k E s', rawK s nd na b y k = (E, s') → k ≤ 6 → E ≠ 0 → rawK s nd na b y 6 = (E, s') := fun k E s' e hk hE => by
    rw [← e]; exact rawK_six hk (by rw [e]; exact hE)
  have k2 : rawK s nd na b y 2 = createR s nd nT y := by show thn (rawK s nd na b y 1) _ = _; rw [k1, thn_ok rfl]; rfl
  by_cases q0 : q = 0
  · subst q0
    rw [bad 2 60 (outed s) (k2.trans (out_create2 h nT_right hgn (by omega) y)) (by decide) (by decide)]
    exact ⟨⟨fun e => absurd e n60, fun e => by omega⟩, ⟨_, _, _, _, _, _, h.out, .inl ⟨n60, rfl⟩⟩, fun x hx => rfl⟩
  · obtain ⟨i7, f7, e7⟩ := is_create h nT_right hgn (by omega) q0 y
    have fy7 : (createR s nd nT y).2.file y = some ([], 0) := (congrFun f7 y).trans (upd_same _ _ _)
    have fo7 : ∀ x, x ≠ y → (createR s nd nT y).2.file x = s.file x := fun x hx => (congrFun f7 x).trans (upd_other _ _ _ _ hx)
    have k3 : rawK s nd na b y 3 = appendR (createR s nd nT y).2 nd nT b := by show thn (rawK s nd na b y 2) _ = _; rw [k2, thn_ok e7]; rfl
    generalize (createR s nd nT y).2 = s7 at *
    by_cases q1 : q = 1
    · subst q1
      rw [bad 3 60 (outed s7) (k3.trans (out_append2 i7 nT_right hg1 fy7 b (by simp; omega) hu)) (by decide) (by decide)]
      exact ⟨⟨fun e => absurd e n60, fun e => by omega⟩, ⟨_, _, _, _, _, _, i7.out, .inr (.inl ⟨n60, rfl⟩)⟩, fo7⟩
    · have hf1 : dec q ≠ 0 := by unfold dec; split <;> omega
      obtain ⟨i8, f8, e8⟩ := is_append i7 nT_right hg1 fy7 b (by simp; omega) hu hf1
      have fy8 : (appendR s7 nd nT b).2.file y = some (b, 0) := (congrFun f8 y).trans (upd_same _ _ _)
      have fo8 : ∀ x, x ≠ y → (appendR s7 nd nT b).2.file x = s.file x := fun x hx => (congrFun f8 x).trans ((upd_other _ _ _ _ hx).trans (fo7 x hx))
      have k4 : rawK s nd na b y 4 = syncR (appendR s7 nd nT b).2 nd nT := by show thn (rawK s nd na b y 3) _ = _; rw [k3, thn_ok e8]; rfl
      generalize (appendR s7 nd nT b).2 = s8 at *
      by_cases q2 : q = 2
      · subst q2
        rw [bad 4 60 (outed s8) (k4.trans (out_sync i8 nT_right hg1)) (by decide) (by decide)]
        exact ⟨⟨fun e => absurd e n60, fun e => by omega⟩, ⟨_, _, _, _, _, _, i8.out, .inr (.inl ⟨n60, rfl⟩)⟩, fo8⟩
      · have hf2 : dec (dec q) ≠ 0 := by unfold dec; (repeat' split) <;> omega
        obtain ⟨i9, f9, e9⟩ := is_sync i8 nT_right hg1 fy8 hf2
        have fy9 : (syncR s8 nd nT).2.file y = some (b, b.length) := (congrFun f9 y).trans (upd_same _ _ _)
        have fo9 : ∀ x, x ≠ y → (syncR s8 nd nT).2.file x = s.file x := fun x hx => (congrFun f9 x).trans ((upd_other _ _ _ _ hx).trans (fo8 x hx))
        have k5 : rawK s nd na b y 5 = renameR (syncR s8 nd nT).2 nd nT na := by show thn (rawK s nd na b y 4) _ = _; rw [k4, thn_ok e9]; rfl
        generalize (syncR s8 nd nT).2 = s9 at *
        by_cases q3 : q = 3
        · subst q3
          rw [bad 5 60 (outed s9) (k5.trans (out_rename2 i9 nT_right na_right hg1)) (by decide) (by decide)]
          exact ⟨⟨fun e => absurd e n60, fun e => by omega⟩, ⟨_, _, _, _, _, _, i9.out, .inr (.inl ⟨n60, rfl⟩)⟩, fo9⟩
        · have hf3 : dec (dec (dec q)) ≠ 0 := by unfold dec; (repeat' split) <;> omega
          obtain ⟨⟨u, hu10, i10⟩, f10, e10⟩ := is_rename2 i9 nT_right na_right hg1 hf3
          have fy10 : (renameR s9 nd nT na).2.file y = some (b, b.length) := (congrFun f10 y).trans fy9
          have fo10 : ∀ x, x ≠ y → (renameR s9 nd nT na).2.file x = s.file x := fun x hx => (congrFun f10 x).trans (fo9 x hx)
          have k6 : rawK s nd na b y 6 = syncDirR (renameR s9 nd nT na).2 nd := by show thn (rawK s nd na b y 5) _ = _; rw [k5, thn_ok e10]; rfl
          generalize (renameR s9 nd nT na).2 = s10 at *
          by_cases q4 : q = 4
          · subst q4
            rw [k6, out_syncDir (s := s10) i10]
            exact ⟨⟨fun e => absurd e n60, fun e => by omega⟩, ⟨_, _, _, _, _, _, i10.out, .inr (.inr (.inl ⟨n60, rfl, fy10⟩))⟩, fo10⟩
          · have hf4 : dec (dec (dec (dec q))) ≠ 0 := by unfold dec; (repeat' split) <;> omega
            obtain ⟨i11, f11, e11⟩ := is_syncDir i10 hf4
            rw [k6]
            refine ⟨⟨fun _ => by omega, fun _ => e11⟩, ⟨_, _, _, _, _, _, i11, .inr (.inr (.inr ⟨e11, rfl, (congrFun f11 y).trans fy10, rfl, ?_, h.room.symm, by rw [h.steps]; omega, by rw [h.used]; exact hu10⟩))⟩, fun x hx => (congrFun f11 x).trans (fo10 x hx)⟩
            intro e
            subst e
            rfl

/-! ### behind it -/
theorem one_of {l b : List UInt8} (h1 : fst l = some b) (h2 : 8 + b.length = l.length) : oneB l = some b := by
  unfold oneB
  rw [h1]
  exact if_pos h2
theorem one_own {b : List UInt8} (h : b.length ≤ 16777208) : oneB (fr b) = some b :=
  one_of (fst_own (Nat.lt_of_le_of_lt h (by decide))) (fr_length b).symm
section
variable {s : Fs} {room used steps : Int} {D : Dir}
theorem get_is {fuse : Int} (h : Is s room used steps fuse true D) {z sf : Nat} {b : List UInt8} (hg : mget D.now na = some z) (hx : s.file z = some (fr b, sf)) (hb : b.length ≤ 16777208) : getE s nd na = 0 ∧ getB s nd na = b := by
  obtain ⟨l1, o1⟩ := h.lf na_right [] rfl hg
  have e : readB s nd na = fr b := by
    unfold readB
    rw [if_pos l1, o1]
    unfold bytesOf
    rw [hx]; rfl
  unfold getE getB
  rw [if_pos l1, if_pos l1, e, one_own hb]
  exact ⟨rfl, rfl⟩
theorem ready_clean {fuse : Int} (h : Is s room used steps fuse true D) (ht : tmps (D.now.map (·.1)) = []) : readyR s nd = (D.now.map (·.1), 0, s) := by
  have hM : readyM s nd = (0, s) := by unfold readyM; rw [h.live [] rfl, if_neg (by decide)]
  have hC : cleanR s nd = (0, 0, s) := by
    unfold cleanR
    rw [h.list, ht, h.live [] rfl, if_neg (by simp), if_neg (by simp [rmAll]), if_pos rfl]
    rfl
  unfold readyR
  rw [hM, if_neg (by simp)]
  rw [show (cleanR (0, s).2 nd) = (0, 0, s) from hC, if_neg (by simp)]
  rw [h.list, h.live [] rfl]
theorem ready_two (h : Is s room used steps (-1) true D) {x y : Nat} (hD : D = ⟨[(na, x), (nT, y)], [(na, x), (nT, y)], []⟩) : ∃ s', readyR s nd = ([na], 0, s') := by
  have hM : readyM s nd = (0, s) := by unfold readyM; rw [h.live [] rfl, if_neg (by decide)]
  have hl : listN s nd = [na, nT] := by rw [h.list, hD]; rfl
  have ht : tmps [na, nT] = [nT] := by decide
  obtain ⟨⟨u, i1⟩, f1, e1⟩ := is_remove h (n := nT) (x := y) nT_right (by rw [hD]; rfl) (by decide)
  obtain ⟨i2, f2, e2⟩ := is_syncDir i1 (by decide)
  have hA : rmAll nd [nT] s = (0, (removeR s nd nT).2) := by
    show thn (removeR s nd nT) _ = _
    rw [thn_ok e1]; rfl
  have hC : cleanR s nd = (1, 0, (syncDirR (removeR s nd nT).2 nd).2) := by
    unfold cleanR
    rw [hl, ht, hA, h.live [] rfl, if_neg (by simp), if_neg (by simp), if_neg (by simp)]
    have e2' : (syncDirR (0, (removeR s nd nT).2).2 nd).1 = 0 := e2
    rw [if_neg (fun h => h e2')]
    show (_, syncDirR (removeR s nd nT).2 nd) = _
    rw [← e2]; rfl
  refine ⟨(syncDirR (removeR s nd nT).2 nd).2, ?_⟩
  unfold readyR
  rw [hM, if_neg (by simp)]
  rw [show cleanR (0, s).2 nd = _ from hC, if_neg (by simp)]
  show (listN (syncDirR (removeR s nd nT).2 nd).2 nd, liveE (syncDirR (removeR s nd nT).2 nd).2 nd [], _) = _
  rw [i2.list, i2.live [] rfl, hD]
  rfl
end
/-- The states of the law. -/
def pw1 (room : Int) : Fs := (mkdirR (newFs room) nd).2
def pw2 (F : List UInt8) (x : Nat) : Fs := (rawR (pw1 1048576) nd na (fr F) x).2
def pw3 (F : List UInt8) (x : Nat) (q : Int) : Fs := (fuseR (pw2 F x) q).2
def pw4 (F M : List UInt8) (x y : Nat) (q : Int) : Int × Fs := rawR (pw3 F x q) nd na (fr M) y
def pw5 (F M : List UInt8) (x y : Nat) (q : Int) (ps : List Int) : Fs := crashS (pw4 F M x y q).2 ps
def D0 : Dir := ⟨[], [], []⟩
def D5 (x : Nat) : Dir := ⟨[(na, x)], [(na, x)], []⟩
theorem put_first {room : Int} (hr : 0 ≤ room) (F : List UInt8) (hF : (fr F).length ≤ 16777216) (hu : ((fr F).length : Int) ≤ room) (x : Nat) :
    (rawR (pw1 room) nd na (fr F) x).1 = 0 ∧ (rawR (pw1 room) nd na (fr F) x).2.file x = some (fr F, (fr F).length) ∧ (∃ used : Int, used ≤ (fr F).length ∧ Is (rawR (pw1 room) nd na (fr F) x).2 room used 6 (-1) true (D5 x)) := by
  obtain ⟨i1, f1, e1⟩ := is_mkdir (room := room) hr
  obtain ⟨ho, ⟨r, u, st, fu, on, D', hi, hc⟩, hold⟩ := raw_out (s := pw1 room) i1 (by decide) (by simp) (by decide) (fr F) hF (by omega) x rfl
  have hE : (rawR (pw1 room) nd na (fr F) x).1 = 0 := ho.2 (.inl rfl)
  rcases hc with ⟨h, _⟩ | ⟨h, _⟩ | ⟨h, _⟩ | ⟨_, hD, hf, h4, h5, h6, h7, h8⟩
  · exact absurd hE h
  · exact absurd hE h
  · exact absurd hE h
  · have h5' := h5 rfl
    have e : settledDir (E2 ⟨[], [], []⟩ x) (E2 ⟨[], [], []⟩ x).pend.length = D5 x := rfl
    have hroom : (pw1 room).room = room := i1.room
    have hst : (pw1 room).steps = 1 := i1.steps
    have hus : (pw1 room).used = 0 := i1.used
    rw [hroom] at h6
    rw [hst] at h7
    rw [hus] at h8
    rw [hD, e, h4, h5', h6, h7] at hi
    exact ⟨hE, hf, u, by omega, hi⟩
structure WholeOut (F M : List UInt8) (x y : Nat) (q : Nat) (ps : List Int) : Prop where
  done : (pw4 F M x y q).1 = 0 ↔ 5 ≤ q
  get : getE (pw5 F M x y q ps) nd na = 0
  which : getB (pw5 F M x y q ps) nd na = F ∨ getB (pw5 F M x y q ps) nd na = M
  new : (pw4 F M x y q).1 = 0 → getB (pw5 F M x y q ps) nd na = M
  ready : ∃ s', readyR (pw5 F M x y q ps) nd = ([na], 0, s')
theorem whole_out (F M : List UInt8) (hl : F.length + M.length ≤ 4000) (x y q : Nat) (hy : (pw3 F x q).file y = none) (ps : List Int) : WholeOut F M x y q ps := by
  have hF : (fr F).length = 8 + F.length := fr_length F
  have hM : (fr M).length = 8 + M.length := fr_length M
  obtain ⟨e2, f2, u2, u2b, i2⟩ := put_first (room := 1048576) (by omega) F (by omega) (by omega) x
  obtain ⟨i3, f3⟩ := is_fuse (s := pw2 F x) i2 (q : Int) (by omega)
  have fx3 : (pw3 F x q).file x = some (fr F, (fr F).length) := (congrFun f3 x).trans f2
  have hxy : x ≠ y := by rintro rfl; rw [hy] at fx3; cases fx3
  obtain ⟨ho, ⟨r, u, st, fu, on, D', hi, hc⟩, hold⟩ := raw_out (s := pw3 F x q) i3 (by omega) (by show nT ∉ [na]; decide) (by show (1 : Nat) < 4095; decide) (fr M) (by omega) (by omega) y rfl
  have fx4 : (pw4 F M x y q).2.file x = some (fr F, (fr F).length) := (hold x hxy).trans fx3
  obtain ⟨u5, i5, f5⟩ := is_crash (s := (pw4 F M x y q).2) hi ps
  have hk := pickK_le ps D'.pend.length
  have hdone : (pw4 F M x y q).1 = 0 ↔ 5 ≤ q := by
    have : (pw4 F M x y q).1 = 0 ↔ ((q : Int) = -1 ∨ 5 ≤ (q : Int)) := ho
    rw [this]; omega
  -- what a reader sees, given which names there are
  have fin : ∀ z b, settledDir D' (pickK ps D'.pend.length) = D5 z → (pw4 F M x y q).2.file z = some (fr b, (fr b).length) → b.length ≤ 4000 → (b = F ∨ b = M) → ((pw4 F M x y q).1 = 0 → b = M) → WholeOut F M x y q ps := by
    intro z b hD hz hb h1 h2
    rw [hD] at i5 f5
    have fz5 : (pw5 F M x y q ps).file z = some (fr b, (fr b).length) := (congrFun f5 z).trans (cut_safe _ ⟨ps.tail, (pw4 F M x y q).2.file, 0⟩ z (fr b) hz)
    obtain ⟨g1, g2⟩ := get_is (s := pw5 F M x y q ps) i5 (mget_one na z) fz5 (by omega)
    exact ⟨hdone, g1, by rw [g2]; exact h1, by rw [g2]; exact h2, _, ready_clean (s := pw5 F M x y q ps) i5 (by show tmps [na] = []; decide)⟩
  have fin2 : settledDir D' (pickK ps D'.pend.length) = ⟨[(na, x), (nT, y)], [(na, x), (nT, y)], []⟩ → (pw4 F M x y q).1 ≠ 0 → WholeOut F M x y q ps := by
    intro hD hE
    have i5' := i5
    rw [hD] at i5 f5
    have fz5 : (pw5 F M x y q ps).file x = some (fr F, (fr F).length) := (congrFun f5 x).trans (cut_safe _ ⟨ps.tail, (pw4 F M x y q).2.file, 0⟩ x (fr F) fx4)
    obtain ⟨g1, g2⟩ := get_is (s := pw5 F M x y q ps) i5 (show mget [(na, x), (nT, y)] na = some x from rfl) fz5 (by omega)
    exact ⟨hdone, g1, .inl g2, fun e => absurd e hE, ready_two (s := pw5 F M x y q ps) i5 rfl⟩
  rcases hc with ⟨hE, rfl⟩ | ⟨hE, rfl⟩ | ⟨hE, rfl, hfy⟩ | ⟨hE, rfl, hfy, _⟩
  · exact fin x F (by simp [settledDir, D5, replay]) fx4 (by omega) (.inl rfl) (fun e => absurd e hE)
  · rcases (show pickK ps (E1 (D5 x) y).pend.length = 0 ∨ pickK ps (E1 (D5 x) y).pend.length = 1 by have : (E1 (D5 x) y).pend.length = 1 := rfl; have := hk; omega) with e | e
    · exact fin x F (by have : settledDir (E1 (D5 x) y) 0 = D5 x := rfl; rw [← this]; exact congrArg _ e) fx4 (by omega) (.inl rfl) (fun e => absurd e hE)
    · exact fin2 (by have : settledDir (E1 (D5 x) y) 1 = ⟨[(na, x), (nT, y)], [(na, x), (nT, y)], []⟩ := rfl; rw [← this]; exact congrArg _ e) hE
  · rcases (show pickK ps (E2 (D5 x) y).pend.length = 0 ∨ pickK ps (E2 (D5 x) y).pend.length = 1 ∨ pickK ps (E2 (D5 x) y).pend.length = 2 by have : (E2 (D5 x) y).pend.length = 2 := rfl; have := hk; omega) with e | e | e
    · exact fin x F (by have : settledDir (E2 (D5 x) y) 0 = D5 x := rfl; rw [← this]; exact congrArg _ e) fx4 (by omega) (.inl rfl) (fun e => absurd e hE)
    · exact fin2 (by have : settledDir (E2 (D5 x) y) 1 = ⟨[(na, x), (nT, y)], [(na, x), (nT, y)], []⟩ := rfl; rw [← this]; exact congrArg _ e) hE
    · exact fin y M (by have : settledDir (E2 (D5 x) y) 2 = D5 y := rfl; rw [← this]; exact congrArg _ e) hfy (by omega) (.inr rfl) (fun _ => rfl)
  · refine fin y M ?_ hfy (by omega) (.inr rfl) (fun _ => rfl)
    have : ∀ k, settledDir (settledDir (E2 (D5 x) y) (E2 (D5 x) y).pend.length) k = D5 y := fun k => by
      have h1 : settledDir (E2 (D5 x) y) (E2 (D5 x) y).pend.length = D5 y := rfl
      rw [h1]; simp [settledDir, D5, replay]
    exact this _
end Go.Proofs.YtnkhgajghfonhaaGreatDoor
