/- FsSafe, FsRenames: what is left behind a crash (no memory). -/
import Derived.Test.YtlmkhieojgpgcaaFsAlive
namespace Go.Proofs.Ytlmkhieojgpgcaa
set_option linter.unusedVariables false

def nb : Nm := [98]
def nt : Nm := [116]
theorem nb_right : right nb = true := by decide
theorem nt_right : right nt = true := by decide
theorem step2_other (st : St2) (y x : Nat) (h : x ≠ y) : (step2 st y).file x = st.file x := by
  unfold step2
  split
  · exact upd_other _ _ _ _ h
  · rfl
/-- What a crash leaves of a file. -/
theorem cut_keeps (l : List (Nm × Nat)) (st : St2) (x : Nat) (b : List UInt8) (sf : Nat) (hs : sf ≤ b.length) (hx : st.file x = some (b, sf)) :
    ∃ k s', sf ≤ s' ∧ s' ≤ k ∧ k ≤ b.length ∧ (stepD st l).file x = some (b.take k, s') := by
  induction l generalizing st b sf with
  | nil => exact ⟨b.length, sf, Nat.le_refl _, hs, Nat.le_refl _, by rw [List.take_length]; exact hx⟩
  | cons p r ih =>
    show ∃ k s', _ ∧ _ ∧ _ ∧ (stepD (step2 st p.2) r).file x = _
    by_cases e : x = p.2
    · have hk := pickK_le st.ps (b.length - sf)
      have h1 : (step2 st p.2).file x = some (b.take (sf + pickK st.ps (b.length - sf)), sf + pickK st.ps (b.length - sf)) := by
        unfold step2
        rw [← e, hx]
        exact upd_same _ _ _
      obtain ⟨k, s', h2, h3, h4, h5⟩ := ih _ _ _ (by rw [List.length_take]; omega) h1
      rw [List.length_take] at h4
      refine ⟨k, s', by omega, h3, by omega, ?_⟩
      rw [h5, List.take_take, Nat.min_eq_left (by omega)]
    · exact ih _ b sf hs ((step2_other st p.2 x e).trans hx)
/-- Wholly safe bytes stay. -/
theorem cut_safe (l : List (Nm × Nat)) (st : St2) (x : Nat) (b : List UInt8) (hx : st.file x = some (b, b.length)) : ∃ s', (stepD st l).file x = some (b, s') := by
  obtain ⟨k, s', h1, h2, h3, h4⟩ := cut_keeps l st x b b.length (Nat.le_refl _) hx
  refine ⟨s', ?_⟩
  rw [h4, List.take_of_length_le (by omega)]

/-- With one file that is safe. -/
def at5 (F : List UInt8) (x : Nat) : Fs := (syncDirR (syncR (appendR (createR (mkdirR (newFs 1048576) nd).2 nd na x).2 nd na F).2 nd na).2 nd).2
def D5 (x : Nat) : Dir := ⟨[(na, x)], [(na, x)], []⟩
theorem settled_D5 (x k : Nat) : settledDir (D5 x) k = D5 x := by simp [settledDir, D5, replay]
theorem len1 (x : Nat) : (didDir (D5 x) (.rename na nb x)).now.length < 4096 := by show (1 : Nat) < 4096; decide
theorem is_at5 (F : List UInt8) (hl : F.length ≤ 4000) (x : Nat) : Is (at5 F x) 1048576 F.length 5 (-1) true (D5 x) ∧ (at5 F x).file x = some (F, F.length) := by
  obtain ⟨i1, f1, e1⟩ := is_mkdir (room := 1048576) (by omega)
  obtain ⟨i2, f2, e2⟩ := is_create i1 na_right rfl (by decide) (by decide) x
  have g2 : mget (didDir ⟨[], [], []⟩ (.create na x)).now na = some x := mget_one na x
  obtain ⟨i3, f3, e3⟩ := is_append i2 na_right g2 (by rw [f2]; exact upd_same _ _ _) F (by simpa using (by omega : F.length ≤ 16777216)) (by omega) (by decide)
  obtain ⟨i4, f4, e4⟩ := is_sync i3 na_right g2 (by rw [f3]; exact upd_same _ _ _) (by decide)
  obtain ⟨i5, f5, e5⟩ := is_syncDir i4 (by decide)
  refine ⟨?_, ?_⟩
  · have : (0 : Int) + F.length = F.length := by omega
    rw [this] at i5
    exact i5
  · show (syncDirR _ nd).2.file x = _
    rw [f5, f4]
    exact upd_same _ _ _
theorem wf_at5 (F : List UInt8) (x : Nat) : WfK 1 (mkdirR (newFs 1048576) nd).2 ∧ WfK 2 (createR (mkdirR (newFs 1048576) nd).2 nd na x).2 ∧ WfK 3 (appendR (createR (mkdirR (newFs 1048576) nd).2 nd na x).2 nd na F).2 ∧
    WfK 4 (syncR (appendR (createR (mkdirR (newFs 1048576) nd).2 nd na x).2 nd na F).2 nd na).2 ∧ WfK 5 (at5 F x) := by
  have h1 := wfk_mkdir (WfK.new (room := 1048576) rfl) nd
  have h2 := wfk_create h1 nd na x
  have h3 := wfk_append h2 nd na F
  have h4 := wfk_sync h3 nd na
  exact ⟨h1, h2, h3, h4, wfk_syncDir h4 nd⟩

/-! ### FsSafe -/
def sa6 (F : List UInt8) (x : Nat) (q : Int) : Fs := (fuseR (at5 F x) q).2
def sa7 (F M : List UInt8) (x : Nat) (q : Int) : Fs := (appendR (sa6 F x q) nd na M).2
def sa8 (F M : List UInt8) (x : Nat) (q : Int) : Fs := (renameR (sa7 F M x q) nd na nb).2
def sa9 (F M : List UInt8) (x y : Nat) (q : Int) : Fs := (createR (sa8 F M x q) nd na y).2
def sa10 (F M : List UInt8) (x y : Nat) (q : Int) (ps : List Int) : Fs := crashS (sa9 F M x y q) ps
theorem wf_sa (F M : List UInt8) (x y : Nat) (q : Int) (hq : q ≤ 9223372036854775807) (ps : List Int) : WfK 5 (sa6 F x q) ∧ WfK 6 (sa7 F M x q) ∧ WfK 7 (sa8 F M x q) ∧ WfK 8 (sa9 F M x y q) ∧ WfK 8 (sa10 F M x y q ps) := by
  have h5 := (wf_at5 F x).2.2.2.2
  have h6 := wfk_fuse h5 q hq
  have h7 := wfk_append h6 nd na M
  have h8 := wfk_rename h7 nd na nb
  have h9 := wfk_create h8 nd na y
  exact ⟨h6, h7, h8, h9, wfk_crash h9 (by decide) ps⟩
structure SafeOut (F M : List UInt8) (s : Fs) (pre : List Nm) (last : Nm) (k : Nat) : Prop where
  live : liveE s nd [] = 0
  names : listN s nd = pre ++ [last]
  few : pre.length ≤ 1
  lf : lfE s nd last [] = 0
  on : s.on = true
  read : readB s nd last = (F ++ M).take k
  low : F.length ≤ k
  high : k ≤ (F ++ M).length
theorem safe_is {s : Fs} {room used steps : Int} {D : Dir} (h : Is s room used steps (-1) true D) {F M : List UInt8} {pre : List (Nm × Nat)} {n : Nm} {x k s' : Nat} (hD : D.now = pre ++ [(n, x)]) (hn : right n = true) (hg : mget D.now n = some x)
    (hp : pre.length ≤ 1) (hx : s.file x = some ((F ++ M).take k, s')) (h1 : F.length ≤ k) (h2 : k ≤ (F ++ M).length) : SafeOut F M s (pre.map (·.1)) n k := by
  obtain ⟨l1, o1⟩ := h.lf hn [] rfl hg
  refine ⟨h.live [] rfl, ?_, by simpa using hp, l1, h.on, ?_, h1, h2⟩
  · unfold listN
    rw [if_pos (h.live [] rfl), h.dir, hD]; simp
  · unfold readB
    rw [if_pos l1, o1]
    unfold bytesOf
    rw [hx]; rfl
theorem safe_out (F M : List UInt8) (hl : F.length + M.length ≤ 4000) (q : Nat) (hq : q < 4) (x y : Nat) (hy : (sa8 F M x q).file y = none) (ps : List Int) : ∃ pre last k, SafeOut F M (sa10 F M x y q ps) pre last k := by
  obtain ⟨i5, f5⟩ := is_at5 F (by omega) x
  obtain ⟨i6, f6⟩ := is_fuse i5 (q : Int) (by omega)
  have g6 : mget (D5 x).now na = some x := mget_one na x
  have fx6 : (fuseR (at5 F x) (q : Int)).2.file x = some (F, F.length) := by rw [f6]; exact f5
  have fin : ∀ {room used steps fuse : Int} {on : Bool} {D : Dir} {b : List UInt8}, Is (sa9 F M x y q) room used steps fuse on D → (sa9 F M x y q).file x = some (b, F.length) → F.length ≤ b.length → ∃ u k s', Is (sa10 F M x y q ps) room u steps (-1) true (settledDir D (pickK ps D.pend.length)) ∧
      (sa10 F M x y q ps).file x = some (b.take k, s') ∧ F.length ≤ k ∧ k ≤ b.length := by
    intro room used steps fuse on D b i hf hb
    obtain ⟨u, i10, f10⟩ := is_crash i ps
    obtain ⟨k, s', h1, h2, h3, h4⟩ := cut_keeps (settledDir D (pickK ps D.pend.length)).now ⟨ps.tail, (sa9 F M x y q).file, 0⟩ x b F.length hb hf
    exact ⟨u, k, s', i10, by unfold sa10; rw [f10]; exact h4, by omega, h3⟩
  have tk : ∀ k, k ≤ F.length → F.take k = (F ++ M).take k := fun k hk => (List.take_append_of_le_length hk).symm
  have lap : F.length ≤ (F ++ M).length := by rw [List.length_append]; omega
  by_cases q0 : q = 0
  · subst q0
    have e7 : sa7 F M x (0 : Nat) = outed (sa6 F x (0 : Nat)) := out_append i6 na_right g6 fx6 M (by omega) (by omega)
    have i7 := i6.out
    have e8 : sa8 F M x (0 : Nat) = outed (sa6 F x (0 : Nat)) := by unfold sa8; rw [e7]; exact off_rename i7 na nb
    have e9 : sa9 F M x y (0 : Nat) = outed (sa6 F x (0 : Nat)) := by unfold sa9; rw [e8]; exact off_create i7 na y
    obtain ⟨u, k, s', i10, f10, h1, h2⟩ := fin (D := D5 x) (by rw [e9]; exact i7) (by rw [e9]; exact fx6) (Nat.le_refl _)
    rw [settled_D5] at i10
    exact ⟨_, _, k, safe_is i10 (pre := []) rfl na_right g6 (by simp) (f10.trans (by rw [tk k h2])) h1 (by omega)⟩
  · obtain ⟨i7, f7, _⟩ := is_append i6 na_right g6 fx6 M (by omega) (by omega) (by omega)
    have fx7 : (sa7 F M x q).file x = some (F ++ M, F.length) := by unfold sa7 sa6; rw [f7]; exact upd_same _ _ _
    by_cases q1 : q = 1
    · subst q1
      have e8 : sa8 F M x (1 : Nat) = outed (sa7 F M x (1 : Nat)) := out_rename i7 na_right nb_right g6
      have i8 := i7.out
      have e9 : sa9 F M x y (1 : Nat) = outed (sa7 F M x (1 : Nat)) := by unfold sa9; rw [e8]; exact off_create i8 na y
      obtain ⟨u, k, s', i10, f10, h1, h2⟩ := fin (D := D5 x) (by rw [e9]; exact i8) (by rw [e9]; exact fx7) lap
      rw [settled_D5] at i10
      exact ⟨_, _, k, safe_is i10 (pre := []) rfl na_right g6 (by simp) f10 h1 h2⟩
    · obtain ⟨⟨u8, i8⟩, f8, _⟩ := is_rename i7 na_right nb_right g6 (by unfold dec; (repeat' split) <;> omega)
      have fx8 : (sa8 F M x q).file x = some (F ++ M, F.length) := by unfold sa8; exact (congrFun f8 x).trans fx7
      have hxy : y ≠ x := by rintro rfl; rw [hy] at fx8; cases fx8
      have gb : ∀ l, mget ((nb, x) :: l) nb = some x := fun l => by simp [mget]
      by_cases q2 : q = 2
      · subst q2
        have e9 : sa9 F M x y (2 : Nat) = outed (sa8 F M x (2 : Nat)) := out_create i8 na_right rfl (len1 x) y
        obtain ⟨u, k, s', i10, f10, h1, h2⟩ := fin (D := didDir (D5 x) (.rename na nb x)) (by rw [e9]; exact i8.out) (by rw [e9]; exact fx8) lap
        have hk := pickK_le ps (didDir (D5 x) (.rename na nb x)).pend.length
        rcases (show pickK ps (didDir (D5 x) (.rename na nb x)).pend.length = 0 ∨ pickK ps (didDir (D5 x) (.rename na nb x)).pend.length = 1 from by
          have : (didDir (D5 x) (.rename na nb x)).pend.length = 1 := rfl
          omega) with e | e
        · rw [e] at i10
          exact ⟨_, _, k, safe_is i10 (pre := []) rfl na_right (mget_one na x) (by simp) f10 h1 h2⟩
        · rw [e] at i10
          exact ⟨_, _, k, safe_is i10 (pre := []) rfl nb_right (mget_one nb x) (by simp) f10 h1 h2⟩
      · obtain rfl : q = 3 := by omega
        obtain ⟨i9, f9, _⟩ := is_create i8 na_right rfl (len1 x) (by decide) y
        have fx9 : (sa9 F M x y (3 : Nat)).file x = some (F ++ M, F.length) := by unfold sa9; exact (congrFun f9 x).trans ((upd_other _ _ _ _ (Ne.symm hxy)).trans fx8)
        obtain ⟨u, k, s', i10, f10, h1, h2⟩ := fin i9 fx9 lap
        have hk := pickK_le ps (didDir (didDir (D5 x) (.rename na nb x)) (.create na y)).pend.length
        have h2l : (didDir (didDir (D5 x) (.rename na nb x)) (.create na y)).pend.length = 2 := rfl
        rcases (show pickK ps (didDir (didDir (D5 x) (.rename na nb x)) (.create na y)).pend.length = 0 ∨ pickK ps (didDir (didDir (D5 x) (.rename na nb x)) (.create na y)).pend.length = 1 ∨ pickK ps (didDir (didDir (D5 x) (.rename na nb x)) (.create na y)).pend.length = 2 from by omega) with e | e | e
        · rw [e] at i10
          exact ⟨_, _, k, safe_is i10 (pre := []) rfl na_right (mget_one na x) (by simp) f10 h1 h2⟩
        · rw [e] at i10
          exact ⟨_, _, k, safe_is i10 (pre := []) rfl nb_right (mget_one nb x) (by simp) f10 h1 h2⟩
        · rw [e] at i10
          exact ⟨_, _, k, safe_is i10 (pre := [(na, y)]) rfl nb_right rfl (by simp) f10 h1 h2⟩

/-! ### FsRenames -/
def rn6 (F : List UInt8) (x : Nat) (q : Int) : Fs := (fuseR (at5 F x) q).2
def rn7 (F : List UInt8) (x y : Nat) (q : Int) : Fs := (createR (rn6 F x q) nd nt y).2
def rn8 (F M : List UInt8) (x y : Nat) (q : Int) : Fs := (appendR (rn7 F x y q) nd nt M).2
def rn9 (F M : List UInt8) (x y : Nat) (q : Int) : Int × Fs := syncR (rn8 F M x y q) nd nt
def rn10 (F M : List UInt8) (x y : Nat) (q : Int) : Fs := if (rn9 F M x y q).1 = 0 then (renameR (rn9 F M x y q).2 nd nt na).2 else (rn9 F M x y q).2
def rn11 (F M : List UInt8) (x y : Nat) (q : Int) : Fs := (syncDirR (rn10 F M x y q) nd).2
def rn12 (F M : List UInt8) (x y : Nat) (q : Int) (ps : List Int) : Fs := crashS (rn11 F M x y q) ps
structure RenOut (F M : List UInt8) (s s' : Fs) : Prop where
  lf : lfE s' nd na [] = 0
  read : readB s' nd na = F ∨ readB s' nd na = M
  new : 10 ≤ s.steps → readB s' nd na = M
theorem ren_is {s s0 : Fs} {room used steps : Int} {D : Dir} (h : Is s room used steps (-1) true D) {F M b : List UInt8} {x k : Nat} (hg : mget D.now na = some x) (hx : s.file x = some (b, k)) (h1 : b = F ∨ b = M) (h2 : 10 ≤ s0.steps → b = M) : RenOut F M s0 s := by
  obtain ⟨l1, o1⟩ := h.lf na_right [] rfl hg
  have e : readB s nd na = b := by
    unfold readB
    rw [if_pos l1, o1]
    unfold bytesOf
    rw [hx]; rfl
  exact ⟨l1, by rw [e]; exact h1, by rw [e]; exact h2⟩
def D7 (x y : Nat) : Dir := didDir (D5 x) (.create nt y)
def D10 (x y : Nat) : Dir := didDir (D7 x y) (.rename nt na y)
theorem ren_sync (F M : List UInt8) (hl : F.length + M.length ≤ 4000) (q : Nat) (hq : q < 7) (x y : Nat) (hy : (rn6 F x q).file y = none) : (rn9 F M x y q).1 = if 3 ≤ q then 0 else 60 := by
  obtain ⟨i5, f5⟩ := is_at5 F (by omega) x
  obtain ⟨i6, f6⟩ := is_fuse i5 (q : Int) (by omega)
  by_cases q0 : q = 0
  · subst q0
    have e7 : rn7 F x y (0 : Nat) = outed (rn6 F x (0 : Nat)) := out_create i6 nt_right rfl (by show (1 : Nat) < 4096; decide) y
    have e8 : rn8 F M x y (0 : Nat) = outed (rn6 F x (0 : Nat)) := by unfold rn8; rw [e7]; exact off_append i6.out nt M
    unfold rn9
    rw [e8, off_sync (s := outed (rn6 F x (0 : Nat))) i6.out nt]
    rfl
  · obtain ⟨i7, f7, _⟩ := is_create i6 nt_right (show mget (D5 x).now nt = none from rfl) (by show (1 : Nat) < 4096; decide) (by omega) y
    have fy7 : (rn7 F x y q).file y = some ([], 0) := (congrFun f7 y).trans (upd_same _ _ _)
    have g7 : mget (D7 x y).now nt = some y := rfl
    by_cases q1 : q = 1
    · subst q1
      have e8 : rn8 F M x y (1 : Nat) = outed (rn7 F x y (1 : Nat)) := out_append i7 nt_right g7 fy7 M (by simp; omega) (by omega)
      unfold rn9
      rw [e8, off_sync (s := outed (rn7 F x y (1 : Nat))) i7.out nt]
      rfl
    · obtain ⟨i8, f8, _⟩ := is_append i7 nt_right g7 fy7 M (by simp; omega) (by omega) (by unfold dec; (repeat' split) <;> omega)
      have fy8 : (rn8 F M x y q).file y = some (M, 0) := (congrFun f8 y).trans (upd_same _ _ _)
      by_cases q2 : q = 2
      · subst q2
        unfold rn9
        rw [show syncR (rn8 F M x y (2 : Nat)) nd nt = _ from out_sync i8 nt_right g7]
        rfl
      · have hf : dec (dec (q : Int)) ≠ 0 := by unfold dec; (repeat' split) <;> omega
        obtain ⟨i9, f9, e9⟩ := is_sync i8 nt_right g7 fy8 hf
        rw [if_pos (by omega)]
        exact e9
theorem ren_out (F M : List UInt8) (hl : F.length + M.length ≤ 4000) (q : Nat) (hq : q < 7) (x y : Nat) (hy : (rn6 F x q).file y = none) (ps : List Int) : RenOut F M (rn11 F M x y q) (rn12 F M x y q ps) := by
  obtain ⟨i5, f5⟩ := is_at5 F (by omega) x
  obtain ⟨i6, f6⟩ := is_fuse i5 (q : Int) (by omega)
  have hs9 := ren_sync F M hl q hq x y hy
  have fx6 : (rn6 F x (q : Int)).file x = some (F, F.length) := by unfold rn6; rw [f6]; exact f5
  have hxy : x ≠ y := by rintro rfl; rw [hy] at fx6; cases fx6
  have g6 : mget (D5 x).now na = some x := mget_one na x
  have fin : ∀ {room used steps fuse : Int} {on : Bool} {D : Dir} {b : List UInt8} {z : Nat}, Is (rn11 F M x y q) room used steps fuse on D → (rn11 F M x y q).file z = some (b, b.length) → mget (settledDir D (pickK ps D.pend.length)).now na = some z → (b = F ∨ b = M) → (10 ≤ steps → b = M) → RenOut F M (rn11 F M x y q) (rn12 F M x y q ps) := by
    intro room used steps fuse on D b z i hf hg h1 h2
    obtain ⟨u, i12, f12⟩ := is_crash i ps
    obtain ⟨s', h4⟩ := cut_safe (settledDir D (pickK ps D.pend.length)).now ⟨ps.tail, (rn11 F M x y q).file, 0⟩ z b hf
    exact ren_is (s := rn12 F M x y q ps) i12 hg (by unfold rn12; rw [f12]; exact h4) h1 (by rw [i.steps]; exact h2)
  have last : ∀ {s : Fs} {steps used : Int} {D : Dir}, Is s 1048576 used steps 0 true D → rn10 F M x y q = outed s → rn11 F M x y q = outed s := by
    intro s steps used D i e
    unfold rn11
    rw [e, off_syncDir (s := outed s) i.out]
  have gD5 : ∀ k, mget (settledDir (D5 x) k).now na = some x := fun k => by rw [settled_D5]; exact g6
  have gD7 : ∀ k, k ≤ 1 → mget (settledDir (D7 x y) k).now na = some x := fun k hk => by
    rcases (show k = 0 ∨ k = 1 by omega) with rfl | rfl
    · exact g6
    · rfl
  by_cases q0 : q = 0
  · subst q0
    have e7 : rn7 F x y (0 : Nat) = outed (rn6 F x (0 : Nat)) := out_create i6 nt_right rfl (by show (1 : Nat) < 4096; decide) y
    have e8 : rn8 F M x y (0 : Nat) = outed (rn6 F x (0 : Nat)) := by unfold rn8; rw [e7]; exact off_append i6.out nt M
    have e9 : (rn9 F M x y (0 : Nat)).2 = outed (rn6 F x (0 : Nat)) := by unfold rn9; rw [e8, off_sync (s := outed (rn6 F x (0 : Nat))) i6.out nt]
    have e11 := last i6 (by unfold rn10; rw [hs9, if_neg (by decide), e9]; rfl)
    exact fin (by rw [e11]; exact i6.out) (by rw [e11]; exact fx6) (gD5 _) (.inl rfl) (fun h => by omega)
  · obtain ⟨i7, f7, _⟩ := is_create i6 nt_right (show mget (D5 x).now nt = none from rfl) (by show (1 : Nat) < 4096; decide) (by omega) y
    have fy7 : (rn7 F x y q).file y = some ([], 0) := (congrFun f7 y).trans (upd_same _ _ _)
    have fx7 : (rn7 F x y q).file x = some (F, F.length) := (congrFun f7 x).trans ((upd_other _ _ _ _ hxy).trans fx6)
    have g7 : mget (D7 x y).now nt = some y := rfl
    by_cases q1 : q = 1
    · subst q1
      have e8 : rn8 F M x y (1 : Nat) = outed (rn7 F x y (1 : Nat)) := out_append i7 nt_right g7 fy7 M (by simp; omega) (by omega)
      have e9 : (rn9 F M x y (1 : Nat)).2 = outed (rn7 F x y (1 : Nat)) := by unfold rn9; rw [e8, off_sync (s := outed (rn7 F x y (1 : Nat))) i7.out nt]
      have e11 := last i7 (by unfold rn10; rw [hs9, if_neg (by decide), e9]; rfl)
      exact fin (by rw [e11]; exact i7.out) (by rw [e11]; exact fx7) (gD7 _ (pickK_le ps _)) (.inl rfl) (fun h => by omega)
    · obtain ⟨i8, f8, _⟩ := is_append i7 nt_right g7 fy7 M (by simp; omega) (by omega) (by unfold dec; (repeat' split) <;> omega)
      have fy8 : (rn8 F M x y q).file y = some (M, 0) := (congrFun f8 y).trans (upd_same _ _ _)
      have fx8 : (rn8 F M x y q).file x = some (F, F.length) := (congrFun f8 x).trans ((upd_other _ _ _ _ hxy).trans fx7)
      by_cases q2 : q = 2
      · subst q2
        have e9 : (rn9 F M x y (2 : Nat)).2 = outed (rn8 F M x y (2 : Nat)) := by unfold rn9; rw [show syncR (rn8 F M x y (2 : Nat)) nd nt = _ from out_sync i8 nt_right g7]; rfl
        have e11 := last i8 (by unfold rn10; rw [hs9, if_neg (by decide), e9]; rfl)
        exact fin (by rw [e11]; exact i8.out) (by rw [e11]; exact fx8) (gD7 _ (pickK_le ps _)) (.inl rfl) (fun h => by omega)
      · have hf : dec (dec (q : Int)) ≠ 0 := by unfold dec; (repeat' split) <;> omega
        obtain ⟨i9, f9, _⟩ := is_sync i8 nt_right g7 fy8 hf
        have fy9 : (rn9 F M x y q).2.file y = some (M, M.length) := (congrFun f9 y).trans (upd_same _ _ _)
        have fx9 : (rn9 F M x y q).2.file x = some (F, F.length) := (congrFun f9 x).trans ((upd_other _ _ _ _ hxy).trans fx8)
        rw [if_pos (by omega)] at hs9
        have e10 : rn10 F M x y q = (renameR (rn9 F M x y q).2 nd nt na).2 := by unfold rn10; rw [if_pos hs9]
        by_cases q3 : q = 3
        · subst q3
          have e11 := last i9 (e10.trans (out_rename i9 nt_right na_right g7))
          exact fin (by rw [e11]; exact i9.out) (by rw [e11]; exact fx9) (gD7 _ (pickK_le ps _)) (.inl rfl) (fun h => by omega)
        · have hf2 : dec (dec (dec (q : Int))) ≠ 0 := by unfold dec; (repeat' split) <;> omega
          obtain ⟨⟨u, i10⟩, f10, _⟩ := is_rename i9 nt_right na_right g7 hf2
          have fy10 : (rn10 F M x y q).file y = some (M, M.length) := by rw [e10]; exact (congrFun f10 y).trans fy9
          have fx10 : (rn10 F M x y q).file x = some (F, F.length) := by rw [e10]; exact (congrFun f10 x).trans fx9
          have i10' : Is (rn10 F M x y q) 1048576 u (5 + 1 + 1 + 1 + 1) (dec (dec (dec (dec (q : Int))))) true (D10 x y) := by rw [e10]; exact i10
          by_cases q4 : q = 4
          · subst q4
            have e11 : rn11 F M x y (4 : Nat) = outed (rn10 F M x y (4 : Nat)) := by
              unfold rn11
              rw [out_syncDir (s := rn10 F M x y (4 : Nat)) i10']
            have hk := pickK_le ps (D10 x y).pend.length
            rcases (show pickK ps (D10 x y).pend.length = 0 ∨ pickK ps (D10 x y).pend.length = 1 ∨ pickK ps (D10 x y).pend.length = 2 by have : (D10 x y).pend.length = 2 := rfl; omega) with e | e | e
            · exact fin (z := x) (by rw [e11]; exact i10'.out) (by rw [e11]; exact fx10) (by rw [e]; rfl) (.inl rfl) (fun h => by omega)
            · exact fin (z := x) (by rw [e11]; exact i10'.out) (by rw [e11]; exact fx10) (by rw [e]; rfl) (.inl rfl) (fun h => by omega)
            · exact fin (z := y) (by rw [e11]; exact i10'.out) (by rw [e11]; exact fy10) (by rw [e]; rfl) (.inr rfl) (fun h => rfl)
          · have hf3 : dec (dec (dec (dec (q : Int)))) ≠ 0 := by unfold dec; (repeat' split) <;> omega
            obtain ⟨i11, f11, _⟩ := is_syncDir i10' hf3
            exact fin (z := y) i11 ((congrFun f11 y).trans fy10) (by
              have : ∀ k, mget (settledDir (settledDir (D10 x y) (D10 x y).pend.length) k).now na = some y := fun k => by simp [settledDir, replay]; rfl
              exact this _) (.inr rfl) (fun h => rfl)
theorem wf_rn (F M : List UInt8) (x y : Nat) (q : Int) (hq : q ≤ 9223372036854775807) (ps : List Int) : WfK 5 (rn6 F x q) ∧ WfK 6 (rn7 F x y q) ∧ WfK 7 (rn8 F M x y q) ∧ WfK 8 (rn9 F M x y q).2 ∧ WfK 9 (rn10 F M x y q) ∧ WfK 10 (rn11 F M x y q) ∧ WfK 10 (rn12 F M x y q ps) := by
  have h5 := (wf_at5 F x).2.2.2.2
  have h6 := wfk_fuse h5 q hq
  have h7 := wfk_create h6 nd nt y
  have h8 := wfk_append h7 nd nt M
  have h9 := wfk_sync h8 nd nt
  have h10 : WfK 9 (rn10 F M x y q) := by
    unfold rn10
    split
    · exact wfk_rename h9 nd nt na
    · exact WfK.mono h9 (by decide)
  have h11 := wfk_syncDir h10 nd
  exact ⟨h6, h7, h8, h9, h10, h11, wfk_crash h11 (by decide) ps⟩
end Go.Proofs.Ytlmkhieojgpgcaa
