/- Several texts in one: SoL, SoO, SoC, SoE. -/
import Derived.Test.YtkcnmajjfljilaaGreatDoorSgO
import Derived.Test.YtkcnmajjfljilaaGreatDoorSoDR
import Derived.Test.YtkcnmajjfljilaaGreatDoorSgNil
import Derived.BigQuiet
/- source: several logs on one file system. -/
namespace Go.Proofs.YtkcnmajjfljilaaGreatDoor
open Go Go.ChangeShapes Go.WideShapes Go.ChangeAt Go.RowKit Go.ChangeMaps Go.MapKept
set_option linter.unusedVariables false
set_option linter.unusedSimpArgs false

/-- A partition's log. -/
structure Pt where
  l : Nat
  cnt : Nat
  fs : List Nat
  rs : List (List UInt8)
  dur : Int
def pN (k : Nat) : Nm := [112, UInt8.ofNat (48 + k)]
theorem pN_inj {j k : Nat} (hj : j < 4) (hk : k < 4) (h : pN j = pN k) : j = k := by
  have h2 : UInt8.ofNat (48 + j) = UInt8.ofNat (48 + k) := by
    unfold pN at h
    injection h with _ h
    injection h
  have h3 := congrArg UInt8.toNat h2
  simp only [UInt8.toNat_ofNat'] at h3
  omega
theorem pN_right {k : Nat} (hk : k < 4) : right (pN k) = true := by
  have h : k = 0 ∨ k = 1 ∨ k = 2 ∨ k = 3 := by omega
  rcases h with rfl | rfl | rfl | rfl <;> decide
theorem Sl.laid {s : Fs} {room used : Int} {dir : Nm} {cnt : Nat} {fs : List Nat} {rs : List (List UInt8)} (h : Sl s room used dir cnt fs rs) {z : Nat} (hz : Mine s dir z) : s.file z ≠ none := by
  obtain ⟨_, mp, d, f⟩ := h
  obtain ⟨n, hn⟩ := hz
  have h1 := (d.mp n).symm.trans hn
  obtain ⟨i, hi, rfl⟩ := f.only n z h1
  obtain ⟨j, hj, rfl⟩ := List.getElem_of_mem hi
  obtain ⟨x, sf, h2, h3⟩ := f.file j hj
  rw [h1] at h2
  injection h2 with h2
  rw [h2, h3]
  simp
theorem mine_dir {s s' : Fs} {dir : Nm} {z : Nat} (h : s'.dir dir = s.dir dir) (hz : Mine s' dir z) : Mine s dir z := by
  unfold Mine at *
  rwa [h] at hz
/-- Logs on one file system. -/
structure Logs (Q : Nat → Prop) (B f : Nat) (room used : Int) (M : Nat) (size : Int) (ps : List Pt) (S : Fs) (w : World) : Prop where
  ls : ∃ P : Nat → Nat → Prop, (∀ k (h : k < ps.length), SegAt (P k) ps[k].l f (pN k) size ps[k].fs ((lastL ps[k].fs ps[k].rs : Nat) : Int) (ps[k].rs.length : Int) ps[k].dur w) ∧
    Rep (fun i => Q i ∨ ∃ k, k < ps.length ∧ P k i) B f S w ∧ (∀ k i, k < ps.length → P k i → ¬ Q i ∧ B ≤ i) ∧ ∀ j k i, j < ps.length → k < ps.length → P j i → P k i → j = k
  sl : ∀ k (h : k < ps.length), Sl S room used (pN k) ps[k].cnt ps[k].fs ps[k].rs
  gl : Gl S room used
  mine : ∀ j k z, j < ps.length → k < ps.length → Mine S (pN j) z → Mine S (pN k) z → j = k
  wf : WfK M S
  few : ∀ k (h : k < ps.length), ps[k].rs.length ≤ 16000 ∧ 0 ≤ ps[k].dur ∧ ps[k].dur ≤ ps[k].rs.length
  parts : ps.length ≤ 4
section
variable {Q : Nat → Prop} {B f M : Nat} {room used size : Int} {ps : List Pt} {S : Fs} {w w' : World}
theorem Logs.below (h : Logs Q B f room used M size ps S w) (hb : Below w.heap.size w w') : Logs Q B f room used M size ps S w' := by
  obtain ⟨P, h1, h2, h3, h4⟩ := h.ls
  exact ⟨⟨P, fun k hk => (h1 k hk).below hb, h2.quiet (chb hb), h3, h4⟩, h.sl, h.gl, h.mine, h.wf, h.few, h.parts⟩
/-- One of the logs by itself, and back. -/
theorem Logs.at_ (h : Logs Q B f room used M size ps S w) {k : Nat} (hk : k < ps.length) : ∃ Q' : Nat → Prop, (∀ i, Q i → Q' i) ∧ Sg Q' B ps[k].l f (pN k) room used ps[k].cnt M size ps[k].fs ps[k].rs ps[k].dur S w ∧
    ∀ S' w' used' M' p', Sg Q' B p'.l f (pN k) room used' p'.cnt M' size p'.fs p'.rs p'.dur S' w' → Turn Q' B w w' → OnlyD (pN k) S S' → Logs Q B f room used' M' size (ps.set k p') S' w' := by
  obtain ⟨P, h1, h2, h3, h4⟩ := h.ls
  refine ⟨fun i => Q i ∨ ∃ j, j < ps.length ∧ j ≠ k ∧ P j i, fun i hi => .inl hi, ⟨⟨P k, h1 k hk, h2.fewer fun i hi => ?_, fun i hi => ⟨fun hq => ?_, (h3 k i hk hi).2⟩⟩, h.sl k hk, h.wf, (h.few k hk).1, (h.few k hk).2⟩, ?_⟩
  · rcases hi with (hi | ⟨j, hj, _, hi⟩) | hi
    · exact .inl hi
    · exact .inr ⟨j, hj, hi⟩
    · exact .inr ⟨k, hk, hi⟩
  · rcases hq with hq | ⟨j, hj, hne, hq⟩
    · exact (h3 k i hk hi).1 hq
    · exact hne (h4 j k i hj hk hq hi)
  · intro S' w' used' M' p' hg ht ho
    obtain ⟨P', g1, g2, g3⟩ := hg.ls
    have hlen : (ps.set k p').length = ps.length := List.length_set ..
    have hpt : ∀ (j : Nat) (hj : j < (ps.set k p').length), (ps.set k p')[j] = if k = j then p' else ps[j]'(by rw [hlen] at hj; exact hj) := fun j hj => by rw [List.getElem_set]
    have hgl : Gl S' room used' := hg.sl.gl
    have h4l := h.parts
    refine ⟨⟨fun j i => if j = k then P' i else P j i, fun j hj => ?_, g2.fewer fun i hi => ?_, fun j i hj hi => ?_, fun a b i ha hb hi hi2 => ?_⟩, fun j hj => ?_, hgl, fun a b z ha hb hz hz2 => ?_, hg.wf, fun j hj => ?_, by rw [hlen]; exact h.parts⟩
    · rw [hpt j hj]
      by_cases e : j = k
      · subst e; simp only [if_pos rfl]; exact g1
      · rw [if_neg (fun e2 => e e2.symm)]
        simp only [if_neg e]
        rw [hlen] at hj
        exact (h1 j hj).kept ht.ch (fun i hi hn => hn (.inr ⟨j, hj, e, hi⟩))
    · rcases hi with hi | ⟨j, hj, hi⟩
      · exact .inl (.inl hi)
      · by_cases e : j = k
        · rw [if_pos e] at hi; exact .inr hi
        · rw [if_neg e] at hi; exact .inl (.inr ⟨j, by rw [hlen] at hj; exact hj, e, hi⟩)
    · rw [hlen] at hj
      by_cases e : j = k
      · simp only [if_pos e] at hi
        exact ⟨fun hq => (g3 i hi).1 (.inl hq), (g3 i hi).2⟩
      · simp only [if_neg e] at hi; exact h3 j i hj hi
    · rw [hlen] at ha hb
      by_cases e : a = k <;> by_cases e2 : b = k
      · rw [e, e2]
      · simp only [if_pos e] at hi
        simp only [if_neg e2] at hi2
        exact absurd (.inr ⟨b, hb, e2, hi2⟩) (g3 i hi).1
      · simp only [if_neg e] at hi
        simp only [if_pos e2] at hi2
        exact absurd (.inr ⟨a, ha, e, hi⟩) (g3 i hi2).1
      · simp only [if_neg e] at hi
        simp only [if_neg e2] at hi2
        exact h4 a b i ha hb hi hi2
    · rw [hpt j hj]
      rw [hlen] at hj
      by_cases e : k = j
      · subst e; rw [if_pos rfl]; exact hg.sl
      · rw [if_neg e]
        exact (h.sl j hj).other ho (fun e2 => e (pN_inj (by omega) (by omega) e2).symm) (fun z hz hz2 => e (h.mine k j z hk hj hz2 hz)) hgl
    · rw [hlen] at ha hb
      have hd : ∀ j, j < ps.length → j ≠ k → S'.dir (pN j) = S.dir (pN j) := fun j hj e => ho.beside.2 _ (fun e2 => e (pN_inj (by omega) (by omega) e2))
      by_cases e : a = k <;> by_cases e2 : b = k
      · rw [e, e2]
      · subst e
        have h5 := mine_dir (hd b hb e2) hz2
        rcases ho.mine z hz with h6 | h6
        · exact h.mine a b z ha hb h6 h5
        · exact absurd h6 ((h.sl b hb).laid h5)
      · subst e2
        have h5 := mine_dir (hd a ha e) hz
        rcases ho.mine z hz2 with h6 | h6
        · exact h.mine a b z ha hb h5 h6
        · exact absurd h6 ((h.sl a ha).laid h5)
      · exact h.mine a b z ha hb (mine_dir (hd a ha e) hz) (mine_dir (hd b hb e2) hz2)
    · rw [hpt j hj]
      by_cases e : k = j
      · rw [if_pos e]; exact ⟨hg.few, hg.dur⟩
      · rw [if_neg e]; exact h.few j (by rw [hlen] at hj; exact hj)
/-- A log more. -/
theorem Logs.more_ (h : Logs Q B f room used M size ps S w) (hl : ps.length < 4) : ∃ Q' : Nat → Prop, (∀ i, Q i → Q' i) ∧ Rep Q' B f S w ∧
    ∀ S' w' used' M' p', Sg Q' B p'.l f (pN ps.length) room used' p'.cnt M' size p'.fs p'.rs p'.dur S' w' → Turn Q' B w w' → (∀ d, d ≠ pN ps.length → S'.dir d = S.dir d) → S'.names = nins (pN ps.length) S.names → (∀ z, S.file z ≠ none → S'.file z = S.file z) → (∀ z, Mine S' (pN ps.length) z → S.file z = none) → Logs Q B f room used' M' size (ps ++ [p']) S' w' := by
  obtain ⟨P, h1, h2, h3, h4⟩ := h.ls
  refine ⟨fun i => Q i ∨ ∃ j, j < ps.length ∧ P j i, fun i hi => .inl hi, h2, ?_⟩
  intro S' w' used' M' p' hg ht hd hn hf hm
  obtain ⟨P', g1, g2, g3⟩ := hg.ls
  have hlen : (ps ++ [p']).length = ps.length + 1 := by simp
  have hgl : Gl S' room used' := hg.sl.gl
  have hdr : ∀ (j : Nat) (hj : j < ps.length), Sl S' room used' (pN j) ps[j].cnt ps[j].fs ps[j].rs := fun j hj => by
    obtain ⟨_, mp, d, k⟩ := h.sl j hj
    have hne : pN j ≠ pN ps.length := fun e2 => by have := pN_inj (by omega) (by omega) e2; omega
    have he := hd _ hne
    refine ⟨hgl, mp, ⟨⟨by rw [hn]; exact mem_nins.2 (.inr d.dirs.1), d.dirs.2⟩, by rw [he]; exact d.rising, by rw [he]; exact d.replay, by rw [he]; exact d.len, fun n => by rw [he]; exact d.mp n⟩, k.first, fun i hi => ?_, k.only, k.inj, k.rlen⟩
    obtain ⟨x, sf, e1, e2⟩ := k.file i hi
    exact ⟨x, sf, e1, (hf x (by rw [e2]; simp)).trans e2⟩
  refine ⟨⟨fun j i => if j = ps.length then P' i else P j i, fun j hj => ?_, g2.fewer fun i hi => ?_, fun j i hj hi => ?_, fun a b i ha hb hi hi2 => ?_⟩, fun j hj => ?_, hgl, fun a b z ha hb hz hz2 => ?_, hg.wf, fun j hj => ?_, by rw [hlen]; omega⟩
  · rw [hlen] at hj
    by_cases e : j < ps.length
    · rw [List.getElem_append_left e]
      simp only [if_neg (show ¬ j = ps.length by omega)]
      exact (h1 j e).kept ht.ch (fun i hi hn => hn (.inr ⟨j, e, hi⟩))
    · obtain rfl : j = ps.length := by omega
      rw [List.getElem_concat_length rfl]
      simp only [if_pos rfl]
      exact g1
  · rcases hi with hi | ⟨j, hj, hi⟩
    · exact .inl (.inl hi)
    · rw [hlen] at hj
      by_cases e : j = ps.length
      · rw [if_pos e] at hi; exact .inr hi
      · rw [if_neg e] at hi; exact .inl (.inr ⟨j, by omega, hi⟩)
  · rw [hlen] at hj
    by_cases e : j = ps.length
    · simp only [if_pos e] at hi
      exact ⟨fun hq => (g3 i hi).1 (.inl hq), (g3 i hi).2⟩
    · simp only [if_neg e] at hi; exact h3 j i (by omega) hi
  · rw [hlen] at ha hb
    by_cases e : a = ps.length <;> by_cases e2 : b = ps.length
    · rw [e, e2]
    · simp only [if_pos e] at hi
      simp only [if_neg e2] at hi2
      exact absurd (.inr ⟨b, by omega, hi2⟩) (g3 i hi).1
    · simp only [if_neg e] at hi
      simp only [if_pos e2] at hi2
      exact absurd (.inr ⟨a, by omega, hi⟩) (g3 i hi2).1
    · simp only [if_neg e] at hi
      simp only [if_neg e2] at hi2
      exact h4 a b i (by omega) (by omega) hi hi2
  · rw [hlen] at hj
    by_cases e : j < ps.length
    · rw [List.getElem_append_left e]; exact hdr j e
    · obtain rfl : j = ps.length := by omega
      rw [List.getElem_concat_length rfl]; exact hg.sl
  · rw [hlen] at ha hb
    have hd2 : ∀ j, j < ps.length → S'.dir (pN j) = S.dir (pN j) := fun j hj => hd _ (fun e2 => by have := pN_inj (by omega) (by omega) e2; omega)
    by_cases e : a = ps.length <;> by_cases e2 : b = ps.length
    · rw [e, e2]
    · subst e
      exact absurd (hm z hz) ((h.sl b (by omega)).laid (mine_dir (hd2 b (by omega)) hz2))
    · subst e2
      exact absurd (hm z hz2) ((h.sl a (by omega)).laid (mine_dir (hd2 a (by omega)) hz))
    · exact h.mine a b z (by omega) (by omega) (mine_dir (hd2 a (by omega)) hz) (mine_dir (hd2 b (by omega)) hz2)
  · rw [hlen] at hj
    by_cases e : j < ps.length
    · rw [List.getElem_append_left e]; exact h.few j e
    · obtain rfl : j = ps.length := by omega
      rw [List.getElem_concat_length rfl]; exact ⟨hg.few, hg.dur⟩
end
end Go.Proofs.YtkcnmajjfljilaaGreatDoor

/- source: Open, Append, Sync, Parts, Ends while the power is on; calls of no source. -/
namespace Go.Proofs.YtkcnmajjfljilaaGreatDoor
open Go Go.ChangeShapes Go.WideShapes Go.ChangeAt Go.RowKit Go.ChangeMaps Go.MapKept
set_option linter.unusedVariables false
set_option linter.unusedSimpArgs false

section
variable {Q : Nat → Prop} {B f M : Nat} {dir : Nm} {room used size : Int} {s : Fs} {w : World}
theorem Sl.empty {cnt : Nat} (h : Sl s room used dir cnt [] []) (z : Nat) : ¬ Mine s dir z := by
  rintro ⟨n, hn⟩
  obtain ⟨_, mp, d, f⟩ := h
  obtain ⟨i, hi, _⟩ := f.only n z ((d.mp n).symm.trans hn)
  cases hi
set_option maxRecDepth 100000 in
set_option maxHeartbeats 4000000 in
/-- A log is opened in a directory not yet there; the files that were there stay. -/
theorem open_sg2 (hr : Rep Q B f s w) (wf : WfK M s) (g : Gl s room used) (hd : right dir = true) (hn : dir ∉ s.names) (hl : s.names.length < 64) (hM : M + 2 ≤ 1000000) (hBw : B ≤ w.heap.size) (hT : Tab B w) (hsz : 1 ≤ size ∧ size ≤ 16777216) :
    Calls Tryz.prog 25 #[.pointer (some ⟨f, 0, none⟩), .string (txt dir), .int .i64 size] w fun e w' => ∃ l s', e = .returned (.tuple #[.pointer (some ⟨l, 0, none⟩), .int .i64 0]) ∧ Sg Q B l f dir room used 0 (M + 2) size [] [] 0 s' w' ∧ Turn Q B w w' ∧ s'.names = nins dir s.names ∧ (∀ d, d ≠ dir → s'.dir d = s.dir d) ∧ (∀ z, s.file z ≠ none → s'.file z = s.file z) ∧ ∀ z, Mine s' dir z → s.file z = none := by
  obtain ⟨h1, h2, h3, h4, h5, h6, h7⟩ := fresh_sl g hd hn hl
  have hwm := wfk_mkdir wf dir
  have HRD := Lib.hid (ready_any hr wf dir (by rw [h1, h2]; simpa using hM) hBw)
  rw [h3] at HRD
  obtain ⟨s', hs'⟩ : ∃ s', (mkdirR s dir).2 = s' := ⟨_, rfl⟩
  rw [hs'] at HRD h4 h5 h6 h7 hwm
  have HSL := Lib.hid h4
  have HWF := Lib.hid hwm
  have HTAB := Lib.hid hT
  have H5 := Lib.hid h5
  have H6 := Lib.hid h6
  have H7 := Lib.hid h7
  obtain ⟨g1, g2⟩ := hsz
  have g3 : ¬ size < 1 := by omega
  have g4 : ¬ 16777216 < size := by omega
  clear hr wf g hd hn hl h1 h2 h3 h4 h5 h6 h7 hs' hwm hT
  go_enter Tryz.func25, Tryz.ntmps25
  go_wp2_with (first
    | (go_at_call 38; go_loud (refine HRD.out.mono ?_; rintro e w2 ⟨v, rfl, h1, h2, h3⟩; obtain ⟨A2, c2, rfl, _⟩ := names_own h1; have HR2 := Lib.hid h2; have HT2 := Lib.hid h3; clear h1 h2 h3))
    | (go_at_call 40; go_loud (refine (numbers_none A2 c2 _).mono ?_; rintro e w3 ⟨rfl, rfl⟩))
    | (go_at_call 39; go_loud (refine (take_none _ _).mono ?_; rintro e w3 ⟨rfl, rfl⟩))
    | (go_at_call 29; go_loud (refine (sync_sg (seg_fresh HR2.out HSL.out HWF.out (Nat.le_trans hBw HT2.out.size)) hM (Nat.le_trans hBw (Nat.le_trans HT2.out.size (by simp))) (HTAB.out.below (HT2.out.below.alloc (Nat.le_trans hBw HT2.out.size) _))).mono ?_; rintro e w4 ⟨rfl, s4, p1, p2, p3⟩; have HP1 := Lib.hid p1; have HP2 := Lib.hid p2; have HP3 := Lib.hid p3; clear p1 p2 p3)))
  go_ret2
  refine ⟨_, s4, rfl, HP1.out, HT2.out.trans ((Turn.of ((Below.refl _ w2).alloc (Nat.le_refl _) _) (Nat.le_trans hBw HT2.out.size)).trans HP2.out), HP3.out.beside.1.trans H5.out, fun d hd => (HP3.out.beside.2 d hd).trans (H6.out d hd), fun z hz => ?_, fun z hz => ?_⟩
  · rw [← H7.out] at hz ⊢
    exact HP3.out.file z hz (HSL.out.empty z)
  · rw [← H7.out]
    exact (HP3.out.mine z hz).resolve_left (HSL.out.empty z)
end
def dgt (k : Nat) : ByteArray := ⟨#[UInt8.ofNat (48 + k)]⟩
theorem small_any (k : Nat) (hk : k < 4) (w : World) : Calls Tryz.prog 92 #[.int .i64 (k : Int)] w fun e w' => e = .returned (.string (dgt k)) ∧ w = w' := by
  have h : k = 0 ∨ k = 1 ∨ k = 2 ∨ k = 3 := by omega
  rcases h with rfl | rfl | rfl | rfl
  all_goals go_enter Tryz.func92, Tryz.ntmps92
  all_goals go_wp2
  all_goals go_ret
  all_goals exact ⟨rfl, rfl⟩
theorem formatInt_any (k : Nat) (hk : k < 4) (w : World) : Calls Tryz.prog 64 #[.int .i64 (k : Int), .int .i64 10] w fun e w' => e = .returned (.string (dgt k)) ∧ w = w' := by
  have h1 : (0 : Int) ≤ (k : Int) := by omega
  have h2 : (k : Int) < 100 := by omega
  go_enter Tryz.func64, Tryz.ntmps64
  go_wp2_with (go_at_call 92; go_loud (refine (small_any k hk _).mono ?_; rintro e w1 ⟨rfl, rfl⟩))
  go_ret
  exact ⟨rfl, rfl⟩
theorem itoaI_any (k : Nat) (hk : k < 4) (w : World) : Calls Tryz.prog 41 #[.int .i64 (k : Int)] w fun e w' => e = .returned (.string (dgt k)) ∧ w = w' := by
  go_enter Tryz.func41, Tryz.ntmps41
  go_wp2_with (go_at_call 64; go_loud (refine (formatInt_any k hk _).mono ?_; rintro e w1 ⟨rfl, rfl⟩))
  go_ret
  exact ⟨rfl, rfl⟩
theorem itoa_any (k : Nat) (hk : k < 4) (w : World) : Calls Tryz.prog 26 #[.int .i64 (k : Int)] w fun e w' => e = .returned (.string (dgt k)) ∧ w = w' := by
  go_enter Tryz.func26, Tryz.ntmps26
  go_wp2_with (go_at_call 41; go_loud (refine (itoaI_any k hk _).mono ?_; rintro e w1 ⟨rfl, rfl⟩))
  go_ret
  exact ⟨rfl, rfl⟩
theorem dgt_txt (k : Nat) : (⟨#[112]⟩ : ByteArray) ++ dgt k = txt (pN k) := by
  unfold dgt pN txt; apply ByteArray.ext; simp

/-! ### a source in memory -/
def lp (ps : List Pt) (k : Nat) : Value := match ps[k]? with | some p => .pointer (some ⟨p.l, 0, none⟩) | none => .pointer none
def soC (ps : List Pt) (N : Nat) : Array Value := #[lp ps 0, lp ps 1, lp ps 2, lp ps 3, .int .i64 (N : Int)]
theorem lp_at {ps : List Pt} {k : Nat} (hk : k < ps.length) : lp ps k = .pointer (some ⟨ps[k].l, 0, none⟩) := by unfold lp; rw [List.getElem?_eq_getElem hk]
theorem soC_at (ps : List Pt) (N : Nat) {k : Nat} (hk : k < 4) : (soC ps N)[k]? = some (lp ps k) := by
  have h : k = 0 ∨ k = 1 ∨ k = 2 ∨ k = 3 := by omega
  rcases h with rfl | rfl | rfl | rfl <;> rfl
theorem lp_set {ps : List Pt} {k : Nat} {p : Pt} (hk : k < ps.length) (h : p.l = ps[k].l) (j : Nat) : lp (ps.set k p) j = lp ps j := by
  unfold lp
  rw [List.getElem?_set]
  by_cases e : k = j
  · subst e; rw [if_pos rfl, if_pos hk, List.getElem?_eq_getElem hk]; exact congrArg (fun l => Value.pointer (some ⟨l, 0, none⟩)) h
  · rw [if_neg e]
theorem soC_set {ps : List Pt} {k : Nat} {p : Pt} (hk : k < ps.length) (h : p.l = ps[k].l) (N : Nat) : soC (ps.set k p) N = soC ps N := by
  unfold soC; rw [lp_set hk h, lp_set hk h, lp_set hk h, lp_set hk h]
theorem lp_snoc (ps : List Pt) (p : Pt) (j : Nat) : lp (ps ++ [p]) j = if j = ps.length then .pointer (some ⟨p.l, 0, none⟩) else lp ps j := by
  unfold lp
  by_cases e : j = ps.length
  · subst e; rw [if_pos rfl]; simp
  · rw [if_neg e]
    by_cases e2 : j < ps.length
    · rw [List.getElem?_append_left e2]
    · rw [List.getElem?_eq_none (by simp; omega), List.getElem?_eq_none (by omega)]
theorem soC_snoc (ps : List Pt) (p : Pt) (N : Nat) (h : ps.length < 4) : (soC ps N).setIfInBounds ps.length (.pointer (some ⟨p.l, 0, none⟩)) = soC (ps ++ [p]) N := by
  unfold soC
  rw [lp_snoc, lp_snoc, lp_snoc, lp_snoc]
  have h2 : ps.length = 0 ∨ ps.length = 1 ∨ ps.length = 2 ∨ ps.length = 3 := by omega
  rcases h2 with e | e | e | e <;> rw [e] <;> rfl
/-- A source: the logs, and where it lies. -/
structure Src (Q : Nat → Prop) (B s f : Nat) (room used : Int) (M : Nat) (size : Int) (ps : List Pt) (S : Fs) (w : World) : Prop where
  logs : Logs Q B f room used M size ps S w
  cells : Cells w s (soC ps ps.length) 71
  own : Q s
section
variable {Q : Nat → Prop} {B s f M : Nat} {room used size : Int} {ps : List Pt} {S : Fs} {w w' : World}
theorem Src.below (h : Src Q B s f room used M size ps S w) (hb : Below w.heap.size w w') : Src Q B s f room used M size ps S w' := ⟨h.logs.below hb, (hb.block s h.cells.lt).trans h.cells, h.own⟩
theorem Src.len (h : Src Q B s f room used M size ps S w) : ps.length ≤ 4 := h.logs.parts
theorem log_src (hc : Cells w s (soC ps ps.length) 71) (hl : ps.length ≤ 4) {k : Nat} (hk : k < ps.length) : Calls Tryz.prog 27 #[.pointer (some ⟨s, 0, none⟩), .int .i64 (k : Int)] w fun e w' => e = .returned (.tuple #[.pointer (some ⟨ps[k].l, 0, none⟩), .int .i64 0]) ∧ w = w' := by
  have c4 : w.cell? ⟨s, 4, none⟩ = some (.int .i64 (ps.length : Int)) := hc.cell 4
  have ck : w.cell? ⟨s, k, none⟩ = some (lp ps k) := (hc.cell k).trans (soC_at _ _ (by omega))
  rw [lp_at hk] at ck
  obtain ⟨l, hl0⟩ : ∃ l, ps[k].l = l := ⟨_, rfl⟩
  rw [hl0] at ck ⊢
  have h1 : ¬ (k : Int) < 0 := by omega
  have h2 : ¬ (ps.length : Int) ≤ (k : Int) := by omega
  have h3 : (k : Int) < 4 := by omega
  have h4 : k < 4 := by omega
  clear hc hl hl0
  go_enter Tryz.func27, Tryz.ntmps27
  go_wp2
  go_ret2
  exact ⟨rfl, rfl⟩
end
end Go.Proofs.YtkcnmajjfljilaaGreatDoor

/- source: Append, Sync, Parts, Ends, Open while the power is on; calls of no source. -/
namespace Go.Proofs.YtkcnmajjfljilaaGreatDoor
open Go Go.ChangeShapes Go.WideShapes Go.ChangeAt Go.RowKit Go.ChangeMaps Go.MapKept
set_option linter.unusedVariables false
set_option linter.unusedSimpArgs false

section
variable {Q : Nat → Prop} {B s f M : Nat} {room used size : Int} {ps : List Pt} {S : Fs} {w w' : World}
/-- A record more, in a partition. -/
def apP (size : Int) (p : Pt) (b : List UInt8) : Pt := ⟨p.l, p.cnt + 1, apF size p.fs p.rs, p.rs ++ [b], apD size p.fs p.rs p.dur⟩
/-- A partition whose records last. -/
def syP (p : Pt) : Pt := ⟨p.l, p.cnt, p.fs, p.rs, p.rs.length⟩
set_option maxRecDepth 100000 in
set_option maxHeartbeats 4000000 in
theorem append_src (h : Src Q B s f room used M size ps S w) {k : Nat} (hk : k < ps.length) (hsz : 1 ≤ size ∧ size ≤ 16777216) (hc : ps[k].cnt < 4095) (hfl : ps[k].fs.length ≤ 999980) (hM : M + 4 ≤ 1000000) (hBw : B ≤ w.heap.size) (hT : Tab B w)
    (a : Addr) (n c : Nat) (b : List UInt8) (hn : n = b.length) (hb : b.length ≤ 1024) (hby : BytesAt w w.heap.size (some a) b) (hrs : ps[k].rs.length < 16000) (hu : used + (8 + b.length) ≤ room) :
    Calls Tryz.prog 13 #[.pointer (some ⟨s, 0, none⟩), .int .i64 (k : Int), .slice (some a) n c] w fun e w' => e = .returned (.tuple #[.int .i64 (ps[k].rs.length : Int), .int .i64 0]) ∧ ∃ S', Src Q B s f room (used + (8 + b.length)) (M + 4) size (ps.set k (apP size ps[k] b)) S' w' ∧ Turn Q B w w' := by
  obtain ⟨Q', hQ, hsg, back⟩ := h.logs.at_ hk
  have HLOG := Lib.hid (log_src h.cells h.len hk)
  have HAPP := Lib.hid (append_sg hsg hsz hc hfl hM hBw hT a n c b hn hb hby hrs hu)
  have HBACK := Lib.hid (fun S' w' => back S' w' (used + (8 + b.length)) (M + 4) (apP size ps[k] b))
  have HC := Lib.hid h.cells
  have HOWN := Lib.hid h.own
  have HQ := Lib.hid hQ
  have hps := soC_set (p := apP size ps[k] b) hk rfl
  have HPS := Lib.hid (fun N => hps N)
  obtain ⟨l, hl0⟩ : ∃ l, ps[k].l = l := ⟨_, rfl⟩
  rw [hl0] at HLOG HAPP
  have HL0 := Lib.hid hl0
  have HK := Lib.hid hk
  clear hsg back h hby hQ hps hl0 hT hn hb hrs hu hc hfl hM hsz hBw
  go_enter Tryz.func13, Tryz.ntmps13
  go_wp2_with (first
    | (go_at_call 27; go_loud (refine HLOG.out.mono ?_; rintro e w1 ⟨rfl, rfl⟩))
    | (go_at_call 28; go_loud (refine HAPP.out.mono ?_; rintro e w2 ⟨rfl, S2, h1, h2, h3⟩; have H1 := Lib.hid h1; have H2 := Lib.hid h2; have H3 := Lib.hid h3; clear h1 h2 h3)))
  go_ret2
  have hlg := HBACK.out S2 w2 (by rw [show (apP size ps[k] b).l = l from HL0.out]; exact H1.out) H2.out H3.out
  refine ⟨rfl, S2, ⟨hlg, ?_, HOWN.out⟩, H2.out.fewer HQ.out⟩
  rw [List.length_set, HPS.out]
  exact HC.out.ch H2.out.ch (fun hn => hn (HQ.out _ HOWN.out))
theorem sync_src (h : Src Q B s f room used M size ps S w) {k : Nat} (hk : k < ps.length) (hM : M + 1 ≤ 1000000) (hBw : B ≤ w.heap.size) (hT : Tab B w) :
    Calls Tryz.prog 14 #[.pointer (some ⟨s, 0, none⟩), .int .i64 (k : Int)] w fun e w' => e = .returned (.int .i64 0) ∧ ∃ S', Src Q B s f room used (M + 1) size (ps.set k (syP ps[k])) S' w' ∧ Turn Q B w w' := by
  obtain ⟨Q', hQ, hsg, back⟩ := h.logs.at_ hk
  have HLOG := Lib.hid (log_src h.cells h.len hk)
  have HAPP := Lib.hid (sync_sg hsg hM hBw hT)
  have HBACK := Lib.hid (fun S' w' => back S' w' used (M + 1) (syP ps[k]))
  have HC := Lib.hid h.cells
  have HOWN := Lib.hid h.own
  have HQ := Lib.hid hQ
  have hps := soC_set (p := syP ps[k]) hk rfl
  have HPS := Lib.hid (fun N => hps N)
  obtain ⟨l, hl0⟩ : ∃ l, ps[k].l = l := ⟨_, rfl⟩
  rw [hl0] at HLOG HAPP
  have HL0 := Lib.hid hl0
  clear hsg back h hQ hps hl0 hT
  go_enter Tryz.func14, Tryz.ntmps14
  go_wp2_with (first
    | (go_at_call 27; go_loud (refine HLOG.out.mono ?_; rintro e w1 ⟨rfl, rfl⟩))
    | (go_at_call 29; go_loud (refine HAPP.out.mono ?_; rintro e w2 ⟨rfl, S2, h1, h2, h3⟩; have H1 := Lib.hid h1; have H2 := Lib.hid h2; have H3 := Lib.hid h3; clear h1 h2 h3)))
  go_ret
  have hlg := HBACK.out S2 w2 (by rw [show (syP ps[k]).l = l from HL0.out]; exact H1.out) H2.out H3.out
  refine ⟨rfl, S2, ⟨hlg, ?_, HOWN.out⟩, H2.out.fewer HQ.out⟩
  rw [List.length_set, HPS.out]
  exact HC.out.ch H2.out.ch (fun hn => hn (HQ.out _ HOWN.out))
theorem parts_src (hc : Cells w s (soC ps ps.length) 71) : Calls Tryz.prog 19 #[.pointer (some ⟨s, 0, none⟩)] w fun e w' => e = .returned (.int .i64 (ps.length : Int)) ∧ w = w' := by
  have c4 : w.cell? ⟨s, 4, none⟩ = some (.int .i64 (ps.length : Int)) := hc.cell 4
  clear hc
  go_enter Tryz.func19, Tryz.ntmps19
  go_wp2
  go_ret
  exact ⟨rfl, rfl⟩
/-- How many records of each partition last. -/
def durs (ps : List Pt) : List Int := ps.map (·.dur)
theorem durs_length (ps : List Pt) : (durs ps).length = ps.length := by simp [durs]
def EndsPost (ps : List Pt) (w : World) (e : Ending) (w' : World) : Prop :=
  ∃ D, e = .returned (.slice (some ⟨D, 0, none⟩) ps.length ps.length) ∧ w.heap.size ≤ D ∧ Cells w' D (iA (durs ps)) 2 ∧ Below w.heap.size w w'
def dk (ps : List Pt) (k : Nat) : List Int := (durs ps).take k ++ List.replicate (ps.length - k) 0
theorem dk_next {ps : List Pt} {k : Nat} (hk : k < ps.length) : (dk ps k).set k ps[k].dur = dk ps (k + 1) := by
  have hl : k < (durs ps).length := by rw [durs_length]; exact hk
  unfold dk
  rw [List.set_append_right _ _ (by rw [List.length_take]; omega), List.length_take, Nat.min_eq_left (by omega), Nat.sub_self]
  rw [show ps.length - k = (ps.length - (k + 1)) + 1 by omega, List.replicate_succ, List.set_cons_zero, List.take_add_one, List.getElem?_eq_getElem hl]
  simp [durs]
theorem dk_all (ps : List Pt) : dk ps ps.length = durs ps := by
  unfold dk; rw [Nat.sub_self, ← durs_length ps, List.take_length]; simp
set_option maxRecDepth 100000 in
set_option maxHeartbeats 4000000 in
theorem ends_src (h : Src Q B s f room used M size ps S w) : Calls Tryz.prog 20 #[.pointer (some ⟨s, 0, none⟩)] w (EndsPost ps w) := by
  have HPT := Lib.hid (parts_src h.cells)
  have HSRC := Lib.hid h
  have hl := h.len
  have hmk := fun W => make_l ps.length (by omega) W
  have HDU := Lib.hid (fun (W : World) (hb : Below w.heap.size w W) (k : Nat) (hk : k < ps.length) => (show Calls Tryz.prog 33 #[.pointer (some ⟨ps[k].l, 0, none⟩)] W fun e w' => e = .returned (.int .i64 ps[k].dur) ∧ W = w' from by
    obtain ⟨Q', _, hsg, _⟩ := (h.below hb).logs.at_ hk
    exact durable_sg hsg))
  clear h
  go_enter Tryz.func20, Tryz.ntmps20
  go_wp2_with (go_at_call 19; go_loud (refine HPT.out.mono ?_; rintro e w1 ⟨rfl, rfl⟩))
  have HC0 := Lib.hid (Cells.new w (iA (List.replicate ps.length 0)) 2)
  have HB0 := Lib.hid ((Below.refl _ w).alloc (Nat.le_refl _) (.cells (iA (List.replicate ps.length 0)) 2))
  obtain ⟨D, hD⟩ : ∃ D, w.heap.size = D := ⟨_, rfl⟩
  rw [show (Cells (w.alloc (.cells (iA (List.replicate ps.length 0)) 2)) w.heap.size (iA (List.replicate ps.length 0)) 2) = Cells (w.alloc (.cells (iA (List.replicate ps.length 0)) 2)) D (iA (List.replicate ps.length 0)) 2 by rw [hD]] at HC0
  have HDE := Lib.hid hD
  rw [hD]
  clear hD hmk
  go_loopw [10] (fun iv wr => ∃ k : Nat, iv = .int .i64 (k : Int) ∧ k ≤ ps.length ∧ Hid (Cells wr D (iA (dk ps k)) 2) ∧ Hid (Below w.heap.size w wr)) (fun iv _ => ps.length - (intOf iv).toNat)
  case atStart => exact ⟨0, rfl, Nat.zero_le _, Lib.hid (by have := HC0.out; simpa [dk] using this), HB0⟩
  case round =>
    obtain ⟨k, rfl, hk, HC, HB⟩ := hrel
    by_cases hlt : k < ps.length
    · have hsr := HSRC.out.below HB.out
      have ck : wr.cell? ⟨s, k, none⟩ = some (lp ps k) := (hsr.cells.cell k).trans (soC_at _ _ (by omega))
      rw [lp_at hlt] at ck
      have HD := Lib.hid (HDU.out wr HB.out k hlt)
      have HN := Lib.hid (fun (W : World) (hc : Cells W D (iA (dk ps k)) 2) => (show Cells (W.setCell ⟨D, k, none⟩ (.int .i64 ps[k].dur)) D (iA (dk ps (k + 1))) 2 by rw [← dk_next hlt]; exact hc.iset k _))
      have HBN := Lib.hid (fun v => HB.out.setCell (p := ⟨D, k, none⟩) (by rw [HDE.out]; exact Nat.le_refl _) v)
      have hdl : (dk ps k).length = ps.length := by unfold dk; rw [List.length_append, List.length_take, durs_length, List.length_replicate]; omega
      have hd0 := HC.out.iat (k := k) (by rw [hdl]; exact hlt)
      have hd1 := HC.out.frozen k
      obtain ⟨o, ho⟩ : ∃ o, (dk ps k)[k]'(by rw [hdl]; exact hlt) = o := ⟨_, rfl⟩
      rw [ho] at hd0
      have hDW : D < wr.heap.size := HC.out.lt
      obtain ⟨l, hl0⟩ : ∃ l, ps[k].l = l := ⟨_, rfl⟩
      obtain ⟨d, hd0'⟩ : ∃ d, ps[k].dur = d := ⟨_, rfl⟩
      rw [hl0] at ck HD
      rw [hd0'] at HD HN
      have hlt2 : (k : Int) < (ps.length : Int) := by omega
      have hk4 : k < 4 := by omega
      have hk5 : (k : Int) < 4 := by omega
      clear hsr ho hdl hl0 hd0'
      go_wp2_with (go_at_call 33; go_loud (refine HD.out.mono ?_; rintro e w3 ⟨rfl, rfl⟩))
      go_roundw
      case rel => exact ⟨k + 1, by go_num, hlt, Lib.hid (HN.out _ HC.out), Lib.hid (HBN.out _)⟩
      case measure => simp [intOf]; omega
    · obtain rfl : k = ps.length := by omega
      have hc := HC.out
      rw [dk_all] at hc
      have HC2 := Lib.hid hc
      clear hc
      have hlt2 : ¬ (ps.length : Int) < (ps.length : Int) := by omega
      go_wp2_with fail
      go_ret
      exact ⟨D, rfl, by rw [HDE.out]; exact Nat.le_refl _, HC2.out, HB.out⟩
end

/-! ### no source -/
theorem log_no (k : Int) (w : World) : Calls Tryz.prog 27 #[.pointer none, .int .i64 k] w fun e w' => e = .returned (.tuple #[.pointer none, .int .i64 1]) ∧ w = w' := by
  go_enter Tryz.func27, Tryz.ntmps27
  go_wp2
  go_ret2
  exact ⟨rfl, rfl⟩
theorem sappend_no (k : Int) (v : Value) (w : World) : Calls Tryz.prog 13 #[.pointer none, .int .i64 k, v] w fun e w' => e = .returned (.tuple #[.int .i64 0, .int .i64 1]) ∧ w = w' := by
  go_enter Tryz.func13, Tryz.ntmps13
  go_wp2_with (go_at_call 27; go_loud (refine (log_no _ _).mono ?_; rintro e w1 ⟨rfl, rfl⟩))
  go_ret2
  exact ⟨rfl, rfl⟩
theorem ssync_no (k : Int) (w : World) : Calls Tryz.prog 14 #[.pointer none, .int .i64 k] w fun e w' => e = .returned (.int .i64 1) ∧ w = w' := by
  go_enter Tryz.func14, Tryz.ntmps14
  go_wp2_with (go_at_call 27; go_loud (refine (log_no _ _).mono ?_; rintro e w1 ⟨rfl, rfl⟩))
  go_ret
  exact ⟨rfl, rfl⟩
theorem parts_no (w : World) : Calls Tryz.prog 19 #[.pointer none] w fun e w' => e = .returned (.int .i64 0) ∧ w = w' := by
  go_enter Tryz.func19, Tryz.ntmps19
  go_wp2
  go_ret
  exact ⟨rfl, rfl⟩
set_option maxRecDepth 100000 in
theorem ends_no (w : World) : Calls Tryz.prog 20 #[.pointer none] w fun e w' => e = .returned (.slice (some ⟨w.heap.size, 0, none⟩) 0 0) ∧ Below w.heap.size w w' := by
  have hmk : ∀ W : World, (Instr.makeSlice 22 (.int .i64 0) (.int .i64 0)).run Tryz.prog W = .ok (.slice (some ⟨W.heap.size, 0, none⟩) 0 0) (W.alloc (.cells (iA (List.replicate 0 0)) 2)) := fun W => make_l 0 (by omega) W
  go_enter Tryz.func20, Tryz.ntmps20
  go_wp2_with (go_at_call 19; go_loud (refine (parts_no _).mono ?_; rintro e w1 ⟨rfl, rfl⟩))
  have HB0 := Lib.hid ((Below.refl _ w).alloc (Nat.le_refl _) (.cells (iA (List.replicate 0 0)) 2))
  clear hmk
  go_loopw [10] (fun iv wr => iv = .int .i64 0 ∧ Hid (Below w.heap.size w wr)) (fun iv _ => 0)
  case atStart => exact ⟨rfl, HB0⟩
  case round =>
    obtain ⟨rfl, HB⟩ := hrel
    go_wp2_with fail
    go_ret
    exact ⟨rfl, HB.out⟩
theorem plan_no (v : Value) (k : Int) (w : World) : Calls Tryz.prog 16 #[.pointer none, v, .int .i64 k] w fun e w' => e = .returned (.tuple #[.slice none 0 0, .int .i64 1]) ∧ w = w' := by
  go_enter Tryz.func16, Tryz.ntmps16
  go_wp2
  go_ret2
  exact ⟨rfl, rfl⟩
theorem sread_no (v : Value) (w : World) : Calls Tryz.prog 18 #[.pointer none, v] w fun e w' => e = .returned (.tuple #[.slice none 0 0, .int .i64 1]) ∧ w = w' := by
  go_enter Tryz.func18, Tryz.ntmps18
  go_wp2
  go_ret2
  exact ⟨rfl, rfl⟩
end Go.Proofs.YtkcnmajjfljilaaGreatDoor

/- source: Open; SourceNil's calls. -/
namespace Go.Proofs.YtkcnmajjfljilaaGreatDoor
open Go Go.ChangeShapes Go.WideShapes Go.ChangeAt Go.RowKit Go.ChangeMaps Go.MapKept
set_option linter.unusedVariables false
set_option linter.unusedSimpArgs false

theorem lp_none (ps : List Pt) : lp ps ps.length = .pointer none := by unfold lp; rw [List.getElem?_eq_none (Nat.le_refl _)]
theorem open_bad (v : Value) (parts size : Int) (h : parts < 1 ∨ (¬ parts < 1 ∧ 4 < parts)) (w : World) : Calls Tryz.prog 12 #[v, .int .i64 parts, .int .i64 size] w fun e w' => e = .returned (.tuple #[.pointer none, .int .i64 110]) ∧ w = w' := by
  rcases h with h | ⟨h, h2⟩
  all_goals go_enter Tryz.func12, Tryz.ntmps12
  all_goals go_wp2
  all_goals go_ret2
  all_goals exact ⟨rfl, rfl⟩
set_option maxRecDepth 100000 in
set_option maxHeartbeats 2000000 in
theorem sopen_no (parts size : Int) (h : ¬ parts < 1) (h2 : ¬ 4 < parts) (g1 : ¬ size < 1) (g2 : ¬ 16777216 < size) (w : World) : Calls Tryz.prog 12 #[.pointer none, .int .i64 parts, .int .i64 size] w fun e w' => e = .returned (.tuple #[.pointer none, .int .i64 1]) ∧ Below w.heap.size w w' := by
  have HI := Lib.hid (fun W => itoa_any 0 (by decide) W)
  have hd : (⟨#[112]⟩ : ByteArray) ++ dgt 0 = txt (pN 0) := dgt_txt 0
  have h0 : (0 : Int) < parts := by omega
  have HO := Lib.hid (fun W => open_no (txt (pN 0)) size g1 g2 W)
  clear g1 g2
  go_enter Tryz.func12, Tryz.ntmps12
  go_wp2
  have HB0 := Lib.hid ((Below.refl _ w).alloc (Nat.le_refl _) (.cells #[.pointer none, .pointer none, .pointer none, .pointer none, .int .i64 parts] 71))
  go_loopw [22] (fun iv wr => iv = .int .i64 0 ∧ Hid (Below w.heap.size w wr)) (fun iv _ => 0)
  case atStart => exact ⟨rfl, HB0⟩
  case round =>
    obtain ⟨rfl, HB⟩ := hrel
    go_wp2_with (first
      | (go_at_call 26; go_loud (refine (HI.out _).mono ?_; rintro e w1 ⟨rfl, rfl⟩))
      | (go_at_call 25; go_loud (refine (HO.out _).mono ?_; rintro e w2 ⟨rfl, h2⟩; have HB2 := Lib.hid h2; clear h2)))
    go_ret2
    exact ⟨rfl, HB.out.trans (HB2.out.mono HB.out.size)⟩
theorem Logs.kept {Q : Nat → Prop} {B f M : Nat} {room used size : Int} {ps : List Pt} {S : Fs} {w w' : World} {T : Nat → Prop} (h : Logs Q B f room used M size ps S w) (k : Ch T w w') (hT : ∀ i, T i → Q i) : Logs Q B f room used M size ps S w' := by
  obtain ⟨P, h1, h2, h3, h4⟩ := h.ls
  exact ⟨⟨P, fun j hj => (h1 j hj).kept k (fun i hi ht => (h3 j i hj hi).1 (hT i ht)), h2.kept k (fun i _ ht => .inl (hT i ht)), h3, h4⟩, h.sl, h.gl, h.mine, h.wf, h.few, h.parts⟩
section
variable {Q : Nat → Prop} {B f M : Nat} {room used size : Int} {S : Fs} {w w' : World}
/-- A partition that is new. -/
def newP (l : Nat) : Pt := ⟨l, 0, [], [], 0⟩
/-- Between two partitions that are opened. -/
structure Opg (Q : Nat → Prop) (B s f : Nat) (room used : Int) (M : Nat) (size : Int) (N : Nat) (j : Nat) (w0 w : World) : Prop where
  ex : ∃ ps S, Logs Q B f room used (M + 2 * j) size ps S w ∧ Cells w s (soC ps N) 71 ∧ ps.length = j ∧ (∀ k (h : k < ps.length), ps[k] = newP ps[k].l) ∧ S.names.length ≤ j ∧ (∀ k, j ≤ k → k < 4 → pN k ∉ S.names)
  own : Q s
  turn : Turn (fun i => Q i ∧ i ≠ s) B w0 w
def OpenPost (Q : Nat → Prop) (B f : Nat) (room used : Int) (M : Nat) (size : Int) (N : Nat) (w : World) (e : Ending) (w' : World) : Prop :=
  ∃ s ps S, e = .returned (.tuple #[.pointer (some ⟨s, 0, none⟩), .int .i64 0]) ∧ Src (fun i => Q i ∨ i = s) B s f room used (M + 2 * N) size ps S w' ∧ ps.length = N ∧ (∀ k (h : k < ps.length), ps[k] = newP ps[k].l) ∧ Turn Q B w w'
set_option maxRecDepth 100000 in
set_option maxHeartbeats 8000000 in
theorem open_src (hr : Rep Q B f S w) (wf : WfK M S) (g : Gl S room used) (hn : S.names = []) (N : Nat) (hN : 1 ≤ N ∧ N ≤ 4) (hM : M + 2 * N ≤ 999990) (hBw : B ≤ w.heap.size) (hT : Tab B w) (hsz : 1 ≤ size ∧ size ≤ 16777216) (hQ : ∀ i, Q i → i < w.heap.size) :
    Calls Tryz.prog 12 #[.pointer (some ⟨f, 0, none⟩), .int .i64 (N : Int), .int .i64 size] w (OpenPost Q B f room used M size N w) := by
  have h1 : ¬ (N : Int) < 1 := by omega
  have h2 : ¬ 4 < (N : Int) := by omega
  have HTAB := Lib.hid hT
  have HSZ := Lib.hid hsz
  have HQ := Lib.hid hQ
  obtain ⟨W0, hW0⟩ : ∃ W0, w.alloc (.cells #[.pointer none, .pointer none, .pointer none, .pointer none, .int .i64 (N : Int)] 71) = W0 := ⟨_, rfl⟩
  have hb0 : Below w.heap.size w W0 := by rw [← hW0]; exact (Below.refl _ w).alloc (Nat.le_refl _) _
  have HOP := Lib.hid (show Opg (fun i => Q i ∨ i = w.heap.size) B w.heap.size f room used M size N 0 w W0 from by
    refine ⟨⟨[], S, ⟨⟨fun _ _ => False, fun k hk => absurd hk (by simp), hr.more (chb hb0) (fun i hi => ?_), fun k i hk => absurd hk (by simp), fun j k i hj => absurd hj (by simp)⟩, fun k hk => absurd hk (by simp), g, fun j k z hj => absurd hj (by simp), wf, fun k hk => absurd hk (by simp), by simp⟩, ?_, rfl, fun k hk => absurd hk (by simp), by rw [hn]; simp, fun k _ _ => by rw [hn]; simp⟩, .inr rfl, ?_⟩
    · rcases hi with (hi | rfl) | ⟨k, hk, _⟩
      · exact .inl hi
      · exact .inr ⟨Nat.le_refl _, by rw [← hW0]; simp⟩
      · exact absurd hk (by simp)
    · rw [← hW0]; exact Cells.new w _ _
    · exact Turn.of hb0 hBw)
  clear hr wf g hn hT hsz hQ
  go_enter Tryz.func12, Tryz.ntmps12
  go_wp2
  try rw [hW0]
  have hs0 : w.heap.size < W0.heap.size := by rw [← hW0]; simp
  obtain ⟨s, hs⟩ : ∃ s, w.heap.size = s := ⟨_, rfl⟩
  rw [hs] at HOP ⊢
  have HS := Lib.hid hs
  clear hW0 hb0 hs hs0
  go_loopw [22] (fun iv wr => ∃ j : Nat, iv = .int .i64 (j : Int) ∧ j ≤ N ∧ Hid (Opg (fun i => Q i ∨ i = s) B s f room used M size N j w wr)) (fun iv _ => N - (intOf iv).toNat)
  case atStart => exact ⟨0, rfl, Nat.zero_le _, HOP⟩
  case round =>
    obtain ⟨j, rfl, hj, HO⟩ := hrel
    by_cases hlt : j < N
    · obtain ⟨ps, S1, hlogs, hcells, rfl, hnew, hnl, hnn⟩ := HO.out.ex
      have hl4 : ps.length < 4 := by omega
      have hBr : B ≤ wr.heap.size := Nat.le_trans hBw HO.out.turn.size
      obtain ⟨Q', hQ', hrep, back⟩ := hlogs.more_ hl4
      have HOPEN := Lib.hid (open_sg2 (dir := pN ps.length) hrep hlogs.wf hlogs.gl (pN_right hl4) (hnn _ (Nat.le_refl _) hl4) (by omega) (by omega) hBr (HTAB.out.below HO.out.turn.below) HSZ.out)
      have HBACK := Lib.hid back
      have HCELLS := Lib.hid hcells
      have HNEW := Lib.hid hnew
      have HNN := Lib.hid hnn
      have HQ' := Lib.hid hQ'
      have HI := Lib.hid (fun W => itoa_any ps.length hl4 W)
      have hd : (⟨#[112]⟩ : ByteArray) ++ dgt ps.length = txt (pN ps.length) := dgt_txt _
      have hsr : s < wr.heap.size := hcells.lt
      have HSNOC := Lib.hid (fun p => soC_snoc ps p N hl4)
      have hlt2 : (ps.length : Int) < (N : Int) := by omega
      have hl5 : (ps.length : Int) < 4 := by omega
      clear hlogs hcells hnew hnn hrep back hQ'
      go_wp2_with (first
        | (go_at_call 26; go_loud (refine (HI.out _).mono ?_; rintro e w1 ⟨rfl, rfl⟩))
        | (go_at_call 25; go_loud (refine HOPEN.out.mono ?_; rintro e w2 ⟨l, S2, rfl, q1, q2, q3, q4, q5, q6⟩; have Q1 := Lib.hid q1; have Q2 := Lib.hid q2; have Q3 := Lib.hid q3; have Q4 := Lib.hid q4; have Q5 := Lib.hid q5; have Q6 := Lib.hid q6; have hc2 : Cells w2 s (soC ps N) 71 := HCELLS.out.ch q2.ch (fun hn => hn (HQ'.out _ (.inr rfl))); have HC2 := Lib.hid hc2; have hf2 := hc2.frozen ps.length; have hcc2 : w2.cell? ⟨s, ps.length, none⟩ = some (.pointer none) := (hc2.cell _).trans ((soC_at _ _ hl4).trans (congrArg some (lp_none ps))); have hs2 : s < w2.heap.size := hc2.lt; clear q1 q2 q3 q4 q5 q6 hc2)))
      go_roundw
      case rel =>
        refine ⟨ps.length + 1, by go_num, hlt, Lib.hid ⟨⟨ps ++ [newP l], S2, ?_, ?_, by simp, fun k hk => ?_, ?_, fun k hk hk4 => ?_⟩, HO.out.own, ?_⟩⟩
        · have hl2 := HBACK.out S2 w2 used (M + 2 * ps.length + 2) (newP l) Q1.out Q2.out Q4.out Q3.out Q5.out Q6.out
          exact hl2.kept ((Ch.refl (· = s) w2).set (p := ⟨s, ps.length, none⟩) (.inl rfl) _) (fun i hi => .inr hi)
        · have := HC2.out.set ps.length (.pointer (some ⟨l, 0, none⟩))
          rwa [show (soC ps N).setIfInBounds ps.length (.pointer (some ⟨l, 0, none⟩)) = soC (ps ++ [newP l]) N from HSNOC.out (newP l)] at this
        · by_cases e : k < ps.length
          · rw [List.getElem_append_left e]; exact HNEW.out k e
          · rw [List.length_append, List.length_singleton] at hk
            obtain rfl : k = ps.length := by omega
            rw [List.getElem_concat_length rfl]; rfl
        · rw [Q3.out]
          rw [nins_length]; omega
        · rw [Q3.out, mem_nins]
          rintro (e | e)
          · have := pN_inj hk4 hl4 e; omega
          · exact HNN.out k (by omega) hk4 e
        · refine HO.out.turn.trans ((Q2.out.fewer (fun i hi => HQ'.out _ hi.1)).trans ⟨(Below.refl B w2).setCell (p := ⟨s, ps.length, none⟩) (by rw [← HS.out]; exact hBw) _, (Ch.refl (fun k => ¬ ((Q k ∨ k = s) ∧ k ≠ s)) w2).set (p := ⟨s, ps.length, none⟩) (.inl fun h => h.2 rfl) _⟩)
      case measure => simp [intOf]; omega
    · obtain rfl : j = N := by omega
      have hlt2 : ¬ (j : Int) < (j : Int) := by omega
      go_wp2_with fail
      go_ret2
      obtain ⟨ps, S1, hlogs, hcells, rfl, hnew, _, _⟩ := HO.out.ex
      exact ⟨s, ps, S1, rfl, ⟨hlogs, hcells, .inr rfl⟩, rfl, hnew, HO.out.turn.fewer (fun i hi => ⟨.inl hi, fun e => by have h := HQ.out i hi; have h2 := HS.out; omega⟩)⟩
end
end Go.Proofs.YtkcnmajjfljilaaGreatDoor
