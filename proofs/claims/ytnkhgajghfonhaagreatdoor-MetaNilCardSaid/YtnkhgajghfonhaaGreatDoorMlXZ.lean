/- Several texts in one: MlX, MlY, MlZ. -/
import Derived.Test.YtnkhgajghfonhaaGreatDoorMlVW
import Derived.Test.YtnkhgajghfonhaaGreatDoorMlTU
import Derived.Test.YtnkhgajghfonhaaGreatDoorPlAlive
import Derived.Lib.SlBytesConst
/- metalog: calls while the power is on, in memory. -/
namespace Go.Proofs.YtnkhgajghfonhaaGreatDoor
open Go Go.ChangeShapes Go.WideShapes Go.ChangeAt Go.RowKit Go.ChangeMaps Go.MapKept
set_option linter.unusedVariables false
set_option linter.unusedSimpArgs false

theorem LS.keep {Q : Nat → Prop} {B l f : Nat} {dir : Nm} {rs : List Mr} {fs : List Int} {s : Fs} {w w' : World} (h : LS Q B l f dir rs fs s w) (hb : Below w.heap.size w w') : LS (With Q w.heap.size w'.heap.size) B l f dir rs fs s w' := by
  obtain ⟨P, h1, h2, h3⟩ := h
  refine ⟨P, h1.below hb, (h2.keep hb).fewer (fun i hi => ?_), fun i hi => ⟨fun hq => ?_, (h3 i hi).2⟩⟩
  · rcases hi with (h | h) | h
    · exact .inl (.inl h)
    · exact .inr h
    · exact .inl (.inr h)
  · rcases hq with h | h
    · exact (h3 i hi).1 h
    · have := h1.lt i hi; omega
theorem LS.fewer {Q Q' : Nat → Prop} {B l f : Nat} {dir : Nm} {rs : List Mr} {fs : List Int} {s : Fs} {w : World} (h : LS Q B l f dir rs fs s w) (hq : ∀ i, Q' i → Q i) : LS Q' B l f dir rs fs s w := by
  obtain ⟨P, h1, h2, h3⟩ := h
  exact ⟨P, h1, h2.fewer (fun i hi => hi.imp (hq i) id), fun i hi => ⟨fun h => (h3 i hi).1 (hq i h), (h3 i hi).2⟩⟩
/-- A log, its files, its memory. -/
structure Lm (Q : Nat → Prop) (B l f : Nat) (dir : Nm) (room used : Int) (cnt M : Nat) (rs : List Mr) (fs : List Int) (s : Fs) (w : World) : Prop where
  ls : LS Q B l f dir rs fs s w
  lg : Lg s room used dir cnt rs fs
  wf : WfK M s
section
variable {Q : Nat → Prop} {B l f cnt M : Nat} {dir : Nm} {room used : Int} {rs : List Mr} {fs : List Int} {s : Fs} {w : World}
theorem Lm.quiet {w' : World} (h : Lm Q B l f dir room used cnt M rs fs s w) (hb : Below w.heap.size w w') : Lm Q B l f dir room used cnt M rs fs s w' := ⟨h.ls.quiet hb, h.lg, h.wf⟩
theorem Lm.log (h : Lm Q B l f dir room used cnt M rs fs s w) : ∃ P, LogAt P l f dir rs fs w := by obtain ⟨P, h1, _⟩ := h.ls; exact ⟨P, h1⟩
theorem lk_none {rs : List Mr} {t : Int} (h : ∀ r ∈ rs, r.id ≠ t) : lkI rs t = none := by
  unfold lkI
  rw [List.find?_eq_none]
  intro r hr
  simpa using h r hr
theorem wfk_rem {K : Nat} {s : Fs} (h : WfK K s) (dir : Nm) (ns : List Nm) : WfK (K + ns.length + 1) (remR dir ns s).2 := by
  unfold remR
  split
  · exact h.mono (by omega)
  · exact wfk_thn (wfk_rmAll dir ns h) fun s hs => wfk_syncDir hs dir
theorem wfk_fold {upto : Int} {x : Nat} (h : WfK M s) : WfK (M + 8 + rs.length + fs.length) (foldR s dir rs fs upto x).2.2.2 := by
  unfold foldR
  split
  · exact h.mono (by omega)
  · split
    · exact h.mono (by omega)
    · have h1 := wfk_raw h dir (fN (foldId rs fs upto)) (fr (listL pairL ((foldUp rs fs upto).map prOf))) x
      have h2 := wfk_rem h1 dir (foldGo rs fs (foldId rs fs upto))
      have h3 : (foldGo rs fs (foldId rs fs upto)).length ≤ _ := lv_length _ _ rs fs
      unfold foldM
      dsimp only
      split
      · exact h1.mono (by omega)
      · split
        · exact h2.mono (by omega)
        · exact h2.mono (by omega)
/-- A Put of a greater number, of bytes that lie behind the world w. -/
theorem put_lm (h : Lm Q B l f dir room used cnt M rs fs s w) (hBw : B ≤ w.heap.size) {W : World} (hb : Below w.heap.size w W) (hT : Tab B w) (hM : M + 6 ≤ 1000000) (hc : cnt < 4000) (t : Int) (h0 : 0 ≤ t) (h1 : t ≤ 1099511627776) (hgt : ∀ r ∈ rs, r.id < t) (hrl : rs.length ≤ 999999970)
    (a : Addr) (n c : Nat) (b : List UInt8) (hn : n = b.length) (hbl : b.length ≤ 16777208) (hby : BytesAt W W.heap.size (some a) b) (ha : w.heap.size ≤ a.block ∧ a.block < W.heap.size) (hu : used + (fr b).length ≤ room) :
    Calls Tryz.prog 12 #[.pointer (some ⟨l, 0, none⟩), .int .i64 t, .slice (some a) n c] W fun e w' => e = .returned (.int .i64 0) ∧ ∃ A c s', Lm Q B l f dir room (used + (fr b).length) (cnt + 2) (M + 6) (rs ++ [⟨t, b, false, true, A, c⟩]) fs s' w' ∧ Turn Q B w w' ∧ Beside dir s s' := by
  obtain ⟨P, hlog⟩ := h.log
  have hat : atI rs t = rs.length := IsAt.eq ⟨Nat.le_refl _, fun j hj _ => hgt _ (List.getElem_mem hj), fun j hj h => absurd hj (by omega)⟩
  refine (put_new (h.ls.keep hb) h.wf hM (Nat.le_trans hBw hb.size) (hT.below (hb.mono hBw)) t h0 h1 (lk_none (fun r hr => by have := hgt r hr; omega)) hat hrl a n c b hn hbl hby (.inr ha)).mono ?_
  rintro e w' ⟨x, rs', hx, he, hok, _, hls, ht⟩
  have hp := fun A c => lg_put h.lg hlog.ids hc (x := ⟨t, b, false, true, A, c⟩) ⟨h0, by show t ≤ _; omega⟩ rfl rfl (fun r hr e => by have := hgt r hr; have e' : r.id = t := e; omega) (by show (fr b).length ≤ _; rw [fr_length]; omega) hu hx rs [] (by rw [List.append_nil])
  have e1' : (rawR s dir (bN t) (fr b) x).1 = 0 := (hp none 0).1
  obtain ⟨A, c2, rfl⟩ := hok e1'
  obtain ⟨_, lg2, bs⟩ := hp A c2
  rw [e1'] at he
  refine ⟨he, A, c2, _, ⟨hls.fewer (fun i hi => .inl hi), lg2, wfk_raw h.wf dir (bN t) (fr b) x⟩, (Turn.of hb hBw).trans ht.kept, bs⟩
theorem fold_lm (h : Lm Q B l f dir room used cnt M rs fs s w) (hBw : B ≤ w.heap.size) (hT : Tab B w) (hM : M + 8 + rs.length + fs.length ≤ 1000000) (hc : cnt < 4000) (upto : Int) (T : Nat) (hl : ∀ k, (fr (listL pairL ((rs.take k).map prOf))).length ≤ T) (hb : T ≤ 16777208) (hu : used + T ≤ room) :
    Calls Tryz.prog 11 #[.pointer (some ⟨l, 0, none⟩), .int .i64 upto] w fun e w' => ∃ E, e = .returned (.int .i64 E) ∧ (E = 0 ∨ E = 91) ∧ ((∃ r ∈ rs, r.id ≤ upto) → E = 0) ∧ ∃ rs' fs' s', SameT rs rs' ∧ Lm Q B l f dir room (used + T) (cnt + 2) (M + 8 + rs.length + fs.length) rs' fs' s' w' ∧ Turn Q B w w' ∧ Beside dir s s' := by
  obtain ⟨P, hlog⟩ := h.log
  refine (fold_any h.ls h.wf hM hBw hT upto (fun k => by have := hl k; rw [fr_length] at this; omega)).mono ?_
  rintro e w' ⟨x, hx, he, hls, ht⟩
  obtain ⟨E, rs', fs', s', hF, lg2, bs, hsame, hE, hE0⟩ := lg_fold h.lg hlog.rise hlog.ids hlog.fids hc upto T hl (by omega) hu hx
  have hw := wfk_fold (dir := dir) (rs := rs) (fs := fs) (upto := upto) (x := x) h.wf
  rw [hF] at he hls hw
  exact ⟨E, he, hE, hE0, rs', fs', s', hsame, ⟨hls, lg2, hw⟩, ht, bs⟩
end
/-- A directory not yet there. -/
theorem fresh_ready {s : Fs} {room used : Int} {dir : Nm} (g : Gl s room used) (hr : right dir = true) (hn : dir ∉ s.names) (hl : s.names.length < 64) :
    readyM s dir = mkdirR s dir ∧ listN (mkdirR s dir).2 dir = [] ∧ readyR s dir = ([], 0, (mkdirR s dir).2) ∧ Lg (mkdirR s dir).2 room used dir 0 [] [] ∧ (mkdirR s dir).2.names = nins dir s.names ∧ (∀ d, d ≠ dir → (mkdirR s dir).2.dir d = s.dir d) ∧ (mkdirR s dir).2.file = s.file := by
  have hlive : liveE s dir [] = 61 := by
    unfold liveE dirE
    rw [g.on, if_pos rfl, if_pos (by simp [hr]), if_neg hn]
  have hm : mkdirR s dir = (0, mkdirS (stepped s) dir) := by
    unfold mkdirR
    rw [hlive, if_neg (by decide), if_neg (by simp), if_neg (by omega), if_neg (by rw [g.fuse]; decide)]
  have hM : readyM s dir = mkdirR s dir := by unfold readyM; rw [hlive, if_pos rfl]
  have e3 : (mkdirS (stepped s) dir).dir dir = ⟨[], [], []⟩ := upd_same _ _ _
  have g2 : Gl (mkdirS (stepped s) dir) room used := ⟨g.on, gl_fu g, g.room, g.used⟩
  have d2 : Dr (mkdirS (stepped s) dir) dir 0 (fun _ => none) := by
    refine ⟨⟨mem_nins.2 (.inl rfl), hr⟩, ?_, ?_, ?_, fun n => ?_⟩
    · rw [e3]; exact List.Pairwise.nil
    · rw [e3]; rfl
    · rw [e3]; exact Nat.le_refl _
    · rw [e3]; rfl
  have hlive2 := gl_live g2 d2 (ns := []) rfl
  have hL : listN (mkdirS (stepped s) dir) dir = [] := by unfold listN; rw [if_pos hlive2, e3]; rfl
  have hC : cleanR (mkdirS (stepped s) dir) dir = (0, 0, mkdirS (stepped s) dir) := by
    unfold cleanR
    rw [hL, hlive2, if_neg (by simp), show tmps [] = [] from rfl, if_neg (by simp [rmAll]), if_pos rfl]; rfl
  refine ⟨hM, by rw [hm]; exact hL, ?_, ?_, by rw [hm]; rfl, fun d hd => by rw [hm]; exact upd_other _ _ _ _ hd, by rw [hm]; rfl⟩
  · unfold readyR
    rw [hM, hm, if_neg (by simp)]
    rw [show cleanR (0, mkdirS (stepped s) dir).2 dir = _ from hC, if_neg (by simp)]
    show (listN (mkdirS (stepped s) dir) dir, liveE (mkdirS (stepped s) dir) dir [], _) = _
    rw [hL, hlive2]
  · rw [hm]
    exact ⟨g2, _, d2, fun _ => rfl, fun r h => absurd h (by simp), fun r h => absurd h (by simp), (fun n x h => by cases h), by decide, fun r h => absurd h (by simp), fun _ r h => absurd h (by simp), fun n h => absurd h (by simp)⟩
theorem gl_new {room : Int} : Gl (newFs room) room 0 := ⟨rfl, rfl, rfl, Int.le_refl _⟩
end Go.Proofs.YtnkhgajghfonhaaGreatDoor

/- alive: the chapter's example. -/
namespace Go.Proofs.YtnkhgajghfonhaaGreatDoor
open Go Go.ChangeShapes Go.WideShapes Go.ChangeAt Go.RowKit Go.ChangeMaps Go.MapKept
open Go.Lib (byteCells byteCells_length byteCells_append strCells)
set_option linter.unusedVariables false
set_option linter.unusedSimpArgs false

section
variable {Q : Nat → Prop} {B l f cnt M : Nat} {dir : Nm} {room used : Int} {rs : List Mr} {fs : List Int} {s : Fs} {w : World}
/-- A log is opened in a directory not yet there. -/
theorem open_fresh (hr : Rep Q B f s w) (wf : WfK M s) (g : Gl s room used) (hd : right dir = true) (hn : dir ∉ s.names) (hl : s.names.length < 64) (hM : M + 2 ≤ 1000000) (hBw : B ≤ w.heap.size) :
    Calls Tryz.prog 9 #[.pointer (some ⟨f, 0, none⟩), .string (txt dir)] w fun e w' => ∃ l s', e = .returned (.tuple #[.pointer (some ⟨l, 0, none⟩), .int .i64 0]) ∧ Lm Q B l f dir room used 0 (M + 1) [] [] s' w' ∧ Turn Q B w w' ∧ s'.names = nins dir s.names ∧ (∀ d, d ≠ dir → s'.dir d = s.dir d) := by
  obtain ⟨h1, h2, h3, h4, h5, h6, h7⟩ := fresh_ready g hd hn hl
  refine (open_new hr wf (by rw [h1, h2]; simpa using hM) hBw h3).mono ?_
  rintro e w' ⟨l, he, hls, ht⟩
  exact ⟨l, _, he, ⟨hls, h4, wfk_mkdir wf dir⟩, ht, h5, h6⟩
theorem same_len {rs rs' : List Mr} (h : SameT rs rs') : rs'.length = rs.length := by have := congrArg List.length h; simpa using this
theorem same_lk {rs rs' : List Mr} (h : SameT rs rs') (t : Int) : (lkI rs' t).map (·.b) = (lkI rs t).map (·.b) := by
  unfold SameT at h
  induction rs generalizing rs' with
  | nil =>
    cases rs' with
    | nil => rfl
    | cons a b => cases h
  | cons r rs ih =>
    cases rs' with
    | nil => cases h
    | cons r' rs' =>
      rw [List.map_cons, List.map_cons] at h
      injection h with h1 h2
      injection h1 with h3 h4
      have h5 := ih h2
      unfold lkI at h5 ⊢
      rw [List.find?_cons, List.find?_cons, h3]
      by_cases e : r.id = t
      · rw [decide_eq_true e]
        show some r'.b = some r.b
        rw [h4]
      · rw [decide_eq_false e]
        exact h5
theorem lit_at (w : World) (c : UInt8) (v : Int) (hv : v = (c.toNat : Int)) : BytesAt (w.alloc (.cells #[.int .u8 v] 5 (1, 2))) (w.alloc (.cells #[.int .u8 v] 5 (1, 2))).heap.size (some ⟨w.heap.size, 0, none⟩) [c] := by
  subst hv
  intro j hj
  refine ⟨w.heap.size, 0, rfl, by simp, ?_⟩
  obtain rfl : j = 0 := by simp at hj; exact hj
  rw [Nat.zero_add, World.cell?_alloc_mark]
  rfl
/-- Put of one byte, of a greater number. -/
theorem put_lit (h : Lm Q B l f dir room used cnt M rs fs s w) (hBw : B ≤ w.heap.size) (hT : Tab B w) (hM : M + 6 ≤ 1000000) (hc : cnt < 4000) (t : Int) (h0 : 0 ≤ t) (h1 : t ≤ 1099511627776) (hgt : ∀ r ∈ rs, r.id < t) (hrl : rs.length ≤ 999999970) (c : UInt8) (v : Int) (hv : v = (c.toNat : Int)) (hu : used + 9 ≤ room) :
    Calls Tryz.prog 12 #[.pointer (some ⟨l, 0, none⟩), .int .i64 t, .slice (some ⟨w.heap.size, 0, none⟩) 1 1] (w.alloc (.cells #[.int .u8 v] 5 (1, 2))) fun e w' => e = .returned (.int .i64 0) ∧ ∃ A c' s', Lm Q B l f dir room (used + 9) (cnt + 2) (M + 6) (rs ++ [⟨t, [c], false, true, A, c'⟩]) fs s' w' ∧ Turn Q B w w' ∧ Beside dir s s' := by
  have hf : (fr [c]).length = 9 := by rw [fr_length]; rfl
  have h9 := put_lm h hBw ((Below.refl _ w).alloc (Nat.le_refl _) (.cells #[.int .u8 v] 5 (1, 2))) hT hM hc t h0 h1 hgt hrl ⟨w.heap.size, 0, none⟩ 1 1 [c] rfl (by show 1 ≤ _; decide) (lit_at w c v hv) ⟨Nat.le_refl _, by simp⟩ (by rw [hf]; exact hu)
  rw [hf] at h9
  exact h9
/-- Put of one byte, of a number that has another. -/
theorem old_lit (h : Lm Q B l f dir room used cnt M rs fs s w) (t : Int) (h0 : 0 ≤ t) (h1 : t ≤ 1099511627776) {b : List UInt8} (hlk : (lkI rs t).map (·.b) = some b) (c : UInt8) (v : Int) (hv : v = (c.toNat : Int)) :
    Calls Tryz.prog 12 #[.pointer (some ⟨l, 0, none⟩), .int .i64 t, .slice (some ⟨w.heap.size, 0, none⟩) 1 1] (w.alloc (.cells #[.int .u8 v] 5 (1, 2))) fun e w' => e = .returned (.int .i64 (if b = [c] then 0 else 90)) ∧ Below w.heap.size w w' := by
  obtain ⟨P, hlog⟩ := h.log
  obtain ⟨r, hr, rfl⟩ := Option.map_eq_some_iff.1 hlk
  have hb : Below w.heap.size w (w.alloc (.cells #[.int .u8 v] 5 (1, 2))) := (Below.refl _ w).alloc (Nat.le_refl _) _
  exact (put_old (hlog.below hb) t h0 h1 hr (some ⟨w.heap.size, 0, none⟩) 1 1 [c] rfl (lit_at w c v hv)).mono fun e w' hh => ⟨hh.1, hb.trans (hh.2.mono hb.size)⟩
theorem get_lm (h : Lm Q B l f dir room used cnt M rs fs s w) (t : Int) {b : List UInt8} (hlk : (lkI rs t).map (·.b) = some b) : Calls Tryz.prog 17 #[.pointer (some ⟨l, 0, none⟩), .int .i64 t] w (ReadPost 0 b w) := by
  obtain ⟨P, hlog⟩ := h.log
  obtain ⟨r, hr, rfl⟩ := Option.map_eq_some_iff.1 hlk
  have := get_m hlog t
  rw [hr] at this
  exact this
theorem len_lm (h : Lm Q B l f dir room used cnt M rs fs s w) : Calls Tryz.prog 15 #[.pointer (some ⟨l, 0, none⟩)] w fun e w' => e = .returned (.int .i64 (rs.length : Int)) ∧ w = w' := by
  obtain ⟨P, hlog⟩ := h.log
  exact len_m hlog
end
theorem wordL_le {s : ByteArray} (h : s.size < 18446744073709551616) : (wordL s).length ≤ 10 + s.size := by
  have := numL_len64 h
  unfold wordL
  rw [List.length_append]
  have e : s.data.toList.length = s.size := by simp
  omega
/-- How long a fold's bytes are at most. -/
theorem fold_len {rs : List Mr} {m : Nat} (h : ∀ r ∈ rs, r.b.length ≤ m) (hm : m ≤ 16777216) (hl : rs.length ≤ 1000000) (k : Nat) : (fr (listL pairL ((rs.take k).map prOf))).length ≤ 18 + (36 + m) * rs.length := by
  have h1 : (listL pairL ((rs.take k).map prOf)).length ≤ 10 + (36 + m) * ((rs.take k).map prOf).length := by
    refine listL_le (by rw [List.length_map, List.length_take]; omega) (fun p hp => ?_)
    obtain ⟨r, hr, rfl⟩ := List.mem_map.1 hp
    have hb := h r (List.mem_of_mem_take hr)
    have e1 : (txt (hexL r.id)).size = 16 := by rw [txt_size, hexL_length]
    have e2 : (txt r.b).size = r.b.length := txt_size _
    have h2 := wordL_le (s := txt (hexL r.id)) (by omega)
    have h3 := wordL_le (s := txt r.b) (by omega)
    show (wordL (txt (hexL r.id)) ++ wordL (txt r.b)).length ≤ _
    rw [List.length_append]
    omega
  have h4 : ((rs.take k).map prOf).length ≤ rs.length := by rw [List.length_map, List.length_take]; omega
  have h5 := Nat.mul_le_mul_left (36 + m) h4
  rw [fr_length]
  omega
end Go.Proofs.YtnkhgajghfonhaaGreatDoor

/- alive: the chapter's example. -/
namespace Go.Proofs.YtnkhgajghfonhaaGreatDoor
open Go Go.ChangeShapes Go.WideShapes Go.ChangeAt Go.RowKit Go.ChangeMaps Go.MapKept
set_option linter.unusedVariables false
set_option linter.unusedSimpArgs false

set_option maxHeartbeats 2000000 in
set_option maxRecDepth 20000 in
theorem alive_ml (w : World) (hT : Tab w.heap.size w) : Calls Tryz.prog 7 #[] w fun e w' => e = .returned (.bool true) ∧ Below w.heap.size w w' := by
  have HTAB := Lib.hid (fun (w1 : World) (hb : Below w.heap.size w w1) => (hT.below hb : Tab w.heap.size w1))
  clear hT
  have kc := fun (w : World) (C : Array Value) (n c : Nat) => Lib.run_convert_bytes_const (P := Tryz.prog) w 22 5 C n c Tryz.underlying22 Tryz.underlying5
  go_enter Tryz.func7, Tryz.ntmps7
  go_wp2_with (first
    | (go_at_call 8; go_loud (refine (new_any (Kp := fun _ => False) 1000 rfl w (fun _ h => h.elim)).mono ?_); rintro e w1 ⟨f, rfl, h1, h2⟩; have HR1 := Lib.hid h1; have HB1 := Lib.hid h2; clear h1 h2)
    | (go_at_call 9; go_loud (refine (open_fresh (dir := nd) HR1.out (WfK.new (room := 1000) rfl) gl_new nd_right (by simp [newFs]) (by simp [newFs]) (by decide) HB1.out.size).mono ?_; rintro e w2 ⟨l, s2, rfl, hm, ht, _, _⟩; have HM2 := Lib.hid hm; have HB2 := Lib.hid (HB1.out.trans ht.below); clear hm ht))
    | (go_at_call 12; have HSEC := HM5; go_loud (refine (old_lit HM5.out 1 (by decide) (by decide) HLK1.out 122 122 rfl).mono ?_; rintro e w6 ⟨rfl, hb⟩; have HB56 := Lib.hid hb; clear hb))
    | (go_at_call 12; have HSEC := HM3; go_loud (refine (put_lit HM3.out HB3.out.size (HTAB.out _ HB3.out) (by decide) (by decide) 1 (by decide) (by decide) (fun r hr => by obtain rfl := List.mem_singleton.1 hr; show (0 : Int) < 1; decide) (by simp) 121 121 rfl (by decide)).mono ?_; rintro e w4 ⟨rfl, A1, c1, s4, hm, ht, _⟩; have HM4 := Lib.hid hm; have HB4 := Lib.hid (HB3.out.trans ht.below); clear hm ht))
    | (go_at_call 12; go_loud (refine (put_lit HM2.out HB2.out.size (HTAB.out _ HB2.out) (by decide) (by decide) 0 (by decide) (by decide) (fun r hr => by simp at hr) (by simp) 120 120 rfl (by decide)).mono ?_; rintro e w3 ⟨rfl, A0, c0, s3, hm, ht, _⟩; have HM3 := Lib.hid hm; have HB3 := Lib.hid (HB2.out.trans ht.below); clear hm ht))
    | (go_at_call 11; go_loud (refine (fold_lm HM4.out HB4.out.size (HTAB.out _ HB4.out) (by simp) (by decide) 0 92 (fun k => fold_len (m := 1) (fun r hr => by simp at hr; rcases hr with rfl | rfl <;> exact Nat.le_refl _) (by decide) (by simp) k) (by decide) (by decide)).mono ?_; rintro e w5 ⟨E, rfl, _, hE, rs5, fs5, s5, hs, hm, ht, _⟩; obtain rfl := hE ⟨_, List.mem_append_left _ (List.mem_singleton.2 rfl), Int.le_refl 0⟩; have HM5 := Lib.hid hm; have HLK1 := Lib.hid (show (lkI rs5 1).map (·.b) = some [121] from (same_lk hs 1).trans rfl); have HLK0 := Lib.hid (show (lkI rs5 0).map (·.b) = some [120] from (same_lk hs 0).trans rfl); have HLEN := Lib.hid (show rs5.length = 2 from same_len hs); have HB5 := Lib.hid (HB4.out.trans ht.below); clear hm ht hs hE))
    | (go_at_call 17; go_loud (refine (get_lm (HM5.out.quiet HB56.out) 0 HLK0.out).mono ?_; rintro e w7 ⟨A, n, c, rfl, h1, h2⟩; have HM7 := Lib.hid ((HM5.out.quiet HB56.out).quiet h2); have HB7 := Lib.hid (HB5.out.trans ((HB56.out.mono HB5.out.size).trans (h2.mono (Nat.le_trans HB5.out.size HB56.out.size)))); have hcv : (convert 22 9 (.slice A n c)).run Tryz.prog w7 = .ok (.string ⟨#[120]⟩) w7 := string_of_buf h1; clear h1 h2))
    | (go_at_call 15; have h8 := len_lm HM7.out; rw [HLEN.out] at h8; go_loud (refine h8.mono ?_; rintro e w8 ⟨rfl, rfl⟩); clear h8))
  go_ret
  exact ⟨rfl, HB7.out⟩
end Go.Proofs.YtnkhgajghfonhaaGreatDoor
