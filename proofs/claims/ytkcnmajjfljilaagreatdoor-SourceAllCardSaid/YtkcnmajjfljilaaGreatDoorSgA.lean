/- segment: Append while the power is on. -/
import Derived.Test.YtkcnmajjfljilaaGreatDoorSgB
namespace Go.Proofs.YtkcnmajjfljilaaGreatDoor
open Go Go.ChangeShapes Go.WideShapes Go.ChangeAt Go.RowKit Go.ChangeMaps Go.MapKept
set_option linter.unusedVariables false
set_option linter.unusedSimpArgs false

/-- Is a new segment wanted? -/
def isNew (size : Int) (fs : List Nat) (rs : List (List UInt8)) : Bool := decide (fs = [] ∨ size ≤ ((lastL fs rs : Nat) : Int))
def apF (size : Int) (fs : List Nat) (rs : List (List UInt8)) : List Nat := if isNew size fs rs then fs ++ [rs.length] else fs
def apD (size : Int) (fs : List Nat) (rs : List (List UInt8)) (dur : Int) : Int := if isNew size fs rs then (rs.length : Int) else dur
section
variable {Q : Nat → Prop} {B l f cnt M : Nat} {dir : Nm} {room used size dur : Int} {fs : List Nat} {rs : List (List UInt8)} {s : Fs} {w w' : World}
theorem Sg.keep (h : Sg Q B l f dir room used cnt M size fs rs dur s w) (hb : Below w.heap.size w w') : Sg (With Q w.heap.size w'.heap.size) B l f dir room used cnt M size fs rs dur s w' := by
  obtain ⟨P, h1, h2, h3⟩ := h.ls
  refine ⟨⟨P, h1.below hb, (h2.keep hb).fewer (fun i hi => ?_), fun i hi => ⟨fun hq => ?_, (h3 i hi).2⟩⟩, h.sl, h.wf, h.few, h.dur⟩
  · rcases hi with (h | h) | h
    · exact .inl (.inl h)
    · exact .inr h
    · exact .inl (.inr h)
  · rcases hq with hq | hq
    · exact (h3 i hi).1 hq
    · have := h1.lt i hi; omega
theorem Sg.fewer {Q' : Nat → Prop} (h : Sg Q B l f dir room used cnt M size fs rs dur s w) (hq : ∀ i, Q' i → Q i) : Sg Q' B l f dir room used cnt M size fs rs dur s w := by
  obtain ⟨P, h1, h2, h3⟩ := h.ls
  exact ⟨⟨P, h1, h2.fewer (fun i hi => hi.imp (hq i) id), fun i hi => ⟨fun h => (h3 i hi).1 (hq i h), (h3 i hi).2⟩⟩, h.sl, h.wf, h.few, h.dur⟩
theorem Sl.more {cnt2 : Nat} (h : Sl s room used dir cnt fs rs) (hc : cnt ≤ cnt2) : Sl s room used dir cnt2 fs rs := by
  obtain ⟨g, mp, d, f⟩ := h
  exact ⟨g, mp, d.more hc, f⟩
theorem Sg.more {cnt2 M2 : Nat} (h : Sg Q B l f dir room used cnt M size fs rs dur s w) (hc : cnt ≤ cnt2) (hm : M ≤ M2) : Sg Q B l f dir room used cnt2 M2 size fs rs dur s w := ⟨h.ls, h.sl.more hc, h.wf.mono hm, h.few, h.dur⟩
theorem lastL_le {fs : List Nat} {rs : List (List UInt8)} (hf : Firsts fs rs.length) (hr : ∀ r ∈ rs, r.length ≤ 1024) (h : rs.length ≤ 16000) : lastL fs rs ≤ 16512000 := by
  unfold lastL
  split
  · exact Nat.zero_le _
  · rename_i h0
    have hp := List.length_pos_iff.2 h0
    have h3 := tot_le (xs := segR fs rs (fs.length - 1)) (fun r hm => hr r (segR_mem hm))
    have h4 := segR_length hf (show fs.length - 1 < fs.length by omega)
    have h5 := (hf.nxt (show fs.length - 1 < fs.length by omega)).2
    omega
theorem Sg.lastL_le (h : Sg Q B l f dir room used cnt M size fs rs dur s w) : lastL fs rs ≤ 16512000 := by
  obtain ⟨_, mp, d, f⟩ := h.sl
  exact Go.Proofs.YtkcnmajjfljilaaGreatDoor.lastL_le f.first f.rlen h.few
/-- What Append's last stores leave. -/
theorem seg_more {P : Nat → Prop} {V : World} {len : Int} {fs2 : List Nat} {rs2 : List (List UInt8)} (h : SegAt P l f dir size fs2 len (rs.length : Int) dur V) (N : Int) (hN : N = ((lastL fs2 rs2 : Nat) : Int)) (hM : (rs.length : Int) + 1 = (rs2.length : Int)) :
    SegAt P l f dir size fs2 ((lastL fs2 rs2 : Nat) : Int) (rs2.length : Int) dur ((V.setCell ⟨l, 4, none⟩ (.int .i64 N)).setCell ⟨l, 5, none⟩ (.int .i64 ((rs.length : Int) + 1))) ∧ Ch (· = l) V ((V.setCell ⟨l, 4, none⟩ (.int .i64 N)).setCell ⟨l, 5, none⟩ (.int .i64 ((rs.length : Int) + 1))) := by
  obtain ⟨A, c, h1, h2, h3⟩ := h.own
  have hst : Ch (· = l) V ((V.setCell ⟨l, 4, none⟩ (.int .i64 N)).setCell ⟨l, 5, none⟩ (.int .i64 ((rs.length : Int) + 1))) := ((Ch.refl (· = l) V).set (p := ⟨l, 4, none⟩) (.inl rfl) _).set (p := ⟨l, 5, none⟩) (.inl rfl) _
  have hc := (h1.set 4 (.int .i64 N)).set 5 (.int .i64 ((rs.length : Int) + 1))
  refine ⟨⟨⟨A, c, ?_, own_ch h2 hst (fun i hi e => ?_), h3⟩, h.pl, fun k hk => Nat.lt_of_lt_of_le (h.lt k hk) hst.size, h.lens⟩, hst⟩
  · rw [← hN, ← hM]
    simpa using hc
  · subst e
    obtain ⟨d, hd, _⟩ := own_cells h2 hi
    exact absurd rfl (h1.ne hd (by decide))
theorem append_big (n c : Nat) (hn : 1024 < n) (A : Option Addr) (w : World) : Calls Tryz.prog 28 #[.pointer (some ⟨l, 0, none⟩), .slice A n c] w fun e w' => e = .returned (.tuple #[.int .i64 0, .int .i64 100]) ∧ w = w' := by
  go_enter Tryz.func28, Tryz.ntmps28
  go_wp2
  go_ret2
  exact ⟨rfl, rfl⟩

set_option maxRecDepth 100000 in
set_option maxHeartbeats 8000000 in
/-- Append while the power is on. -/
theorem append_sg (h : Sg Q B l f dir room used cnt M size fs rs dur s w) (hsz : 1 ≤ size ∧ size ≤ 16777216) (hc : cnt < 4095) (hfl : fs.length ≤ 999980) (hM : M + 4 ≤ 1000000) (hBw : B ≤ w.heap.size) (hT : Tab B w)
    (a : Addr) (n c : Nat) (b : List UInt8) (hn : n = b.length) (hb : b.length ≤ 1024) (hby : BytesAt w w.heap.size (some a) b) (hrs : rs.length < 16000) (hu : used + (8 + b.length) ≤ room) :
    Calls Tryz.prog 28 #[.pointer (some ⟨l, 0, none⟩), .slice (some a) n c] w fun e w' => e = .returned (.tuple #[.int .i64 (rs.length : Int), .int .i64 0]) ∧ ∃ s', Sg Q B l f dir room (used + (8 + b.length)) (cnt + 1) (M + 4) size (apF size fs rs) (rs ++ [b]) (apD size fs rs dur) s' w' ∧ Turn Q B w w' ∧ OnlyD dir s s' := by
  have HPK := Lib.hid (pack_any b n c a w hn (by omega) hby)
  have HTAB := Lib.hid hT
  have HH := Lib.hid h
  have HN := Lib.hid hn
  have HSZ := Lib.hid hsz
  have hfew := h.few
  have hn24 : ¬ 1024 < n := by omega
  have hLL := h.lastL_le
  obtain ⟨L, hL⟩ : ∃ L, lastL fs rs = L := ⟨_, rfl⟩
  have HLV := Lib.hid hL
  rw [hL] at hLL
  obtain ⟨P0, hseg0, _⟩ := h.ls
  rw [hL] at hseg0
  have hl0 := hseg0.lens
  have hpl0 : l < w.heap.size := hseg0.lt _ hseg0.pl
  obtain ⟨A0, c0, q1, _, _⟩ := hseg0.own
  have g2 : w.cell? ⟨l, 2, none⟩ = some (.int .i64 size) := q1.cell 2
  have g3 : w.cell? ⟨l, 3, none⟩ = some (.slice A0 fs.length c0) := q1.cell 3
  have g4 : w.cell? ⟨l, 4, none⟩ = some (.int .i64 (L : Int)) := q1.cell 4
  have HG2 := Lib.hid g2
  have HG3 := Lib.hid g3
  have HG4 := Lib.hid g4
  clear hT h hn hby hseg0 q1 hsz hL g2 g3 g4
  have hcase : (fs = [] ∧ Hid (isNew size fs rs = true)) ∨ (0 < fs.length ∧ size ≤ (L : Int) ∧ Hid (isNew size fs rs = true)) ∨ (0 < fs.length ∧ ¬ size ≤ (L : Int) ∧ Hid (isNew size fs rs = false)) := by
    by_cases h0 : fs = []
    · exact .inl ⟨h0, Lib.hid (decide_eq_true (.inl h0))⟩
    · by_cases h1 : size ≤ (L : Int)
      · exact .inr (.inl ⟨List.length_pos_iff.2 h0, h1, Lib.hid (decide_eq_true (.inr (by rw [HLV.out]; exact h1)))⟩)
      · exact .inr (.inr ⟨List.length_pos_iff.2 h0, h1, Lib.hid (decide_eq_false (fun h => h.elim h0 (by rw [HLV.out]; exact h1)))⟩)
  rcases hcase with ⟨h0, HNEW⟩ | ⟨h0, h1, HNEW⟩ | ⟨h0, h1, HNEW⟩
  · have hlz : fs.length = 0 := by rw [h0]; rfl
    go_enter Tryz.func28, Tryz.ntmps28
    go_wp2_with (go_at_call 42; go_loud (refine HPK.out.mono ?_; rintro e w1 ⟨A1, n1, c1, rfl, hbuf, hb1⟩; have HBUF := Lib.hid hbuf; have HB1 := Lib.hid hb1; clear hbuf hb1))
    have k2 := cell_later HB1.out HG2.out
    have k3 := cell_later HB1.out HG3.out
    have k4 := cell_later HB1.out HG4.out
    rw [hlz] at k3
    go_quiet (fail)
    have HK1 := Lib.hid (HH.out.keep (HB1.out.trans (below_drewN w1 nq |>.mono HB1.out.size)))
    have HBW1 := Lib.hid (show Below w.heap.size w (w1.drewN nq) from HB1.out.trans ((below_drewN w1 nq).mono HB1.out.size))
    have HBUF1 := Lib.hid (show Buf w.heap.size A1 n1 c1 (fr b) (w1.drewN nq) from HBUF.out.below (below_drewN w1 nq))
    obtain ⟨wq, hwq⟩ : ∃ wq, w1.drewN nq = wq := ⟨_, rfl⟩
    try rw [hwq] at HK1 HBW1 HBUF1 ⊢
    clear k2 k3 k4
    have HBG := Lib.hid (begin_sg HK1.out (lastL_lt HH.out.first (.inl h0)) (by omega) (by omega) (by omega) (Nat.le_trans hBw HBW1.out.size) (HTAB.out.below (HBW1.out.mono hBw)))
    go_wp2_with (go_at_call 43; go_loud (refine HBG.out.mono ?_; rintro e V1 ⟨rfl, s1, hg1, ht1, ho1⟩; have HG1 := Lib.hid (show Sg _ B l f dir room used (cnt + 1) (M + 3) size (apF size fs rs) rs (apD size fs rs dur) s1 V1 from by unfold apF apD; rw [HNEW.out, if_pos rfl, if_pos rfl]; exact hg1); have HT1 := Lib.hid ht1; have HO1 := Lib.hid ho1; clear hg1 ht1 ho1))
    have hap : apF size fs rs = fs ++ [rs.length] := by unfold apF; rw [HNEW.out, if_pos rfl]
    have hfp : 0 < (apF size fs rs).length := by rw [hap]; simp
    have hfl2 : (apF size fs rs).length ≤ 999990 := by rw [hap]; simp; omega
    clear h0 hap hlz hwq
    try clear hV1 hs1
    obtain ⟨fs2, hfs2⟩ : ∃ fs2, apF size fs rs = fs2 := ⟨_, rfl⟩
    obtain ⟨d2, hd2⟩ : ∃ d2, apD size fs rs dur = d2 := ⟨_, rfl⟩
    rw [hfs2, hd2] at HG1
    rw [hfs2] at hfp hfl2
    have HF2 := Lib.hid hfs2
    have HD2 := Lib.hid hd2
    clear hfs2 hd2
    obtain ⟨P, hseg, hrep, hP⟩ := HG1.out.ls
    have HSEG := Lib.hid hseg
    have HREP := Lib.hid hrep
    have HP := Lib.hid hP
    obtain ⟨A3, c3, q1, q2, q3⟩ := hseg.own
    have hlw := q1.lt
    have hl0 : V1.cell? ⟨l, 0, none⟩ = some (.pointer (some ⟨f, 0, none⟩)) := q1.cell 0
    have hl1 : V1.cell? ⟨l, 1, none⟩ = some (.string (txt dir)) := q1.cell 1
    have HBUF2 := Lib.hid (HBUF1.out.turn HT1.out)
    have hfrl : (fr b).length = 8 + b.length := fr_length b
    obtain ⟨gb, hA1, hbm⟩ : ∃ gb, A1 = some ⟨gb, 0, none⟩ ∧ w.heap.size ≤ gb := by obtain ⟨g, cap, hv, hg, _⟩ := HBUF2.out.2.2.form (by have := HBUF2.out.1; omega); injection hv with h1 _ _; exact ⟨g, h1, hg⟩
    subst hA1
    have hn1 : n1 = 8 + b.length := HBUF2.out.1.trans hfrl
    subst hn1
    have hBw1 : B ≤ V1.heap.size := Nat.le_trans (Nat.le_trans hBw HBW1.out.size) HT1.out.size
    clear hseg hrep hP q1 q2 q3
    go_wp2_with fail
    refine wp_mono ?_ noPanic_le
    refine held_begin 14 (fun W => W.cell? ⟨l, 0, none⟩ = some (.pointer (some ⟨f, 0, none⟩)) ∧ W.cell? ⟨l, 1, none⟩ = some (.string (txt dir))) rfl (by kernel_rfl) ?_
    have hS : V1.drew.cell? ⟨l, 0, none⟩ = some (.pointer (some ⟨f, 0, none⟩)) ∧ V1.drew.cell? ⟨l, 1, none⟩ = some (.string (txt dir)) := ⟨hl0, hl1⟩
    refine held_take (i := 0) (t := 46) (v := (.pointer (some ⟨l, 0, none⟩))) (fuel := 13) rfl rfl (by kernel_rfl) (by kernel_rfl) (by kernel_rfl) (fun _ _ _ h => h) (.inl ⟨rfl, fun W hW => by obtain ⟨w1, w2⟩ := hW; simp [execOp, Act.eval, go_sem, w1, w2]⟩) hS ?_
    simp only [List.setIfInBounds_toArray, List.set_cons_succ, List.set_cons_zero]
    refine held_take (i := 1) (t := 47) (v := (.pointer (some ⟨l, 0, none⟩))) (fuel := 12) rfl rfl (by kernel_rfl) (by kernel_rfl) (by kernel_rfl) (fun _ _ _ h => h) (.inl ⟨rfl, fun W hW => by obtain ⟨w1, w2⟩ := hW; simp [execOp, Act.eval, go_sem, w1, w2]⟩) hS ?_
    simp only [List.setIfInBounds_toArray, List.set_cons_succ, List.set_cons_zero]
    refine held_take (i := 2) (t := 48) (v := (.pointer (some ⟨l, 0, none⟩))) (fuel := 11) rfl rfl (by kernel_rfl) (by kernel_rfl) (by kernel_rfl) (fun _ _ _ h => h) (.inl ⟨rfl, fun W hW => by obtain ⟨w1, w2⟩ := hW; simp [execOp, Act.eval, go_sem, w1, w2]⟩) hS ?_
    simp only [List.setIfInBounds_toArray, List.set_cons_succ, List.set_cons_zero]
    refine held_take (i := 3) (t := 49) (v := (.pointer (some ⟨f, 0, none⟩))) (fuel := 10) rfl rfl (by kernel_rfl) (by kernel_rfl) (by kernel_rfl) (fun _ _ _ h => h) (.inl ⟨rfl, fun W hW => by obtain ⟨w1, w2⟩ := hW; simp [execOp, Act.eval, go_sem, w1, w2]⟩) hS ?_
    simp only [List.setIfInBounds_toArray, List.set_cons_succ, List.set_cons_zero]
    refine held_take (i := 4) (t := 50) (v := (.pointer (some ⟨l, 0, none⟩))) (fuel := 9) rfl rfl (by kernel_rfl) (by kernel_rfl) (by kernel_rfl) (fun _ _ _ h => h) (.inl ⟨rfl, fun W hW => by obtain ⟨w1, w2⟩ := hW; simp [execOp, Act.eval, go_sem, w1, w2]⟩) hS ?_
    simp only [List.setIfInBounds_toArray, List.set_cons_succ, List.set_cons_zero]
    refine held_take (i := 5) (t := 51) (v := (.pointer (some ⟨l, 0, none⟩))) (fuel := 8) rfl rfl (by kernel_rfl) (by kernel_rfl) (by kernel_rfl) (fun _ _ _ h => h) (.inl ⟨rfl, fun W hW => by obtain ⟨w1, w2⟩ := hW; simp [execOp, Act.eval, go_sem, w1, w2]⟩) hS ?_
    simp only [List.setIfInBounds_toArray, List.set_cons_succ, List.set_cons_zero]
    refine held_take (i := 6) (t := 52) (v := (.pointer (some ⟨l, 1, none⟩))) (fuel := 7) rfl rfl (by kernel_rfl) (by kernel_rfl) (by kernel_rfl) (fun _ _ _ h => h) (.inl ⟨rfl, fun W hW => by obtain ⟨w1, w2⟩ := hW; simp [execOp, Act.eval, go_sem, w1, w2]⟩) hS ?_
    simp only [List.setIfInBounds_toArray, List.set_cons_succ, List.set_cons_zero]
    refine held_take (i := 7) (t := 53) (v := (.string (txt dir))) (fuel := 6) rfl rfl (by kernel_rfl) (by kernel_rfl) (by kernel_rfl) (fun _ _ _ h => h) (.inl ⟨rfl, fun W hW => by obtain ⟨w1, w2⟩ := hW; simp [execOp, Act.eval, go_sem, w1, w2]⟩) hS ?_
    simp only [List.setIfInBounds_toArray, List.set_cons_succ, List.set_cons_zero]
    refine held_take (i := 8) (t := 54) (v := (.pointer (some ⟨l, 0, none⟩))) (fuel := 5) rfl rfl (by kernel_rfl) (by kernel_rfl) (by kernel_rfl) (fun _ _ _ h => h) (.inl ⟨rfl, fun W hW => by obtain ⟨w1, w2⟩ := hW; simp [execOp, Act.eval, go_sem, w1, w2]⟩) hS ?_
    simp only [List.setIfInBounds_toArray, List.set_cons_succ, List.set_cons_zero]
    refine held_take (i := 11) (t := 57) (v := (.slice (some ⟨gb, 0, none⟩) (8 + b.length) c1)) (fuel := 4) rfl rfl (by kernel_rfl) (by kernel_rfl) (by kernel_rfl) (fun _ _ _ h => h) (.inl ⟨rfl, fun W hW => by obtain ⟨w1, w2⟩ := hW; simp [execOp, Act.eval, go_sem, w1, w2]⟩) hS ?_
    simp only [List.setIfInBounds_toArray, List.set_cons_succ, List.set_cons_zero]
    refine held_call (i := 9) rfl (by kernel_rfl) (by kernel_rfl) ?_
    simp [Oper.wp, execOp, Act.eval, Act.put, go_sem]
    refine (last_m (w := V1.drew) (HSEG.out.below (Below.refl _ V1).drew) hfp).mono ?_
    rintro e V2 ⟨rfl, hb2⟩
    replace hb2 := below_undrew hb2
    have hS : V2.cell? ⟨l, 0, none⟩ = some (.pointer (some ⟨f, 0, none⟩)) ∧ V2.cell? ⟨l, 1, none⟩ = some (.string (txt dir)) := ⟨cell_later hb2 hl0, cell_later hb2 hl1⟩
    refine ⟨hS, ?_⟩
    try simp only [List.setIfInBounds_toArray, List.set_cons_succ, List.set_cons_zero]
    refine held_call (i := 10) rfl (by kernel_rfl) (by kernel_rfl) ?_
    simp [Oper.wp, execOp, Act.eval, Act.put, go_sem]
    refine (name_any _ (by have := HG1.out.first.le _ (List.getElem_mem (show fs2.length - 1 < fs2.length by omega)); constructor <;> omega) V2 (HTAB.out.below ((HBW1.out.mono hBw).trans (HT1.out.below.trans (hb2.mono hBw1)))) (Nat.le_trans hBw1 hb2.size)).mono ?_
    rintro e V3 ⟨rfl, hb3⟩
    have hbw3 : Below V1.heap.size V1 V3 := hb2.trans (hb3.mono hb2.size)
    have hS : V3.cell? ⟨l, 0, none⟩ = some (.pointer (some ⟨f, 0, none⟩)) ∧ V3.cell? ⟨l, 1, none⟩ = some (.string (txt dir)) := ⟨cell_later hbw3 hl0, cell_later hbw3 hl1⟩
    refine ⟨hS, ?_⟩
    try simp only [List.setIfInBounds_toArray, List.set_cons_succ, List.set_cons_zero]
    refine held_call (i := 12) rfl (by kernel_rfl) (by kernel_rfl) ?_
    simp [Oper.wp, execOp, Act.eval, Act.put, go_sem]
    refine (append_any (HREP.out.quiet (chb hbw3)) (HG1.out.wf.wf (by omega)) (Nat.le_trans hBw1 hbw3.size) dir (sN _) (8 + b.length) c1 ⟨gb, 0, none⟩ (fr b) hfrl.symm (ml_bytes HBUF2.out.bytes hbw3) (by omega)).mono ?_
    rintro e V4 ⟨rfl, hr4, ht4⟩
    have hl4 : V4.heap[l]? = V3.heap[l]? := ht4.ch.block l (Nat.lt_of_lt_of_le hlw hbw3.size) (fun hn => hn (.inr HSEG.out.pl))
    have hS : V4.cell? ⟨l, 0, none⟩ = some (.pointer (some ⟨f, 0, none⟩)) ∧ V4.cell? ⟨l, 1, none⟩ = some (.string (txt dir)) := ⟨(World.cell?_of_block (a := ⟨l, 0, none⟩) hl4).trans hS.1, (World.cell?_of_block (a := ⟨l, 1, none⟩) hl4).trans hS.2⟩
    refine ⟨hS, ?_⟩
    try simp only [List.setIfInBounds_toArray, List.set_cons_succ, List.set_cons_zero]
    refine held_take (i := 13) (t := 9) (v := (.int .i64 (appendR s1 dir (sN ((fs2[fs2.length - 1] : Nat) : Int)) (fr b)).1)) (fuel := 0) rfl rfl (by kernel_rfl) (by kernel_rfl) (by kernel_rfl) (fun _ _ _ h => h) (.inl ⟨rfl, fun W hW => by obtain ⟨w1, w2⟩ := hW; simp [execOp, Act.eval, go_sem, w1, w2]⟩) hS ?_
    simp only [List.setIfInBounds_toArray, List.set_cons_succ, List.set_cons_zero]
    refine wpAnyH_done (by kernel_rfl) ?_ 0
    unfold noPanic
    have hsl4 := sl_append HG1.out.sl hfp b hb (by omega) hu
    have hlog4 := (HSEG.out.below hbw3).kept ht4.ch (fun i hi hn => hn (.inr hi))
    have hT4 : Turn Q B w V4 := ((Turn.of HBW1.out hBw).trans (HT1.out.fewer (fun i hi => .inl hi))).trans ((Turn.of hbw3 hBw1).trans (ht4.fewer (fun i hi => .inl (.inl hi))))
    have hwf4 := wfk_append HG1.out.wf dir (sN ((fs2[fs2.length - 1] : Nat) : Int)) (fr b)
    obtain ⟨R, hR⟩ : ∃ R, appendR s1 dir (sN ((fs2[fs2.length - 1] : Nat) : Int)) (fr b) = R := ⟨_, rfl⟩
    rw [hR] at hr4 hsl4 hwf4
    try rw [hR]
    obtain ⟨E, s4⟩ := R
    obtain ⟨e4, hsl4, ho4⟩ := hsl4
    dsimp only at e4 hsl4 ho4 hr4 hwf4
    subst e4
    have HLL2 := Lib.hid HG1.out.lastL_le
    obtain ⟨L2, hL2⟩ : ∃ L2, lastL fs2 rs = L2 := ⟨_, rfl⟩
    have hLL2 : L2 ≤ 16512000 := by rw [← hL2]; exact HLL2.out
    have hNL : ((L2 : Int) + (8 + (b.length : Int))) = ((lastL fs2 (rs ++ [b]) : Nat) : Int) := by rw [lastL_more HG1.out.first b hfp, hL2]; omega
    rw [hL2] at hlog4
    obtain ⟨A4, c4, p1, p2, p3⟩ := hlog4.own
    have m4 : V4.cell? ⟨l, 4, none⟩ = some (.int .i64 (L2 : Int)) := p1.cell 4
    have m5 : V4.cell? ⟨l, 5, none⟩ = some (.int .i64 (rs.length : Int)) := p1.cell 5
    have y4 := p1.frozen 4
    have y5 := p1.frozen 5
    have hpl4 := p1.lt
    have m5' : ∀ v, (V4.setCell ⟨l, 4, none⟩ v).cell? ⟨l, 5, none⟩ = some (.int .i64 (rs.length : Int)) := fun v => (p1.set 4 v).cell 5
    have hmore := seg_more (rs := rs) (rs2 := rs ++ [b]) hlog4 ((L2 : Int) + (8 + (b.length : Int))) hNL (by simp)
    have hBV : B ≤ V4.heap.size := Nat.le_trans hBw hT4.size
    have HF := Lib.hid (show ∃ s', Sg Q B l f dir room (used + (8 + b.length)) (cnt + 1) (M + 4) size (apF size fs rs) (rs ++ [b]) (apD size fs rs dur) s' _ ∧ Turn Q B w _ ∧ OnlyD dir s s' from
      ⟨s4, by rw [HF2.out, HD2.out]; exact ⟨⟨P, hmore.1, (hr4.kept hmore.2 (fun i _ e => by subst e; exact .inr HSEG.out.pl)).fewer (fun i hi => hi.imp .inl id), fun i hi => ⟨fun hq => (HP.out i hi).1 (.inl hq), (HP.out i hi).2⟩⟩, hsl4, hwf4, by simp; omega, by have := HG1.out.dur; rw [List.length_append]; simp; omega⟩,
        hT4.trans (hmore.2.toTurn (fun k _ e => by subst e; exact ⟨(HP.out _ HSEG.out.pl).2, fun hq => (HP.out _ HSEG.out.pl).1 (.inl hq)⟩) hBV), HO1.out.trans ho4⟩)
    clear hmore hNL hL2 hr4 hsl4 hwf4 ho4 hlog4 hT4 p1 p2 p3 hS hl0 hl1 hl4 ht4 hbw3 hb3 hb2 hR
    go_wp2_with fail
    go_ret2
    exact ⟨rfl, HF.out⟩
  · obtain ⟨m, hlz⟩ : ∃ m, fs.length = m + 1 := ⟨fs.length - 1, by omega⟩
    have hd0 : ¬ ((m : Int) + 1 = 0) := by omega
    go_enter Tryz.func28, Tryz.ntmps28
    go_wp2_with (go_at_call 42; go_loud (refine HPK.out.mono ?_; rintro e w1 ⟨A1, n1, c1, rfl, hbuf, hb1⟩; have HBUF := Lib.hid hbuf; have HB1 := Lib.hid hb1; clear hbuf hb1))
    have k2 := cell_later HB1.out HG2.out
    have k3 := cell_later HB1.out HG3.out
    have k4 := cell_later HB1.out HG4.out
    rw [hlz] at k3
    go_quiet (fail)
    have HK1 := Lib.hid (HH.out.keep (HB1.out.trans (below_drewN w1 nq |>.mono HB1.out.size)))
    have HBW1 := Lib.hid (show Below w.heap.size w (w1.drewN nq) from HB1.out.trans ((below_drewN w1 nq).mono HB1.out.size))
    have HBUF1 := Lib.hid (show Buf w.heap.size A1 n1 c1 (fr b) (w1.drewN nq) from HBUF.out.below (below_drewN w1 nq))
    obtain ⟨wq, hwq⟩ : ∃ wq, w1.drewN nq = wq := ⟨_, rfl⟩
    try rw [hwq] at HK1 HBW1 HBUF1 ⊢
    clear k2 k3 k4
    have HBG := Lib.hid (begin_sg HK1.out (lastL_lt HH.out.first (.inr (by rw [HLV.out]; have := HSZ.out.1; omega))) (by omega) (by omega) (by omega) (Nat.le_trans hBw HBW1.out.size) (HTAB.out.below (HBW1.out.mono hBw)))
    go_wp2_with (go_at_call 43; go_loud (refine HBG.out.mono ?_; rintro e V1 ⟨rfl, s1, hg1, ht1, ho1⟩; have HG1 := Lib.hid (show Sg _ B l f dir room used (cnt + 1) (M + 3) size (apF size fs rs) rs (apD size fs rs dur) s1 V1 from by unfold apF apD; rw [HNEW.out, if_pos rfl, if_pos rfl]; exact hg1); have HT1 := Lib.hid ht1; have HO1 := Lib.hid ho1; clear hg1 ht1 ho1))
    have hap : apF size fs rs = fs ++ [rs.length] := by unfold apF; rw [HNEW.out, if_pos rfl]
    have hfp : 0 < (apF size fs rs).length := by rw [hap]; simp
    have hfl2 : (apF size fs rs).length ≤ 999990 := by rw [hap]; simp; omega
    clear h0 hap hlz hwq h1 hd0
    try clear hV1 hs1
    obtain ⟨fs2, hfs2⟩ : ∃ fs2, apF size fs rs = fs2 := ⟨_, rfl⟩
    obtain ⟨d2, hd2⟩ : ∃ d2, apD size fs rs dur = d2 := ⟨_, rfl⟩
    rw [hfs2, hd2] at HG1
    rw [hfs2] at hfp hfl2
    have HF2 := Lib.hid hfs2
    have HD2 := Lib.hid hd2
    clear hfs2 hd2
    obtain ⟨P, hseg, hrep, hP⟩ := HG1.out.ls
    have HSEG := Lib.hid hseg
    have HREP := Lib.hid hrep
    have HP := Lib.hid hP
    obtain ⟨A3, c3, q1, q2, q3⟩ := hseg.own
    have hlw := q1.lt
    have hl0 : V1.cell? ⟨l, 0, none⟩ = some (.pointer (some ⟨f, 0, none⟩)) := q1.cell 0
    have hl1 : V1.cell? ⟨l, 1, none⟩ = some (.string (txt dir)) := q1.cell 1
    have HBUF2 := Lib.hid (HBUF1.out.turn HT1.out)
    have hfrl : (fr b).length = 8 + b.length := fr_length b
    obtain ⟨gb, hA1, hbm⟩ : ∃ gb, A1 = some ⟨gb, 0, none⟩ ∧ w.heap.size ≤ gb := by obtain ⟨g, cap, hv, hg, _⟩ := HBUF2.out.2.2.form (by have := HBUF2.out.1; omega); injection hv with h1 _ _; exact ⟨g, h1, hg⟩
    subst hA1
    have hn1 : n1 = 8 + b.length := HBUF2.out.1.trans hfrl
    subst hn1
    have hBw1 : B ≤ V1.heap.size := Nat.le_trans (Nat.le_trans hBw HBW1.out.size) HT1.out.size
    clear hseg hrep hP q1 q2 q3
    go_wp2_with fail
    refine wp_mono ?_ noPanic_le
    refine held_begin 14 (fun W => W.cell? ⟨l, 0, none⟩ = some (.pointer (some ⟨f, 0, none⟩)) ∧ W.cell? ⟨l, 1, none⟩ = some (.string (txt dir))) rfl (by kernel_rfl) ?_
    have hS : V1.drew.cell? ⟨l, 0, none⟩ = some (.pointer (some ⟨f, 0, none⟩)) ∧ V1.drew.cell? ⟨l, 1, none⟩ = some (.string (txt dir)) := ⟨hl0, hl1⟩
    refine held_take (i := 0) (t := 46) (v := (.pointer (some ⟨l, 0, none⟩))) (fuel := 13) rfl rfl (by kernel_rfl) (by kernel_rfl) (by kernel_rfl) (fun _ _ _ h => h) (.inl ⟨rfl, fun W hW => by obtain ⟨w1, w2⟩ := hW; simp [execOp, Act.eval, go_sem, w1, w2]⟩) hS ?_
    simp only [List.setIfInBounds_toArray, List.set_cons_succ, List.set_cons_zero]
    refine held_take (i := 1) (t := 47) (v := (.pointer (some ⟨l, 0, none⟩))) (fuel := 12) rfl rfl (by kernel_rfl) (by kernel_rfl) (by kernel_rfl) (fun _ _ _ h => h) (.inl ⟨rfl, fun W hW => by obtain ⟨w1, w2⟩ := hW; simp [execOp, Act.eval, go_sem, w1, w2]⟩) hS ?_
    simp only [List.setIfInBounds_toArray, List.set_cons_succ, List.set_cons_zero]
    refine held_take (i := 2) (t := 48) (v := (.pointer (some ⟨l, 0, none⟩))) (fuel := 11) rfl rfl (by kernel_rfl) (by kernel_rfl) (by kernel_rfl) (fun _ _ _ h => h) (.inl ⟨rfl, fun W hW => by obtain ⟨w1, w2⟩ := hW; simp [execOp, Act.eval, go_sem, w1, w2]⟩) hS ?_
    simp only [List.setIfInBounds_toArray, List.set_cons_succ, List.set_cons_zero]
    refine held_take (i := 3) (t := 49) (v := (.pointer (some ⟨f, 0, none⟩))) (fuel := 10) rfl rfl (by kernel_rfl) (by kernel_rfl) (by kernel_rfl) (fun _ _ _ h => h) (.inl ⟨rfl, fun W hW => by obtain ⟨w1, w2⟩ := hW; simp [execOp, Act.eval, go_sem, w1, w2]⟩) hS ?_
    simp only [List.setIfInBounds_toArray, List.set_cons_succ, List.set_cons_zero]
    refine held_take (i := 4) (t := 50) (v := (.pointer (some ⟨l, 0, none⟩))) (fuel := 9) rfl rfl (by kernel_rfl) (by kernel_rfl) (by kernel_rfl) (fun _ _ _ h => h) (.inl ⟨rfl, fun W hW => by obtain ⟨w1, w2⟩ := hW; simp [execOp, Act.eval, go_sem, w1, w2]⟩) hS ?_
    simp only [List.setIfInBounds_toArray, List.set_cons_succ, List.set_cons_zero]
    refine held_take (i := 5) (t := 51) (v := (.pointer (some ⟨l, 0, none⟩))) (fuel := 8) rfl rfl (by kernel_rfl) (by kernel_rfl) (by kernel_rfl) (fun _ _ _ h => h) (.inl ⟨rfl, fun W hW => by obtain ⟨w1, w2⟩ := hW; simp [execOp, Act.eval, go_sem, w1, w2]⟩) hS ?_
    simp only [List.setIfInBounds_toArray, List.set_cons_succ, List.set_cons_zero]
    refine held_take (i := 6) (t := 52) (v := (.pointer (some ⟨l, 1, none⟩))) (fuel := 7) rfl rfl (by kernel_rfl) (by kernel_rfl) (by kernel_rfl) (fun _ _ _ h => h) (.inl ⟨rfl, fun W hW => by obtain ⟨w1, w2⟩ := hW; simp [execOp, Act.eval, go_sem, w1, w2]⟩) hS ?_
    simp only [List.setIfInBounds_toArray, List.set_cons_succ, List.set_cons_zero]
    refine held_take (i := 7) (t := 53) (v := (.string (txt dir))) (fuel := 6) rfl rfl (by kernel_rfl) (by kernel_rfl) (by kernel_rfl) (fun _ _ _ h => h) (.inl ⟨rfl, fun W hW => by obtain ⟨w1, w2⟩ := hW; simp [execOp, Act.eval, go_sem, w1, w2]⟩) hS ?_
    simp only [List.setIfInBounds_toArray, List.set_cons_succ, List.set_cons_zero]
    refine held_take (i := 8) (t := 54) (v := (.pointer (some ⟨l, 0, none⟩))) (fuel := 5) rfl rfl (by kernel_rfl) (by kernel_rfl) (by kernel_rfl) (fun _ _ _ h => h) (.inl ⟨rfl, fun W hW => by obtain ⟨w1, w2⟩ := hW; simp [execOp, Act.eval, go_sem, w1, w2]⟩) hS ?_
    simp only [List.setIfInBounds_toArray, List.set_cons_succ, List.set_cons_zero]
    refine held_take (i := 11) (t := 57) (v := (.slice (some ⟨gb, 0, none⟩) (8 + b.length) c1)) (fuel := 4) rfl rfl (by kernel_rfl) (by kernel_rfl) (by kernel_rfl) (fun _ _ _ h => h) (.inl ⟨rfl, fun W hW => by obtain ⟨w1, w2⟩ := hW; simp [execOp, Act.eval, go_sem, w1, w2]⟩) hS ?_
    simp only [List.setIfInBounds_toArray, List.set_cons_succ, List.set_cons_zero]
    refine held_call (i := 9) rfl (by kernel_rfl) (by kernel_rfl) ?_
    simp [Oper.wp, execOp, Act.eval, Act.put, go_sem]
    refine (last_m (w := V1.drew) (HSEG.out.below (Below.refl _ V1).drew) hfp).mono ?_
    rintro e V2 ⟨rfl, hb2⟩
    replace hb2 := below_undrew hb2
    have hS : V2.cell? ⟨l, 0, none⟩ = some (.pointer (some ⟨f, 0, none⟩)) ∧ V2.cell? ⟨l, 1, none⟩ = some (.string (txt dir)) := ⟨cell_later hb2 hl0, cell_later hb2 hl1⟩
    refine ⟨hS, ?_⟩
    try simp only [List.setIfInBounds_toArray, List.set_cons_succ, List.set_cons_zero]
    refine held_call (i := 10) rfl (by kernel_rfl) (by kernel_rfl) ?_
    simp [Oper.wp, execOp, Act.eval, Act.put, go_sem]
    refine (name_any _ (by have := HG1.out.first.le _ (List.getElem_mem (show fs2.length - 1 < fs2.length by omega)); constructor <;> omega) V2 (HTAB.out.below ((HBW1.out.mono hBw).trans (HT1.out.below.trans (hb2.mono hBw1)))) (Nat.le_trans hBw1 hb2.size)).mono ?_
    rintro e V3 ⟨rfl, hb3⟩
    have hbw3 : Below V1.heap.size V1 V3 := hb2.trans (hb3.mono hb2.size)
    have hS : V3.cell? ⟨l, 0, none⟩ = some (.pointer (some ⟨f, 0, none⟩)) ∧ V3.cell? ⟨l, 1, none⟩ = some (.string (txt dir)) := ⟨cell_later hbw3 hl0, cell_later hbw3 hl1⟩
    refine ⟨hS, ?_⟩
    try simp only [List.setIfInBounds_toArray, List.set_cons_succ, List.set_cons_zero]
    refine held_call (i := 12) rfl (by kernel_rfl) (by kernel_rfl) ?_
    simp [Oper.wp, execOp, Act.eval, Act.put, go_sem]
    refine (append_any (HREP.out.quiet (chb hbw3)) (HG1.out.wf.wf (by omega)) (Nat.le_trans hBw1 hbw3.size) dir (sN _) (8 + b.length) c1 ⟨gb, 0, none⟩ (fr b) hfrl.symm (ml_bytes HBUF2.out.bytes hbw3) (by omega)).mono ?_
    rintro e V4 ⟨rfl, hr4, ht4⟩
    have hl4 : V4.heap[l]? = V3.heap[l]? := ht4.ch.block l (Nat.lt_of_lt_of_le hlw hbw3.size) (fun hn => hn (.inr HSEG.out.pl))
    have hS : V4.cell? ⟨l, 0, none⟩ = some (.pointer (some ⟨f, 0, none⟩)) ∧ V4.cell? ⟨l, 1, none⟩ = some (.string (txt dir)) := ⟨(World.cell?_of_block (a := ⟨l, 0, none⟩) hl4).trans hS.1, (World.cell?_of_block (a := ⟨l, 1, none⟩) hl4).trans hS.2⟩
    refine ⟨hS, ?_⟩
    try simp only [List.setIfInBounds_toArray, List.set_cons_succ, List.set_cons_zero]
    refine held_take (i := 13) (t := 9) (v := (.int .i64 (appendR s1 dir (sN ((fs2[fs2.length - 1] : Nat) : Int)) (fr b)).1)) (fuel := 0) rfl rfl (by kernel_rfl) (by kernel_rfl) (by kernel_rfl) (fun _ _ _ h => h) (.inl ⟨rfl, fun W hW => by obtain ⟨w1, w2⟩ := hW; simp [execOp, Act.eval, go_sem, w1, w2]⟩) hS ?_
    simp only [List.setIfInBounds_toArray, List.set_cons_succ, List.set_cons_zero]
    refine wpAnyH_done (by kernel_rfl) ?_ 0
    unfold noPanic
    have hsl4 := sl_append HG1.out.sl hfp b hb (by omega) hu
    have hlog4 := (HSEG.out.below hbw3).kept ht4.ch (fun i hi hn => hn (.inr hi))
    have hT4 : Turn Q B w V4 := ((Turn.of HBW1.out hBw).trans (HT1.out.fewer (fun i hi => .inl hi))).trans ((Turn.of hbw3 hBw1).trans (ht4.fewer (fun i hi => .inl (.inl hi))))
    have hwf4 := wfk_append HG1.out.wf dir (sN ((fs2[fs2.length - 1] : Nat) : Int)) (fr b)
    obtain ⟨R, hR⟩ : ∃ R, appendR s1 dir (sN ((fs2[fs2.length - 1] : Nat) : Int)) (fr b) = R := ⟨_, rfl⟩
    rw [hR] at hr4 hsl4 hwf4
    try rw [hR]
    obtain ⟨E, s4⟩ := R
    obtain ⟨e4, hsl4, ho4⟩ := hsl4
    dsimp only at e4 hsl4 ho4 hr4 hwf4
    subst e4
    have HLL2 := Lib.hid HG1.out.lastL_le
    obtain ⟨L2, hL2⟩ : ∃ L2, lastL fs2 rs = L2 := ⟨_, rfl⟩
    have hLL2 : L2 ≤ 16512000 := by rw [← hL2]; exact HLL2.out
    have hNL : ((L2 : Int) + (8 + (b.length : Int))) = ((lastL fs2 (rs ++ [b]) : Nat) : Int) := by rw [lastL_more HG1.out.first b hfp, hL2]; omega
    rw [hL2] at hlog4
    obtain ⟨A4, c4, p1, p2, p3⟩ := hlog4.own
    have m4 : V4.cell? ⟨l, 4, none⟩ = some (.int .i64 (L2 : Int)) := p1.cell 4
    have m5 : V4.cell? ⟨l, 5, none⟩ = some (.int .i64 (rs.length : Int)) := p1.cell 5
    have y4 := p1.frozen 4
    have y5 := p1.frozen 5
    have hpl4 := p1.lt
    have m5' : ∀ v, (V4.setCell ⟨l, 4, none⟩ v).cell? ⟨l, 5, none⟩ = some (.int .i64 (rs.length : Int)) := fun v => (p1.set 4 v).cell 5
    have hmore := seg_more (rs := rs) (rs2 := rs ++ [b]) hlog4 ((L2 : Int) + (8 + (b.length : Int))) hNL (by simp)
    have hBV : B ≤ V4.heap.size := Nat.le_trans hBw hT4.size
    have HF := Lib.hid (show ∃ s', Sg Q B l f dir room (used + (8 + b.length)) (cnt + 1) (M + 4) size (apF size fs rs) (rs ++ [b]) (apD size fs rs dur) s' _ ∧ Turn Q B w _ ∧ OnlyD dir s s' from
      ⟨s4, by rw [HF2.out, HD2.out]; exact ⟨⟨P, hmore.1, (hr4.kept hmore.2 (fun i _ e => by subst e; exact .inr HSEG.out.pl)).fewer (fun i hi => hi.imp .inl id), fun i hi => ⟨fun hq => (HP.out i hi).1 (.inl hq), (HP.out i hi).2⟩⟩, hsl4, hwf4, by simp; omega, by have := HG1.out.dur; rw [List.length_append]; simp; omega⟩,
        hT4.trans (hmore.2.toTurn (fun k _ e => by subst e; exact ⟨(HP.out _ HSEG.out.pl).2, fun hq => (HP.out _ HSEG.out.pl).1 (.inl hq)⟩) hBV), HO1.out.trans ho4⟩)
    clear hmore hNL hL2 hr4 hsl4 hwf4 ho4 hlog4 hT4 p1 p2 p3 hS hl0 hl1 hl4 ht4 hbw3 hb3 hb2 hR
    go_wp2_with fail
    go_ret2
    exact ⟨rfl, HF.out⟩
  · obtain ⟨m, hlz⟩ : ∃ m, fs.length = m + 1 := ⟨fs.length - 1, by omega⟩
    have hd0 : ¬ ((m : Int) + 1 = 0) := by omega
    have hd1 : decide (size ≤ (L : Int)) = false := decide_eq_false h1
    have hd2 : (L : Int) < size := by omega
    go_enter Tryz.func28, Tryz.ntmps28
    go_wp2_with (go_at_call 42; go_loud (refine HPK.out.mono ?_; rintro e w1 ⟨A1, n1, c1, rfl, hbuf, hb1⟩; have HBUF := Lib.hid hbuf; have HB1 := Lib.hid hb1; clear hbuf hb1))
    have k2 := cell_later HB1.out HG2.out
    have k3 := cell_later HB1.out HG3.out
    have k4 := cell_later HB1.out HG4.out
    rw [hlz] at k3
    go_quiet (fail)
    have HK1 := Lib.hid (HH.out.keep (HB1.out.trans (below_drewN w1 nq |>.mono HB1.out.size)))
    have HBW1 := Lib.hid (show Below w.heap.size w (w1.drewN nq) from HB1.out.trans ((below_drewN w1 nq).mono HB1.out.size))
    have HBUF1 := Lib.hid (show Buf w.heap.size A1 n1 c1 (fr b) (w1.drewN nq) from HBUF.out.below (below_drewN w1 nq))
    obtain ⟨wq, hwq⟩ : ∃ wq, w1.drewN nq = wq := ⟨_, rfl⟩
    try rw [hwq] at HK1 HBW1 HBUF1 ⊢
    clear k2 k3 k4
    have hap : apF size fs rs = fs := by unfold apF; rw [HNEW.out]; rfl
    obtain ⟨V1, hV1⟩ : ∃ V1, wq = V1 := ⟨_, rfl⟩
    obtain ⟨s1, hs1⟩ : ∃ s1, s = s1 := ⟨_, rfl⟩
    have HG1 := Lib.hid (show Sg (With Q w.heap.size wq.heap.size) B l f dir room used (cnt + 1) (M + 3) size (apF size fs rs) rs (apD size fs rs dur) s1 V1 from by unfold apF apD; rw [HNEW.out, if_neg (by simp), if_neg (by simp), ← hs1, ← hV1]; exact HK1.out.more (by omega) (by omega))
    have HT1 := Lib.hid (show Turn (With Q w.heap.size wq.heap.size) B wq V1 from by rw [← hV1]; exact Turn.of (Below.refl _ _) (Nat.le_trans hBw HBW1.out.size))
    have HO1 := Lib.hid (show OnlyD dir s s1 from by rw [← hs1]; exact OnlyD.refl _ _)
    go_wp2_with fail
    try rw [hwq]
    try rw [hV1]
    have hfp : 0 < (apF size fs rs).length := by rw [hap]; exact h0
    have hfl2 : (apF size fs rs).length ≤ 999990 := by rw [hap]; omega
    clear h0 hap hlz hwq h1 hd0
    try clear hV1 hs1
    obtain ⟨fs2, hfs2⟩ : ∃ fs2, apF size fs rs = fs2 := ⟨_, rfl⟩
    obtain ⟨d2, hd2⟩ : ∃ d2, apD size fs rs dur = d2 := ⟨_, rfl⟩
    rw [hfs2, hd2] at HG1
    rw [hfs2] at hfp hfl2
    have HF2 := Lib.hid hfs2
    have HD2 := Lib.hid hd2
    clear hfs2 hd2
    obtain ⟨P, hseg, hrep, hP⟩ := HG1.out.ls
    have HSEG := Lib.hid hseg
    have HREP := Lib.hid hrep
    have HP := Lib.hid hP
    obtain ⟨A3, c3, q1, q2, q3⟩ := hseg.own
    have hlw := q1.lt
    have hl0 : V1.cell? ⟨l, 0, none⟩ = some (.pointer (some ⟨f, 0, none⟩)) := q1.cell 0
    have hl1 : V1.cell? ⟨l, 1, none⟩ = some (.string (txt dir)) := q1.cell 1
    have HBUF2 := Lib.hid (HBUF1.out.turn HT1.out)
    have hfrl : (fr b).length = 8 + b.length := fr_length b
    obtain ⟨gb, hA1, hbm⟩ : ∃ gb, A1 = some ⟨gb, 0, none⟩ ∧ w.heap.size ≤ gb := by obtain ⟨g, cap, hv, hg, _⟩ := HBUF2.out.2.2.form (by have := HBUF2.out.1; omega); injection hv with h1 _ _; exact ⟨g, h1, hg⟩
    subst hA1
    have hn1 : n1 = 8 + b.length := HBUF2.out.1.trans hfrl
    subst hn1
    have hBw1 : B ≤ V1.heap.size := Nat.le_trans (Nat.le_trans hBw HBW1.out.size) HT1.out.size
    clear hseg hrep hP q1 q2 q3
    go_wp2_with fail
    refine wp_mono ?_ noPanic_le
    refine held_begin 14 (fun W => W.cell? ⟨l, 0, none⟩ = some (.pointer (some ⟨f, 0, none⟩)) ∧ W.cell? ⟨l, 1, none⟩ = some (.string (txt dir))) rfl (by kernel_rfl) ?_
    have hS : V1.drew.cell? ⟨l, 0, none⟩ = some (.pointer (some ⟨f, 0, none⟩)) ∧ V1.drew.cell? ⟨l, 1, none⟩ = some (.string (txt dir)) := ⟨hl0, hl1⟩
    refine held_take (i := 0) (t := 46) (v := (.pointer (some ⟨l, 0, none⟩))) (fuel := 13) rfl rfl (by kernel_rfl) (by kernel_rfl) (by kernel_rfl) (fun _ _ _ h => h) (.inl ⟨rfl, fun W hW => by obtain ⟨w1, w2⟩ := hW; simp [execOp, Act.eval, go_sem, w1, w2]⟩) hS ?_
    simp only [List.setIfInBounds_toArray, List.set_cons_succ, List.set_cons_zero]
    refine held_take (i := 1) (t := 47) (v := (.pointer (some ⟨l, 0, none⟩))) (fuel := 12) rfl rfl (by kernel_rfl) (by kernel_rfl) (by kernel_rfl) (fun _ _ _ h => h) (.inl ⟨rfl, fun W hW => by obtain ⟨w1, w2⟩ := hW; simp [execOp, Act.eval, go_sem, w1, w2]⟩) hS ?_
    simp only [List.setIfInBounds_toArray, List.set_cons_succ, List.set_cons_zero]
    refine held_take (i := 2) (t := 48) (v := (.pointer (some ⟨l, 0, none⟩))) (fuel := 11) rfl rfl (by kernel_rfl) (by kernel_rfl) (by kernel_rfl) (fun _ _ _ h => h) (.inl ⟨rfl, fun W hW => by obtain ⟨w1, w2⟩ := hW; simp [execOp, Act.eval, go_sem, w1, w2]⟩) hS ?_
    simp only [List.setIfInBounds_toArray, List.set_cons_succ, List.set_cons_zero]
    refine held_take (i := 3) (t := 49) (v := (.pointer (some ⟨f, 0, none⟩))) (fuel := 10) rfl rfl (by kernel_rfl) (by kernel_rfl) (by kernel_rfl) (fun _ _ _ h => h) (.inl ⟨rfl, fun W hW => by obtain ⟨w1, w2⟩ := hW; simp [execOp, Act.eval, go_sem, w1, w2]⟩) hS ?_
    simp only [List.setIfInBounds_toArray, List.set_cons_succ, List.set_cons_zero]
    refine held_take (i := 4) (t := 50) (v := (.pointer (some ⟨l, 0, none⟩))) (fuel := 9) rfl rfl (by kernel_rfl) (by kernel_rfl) (by kernel_rfl) (fun _ _ _ h => h) (.inl ⟨rfl, fun W hW => by obtain ⟨w1, w2⟩ := hW; simp [execOp, Act.eval, go_sem, w1, w2]⟩) hS ?_
    simp only [List.setIfInBounds_toArray, List.set_cons_succ, List.set_cons_zero]
    refine held_take (i := 5) (t := 51) (v := (.pointer (some ⟨l, 0, none⟩))) (fuel := 8) rfl rfl (by kernel_rfl) (by kernel_rfl) (by kernel_rfl) (fun _ _ _ h => h) (.inl ⟨rfl, fun W hW => by obtain ⟨w1, w2⟩ := hW; simp [execOp, Act.eval, go_sem, w1, w2]⟩) hS ?_
    simp only [List.setIfInBounds_toArray, List.set_cons_succ, List.set_cons_zero]
    refine held_take (i := 6) (t := 52) (v := (.pointer (some ⟨l, 1, none⟩))) (fuel := 7) rfl rfl (by kernel_rfl) (by kernel_rfl) (by kernel_rfl) (fun _ _ _ h => h) (.inl ⟨rfl, fun W hW => by obtain ⟨w1, w2⟩ := hW; simp [execOp, Act.eval, go_sem, w1, w2]⟩) hS ?_
    simp only [List.setIfInBounds_toArray, List.set_cons_succ, List.set_cons_zero]
    refine held_take (i := 7) (t := 53) (v := (.string (txt dir))) (fuel := 6) rfl rfl (by kernel_rfl) (by kernel_rfl) (by kernel_rfl) (fun _ _ _ h => h) (.inl ⟨rfl, fun W hW => by obtain ⟨w1, w2⟩ := hW; simp [execOp, Act.eval, go_sem, w1, w2]⟩) hS ?_
    simp only [List.setIfInBounds_toArray, List.set_cons_succ, List.set_cons_zero]
    refine held_take (i := 8) (t := 54) (v := (.pointer (some ⟨l, 0, none⟩))) (fuel := 5) rfl rfl (by kernel_rfl) (by kernel_rfl) (by kernel_rfl) (fun _ _ _ h => h) (.inl ⟨rfl, fun W hW => by obtain ⟨w1, w2⟩ := hW; simp [execOp, Act.eval, go_sem, w1, w2]⟩) hS ?_
    simp only [List.setIfInBounds_toArray, List.set_cons_succ, List.set_cons_zero]
    refine held_take (i := 11) (t := 57) (v := (.slice (some ⟨gb, 0, none⟩) (8 + b.length) c1)) (fuel := 4) rfl rfl (by kernel_rfl) (by kernel_rfl) (by kernel_rfl) (fun _ _ _ h => h) (.inl ⟨rfl, fun W hW => by obtain ⟨w1, w2⟩ := hW; simp [execOp, Act.eval, go_sem, w1, w2]⟩) hS ?_
    simp only [List.setIfInBounds_toArray, List.set_cons_succ, List.set_cons_zero]
    refine held_call (i := 9) rfl (by kernel_rfl) (by kernel_rfl) ?_
    simp [Oper.wp, execOp, Act.eval, Act.put, go_sem]
    refine (last_m (w := V1.drew) (HSEG.out.below (Below.refl _ V1).drew) hfp).mono ?_
    rintro e V2 ⟨rfl, hb2⟩
    replace hb2 := below_undrew hb2
    have hS : V2.cell? ⟨l, 0, none⟩ = some (.pointer (some ⟨f, 0, none⟩)) ∧ V2.cell? ⟨l, 1, none⟩ = some (.string (txt dir)) := ⟨cell_later hb2 hl0, cell_later hb2 hl1⟩
    refine ⟨hS, ?_⟩
    try simp only [List.setIfInBounds_toArray, List.set_cons_succ, List.set_cons_zero]
    refine held_call (i := 10) rfl (by kernel_rfl) (by kernel_rfl) ?_
    simp [Oper.wp, execOp, Act.eval, Act.put, go_sem]
    refine (name_any _ (by have := HG1.out.first.le _ (List.getElem_mem (show fs2.length - 1 < fs2.length by omega)); constructor <;> omega) V2 (HTAB.out.below ((HBW1.out.mono hBw).trans (HT1.out.below.trans (hb2.mono hBw1)))) (Nat.le_trans hBw1 hb2.size)).mono ?_
    rintro e V3 ⟨rfl, hb3⟩
    have hbw3 : Below V1.heap.size V1 V3 := hb2.trans (hb3.mono hb2.size)
    have hS : V3.cell? ⟨l, 0, none⟩ = some (.pointer (some ⟨f, 0, none⟩)) ∧ V3.cell? ⟨l, 1, none⟩ = some (.string (txt dir)) := ⟨cell_later hbw3 hl0, cell_later hbw3 hl1⟩
    refine ⟨hS, ?_⟩
    try simp only [List.setIfInBounds_toArray, List.set_cons_succ, List.set_cons_zero]
    refine held_call (i := 12) rfl (by kernel_rfl) (by kernel_rfl) ?_
    simp [Oper.wp, execOp, Act.eval, Act.put, go_sem]
    refine (append_any (HREP.out.quiet (chb hbw3)) (HG1.out.wf.wf (by omega)) (Nat.le_trans hBw1 hbw3.size) dir (sN _) (8 + b.length) c1 ⟨gb, 0, none⟩ (fr b) hfrl.symm (ml_bytes HBUF2.out.bytes hbw3) (by omega)).mono ?_
    rintro e V4 ⟨rfl, hr4, ht4⟩
    have hl4 : V4.heap[l]? = V3.heap[l]? := ht4.ch.block l (Nat.lt_of_lt_of_le hlw hbw3.size) (fun hn => hn (.inr HSEG.out.pl))
    have hS : V4.cell? ⟨l, 0, none⟩ = some (.pointer (some ⟨f, 0, none⟩)) ∧ V4.cell? ⟨l, 1, none⟩ = some (.string (txt dir)) := ⟨(World.cell?_of_block (a := ⟨l, 0, none⟩) hl4).trans hS.1, (World.cell?_of_block (a := ⟨l, 1, none⟩) hl4).trans hS.2⟩
    refine ⟨hS, ?_⟩
    try simp only [List.setIfInBounds_toArray, List.set_cons_succ, List.set_cons_zero]
    refine held_take (i := 13) (t := 9) (v := (.int .i64 (appendR s1 dir (sN ((fs2[fs2.length - 1] : Nat) : Int)) (fr b)).1)) (fuel := 0) rfl rfl (by kernel_rfl) (by kernel_rfl) (by kernel_rfl) (fun _ _ _ h => h) (.inl ⟨rfl, fun W hW => by obtain ⟨w1, w2⟩ := hW; simp [execOp, Act.eval, go_sem, w1, w2]⟩) hS ?_
    simp only [List.setIfInBounds_toArray, List.set_cons_succ, List.set_cons_zero]
    refine wpAnyH_done (by kernel_rfl) ?_ 0
    unfold noPanic
    have hsl4 := sl_append HG1.out.sl hfp b hb (by omega) hu
    have hlog4 := (HSEG.out.below hbw3).kept ht4.ch (fun i hi hn => hn (.inr hi))
    have hT4 : Turn Q B w V4 := ((Turn.of HBW1.out hBw).trans (HT1.out.fewer (fun i hi => .inl hi))).trans ((Turn.of hbw3 hBw1).trans (ht4.fewer (fun i hi => .inl (.inl hi))))
    have hwf4 := wfk_append HG1.out.wf dir (sN ((fs2[fs2.length - 1] : Nat) : Int)) (fr b)
    obtain ⟨R, hR⟩ : ∃ R, appendR s1 dir (sN ((fs2[fs2.length - 1] : Nat) : Int)) (fr b) = R := ⟨_, rfl⟩
    rw [hR] at hr4 hsl4 hwf4
    try rw [hR]
    obtain ⟨E, s4⟩ := R
    obtain ⟨e4, hsl4, ho4⟩ := hsl4
    dsimp only at e4 hsl4 ho4 hr4 hwf4
    subst e4
    have HLL2 := Lib.hid HG1.out.lastL_le
    obtain ⟨L2, hL2⟩ : ∃ L2, lastL fs2 rs = L2 := ⟨_, rfl⟩
    have hLL2 : L2 ≤ 16512000 := by rw [← hL2]; exact HLL2.out
    have hNL : ((L2 : Int) + (8 + (b.length : Int))) = ((lastL fs2 (rs ++ [b]) : Nat) : Int) := by rw [lastL_more HG1.out.first b hfp, hL2]; omega
    rw [hL2] at hlog4
    obtain ⟨A4, c4, p1, p2, p3⟩ := hlog4.own
    have m4 : V4.cell? ⟨l, 4, none⟩ = some (.int .i64 (L2 : Int)) := p1.cell 4
    have m5 : V4.cell? ⟨l, 5, none⟩ = some (.int .i64 (rs.length : Int)) := p1.cell 5
    have y4 := p1.frozen 4
    have y5 := p1.frozen 5
    have hpl4 := p1.lt
    have m5' : ∀ v, (V4.setCell ⟨l, 4, none⟩ v).cell? ⟨l, 5, none⟩ = some (.int .i64 (rs.length : Int)) := fun v => (p1.set 4 v).cell 5
    have hmore := seg_more (rs := rs) (rs2 := rs ++ [b]) hlog4 ((L2 : Int) + (8 + (b.length : Int))) hNL (by simp)
    have hBV : B ≤ V4.heap.size := Nat.le_trans hBw hT4.size
    have HF := Lib.hid (show ∃ s', Sg Q B l f dir room (used + (8 + b.length)) (cnt + 1) (M + 4) size (apF size fs rs) (rs ++ [b]) (apD size fs rs dur) s' _ ∧ Turn Q B w _ ∧ OnlyD dir s s' from
      ⟨s4, by rw [HF2.out, HD2.out]; exact ⟨⟨P, hmore.1, (hr4.kept hmore.2 (fun i _ e => by subst e; exact .inr HSEG.out.pl)).fewer (fun i hi => hi.imp .inl id), fun i hi => ⟨fun hq => (HP.out i hi).1 (.inl hq), (HP.out i hi).2⟩⟩, hsl4, hwf4, by simp; omega, by have := HG1.out.dur; rw [List.length_append]; simp; omega⟩,
        hT4.trans (hmore.2.toTurn (fun k _ e => by subst e; exact ⟨(HP.out _ HSEG.out.pl).2, fun hq => (HP.out _ HSEG.out.pl).1 (.inl hq)⟩) hBV), HO1.out.trans ho4⟩)
    clear hmore hNL hL2 hr4 hsl4 hwf4 ho4 hlog4 hT4 p1 p2 p3 hS hl0 hl1 hl4 ht4 hbw3 hb3 hb2 hR
    go_wp2_with fail
    go_ret2
    exact ⟨rfl, HF.out⟩
end
end Go.Proofs.YtkcnmajjfljilaaGreatDoor
