/- segment: where a log lies; last, name, Sync while the power is on. -/
import Derived.Test.YtkcnmajjfljilaaGreatDoorSgP
import Derived.Test.YtkcnmajjfljilaaGreatDoorRegAll
namespace Go.Proofs.YtkcnmajjfljilaaGreatDoor
open Go Go.ChangeShapes Go.WideShapes Go.ChangeAt Go.RowKit Go.ChangeMaps Go.MapKept
set_option linter.unusedVariables false
set_option linter.unusedSimpArgs false

def nats (fs : List Nat) : List Value := fs.map fun i => Value.int .i64 ((i : Nat) : Int)
/-- A log in memory; its blocks are among P. -/
structure SegAt (P : Nat → Prop) (l f : Nat) (dir : Nm) (size : Int) (fs : List Nat) (len en dur : Int) (w : World) : Prop where
  own : ∃ A c, Cells w l #[.pointer (some ⟨f, 0, none⟩), .string (txt dir), .int .i64 size, .slice A fs.length c, .int .i64 len, .int .i64 en, .int .i64 dur] 96 ∧
    w.ownsRow 0 2 1 (.slice A fs.length c) fs.length (nats fs) ∧ ∀ k, (Value.slice A 0 0).ownBlock = some k → P k
  pl : P l
  lt : ∀ k, P k → k < w.heap.size
  lens : fs.length ≤ 999999
section
variable {P S : Nat → Prop} {l f : Nat} {dir : Nm} {size len en dur : Int} {fs : List Nat} {w w' : World}
theorem SegAt.kept (h : SegAt P l f dir size fs len en dur w) (k : Ch S w w') (hS : ∀ i, P i → ¬ S i) : SegAt P l f dir size fs len en dur w' := by
  obtain ⟨A, c, h1, h2, h3⟩ := h.own
  exact ⟨⟨A, c, h1.ch k (hS _ h.pl), own_ch h2 k (fun i hi => hS _ (h3 i (by cases A <;> exact hi))), h3⟩, h.pl, fun i hi => Nat.lt_of_lt_of_le (h.lt i hi) k.size, h.lens⟩
theorem SegAt.below (h : SegAt P l f dir size fs len en dur w) (hb : Below w.heap.size w w') : SegAt P l f dir size fs len en dur w' := h.kept (chb hb) (fun _ _ h => h)
theorem nat_at {B : Nat} {A : Option Addr} {c : Nat} (h : w.ownsRow B 2 1 (.slice A fs.length c) fs.length (nats fs)) {j : Nat} (hj : j < fs.length) : ∃ b, A = some ⟨b, 0, none⟩ ∧ w.cell? ⟨b, j, none⟩ = some (.int .i64 ((fs[j] : Nat) : Int)) := by
  obtain ⟨g, cap, hv, _, hlt⟩ := h.form (by omega)
  have hc := h.cells (g := g) (by rw [hv]; rfl)
  injection hv with h1 _ _
  refine ⟨g, h1, ?_⟩
  have := hc j (.int .i64 ((fs[j] : Nat) : Int)) (by simp [nats, hj])
  rw [add_at, Nat.zero_add] at this
  exact this
theorem last_m (h : SegAt P l f dir size fs len en dur w) (hne : 0 < fs.length) : Calls Tryz.prog 46 #[.pointer (some ⟨l, 0, none⟩)] w fun e w' => e = .returned (.int .i64 ((fs[fs.length - 1]'(by omega) : Nat) : Int)) ∧ Below w.heap.size w w' := by
  obtain ⟨A, c, hc, hr, hP⟩ := h.own
  obtain ⟨b, rfl, hcell⟩ := nat_at hr (j := fs.length - 1) (by omega)
  have c3 := hc.cell 3
  have hl := h.lens
  obtain ⟨v, hv⟩ : ∃ v, fs[fs.length - 1]'(by omega) = v := ⟨_, rfl⟩
  rw [hv] at hcell ⊢
  obtain ⟨m, hm⟩ : ∃ m, fs.length = m + 1 := ⟨fs.length - 1, by omega⟩
  replace c3 : w.cell? ⟨l, 3, none⟩ = some (.slice (some ⟨b, 0, none⟩) fs.length c) := c3
  rw [hm] at c3 hl hcell
  rw [Nat.add_sub_cancel] at hcell
  clear h hc hr hP hne hv hm
  go_enter Tryz.func46, Tryz.ntmps46
  go_wp2
  go_quiet (fail)
  go_wp2
  go_ret
  exact ⟨rfl, below_drewN _ _⟩
theorem name_any (t : Int) (ht : in64 t) (W : World) {B : Nat} (hT : Tab B W) (hB : B ≤ W.heap.size) : Calls Tryz.prog 45 #[.int .i64 t] W fun e w' => e = .returned (.string (txt (sN t))) ∧ Below W.heap.size W w' := by
  have HX := Lib.hid (hex_any t ht W hT hB)
  have hls : 2 + (txt (hexL t)).size ≤ 9223372036854775807 := by rw [txt_size, hexL_length]; decide
  have hfn := sN_txt t
  clear hT hB
  go_enter Tryz.func45, Tryz.ntmps45
  go_wp2_with (go_at_call 72; go_loud (refine HX.out.mono ?_; rintro e w1 ⟨rfl, hb⟩; have HB1 := Lib.hid hb; clear hb))
  go_ret
  exact ⟨by first | rfl | rw [hfn], HB1.out⟩
end
/-- A log, its file system, its files: Q are the caller's own blocks. -/
structure Sg (Q : Nat → Prop) (B l f : Nat) (dir : Nm) (room used : Int) (cnt M : Nat) (size : Int) (fs : List Nat) (rs : List (List UInt8)) (dur : Int) (s : Fs) (w : World) : Prop where
  ls : ∃ P, SegAt P l f dir size fs ((lastL fs rs : Nat) : Int) (rs.length : Int) dur w ∧ Rep (fun i => Q i ∨ P i) B f s w ∧ ∀ i, P i → ¬ Q i ∧ B ≤ i
  sl : Sl s room used dir cnt fs rs
  wf : WfK M s
  few : rs.length ≤ 16000
  dur : 0 ≤ dur ∧ dur ≤ rs.length
section
variable {Q : Nat → Prop} {B l f cnt M : Nat} {dir : Nm} {room used size dur : Int} {fs : List Nat} {rs : List (List UInt8)} {s : Fs} {w w' : World}
theorem Sg.first (h : Sg Q B l f dir room used cnt M size fs rs dur s w) : Firsts fs rs.length := by
  obtain ⟨_, mp, d, f⟩ := h.sl
  exact f.first
theorem Sg.below (h : Sg Q B l f dir room used cnt M size fs rs dur s w) (hb : Below w.heap.size w w') : Sg Q B l f dir room used cnt M size fs rs dur s w' := by
  obtain ⟨P, h1, h2, h3⟩ := h.ls
  exact ⟨⟨P, h1.below hb, h2.quiet (chb hb), h3⟩, h.sl, h.wf, h.few, h.dur⟩

set_option maxRecDepth 100000 in
set_option maxHeartbeats 4000000 in
/-- Sync while the power is on. -/
theorem sync_sg (h : Sg Q B l f dir room used cnt M size fs rs dur s w) (hM : M + 1 ≤ 1000000) (hBw : B ≤ w.heap.size) (hT : Tab B w) :
    Calls Tryz.prog 29 #[.pointer (some ⟨l, 0, none⟩)] w fun e w' => e = .returned (.int .i64 0) ∧ ∃ s', Sg Q B l f dir room used cnt (M + 1) size fs rs (rs.length : Int) s' w' ∧ Turn Q B w w' ∧ OnlyD dir s s' := by
  obtain ⟨P, hseg, hrep, hP⟩ := h.ls
  have HSEG := Lib.hid hseg
  have HREP := Lib.hid hrep
  have HP := Lib.hid hP
  have HTAB := Lib.hid hT
  have HH := Lib.hid h
  obtain ⟨A, c, q1, q2, q3⟩ := hseg.own
  have hlens := hseg.lens
  have hfew := h.few
  have HQ1 := Lib.hid q1
  have hlw := q1.lt
  have hl0 : w.cell? ⟨l, 0, none⟩ = some (.pointer (some ⟨f, 0, none⟩)) := q1.cell 0
  have hl1 : w.cell? ⟨l, 1, none⟩ = some (.string (txt dir)) := q1.cell 1
  have hl3 : w.cell? ⟨l, 3, none⟩ = some (.slice A fs.length c) := q1.cell 3
  clear hseg hrep hP hT h q2 q3
  by_cases hne : 0 < fs.length
  · go_enter Tryz.func29, Tryz.ntmps29
    clear q1
    go_wp2_with fail
    refine wp_mono ?_ noPanic_le
    refine held_begin 13 (fun W => W.cell? ⟨l, 0, none⟩ = some (.pointer (some ⟨f, 0, none⟩)) ∧ W.cell? ⟨l, 1, none⟩ = some (.string (txt dir))) rfl (by kernel_rfl) ?_
    have hS : w.drew.cell? ⟨l, 0, none⟩ = some (.pointer (some ⟨f, 0, none⟩)) ∧ w.drew.cell? ⟨l, 1, none⟩ = some (.string (txt dir)) := ⟨hl0, hl1⟩
    refine held_take (i := 0) (t := 12) (v := (.pointer (some ⟨l, 0, none⟩))) (fuel := 12) rfl rfl (by kernel_rfl) (by kernel_rfl) (by kernel_rfl) (fun _ _ _ h => h) (.inl ⟨rfl, fun W hW => by obtain ⟨w1, w2⟩ := hW; simp [execOp, Act.eval, go_sem, w1, w2]⟩) hS ?_
    simp only [List.setIfInBounds_toArray, List.set_cons_succ, List.set_cons_zero]
    refine held_take (i := 1) (t := 13) (v := (.pointer (some ⟨l, 0, none⟩))) (fuel := 11) rfl rfl (by kernel_rfl) (by kernel_rfl) (by kernel_rfl) (fun _ _ _ h => h) (.inl ⟨rfl, fun W hW => by obtain ⟨w1, w2⟩ := hW; simp [execOp, Act.eval, go_sem, w1, w2]⟩) hS ?_
    simp only [List.setIfInBounds_toArray, List.set_cons_succ, List.set_cons_zero]
    refine held_take (i := 2) (t := 14) (v := (.pointer (some ⟨l, 0, none⟩))) (fuel := 10) rfl rfl (by kernel_rfl) (by kernel_rfl) (by kernel_rfl) (fun _ _ _ h => h) (.inl ⟨rfl, fun W hW => by obtain ⟨w1, w2⟩ := hW; simp [execOp, Act.eval, go_sem, w1, w2]⟩) hS ?_
    simp only [List.setIfInBounds_toArray, List.set_cons_succ, List.set_cons_zero]
    refine held_take (i := 3) (t := 15) (v := (.pointer (some ⟨f, 0, none⟩))) (fuel := 9) rfl rfl (by kernel_rfl) (by kernel_rfl) (by kernel_rfl) (fun _ _ _ h => h) (.inl ⟨rfl, fun W hW => by obtain ⟨w1, w2⟩ := hW; simp [execOp, Act.eval, go_sem, w1, w2]⟩) hS ?_
    simp only [List.setIfInBounds_toArray, List.set_cons_succ, List.set_cons_zero]
    refine held_take (i := 4) (t := 16) (v := (.pointer (some ⟨l, 0, none⟩))) (fuel := 8) rfl rfl (by kernel_rfl) (by kernel_rfl) (by kernel_rfl) (fun _ _ _ h => h) (.inl ⟨rfl, fun W hW => by obtain ⟨w1, w2⟩ := hW; simp [execOp, Act.eval, go_sem, w1, w2]⟩) hS ?_
    simp only [List.setIfInBounds_toArray, List.set_cons_succ, List.set_cons_zero]
    refine held_take (i := 5) (t := 17) (v := (.pointer (some ⟨l, 0, none⟩))) (fuel := 7) rfl rfl (by kernel_rfl) (by kernel_rfl) (by kernel_rfl) (fun _ _ _ h => h) (.inl ⟨rfl, fun W hW => by obtain ⟨w1, w2⟩ := hW; simp [execOp, Act.eval, go_sem, w1, w2]⟩) hS ?_
    simp only [List.setIfInBounds_toArray, List.set_cons_succ, List.set_cons_zero]
    refine held_take (i := 6) (t := 18) (v := (.pointer (some ⟨l, 1, none⟩))) (fuel := 6) rfl rfl (by kernel_rfl) (by kernel_rfl) (by kernel_rfl) (fun _ _ _ h => h) (.inl ⟨rfl, fun W hW => by obtain ⟨w1, w2⟩ := hW; simp [execOp, Act.eval, go_sem, w1, w2]⟩) hS ?_
    simp only [List.setIfInBounds_toArray, List.set_cons_succ, List.set_cons_zero]
    refine held_take (i := 7) (t := 19) (v := (.string (txt dir))) (fuel := 5) rfl rfl (by kernel_rfl) (by kernel_rfl) (by kernel_rfl) (fun _ _ _ h => h) (.inl ⟨rfl, fun W hW => by obtain ⟨w1, w2⟩ := hW; simp [execOp, Act.eval, go_sem, w1, w2]⟩) hS ?_
    simp only [List.setIfInBounds_toArray, List.set_cons_succ, List.set_cons_zero]
    refine held_take (i := 8) (t := 20) (v := (.pointer (some ⟨l, 0, none⟩))) (fuel := 4) rfl rfl (by kernel_rfl) (by kernel_rfl) (by kernel_rfl) (fun _ _ _ h => h) (.inl ⟨rfl, fun W hW => by obtain ⟨w1, w2⟩ := hW; simp [execOp, Act.eval, go_sem, w1, w2]⟩) hS ?_
    simp only [List.setIfInBounds_toArray, List.set_cons_succ, List.set_cons_zero]
    refine held_call (i := 9) rfl (by kernel_rfl) (by kernel_rfl) ?_
    simp [Oper.wp, execOp, Act.eval, Act.put, go_sem]
    refine (last_m (w := w.drew) (HSEG.out.below (Below.refl _ w).drew) hne).mono ?_
    rintro e V2 ⟨rfl, hb2⟩
    replace hb2 := below_undrew hb2
    have hS : V2.cell? ⟨l, 0, none⟩ = some (.pointer (some ⟨f, 0, none⟩)) ∧ V2.cell? ⟨l, 1, none⟩ = some (.string (txt dir)) := ⟨cell_later hb2 hl0, cell_later hb2 hl1⟩
    refine ⟨hS, ?_⟩
    try simp only [List.setIfInBounds_toArray, List.set_cons_succ, List.set_cons_zero]
    refine held_call (i := 10) rfl (by kernel_rfl) (by kernel_rfl) ?_
    simp [Oper.wp, execOp, Act.eval, Act.put, go_sem]
    refine (name_any _ (by have := HH.out.first.le _ (List.getElem_mem (show fs.length - 1 < fs.length by omega)); constructor <;> omega) V2 (HTAB.out.below (hb2.mono hBw)) (Nat.le_trans hBw hb2.size)).mono ?_
    rintro e V3 ⟨rfl, hb3⟩
    have hbw3 : Below w.heap.size w V3 := hb2.trans (hb3.mono hb2.size)
    have hS : V3.cell? ⟨l, 0, none⟩ = some (.pointer (some ⟨f, 0, none⟩)) ∧ V3.cell? ⟨l, 1, none⟩ = some (.string (txt dir)) := ⟨cell_later hbw3 hl0, cell_later hbw3 hl1⟩
    refine ⟨hS, ?_⟩
    try simp only [List.setIfInBounds_toArray, List.set_cons_succ, List.set_cons_zero]
    refine held_call (i := 11) rfl (by kernel_rfl) (by kernel_rfl) ?_
    simp [Oper.wp, execOp, Act.eval, Act.put, go_sem]
    refine (sync_any (HREP.out.quiet (chb hbw3)) (HH.out.wf.wf (by omega)) (Nat.le_trans hBw hbw3.size) dir (sN _)).mono ?_
    rintro e V4 ⟨rfl, hr4, ht4⟩
    have hsl := sl_sync HH.out.sl (k := fs.length - 1) (by omega)
    have hlog4 := (HSEG.out.below hbw3).kept ht4.ch (fun i hi hn => hn (.inr hi))
    have hT4 : Turn Q B w V4 := (Turn.of hbw3 hBw).trans (ht4.fewer (fun i hi => .inl hi))
    have hl4 : V4.heap[l]? = V3.heap[l]? := ht4.ch.block l (Nat.lt_of_lt_of_le hlw hbw3.size) (fun hn => hn (.inr HSEG.out.pl))
    have hS : V4.cell? ⟨l, 0, none⟩ = some (.pointer (some ⟨f, 0, none⟩)) ∧ V4.cell? ⟨l, 1, none⟩ = some (.string (txt dir)) := ⟨(World.cell?_of_block (a := ⟨l, 0, none⟩) hl4).trans hS.1, (World.cell?_of_block (a := ⟨l, 1, none⟩) hl4).trans hS.2⟩
    refine ⟨hS, ?_⟩
    try simp only [List.setIfInBounds_toArray, List.set_cons_succ, List.set_cons_zero]
    refine held_take (i := 12) (t := 3) (v := (.int .i64 0)) (fuel := 0) rfl rfl (by kernel_rfl) (by kernel_rfl) (by kernel_rfl) (fun _ _ _ h => h) (.inl ⟨rfl, fun W hW => by obtain ⟨w1, w2⟩ := hW; simp [execOp, Act.eval, go_sem, w1, w2, hsl.1]⟩) hS ?_
    simp only [List.setIfInBounds_toArray, List.set_cons_succ, List.set_cons_zero]
    refine wpAnyH_done (by kernel_rfl) ?_ 0
    unfold noPanic
    have HSL := Lib.hid hsl
    have HTU := Lib.hid hT4
    have HSG := Lib.hid hlog4
    have HRP := Lib.hid hr4
    obtain ⟨A4, c4, p1, p2, p3⟩ := hlog4.own
    have k5 : V4.cell? ⟨l, 5, none⟩ = some (.int .i64 (rs.length : Int)) := p1.cell 5
    have k6 : V4.cell? ⟨l, 6, none⟩ = some (.int .i64 dur) := p1.cell 6
    have f6 := p1.frozen 6
    have g4 := p1.lt
    have HP1 := Lib.hid p1
    have HP2 := Lib.hid p2
    have HP3 := Lib.hid p3
    clear hS hsl hT4 hlog4 hr4 p1 p2 p3 hl0 hl1 hl3 hbw3 hb3 hb2 ht4 hl4
    go_wp2_with fail
    go_ret
    have hset := HP1.out.set 6 (.int .i64 (rs.length : Int))
    have hch : Ch (· = l) V4 (V4.setCell ⟨l, 6, none⟩ (.int .i64 (rs.length : Int))) := (Ch.refl (· = l) V4).set (p := ⟨l, 6, none⟩) (.inl rfl) _
    refine ⟨rfl, _, ⟨⟨P, ⟨⟨A4, c4, by simpa using hset, own_ch HP2.out hch (fun i hi e => ?_), HP3.out⟩, HSG.out.pl, fun k hk => by have := HSG.out.lt k hk; simpa using this, HSG.out.lens⟩, HRP.out.kept hch (fun i _ e => by subst e; exact .inr HSG.out.pl), HP.out⟩, HSL.out.2.1, wfk_sync HH.out.wf dir _, HH.out.few, by omega⟩, HTU.out.trans (hch.toTurn (fun k _ e => by subst e; exact ⟨(HP.out _ HSG.out.pl).2, (HP.out _ HSG.out.pl).1⟩) (Nat.le_trans hBw HTU.out.size)), HSL.out.2.2⟩
    subst e
    obtain ⟨d, hd, _⟩ := own_cells HP2.out hi
    exact absurd rfl (HP1.out.ne hd (by decide))
  · have hf0 : fs = [] := List.eq_nil_of_length_eq_zero (by omega)
    subst hf0
    have hr0 : rs.length = 0 := HH.out.first.none_ rfl
    have k5 : w.cell? ⟨l, 5, none⟩ = some (.int .i64 (rs.length : Int)) := q1.cell 5
    have k6 : w.cell? ⟨l, 6, none⟩ = some (.int .i64 dur) := q1.cell 6
    have f6 := q1.frozen 6
    rw [hr0] at k5
    rw [List.length_nil] at hl3
    clear q1
    go_enter Tryz.func29, Tryz.ntmps29
    go_wp2_with fail
    go_ret
    have hset := HQ1.out.set 6 (.int .i64 0)
    have hch : Ch (· = l) w (w.setCell ⟨l, 6, none⟩ (.int .i64 0)) := (Ch.refl (· = l) w).set (p := ⟨l, 6, none⟩) (.inl rfl) _
    obtain ⟨A4, c4, p1, p2, p3⟩ := HSEG.out.own
    have hset4 := p1.set 6 (.int .i64 0)
    refine ⟨rfl, s, ⟨⟨P, ⟨⟨A4, c4, by simpa [hr0] using hset4, own_ch p2 hch (fun i hi e => ?_), p3⟩, HSEG.out.pl, fun k hk => by have := HSEG.out.lt k hk; simpa using this, HSEG.out.lens⟩, HREP.out.kept hch (fun i _ e => by subst e; exact .inr HSEG.out.pl), HP.out⟩, HH.out.sl, HH.out.wf.mono (by omega), HH.out.few, by omega⟩, hch.toTurn (fun k _ e => by subst e; exact ⟨(HP.out _ HSEG.out.pl).2, (HP.out _ HSEG.out.pl).1⟩) hBw, OnlyD.refl _ _⟩
    subst e
    obtain ⟨d, hd, _⟩ := own_cells p2 hi
    exact absurd rfl (p1.ne hd (by decide))
end
end Go.Proofs.YtkcnmajjfljilaaGreatDoor
