/- segment: begin while the power is on. -/
import Derived.Test.YtkcnmajjfljilaaGreatDoorSgM
namespace Go.Proofs.YtkcnmajjfljilaaGreatDoor
open Go Go.ChangeShapes Go.WideShapes Go.ChangeAt Go.RowKit Go.ChangeMaps Go.MapKept
set_option linter.unusedVariables false
set_option linter.unusedSimpArgs false

/-- 'append(l, m...)' of items whose cells lie somewhere. -/
theorem app_any {sz bytes : Nat} {T E : TypeId} {z : Value} (hT : Tryz.prog.underlying T = some (.slice E)) (hinfo : (Tryz.prog.info? E).map (fun i => (i.zero, i.size, i.bytes)) = some (some z, sz, bytes)) (hz : z.cells.size = sz) (hsz : 0 < sz) (w : World)
    {o : Oper} {a : Act} {K : Act → World → Prop} {Q : Exit → Act → World → Prop} (s x : Operand)
    (ho : o.op = .call { callee := .builtin .append, args := #[s, x], argTypes := #[T, T] })
    (B : Nat) (hB : B ≤ w.heap.size) (A : Option Addr) (n c : Nat) (xs : List Value) (hs : a.eval s = .slice A n c) (hb : w.ownsRow B E sz (.slice A n c) n xs) (m : Nat) (news : List Value) (hl : news.length = m * sz) (h1 : ∀ u ∈ news, u.oneCell' = true)
    (ad : Addr) (c2 : Nat) (hx : a.eval x = .slice (some ad) m c2) (hnews : ∀ j u, news[j]? = some u → w.cell? (ad.add j) = some u) (hlen : (n + m) * bytes ≤ 140737488355328) (hn : n + m ≤ maxLen)
    (h : ∀ A' c' w', w'.ownsRow B E sz (.slice A' (n + m) c') (n + m) (xs ++ news) → w.grownBy w' (Value.ownBlock (.slice A n c)) → ((Value.slice A' 0 0).ownBlock = (Value.slice A 0 0).ownBlock ∨ (Value.slice A' 0 0).ownBlock = some w.heap.size) → K (a.put o.dst (.slice A' (n + m) c')) w') :
    Oper.wp Tryz.prog o a w K Q := by
  obtain ⟨i0, hi, hz0, hz1, hz2⟩ := info_parts hinfo
  obtain ⟨v', w', hr, h2, h3, _, h5⟩ := run_append_own_at (P := Tryz.prog) w B T o.type E i0 _ sz bytes hT hi hz0 hz1 hz2 hz hsz (.slice A n c) n xs hb ad m c2 news hl hnews h1 hn hlen hB
  obtain ⟨A', c', rfl⟩ := own_slice h2
  unfold Oper.wp execOp
  simp only [ho, resolve, invoke, builtin, Sem.run_bind, Sem.run_pure, Result.andThen_ok, List.map_toArray, List.map_cons, List.map_nil, hs, hx, hr]
  exact h A' c' w' h2 h3 (by cases A <;> cases A' <;> exact h5)
theorem infoI64 : (Tryz.prog.info? 2).map (fun i => (i.zero, i.size, i.bytes)) = some (some (Value.int .i64 0), 1, 8) := by kernel_rfl
section
variable {Q : Nat → Prop} {B l f cnt M : Nat} {dir : Nm} {room used size dur : Int} {fs : List Nat} {rs : List (List UInt8)} {s : Fs} {w w' : World}
/-- What begin's last stores leave. -/
theorem seg_new {P : Nat → Prop} {V w4 : World} {A A4 : Option Addr} {c c4 : Nat} {len : Int} {g : Obj} (h : SegAt P l f dir size fs len (rs.length : Int) dur V) (hc : Cells V l #[.pointer (some ⟨f, 0, none⟩), .string (txt dir), .int .i64 size, .slice A fs.length c, .int .i64 len, .int .i64 (rs.length : Int), .int .i64 dur] 96)
    (hr : V.ownsRow 0 2 1 (.slice A fs.length c) fs.length (nats fs)) (hP : ∀ k, (Value.slice A 0 0).ownBlock = some k → P k)
    (hown : w4.ownsRow 0 2 1 (.slice A4 (fs.length + 1) c4) (fs.length + 1) (nats fs ++ [.int .i64 (rs.length : Int)])) (hg : (V.drew.alloc g).grownBy w4 (Value.ownBlock (.slice A fs.length c)))
    (hA : (Value.slice A4 0 0).ownBlock = (Value.slice A 0 0).ownBlock ∨ (Value.slice A4 0 0).ownBlock = some (V.drew.alloc g).heap.size) (hlen : fs.length ≤ 999990) (hlz : lastL (fs ++ [rs.length]) rs = 0) :
    let W' := (w4.setCell ⟨l, 3, none⟩ (.slice A4 (fs.length + 1) c4)).setCell ⟨l, 4, none⟩ (.int .i64 0)
    SegAt (fun i => P i ∨ (V.heap.size ≤ i ∧ i < W'.heap.size)) l f dir size (fs ++ [rs.length]) ((lastL (fs ++ [rs.length]) rs : Nat) : Int) (rs.length : Int) dur W' ∧ Ch P V W' := by
  intro W'
  have hrowt : ∀ r, (Value.slice A fs.length c).ownBlock = some r → P r ∧ ∃ d, Cells V r d 2 := fun r e => by
    obtain ⟨d, hd, _⟩ := own_cells hr e
    exact ⟨hP r (by cases A <;> exact e), d, hd⟩
  have hal : Ch (fun _ => False) V (V.drew.alloc g) := chb (((Below.refl _ V).drew).alloc (Nat.le_refl _) _)
  have h4 : Ch P V w4 := (hal.mono (fun k _ h => h.elim)).then_ (ch_of_grown hg) (fun i hi e => (hrowt i e.symm.symm).1)
  have hl4 : Cells w4 l #[.pointer (some ⟨f, 0, none⟩), .string (txt dir), .int .i64 size, .slice A fs.length c, .int .i64 len, .int .i64 (rs.length : Int), .int .i64 dur] 96 :=
    (hc.ch hal (fun h => h)).ch (ch_of_grown hg) (fun e => by obtain ⟨_, d, hd⟩ := hrowt l e; exact hc.ne hd (by decide) rfl)
  have hst : Ch (· = l) w4 W' := ((Ch.refl (· = l) w4).set (p := ⟨l, 3, none⟩) (.inl rfl) _).set (p := ⟨l, 4, none⟩) (.inl rfl) _
  have hcl : Ch P V W' := h4.trans (hst.mono (fun k _ e => by subst e; exact h.pl))
  have hsz : W'.heap.size = w4.heap.size := by show ((w4.setCell _ _).setCell _ _).heap.size = _; simp
  have hWc := (hl4.set 3 (.slice A4 (fs.length + 1) c4)).set 4 (.int .i64 0)
  refine ⟨⟨⟨A4, c4, ?_, ?_, fun k hk => ?_⟩, .inl h.pl, fun k hk => ?_, by rw [List.length_append, List.length_singleton]; omega⟩, hcl⟩
  · rw [List.length_append, List.length_singleton, hlz]
    simpa using hWc
  · rw [List.length_append, List.length_singleton, show nats (fs ++ [rs.length]) = nats fs ++ [.int .i64 (rs.length : Int)] from by simp [nats]]
    refine own_ch hown hst (fun i hi e => ?_)
    subst e
    obtain ⟨d, hd, _⟩ := own_cells hown hi
    exact absurd rfl (hl4.ne hd (by decide))
  · rcases hA with e | e
    · rw [e] at hk; exact .inl (hP k hk)
    · rw [e] at hk
      injection hk with hk
      subst hk
      refine .inr ⟨hal.size, ?_⟩
      have : (Value.slice A4 (fs.length + 1) c4).ownBlock = some (V.drew.alloc g).heap.size := by cases A4 <;> exact e
      have := (hown.lt _ this).2
      rw [hsz]; exact this
  · rcases hk with hk | hk
    · exact Nat.lt_of_lt_of_le (h.lt k hk) hcl.size
    · exact hk.2

set_option maxRecDepth 100000 in
set_option maxHeartbeats 8000000 in
/-- begin while the power is on. -/
theorem begin_sg (h : Sg Q B l f dir room used cnt M size fs rs dur s w) (hlt : ∀ i ∈ fs, i < rs.length) (hc : cnt < 4096) (hfl : fs.length ≤ 999990) (hM : M + 3 ≤ 1000000) (hBw : B ≤ w.heap.size) (hT : Tab B w) :
    Calls Tryz.prog 43 #[.pointer (some ⟨l, 0, none⟩)] w fun e w' => e = .returned (.int .i64 0) ∧ ∃ s', Sg Q B l f dir room used (cnt + 1) (M + 3) size (fs ++ [rs.length]) rs (rs.length : Int) s' w' ∧ Turn Q B w w' ∧ OnlyD dir s s' := by
  have HS := Lib.hid (sync_sg h (by omega) hBw hT)
  have HTAB := Lib.hid hT
  have HLT := Lib.hid hlt
  have hfew := h.few
  clear hT hlt h
  go_enter Tryz.func43, Tryz.ntmps43
  go_wp2_with (go_at_call 29; go_loud (refine HS.out.mono ?_; rintro e w1 ⟨rfl, s1, h1, ht1, ho1⟩; have H1 := Lib.hid h1; have HT1 := Lib.hid ht1; have HO1 := Lib.hid ho1; clear h1 ht1 ho1))
  obtain ⟨P, hseg, hrep, hP⟩ := H1.out.ls
  have HSEG := Lib.hid hseg
  have HREP := Lib.hid hrep
  have HP := Lib.hid hP
  obtain ⟨A, c, q1, q2, q3⟩ := hseg.own
  have hlw := q1.lt
  have hl0 : w1.cell? ⟨l, 0, none⟩ = some (.pointer (some ⟨f, 0, none⟩)) := q1.cell 0
  have hl1 : w1.cell? ⟨l, 1, none⟩ = some (.string (txt dir)) := q1.cell 1
  have hl5 : w1.cell? ⟨l, 5, none⟩ = some (.int .i64 (rs.length : Int)) := q1.cell 5
  have hBw1 : B ≤ w1.heap.size := Nat.le_trans hBw HT1.out.size
  clear hseg hrep hP q1 q2 q3
  refine wp_mono ?_ noPanic_le
  refine held_begin 15 (fun W => W.cell? ⟨l, 0, none⟩ = some (.pointer (some ⟨f, 0, none⟩)) ∧ W.cell? ⟨l, 1, none⟩ = some (.string (txt dir)) ∧ W.cell? ⟨l, 5, none⟩ = some (.int .i64 (rs.length : Int))) rfl (by kernel_rfl) ?_
  have hS : w1.drew.cell? ⟨l, 0, none⟩ = some (.pointer (some ⟨f, 0, none⟩)) ∧ w1.drew.cell? ⟨l, 1, none⟩ = some (.string (txt dir)) ∧ w1.drew.cell? ⟨l, 5, none⟩ = some (.int .i64 (rs.length : Int)) := ⟨hl0, hl1, hl5⟩
  refine held_take (i := 0) (t := 11) (v := (.pointer (some ⟨l, 0, none⟩))) (fuel := 14) rfl rfl (by kernel_rfl) (by kernel_rfl) (by kernel_rfl) (fun _ _ _ h => h) (.inl ⟨rfl, fun W hW => by obtain ⟨w1, w2, w3⟩ := hW; simp [execOp, Act.eval, go_sem, w1, w2, w3]⟩) hS ?_
  simp only [List.setIfInBounds_toArray, List.set_cons_succ, List.set_cons_zero]
  refine held_take (i := 1) (t := 12) (v := (.pointer (some ⟨l, 0, none⟩))) (fuel := 13) rfl rfl (by kernel_rfl) (by kernel_rfl) (by kernel_rfl) (fun _ _ _ h => h) (.inl ⟨rfl, fun W hW => by obtain ⟨w1, w2, w3⟩ := hW; simp [execOp, Act.eval, go_sem, w1, w2, w3]⟩) hS ?_
  simp only [List.setIfInBounds_toArray, List.set_cons_succ, List.set_cons_zero]
  refine held_take (i := 2) (t := 13) (v := (.pointer (some ⟨l, 0, none⟩))) (fuel := 12) rfl rfl (by kernel_rfl) (by kernel_rfl) (by kernel_rfl) (fun _ _ _ h => h) (.inl ⟨rfl, fun W hW => by obtain ⟨w1, w2, w3⟩ := hW; simp [execOp, Act.eval, go_sem, w1, w2, w3]⟩) hS ?_
  simp only [List.setIfInBounds_toArray, List.set_cons_succ, List.set_cons_zero]
  refine held_take (i := 3) (t := 14) (v := (.pointer (some ⟨f, 0, none⟩))) (fuel := 11) rfl rfl (by kernel_rfl) (by kernel_rfl) (by kernel_rfl) (fun _ _ _ h => h) (.inl ⟨rfl, fun W hW => by obtain ⟨w1, w2, w3⟩ := hW; simp [execOp, Act.eval, go_sem, w1, w2, w3]⟩) hS ?_
  simp only [List.setIfInBounds_toArray, List.set_cons_succ, List.set_cons_zero]
  refine held_take (i := 4) (t := 15) (v := (.pointer (some ⟨l, 0, none⟩))) (fuel := 10) rfl rfl (by kernel_rfl) (by kernel_rfl) (by kernel_rfl) (fun _ _ _ h => h) (.inl ⟨rfl, fun W hW => by obtain ⟨w1, w2, w3⟩ := hW; simp [execOp, Act.eval, go_sem, w1, w2, w3]⟩) hS ?_
  simp only [List.setIfInBounds_toArray, List.set_cons_succ, List.set_cons_zero]
  refine held_take (i := 5) (t := 16) (v := (.pointer (some ⟨l, 0, none⟩))) (fuel := 9) rfl rfl (by kernel_rfl) (by kernel_rfl) (by kernel_rfl) (fun _ _ _ h => h) (.inl ⟨rfl, fun W hW => by obtain ⟨w1, w2, w3⟩ := hW; simp [execOp, Act.eval, go_sem, w1, w2, w3]⟩) hS ?_
  simp only [List.setIfInBounds_toArray, List.set_cons_succ, List.set_cons_zero]
  refine held_take (i := 6) (t := 17) (v := (.pointer (some ⟨l, 1, none⟩))) (fuel := 8) rfl rfl (by kernel_rfl) (by kernel_rfl) (by kernel_rfl) (fun _ _ _ h => h) (.inl ⟨rfl, fun W hW => by obtain ⟨w1, w2, w3⟩ := hW; simp [execOp, Act.eval, go_sem, w1, w2, w3]⟩) hS ?_
  simp only [List.setIfInBounds_toArray, List.set_cons_succ, List.set_cons_zero]
  refine held_take (i := 7) (t := 18) (v := (.string (txt dir))) (fuel := 7) rfl rfl (by kernel_rfl) (by kernel_rfl) (by kernel_rfl) (fun _ _ _ h => h) (.inl ⟨rfl, fun W hW => by obtain ⟨w1, w2, w3⟩ := hW; simp [execOp, Act.eval, go_sem, w1, w2, w3]⟩) hS ?_
  simp only [List.setIfInBounds_toArray, List.set_cons_succ, List.set_cons_zero]
  refine held_take (i := 8) (t := 19) (v := (.pointer (some ⟨l, 0, none⟩))) (fuel := 6) rfl rfl (by kernel_rfl) (by kernel_rfl) (by kernel_rfl) (fun _ _ _ h => h) (.inl ⟨rfl, fun W hW => by obtain ⟨w1, w2, w3⟩ := hW; simp [execOp, Act.eval, go_sem, w1, w2, w3]⟩) hS ?_
  simp only [List.setIfInBounds_toArray, List.set_cons_succ, List.set_cons_zero]
  refine held_take (i := 9) (t := 20) (v := (.pointer (some ⟨l, 0, none⟩))) (fuel := 5) rfl rfl (by kernel_rfl) (by kernel_rfl) (by kernel_rfl) (fun _ _ _ h => h) (.inl ⟨rfl, fun W hW => by obtain ⟨w1, w2, w3⟩ := hW; simp [execOp, Act.eval, go_sem, w1, w2, w3]⟩) hS ?_
  simp only [List.setIfInBounds_toArray, List.set_cons_succ, List.set_cons_zero]
  refine held_take (i := 10) (t := 21) (v := (.pointer (some ⟨l, 5, none⟩))) (fuel := 4) rfl rfl (by kernel_rfl) (by kernel_rfl) (by kernel_rfl) (fun _ _ _ h => h) (.inl ⟨rfl, fun W hW => by obtain ⟨w1, w2, w3⟩ := hW; simp [execOp, Act.eval, go_sem, w1, w2, w3]⟩) hS ?_
  simp only [List.setIfInBounds_toArray, List.set_cons_succ, List.set_cons_zero]
  refine held_take (i := 11) (t := 22) (v := (.int .i64 (rs.length : Int))) (fuel := 3) rfl rfl (by kernel_rfl) (by kernel_rfl) (by kernel_rfl) (fun _ _ _ h => h) (.inl ⟨rfl, fun W hW => by obtain ⟨w1, w2, w3⟩ := hW; simp [execOp, Act.eval, go_sem, w1, w2, w3]⟩) hS ?_
  simp only [List.setIfInBounds_toArray, List.set_cons_succ, List.set_cons_zero]
  refine held_call (i := 12) rfl (by kernel_rfl) (by kernel_rfl) ?_
  simp [Oper.wp, execOp, Act.eval, Act.put, go_sem]
  refine (name_any _ (by constructor <;> omega) w1.drew (HTAB.out.below (HT1.out.below.drew)) hBw1).mono ?_
  rintro e V3 ⟨rfl, hb3⟩
  have hbw3 : Below w1.heap.size w1 V3 := below_undrew hb3
  have hS : V3.cell? ⟨l, 0, none⟩ = some (.pointer (some ⟨f, 0, none⟩)) ∧ V3.cell? ⟨l, 1, none⟩ = some (.string (txt dir)) ∧ V3.cell? ⟨l, 5, none⟩ = some (.int .i64 (rs.length : Int)) := ⟨cell_later hbw3 hl0, cell_later hbw3 hl1, cell_later hbw3 hl5⟩
  refine ⟨hS, ?_⟩
  try simp only [List.setIfInBounds_toArray, List.set_cons_succ, List.set_cons_zero]
  refine held_call (i := 13) rfl (by kernel_rfl) (by kernel_rfl) ?_
  simp [Oper.wp, execOp, Act.eval, Act.put, go_sem]
  refine (create_any (HREP.out.quiet (chb hbw3)) (H1.out.wf.wf (by omega)) (Nat.le_trans hBw1 hbw3.size) dir (sN (rs.length : Int))).mono ?_
  rintro e V4 ⟨x, hx, rfl, hr4, ht4⟩
  have hl4 : V4.heap[l]? = V3.heap[l]? := ht4.ch.block l (Nat.lt_of_lt_of_le hlw hbw3.size) (fun hn => hn (.inr HSEG.out.pl))
  have hS : V4.cell? ⟨l, 0, none⟩ = some (.pointer (some ⟨f, 0, none⟩)) ∧ V4.cell? ⟨l, 1, none⟩ = some (.string (txt dir)) ∧ V4.cell? ⟨l, 5, none⟩ = some (.int .i64 (rs.length : Int)) := ⟨(World.cell?_of_block (a := ⟨l, 0, none⟩) hl4).trans hS.1, (World.cell?_of_block (a := ⟨l, 1, none⟩) hl4).trans hS.2.1, (World.cell?_of_block (a := ⟨l, 5, none⟩) hl4).trans hS.2.2⟩
  refine ⟨hS, ?_⟩
  try simp only [List.setIfInBounds_toArray, List.set_cons_succ, List.set_cons_zero]
  refine held_take (i := 14) (t := 4) (v := (.int .i64 (createR s1 dir (sN (rs.length : Int)) x).1)) (fuel := 0) rfl rfl (by kernel_rfl) (by kernel_rfl) (by kernel_rfl) (fun _ _ _ h => h) (.inl ⟨rfl, fun W hW => by obtain ⟨w1, w2, w3⟩ := hW; simp [execOp, Act.eval, go_sem, w1, w2, w3]⟩) hS ?_
  simp only [List.setIfInBounds_toArray, List.set_cons_succ, List.set_cons_zero]
  refine wpAnyH_done (by kernel_rfl) ?_ 0
  unfold noPanic
  have hsl4 := sl_create H1.out.sl HLT.out hc (by omega) hx
  have hlog4 := (HSEG.out.below hbw3).kept ht4.ch (fun i hi hn => hn (.inr hi))
  have hT4 : Turn Q B w V4 := HT1.out.trans ((Turn.of hbw3 hBw1).trans (ht4.fewer (fun i hi => .inl hi)))
  have hwf4 := wfk_create H1.out.wf dir (sN (rs.length : Int)) x
  obtain ⟨R, hR⟩ : ∃ R, createR s1 dir (sN (rs.length : Int)) x = R := ⟨_, rfl⟩
  rw [hR] at hr4 hsl4 hwf4
  try rw [hR]
  obtain ⟨E, s4⟩ := R
  obtain ⟨e4, hsl4, ho4⟩ := hsl4
  dsimp only at e4 hsl4 ho4 hr4 hwf4
  subst e4
  have HSL4 := Lib.hid hsl4
  have HO4 := Lib.hid ho4
  have HR4 := Lib.hid hr4
  have HSG4 := Lib.hid hlog4
  have HT4 := Lib.hid hT4
  have HWF4 := Lib.hid hwf4
  have hm0 : V4.cell? ⟨l, 0, none⟩ = some (.pointer (some ⟨f, 0, none⟩)) := hS.1
  have hm1 : V4.cell? ⟨l, 1, none⟩ = some (.string (txt dir)) := hS.2.1
  have hBw4 : B ≤ V4.heap.size := Nat.le_trans hBw hT4.size
  have hlw4 := hlog4.lt _ hlog4.pl
  clear hS hsl4 ho4 hr4 hlog4 hT4 hwf4 hl4 ht4 hbw3 hb3 hl0 hl1 hl5 hR hx
  go_wp2_with fail
  refine wp_mono ?_ noPanic_le
  refine held_begin 10 (fun W => W.cell? ⟨l, 0, none⟩ = some (.pointer (some ⟨f, 0, none⟩)) ∧ W.cell? ⟨l, 1, none⟩ = some (.string (txt dir))) rfl (by kernel_rfl) ?_
  have hS : V4.drew.cell? ⟨l, 0, none⟩ = some (.pointer (some ⟨f, 0, none⟩)) ∧ V4.drew.cell? ⟨l, 1, none⟩ = some (.string (txt dir)) := ⟨hm0, hm1⟩
  refine held_take (i := 0) (t := 28) (v := (.pointer (some ⟨l, 0, none⟩))) (fuel := 9) rfl rfl (by kernel_rfl) (by kernel_rfl) (by kernel_rfl) (fun _ _ _ h => h) (.inl ⟨rfl, fun W hW => by obtain ⟨w1, w2⟩ := hW; simp [execOp, Act.eval, go_sem, w1, w2]⟩) hS ?_
  simp only [List.setIfInBounds_toArray, List.set_cons_succ, List.set_cons_zero]
  refine held_take (i := 1) (t := 29) (v := (.pointer (some ⟨l, 0, none⟩))) (fuel := 8) rfl rfl (by kernel_rfl) (by kernel_rfl) (by kernel_rfl) (fun _ _ _ h => h) (.inl ⟨rfl, fun W hW => by obtain ⟨w1, w2⟩ := hW; simp [execOp, Act.eval, go_sem, w1, w2]⟩) hS ?_
  simp only [List.setIfInBounds_toArray, List.set_cons_succ, List.set_cons_zero]
  refine held_take (i := 2) (t := 30) (v := (.pointer (some ⟨l, 0, none⟩))) (fuel := 7) rfl rfl (by kernel_rfl) (by kernel_rfl) (by kernel_rfl) (fun _ _ _ h => h) (.inl ⟨rfl, fun W hW => by obtain ⟨w1, w2⟩ := hW; simp [execOp, Act.eval, go_sem, w1, w2]⟩) hS ?_
  simp only [List.setIfInBounds_toArray, List.set_cons_succ, List.set_cons_zero]
  refine held_take (i := 3) (t := 31) (v := (.pointer (some ⟨f, 0, none⟩))) (fuel := 6) rfl rfl (by kernel_rfl) (by kernel_rfl) (by kernel_rfl) (fun _ _ _ h => h) (.inl ⟨rfl, fun W hW => by obtain ⟨w1, w2⟩ := hW; simp [execOp, Act.eval, go_sem, w1, w2]⟩) hS ?_
  simp only [List.setIfInBounds_toArray, List.set_cons_succ, List.set_cons_zero]
  refine held_take (i := 4) (t := 32) (v := (.pointer (some ⟨l, 0, none⟩))) (fuel := 5) rfl rfl (by kernel_rfl) (by kernel_rfl) (by kernel_rfl) (fun _ _ _ h => h) (.inl ⟨rfl, fun W hW => by obtain ⟨w1, w2⟩ := hW; simp [execOp, Act.eval, go_sem, w1, w2]⟩) hS ?_
  simp only [List.setIfInBounds_toArray, List.set_cons_succ, List.set_cons_zero]
  refine held_take (i := 5) (t := 33) (v := (.pointer (some ⟨l, 0, none⟩))) (fuel := 4) rfl rfl (by kernel_rfl) (by kernel_rfl) (by kernel_rfl) (fun _ _ _ h => h) (.inl ⟨rfl, fun W hW => by obtain ⟨w1, w2⟩ := hW; simp [execOp, Act.eval, go_sem, w1, w2]⟩) hS ?_
  simp only [List.setIfInBounds_toArray, List.set_cons_succ, List.set_cons_zero]
  refine held_take (i := 6) (t := 34) (v := (.pointer (some ⟨l, 1, none⟩))) (fuel := 3) rfl rfl (by kernel_rfl) (by kernel_rfl) (by kernel_rfl) (fun _ _ _ h => h) (.inl ⟨rfl, fun W hW => by obtain ⟨w1, w2⟩ := hW; simp [execOp, Act.eval, go_sem, w1, w2]⟩) hS ?_
  simp only [List.setIfInBounds_toArray, List.set_cons_succ, List.set_cons_zero]
  refine held_take (i := 7) (t := 35) (v := (.string (txt dir))) (fuel := 2) rfl rfl (by kernel_rfl) (by kernel_rfl) (by kernel_rfl) (fun _ _ _ h => h) (.inl ⟨rfl, fun W hW => by obtain ⟨w1, w2⟩ := hW; simp [execOp, Act.eval, go_sem, w1, w2]⟩) hS ?_
  simp only [List.setIfInBounds_toArray, List.set_cons_succ, List.set_cons_zero]
  refine held_call (i := 8) rfl (by kernel_rfl) (by kernel_rfl) ?_
  simp [Oper.wp, execOp, Act.eval, Act.put, go_sem]
  refine (syncDir_any (HR4.out.quiet (chb (Below.refl _ V4).drew)) (HWF4.out.wf (by omega)) hBw4 dir).mono ?_
  rintro e V5 ⟨rfl, hr5, ht5⟩
  replace ht5 : Turn (fun i => Q i ∨ P i) B V4 V5 := (Turn.of (Below.refl _ V4).drew hBw4).trans ht5
  have hl5 : V5.heap[l]? = V4.heap[l]? := ht5.ch.block l hlw4 (fun hn => hn (.inr HSG4.out.pl))
  have hS : V5.cell? ⟨l, 0, none⟩ = some (.pointer (some ⟨f, 0, none⟩)) ∧ V5.cell? ⟨l, 1, none⟩ = some (.string (txt dir)) := ⟨(World.cell?_of_block (a := ⟨l, 0, none⟩) hl5).trans hm0, (World.cell?_of_block (a := ⟨l, 1, none⟩) hl5).trans hm1⟩
  refine ⟨hS, ?_⟩
  try simp only [List.setIfInBounds_toArray, List.set_cons_succ, List.set_cons_zero]
  refine held_take (i := 9) (t := 5) (v := (.int .i64 (syncDirR s4 dir).1)) (fuel := 0) rfl rfl (by kernel_rfl) (by kernel_rfl) (by kernel_rfl) (fun _ _ _ h => h) (.inl ⟨rfl, fun W hW => by obtain ⟨w1, w2⟩ := hW; simp [execOp, Act.eval, go_sem, w1, w2]⟩) hS ?_
  simp only [List.setIfInBounds_toArray, List.set_cons_succ, List.set_cons_zero]
  refine wpAnyH_done (by kernel_rfl) ?_ 0
  unfold noPanic
  have hsl5 := sl_syncDir HSL4.out
  have hlog5 := HSG4.out.kept ht5.ch (fun i hi hn => hn (.inr hi))
  have hT5 : Turn Q B w V5 := HT4.out.trans (ht5.fewer (fun i hi => .inl hi))
  have hwf5 := wfk_syncDir HWF4.out dir
  obtain ⟨R, hR⟩ : ∃ R, syncDirR s4 dir = R := ⟨_, rfl⟩
  rw [hR] at hr5 hsl5 hwf5
  try rw [hR]
  obtain ⟨E, s5⟩ := R
  obtain ⟨e5, hsl5, ho5⟩ := hsl5
  dsimp only at e5 hsl5 ho5 hr5 hwf5
  subst e5
  obtain ⟨A5, c5, p1, p2, p3⟩ := hlog5.own
  have hk3 : V5.cell? ⟨l, 3, none⟩ = some (.slice A5 fs.length c5) := p1.cell 3
  have hk5 : V5.cell? ⟨l, 5, none⟩ = some (.int .i64 (rs.length : Int)) := p1.cell 5
  have HSL5 := Lib.hid hsl5
  have HO5 := Lib.hid ho5
  have HR5 := Lib.hid hr5
  have HSG5 := Lib.hid hlog5
  have HT5 := Lib.hid hT5
  have HWF5 := Lib.hid hwf5
  have HP1 := Lib.hid p1
  have HP2 := Lib.hid p2
  have HP3 := Lib.hid p3
  have hlens := hlog5.lens
  clear hS hsl5 ho5 hr5 hlog5 hT5 hwf5 ht5 p1 p2 p3 hm0 hm1 hR
  go_wp2_with fail
  refine wp_mono ?_ noPanic_le
  refine held_begin 18 (fun W => True) rfl (by kernel_rfl) ?_
  have hS : True := trivial
  refine held_take (i := 0) (t := 40) (v := (.pointer (some ⟨l, 0, none⟩))) (fuel := 17) rfl rfl (by kernel_rfl) (by kernel_rfl) (by kernel_rfl) (fun _ _ _ h => h) (.inl ⟨rfl, fun W hW => by simp [execOp, Act.eval, go_sem]⟩) hS ?_
  simp only [List.setIfInBounds_toArray, List.set_cons_succ, List.set_cons_zero]
  refine held_take (i := 1) (t := 41) (v := (.pointer (some ⟨l, 0, none⟩))) (fuel := 16) rfl rfl (by kernel_rfl) (by kernel_rfl) (by kernel_rfl) (fun _ _ _ h => h) (.inl ⟨rfl, fun W hW => by simp [execOp, Act.eval, go_sem]⟩) hS ?_
  simp only [List.setIfInBounds_toArray, List.set_cons_succ, List.set_cons_zero]
  refine held_take (i := 2) (t := 42) (v := (.pointer (some ⟨l, 0, none⟩))) (fuel := 15) rfl rfl (by kernel_rfl) (by kernel_rfl) (by kernel_rfl) (fun _ _ _ h => h) (.inl ⟨rfl, fun W hW => by simp [execOp, Act.eval, go_sem]⟩) hS ?_
  simp only [List.setIfInBounds_toArray, List.set_cons_succ, List.set_cons_zero]
  refine held_take (i := 3) (t := 43) (v := (.pointer (some ⟨l, 0, none⟩))) (fuel := 14) rfl rfl (by kernel_rfl) (by kernel_rfl) (by kernel_rfl) (fun _ _ _ h => h) (.inl ⟨rfl, fun W hW => by simp [execOp, Act.eval, go_sem]⟩) hS ?_
  simp only [List.setIfInBounds_toArray, List.set_cons_succ, List.set_cons_zero]
  refine held_take (i := 4) (t := 44) (v := (.pointer (some ⟨l, 3, none⟩))) (fuel := 13) rfl rfl (by kernel_rfl) (by kernel_rfl) (by kernel_rfl) (fun _ _ _ h => h) (.inl ⟨rfl, fun W hW => by simp [execOp, Act.eval, go_sem]⟩) hS ?_
  simp only [List.setIfInBounds_toArray, List.set_cons_succ, List.set_cons_zero]
  refine held_take (i := 6) (t := 46) (v := (.pointer (some ⟨l, 0, none⟩))) (fuel := 12) rfl rfl (by kernel_rfl) (by kernel_rfl) (by kernel_rfl) (fun _ _ _ h => h) (.inl ⟨rfl, fun W hW => by simp [execOp, Act.eval, go_sem]⟩) hS ?_
  simp only [List.setIfInBounds_toArray, List.set_cons_succ, List.set_cons_zero]
  refine held_take (i := 7) (t := 47) (v := (.pointer (some ⟨l, 0, none⟩))) (fuel := 11) rfl rfl (by kernel_rfl) (by kernel_rfl) (by kernel_rfl) (fun _ _ _ h => h) (.inl ⟨rfl, fun W hW => by simp [execOp, Act.eval, go_sem]⟩) hS ?_
  simp only [List.setIfInBounds_toArray, List.set_cons_succ, List.set_cons_zero]
  refine held_take (i := 8) (t := 48) (v := (.pointer (some ⟨l, 5, none⟩))) (fuel := 10) rfl rfl (by kernel_rfl) (by kernel_rfl) (by kernel_rfl) (fun _ _ _ h => h) (.inl ⟨rfl, fun W hW => by simp [execOp, Act.eval, go_sem]⟩) hS ?_
  simp only [List.setIfInBounds_toArray, List.set_cons_succ, List.set_cons_zero]
  refine held_of_z (S := fun W => W.cell? ⟨l, 3, none⟩ = some (.slice A5 fs.length c5) ∧ W.cell? ⟨l, 5, none⟩ = some (.int .i64 (rs.length : Int))) (z := 14) _ _ _ _ ?_
  have hS : V5.drew.cell? ⟨l, 3, none⟩ = some (.slice A5 fs.length c5) ∧ V5.drew.cell? ⟨l, 5, none⟩ = some (.int .i64 (rs.length : Int)) := ⟨hk3, hk5⟩
  refine z_take (i := 5) (t := 45) (v := (.slice A5 fs.length c5)) (fuel := 9) rfl rfl (by kernel_rfl) (by kernel_rfl) (by kernel_rfl) (by kernel_rfl) (by decide) (by kernel_rfl) (fun _ _ _ h => h) (.inl ⟨rfl, fun W hW => by obtain ⟨w1, w2⟩ := hW; simp [execOp, Act.eval, go_sem, w1, w2]⟩) hS ?_
  simp only [List.setIfInBounds_toArray, List.set_cons_succ, List.set_cons_zero]
  refine z_take (i := 9) (t := 49) (v := (.int .i64 (rs.length : Int))) (fuel := 8) rfl rfl (by kernel_rfl) (by kernel_rfl) (by kernel_rfl) (by kernel_rfl) (by decide) (by kernel_rfl) (fun _ _ _ h => h) (.inl ⟨rfl, fun W hW => by obtain ⟨w1, w2⟩ := hW; simp [execOp, Act.eval, go_sem, w1, w2]⟩) hS ?_
  simp only [List.setIfInBounds_toArray, List.set_cons_succ, List.set_cons_zero]
  refine z_one (i := 10) rfl (by kernel_rfl) (by kernel_rfl) ?_
  simp [Oper.wp, execOp, Act.eval, Act.put, go_sem]
  have hal : Below V5.heap.size V5 (V5.drew.alloc (.cells #[.int .i64 (rs.length : Int)] 2)) := ((Below.refl _ V5).drew).alloc (Nat.le_refl _) _
  have hal2 : Below V5.heap.size V5 (V5.alloc (.cells #[.int .i64 (rs.length : Int)] 2)) := (Below.refl _ V5).alloc (Nat.le_refl _) _
  have hnew : (V5.drew.alloc (.cells #[.int .i64 (rs.length : Int)] 2)).heap[V5.heap.size]? = some (.cells [Value.int .i64 (rs.length : Int)].toArray 2 (0, 0)) := heap_alloc_new V5.drew _
  have ho6 := own_below HP2.out hal
  refine ⟨(by first | exact ⟨cell_later hal2 hk3, cell_later hal2 hk5⟩ | exact fun _ => ⟨cell_later hal2 hk3, cell_later hal2 hk5⟩ | exact fun _ _ => ⟨cell_later hal2 hk3, cell_later hal2 hk5⟩), ?_⟩
  try simp only [List.setIfInBounds_toArray, List.set_cons_succ, List.set_cons_zero]
  refine z_one (i := 11) rfl (by kernel_rfl) (by kernel_rfl) ?_
  refine app_any Tryz.underlying22 infoI64 rfl (by decide) (V5.drew.alloc (.cells #[.int .i64 (rs.length : Int)] 2)) _ _ rfl 0 (Nat.zero_le _) A5 fs.length c5 (nats fs) rfl ho6 1 [.int .i64 (rs.length : Int)] rfl (by simp [Value.oneCell']) ⟨V5.heap.size, 0, none⟩ 1 rfl (cells_of_block hnew) (by omega) (by unfold maxLen; omega) ?_
  intro A6 c6 w6 hown6 hg6 hA6
  have hl6 : Cells w6 l #[.pointer (some ⟨f, 0, none⟩), .string (txt dir), .int .i64 size, .slice A5 fs.length c5, .int .i64 ((lastL fs rs : Nat) : Int), .int .i64 (rs.length : Int), .int .i64 (rs.length : Int)] 96 := ml_away ho6 hg6 (HP1.out.ch (chb hal) (fun h => h)) (by decide)
  refine ⟨(by first | exact ⟨hl6.cell 3, hl6.cell 5⟩ | exact fun _ => ⟨hl6.cell 3, hl6.cell 5⟩ | exact fun _ _ => ⟨hl6.cell 3, hl6.cell 5⟩), ?_⟩
  try simp only [List.setIfInBounds_toArray, List.set_cons_succ, List.set_cons_zero]
  try simp only [Act.put]
  try simp only [List.setIfInBounds_toArray, List.set_cons_succ, List.set_cons_zero]
  refine z_one (i := 12) rfl (by kernel_rfl) (by kernel_rfl) ?_
  simp [Oper.wp, execOp, Act.eval, Act.put, go_sem]
  refine ⟨(by first | exact ⟨hl6.cell 3, hl6.cell 5⟩ | exact fun _ => ⟨hl6.cell 3, hl6.cell 5⟩ | exact fun _ _ => ⟨hl6.cell 3, hl6.cell 5⟩), ?_⟩
  try simp only [List.setIfInBounds_toArray, List.set_cons_succ, List.set_cons_zero]
  refine z_one (i := 13) rfl (by kernel_rfl) (by kernel_rfl) ?_
  simp [Oper.wp, execOp, Act.eval, Act.put, go_sem]
  refine ⟨(by first | exact ⟨hl6.cell 3, hl6.cell 5⟩ | exact fun _ => ⟨hl6.cell 3, hl6.cell 5⟩ | exact fun _ _ => ⟨hl6.cell 3, hl6.cell 5⟩), ?_⟩
  try simp only [List.setIfInBounds_toArray, List.set_cons_succ, List.set_cons_zero]
  have z3 : w6.cell? ⟨l, 3, none⟩ = some (.slice A5 fs.length c5) := hl6.cell 3
  have y3 := hl6.frozen 3
  refine z_one (i := 14) rfl (by kernel_rfl) (by kernel_rfl) ?_
  simp [Oper.wp, execOp, Act.eval, Act.put, go_sem, z3, y3]
  try simp only [List.setIfInBounds_toArray, List.set_cons_succ, List.set_cons_zero]
  have hl7 := hl6.set 3 (.slice A6 (fs.length + 1) c6)
  have z4 : (w6.setCell ⟨l, 3, none⟩ (.slice A6 (fs.length + 1) c6)).cell? ⟨l, 4, none⟩ = some (.int .i64 ((lastL fs rs : Nat) : Int)) := hl7.cell 4
  have y4 := hl7.frozen 4
  refine z_one (i := 15) rfl (by kernel_rfl) (by kernel_rfl) ?_
  simp [Oper.wp, execOp, Act.eval, Act.put, go_sem]
  try simp only [List.setIfInBounds_toArray, List.set_cons_succ, List.set_cons_zero]
  refine z_one (i := 16) rfl (by kernel_rfl) (by kernel_rfl) ?_
  simp [Oper.wp, execOp, Act.eval, Act.put, go_sem]
  try simp only [List.setIfInBounds_toArray, List.set_cons_succ, List.set_cons_zero]
  refine z_one (i := 17) rfl (by kernel_rfl) (by kernel_rfl) ?_
  simp [Oper.wp, execOp, Act.eval, Act.put, go_sem, z4, y4]
  try simp only [List.setIfInBounds_toArray, List.set_cons_succ, List.set_cons_zero]
  refine z_done (by kernel_rfl) ?_
  unfold noPanic
  have hBV : B ≤ V5.heap.size := Nat.le_trans hBw HT5.out.size
  obtain ⟨hn1, hn2⟩ := seg_new HSG5.out HP1.out HP2.out HP3.out hown6 hg6 hA6 (by omega) (lastL_snoc fs rs)
  obtain ⟨W', hW'⟩ : ∃ W', (w6.setCell ⟨l, 3, none⟩ (.slice A6 (fs.length + 1) c6)).setCell ⟨l, 4, none⟩ (.int .i64 0) = W' := ⟨_, rfl⟩
  rw [hW'] at hn1 hn2 ⊢
  have hQV : ∀ i, Q i → i < V5.heap.size := fun i hi => by obtain ⟨L, hL⟩ := HR5.out; exact hL.kold i (.inl hi)
  have HF := Lib.hid (show ∃ s', Sg Q B l f dir room used (cnt + 1) (M + 3) size (fs ++ [rs.length]) rs (rs.length : Int) s' W' ∧ Turn Q B w W' ∧ OnlyD dir s s' from
    ⟨s5, ⟨⟨_, hn1, HR5.out.kept_more hn2 (fun i hi => .inr (.inl hi)) (fun i hi => by
      rcases hi with h | h | h
      · exact .inl (.inl h)
      · exact .inl (.inr h)
      · exact .inr h), fun i hi => hi.elim (HP.out i) (fun h => ⟨fun hq => by have := hQV i hq; omega, by omega⟩)⟩, HSL5.out, HWF5.out, hfew, by omega⟩,
      HT5.out.trans (hn2.toTurn (fun k _ hk => ⟨(HP.out k hk).2, (HP.out k hk).1⟩) hBV), HO1.out.trans (HO4.out.trans HO5.out)⟩)
  clear hn1 hn2 hQV hW'
  go_wp2
  go_ret
  exact ⟨rfl, HF.out⟩
end
end Go.Proofs.YtkcnmajjfljilaaGreatDoor
