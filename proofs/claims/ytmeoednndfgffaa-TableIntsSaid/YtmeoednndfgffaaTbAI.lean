/- Several texts in one: TbTI, TbUI, TbVI. -/
import Derived.Test.YtmeoednndfgffaaTbM
/- Layer 17, walked: count, get, with of a tree of int. -/
namespace Go.Proofs.Ytmeoednndfgffaa
open Go Go.ChangeShapes Go.WideShapes Go.ChangeAt Go.RowKit
set_option linter.unusedVariables false
set_option linter.unusedSimpArgs false
abbrev ecI (x : Int) : Value := .int .i64 x
abbrev TrI (S : Nat → Prop) (w : World) (v : Value) (l : List (KV Int)) : Prop := TrAt 133 ecI S w v l
abbrev NdI (w : World) (b : Nat) (x : KV Int) : Prop := NdAt 133 ecI w b x
theorem countI (S : Nat → Prop) (v : Value) (l : List (KV Int)) (w : World) (h : TrI S w v l) :
    Calls Try.prog 86 #[v] w fun e w' => e = .returned (.int .i64 ((l.length : Nat) : Int)) ∧ w = w' := by
  rcases h.open_ with ⟨rfl, rfl⟩ | ⟨b, x, a, c, l1, r1, rfl, rfl, hS, hb, ha, hc⟩
  · clear h
    go_enter Try.func86, Try.ntmps86
    go_wp2
    go_ret
    exact ⟨by simp, rfl⟩
  · obtain ⟨c0, c1, c2, c3, c4⟩ := nd_cells hb
    have he : ((l1 ++ x :: r1).length : Nat) = l1.length + 1 + r1.length := by simp only [List.length_append, List.length_cons]; omega
    rw [he]
    obtain ⟨n, hn⟩ : ∃ n, l1.length + 1 + r1.length = n := ⟨_, rfl⟩
    rw [hn] at c2 ⊢
    clear h hS hb ha hc he hn c0 c1 c3 c4
    go_enter Try.func86, Try.ntmps86
    go_wp2
    go_ret
    exact ⟨by simp, rfl⟩
set_option maxHeartbeats 4000000 in
set_option maxRecDepth 40000 in
theorem withI (S : Nat → Prop) (u : World) (b : Nat) (x : KV Int) (a c : Value) (l r : List (KV Int)) (w : World) (hu : u.heap.size ≤ w.heap.size) (hx : NdI w b x) (ha : TrI (Up S u) w a l) (hc : TrI (Up S u) w c r) (hl : l.length + r.length ≤ limB) :
    Calls Try.prog 89 #[.pointer (some ⟨b, 0, none⟩), a, c] w fun e w' => ∃ v, e = .returned v ∧ TrI (Up S u) w' v (l ++ x :: r) ∧ Below w.heap.size w w' := by
  have HX := Lib.hid hx
  have HA := Lib.hid ha
  have HC := Lib.hid hc
  have HU := Lib.hid hu
  obtain ⟨pa, rfl⟩ := ha.ptr
  obtain ⟨pc, rfl⟩ := hc.ptr
  have hw1 : IntKind.i64.wrap ((l.length : Int) + 1) = (l.length : Int) + 1 := by rw [IntKind.wrap_i64] <;> (unfold limB at hl; omega)
  obtain ⟨N, hN⟩ : ∃ N, l.length + 1 + r.length = N := ⟨_, rfl⟩
  have hw2 : IntKind.i64.wrap ((l.length : Int) + 1 + (r.length : Int)) = (N : Int) := by rw [IntKind.wrap_i64] <;> (unfold limB at hl; omega)
  have HN := Lib.hid hN
  clear hx ha hc hu hl hN
  go_enter Try.func89, Try.ntmps89
  go_wp2
  have hdr := (Below.refl w.heap.size w).drew
  have hS : w.drew.cell? ⟨b, 0, none⟩ = some (.string x.k) ∧ w.drew.cell? ⟨b, 1, none⟩ = some (.int .i64 x.v) := ⟨(HX.out.on hdr).c0, (HX.out.on hdr).c1⟩
  have HA2 := Lib.hid (HA.out.on hdr)
  have HC2 := Lib.hid (HC.out.on hdr)
  have HB2 := Lib.hid hdr
  clear HA HC HX hdr
  refine held_begin 19 (fun W => W.cell? ⟨b, 0, none⟩ = some (.string x.k) ∧ W.cell? ⟨b, 1, none⟩ = some (.int .i64 x.v)) rfl (by kernel_rfl) ?_
  obtain ⟨W, hW⟩ : ∃ W, w.drew = W := ⟨_, rfl⟩
  rw [hW] at hS HA2 HC2 HB2 ⊢
  clear hW
  refine held_take (i := 0) (t := 7) (v := (.pointer (some ⟨b, 0, none⟩))) (fuel := 18) rfl rfl (by kernel_rfl) (by kernel_rfl) (by kernel_rfl) (fun _ _ _ h => h) (.inl ⟨rfl, fun W hW => by obtain ⟨s0, s1⟩ := hW; simp [execOp, Act.eval, go_sem, s0, s1, hw1, hw2]⟩) hS ?_
  simp only [List.setIfInBounds_toArray, List.set_cons_succ, List.set_cons_zero]
  refine held_take (i := 1) (t := 8) (v := (.pointer (some ⟨b, 0, none⟩))) (fuel := 17) rfl rfl (by kernel_rfl) (by kernel_rfl) (by kernel_rfl) (fun _ _ _ h => h) (.inl ⟨rfl, fun W hW => by obtain ⟨s0, s1⟩ := hW; simp [execOp, Act.eval, go_sem, s0, s1, hw1, hw2]⟩) hS ?_
  simp only [List.setIfInBounds_toArray, List.set_cons_succ, List.set_cons_zero]
  refine held_take (i := 2) (t := 9) (v := (.pointer (some ⟨b, 0, none⟩))) (fuel := 16) rfl rfl (by kernel_rfl) (by kernel_rfl) (by kernel_rfl) (fun _ _ _ h => h) (.inl ⟨rfl, fun W hW => by obtain ⟨s0, s1⟩ := hW; simp [execOp, Act.eval, go_sem, s0, s1, hw1, hw2]⟩) hS ?_
  simp only [List.setIfInBounds_toArray, List.set_cons_succ, List.set_cons_zero]
  refine held_take (i := 3) (t := 10) (v := (.string x.k)) (fuel := 15) rfl rfl (by kernel_rfl) (by kernel_rfl) (by kernel_rfl) (fun _ _ _ h => h) (.inl ⟨rfl, fun W hW => by obtain ⟨s0, s1⟩ := hW; simp [execOp, Act.eval, go_sem, s0, s1, hw1, hw2]⟩) hS ?_
  simp only [List.setIfInBounds_toArray, List.set_cons_succ, List.set_cons_zero]
  refine held_take (i := 4) (t := 11) (v := (.pointer (some ⟨b, 0, none⟩))) (fuel := 14) rfl rfl (by kernel_rfl) (by kernel_rfl) (by kernel_rfl) (fun _ _ _ h => h) (.inl ⟨rfl, fun W hW => by obtain ⟨s0, s1⟩ := hW; simp [execOp, Act.eval, go_sem, s0, s1, hw1, hw2]⟩) hS ?_
  simp only [List.setIfInBounds_toArray, List.set_cons_succ, List.set_cons_zero]
  refine held_take (i := 5) (t := 12) (v := (.pointer (some ⟨b, 0, none⟩))) (fuel := 13) rfl rfl (by kernel_rfl) (by kernel_rfl) (by kernel_rfl) (fun _ _ _ h => h) (.inl ⟨rfl, fun W hW => by obtain ⟨s0, s1⟩ := hW; simp [execOp, Act.eval, go_sem, s0, s1, hw1, hw2]⟩) hS ?_
  simp only [List.setIfInBounds_toArray, List.set_cons_succ, List.set_cons_zero]
  refine held_take (i := 6) (t := 13) (v := (.pointer (some ⟨b, 1, none⟩))) (fuel := 12) rfl rfl (by kernel_rfl) (by kernel_rfl) (by kernel_rfl) (fun _ _ _ h => h) (.inl ⟨rfl, fun W hW => by obtain ⟨s0, s1⟩ := hW; simp [execOp, Act.eval, go_sem, s0, s1, hw1, hw2]⟩) hS ?_
  simp only [List.setIfInBounds_toArray, List.set_cons_succ, List.set_cons_zero]
  refine held_take (i := 7) (t := 14) (v := (.int .i64 x.v)) (fuel := 11) rfl rfl (by kernel_rfl) (by kernel_rfl) (by kernel_rfl) (fun _ _ _ h => h) (.inl ⟨rfl, fun W hW => by obtain ⟨s0, s1⟩ := hW; simp [execOp, Act.eval, go_sem, s0, s1, hw1, hw2]⟩) hS ?_
  simp only [List.setIfInBounds_toArray, List.set_cons_succ, List.set_cons_zero]
  refine held_take (i := 8) (t := 15) (v := (.pointer pa)) (fuel := 10) rfl rfl (by kernel_rfl) (by kernel_rfl) (by kernel_rfl) (fun _ _ _ h => h) (.inl ⟨rfl, fun W hW => by obtain ⟨s0, s1⟩ := hW; simp [execOp, Act.eval, go_sem, s0, s1, hw1, hw2]⟩) hS ?_
  simp only [List.setIfInBounds_toArray, List.set_cons_succ, List.set_cons_zero]
  refine held_take (i := 11) (t := 18) (v := (.pointer pc)) (fuel := 9) rfl rfl (by kernel_rfl) (by kernel_rfl) (by kernel_rfl) (fun _ _ _ h => h) (.inl ⟨rfl, fun W hW => by obtain ⟨s0, s1⟩ := hW; simp [execOp, Act.eval, go_sem, s0, s1, hw1, hw2]⟩) hS ?_
  simp only [List.setIfInBounds_toArray, List.set_cons_succ, List.set_cons_zero]
  refine held_take (i := 14) (t := 21) (v := (.pointer pa)) (fuel := 8) rfl rfl (by kernel_rfl) (by kernel_rfl) (by kernel_rfl) (fun _ _ _ h => h) (.inl ⟨rfl, fun W hW => by obtain ⟨s0, s1⟩ := hW; simp [execOp, Act.eval, go_sem, s0, s1, hw1, hw2]⟩) hS ?_
  simp only [List.setIfInBounds_toArray, List.set_cons_succ, List.set_cons_zero]
  refine held_take (i := 15) (t := 22) (v := (.pointer pc)) (fuel := 7) rfl rfl (by kernel_rfl) (by kernel_rfl) (by kernel_rfl) (fun _ _ _ h => h) (.inl ⟨rfl, fun W hW => by obtain ⟨s0, s1⟩ := hW; simp [execOp, Act.eval, go_sem, s0, s1, hw1, hw2]⟩) hS ?_
  simp only [List.setIfInBounds_toArray, List.set_cons_succ, List.set_cons_zero]
  refine held_call (i := 9) rfl (by kernel_rfl) (by kernel_rfl) ?_
  simp [Oper.wp, execOp, Act.eval, Act.put, go_sem]
  refine (countI _ _ _ _ HA2.out).mono ?_
  rintro e w2 ⟨rfl, rfl⟩
  refine ⟨hS, ?_⟩
  try simp only [List.setIfInBounds_toArray, List.set_cons_succ, List.set_cons_zero]
  refine held_take (i := 10) (t := 17) (v := (.int .i64 ((l.length : Int) + 1))) (fuel := 5) rfl rfl (by kernel_rfl) (by kernel_rfl) (by kernel_rfl) (fun _ _ _ h => h) (.inl ⟨rfl, fun W hW => by obtain ⟨s0, s1⟩ := hW; simp [execOp, Act.eval, go_sem, s0, s1, hw1, hw2]⟩) hS ?_
  simp only [List.setIfInBounds_toArray, List.set_cons_succ, List.set_cons_zero]
  refine held_call (i := 12) rfl (by kernel_rfl) (by kernel_rfl) ?_
  simp [Oper.wp, execOp, Act.eval, Act.put, go_sem]
  refine (countI _ _ _ _ HC2.out).mono ?_
  rintro e w2 ⟨rfl, rfl⟩
  refine ⟨hS, ?_⟩
  try simp only [List.setIfInBounds_toArray, List.set_cons_succ, List.set_cons_zero]
  refine held_take (i := 13) (t := 20) (v := (.int .i64 (N : Int))) (fuel := 3) rfl rfl (by kernel_rfl) (by kernel_rfl) (by kernel_rfl) (fun _ _ _ h => h) (.inl ⟨rfl, fun W hW => by obtain ⟨s0, s1⟩ := hW; simp [execOp, Act.eval, go_sem, s0, s1, hw1, hw2]⟩) hS ?_
  simp only [List.setIfInBounds_toArray, List.set_cons_succ, List.set_cons_zero]
  refine held_take (i := 16) (t := 23) (v := (.agg #[.string x.k, .int .i64 x.v, .int .i64 (N : Int), .pointer pa, .pointer pc])) (fuel := 2) rfl rfl (by kernel_rfl) (by kernel_rfl) (by kernel_rfl) (fun _ _ _ h => h) (.inl ⟨rfl, fun W hW => by obtain ⟨s0, s1⟩ := hW; simp [execOp, Act.eval, go_sem, s0, s1, hw1, hw2]⟩) hS ?_
  simp only [List.setIfInBounds_toArray, List.set_cons_succ, List.set_cons_zero]
  refine held_call (i := 17) rfl (by kernel_rfl) (by kernel_rfl) ?_
  simp [Oper.wp, execOp, Act.eval, Act.put, go_sem]
  have hM := TrAt.made (x := x) HA2.out HC2.out (Nat.le_trans HU.out HB2.out.size)
  rw [HN.out] at hM
  have hb3 := (Below.refl W.heap.size W).alloc (Nat.le_refl _) (.cells #[.string x.k, .int .i64 x.v, .int .i64 (N : Int), .pointer pa, .pointer pc] 133)
  obtain ⟨W3, hW3⟩ : ∃ W3, W.alloc (.cells #[.string x.k, .int .i64 x.v, .int .i64 (N : Int), .pointer pa, .pointer pc] 133) = W3 := ⟨_, rfl⟩
  have hM3 : TrI (Up S u) W3 (.pointer (some ⟨W.heap.size, 0, none⟩)) (l ++ x :: r) := by rw [← hW3]; exact hM
  rw [hW3] at hb3 ⊢
  have HM := Lib.hid hM3
  have HB3 := Lib.hid (HB2.out.trans (hb3.mono HB2.out.size))
  have h0 := hb3.cell (p := ⟨b, 0, none⟩) (cell_lt hS.1)
  have h1 := hb3.cell (p := ⟨b, 1, none⟩) (cell_lt hS.2)
  replace hS := And.intro (h0.trans hS.1) (h1.trans hS.2)
  refine ⟨hS, ?_⟩
  clear hM hM3 hW3 hb3 h0 h1
  try simp only [List.setIfInBounds_toArray, List.set_cons_succ, List.set_cons_zero]
  refine held_take (i := 18) (t := 6) (v := (.pointer (some ⟨W.heap.size, 0, none⟩))) (fuel := 0) rfl rfl (by kernel_rfl) (by kernel_rfl) (by kernel_rfl) (fun _ _ _ h => h) (.inl ⟨rfl, fun W hW => by obtain ⟨s0, s1⟩ := hW; simp [execOp, Act.eval, go_sem, s0, s1, hw1, hw2]⟩) hS ?_
  simp only [List.setIfInBounds_toArray, List.set_cons_succ, List.set_cons_zero]
  refine wpAnyH_done (by kernel_rfl) ?_ 0
  go_wp2
  go_ret
  exact ⟨_, rfl, HM.out, HB3.out⟩
end Go.Proofs.Ytmeoednndfgffaa

/- Layer 17, walked: a tree of int made even again; put. -/
namespace Go.Proofs.Ytmeoednndfgffaa
open Go Go.ChangeShapes Go.WideShapes Go.ChangeAt Go.RowKit
set_option linter.unusedVariables false
set_option linter.unusedSimpArgs false
/-- What a node made anew is: a tree of l, new. -/
def TrOutI (S : Nat → Prop) (u w : World) (l : List (KV Int)) (e : Ending) (w' : World) : Prop := ∃ v, e = .returned v ∧ TrI (Up S u) w' v l ∧ Below w.heap.size w w'
set_option maxHeartbeats 4000000 in
set_option maxRecDepth 40000 in
theorem turnAI (S : Nat → Prop) (u : World) (b : Nat) (x : KV Int) (a c : Value) (l r : List (KV Int)) (w : World) (hu : u.heap.size ≤ w.heap.size) (hx : NdI w b x) (ha : TrI (Up S u) w a l) (hc : TrI (Up S u) w c r) (hl : l.length + r.length ≤ limB) (h2 : 2 ≤ r.length) :
    Calls Try.prog 90 #[.pointer (some ⟨b, 0, none⟩), a, c] w (TrOutI S u w (l ++ x :: r)) := by
  obtain ⟨b2, y, a2, c2, r1, r2, rfl, rfl, hS2, hb2, ha2, hc2⟩ := hc.some_ (by intro e; subst e; exact absurd h2 (by decide))
  obtain ⟨pa, rfl⟩ := ha.ptr
  obtain ⟨pi, rfl⟩ := ha2.ptr
  obtain ⟨po, rfl⟩ := hc2.ptr
  obtain ⟨_, _, _, c3, c4⟩ := nd_cells hb2
  have hlen : (r1 ++ y :: r2).length = r1.length + 1 + r2.length := by simp only [List.length_append, List.length_cons]; omega
  have hdr := (Below.refl w.heap.size w).drew
  have HX := Lib.hid (hx.on hdr)
  have HY := Lib.hid (NdAt.on (show NdI w b2 y from ⟨_, _, _, hb2⟩) hdr)
  have HA := Lib.hid (ha.on hdr)
  have HI := Lib.hid (ha2.on hdr)
  have HO := Lib.hid (hc2.on hdr)
  have HU := Lib.hid (show u.heap.size ≤ w.drew.heap.size from hu)
  have HB := Lib.hid hdr
  have HL := Lib.hid (show l.length + (r1.length + 1 + r2.length) ≤ limB by rw [← hlen]; exact hl)
  have HLI := Lib.hid (show 2 ≤ r1.length + 1 + r2.length by rw [← hlen]; exact h2)
  have hw1 : 2 * r2.length ≤ 9223372036854775807 := by have := HL.out; unfold limB at this; omega
  have hS : w.drew.cell? ⟨b2, 3, none⟩ = some (.pointer pi) ∧ w.drew.cell? ⟨b2, 4, none⟩ = some (.pointer po) := ⟨c3, c4⟩
  clear hu hx ha hc hl h2 hS2 hb2 ha2 hc2 hlen c3 c4 hdr
  go_enter Try.func90, Try.ntmps90
  go_wp2
  refine held_begin 10 (fun W => W.cell? ⟨b2, 3, none⟩ = some (.pointer pi) ∧ W.cell? ⟨b2, 4, none⟩ = some (.pointer po)) rfl (by kernel_rfl) ?_
  obtain ⟨W, hW⟩ : ∃ W, w.drew = W := ⟨_, rfl⟩
  rw [hW] at hS HX HY HA HI HO HU HB ⊢
  clear hW
  refine held_take (i := 0) (t := 9) (v := (.pointer (some ⟨b2, 0, none⟩))) (fuel := 9) rfl rfl (by kernel_rfl) (by kernel_rfl) (by kernel_rfl) (fun _ _ _ h => h) (.inl ⟨rfl, fun W hW => by obtain ⟨s0, s1⟩ := hW; simp [execOp, Act.eval, go_sem, s0, s1]⟩) hS ?_
  simp only [List.setIfInBounds_toArray, List.set_cons_succ, List.set_cons_zero]
  refine held_take (i := 1) (t := 10) (v := (.pointer (some ⟨b2, 0, none⟩))) (fuel := 8) rfl rfl (by kernel_rfl) (by kernel_rfl) (by kernel_rfl) (fun _ _ _ h => h) (.inl ⟨rfl, fun W hW => by obtain ⟨s0, s1⟩ := hW; simp [execOp, Act.eval, go_sem, s0, s1]⟩) hS ?_
  simp only [List.setIfInBounds_toArray, List.set_cons_succ, List.set_cons_zero]
  refine held_take (i := 2) (t := 11) (v := (.pointer (some ⟨b2, 3, none⟩))) (fuel := 7) rfl rfl (by kernel_rfl) (by kernel_rfl) (by kernel_rfl) (fun _ _ _ h => h) (.inl ⟨rfl, fun W hW => by obtain ⟨s0, s1⟩ := hW; simp [execOp, Act.eval, go_sem, s0, s1]⟩) hS ?_
  simp only [List.setIfInBounds_toArray, List.set_cons_succ, List.set_cons_zero]
  refine held_take (i := 3) (t := 12) (v := (.pointer pi)) (fuel := 6) rfl rfl (by kernel_rfl) (by kernel_rfl) (by kernel_rfl) (fun _ _ _ h => h) (.inl ⟨rfl, fun W hW => by obtain ⟨s0, s1⟩ := hW; simp [execOp, Act.eval, go_sem, s0, s1]⟩) hS ?_
  simp only [List.setIfInBounds_toArray, List.set_cons_succ, List.set_cons_zero]
  refine held_take (i := 4) (t := 13) (v := (.pointer (some ⟨b2, 0, none⟩))) (fuel := 5) rfl rfl (by kernel_rfl) (by kernel_rfl) (by kernel_rfl) (fun _ _ _ h => h) (.inl ⟨rfl, fun W hW => by obtain ⟨s0, s1⟩ := hW; simp [execOp, Act.eval, go_sem, s0, s1]⟩) hS ?_
  simp only [List.setIfInBounds_toArray, List.set_cons_succ, List.set_cons_zero]
  refine held_take (i := 5) (t := 14) (v := (.pointer (some ⟨b2, 0, none⟩))) (fuel := 4) rfl rfl (by kernel_rfl) (by kernel_rfl) (by kernel_rfl) (fun _ _ _ h => h) (.inl ⟨rfl, fun W hW => by obtain ⟨s0, s1⟩ := hW; simp [execOp, Act.eval, go_sem, s0, s1]⟩) hS ?_
  simp only [List.setIfInBounds_toArray, List.set_cons_succ, List.set_cons_zero]
  refine held_take (i := 6) (t := 15) (v := (.pointer (some ⟨b2, 4, none⟩))) (fuel := 3) rfl rfl (by kernel_rfl) (by kernel_rfl) (by kernel_rfl) (fun _ _ _ h => h) (.inl ⟨rfl, fun W hW => by obtain ⟨s0, s1⟩ := hW; simp [execOp, Act.eval, go_sem, s0, s1]⟩) hS ?_
  simp only [List.setIfInBounds_toArray, List.set_cons_succ, List.set_cons_zero]
  refine held_take (i := 7) (t := 16) (v := (.pointer po)) (fuel := 2) rfl rfl (by kernel_rfl) (by kernel_rfl) (by kernel_rfl) (fun _ _ _ h => h) (.inl ⟨rfl, fun W hW => by obtain ⟨s0, s1⟩ := hW; simp [execOp, Act.eval, go_sem, s0, s1]⟩) hS ?_
  simp only [List.setIfInBounds_toArray, List.set_cons_succ, List.set_cons_zero]
  refine held_take (i := 8) (t := 7) (v := (.pointer pi)) (fuel := 1) rfl rfl (by kernel_rfl) (by kernel_rfl) (by kernel_rfl) (fun _ _ _ h => h) (.inl ⟨rfl, fun W hW => by obtain ⟨s0, s1⟩ := hW; simp [execOp, Act.eval, go_sem, s0, s1]⟩) hS ?_
  simp only [List.setIfInBounds_toArray, List.set_cons_succ, List.set_cons_zero]
  refine held_take (i := 9) (t := 8) (v := (.pointer po)) (fuel := 0) rfl rfl (by kernel_rfl) (by kernel_rfl) (by kernel_rfl) (fun _ _ _ h => h) (.inl ⟨rfl, fun W hW => by obtain ⟨s0, s1⟩ := hW; simp [execOp, Act.eval, go_sem, s0, s1]⟩) hS ?_
  simp only [List.setIfInBounds_toArray, List.set_cons_succ, List.set_cons_zero]
  refine wpAnyH_done (by kernel_rfl) ?_ 0
  clear hS
  by_cases hq : r1.length < 2 * r2.length
  · have HN1 := Lib.hid (show l.length + r1.length ≤ limB by have := HL.out; omega)
    have HN2 := Lib.hid (show (l ++ x :: r1).length + r2.length ≤ limB by simp only [List.length_append, List.length_cons]; have := HL.out; omega)
    go_wp2_with (first
      | (have HSEC := HCNT; go_at_call 86; clear HSEC; go_loud (refine (countI _ _ _ _ HO.out).mono ?_; rintro en w2 ⟨rfl, rfl⟩))
      | (go_at_call 86; go_loud (refine (countI _ _ _ _ HI.out).mono ?_; rintro en w2 ⟨rfl, rfl⟩; have HCNT := Lib.hid True.intro))
      | (have HSEC := HV1; go_at_call 89; clear HSEC; go_loud (refine (withI S u b2 y _ _ (l ++ x :: r1) r2 _ (Nat.le_trans HU.out HV1.out.2.size) (HY.out.on HV1.out.2) HV1.out.1 (HO.out.on HV1.out.2) HN2.out).mono ?_; rintro en w4 ⟨v2, rfl, ht2, hb2⟩; obtain ⟨p2, rfl⟩ := ht2.ptr; have HV2 := Lib.hid (And.intro ht2 (HB.out.trans ((HV1.out.2.trans (hb2.mono HV1.out.2.size)).mono HB.out.size))); clear ht2 hb2))
      | (go_at_call 89; go_loud (refine (withI S u b x _ _ l r1 _ HU.out HX.out HA.out HI.out HN1.out).mono ?_; rintro en w3 ⟨v1, rfl, ht1, hb1⟩; obtain ⟨p1, rfl⟩ := ht1.ptr; have HV1 := Lib.hid (And.intro ht1 hb1); clear ht1 hb1)))
    go_ret
    exact ⟨_, rfl, by have h := HV2.out.1; rwa [List.append_assoc, List.cons_append] at h, HV2.out.2⟩
  · obtain ⟨b3, z, a3, c3, i1, i2, hpi, rfl, hS3, hb3, ha3, hc3⟩ := HI.out.some_ (by intro e; subst e; have := HLI.out; simp only [List.length_nil] at hq this; omega)
    injection hpi with hpi
    subst hpi
    obtain ⟨q1, rfl⟩ := ha3.ptr
    obtain ⟨q2, rfl⟩ := hc3.ptr
    obtain ⟨_, _, _, d3, d4⟩ := nd_cells hb3
    have hlz : (i1 ++ z :: i2).length = i1.length + 1 + i2.length := by simp only [List.length_append, List.length_cons]; omega
    have HLZ := Lib.hid hlz
    have HZ := Lib.hid (show NdI W b3 z from ⟨_, _, _, hb3⟩)
    have HI1 := Lib.hid ha3
    have HI2 := Lib.hid hc3
    clear hS3 hb3 ha3 hc3
    have HN1 := Lib.hid (show l.length + i1.length ≤ limB by have := HL.out; have := HLZ.out; omega)
    have HN2 := Lib.hid (show i2.length + r2.length ≤ limB by have := HL.out; have := HLZ.out; omega)
    have HN3 := Lib.hid (show (l ++ x :: i1).length + (i2 ++ y :: r2).length ≤ limB by simp only [List.length_append, List.length_cons]; have := HL.out; have := HLZ.out; omega)
    obtain ⟨m1, hm1⟩ : ∃ m1, i1 ++ z :: i2 = m1 := ⟨_, rfl⟩
    rw [hm1] at hq hlz HI HL HLI HLZ
    have HM1 := Lib.hid hm1
    clear hm1 hlz
    go_wp2_with (first
      | (have HSEC := HCNT; go_at_call 86; clear HSEC; go_loud (refine (countI _ _ _ _ HO.out).mono ?_; rintro en w2 ⟨rfl, rfl⟩))
      | (go_at_call 86; go_loud (refine (countI _ _ _ _ HI.out).mono ?_; rintro en w2 ⟨rfl, rfl⟩; have HCNT := Lib.hid True.intro)))
    obtain ⟨W0, hW0⟩ : ∃ W0, W = W0 := ⟨_, rfl⟩
    rw [hW0] at d3 d4 HX HY HA HI1 HI2 HO HU HB HZ ⊢
    have hdr := (Below.refl W0.heap.size W0).drew
    have hS : (W0.drew.cell? ⟨b3, 3, none⟩ = some (.pointer q1) ∧ W0.drew.cell? ⟨b3, 4, none⟩ = some (.pointer q2)) ∧ Below W0.heap.size W0 W0.drew := ⟨⟨d3, d4⟩, hdr⟩
    clear hdr hW0 d3 d4 hq hw1
    refine held_begin 17 (fun W => (W.cell? ⟨b3, 3, none⟩ = some (.pointer q1) ∧ W.cell? ⟨b3, 4, none⟩ = some (.pointer q2)) ∧ Below W0.heap.size W0 W) rfl (by kernel_rfl) ?_
    obtain ⟨W2, hW⟩ : ∃ W2, W0.drew = W2 := ⟨_, rfl⟩
    rw [hW] at hS ⊢
    clear hW
    have HB2 := Lib.hid hS.2
    refine held_take (i := 0) (t := 30) (v := (.pointer (some ⟨b3, 0, none⟩))) (fuel := 16) rfl rfl (by kernel_rfl) (by kernel_rfl) (by kernel_rfl) (fun _ _ _ h => h) (.inl ⟨rfl, fun W hW => by obtain ⟨s0, s1⟩ := hW; simp [execOp, Act.eval, go_sem, s0, s1]⟩) hS ?_
    simp only [List.setIfInBounds_toArray, List.set_cons_succ, List.set_cons_zero]
    refine held_take (i := 1) (t := 31) (v := (.pointer (some ⟨b, 0, none⟩))) (fuel := 15) rfl rfl (by kernel_rfl) (by kernel_rfl) (by kernel_rfl) (fun _ _ _ h => h) (.inl ⟨rfl, fun W hW => by obtain ⟨s0, s1⟩ := hW; simp [execOp, Act.eval, go_sem, s0, s1]⟩) hS ?_
    simp only [List.setIfInBounds_toArray, List.set_cons_succ, List.set_cons_zero]
    refine held_take (i := 2) (t := 32) (v := (.pointer pa)) (fuel := 14) rfl rfl (by kernel_rfl) (by kernel_rfl) (by kernel_rfl) (fun _ _ _ h => h) (.inl ⟨rfl, fun W hW => by obtain ⟨s0, s1⟩ := hW; simp [execOp, Act.eval, go_sem, s0, s1]⟩) hS ?_
    simp only [List.setIfInBounds_toArray, List.set_cons_succ, List.set_cons_zero]
    refine held_take (i := 3) (t := 33) (v := (.pointer (some ⟨b3, 0, none⟩))) (fuel := 13) rfl rfl (by kernel_rfl) (by kernel_rfl) (by kernel_rfl) (fun _ _ _ h => h) (.inl ⟨rfl, fun W hW => by obtain ⟨s0, s1⟩ := hW; simp [execOp, Act.eval, go_sem, s0, s1]⟩) hS ?_
    simp only [List.setIfInBounds_toArray, List.set_cons_succ, List.set_cons_zero]
    refine held_take (i := 4) (t := 34) (v := (.pointer (some ⟨b3, 0, none⟩))) (fuel := 12) rfl rfl (by kernel_rfl) (by kernel_rfl) (by kernel_rfl) (fun _ _ _ h => h) (.inl ⟨rfl, fun W hW => by obtain ⟨s0, s1⟩ := hW; simp [execOp, Act.eval, go_sem, s0, s1]⟩) hS ?_
    simp only [List.setIfInBounds_toArray, List.set_cons_succ, List.set_cons_zero]
    refine held_take (i := 5) (t := 35) (v := (.pointer (some ⟨b3, 3, none⟩))) (fuel := 11) rfl rfl (by kernel_rfl) (by kernel_rfl) (by kernel_rfl) (fun _ _ _ h => h) (.inl ⟨rfl, fun W hW => by obtain ⟨s0, s1⟩ := hW; simp [execOp, Act.eval, go_sem, s0, s1]⟩) hS ?_
    simp only [List.setIfInBounds_toArray, List.set_cons_succ, List.set_cons_zero]
    refine held_take (i := 6) (t := 36) (v := (.pointer q1)) (fuel := 10) rfl rfl (by kernel_rfl) (by kernel_rfl) (by kernel_rfl) (fun _ _ _ h => h) (.inl ⟨rfl, fun W hW => by obtain ⟨s0, s1⟩ := hW; simp [execOp, Act.eval, go_sem, s0, s1]⟩) hS ?_
    simp only [List.setIfInBounds_toArray, List.set_cons_succ, List.set_cons_zero]
    refine held_take (i := 8) (t := 38) (v := (.pointer (some ⟨b2, 0, none⟩))) (fuel := 9) rfl rfl (by kernel_rfl) (by kernel_rfl) (by kernel_rfl) (fun _ _ _ h => h) (.inl ⟨rfl, fun W hW => by obtain ⟨s0, s1⟩ := hW; simp [execOp, Act.eval, go_sem, s0, s1]⟩) hS ?_
    simp only [List.setIfInBounds_toArray, List.set_cons_succ, List.set_cons_zero]
    refine held_take (i := 9) (t := 39) (v := (.pointer (some ⟨b3, 0, none⟩))) (fuel := 8) rfl rfl (by kernel_rfl) (by kernel_rfl) (by kernel_rfl) (fun _ _ _ h => h) (.inl ⟨rfl, fun W hW => by obtain ⟨s0, s1⟩ := hW; simp [execOp, Act.eval, go_sem, s0, s1]⟩) hS ?_
    simp only [List.setIfInBounds_toArray, List.set_cons_succ, List.set_cons_zero]
    refine held_take (i := 10) (t := 40) (v := (.pointer (some ⟨b3, 0, none⟩))) (fuel := 7) rfl rfl (by kernel_rfl) (by kernel_rfl) (by kernel_rfl) (fun _ _ _ h => h) (.inl ⟨rfl, fun W hW => by obtain ⟨s0, s1⟩ := hW; simp [execOp, Act.eval, go_sem, s0, s1]⟩) hS ?_
    simp only [List.setIfInBounds_toArray, List.set_cons_succ, List.set_cons_zero]
    refine held_take (i := 11) (t := 41) (v := (.pointer (some ⟨b3, 4, none⟩))) (fuel := 6) rfl rfl (by kernel_rfl) (by kernel_rfl) (by kernel_rfl) (fun _ _ _ h => h) (.inl ⟨rfl, fun W hW => by obtain ⟨s0, s1⟩ := hW; simp [execOp, Act.eval, go_sem, s0, s1]⟩) hS ?_
    simp only [List.setIfInBounds_toArray, List.set_cons_succ, List.set_cons_zero]
    refine held_take (i := 12) (t := 42) (v := (.pointer q2)) (fuel := 5) rfl rfl (by kernel_rfl) (by kernel_rfl) (by kernel_rfl) (fun _ _ _ h => h) (.inl ⟨rfl, fun W hW => by obtain ⟨s0, s1⟩ := hW; simp [execOp, Act.eval, go_sem, s0, s1]⟩) hS ?_
    simp only [List.setIfInBounds_toArray, List.set_cons_succ, List.set_cons_zero]
    refine held_take (i := 13) (t := 43) (v := (.pointer po)) (fuel := 4) rfl rfl (by kernel_rfl) (by kernel_rfl) (by kernel_rfl) (fun _ _ _ h => h) (.inl ⟨rfl, fun W hW => by obtain ⟨s0, s1⟩ := hW; simp [execOp, Act.eval, go_sem, s0, s1]⟩) hS ?_
    simp only [List.setIfInBounds_toArray, List.set_cons_succ, List.set_cons_zero]
    refine held_call (i := 7) rfl (by kernel_rfl) (by kernel_rfl) ?_
    simp [Oper.wp, execOp, Act.eval, Act.put, go_sem]
    refine (withI S u b x _ _ l i1 _ (Nat.le_trans HU.out hS.2.size) (HX.out.on hS.2) (HA.out.on hS.2) (HI1.out.on hS.2) HN1.out).mono ?_
    rintro e W3 ⟨v, rfl, ht, hb⟩
    obtain ⟨p1, rfl⟩ := ht.ptr
    have Hp1 := Lib.hid (And.intro ht (hS.2.trans (hb.mono hS.2.size)))
    replace hS := And.intro (And.intro ((hb.cell (p := ⟨b3, 3, none⟩) (cell_lt hS.1.1)).trans hS.1.1) ((hb.cell (p := ⟨b3, 4, none⟩) (cell_lt hS.1.2)).trans hS.1.2)) (hS.2.trans (hb.mono hS.2.size))
    have HBW3 := Lib.hid hb
    clear ht hb
    refine ⟨hS, ?_⟩
    try simp only [List.setIfInBounds_toArray, List.set_cons_succ, List.set_cons_zero]
    refine held_call (i := 14) rfl (by kernel_rfl) (by kernel_rfl) ?_
    simp [Oper.wp, execOp, Act.eval, Act.put, go_sem]
    refine (withI S u b2 y _ _ i2 r2 _ (Nat.le_trans HU.out hS.2.size) (HY.out.on hS.2) (HI2.out.on hS.2) (HO.out.on hS.2) HN2.out).mono ?_
    rintro e W4 ⟨v, rfl, ht, hb⟩
    obtain ⟨p2, rfl⟩ := ht.ptr
    have Hp2 := Lib.hid (And.intro ht (hS.2.trans (hb.mono hS.2.size)))
    replace hS := And.intro (And.intro ((hb.cell (p := ⟨b3, 3, none⟩) (cell_lt hS.1.1)).trans hS.1.1) ((hb.cell (p := ⟨b3, 4, none⟩) (cell_lt hS.1.2)).trans hS.1.2)) (hS.2.trans (hb.mono hS.2.size))
    have HBW4 := Lib.hid hb
    clear ht hb
    refine ⟨hS, ?_⟩
    try simp only [List.setIfInBounds_toArray, List.set_cons_succ, List.set_cons_zero]
    refine held_call (i := 15) rfl (by kernel_rfl) (by kernel_rfl) ?_
    simp [Oper.wp, execOp, Act.eval, Act.put, go_sem]
    refine (withI S u b3 z _ _ (l ++ x :: i1) (i2 ++ y :: r2) _ (Nat.le_trans HU.out hS.2.size) (HZ.out.on hS.2) (Hp1.out.1.on HBW4.out) Hp2.out.1 HN3.out).mono ?_
    rintro e W5 ⟨v, rfl, ht, hb⟩
    obtain ⟨p3, rfl⟩ := ht.ptr
    have Hp3 := Lib.hid (And.intro ht (hS.2.trans (hb.mono hS.2.size)))
    replace hS := And.intro (And.intro ((hb.cell (p := ⟨b3, 3, none⟩) (cell_lt hS.1.1)).trans hS.1.1) ((hb.cell (p := ⟨b3, 4, none⟩) (cell_lt hS.1.2)).trans hS.1.2)) (hS.2.trans (hb.mono hS.2.size))
    have HBW5 := Lib.hid hb
    clear ht hb
    refine ⟨hS, ?_⟩
    try simp only [List.setIfInBounds_toArray, List.set_cons_succ, List.set_cons_zero]
    refine held_take (i := 16) (t := 6) (v := (.pointer p3)) (fuel := 0) rfl rfl (by kernel_rfl) (by kernel_rfl) (by kernel_rfl) (fun _ _ _ h => h) (.inl ⟨rfl, fun W hW => by obtain ⟨s0, s1⟩ := hW; simp [execOp, Act.eval, go_sem, s0, s1]⟩) hS ?_
    simp only [List.setIfInBounds_toArray, List.set_cons_succ, List.set_cons_zero]
    refine wpAnyH_done (by kernel_rfl) ?_ 0
    go_wp2
    go_ret
    exact ⟨_, rfl, by have h := Hp3.out.1; simpa using h, HB.out.trans (Hp3.out.2.mono HB.out.size)⟩
set_option maxHeartbeats 4000000 in
set_option maxRecDepth 40000 in
theorem turnBI (S : Nat → Prop) (u : World) (b : Nat) (x : KV Int) (a c : Value) (l r : List (KV Int)) (w : World) (hu : u.heap.size ≤ w.heap.size) (hx : NdI w b x) (ha : TrI (Up S u) w a l) (hc : TrI (Up S u) w c r) (hl : l.length + r.length ≤ limB) (h2 : 2 ≤ l.length) :
    Calls Try.prog 91 #[.pointer (some ⟨b, 0, none⟩), a, c] w (TrOutI S u w (l ++ x :: r)) := by
  obtain ⟨b2, y, a2, c2, r1, r2, rfl, rfl, hS2, hb2, ha2, hc2⟩ := ha.some_ (by intro e; subst e; exact absurd h2 (by decide))
  obtain ⟨pc, rfl⟩ := hc.ptr
  obtain ⟨po, rfl⟩ := ha2.ptr
  obtain ⟨pi, rfl⟩ := hc2.ptr
  obtain ⟨_, _, _, c3, c4⟩ := nd_cells hb2
  have hlen : (r1 ++ y :: r2).length = r1.length + 1 + r2.length := by simp only [List.length_append, List.length_cons]; omega
  have hdr := (Below.refl w.heap.size w).drew
  have HX := Lib.hid (hx.on hdr)
  have HY := Lib.hid (NdAt.on (show NdI w b2 y from ⟨_, _, _, hb2⟩) hdr)
  have HC := Lib.hid (hc.on hdr)
  have HO := Lib.hid (ha2.on hdr)
  have HI := Lib.hid (hc2.on hdr)
  have HU := Lib.hid (show u.heap.size ≤ w.drew.heap.size from hu)
  have HB := Lib.hid hdr
  have HL := Lib.hid (show (r1.length + 1 + r2.length) + r.length ≤ limB by rw [← hlen]; exact hl)
  have HLI := Lib.hid (show 2 ≤ r1.length + 1 + r2.length by rw [← hlen]; exact h2)
  have hw1 : 2 * r1.length ≤ 9223372036854775807 := by have := HL.out; unfold limB at this; omega
  have hS : w.drew.cell? ⟨b2, 3, none⟩ = some (.pointer po) ∧ w.drew.cell? ⟨b2, 4, none⟩ = some (.pointer pi) := ⟨c3, c4⟩
  clear hu hx ha hc hl h2 hS2 hb2 ha2 hc2 hlen c3 c4 hdr
  go_enter Try.func91, Try.ntmps91
  go_wp2
  refine held_begin 10 (fun W => W.cell? ⟨b2, 3, none⟩ = some (.pointer po) ∧ W.cell? ⟨b2, 4, none⟩ = some (.pointer pi)) rfl (by kernel_rfl) ?_
  obtain ⟨W, hW⟩ : ∃ W, w.drew = W := ⟨_, rfl⟩
  rw [hW] at hS HX HY HC HI HO HU HB ⊢
  clear hW
  refine held_take (i := 0) (t := 9) (v := (.pointer (some ⟨b2, 0, none⟩))) (fuel := 9) rfl rfl (by kernel_rfl) (by kernel_rfl) (by kernel_rfl) (fun _ _ _ h => h) (.inl ⟨rfl, fun W hW => by obtain ⟨s0, s1⟩ := hW; simp [execOp, Act.eval, go_sem, s0, s1]⟩) hS ?_
  simp only [List.setIfInBounds_toArray, List.set_cons_succ, List.set_cons_zero]
  refine held_take (i := 1) (t := 10) (v := (.pointer (some ⟨b2, 0, none⟩))) (fuel := 8) rfl rfl (by kernel_rfl) (by kernel_rfl) (by kernel_rfl) (fun _ _ _ h => h) (.inl ⟨rfl, fun W hW => by obtain ⟨s0, s1⟩ := hW; simp [execOp, Act.eval, go_sem, s0, s1]⟩) hS ?_
  simp only [List.setIfInBounds_toArray, List.set_cons_succ, List.set_cons_zero]
  refine held_take (i := 2) (t := 11) (v := (.pointer (some ⟨b2, 3, none⟩))) (fuel := 7) rfl rfl (by kernel_rfl) (by kernel_rfl) (by kernel_rfl) (fun _ _ _ h => h) (.inl ⟨rfl, fun W hW => by obtain ⟨s0, s1⟩ := hW; simp [execOp, Act.eval, go_sem, s0, s1]⟩) hS ?_
  simp only [List.setIfInBounds_toArray, List.set_cons_succ, List.set_cons_zero]
  refine held_take (i := 3) (t := 12) (v := (.pointer po)) (fuel := 6) rfl rfl (by kernel_rfl) (by kernel_rfl) (by kernel_rfl) (fun _ _ _ h => h) (.inl ⟨rfl, fun W hW => by obtain ⟨s0, s1⟩ := hW; simp [execOp, Act.eval, go_sem, s0, s1]⟩) hS ?_
  simp only [List.setIfInBounds_toArray, List.set_cons_succ, List.set_cons_zero]
  refine held_take (i := 4) (t := 13) (v := (.pointer (some ⟨b2, 0, none⟩))) (fuel := 5) rfl rfl (by kernel_rfl) (by kernel_rfl) (by kernel_rfl) (fun _ _ _ h => h) (.inl ⟨rfl, fun W hW => by obtain ⟨s0, s1⟩ := hW; simp [execOp, Act.eval, go_sem, s0, s1]⟩) hS ?_
  simp only [List.setIfInBounds_toArray, List.set_cons_succ, List.set_cons_zero]
  refine held_take (i := 5) (t := 14) (v := (.pointer (some ⟨b2, 0, none⟩))) (fuel := 4) rfl rfl (by kernel_rfl) (by kernel_rfl) (by kernel_rfl) (fun _ _ _ h => h) (.inl ⟨rfl, fun W hW => by obtain ⟨s0, s1⟩ := hW; simp [execOp, Act.eval, go_sem, s0, s1]⟩) hS ?_
  simp only [List.setIfInBounds_toArray, List.set_cons_succ, List.set_cons_zero]
  refine held_take (i := 6) (t := 15) (v := (.pointer (some ⟨b2, 4, none⟩))) (fuel := 3) rfl rfl (by kernel_rfl) (by kernel_rfl) (by kernel_rfl) (fun _ _ _ h => h) (.inl ⟨rfl, fun W hW => by obtain ⟨s0, s1⟩ := hW; simp [execOp, Act.eval, go_sem, s0, s1]⟩) hS ?_
  simp only [List.setIfInBounds_toArray, List.set_cons_succ, List.set_cons_zero]
  refine held_take (i := 7) (t := 16) (v := (.pointer pi)) (fuel := 2) rfl rfl (by kernel_rfl) (by kernel_rfl) (by kernel_rfl) (fun _ _ _ h => h) (.inl ⟨rfl, fun W hW => by obtain ⟨s0, s1⟩ := hW; simp [execOp, Act.eval, go_sem, s0, s1]⟩) hS ?_
  simp only [List.setIfInBounds_toArray, List.set_cons_succ, List.set_cons_zero]
  refine held_take (i := 8) (t := 7) (v := (.pointer po)) (fuel := 1) rfl rfl (by kernel_rfl) (by kernel_rfl) (by kernel_rfl) (fun _ _ _ h => h) (.inl ⟨rfl, fun W hW => by obtain ⟨s0, s1⟩ := hW; simp [execOp, Act.eval, go_sem, s0, s1]⟩) hS ?_
  simp only [List.setIfInBounds_toArray, List.set_cons_succ, List.set_cons_zero]
  refine held_take (i := 9) (t := 8) (v := (.pointer pi)) (fuel := 0) rfl rfl (by kernel_rfl) (by kernel_rfl) (by kernel_rfl) (fun _ _ _ h => h) (.inl ⟨rfl, fun W hW => by obtain ⟨s0, s1⟩ := hW; simp [execOp, Act.eval, go_sem, s0, s1]⟩) hS ?_
  simp only [List.setIfInBounds_toArray, List.set_cons_succ, List.set_cons_zero]
  refine wpAnyH_done (by kernel_rfl) ?_ 0
  clear hS
  by_cases hq : r2.length < 2 * r1.length
  · have HN1 := Lib.hid (show r2.length + r.length ≤ limB by have := HL.out; omega)
    have HN2 := Lib.hid (show r1.length + (r2 ++ x :: r).length ≤ limB by simp only [List.length_append, List.length_cons]; have := HL.out; omega)
    go_wp2_with (first
      | (have HSEC := HCNT; go_at_call 86; clear HSEC; go_loud (refine (countI _ _ _ _ HO.out).mono ?_; rintro en w2 ⟨rfl, rfl⟩))
      | (go_at_call 86; go_loud (refine (countI _ _ _ _ HI.out).mono ?_; rintro en w2 ⟨rfl, rfl⟩; have HCNT := Lib.hid True.intro))
      | (have HSEC := HV1; go_at_call 89; clear HSEC; go_loud (refine (withI S u b2 y _ _ r1 (r2 ++ x :: r) _ (Nat.le_trans HU.out HV1.out.2.size) (HY.out.on HV1.out.2) (HO.out.on HV1.out.2) HV1.out.1 HN2.out).mono ?_; rintro en w4 ⟨v2, rfl, ht2, hb2⟩; obtain ⟨p2, rfl⟩ := ht2.ptr; have HV2 := Lib.hid (And.intro ht2 (HB.out.trans ((HV1.out.2.trans (hb2.mono HV1.out.2.size)).mono HB.out.size))); clear ht2 hb2))
      | (go_at_call 89; go_loud (refine (withI S u b x _ _ r2 r _ HU.out HX.out HI.out HC.out HN1.out).mono ?_; rintro en w3 ⟨v1, rfl, ht1, hb1⟩; obtain ⟨p1, rfl⟩ := ht1.ptr; have HV1 := Lib.hid (And.intro ht1 hb1); clear ht1 hb1)))
    go_ret
    exact ⟨_, rfl, by have h := HV2.out.1; simpa using h, HV2.out.2⟩
  · obtain ⟨b3, z, a3, c3, i1, i2, hpi, rfl, hS3, hb3, ha3, hc3⟩ := HI.out.some_ (by intro e; subst e; have := HLI.out; simp only [List.length_nil] at hq this; omega)
    injection hpi with hpi
    subst hpi
    obtain ⟨q1, rfl⟩ := ha3.ptr
    obtain ⟨q2, rfl⟩ := hc3.ptr
    obtain ⟨_, _, _, d3, d4⟩ := nd_cells hb3
    have hlz : (i1 ++ z :: i2).length = i1.length + 1 + i2.length := by simp only [List.length_append, List.length_cons]; omega
    have HLZ := Lib.hid hlz
    have HZ := Lib.hid (show NdI W b3 z from ⟨_, _, _, hb3⟩)
    have HI1 := Lib.hid ha3
    have HI2 := Lib.hid hc3
    clear hS3 hb3 ha3 hc3
    have HN1 := Lib.hid (show r1.length + i1.length ≤ limB by have := HL.out; have := HLZ.out; omega)
    have HN2 := Lib.hid (show i2.length + r.length ≤ limB by have := HL.out; have := HLZ.out; omega)
    have HN3 := Lib.hid (show (r1 ++ y :: i1).length + (i2 ++ x :: r).length ≤ limB by simp only [List.length_append, List.length_cons]; have := HL.out; have := HLZ.out; omega)
    obtain ⟨m1, hm1⟩ : ∃ m1, i1 ++ z :: i2 = m1 := ⟨_, rfl⟩
    rw [hm1] at hq hlz HI HL HLI HLZ
    have HM1 := Lib.hid hm1
    clear hm1 hlz
    go_wp2_with (first
      | (have HSEC := HCNT; go_at_call 86; clear HSEC; go_loud (refine (countI _ _ _ _ HO.out).mono ?_; rintro en w2 ⟨rfl, rfl⟩))
      | (go_at_call 86; go_loud (refine (countI _ _ _ _ HI.out).mono ?_; rintro en w2 ⟨rfl, rfl⟩; have HCNT := Lib.hid True.intro)))
    obtain ⟨W0, hW0⟩ : ∃ W0, W = W0 := ⟨_, rfl⟩
    rw [hW0] at d3 d4 HX HY HC HI1 HI2 HO HU HB HZ ⊢
    have hdr := (Below.refl W0.heap.size W0).drew
    have hS : (W0.drew.cell? ⟨b3, 3, none⟩ = some (.pointer q1) ∧ W0.drew.cell? ⟨b3, 4, none⟩ = some (.pointer q2)) ∧ Below W0.heap.size W0 W0.drew := ⟨⟨d3, d4⟩, hdr⟩
    clear hdr hW0 d3 d4 hq hw1
    refine held_begin 17 (fun W => (W.cell? ⟨b3, 3, none⟩ = some (.pointer q1) ∧ W.cell? ⟨b3, 4, none⟩ = some (.pointer q2)) ∧ Below W0.heap.size W0 W) rfl (by kernel_rfl) ?_
    obtain ⟨W2, hW⟩ : ∃ W2, W0.drew = W2 := ⟨_, rfl⟩
    rw [hW] at hS ⊢
    clear hW
    refine held_take (i := 0) (t := 30) (v := (.pointer (some ⟨b3, 0, none⟩))) (fuel := 16) rfl rfl (by kernel_rfl) (by kernel_rfl) (by kernel_rfl) (fun _ _ _ h => h) (.inl ⟨rfl, fun W hW => by obtain ⟨s0, s1⟩ := hW; simp [execOp, Act.eval, go_sem, s0, s1]⟩) hS ?_
    simp only [List.setIfInBounds_toArray, List.set_cons_succ, List.set_cons_zero]
    refine held_take (i := 1) (t := 31) (v := (.pointer (some ⟨b2, 0, none⟩))) (fuel := 15) rfl rfl (by kernel_rfl) (by kernel_rfl) (by kernel_rfl) (fun _ _ _ h => h) (.inl ⟨rfl, fun W hW => by obtain ⟨s0, s1⟩ := hW; simp [execOp, Act.eval, go_sem, s0, s1]⟩) hS ?_
    simp only [List.setIfInBounds_toArray, List.set_cons_succ, List.set_cons_zero]
    refine held_take (i := 2) (t := 32) (v := (.pointer po)) (fuel := 14) rfl rfl (by kernel_rfl) (by kernel_rfl) (by kernel_rfl) (fun _ _ _ h => h) (.inl ⟨rfl, fun W hW => by obtain ⟨s0, s1⟩ := hW; simp [execOp, Act.eval, go_sem, s0, s1]⟩) hS ?_
    simp only [List.setIfInBounds_toArray, List.set_cons_succ, List.set_cons_zero]
    refine held_take (i := 3) (t := 33) (v := (.pointer (some ⟨b3, 0, none⟩))) (fuel := 13) rfl rfl (by kernel_rfl) (by kernel_rfl) (by kernel_rfl) (fun _ _ _ h => h) (.inl ⟨rfl, fun W hW => by obtain ⟨s0, s1⟩ := hW; simp [execOp, Act.eval, go_sem, s0, s1]⟩) hS ?_
    simp only [List.setIfInBounds_toArray, List.set_cons_succ, List.set_cons_zero]
    refine held_take (i := 4) (t := 34) (v := (.pointer (some ⟨b3, 0, none⟩))) (fuel := 12) rfl rfl (by kernel_rfl) (by kernel_rfl) (by kernel_rfl) (fun _ _ _ h => h) (.inl ⟨rfl, fun W hW => by obtain ⟨s0, s1⟩ := hW; simp [execOp, Act.eval, go_sem, s0, s1]⟩) hS ?_
    simp only [List.setIfInBounds_toArray, List.set_cons_succ, List.set_cons_zero]
    refine held_take (i := 5) (t := 35) (v := (.pointer (some ⟨b3, 3, none⟩))) (fuel := 11) rfl rfl (by kernel_rfl) (by kernel_rfl) (by kernel_rfl) (fun _ _ _ h => h) (.inl ⟨rfl, fun W hW => by obtain ⟨s0, s1⟩ := hW; simp [execOp, Act.eval, go_sem, s0, s1]⟩) hS ?_
    simp only [List.setIfInBounds_toArray, List.set_cons_succ, List.set_cons_zero]
    refine held_take (i := 6) (t := 36) (v := (.pointer q1)) (fuel := 10) rfl rfl (by kernel_rfl) (by kernel_rfl) (by kernel_rfl) (fun _ _ _ h => h) (.inl ⟨rfl, fun W hW => by obtain ⟨s0, s1⟩ := hW; simp [execOp, Act.eval, go_sem, s0, s1]⟩) hS ?_
    simp only [List.setIfInBounds_toArray, List.set_cons_succ, List.set_cons_zero]
    refine held_take (i := 8) (t := 38) (v := (.pointer (some ⟨b, 0, none⟩))) (fuel := 9) rfl rfl (by kernel_rfl) (by kernel_rfl) (by kernel_rfl) (fun _ _ _ h => h) (.inl ⟨rfl, fun W hW => by obtain ⟨s0, s1⟩ := hW; simp [execOp, Act.eval, go_sem, s0, s1]⟩) hS ?_
    simp only [List.setIfInBounds_toArray, List.set_cons_succ, List.set_cons_zero]
    refine held_take (i := 9) (t := 39) (v := (.pointer (some ⟨b3, 0, none⟩))) (fuel := 8) rfl rfl (by kernel_rfl) (by kernel_rfl) (by kernel_rfl) (fun _ _ _ h => h) (.inl ⟨rfl, fun W hW => by obtain ⟨s0, s1⟩ := hW; simp [execOp, Act.eval, go_sem, s0, s1]⟩) hS ?_
    simp only [List.setIfInBounds_toArray, List.set_cons_succ, List.set_cons_zero]
    refine held_take (i := 10) (t := 40) (v := (.pointer (some ⟨b3, 0, none⟩))) (fuel := 7) rfl rfl (by kernel_rfl) (by kernel_rfl) (by kernel_rfl) (fun _ _ _ h => h) (.inl ⟨rfl, fun W hW => by obtain ⟨s0, s1⟩ := hW; simp [execOp, Act.eval, go_sem, s0, s1]⟩) hS ?_
    simp only [List.setIfInBounds_toArray, List.set_cons_succ, List.set_cons_zero]
    refine held_take (i := 11) (t := 41) (v := (.pointer (some ⟨b3, 4, none⟩))) (fuel := 6) rfl rfl (by kernel_rfl) (by kernel_rfl) (by kernel_rfl) (fun _ _ _ h => h) (.inl ⟨rfl, fun W hW => by obtain ⟨s0, s1⟩ := hW; simp [execOp, Act.eval, go_sem, s0, s1]⟩) hS ?_
    simp only [List.setIfInBounds_toArray, List.set_cons_succ, List.set_cons_zero]
    refine held_take (i := 12) (t := 42) (v := (.pointer q2)) (fuel := 5) rfl rfl (by kernel_rfl) (by kernel_rfl) (by kernel_rfl) (fun _ _ _ h => h) (.inl ⟨rfl, fun W hW => by obtain ⟨s0, s1⟩ := hW; simp [execOp, Act.eval, go_sem, s0, s1]⟩) hS ?_
    simp only [List.setIfInBounds_toArray, List.set_cons_succ, List.set_cons_zero]
    refine held_take (i := 13) (t := 43) (v := (.pointer pc)) (fuel := 4) rfl rfl (by kernel_rfl) (by kernel_rfl) (by kernel_rfl) (fun _ _ _ h => h) (.inl ⟨rfl, fun W hW => by obtain ⟨s0, s1⟩ := hW; simp [execOp, Act.eval, go_sem, s0, s1]⟩) hS ?_
    simp only [List.setIfInBounds_toArray, List.set_cons_succ, List.set_cons_zero]
    refine held_call (i := 7) rfl (by kernel_rfl) (by kernel_rfl) ?_
    simp [Oper.wp, execOp, Act.eval, Act.put, go_sem]
    refine (withI S u b2 y _ _ r1 i1 _ (Nat.le_trans HU.out hS.2.size) (HY.out.on hS.2) (HO.out.on hS.2) (HI1.out.on hS.2) HN1.out).mono ?_
    rintro e W3 ⟨v, rfl, ht, hb⟩
    obtain ⟨p1, rfl⟩ := ht.ptr
    have Hp1 := Lib.hid (And.intro ht (hS.2.trans (hb.mono hS.2.size)))
    replace hS := And.intro (And.intro ((hb.cell (p := ⟨b3, 3, none⟩) (cell_lt hS.1.1)).trans hS.1.1) ((hb.cell (p := ⟨b3, 4, none⟩) (cell_lt hS.1.2)).trans hS.1.2)) (hS.2.trans (hb.mono hS.2.size))
    have HBW3 := Lib.hid hb
    clear ht hb
    refine ⟨hS, ?_⟩
    try simp only [List.setIfInBounds_toArray, List.set_cons_succ, List.set_cons_zero]
    refine held_call (i := 14) rfl (by kernel_rfl) (by kernel_rfl) ?_
    simp [Oper.wp, execOp, Act.eval, Act.put, go_sem]
    refine (withI S u b x _ _ i2 r _ (Nat.le_trans HU.out hS.2.size) (HX.out.on hS.2) (HI2.out.on hS.2) (HC.out.on hS.2) HN2.out).mono ?_
    rintro e W4 ⟨v, rfl, ht, hb⟩
    obtain ⟨p2, rfl⟩ := ht.ptr
    have Hp2 := Lib.hid (And.intro ht (hS.2.trans (hb.mono hS.2.size)))
    replace hS := And.intro (And.intro ((hb.cell (p := ⟨b3, 3, none⟩) (cell_lt hS.1.1)).trans hS.1.1) ((hb.cell (p := ⟨b3, 4, none⟩) (cell_lt hS.1.2)).trans hS.1.2)) (hS.2.trans (hb.mono hS.2.size))
    have HBW4 := Lib.hid hb
    clear ht hb
    refine ⟨hS, ?_⟩
    try simp only [List.setIfInBounds_toArray, List.set_cons_succ, List.set_cons_zero]
    refine held_call (i := 15) rfl (by kernel_rfl) (by kernel_rfl) ?_
    simp [Oper.wp, execOp, Act.eval, Act.put, go_sem]
    refine (withI S u b3 z _ _ (r1 ++ y :: i1) (i2 ++ x :: r) _ (Nat.le_trans HU.out hS.2.size) (HZ.out.on hS.2) (Hp1.out.1.on HBW4.out) Hp2.out.1 HN3.out).mono ?_
    rintro e W5 ⟨v, rfl, ht, hb⟩
    obtain ⟨p3, rfl⟩ := ht.ptr
    have Hp3 := Lib.hid (And.intro ht (hS.2.trans (hb.mono hS.2.size)))
    replace hS := And.intro (And.intro ((hb.cell (p := ⟨b3, 3, none⟩) (cell_lt hS.1.1)).trans hS.1.1) ((hb.cell (p := ⟨b3, 4, none⟩) (cell_lt hS.1.2)).trans hS.1.2)) (hS.2.trans (hb.mono hS.2.size))
    have HBW5 := Lib.hid hb
    clear ht hb
    refine ⟨hS, ?_⟩
    try simp only [List.setIfInBounds_toArray, List.set_cons_succ, List.set_cons_zero]
    refine held_take (i := 16) (t := 6) (v := (.pointer p3)) (fuel := 0) rfl rfl (by kernel_rfl) (by kernel_rfl) (by kernel_rfl) (fun _ _ _ h => h) (.inl ⟨rfl, fun W hW => by obtain ⟨s0, s1⟩ := hW; simp [execOp, Act.eval, go_sem, s0, s1]⟩) hS ?_
    simp only [List.setIfInBounds_toArray, List.set_cons_succ, List.set_cons_zero]
    refine wpAnyH_done (by kernel_rfl) ?_ 0
    go_wp2
    go_ret
    exact ⟨_, rfl, by have h := Hp3.out.1; simpa using h, HB.out.trans (Hp3.out.2.mono HB.out.size)⟩
set_option maxHeartbeats 4000000 in
set_option maxRecDepth 40000 in
theorem evenI (S : Nat → Prop) (u : World) (b : Nat) (x : KV Int) (a c : Value) (l r : List (KV Int)) (w : World) (hu : u.heap.size ≤ w.heap.size) (hx : NdI w b x) (ha : TrI (Up S u) w a l) (hc : TrI (Up S u) w c r) (hl : l.length + r.length ≤ limB) :
    Calls Try.prog 85 #[.pointer (some ⟨b, 0, none⟩), a, c] w (TrOutI S u w (l ++ x :: r)) := by
  obtain ⟨pa, rfl⟩ := ha.ptr
  obtain ⟨pc, rfl⟩ := hc.ptr
  have HX := Lib.hid hx
  have HA := Lib.hid ha
  have HC := Lib.hid hc
  have HU := Lib.hid hu
  have HL := Lib.hid hl
  have hw0 : l.length + r.length ≤ 9223372036854775807 := by unfold limB at hl; omega
  have hw1 : 3 * l.length ≤ 9223372036854775807 := by unfold limB at hl; omega
  have hw2 : 3 * r.length ≤ 9223372036854775807 := by unfold limB at hl; omega
  have HW := Lib.hid (show Calls Try.prog 89 #[.pointer (some ⟨b, 0, none⟩), .pointer pa, .pointer pc] w (TrOutI S u w (l ++ x :: r)) from withI S u b x _ _ l r w hu hx ha hc hl)
  have HT1 := Lib.hid (fun h => turnAI S u b x _ _ l r w hu hx ha hc hl h)
  have HT2 := Lib.hid (fun h => turnBI S u b x _ _ l r w hu hx ha hc hl h)
  clear hx ha hc hu hl
  go_enter Try.func85, Try.ntmps85
  by_cases h1 : l.length + r.length ≤ 1
  · go_wp2_with (first
      | (have HSEC := HCNT; go_at_call 86; clear HSEC; go_loud (refine (countI _ _ _ _ HC.out).mono ?_; rintro en w2 ⟨rfl, rfl⟩))
      | (go_at_call 86; go_loud (refine (countI _ _ _ _ HA.out).mono ?_; rintro en w2 ⟨rfl, rfl⟩; have HCNT := Lib.hid True.intro))
      | (go_at_call 89; go_loud (refine HW.out.mono ?_; rintro en w3 ⟨v1, rfl, ht1, hb1⟩; have HV1 := Lib.hid (And.intro ht1 hb1); clear ht1 hb1)))
    go_ret
    exact ⟨_, rfl, HV1.out⟩
  · by_cases h2 : 3 * l.length < r.length
    · have HR2 := Lib.hid (show 2 ≤ r.length by omega)
      go_wp2_with (first
        | (have HSEC := HCNT; go_at_call 86; clear HSEC; go_loud (refine (countI _ _ _ _ HC.out).mono ?_; rintro en w2 ⟨rfl, rfl⟩))
        | (go_at_call 86; go_loud (refine (countI _ _ _ _ HA.out).mono ?_; rintro en w2 ⟨rfl, rfl⟩; have HCNT := Lib.hid True.intro))
        | (go_at_call 90; go_loud (refine (HT1.out HR2.out).mono ?_; rintro en w3 ⟨v1, rfl, ht1, hb1⟩; have HV1 := Lib.hid (And.intro ht1 hb1); clear ht1 hb1)))
      go_ret
      exact ⟨_, rfl, HV1.out⟩
    · by_cases h3 : 3 * r.length < l.length
      · have HR2 := Lib.hid (show 2 ≤ l.length by omega)
        go_wp2_with (first
          | (have HSEC := HCNT; go_at_call 86; clear HSEC; go_loud (refine (countI _ _ _ _ HC.out).mono ?_; rintro en w2 ⟨rfl, rfl⟩))
          | (go_at_call 86; go_loud (refine (countI _ _ _ _ HA.out).mono ?_; rintro en w2 ⟨rfl, rfl⟩; have HCNT := Lib.hid True.intro))
          | (go_at_call 91; go_loud (refine (HT2.out HR2.out).mono ?_; rintro en w3 ⟨v1, rfl, ht1, hb1⟩; have HV1 := Lib.hid (And.intro ht1 hb1); clear ht1 hb1)))
        go_ret
        exact ⟨_, rfl, HV1.out⟩
      · go_wp2_with (first
          | (have HSEC := HCNT; go_at_call 86; clear HSEC; go_loud (refine (countI _ _ _ _ HC.out).mono ?_; rintro en w2 ⟨rfl, rfl⟩))
          | (go_at_call 86; go_loud (refine (countI _ _ _ _ HA.out).mono ?_; rintro en w2 ⟨rfl, rfl⟩; have HCNT := Lib.hid True.intro))
          | (go_at_call 89; go_loud (refine HW.out.mono ?_; rintro en w3 ⟨v1, rfl, ht1, hb1⟩; have HV1 := Lib.hid (And.intro ht1 hb1); clear ht1 hb1)))
        go_ret
        exact ⟨_, rfl, HV1.out⟩
end Go.Proofs.Ytmeoednndfgffaa

/- Layer 17, walked: a key put into a tree of int. -/
namespace Go.Proofs.Ytmeoednndfgffaa
open Go Go.ChangeShapes Go.WideShapes Go.ChangeAt Go.RowKit
set_option linter.unusedVariables false
set_option linter.unusedSimpArgs false
theorem infoNdI : (Try.prog.info? 133).map (fun i => (i.zero, i.size)) = some (some (Value.agg #[.string ⟨#[]⟩, .int .i64 0, .int .i64 0, .pointer none, .pointer none]), 5) := by kernel_rfl
theorem one_nodeI {S : Nat → Prop} {u W : World} {x : KV Int} (hu : u.heap.size ≤ W.heap.size) : TrI (Up S u) (W.alloc (.cells #[.string x.k, .int .i64 x.v, .int .i64 1, .pointer none, .pointer none] 133)) (.pointer (some ⟨W.heap.size, 0, none⟩)) [x] :=
  TrAt.made (l := []) (r := []) .nil .nil hu
set_option maxHeartbeats 4000000 in
set_option maxRecDepth 40000 in
theorem putI : ∀ (n : Nat) (S : Nat → Prop) (u : World) (v : Value) (l : List (KV Int)) (key : ByteArray) (t : Int) (w : World), l.length ≤ n → u.heap.size ≤ w.heap.size → TrI (Up S u) w v l → RiseK l → l.length ≤ limB →
    Calls Try.prog 70 #[v, .string key, .int .i64 t] w (TrOutI S u w (setK l key t)) := by
  intro n
  induction n with
  | zero =>
    intro S u v l key t w hn hu h hr hl
    rcases h.open_ with ⟨rfl, rfl⟩ | ⟨b, x, a, c, l1, r1, rfl, rfl, hS, hb, ha, hc⟩
    · have HU := Lib.hid hu
      clear hu h hr hl hn
      go_enter Try.func70, Try.ntmps70
      go_wp2
      go_ret
      exact ⟨_, rfl, one_nodeI (x := ⟨key, t⟩) HU.out, (Below.refl _ _).alloc (Nat.le_refl _) _⟩
    · simp at hn
  | succ n ih =>
    intro S u v l key t w hn hu h hr hl
    rcases h.open_ with ⟨rfl, rfl⟩ | ⟨b, x, a, c, l1, r1, rfl, rfl, hS, hb, ha, hc⟩
    · have HU := Lib.hid hu
      clear hu h hr hl hn ih
      go_enter Try.func70, Try.ntmps70
      go_wp2
      go_ret
      exact ⟨_, rfl, one_nodeI (x := ⟨key, t⟩) HU.out, (Below.refl _ _).alloc (Nat.le_refl _) _⟩
    · obtain ⟨pa, rfl⟩ := ha.ptr
      obtain ⟨pc, rfl⟩ := hc.ptr
      obtain ⟨c0, c1, c2, c3, c4⟩ := nd_cells hb
      have hlen : (l1 ++ x :: r1).length = l1.length + 1 + r1.length := by simp only [List.length_append, List.length_cons]; omega
      have hdr := (Below.refl w.heap.size w).drew
      have HX := Lib.hid (NdAt.on (show NdI w b x from ⟨_, _, _, hb⟩) hdr)
      have HA := Lib.hid (ha.on hdr)
      have HC := Lib.hid (hc.on hdr)
      have HU := Lib.hid (show u.heap.size ≤ w.drew.heap.size from hu)
      have HB := Lib.hid hdr
      have HN := Lib.hid hn
      have HR := Lib.hid hr
      have HL := Lib.hid (show l1.length + 1 + r1.length ≤ limB by rw [← hlen]; exact hl)
      have HIH := Lib.hid ih
      obtain ⟨M, hM⟩ : ∃ M, l1.length + 1 + r1.length = M := ⟨_, rfl⟩
      rw [hM] at c2
      have HM := Lib.hid hM
      have HM2 := Lib.hid hlen
      by_cases hlt : ltK key x.k
      · have hq := lk_yes hlt
        rw [setK_before hr hlt]
        have HSL := Lib.hid (setK_len1 l1 key t)
        have hS1 : (w.drew.cell? ⟨b, 3, none⟩ = some (.pointer pa) ∧ w.drew.cell? ⟨b, 4, none⟩ = some (.pointer pc)) ∧ Below w.heap.size w w.drew := ⟨⟨c3, c4⟩, hdr⟩
        clear hn hu h hr hl ih hS hb ha hc hlen hdr hlt c1 c2 c3 c4 hM
        go_enter Try.func70, Try.ntmps70
        go_wp2
        have hS := hS1
        clear hS1
        refine held_begin 14 (fun W => (W.cell? ⟨b, 3, none⟩ = some (.pointer pa) ∧ W.cell? ⟨b, 4, none⟩ = some (.pointer pc)) ∧ Below w.heap.size w W) rfl (by kernel_rfl) ?_
        obtain ⟨W, hW⟩ : ∃ W, w.drew = W := ⟨_, rfl⟩
        rw [hW] at hS HX HA HC HU HB ⊢
        clear hW
        have HB0 := Lib.hid hS.2
        have hbw : ∀ V, Below w.heap.size w V → W.heap.size ≤ V.heap.size → True := fun _ _ _ => trivial
        refine held_take (i := 0) (t := 21) (v := (.pointer (some ⟨b, 0, none⟩))) (fuel := 13) rfl rfl (by kernel_rfl) (by kernel_rfl) (by kernel_rfl) (fun _ _ _ h => h) (.inl ⟨rfl, fun W hW => by obtain ⟨s0, s1⟩ := hW; simp [execOp, Act.eval, go_sem, s0, s1]⟩) hS ?_
        simp only [List.setIfInBounds_toArray, List.set_cons_succ, List.set_cons_zero]
        refine held_take (i := 1) (t := 22) (v := (.pointer (some ⟨b, 0, none⟩))) (fuel := 12) rfl rfl (by kernel_rfl) (by kernel_rfl) (by kernel_rfl) (fun _ _ _ h => h) (.inl ⟨rfl, fun W hW => by obtain ⟨s0, s1⟩ := hW; simp [execOp, Act.eval, go_sem, s0, s1]⟩) hS ?_
        simp only [List.setIfInBounds_toArray, List.set_cons_succ, List.set_cons_zero]
        refine held_take (i := 2) (t := 23) (v := (.pointer (some ⟨b, 0, none⟩))) (fuel := 11) rfl rfl (by kernel_rfl) (by kernel_rfl) (by kernel_rfl) (fun _ _ _ h => h) (.inl ⟨rfl, fun W hW => by obtain ⟨s0, s1⟩ := hW; simp [execOp, Act.eval, go_sem, s0, s1]⟩) hS ?_
        simp only [List.setIfInBounds_toArray, List.set_cons_succ, List.set_cons_zero]
        refine held_take (i := 3) (t := 24) (v := (.pointer (some ⟨b, 3, none⟩))) (fuel := 10) rfl rfl (by kernel_rfl) (by kernel_rfl) (by kernel_rfl) (fun _ _ _ h => h) (.inl ⟨rfl, fun W hW => by obtain ⟨s0, s1⟩ := hW; simp [execOp, Act.eval, go_sem, s0, s1]⟩) hS ?_
        simp only [List.setIfInBounds_toArray, List.set_cons_succ, List.set_cons_zero]
        refine held_take (i := 4) (t := 25) (v := (.pointer pa)) (fuel := 9) rfl rfl (by kernel_rfl) (by kernel_rfl) (by kernel_rfl) (fun _ _ _ h => h) (.inl ⟨rfl, fun W hW => by obtain ⟨s0, s1⟩ := hW; simp [execOp, Act.eval, go_sem, s0, s1]⟩) hS ?_
        simp only [List.setIfInBounds_toArray, List.set_cons_succ, List.set_cons_zero]
        refine held_take (i := 5) (t := 26) (v := (.string key)) (fuel := 8) rfl rfl (by kernel_rfl) (by kernel_rfl) (by kernel_rfl) (fun _ _ _ h => h) (.inl ⟨rfl, fun W hW => by obtain ⟨s0, s1⟩ := hW; simp [execOp, Act.eval, go_sem, s0, s1]⟩) hS ?_
        simp only [List.setIfInBounds_toArray, List.set_cons_succ, List.set_cons_zero]
        refine held_take (i := 6) (t := 27) (v := (.int .i64 t)) (fuel := 7) rfl rfl (by kernel_rfl) (by kernel_rfl) (by kernel_rfl) (fun _ _ _ h => h) (.inl ⟨rfl, fun W hW => by obtain ⟨s0, s1⟩ := hW; simp [execOp, Act.eval, go_sem, s0, s1]⟩) hS ?_
        simp only [List.setIfInBounds_toArray, List.set_cons_succ, List.set_cons_zero]
        refine held_take (i := 8) (t := 29) (v := (.pointer (some ⟨b, 0, none⟩))) (fuel := 6) rfl rfl (by kernel_rfl) (by kernel_rfl) (by kernel_rfl) (fun _ _ _ h => h) (.inl ⟨rfl, fun W hW => by obtain ⟨s0, s1⟩ := hW; simp [execOp, Act.eval, go_sem, s0, s1]⟩) hS ?_
        simp only [List.setIfInBounds_toArray, List.set_cons_succ, List.set_cons_zero]
        refine held_take (i := 9) (t := 30) (v := (.pointer (some ⟨b, 0, none⟩))) (fuel := 5) rfl rfl (by kernel_rfl) (by kernel_rfl) (by kernel_rfl) (fun _ _ _ h => h) (.inl ⟨rfl, fun W hW => by obtain ⟨s0, s1⟩ := hW; simp [execOp, Act.eval, go_sem, s0, s1]⟩) hS ?_
        simp only [List.setIfInBounds_toArray, List.set_cons_succ, List.set_cons_zero]
        refine held_take (i := 10) (t := 31) (v := (.pointer (some ⟨b, 4, none⟩))) (fuel := 4) rfl rfl (by kernel_rfl) (by kernel_rfl) (by kernel_rfl) (fun _ _ _ h => h) (.inl ⟨rfl, fun W hW => by obtain ⟨s0, s1⟩ := hW; simp [execOp, Act.eval, go_sem, s0, s1]⟩) hS ?_
        simp only [List.setIfInBounds_toArray, List.set_cons_succ, List.set_cons_zero]
        refine held_take (i := 11) (t := 32) (v := (.pointer pc)) (fuel := 3) rfl rfl (by kernel_rfl) (by kernel_rfl) (by kernel_rfl) (fun _ _ _ h => h) (.inl ⟨rfl, fun W hW => by obtain ⟨s0, s1⟩ := hW; simp [execOp, Act.eval, go_sem, s0, s1]⟩) hS ?_
        simp only [List.setIfInBounds_toArray, List.set_cons_succ, List.set_cons_zero]
        refine held_call (i := 7) rfl (by kernel_rfl) (by kernel_rfl) ?_
        simp [Oper.wp, execOp, Act.eval, Act.put, go_sem]
        refine (HIH.out S u _ l1 key t W (by have := HN.out; have := HM2.out; omega) HU.out HA.out (rise_parts HR.out).1 (by have := HL.out; omega)).mono ?_
        rintro e W3 ⟨v, rfl, ht, hb⟩
        obtain ⟨p1, rfl⟩ := ht.ptr
        have Hp1 := Lib.hid ht
        replace hS := And.intro (And.intro ((hb.cell (p := ⟨b, 3, none⟩) (cell_lt hS.1.1)).trans hS.1.1) ((hb.cell (p := ⟨b, 4, none⟩) (cell_lt hS.1.2)).trans hS.1.2)) (hS.2.trans (hb.mono hS.2.size))
        have HBW3 := Lib.hid hb
        have HZW3 := Lib.hid hS.2
        clear ht hb
        refine ⟨hS, ?_⟩
        try simp only [List.setIfInBounds_toArray, List.set_cons_succ, List.set_cons_zero]
        refine held_call (i := 12) rfl (by kernel_rfl) (by kernel_rfl) ?_
        simp [Oper.wp, execOp, Act.eval, Act.put, go_sem]
        refine (evenI S u b x _ _ (setK l1 key t) r1 _ (Nat.le_trans HU.out HBW3.out.size) (HX.out.on HBW3.out) Hp1.out (HC.out.on HBW3.out) (by have := HL.out; have := HSL.out; omega)).mono ?_
        rintro e W4 ⟨v, rfl, ht, hb⟩
        obtain ⟨p2, rfl⟩ := ht.ptr
        have Hp2 := Lib.hid ht
        replace hS := And.intro (And.intro ((hb.cell (p := ⟨b, 3, none⟩) (cell_lt hS.1.1)).trans hS.1.1) ((hb.cell (p := ⟨b, 4, none⟩) (cell_lt hS.1.2)).trans hS.1.2)) (hS.2.trans (hb.mono hS.2.size))
        have HBW4 := Lib.hid hb
        have HZW4 := Lib.hid hS.2
        clear ht hb
        refine ⟨hS, ?_⟩
        try simp only [List.setIfInBounds_toArray, List.set_cons_succ, List.set_cons_zero]
        refine held_take (i := 13) (t := 6) (v := (.pointer p2)) (fuel := 0) rfl rfl (by kernel_rfl) (by kernel_rfl) (by kernel_rfl) (fun _ _ _ h => h) (.inl ⟨rfl, fun W hW => by obtain ⟨s0, s1⟩ := hW; simp [execOp, Act.eval, go_sem, s0, s1]⟩) hS ?_
        simp only [List.setIfInBounds_toArray, List.set_cons_succ, List.set_cons_zero]
        refine wpAnyH_done (by kernel_rfl) ?_ 0
        go_wp2
        go_ret
        exact ⟨_, rfl, Hp2.out, HZW4.out⟩
      · have hq := lk_no hlt
        by_cases hgt : ltK x.k key
        · have hq2 := lk_yes hgt
          rw [setK_behind hr hgt]
          have HSL := Lib.hid (setK_len1 r1 key t)
          have hS1 : (w.drew.cell? ⟨b, 3, none⟩ = some (.pointer pa) ∧ w.drew.cell? ⟨b, 4, none⟩ = some (.pointer pc)) ∧ Below w.heap.size w w.drew := ⟨⟨c3, c4⟩, hdr⟩
          clear hn hu h hr hl ih hS hb ha hc hlen hdr hlt hgt c1 c2 c3 c4 hM
          go_enter Try.func70, Try.ntmps70
          go_wp2
          have hS := hS1
          clear hS1
          refine held_begin 14 (fun W => (W.cell? ⟨b, 3, none⟩ = some (.pointer pa) ∧ W.cell? ⟨b, 4, none⟩ = some (.pointer pc)) ∧ Below w.heap.size w W) rfl (by kernel_rfl) ?_
          obtain ⟨W, hW⟩ : ∃ W, w.drew = W := ⟨_, rfl⟩
          rw [hW] at hS HX HA HC HU HB ⊢
          clear hW
          have HB0 := Lib.hid hS.2
          refine held_take (i := 0) (t := 41) (v := (.pointer (some ⟨b, 0, none⟩))) (fuel := 13) rfl rfl (by kernel_rfl) (by kernel_rfl) (by kernel_rfl) (fun _ _ _ h => h) (.inl ⟨rfl, fun W hW => by obtain ⟨s0, s1⟩ := hW; simp [execOp, Act.eval, go_sem, s0, s1]⟩) hS ?_
          simp only [List.setIfInBounds_toArray, List.set_cons_succ, List.set_cons_zero]
          refine held_take (i := 1) (t := 42) (v := (.pointer (some ⟨b, 0, none⟩))) (fuel := 12) rfl rfl (by kernel_rfl) (by kernel_rfl) (by kernel_rfl) (fun _ _ _ h => h) (.inl ⟨rfl, fun W hW => by obtain ⟨s0, s1⟩ := hW; simp [execOp, Act.eval, go_sem, s0, s1]⟩) hS ?_
          simp only [List.setIfInBounds_toArray, List.set_cons_succ, List.set_cons_zero]
          refine held_take (i := 2) (t := 43) (v := (.pointer (some ⟨b, 0, none⟩))) (fuel := 11) rfl rfl (by kernel_rfl) (by kernel_rfl) (by kernel_rfl) (fun _ _ _ h => h) (.inl ⟨rfl, fun W hW => by obtain ⟨s0, s1⟩ := hW; simp [execOp, Act.eval, go_sem, s0, s1]⟩) hS ?_
          simp only [List.setIfInBounds_toArray, List.set_cons_succ, List.set_cons_zero]
          refine held_take (i := 3) (t := 44) (v := (.pointer (some ⟨b, 3, none⟩))) (fuel := 10) rfl rfl (by kernel_rfl) (by kernel_rfl) (by kernel_rfl) (fun _ _ _ h => h) (.inl ⟨rfl, fun W hW => by obtain ⟨s0, s1⟩ := hW; simp [execOp, Act.eval, go_sem, s0, s1]⟩) hS ?_
          simp only [List.setIfInBounds_toArray, List.set_cons_succ, List.set_cons_zero]
          refine held_take (i := 4) (t := 45) (v := (.pointer pa)) (fuel := 9) rfl rfl (by kernel_rfl) (by kernel_rfl) (by kernel_rfl) (fun _ _ _ h => h) (.inl ⟨rfl, fun W hW => by obtain ⟨s0, s1⟩ := hW; simp [execOp, Act.eval, go_sem, s0, s1]⟩) hS ?_
          simp only [List.setIfInBounds_toArray, List.set_cons_succ, List.set_cons_zero]
          refine held_take (i := 5) (t := 46) (v := (.pointer (some ⟨b, 0, none⟩))) (fuel := 8) rfl rfl (by kernel_rfl) (by kernel_rfl) (by kernel_rfl) (fun _ _ _ h => h) (.inl ⟨rfl, fun W hW => by obtain ⟨s0, s1⟩ := hW; simp [execOp, Act.eval, go_sem, s0, s1]⟩) hS ?_
          simp only [List.setIfInBounds_toArray, List.set_cons_succ, List.set_cons_zero]
          refine held_take (i := 6) (t := 47) (v := (.pointer (some ⟨b, 0, none⟩))) (fuel := 7) rfl rfl (by kernel_rfl) (by kernel_rfl) (by kernel_rfl) (fun _ _ _ h => h) (.inl ⟨rfl, fun W hW => by obtain ⟨s0, s1⟩ := hW; simp [execOp, Act.eval, go_sem, s0, s1]⟩) hS ?_
          simp only [List.setIfInBounds_toArray, List.set_cons_succ, List.set_cons_zero]
          refine held_take (i := 7) (t := 48) (v := (.pointer (some ⟨b, 4, none⟩))) (fuel := 6) rfl rfl (by kernel_rfl) (by kernel_rfl) (by kernel_rfl) (fun _ _ _ h => h) (.inl ⟨rfl, fun W hW => by obtain ⟨s0, s1⟩ := hW; simp [execOp, Act.eval, go_sem, s0, s1]⟩) hS ?_
          simp only [List.setIfInBounds_toArray, List.set_cons_succ, List.set_cons_zero]
          refine held_take (i := 8) (t := 49) (v := (.pointer pc)) (fuel := 5) rfl rfl (by kernel_rfl) (by kernel_rfl) (by kernel_rfl) (fun _ _ _ h => h) (.inl ⟨rfl, fun W hW => by obtain ⟨s0, s1⟩ := hW; simp [execOp, Act.eval, go_sem, s0, s1]⟩) hS ?_
          simp only [List.setIfInBounds_toArray, List.set_cons_succ, List.set_cons_zero]
          refine held_take (i := 9) (t := 50) (v := (.string key)) (fuel := 4) rfl rfl (by kernel_rfl) (by kernel_rfl) (by kernel_rfl) (fun _ _ _ h => h) (.inl ⟨rfl, fun W hW => by obtain ⟨s0, s1⟩ := hW; simp [execOp, Act.eval, go_sem, s0, s1]⟩) hS ?_
          simp only [List.setIfInBounds_toArray, List.set_cons_succ, List.set_cons_zero]
          refine held_take (i := 10) (t := 51) (v := (.int .i64 t)) (fuel := 3) rfl rfl (by kernel_rfl) (by kernel_rfl) (by kernel_rfl) (fun _ _ _ h => h) (.inl ⟨rfl, fun W hW => by obtain ⟨s0, s1⟩ := hW; simp [execOp, Act.eval, go_sem, s0, s1]⟩) hS ?_
          simp only [List.setIfInBounds_toArray, List.set_cons_succ, List.set_cons_zero]
          refine held_call (i := 11) rfl (by kernel_rfl) (by kernel_rfl) ?_
          simp [Oper.wp, execOp, Act.eval, Act.put, go_sem]
          refine (HIH.out S u _ r1 key t W (by have := HN.out; have := HM2.out; omega) HU.out HC.out (rise_parts HR.out).2.1 (by have := HL.out; omega)).mono ?_
          rintro e W3 ⟨v, rfl, ht, hb⟩
          obtain ⟨p1, rfl⟩ := ht.ptr
          have Hp1 := Lib.hid ht
          replace hS := And.intro (And.intro ((hb.cell (p := ⟨b, 3, none⟩) (cell_lt hS.1.1)).trans hS.1.1) ((hb.cell (p := ⟨b, 4, none⟩) (cell_lt hS.1.2)).trans hS.1.2)) (hS.2.trans (hb.mono hS.2.size))
          have HBW3 := Lib.hid hb
          have HZW3 := Lib.hid hS.2
          clear ht hb
          refine ⟨hS, ?_⟩
          try simp only [List.setIfInBounds_toArray, List.set_cons_succ, List.set_cons_zero]
          refine held_call (i := 12) rfl (by kernel_rfl) (by kernel_rfl) ?_
          simp [Oper.wp, execOp, Act.eval, Act.put, go_sem]
          refine (evenI S u b x _ _ l1 (setK r1 key t) _ (Nat.le_trans HU.out HBW3.out.size) (HX.out.on HBW3.out) (HA.out.on HBW3.out) Hp1.out (by have := HL.out; have := HSL.out; omega)).mono ?_
          rintro e W4 ⟨v, rfl, ht, hb⟩
          obtain ⟨p2, rfl⟩ := ht.ptr
          have Hp2 := Lib.hid ht
          replace hS := And.intro (And.intro ((hb.cell (p := ⟨b, 3, none⟩) (cell_lt hS.1.1)).trans hS.1.1) ((hb.cell (p := ⟨b, 4, none⟩) (cell_lt hS.1.2)).trans hS.1.2)) (hS.2.trans (hb.mono hS.2.size))
          have HBW4 := Lib.hid hb
          have HZW4 := Lib.hid hS.2
          clear ht hb
          refine ⟨hS, ?_⟩
          try simp only [List.setIfInBounds_toArray, List.set_cons_succ, List.set_cons_zero]
          refine held_take (i := 13) (t := 6) (v := (.pointer p2)) (fuel := 0) rfl rfl (by kernel_rfl) (by kernel_rfl) (by kernel_rfl) (fun _ _ _ h => h) (.inl ⟨rfl, fun W hW => by obtain ⟨s0, s1⟩ := hW; simp [execOp, Act.eval, go_sem, s0, s1]⟩) hS ?_
          simp only [List.setIfInBounds_toArray, List.set_cons_succ, List.set_cons_zero]
          refine wpAnyH_done (by kernel_rfl) ?_ 0
          go_wp2
          go_ret
          exact ⟨_, rfl, Hp2.out, HZW4.out⟩
        · have hq2 := lk_no hgt
          have hk : x.k = key := by
            rcases ltK_tri x.k key with h1 | h1 | h1
            · exact absurd h1 hgt
            · exact h1
            · exact absurd h1 hlt
          have HSET := Lib.hid (show setK (l1 ++ x :: r1) key t = l1 ++ ⟨key, t⟩ :: r1 by rw [← hk]; exact setK_here hr)
          have hS1 : (w.drew.cell? ⟨b, 2, none⟩ = some (.int .i64 (M : Int)) ∧ w.drew.cell? ⟨b, 3, none⟩ = some (.pointer pa) ∧ w.drew.cell? ⟨b, 4, none⟩ = some (.pointer pc)) ∧ Below w.heap.size w w.drew := ⟨⟨c2, c3, c4⟩, hdr⟩
          rw [HSET.out]
          clear hn hu h hr hl ih hS hb ha hc hlen hdr hlt hgt c1 c2 c3 c4 hM hk HSET HIH
          go_enter Try.func70, Try.ntmps70
          go_wp2
          have hS := hS1
          clear hS1
          refine held_begin 17 (fun W => (W.cell? ⟨b, 2, none⟩ = some (.int .i64 (M : Int)) ∧ W.cell? ⟨b, 3, none⟩ = some (.pointer pa) ∧ W.cell? ⟨b, 4, none⟩ = some (.pointer pc)) ∧ Below w.heap.size w W) rfl (by kernel_rfl) ?_
          obtain ⟨W, hW⟩ : ∃ W, w.drew = W := ⟨_, rfl⟩
          rw [hW] at hS HX HA HC HU HB ⊢
          clear hW
          refine held_take (i := 0) (t := 54) (v := (.string key)) (fuel := 16) rfl rfl (by kernel_rfl) (by kernel_rfl) (by kernel_rfl) (fun _ _ _ h => h) (.inl ⟨rfl, fun W hW => by obtain ⟨s0, s1⟩ := hW; simp [execOp, Act.eval, go_sem, s0, s1]⟩) hS ?_
          simp only [List.setIfInBounds_toArray, List.set_cons_succ, List.set_cons_zero]
          refine held_take (i := 1) (t := 55) (v := (.int .i64 t)) (fuel := 15) rfl rfl (by kernel_rfl) (by kernel_rfl) (by kernel_rfl) (fun _ _ _ h => h) (.inl ⟨rfl, fun W hW => by obtain ⟨s0, s1⟩ := hW; simp [execOp, Act.eval, go_sem, s0, s1]⟩) hS ?_
          simp only [List.setIfInBounds_toArray, List.set_cons_succ, List.set_cons_zero]
          refine held_take (i := 2) (t := 56) (v := (.pointer (some ⟨b, 0, none⟩))) (fuel := 14) rfl rfl (by kernel_rfl) (by kernel_rfl) (by kernel_rfl) (fun _ _ _ h => h) (.inl ⟨rfl, fun W hW => by obtain ⟨s0, s1⟩ := hW; simp [execOp, Act.eval, go_sem, s0, s1]⟩) hS ?_
          simp only [List.setIfInBounds_toArray, List.set_cons_succ, List.set_cons_zero]
          refine held_take (i := 3) (t := 57) (v := (.pointer (some ⟨b, 0, none⟩))) (fuel := 13) rfl rfl (by kernel_rfl) (by kernel_rfl) (by kernel_rfl) (fun _ _ _ h => h) (.inl ⟨rfl, fun W hW => by obtain ⟨s0, s1⟩ := hW; simp [execOp, Act.eval, go_sem, s0, s1]⟩) hS ?_
          simp only [List.setIfInBounds_toArray, List.set_cons_succ, List.set_cons_zero]
          refine held_take (i := 4) (t := 58) (v := (.pointer (some ⟨b, 2, none⟩))) (fuel := 12) rfl rfl (by kernel_rfl) (by kernel_rfl) (by kernel_rfl) (fun _ _ _ h => h) (.inl ⟨rfl, fun W hW => by obtain ⟨s0, s1⟩ := hW; simp [execOp, Act.eval, go_sem, s0, s1]⟩) hS ?_
          simp only [List.setIfInBounds_toArray, List.set_cons_succ, List.set_cons_zero]
          refine held_take (i := 5) (t := 59) (v := (.int .i64 (M : Int))) (fuel := 11) rfl rfl (by kernel_rfl) (by kernel_rfl) (by kernel_rfl) (fun _ _ _ h => h) (.inl ⟨rfl, fun W hW => by obtain ⟨s0, s1⟩ := hW; simp [execOp, Act.eval, go_sem, s0, s1]⟩) hS ?_
          simp only [List.setIfInBounds_toArray, List.set_cons_succ, List.set_cons_zero]
          refine held_take (i := 6) (t := 60) (v := (.pointer (some ⟨b, 0, none⟩))) (fuel := 10) rfl rfl (by kernel_rfl) (by kernel_rfl) (by kernel_rfl) (fun _ _ _ h => h) (.inl ⟨rfl, fun W hW => by obtain ⟨s0, s1⟩ := hW; simp [execOp, Act.eval, go_sem, s0, s1]⟩) hS ?_
          simp only [List.setIfInBounds_toArray, List.set_cons_succ, List.set_cons_zero]
          refine held_take (i := 7) (t := 61) (v := (.pointer (some ⟨b, 0, none⟩))) (fuel := 9) rfl rfl (by kernel_rfl) (by kernel_rfl) (by kernel_rfl) (fun _ _ _ h => h) (.inl ⟨rfl, fun W hW => by obtain ⟨s0, s1⟩ := hW; simp [execOp, Act.eval, go_sem, s0, s1]⟩) hS ?_
          simp only [List.setIfInBounds_toArray, List.set_cons_succ, List.set_cons_zero]
          refine held_take (i := 8) (t := 62) (v := (.pointer (some ⟨b, 3, none⟩))) (fuel := 8) rfl rfl (by kernel_rfl) (by kernel_rfl) (by kernel_rfl) (fun _ _ _ h => h) (.inl ⟨rfl, fun W hW => by obtain ⟨s0, s1⟩ := hW; simp [execOp, Act.eval, go_sem, s0, s1]⟩) hS ?_
          simp only [List.setIfInBounds_toArray, List.set_cons_succ, List.set_cons_zero]
          refine held_take (i := 9) (t := 63) (v := (.pointer pa)) (fuel := 7) rfl rfl (by kernel_rfl) (by kernel_rfl) (by kernel_rfl) (fun _ _ _ h => h) (.inl ⟨rfl, fun W hW => by obtain ⟨s0, s1⟩ := hW; simp [execOp, Act.eval, go_sem, s0, s1]⟩) hS ?_
          simp only [List.setIfInBounds_toArray, List.set_cons_succ, List.set_cons_zero]
          refine held_take (i := 10) (t := 64) (v := (.pointer (some ⟨b, 0, none⟩))) (fuel := 6) rfl rfl (by kernel_rfl) (by kernel_rfl) (by kernel_rfl) (fun _ _ _ h => h) (.inl ⟨rfl, fun W hW => by obtain ⟨s0, s1⟩ := hW; simp [execOp, Act.eval, go_sem, s0, s1]⟩) hS ?_
          simp only [List.setIfInBounds_toArray, List.set_cons_succ, List.set_cons_zero]
          refine held_take (i := 11) (t := 65) (v := (.pointer (some ⟨b, 0, none⟩))) (fuel := 5) rfl rfl (by kernel_rfl) (by kernel_rfl) (by kernel_rfl) (fun _ _ _ h => h) (.inl ⟨rfl, fun W hW => by obtain ⟨s0, s1⟩ := hW; simp [execOp, Act.eval, go_sem, s0, s1]⟩) hS ?_
          simp only [List.setIfInBounds_toArray, List.set_cons_succ, List.set_cons_zero]
          refine held_take (i := 12) (t := 66) (v := (.pointer (some ⟨b, 4, none⟩))) (fuel := 4) rfl rfl (by kernel_rfl) (by kernel_rfl) (by kernel_rfl) (fun _ _ _ h => h) (.inl ⟨rfl, fun W hW => by obtain ⟨s0, s1⟩ := hW; simp [execOp, Act.eval, go_sem, s0, s1]⟩) hS ?_
          simp only [List.setIfInBounds_toArray, List.set_cons_succ, List.set_cons_zero]
          refine held_take (i := 13) (t := 67) (v := (.pointer pc)) (fuel := 3) rfl rfl (by kernel_rfl) (by kernel_rfl) (by kernel_rfl) (fun _ _ _ h => h) (.inl ⟨rfl, fun W hW => by obtain ⟨s0, s1⟩ := hW; simp [execOp, Act.eval, go_sem, s0, s1]⟩) hS ?_
          simp only [List.setIfInBounds_toArray, List.set_cons_succ, List.set_cons_zero]
          refine held_take (i := 14) (t := 68) (v := (.agg #[.string key, .int .i64 t, .int .i64 (M : Int), .pointer pa, .pointer pc])) (fuel := 2) rfl rfl (by kernel_rfl) (by kernel_rfl) (by kernel_rfl) (fun _ _ _ h => h) (.inl ⟨rfl, fun W hW => by obtain ⟨s0, s1⟩ := hW; simp [execOp, Act.eval, go_sem, s0, s1]⟩) hS ?_
          simp only [List.setIfInBounds_toArray, List.set_cons_succ, List.set_cons_zero]
          refine held_call (i := 15) rfl (by kernel_rfl) (by kernel_rfl) ?_
          simp [Oper.wp, execOp, Act.eval, Act.put, go_sem]
          have hM3 := TrAt.made (x := ⟨key, t⟩) HA.out HC.out HU.out
          rw [HM.out] at hM3
          have hb3 := (Below.refl W.heap.size W).alloc (Nat.le_refl _) (.cells #[.string key, .int .i64 t, .int .i64 (M : Int), .pointer pa, .pointer pc] 133)
          obtain ⟨W3, hW3⟩ : ∃ W3, W.alloc (.cells #[.string key, .int .i64 t, .int .i64 (M : Int), .pointer pa, .pointer pc] 133) = W3 := ⟨_, rfl⟩
          have hM4 : TrI (Up S u) W3 (.pointer (some ⟨W.heap.size, 0, none⟩)) (l1 ++ ⟨key, t⟩ :: r1) := by rw [← hW3]; exact hM3
          rw [hW3] at hb3 ⊢
          have HMK := Lib.hid hM4
          replace hS := And.intro (And.intro ((hb3.cell (p := ⟨b, 2, none⟩) (cell_lt hS.1.1)).trans hS.1.1) (And.intro ((hb3.cell (p := ⟨b, 3, none⟩) (cell_lt hS.1.2.1)).trans hS.1.2.1) ((hb3.cell (p := ⟨b, 4, none⟩) (cell_lt hS.1.2.2)).trans hS.1.2.2))) (hS.2.trans (hb3.mono hS.2.size))
          have HB3 := Lib.hid hS.2
          refine ⟨hS, ?_⟩
          clear hM3 hM4 hW3 hb3
          try simp only [List.setIfInBounds_toArray, List.set_cons_succ, List.set_cons_zero]
          refine held_take (i := 16) (t := 6) (v := (.pointer (some ⟨W.heap.size, 0, none⟩))) (fuel := 0) rfl rfl (by kernel_rfl) (by kernel_rfl) (by kernel_rfl) (fun _ _ _ h => h) (.inl ⟨rfl, fun W hW => by obtain ⟨s0, s1⟩ := hW; simp [execOp, Act.eval, go_sem, s0, s1]⟩) hS ?_
          simp only [List.setIfInBounds_toArray, List.set_cons_succ, List.set_cons_zero]
          refine wpAnyH_done (by kernel_rfl) ?_ 0
          go_wp2
          go_ret
          exact ⟨_, rfl, HMK.out, HB3.out⟩
end Go.Proofs.Ytmeoednndfgffaa
