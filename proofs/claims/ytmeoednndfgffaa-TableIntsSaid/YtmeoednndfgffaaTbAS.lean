/- Several texts in one: TbTS, TbUS, TbVS, TbDS. -/
import Derived.Test.YtmeoednndfgffaaTbM
/- Layer 17, walked: count, get, with of a tree of string. -/
namespace Go.Proofs.Ytmeoednndfgffaa
open Go Go.ChangeShapes Go.WideShapes Go.ChangeAt Go.RowKit
set_option linter.unusedVariables false
set_option linter.unusedSimpArgs false
abbrev ecS (x : ByteArray) : Value := .string x
abbrev TrS (S : Nat → Prop) (w : World) (v : Value) (l : List (KV ByteArray)) : Prop := TrAt 120 ecS S w v l
abbrev NdS (w : World) (b : Nat) (x : KV ByteArray) : Prop := NdAt 120 ecS w b x
theorem countS (S : Nat → Prop) (v : Value) (l : List (KV ByteArray)) (w : World) (h : TrS S w v l) :
    Calls Try.prog 46 #[v] w fun e w' => e = .returned (.int .i64 ((l.length : Nat) : Int)) ∧ w = w' := by
  rcases h.open_ with ⟨rfl, rfl⟩ | ⟨b, x, a, c, l1, r1, rfl, rfl, hS, hb, ha, hc⟩
  · clear h
    go_enter Try.func46, Try.ntmps46
    go_wp2
    go_ret
    exact ⟨by simp, rfl⟩
  · obtain ⟨c0, c1, c2, c3, c4⟩ := nd_cells hb
    have he : ((l1 ++ x :: r1).length : Nat) = l1.length + 1 + r1.length := by simp only [List.length_append, List.length_cons]; omega
    rw [he]
    obtain ⟨n, hn⟩ : ∃ n, l1.length + 1 + r1.length = n := ⟨_, rfl⟩
    rw [hn] at c2 ⊢
    clear h hS hb ha hc he hn c0 c1 c3 c4
    go_enter Try.func46, Try.ntmps46
    go_wp2
    go_ret
    exact ⟨by simp, rfl⟩
set_option maxHeartbeats 4000000 in
set_option maxRecDepth 40000 in
theorem getS (S : Nat → Prop) (v : Value) (l : List (KV ByteArray)) (key : ByteArray) (w : World) (h : TrS S w v l) (hr : RiseK l) :
    Calls Try.prog 36 #[v, .string key] w fun e w' => e = .returned (.tuple #[.string ((getK l key).getD (⟨#[]⟩ : ByteArray)), .bool (getK l key).isSome]) ∧ w = w' := by
  obtain ⟨g, hg⟩ : ∃ g, getK l key = g := ⟨_, rfl⟩
  have HG := Lib.hid (show ∃ l', TrS S w v l' ∧ RiseK l' ∧ getK l' key = g from ⟨l, h, hr, hg⟩)
  rw [hg]
  clear h hr hg
  go_enter Try.func36, Try.ntmps36
  go_wp2
  go_loop [0] (fun nv => Hid (∃ l', TrS S w nv l' ∧ RiseK l' ∧ getK l' key = g)) (fun nv => szT w nv)
  case atStart => exact HG
  case round =>
    clear HG
    obtain ⟨l', ht, hri, hgk⟩ := hrel.out
    clear hrel
    have hsz := ht.sz
    rcases ht.open_ with ⟨rfl, rfl⟩ | ⟨b, x, a, c, l1, r1, rfl, rfl, hS, hb, ha, hc⟩
    · have hg0 : g = none := hgk.symm
      subst hg0
      clear ht hsz hri hgk
      go_wp2
      go_ret2
      exact ⟨by simp, rfl⟩
    · obtain ⟨c0, c1, c2, c3, c4⟩ := nd_cells hb
      have HSZ := Lib.hid hsz
      have HA := Lib.hid ha
      have HC := Lib.hid hc
      have HRI := Lib.hid hri
      have HGK := Lib.hid hgk
      by_cases hk : x.k = key
      · have hq := sk_eq hk
        have hg1 : g = some x.v := by rw [← HGK.out, ← hk]; exact getK_here HRI.out
        subst hg1
        clear ht hsz hri hgk ha hc hb hk
        go_wp2
        go_ret2
        exact ⟨by simp, rfl⟩
      · have hq := sk_ne hk
        by_cases hlt : ltK key x.k
        · have hq2 := lk_yes hlt
          have HNX := Lib.hid (show ∃ l', TrS S w a l' ∧ RiseK l' ∧ getK l' key = g from ⟨l1, ha, (rise_parts hri).1, (getK_before hri hlt).symm.trans hgk⟩)
          have HM := Lib.hid (show szT w a < szT w (.pointer (some ⟨b, 0, none⟩)) by rw [hsz, ha.sz]; simp only [List.length_append, List.length_cons]; omega)
          clear ht hsz hri hgk ha hc hb hk hlt HSZ HA HC HRI HGK
          go_wp2
          go_round
          case rel => exact HNX
          case measure => exact HM.out
        · have hq2 := lk_no hlt
          have hgt : ltK x.k key := by
            rcases ltK_tri x.k key with h1 | h1 | h1
            · exact h1
            · exact absurd h1 hk
            · exact absurd h1 hlt
          have HNX := Lib.hid (show ∃ l', TrS S w c l' ∧ RiseK l' ∧ getK l' key = g from ⟨r1, hc, (rise_parts hri).2.1, (getK_behind hri hgt).symm.trans hgk⟩)
          have HM := Lib.hid (show szT w c < szT w (.pointer (some ⟨b, 0, none⟩)) by rw [hsz, hc.sz]; simp only [List.length_append, List.length_cons]; omega)
          clear ht hsz hri hgk ha hc hb hk hlt hgt HSZ HA HC HRI HGK
          go_wp2
          go_round
          case rel => exact HNX
          case measure => exact HM.out
set_option maxHeartbeats 4000000 in
set_option maxRecDepth 40000 in
theorem withS (S : Nat → Prop) (u : World) (b : Nat) (x : KV ByteArray) (a c : Value) (l r : List (KV ByteArray)) (w : World) (hu : u.heap.size ≤ w.heap.size) (hx : NdS w b x) (ha : TrS (Up S u) w a l) (hc : TrS (Up S u) w c r) (hl : l.length + r.length ≤ limB) :
    Calls Try.prog 76 #[.pointer (some ⟨b, 0, none⟩), a, c] w fun e w' => ∃ v, e = .returned v ∧ TrS (Up S u) w' v (l ++ x :: r) ∧ Below w.heap.size w w' := by
  have HX := Lib.hid hx
  have HA := Lib.hid ha
  have HC := Lib.hid hc
  have HU := Lib.hid hu
  obtain ⟨pa, rfl⟩ := ha.ptr
  obtain ⟨pc, rfl⟩ := hc.ptr
  have hw1 : IntKind.i64.wrap ((l.length : Int) + 1) = (l.length : Int) + 1 := by rw [IntKind.wrap_i64] <;> (unfold limB at hl; omega)
  obtain ⟨N, hN⟩ : ∃ N, l.length + 1 + r.length = N := ⟨_, rfl⟩
  have hw2 : IntKind.i64.wrap ((l.length : Int) + 1 + (r.length : Int)) = (N : Int) := by rw [IntKind.wrap_i64] <;> (unfold limB at hl; omega)
  have HN := Lib.hid hN
  clear hx ha hc hu hl hN
  go_enter Try.func76, Try.ntmps76
  go_wp2
  have hdr := (Below.refl w.heap.size w).drew
  have hS : w.drew.cell? ⟨b, 0, none⟩ = some (.string x.k) ∧ w.drew.cell? ⟨b, 1, none⟩ = some (.string x.v) := ⟨(HX.out.on hdr).c0, (HX.out.on hdr).c1⟩
  have HA2 := Lib.hid (HA.out.on hdr)
  have HC2 := Lib.hid (HC.out.on hdr)
  have HB2 := Lib.hid hdr
  clear HA HC HX hdr
  refine held_begin 19 (fun W => W.cell? ⟨b, 0, none⟩ = some (.string x.k) ∧ W.cell? ⟨b, 1, none⟩ = some (.string x.v)) rfl (by kernel_rfl) ?_
  obtain ⟨W, hW⟩ : ∃ W, w.drew = W := ⟨_, rfl⟩
  rw [hW] at hS HA2 HC2 HB2 ⊢
  clear hW
  refine held_take (i := 0) (t := 7) (v := (.pointer (some ⟨b, 0, none⟩))) (fuel := 18) rfl rfl (by kernel_rfl) (by kernel_rfl) (by kernel_rfl) (fun _ _ _ h => h) (.inl ⟨rfl, fun W hW => by obtain ⟨s0, s1⟩ := hW; simp [execOp, Act.eval, go_sem, s0, s1, hw1, hw2]⟩) hS ?_
  simp only [List.setIfInBounds_toArray, List.set_cons_succ, List.set_cons_zero]
  refine held_take (i := 1) (t := 8) (v := (.pointer (some ⟨b, 0, none⟩))) (fuel := 17) rfl rfl (by kernel_rfl) (by kernel_rfl) (by kernel_rfl) (fun _ _ _ h => h) (.inl ⟨rfl, fun W hW => by obtain ⟨s0, s1⟩ := hW; simp [execOp, Act.eval, go_sem, s0, s1, hw1, hw2]⟩) hS ?_
  simp only [List.setIfInBounds_toArray, List.set_cons_succ, List.set_cons_zero]
  refine held_take (i := 2) (t := 9) (v := (.pointer (some ⟨b, 0, none⟩))) (fuel := 16) rfl rfl (by kernel_rfl) (by kernel_rfl) (by kernel_rfl) (fun _ _ _ h => h) (.inl ⟨rfl, fun W hW => by obtain ⟨s0, s1⟩ := hW; simp [execOp, Act.eval, go_sem, s0, s1, hw1, hw2]⟩) hS ?_
  simp only [List.setIfInBounds_toArray, List.set_cons_succ, List.set_cons_zero]
  refine held_take (i := 3) (t := 10) (v := (.string x.k)) (fuel := 15) rfl rfl (by kernel_rfl) (by kernel_rfl) (by kernel_rfl) (fun _ _ _ h => h) (.inl ⟨rfl, fun W hW => by obtain ⟨s0, s1⟩ := hW; simp [execOp, Act.eval, go_sem, s0, s1, hw1, hw2]⟩) hS ?_
  simp only [List.setIfInBounds_toArray, List.set_cons_succ, List.set_cons_zero]
  refine held_take (i := 4) (t := 11) (v := (.pointer (some ⟨b, 0, none⟩))) (fuel := 14) rfl rfl (by kernel_rfl) (by kernel_rfl) (by kernel_rfl) (fun _ _ _ h => h) (.inl ⟨rfl, fun W hW => by obtain ⟨s0, s1⟩ := hW; simp [execOp, Act.eval, go_sem, s0, s1, hw1, hw2]⟩) hS ?_
  simp only [List.setIfInBounds_toArray, List.set_cons_succ, List.set_cons_zero]
  refine held_take (i := 5) (t := 12) (v := (.pointer (some ⟨b, 0, none⟩))) (fuel := 13) rfl rfl (by kernel_rfl) (by kernel_rfl) (by kernel_rfl) (fun _ _ _ h => h) (.inl ⟨rfl, fun W hW => by obtain ⟨s0, s1⟩ := hW; simp [execOp, Act.eval, go_sem, s0, s1, hw1, hw2]⟩) hS ?_
  simp only [List.setIfInBounds_toArray, List.set_cons_succ, List.set_cons_zero]
  refine held_take (i := 6) (t := 13) (v := (.pointer (some ⟨b, 1, none⟩))) (fuel := 12) rfl rfl (by kernel_rfl) (by kernel_rfl) (by kernel_rfl) (fun _ _ _ h => h) (.inl ⟨rfl, fun W hW => by obtain ⟨s0, s1⟩ := hW; simp [execOp, Act.eval, go_sem, s0, s1, hw1, hw2]⟩) hS ?_
  simp only [List.setIfInBounds_toArray, List.set_cons_succ, List.set_cons_zero]
  refine held_take (i := 7) (t := 14) (v := (.string x.v)) (fuel := 11) rfl rfl (by kernel_rfl) (by kernel_rfl) (by kernel_rfl) (fun _ _ _ h => h) (.inl ⟨rfl, fun W hW => by obtain ⟨s0, s1⟩ := hW; simp [execOp, Act.eval, go_sem, s0, s1, hw1, hw2]⟩) hS ?_
  simp only [List.setIfInBounds_toArray, List.set_cons_succ, List.set_cons_zero]
  refine held_take (i := 8) (t := 15) (v := (.pointer pa)) (fuel := 10) rfl rfl (by kernel_rfl) (by kernel_rfl) (by kernel_rfl) (fun _ _ _ h => h) (.inl ⟨rfl, fun W hW => by obtain ⟨s0, s1⟩ := hW; simp [execOp, Act.eval, go_sem, s0, s1, hw1, hw2]⟩) hS ?_
  simp only [List.setIfInBounds_toArray, List.set_cons_succ, List.set_cons_zero]
  refine held_take (i := 11) (t := 18) (v := (.pointer pc)) (fuel := 9) rfl rfl (by kernel_rfl) (by kernel_rfl) (by kernel_rfl) (fun _ _ _ h => h) (.inl ⟨rfl, fun W hW => by obtain ⟨s0, s1⟩ := hW; simp [execOp, Act.eval, go_sem, s0, s1, hw1, hw2]⟩) hS ?_
  simp only [List.setIfInBounds_toArray, List.set_cons_succ, List.set_cons_zero]
  refine held_take (i := 14) (t := 21) (v := (.pointer pa)) (fuel := 8) rfl rfl (by kernel_rfl) (by kernel_rfl) (by kernel_rfl) (fun _ _ _ h => h) (.inl ⟨rfl, fun W hW => by obtain ⟨s0, s1⟩ := hW; simp [execOp, Act.eval, go_sem, s0, s1, hw1, hw2]⟩) hS ?_
  simp only [List.setIfInBounds_toArray, List.set_cons_succ, List.set_cons_zero]
  refine held_take (i := 15) (t := 22) (v := (.pointer pc)) (fuel := 7) rfl rfl (by kernel_rfl) (by kernel_rfl) (by kernel_rfl) (fun _ _ _ h => h) (.inl ⟨rfl, fun W hW => by obtain ⟨s0, s1⟩ := hW; simp [execOp, Act.eval, go_sem, s0, s1, hw1, hw2]⟩) hS ?_
  simp only [List.setIfInBounds_toArray, List.set_cons_succ, List.set_cons_zero]
  refine held_call (i := 9) rfl (by kernel_rfl) (by kernel_rfl) ?_
  simp [Oper.wp, execOp, Act.eval, Act.put, go_sem]
  refine (countS _ _ _ _ HA2.out).mono ?_
  rintro e w2 ⟨rfl, rfl⟩
  refine ⟨hS, ?_⟩
  try simp only [List.setIfInBounds_toArray, List.set_cons_succ, List.set_cons_zero]
  refine held_take (i := 10) (t := 17) (v := (.int .i64 ((l.length : Int) + 1))) (fuel := 5) rfl rfl (by kernel_rfl) (by kernel_rfl) (by kernel_rfl) (fun _ _ _ h => h) (.inl ⟨rfl, fun W hW => by obtain ⟨s0, s1⟩ := hW; simp [execOp, Act.eval, go_sem, s0, s1, hw1, hw2]⟩) hS ?_
  simp only [List.setIfInBounds_toArray, List.set_cons_succ, List.set_cons_zero]
  refine held_call (i := 12) rfl (by kernel_rfl) (by kernel_rfl) ?_
  simp [Oper.wp, execOp, Act.eval, Act.put, go_sem]
  refine (countS _ _ _ _ HC2.out).mono ?_
  rintro e w2 ⟨rfl, rfl⟩
  refine ⟨hS, ?_⟩
  try simp only [List.setIfInBounds_toArray, List.set_cons_succ, List.set_cons_zero]
  refine held_take (i := 13) (t := 20) (v := (.int .i64 (N : Int))) (fuel := 3) rfl rfl (by kernel_rfl) (by kernel_rfl) (by kernel_rfl) (fun _ _ _ h => h) (.inl ⟨rfl, fun W hW => by obtain ⟨s0, s1⟩ := hW; simp [execOp, Act.eval, go_sem, s0, s1, hw1, hw2]⟩) hS ?_
  simp only [List.setIfInBounds_toArray, List.set_cons_succ, List.set_cons_zero]
  refine held_take (i := 16) (t := 23) (v := (.agg #[.string x.k, .string x.v, .int .i64 (N : Int), .pointer pa, .pointer pc])) (fuel := 2) rfl rfl (by kernel_rfl) (by kernel_rfl) (by kernel_rfl) (fun _ _ _ h => h) (.inl ⟨rfl, fun W hW => by obtain ⟨s0, s1⟩ := hW; simp [execOp, Act.eval, go_sem, s0, s1, hw1, hw2]⟩) hS ?_
  simp only [List.setIfInBounds_toArray, List.set_cons_succ, List.set_cons_zero]
  refine held_call (i := 17) rfl (by kernel_rfl) (by kernel_rfl) ?_
  simp [Oper.wp, execOp, Act.eval, Act.put, go_sem]
  have hM := TrAt.made (x := x) HA2.out HC2.out (Nat.le_trans HU.out HB2.out.size)
  rw [HN.out] at hM
  have hb3 := (Below.refl W.heap.size W).alloc (Nat.le_refl _) (.cells #[.string x.k, .string x.v, .int .i64 (N : Int), .pointer pa, .pointer pc] 120)
  obtain ⟨W3, hW3⟩ : ∃ W3, W.alloc (.cells #[.string x.k, .string x.v, .int .i64 (N : Int), .pointer pa, .pointer pc] 120) = W3 := ⟨_, rfl⟩
  have hM3 : TrS (Up S u) W3 (.pointer (some ⟨W.heap.size, 0, none⟩)) (l ++ x :: r) := by rw [← hW3]; exact hM
  rw [hW3] at hb3 ⊢
  have HM := Lib.hid hM3
  have HB3 := Lib.hid (HB2.out.trans (hb3.mono HB2.out.size))
  have h0 := hb3.cell (p := ⟨b, 0, none⟩) (cell_lt hS.1)
  have h1 := hb3.cell (p := ⟨b, 1, none⟩) (cell_lt hS.2)
  replace hS := And.intro (h0.trans hS.1) (h1.trans hS.2)
  refine ⟨hS, ?_⟩
  clear hM hM3 hW3 hb3 h0 h1
  try simp only [List.setIfInBounds_toArray, List.set_cons_succ, List.set_cons_zero]
  refine held_take (i := 18) (t := 6) (v := (.pointer (some ⟨W.heap.size, 0, none⟩))) (fuel := 0) rfl rfl (by kernel_rfl) (by kernel_rfl) (by kernel_rfl) (fun _ _ _ h => h) (.inl ⟨rfl, fun W hW => by obtain ⟨s0, s1⟩ := hW; simp [execOp, Act.eval, go_sem, s0, s1, hw1, hw2]⟩) hS ?_
  simp only [List.setIfInBounds_toArray, List.set_cons_succ, List.set_cons_zero]
  refine wpAnyH_done (by kernel_rfl) ?_ 0
  go_wp2
  go_ret
  exact ⟨_, rfl, HM.out, HB3.out⟩
end Go.Proofs.Ytmeoednndfgffaa

/- Layer 17, walked: a tree of string made even again; put. -/
namespace Go.Proofs.Ytmeoednndfgffaa
open Go Go.ChangeShapes Go.WideShapes Go.ChangeAt Go.RowKit
set_option linter.unusedVariables false
set_option linter.unusedSimpArgs false
/-- What a node made anew is: a tree of l, new. -/
def TrOutS (S : Nat → Prop) (u w : World) (l : List (KV ByteArray)) (e : Ending) (w' : World) : Prop := ∃ v, e = .returned v ∧ TrS (Up S u) w' v l ∧ Below w.heap.size w w'
set_option maxHeartbeats 4000000 in
set_option maxRecDepth 40000 in
theorem turnAS (S : Nat → Prop) (u : World) (b : Nat) (x : KV ByteArray) (a c : Value) (l r : List (KV ByteArray)) (w : World) (hu : u.heap.size ≤ w.heap.size) (hx : NdS w b x) (ha : TrS (Up S u) w a l) (hc : TrS (Up S u) w c r) (hl : l.length + r.length ≤ limB) (h2 : 2 ≤ r.length) :
    Calls Try.prog 77 #[.pointer (some ⟨b, 0, none⟩), a, c] w (TrOutS S u w (l ++ x :: r)) := by
  obtain ⟨b2, y, a2, c2, r1, r2, rfl, rfl, hS2, hb2, ha2, hc2⟩ := hc.some_ (by intro e; subst e; exact absurd h2 (by decide))
  obtain ⟨pa, rfl⟩ := ha.ptr
  obtain ⟨pi, rfl⟩ := ha2.ptr
  obtain ⟨po, rfl⟩ := hc2.ptr
  obtain ⟨_, _, _, c3, c4⟩ := nd_cells hb2
  have hlen : (r1 ++ y :: r2).length = r1.length + 1 + r2.length := by simp only [List.length_append, List.length_cons]; omega
  have hdr := (Below.refl w.heap.size w).drew
  have HX := Lib.hid (hx.on hdr)
  have HY := Lib.hid (NdAt.on (show NdS w b2 y from ⟨_, _, _, hb2⟩) hdr)
  have HA := Lib.hid (ha.on hdr)
  have HI := Lib.hid (ha2.on hdr)
  have HO := Lib.hid (hc2.on hdr)
  have HU := Lib.hid (show u.heap.size ≤ w.drew.heap.size from hu)
  have HB := Lib.hid hdr
  have HL := Lib.hid (show l.length + (r1.length + 1 + r2.length) ≤ limB by rw [← hlen]; exact hl)
  have HLI := Lib.hid (show 2 ≤ r1.length + 1 + r2.length by rw [← hlen]; exact h2)
  have hw1 : 2 * r2.length ≤ 9223372036854775807 := by have := HL.out; unfold limB at this; omega
  have hS : w.drew.cell? ⟨b2, 3, none⟩ = some (.pointer pi) ∧ w.drew.cell? ⟨b2, 4, none⟩ = some (.pointer po) := ⟨c3, c4⟩
  clear hu hx ha hc hl h2 hS2 hb2 ha2 hc2 hlen c3 c4 hdr
  go_enter Try.func77, Try.ntmps77
  go_wp2
  refine held_begin 10 (fun W => W.cell? ⟨b2, 3, none⟩ = some (.pointer pi) ∧ W.cell? ⟨b2, 4, none⟩ = some (.pointer po)) rfl (by kernel_rfl) ?_
  obtain ⟨W, hW⟩ : ∃ W, w.drew = W := ⟨_, rfl⟩
  rw [hW] at hS HX HY HA HI HO HU HB ⊢
  clear hW
  refine held_take (i := 0) (t := 9) (v := (.pointer (some ⟨b2, 0, none⟩))) (fuel := 9) rfl rfl (by kernel_rfl) (by kernel_rfl) (by kernel_rfl) (fun _ _ _ h => h) (.inl ⟨rfl, fun W hW => by obtain ⟨s0, s1⟩ := hW; simp [execOp, Act.eval, go_sem, s0, s1]⟩) hS ?_
  simp only [List.setIfInBounds_toArray, List.set_cons_succ, List.set_cons_zero]
  refine held_take (i := 1) (t := 10) (v := (.pointer (some ⟨b2, 0, none⟩))) (fuel := 8) rfl rfl (by kernel_rfl) (by kernel_rfl) (by kernel_rfl) (fun _ _ _ h => h) (.inl ⟨rfl, fun W hW => by obtain ⟨s0, s1⟩ := hW; simp [execOp, Act.eval, go_sem, s0, s1]⟩) hS ?_
  simp only [List.setIfInBounds_toArray, List.set_cons_succ, List.set_cons_zero]
  refine held_take (i := 2) (t := 11) (v := (.pointer (some ⟨b2, 3, none⟩))) (fuel := 7) rfl rfl (by kernel_rfl) (by kernel_rfl) (by kernel_rfl) (fun _ _ _ h => h) (.inl ⟨rfl, fun W hW => by obtain ⟨s0, s1⟩ := hW; simp [execOp, Act.eval, go_sem, s0, s1]⟩) hS ?_
  simp only [List.setIfInBounds_toArray, List.set_cons_succ, List.set_cons_zero]
  refine held_take (i := 3) (t := 12) (v := (.pointer pi)) (fuel := 6) rfl rfl (by kernel_rfl) (by kernel_rfl) (by kernel_rfl) (fun _ _ _ h => h) (.inl ⟨rfl, fun W hW => by obtain ⟨s0, s1⟩ := hW; simp [execOp, Act.eval, go_sem, s0, s1]⟩) hS ?_
  simp only [List.setIfInBounds_toArray, List.set_cons_succ, List.set_cons_zero]
  refine held_take (i := 4) (t := 13) (v := (.pointer (some ⟨b2, 0, none⟩))) (fuel := 5) rfl rfl (by kernel_rfl) (by kernel_rfl) (by kernel_rfl) (fun _ _ _ h => h) (.inl ⟨rfl, fun W hW => by obtain ⟨s0, s1⟩ := hW; simp [execOp, Act.eval, go_sem, s0, s1]⟩) hS ?_
  simp only [List.setIfInBounds_toArray, List.set_cons_succ, List.set_cons_zero]
  refine held_take (i := 5) (t := 14) (v := (.pointer (some ⟨b2, 0, none⟩))) (fuel := 4) rfl rfl (by kernel_rfl) (by kernel_rfl) (by kernel_rfl) (fun _ _ _ h => h) (.inl ⟨rfl, fun W hW => by obtain ⟨s0, s1⟩ := hW; simp [execOp, Act.eval, go_sem, s0, s1]⟩) hS ?_
  simp only [List.setIfInBounds_toArray, List.set_cons_succ, List.set_cons_zero]
  refine held_take (i := 6) (t := 15) (v := (.pointer (some ⟨b2, 4, none⟩))) (fuel := 3) rfl rfl (by kernel_rfl) (by kernel_rfl) (by kernel_rfl) (fun _ _ _ h => h) (.inl ⟨rfl, fun W hW => by obtain ⟨s0, s1⟩ := hW; simp [execOp, Act.eval, go_sem, s0, s1]⟩) hS ?_
  simp only [List.setIfInBounds_toArray, List.set_cons_succ, List.set_cons_zero]
  refine held_take (i := 7) (t := 16) (v := (.pointer po)) (fuel := 2) rfl rfl (by kernel_rfl) (by kernel_rfl) (by kernel_rfl) (fun _ _ _ h => h) (.inl ⟨rfl, fun W hW => by obtain ⟨s0, s1⟩ := hW; simp [execOp, Act.eval, go_sem, s0, s1]⟩) hS ?_
  simp only [List.setIfInBounds_toArray, List.set_cons_succ, List.set_cons_zero]
  refine held_take (i := 8) (t := 7) (v := (.pointer pi)) (fuel := 1) rfl rfl (by kernel_rfl) (by kernel_rfl) (by kernel_rfl) (fun _ _ _ h => h) (.inl ⟨rfl, fun W hW => by obtain ⟨s0, s1⟩ := hW; simp [execOp, Act.eval, go_sem, s0, s1]⟩) hS ?_
  simp only [List.setIfInBounds_toArray, List.set_cons_succ, List.set_cons_zero]
  refine held_take (i := 9) (t := 8) (v := (.pointer po)) (fuel := 0) rfl rfl (by kernel_rfl) (by kernel_rfl) (by kernel_rfl) (fun _ _ _ h => h) (.inl ⟨rfl, fun W hW => by obtain ⟨s0, s1⟩ := hW; simp [execOp, Act.eval, go_sem, s0, s1]⟩) hS ?_
  simp only [List.setIfInBounds_toArray, List.set_cons_succ, List.set_cons_zero]
  refine wpAnyH_done (by kernel_rfl) ?_ 0
  clear hS
  by_cases hq : r1.length < 2 * r2.length
  · have HN1 := Lib.hid (show l.length + r1.length ≤ limB by have := HL.out; omega)
    have HN2 := Lib.hid (show (l ++ x :: r1).length + r2.length ≤ limB by simp only [List.length_append, List.length_cons]; have := HL.out; omega)
    go_wp2_with (first
      | (have HSEC := HCNT; go_at_call 46; clear HSEC; go_loud (refine (countS _ _ _ _ HO.out).mono ?_; rintro en w2 ⟨rfl, rfl⟩))
      | (go_at_call 46; go_loud (refine (countS _ _ _ _ HI.out).mono ?_; rintro en w2 ⟨rfl, rfl⟩; have HCNT := Lib.hid True.intro))
      | (have HSEC := HV1; go_at_call 76; clear HSEC; go_loud (refine (withS S u b2 y _ _ (l ++ x :: r1) r2 _ (Nat.le_trans HU.out HV1.out.2.size) (HY.out.on HV1.out.2) HV1.out.1 (HO.out.on HV1.out.2) HN2.out).mono ?_; rintro en w4 ⟨v2, rfl, ht2, hb2⟩; obtain ⟨p2, rfl⟩ := ht2.ptr; have HV2 := Lib.hid (And.intro ht2 (HB.out.trans ((HV1.out.2.trans (hb2.mono HV1.out.2.size)).mono HB.out.size))); clear ht2 hb2))
      | (go_at_call 76; go_loud (refine (withS S u b x _ _ l r1 _ HU.out HX.out HA.out HI.out HN1.out).mono ?_; rintro en w3 ⟨v1, rfl, ht1, hb1⟩; obtain ⟨p1, rfl⟩ := ht1.ptr; have HV1 := Lib.hid (And.intro ht1 hb1); clear ht1 hb1)))
    go_ret
    exact ⟨_, rfl, by have h := HV2.out.1; rwa [List.append_assoc, List.cons_append] at h, HV2.out.2⟩
  · obtain ⟨b3, z, a3, c3, i1, i2, hpi, rfl, hS3, hb3, ha3, hc3⟩ := HI.out.some_ (by intro e; subst e; have := HLI.out; simp only [List.length_nil] at hq this; omega)
    injection hpi with hpi
    subst hpi
    obtain ⟨q1, rfl⟩ := ha3.ptr
    obtain ⟨q2, rfl⟩ := hc3.ptr
    obtain ⟨_, _, _, d3, d4⟩ := nd_cells hb3
    have hlz : (i1 ++ z :: i2).length = i1.length + 1 + i2.length := by simp only [List.length_append, List.length_cons]; omega
    have HLZ := Lib.hid hlz
    have HZ := Lib.hid (show NdS W b3 z from ⟨_, _, _, hb3⟩)
    have HI1 := Lib.hid ha3
    have HI2 := Lib.hid hc3
    clear hS3 hb3 ha3 hc3
    have HN1 := Lib.hid (show l.length + i1.length ≤ limB by have := HL.out; have := HLZ.out; omega)
    have HN2 := Lib.hid (show i2.length + r2.length ≤ limB by have := HL.out; have := HLZ.out; omega)
    have HN3 := Lib.hid (show (l ++ x :: i1).length + (i2 ++ y :: r2).length ≤ limB by simp only [List.length_append, List.length_cons]; have := HL.out; have := HLZ.out; omega)
    obtain ⟨m1, hm1⟩ : ∃ m1, i1 ++ z :: i2 = m1 := ⟨_, rfl⟩
    rw [hm1] at hq hlz HI HL HLI HLZ
    have HM1 := Lib.hid hm1
    clear hm1 hlz
    go_wp2_with (first
      | (have HSEC := HCNT; go_at_call 46; clear HSEC; go_loud (refine (countS _ _ _ _ HO.out).mono ?_; rintro en w2 ⟨rfl, rfl⟩))
      | (go_at_call 46; go_loud (refine (countS _ _ _ _ HI.out).mono ?_; rintro en w2 ⟨rfl, rfl⟩; have HCNT := Lib.hid True.intro)))
    obtain ⟨W0, hW0⟩ : ∃ W0, W = W0 := ⟨_, rfl⟩
    rw [hW0] at d3 d4 HX HY HA HI1 HI2 HO HU HB HZ ⊢
    have hdr := (Below.refl W0.heap.size W0).drew
    have hS : (W0.drew.cell? ⟨b3, 3, none⟩ = some (.pointer q1) ∧ W0.drew.cell? ⟨b3, 4, none⟩ = some (.pointer q2)) ∧ Below W0.heap.size W0 W0.drew := ⟨⟨d3, d4⟩, hdr⟩
    clear hdr hW0 d3 d4 hq hw1
    refine held_begin 17 (fun W => (W.cell? ⟨b3, 3, none⟩ = some (.pointer q1) ∧ W.cell? ⟨b3, 4, none⟩ = some (.pointer q2)) ∧ Below W0.heap.size W0 W) rfl (by kernel_rfl) ?_
    obtain ⟨W2, hW⟩ : ∃ W2, W0.drew = W2 := ⟨_, rfl⟩
    rw [hW] at hS ⊢
    clear hW
    have HB2 := Lib.hid hS.2
    refine held_take (i := 0) (t := 30) (v := (.pointer (some ⟨b3, 0, none⟩))) (fuel := 16) rfl rfl (by kernel_rfl) (by kernel_rfl) (by kernel_rfl) (fun _ _ _ h => h) (.inl ⟨rfl, fun W hW => by obtain ⟨s0, s1⟩ := hW; simp [execOp, Act.eval, go_sem, s0, s1]⟩) hS ?_
    simp only [List.setIfInBounds_toArray, List.set_cons_succ, List.set_cons_zero]
    refine held_take (i := 1) (t := 31) (v := (.pointer (some ⟨b, 0, none⟩))) (fuel := 15) rfl rfl (by kernel_rfl) (by kernel_rfl) (by kernel_rfl) (fun _ _ _ h => h) (.inl ⟨rfl, fun W hW => by obtain ⟨s0, s1⟩ := hW; simp [execOp, Act.eval, go_sem, s0, s1]⟩) hS ?_
    simp only [List.setIfInBounds_toArray, List.set_cons_succ, List.set_cons_zero]
    refine held_take (i := 2) (t := 32) (v := (.pointer pa)) (fuel := 14) rfl rfl (by kernel_rfl) (by kernel_rfl) (by kernel_rfl) (fun _ _ _ h => h) (.inl ⟨rfl, fun W hW => by obtain ⟨s0, s1⟩ := hW; simp [execOp, Act.eval, go_sem, s0, s1]⟩) hS ?_
    simp only [List.setIfInBounds_toArray, List.set_cons_succ, List.set_cons_zero]
    refine held_take (i := 3) (t := 33) (v := (.pointer (some ⟨b3, 0, none⟩))) (fuel := 13) rfl rfl (by kernel_rfl) (by kernel_rfl) (by kernel_rfl) (fun _ _ _ h => h) (.inl ⟨rfl, fun W hW => by obtain ⟨s0, s1⟩ := hW; simp [execOp, Act.eval, go_sem, s0, s1]⟩) hS ?_
    simp only [List.setIfInBounds_toArray, List.set_cons_succ, List.set_cons_zero]
    refine held_take (i := 4) (t := 34) (v := (.pointer (some ⟨b3, 0, none⟩))) (fuel := 12) rfl rfl (by kernel_rfl) (by kernel_rfl) (by kernel_rfl) (fun _ _ _ h => h) (.inl ⟨rfl, fun W hW => by obtain ⟨s0, s1⟩ := hW; simp [execOp, Act.eval, go_sem, s0, s1]⟩) hS ?_
    simp only [List.setIfInBounds_toArray, List.set_cons_succ, List.set_cons_zero]
    refine held_take (i := 5) (t := 35) (v := (.pointer (some ⟨b3, 3, none⟩))) (fuel := 11) rfl rfl (by kernel_rfl) (by kernel_rfl) (by kernel_rfl) (fun _ _ _ h => h) (.inl ⟨rfl, fun W hW => by obtain ⟨s0, s1⟩ := hW; simp [execOp, Act.eval, go_sem, s0, s1]⟩) hS ?_
    simp only [List.setIfInBounds_toArray, List.set_cons_succ, List.set_cons_zero]
    refine held_take (i := 6) (t := 36) (v := (.pointer q1)) (fuel := 10) rfl rfl (by kernel_rfl) (by kernel_rfl) (by kernel_rfl) (fun _ _ _ h => h) (.inl ⟨rfl, fun W hW => by obtain ⟨s0, s1⟩ := hW; simp [execOp, Act.eval, go_sem, s0, s1]⟩) hS ?_
    simp only [List.setIfInBounds_toArray, List.set_cons_succ, List.set_cons_zero]
    refine held_take (i := 8) (t := 38) (v := (.pointer (some ⟨b2, 0, none⟩))) (fuel := 9) rfl rfl (by kernel_rfl) (by kernel_rfl) (by kernel_rfl) (fun _ _ _ h => h) (.inl ⟨rfl, fun W hW => by obtain ⟨s0, s1⟩ := hW; simp [execOp, Act.eval, go_sem, s0, s1]⟩) hS ?_
    simp only [List.setIfInBounds_toArray, List.set_cons_succ, List.set_cons_zero]
    refine held_take (i := 9) (t := 39) (v := (.pointer (some ⟨b3, 0, none⟩))) (fuel := 8) rfl rfl (by kernel_rfl) (by kernel_rfl) (by kernel_rfl) (fun _ _ _ h => h) (.inl ⟨rfl, fun W hW => by obtain ⟨s0, s1⟩ := hW; simp [execOp, Act.eval, go_sem, s0, s1]⟩) hS ?_
    simp only [List.setIfInBounds_toArray, List.set_cons_succ, List.set_cons_zero]
    refine held_take (i := 10) (t := 40) (v := (.pointer (some ⟨b3, 0, none⟩))) (fuel := 7) rfl rfl (by kernel_rfl) (by kernel_rfl) (by kernel_rfl) (fun _ _ _ h => h) (.inl ⟨rfl, fun W hW => by obtain ⟨s0, s1⟩ := hW; simp [execOp, Act.eval, go_sem, s0, s1]⟩) hS ?_
    simp only [List.setIfInBounds_toArray, List.set_cons_succ, List.set_cons_zero]
    refine held_take (i := 11) (t := 41) (v := (.pointer (some ⟨b3, 4, none⟩))) (fuel := 6) rfl rfl (by kernel_rfl) (by kernel_rfl) (by kernel_rfl) (fun _ _ _ h => h) (.inl ⟨rfl, fun W hW => by obtain ⟨s0, s1⟩ := hW; simp [execOp, Act.eval, go_sem, s0, s1]⟩) hS ?_
    simp only [List.setIfInBounds_toArray, List.set_cons_succ, List.set_cons_zero]
    refine held_take (i := 12) (t := 42) (v := (.pointer q2)) (fuel := 5) rfl rfl (by kernel_rfl) (by kernel_rfl) (by kernel_rfl) (fun _ _ _ h => h) (.inl ⟨rfl, fun W hW => by obtain ⟨s0, s1⟩ := hW; simp [execOp, Act.eval, go_sem, s0, s1]⟩) hS ?_
    simp only [List.setIfInBounds_toArray, List.set_cons_succ, List.set_cons_zero]
    refine held_take (i := 13) (t := 43) (v := (.pointer po)) (fuel := 4) rfl rfl (by kernel_rfl) (by kernel_rfl) (by kernel_rfl) (fun _ _ _ h => h) (.inl ⟨rfl, fun W hW => by obtain ⟨s0, s1⟩ := hW; simp [execOp, Act.eval, go_sem, s0, s1]⟩) hS ?_
    simp only [List.setIfInBounds_toArray, List.set_cons_succ, List.set_cons_zero]
    refine held_call (i := 7) rfl (by kernel_rfl) (by kernel_rfl) ?_
    simp [Oper.wp, execOp, Act.eval, Act.put, go_sem]
    refine (withS S u b x _ _ l i1 _ (Nat.le_trans HU.out hS.2.size) (HX.out.on hS.2) (HA.out.on hS.2) (HI1.out.on hS.2) HN1.out).mono ?_
    rintro e W3 ⟨v, rfl, ht, hb⟩
    obtain ⟨p1, rfl⟩ := ht.ptr
    have Hp1 := Lib.hid (And.intro ht (hS.2.trans (hb.mono hS.2.size)))
    replace hS := And.intro (And.intro ((hb.cell (p := ⟨b3, 3, none⟩) (cell_lt hS.1.1)).trans hS.1.1) ((hb.cell (p := ⟨b3, 4, none⟩) (cell_lt hS.1.2)).trans hS.1.2)) (hS.2.trans (hb.mono hS.2.size))
    have HBW3 := Lib.hid hb
    clear ht hb
    refine ⟨hS, ?_⟩
    try simp only [List.setIfInBounds_toArray, List.set_cons_succ, List.set_cons_zero]
    refine held_call (i := 14) rfl (by kernel_rfl) (by kernel_rfl) ?_
    simp [Oper.wp, execOp, Act.eval, Act.put, go_sem]
    refine (withS S u b2 y _ _ i2 r2 _ (Nat.le_trans HU.out hS.2.size) (HY.out.on hS.2) (HI2.out.on hS.2) (HO.out.on hS.2) HN2.out).mono ?_
    rintro e W4 ⟨v, rfl, ht, hb⟩
    obtain ⟨p2, rfl⟩ := ht.ptr
    have Hp2 := Lib.hid (And.intro ht (hS.2.trans (hb.mono hS.2.size)))
    replace hS := And.intro (And.intro ((hb.cell (p := ⟨b3, 3, none⟩) (cell_lt hS.1.1)).trans hS.1.1) ((hb.cell (p := ⟨b3, 4, none⟩) (cell_lt hS.1.2)).trans hS.1.2)) (hS.2.trans (hb.mono hS.2.size))
    have HBW4 := Lib.hid hb
    clear ht hb
    refine ⟨hS, ?_⟩
    try simp only [List.setIfInBounds_toArray, List.set_cons_succ, List.set_cons_zero]
    refine held_call (i := 15) rfl (by kernel_rfl) (by kernel_rfl) ?_
    simp [Oper.wp, execOp, Act.eval, Act.put, go_sem]
    refine (withS S u b3 z _ _ (l ++ x :: i1) (i2 ++ y :: r2) _ (Nat.le_trans HU.out hS.2.size) (HZ.out.on hS.2) (Hp1.out.1.on HBW4.out) Hp2.out.1 HN3.out).mono ?_
    rintro e W5 ⟨v, rfl, ht, hb⟩
    obtain ⟨p3, rfl⟩ := ht.ptr
    have Hp3 := Lib.hid (And.intro ht (hS.2.trans (hb.mono hS.2.size)))
    replace hS := And.intro (And.intro ((hb.cell (p := ⟨b3, 3, none⟩) (cell_lt hS.1.1)).trans hS.1.1) ((hb.cell (p := ⟨b3, 4, none⟩) (cell_lt hS.1.2)).trans hS.1.2)) (hS.2.trans (hb.mono hS.2.size))
    have HBW5 := Lib.hid hb
    clear ht hb
    refine ⟨hS, ?_⟩
    try simp only [List.setIfInBounds_toArray, List.set_cons_succ, List.set_cons_zero]
    refine held_take (i := 16) (t := 6) (v := (.pointer p3)) (fuel := 0) rfl rfl (by kernel_rfl) (by kernel_rfl) (by kernel_rfl) (fun _ _ _ h => h) (.inl ⟨rfl, fun W hW => by obtain ⟨s0, s1⟩ := hW; simp [execOp, Act.eval, go_sem, s0, s1]⟩) hS ?_
    simp only [List.setIfInBounds_toArray, List.set_cons_succ, List.set_cons_zero]
    refine wpAnyH_done (by kernel_rfl) ?_ 0
    go_wp2
    go_ret
    exact ⟨_, rfl, by have h := Hp3.out.1; simpa using h, HB.out.trans (Hp3.out.2.mono HB.out.size)⟩
set_option maxHeartbeats 4000000 in
set_option maxRecDepth 40000 in
theorem turnBS (S : Nat → Prop) (u : World) (b : Nat) (x : KV ByteArray) (a c : Value) (l r : List (KV ByteArray)) (w : World) (hu : u.heap.size ≤ w.heap.size) (hx : NdS w b x) (ha : TrS (Up S u) w a l) (hc : TrS (Up S u) w c r) (hl : l.length + r.length ≤ limB) (h2 : 2 ≤ l.length) :
    Calls Try.prog 78 #[.pointer (some ⟨b, 0, none⟩), a, c] w (TrOutS S u w (l ++ x :: r)) := by
  obtain ⟨b2, y, a2, c2, r1, r2, rfl, rfl, hS2, hb2, ha2, hc2⟩ := ha.some_ (by intro e; subst e; exact absurd h2 (by decide))
  obtain ⟨pc, rfl⟩ := hc.ptr
  obtain ⟨po, rfl⟩ := ha2.ptr
  obtain ⟨pi, rfl⟩ := hc2.ptr
  obtain ⟨_, _, _, c3, c4⟩ := nd_cells hb2
  have hlen : (r1 ++ y :: r2).length = r1.length + 1 + r2.length := by simp only [List.length_append, List.length_cons]; omega
  have hdr := (Below.refl w.heap.size w).drew
  have HX := Lib.hid (hx.on hdr)
  have HY := Lib.hid (NdAt.on (show NdS w b2 y from ⟨_, _, _, hb2⟩) hdr)
  have HC := Lib.hid (hc.on hdr)
  have HO := Lib.hid (ha2.on hdr)
  have HI := Lib.hid (hc2.on hdr)
  have HU := Lib.hid (show u.heap.size ≤ w.drew.heap.size from hu)
  have HB := Lib.hid hdr
  have HL := Lib.hid (show (r1.length + 1 + r2.length) + r.length ≤ limB by rw [← hlen]; exact hl)
  have HLI := Lib.hid (show 2 ≤ r1.length + 1 + r2.length by rw [← hlen]; exact h2)
  have hw1 : 2 * r1.length ≤ 9223372036854775807 := by have := HL.out; unfold limB at this; omega
  have hS : w.drew.cell? ⟨b2, 3, none⟩ = some (.pointer po) ∧ w.drew.cell? ⟨b2, 4, none⟩ = some (.pointer pi) := ⟨c3, c4⟩
  clear hu hx ha hc hl h2 hS2 hb2 ha2 hc2 hlen c3 c4 hdr
  go_enter Try.func78, Try.ntmps78
  go_wp2
  refine held_begin 10 (fun W => W.cell? ⟨b2, 3, none⟩ = some (.pointer po) ∧ W.cell? ⟨b2, 4, none⟩ = some (.pointer pi)) rfl (by kernel_rfl) ?_
  obtain ⟨W, hW⟩ : ∃ W, w.drew = W := ⟨_, rfl⟩
  rw [hW] at hS HX HY HC HI HO HU HB ⊢
  clear hW
  refine held_take (i := 0) (t := 9) (v := (.pointer (some ⟨b2, 0, none⟩))) (fuel := 9) rfl rfl (by kernel_rfl) (by kernel_rfl) (by kernel_rfl) (fun _ _ _ h => h) (.inl ⟨rfl, fun W hW => by obtain ⟨s0, s1⟩ := hW; simp [execOp, Act.eval, go_sem, s0, s1]⟩) hS ?_
  simp only [List.setIfInBounds_toArray, List.set_cons_succ, List.set_cons_zero]
  refine held_take (i := 1) (t := 10) (v := (.pointer (some ⟨b2, 0, none⟩))) (fuel := 8) rfl rfl (by kernel_rfl) (by kernel_rfl) (by kernel_rfl) (fun _ _ _ h => h) (.inl ⟨rfl, fun W hW => by obtain ⟨s0, s1⟩ := hW; simp [execOp, Act.eval, go_sem, s0, s1]⟩) hS ?_
  simp only [List.setIfInBounds_toArray, List.set_cons_succ, List.set_cons_zero]
  refine held_take (i := 2) (t := 11) (v := (.pointer (some ⟨b2, 3, none⟩))) (fuel := 7) rfl rfl (by kernel_rfl) (by kernel_rfl) (by kernel_rfl) (fun _ _ _ h => h) (.inl ⟨rfl, fun W hW => by obtain ⟨s0, s1⟩ := hW; simp [execOp, Act.eval, go_sem, s0, s1]⟩) hS ?_
  simp only [List.setIfInBounds_toArray, List.set_cons_succ, List.set_cons_zero]
  refine held_take (i := 3) (t := 12) (v := (.pointer po)) (fuel := 6) rfl rfl (by kernel_rfl) (by kernel_rfl) (by kernel_rfl) (fun _ _ _ h => h) (.inl ⟨rfl, fun W hW => by obtain ⟨s0, s1⟩ := hW; simp [execOp, Act.eval, go_sem, s0, s1]⟩) hS ?_
  simp only [List.setIfInBounds_toArray, List.set_cons_succ, List.set_cons_zero]
  refine held_take (i := 4) (t := 13) (v := (.pointer (some ⟨b2, 0, none⟩))) (fuel := 5) rfl rfl (by kernel_rfl) (by kernel_rfl) (by kernel_rfl) (fun _ _ _ h => h) (.inl ⟨rfl, fun W hW => by obtain ⟨s0, s1⟩ := hW; simp [execOp, Act.eval, go_sem, s0, s1]⟩) hS ?_
  simp only [List.setIfInBounds_toArray, List.set_cons_succ, List.set_cons_zero]
  refine held_take (i := 5) (t := 14) (v := (.pointer (some ⟨b2, 0, none⟩))) (fuel := 4) rfl rfl (by kernel_rfl) (by kernel_rfl) (by kernel_rfl) (fun _ _ _ h => h) (.inl ⟨rfl, fun W hW => by obtain ⟨s0, s1⟩ := hW; simp [execOp, Act.eval, go_sem, s0, s1]⟩) hS ?_
  simp only [List.setIfInBounds_toArray, List.set_cons_succ, List.set_cons_zero]
  refine held_take (i := 6) (t := 15) (v := (.pointer (some ⟨b2, 4, none⟩))) (fuel := 3) rfl rfl (by kernel_rfl) (by kernel_rfl) (by kernel_rfl) (fun _ _ _ h => h) (.inl ⟨rfl, fun W hW => by obtain ⟨s0, s1⟩ := hW; simp [execOp, Act.eval, go_sem, s0, s1]⟩) hS ?_
  simp only [List.setIfInBounds_toArray, List.set_cons_succ, List.set_cons_zero]
  refine held_take (i := 7) (t := 16) (v := (.pointer pi)) (fuel := 2) rfl rfl (by kernel_rfl) (by kernel_rfl) (by kernel_rfl) (fun _ _ _ h => h) (.inl ⟨rfl, fun W hW => by obtain ⟨s0, s1⟩ := hW; simp [execOp, Act.eval, go_sem, s0, s1]⟩) hS ?_
  simp only [List.setIfInBounds_toArray, List.set_cons_succ, List.set_cons_zero]
  refine held_take (i := 8) (t := 7) (v := (.pointer po)) (fuel := 1) rfl rfl (by kernel_rfl) (by kernel_rfl) (by kernel_rfl) (fun _ _ _ h => h) (.inl ⟨rfl, fun W hW => by obtain ⟨s0, s1⟩ := hW; simp [execOp, Act.eval, go_sem, s0, s1]⟩) hS ?_
  simp only [List.setIfInBounds_toArray, List.set_cons_succ, List.set_cons_zero]
  refine held_take (i := 9) (t := 8) (v := (.pointer pi)) (fuel := 0) rfl rfl (by kernel_rfl) (by kernel_rfl) (by kernel_rfl) (fun _ _ _ h => h) (.inl ⟨rfl, fun W hW => by obtain ⟨s0, s1⟩ := hW; simp [execOp, Act.eval, go_sem, s0, s1]⟩) hS ?_
  simp only [List.setIfInBounds_toArray, List.set_cons_succ, List.set_cons_zero]
  refine wpAnyH_done (by kernel_rfl) ?_ 0
  clear hS
  by_cases hq : r2.length < 2 * r1.length
  · have HN1 := Lib.hid (show r2.length + r.length ≤ limB by have := HL.out; omega)
    have HN2 := Lib.hid (show r1.length + (r2 ++ x :: r).length ≤ limB by simp only [List.length_append, List.length_cons]; have := HL.out; omega)
    go_wp2_with (first
      | (have HSEC := HCNT; go_at_call 46; clear HSEC; go_loud (refine (countS _ _ _ _ HO.out).mono ?_; rintro en w2 ⟨rfl, rfl⟩))
      | (go_at_call 46; go_loud (refine (countS _ _ _ _ HI.out).mono ?_; rintro en w2 ⟨rfl, rfl⟩; have HCNT := Lib.hid True.intro))
      | (have HSEC := HV1; go_at_call 76; clear HSEC; go_loud (refine (withS S u b2 y _ _ r1 (r2 ++ x :: r) _ (Nat.le_trans HU.out HV1.out.2.size) (HY.out.on HV1.out.2) (HO.out.on HV1.out.2) HV1.out.1 HN2.out).mono ?_; rintro en w4 ⟨v2, rfl, ht2, hb2⟩; obtain ⟨p2, rfl⟩ := ht2.ptr; have HV2 := Lib.hid (And.intro ht2 (HB.out.trans ((HV1.out.2.trans (hb2.mono HV1.out.2.size)).mono HB.out.size))); clear ht2 hb2))
      | (go_at_call 76; go_loud (refine (withS S u b x _ _ r2 r _ HU.out HX.out HI.out HC.out HN1.out).mono ?_; rintro en w3 ⟨v1, rfl, ht1, hb1⟩; obtain ⟨p1, rfl⟩ := ht1.ptr; have HV1 := Lib.hid (And.intro ht1 hb1); clear ht1 hb1)))
    go_ret
    exact ⟨_, rfl, by have h := HV2.out.1; simpa using h, HV2.out.2⟩
  · obtain ⟨b3, z, a3, c3, i1, i2, hpi, rfl, hS3, hb3, ha3, hc3⟩ := HI.out.some_ (by intro e; subst e; have := HLI.out; simp only [List.length_nil] at hq this; omega)
    injection hpi with hpi
    subst hpi
    obtain ⟨q1, rfl⟩ := ha3.ptr
    obtain ⟨q2, rfl⟩ := hc3.ptr
    obtain ⟨_, _, _, d3, d4⟩ := nd_cells hb3
    have hlz : (i1 ++ z :: i2).length = i1.length + 1 + i2.length := by simp only [List.length_append, List.length_cons]; omega
    have HLZ := Lib.hid hlz
    have HZ := Lib.hid (show NdS W b3 z from ⟨_, _, _, hb3⟩)
    have HI1 := Lib.hid ha3
    have HI2 := Lib.hid hc3
    clear hS3 hb3 ha3 hc3
    have HN1 := Lib.hid (show r1.length + i1.length ≤ limB by have := HL.out; have := HLZ.out; omega)
    have HN2 := Lib.hid (show i2.length + r.length ≤ limB by have := HL.out; have := HLZ.out; omega)
    have HN3 := Lib.hid (show (r1 ++ y :: i1).length + (i2 ++ x :: r).length ≤ limB by simp only [List.length_append, List.length_cons]; have := HL.out; have := HLZ.out; omega)
    obtain ⟨m1, hm1⟩ : ∃ m1, i1 ++ z :: i2 = m1 := ⟨_, rfl⟩
    rw [hm1] at hq hlz HI HL HLI HLZ
    have HM1 := Lib.hid hm1
    clear hm1 hlz
    go_wp2_with (first
      | (have HSEC := HCNT; go_at_call 46; clear HSEC; go_loud (refine (countS _ _ _ _ HO.out).mono ?_; rintro en w2 ⟨rfl, rfl⟩))
      | (go_at_call 46; go_loud (refine (countS _ _ _ _ HI.out).mono ?_; rintro en w2 ⟨rfl, rfl⟩; have HCNT := Lib.hid True.intro)))
    obtain ⟨W0, hW0⟩ : ∃ W0, W = W0 := ⟨_, rfl⟩
    rw [hW0] at d3 d4 HX HY HC HI1 HI2 HO HU HB HZ ⊢
    have hdr := (Below.refl W0.heap.size W0).drew
    have hS : (W0.drew.cell? ⟨b3, 3, none⟩ = some (.pointer q1) ∧ W0.drew.cell? ⟨b3, 4, none⟩ = some (.pointer q2)) ∧ Below W0.heap.size W0 W0.drew := ⟨⟨d3, d4⟩, hdr⟩
    clear hdr hW0 d3 d4 hq hw1
    refine held_begin 17 (fun W => (W.cell? ⟨b3, 3, none⟩ = some (.pointer q1) ∧ W.cell? ⟨b3, 4, none⟩ = some (.pointer q2)) ∧ Below W0.heap.size W0 W) rfl (by kernel_rfl) ?_
    obtain ⟨W2, hW⟩ : ∃ W2, W0.drew = W2 := ⟨_, rfl⟩
    rw [hW] at hS ⊢
    clear hW
    refine held_take (i := 0) (t := 30) (v := (.pointer (some ⟨b3, 0, none⟩))) (fuel := 16) rfl rfl (by kernel_rfl) (by kernel_rfl) (by kernel_rfl) (fun _ _ _ h => h) (.inl ⟨rfl, fun W hW => by obtain ⟨s0, s1⟩ := hW; simp [execOp, Act.eval, go_sem, s0, s1]⟩) hS ?_
    simp only [List.setIfInBounds_toArray, List.set_cons_succ, List.set_cons_zero]
    refine held_take (i := 1) (t := 31) (v := (.pointer (some ⟨b2, 0, none⟩))) (fuel := 15) rfl rfl (by kernel_rfl) (by kernel_rfl) (by kernel_rfl) (fun _ _ _ h => h) (.inl ⟨rfl, fun W hW => by obtain ⟨s0, s1⟩ := hW; simp [execOp, Act.eval, go_sem, s0, s1]⟩) hS ?_
    simp only [List.setIfInBounds_toArray, List.set_cons_succ, List.set_cons_zero]
    refine held_take (i := 2) (t := 32) (v := (.pointer po)) (fuel := 14) rfl rfl (by kernel_rfl) (by kernel_rfl) (by kernel_rfl) (fun _ _ _ h => h) (.inl ⟨rfl, fun W hW => by obtain ⟨s0, s1⟩ := hW; simp [execOp, Act.eval, go_sem, s0, s1]⟩) hS ?_
    simp only [List.setIfInBounds_toArray, List.set_cons_succ, List.set_cons_zero]
    refine held_take (i := 3) (t := 33) (v := (.pointer (some ⟨b3, 0, none⟩))) (fuel := 13) rfl rfl (by kernel_rfl) (by kernel_rfl) (by kernel_rfl) (fun _ _ _ h => h) (.inl ⟨rfl, fun W hW => by obtain ⟨s0, s1⟩ := hW; simp [execOp, Act.eval, go_sem, s0, s1]⟩) hS ?_
    simp only [List.setIfInBounds_toArray, List.set_cons_succ, List.set_cons_zero]
    refine held_take (i := 4) (t := 34) (v := (.pointer (some ⟨b3, 0, none⟩))) (fuel := 12) rfl rfl (by kernel_rfl) (by kernel_rfl) (by kernel_rfl) (fun _ _ _ h => h) (.inl ⟨rfl, fun W hW => by obtain ⟨s0, s1⟩ := hW; simp [execOp, Act.eval, go_sem, s0, s1]⟩) hS ?_
    simp only [List.setIfInBounds_toArray, List.set_cons_succ, List.set_cons_zero]
    refine held_take (i := 5) (t := 35) (v := (.pointer (some ⟨b3, 3, none⟩))) (fuel := 11) rfl rfl (by kernel_rfl) (by kernel_rfl) (by kernel_rfl) (fun _ _ _ h => h) (.inl ⟨rfl, fun W hW => by obtain ⟨s0, s1⟩ := hW; simp [execOp, Act.eval, go_sem, s0, s1]⟩) hS ?_
    simp only [List.setIfInBounds_toArray, List.set_cons_succ, List.set_cons_zero]
    refine held_take (i := 6) (t := 36) (v := (.pointer q1)) (fuel := 10) rfl rfl (by kernel_rfl) (by kernel_rfl) (by kernel_rfl) (fun _ _ _ h => h) (.inl ⟨rfl, fun W hW => by obtain ⟨s0, s1⟩ := hW; simp [execOp, Act.eval, go_sem, s0, s1]⟩) hS ?_
    simp only [List.setIfInBounds_toArray, List.set_cons_succ, List.set_cons_zero]
    refine held_take (i := 8) (t := 38) (v := (.pointer (some ⟨b, 0, none⟩))) (fuel := 9) rfl rfl (by kernel_rfl) (by kernel_rfl) (by kernel_rfl) (fun _ _ _ h => h) (.inl ⟨rfl, fun W hW => by obtain ⟨s0, s1⟩ := hW; simp [execOp, Act.eval, go_sem, s0, s1]⟩) hS ?_
    simp only [List.setIfInBounds_toArray, List.set_cons_succ, List.set_cons_zero]
    refine held_take (i := 9) (t := 39) (v := (.pointer (some ⟨b3, 0, none⟩))) (fuel := 8) rfl rfl (by kernel_rfl) (by kernel_rfl) (by kernel_rfl) (fun _ _ _ h => h) (.inl ⟨rfl, fun W hW => by obtain ⟨s0, s1⟩ := hW; simp [execOp, Act.eval, go_sem, s0, s1]⟩) hS ?_
    simp only [List.setIfInBounds_toArray, List.set_cons_succ, List.set_cons_zero]
    refine held_take (i := 10) (t := 40) (v := (.pointer (some ⟨b3, 0, none⟩))) (fuel := 7) rfl rfl (by kernel_rfl) (by kernel_rfl) (by kernel_rfl) (fun _ _ _ h => h) (.inl ⟨rfl, fun W hW => by obtain ⟨s0, s1⟩ := hW; simp [execOp, Act.eval, go_sem, s0, s1]⟩) hS ?_
    simp only [List.setIfInBounds_toArray, List.set_cons_succ, List.set_cons_zero]
    refine held_take (i := 11) (t := 41) (v := (.pointer (some ⟨b3, 4, none⟩))) (fuel := 6) rfl rfl (by kernel_rfl) (by kernel_rfl) (by kernel_rfl) (fun _ _ _ h => h) (.inl ⟨rfl, fun W hW => by obtain ⟨s0, s1⟩ := hW; simp [execOp, Act.eval, go_sem, s0, s1]⟩) hS ?_
    simp only [List.setIfInBounds_toArray, List.set_cons_succ, List.set_cons_zero]
    refine held_take (i := 12) (t := 42) (v := (.pointer q2)) (fuel := 5) rfl rfl (by kernel_rfl) (by kernel_rfl) (by kernel_rfl) (fun _ _ _ h => h) (.inl ⟨rfl, fun W hW => by obtain ⟨s0, s1⟩ := hW; simp [execOp, Act.eval, go_sem, s0, s1]⟩) hS ?_
    simp only [List.setIfInBounds_toArray, List.set_cons_succ, List.set_cons_zero]
    refine held_take (i := 13) (t := 43) (v := (.pointer pc)) (fuel := 4) rfl rfl (by kernel_rfl) (by kernel_rfl) (by kernel_rfl) (fun _ _ _ h => h) (.inl ⟨rfl, fun W hW => by obtain ⟨s0, s1⟩ := hW; simp [execOp, Act.eval, go_sem, s0, s1]⟩) hS ?_
    simp only [List.setIfInBounds_toArray, List.set_cons_succ, List.set_cons_zero]
    refine held_call (i := 7) rfl (by kernel_rfl) (by kernel_rfl) ?_
    simp [Oper.wp, execOp, Act.eval, Act.put, go_sem]
    refine (withS S u b2 y _ _ r1 i1 _ (Nat.le_trans HU.out hS.2.size) (HY.out.on hS.2) (HO.out.on hS.2) (HI1.out.on hS.2) HN1.out).mono ?_
    rintro e W3 ⟨v, rfl, ht, hb⟩
    obtain ⟨p1, rfl⟩ := ht.ptr
    have Hp1 := Lib.hid (And.intro ht (hS.2.trans (hb.mono hS.2.size)))
    replace hS := And.intro (And.intro ((hb.cell (p := ⟨b3, 3, none⟩) (cell_lt hS.1.1)).trans hS.1.1) ((hb.cell (p := ⟨b3, 4, none⟩) (cell_lt hS.1.2)).trans hS.1.2)) (hS.2.trans (hb.mono hS.2.size))
    have HBW3 := Lib.hid hb
    clear ht hb
    refine ⟨hS, ?_⟩
    try simp only [List.setIfInBounds_toArray, List.set_cons_succ, List.set_cons_zero]
    refine held_call (i := 14) rfl (by kernel_rfl) (by kernel_rfl) ?_
    simp [Oper.wp, execOp, Act.eval, Act.put, go_sem]
    refine (withS S u b x _ _ i2 r _ (Nat.le_trans HU.out hS.2.size) (HX.out.on hS.2) (HI2.out.on hS.2) (HC.out.on hS.2) HN2.out).mono ?_
    rintro e W4 ⟨v, rfl, ht, hb⟩
    obtain ⟨p2, rfl⟩ := ht.ptr
    have Hp2 := Lib.hid (And.intro ht (hS.2.trans (hb.mono hS.2.size)))
    replace hS := And.intro (And.intro ((hb.cell (p := ⟨b3, 3, none⟩) (cell_lt hS.1.1)).trans hS.1.1) ((hb.cell (p := ⟨b3, 4, none⟩) (cell_lt hS.1.2)).trans hS.1.2)) (hS.2.trans (hb.mono hS.2.size))
    have HBW4 := Lib.hid hb
    clear ht hb
    refine ⟨hS, ?_⟩
    try simp only [List.setIfInBounds_toArray, List.set_cons_succ, List.set_cons_zero]
    refine held_call (i := 15) rfl (by kernel_rfl) (by kernel_rfl) ?_
    simp [Oper.wp, execOp, Act.eval, Act.put, go_sem]
    refine (withS S u b3 z _ _ (r1 ++ y :: i1) (i2 ++ x :: r) _ (Nat.le_trans HU.out hS.2.size) (HZ.out.on hS.2) (Hp1.out.1.on HBW4.out) Hp2.out.1 HN3.out).mono ?_
    rintro e W5 ⟨v, rfl, ht, hb⟩
    obtain ⟨p3, rfl⟩ := ht.ptr
    have Hp3 := Lib.hid (And.intro ht (hS.2.trans (hb.mono hS.2.size)))
    replace hS := And.intro (And.intro ((hb.cell (p := ⟨b3, 3, none⟩) (cell_lt hS.1.1)).trans hS.1.1) ((hb.cell (p := ⟨b3, 4, none⟩) (cell_lt hS.1.2)).trans hS.1.2)) (hS.2.trans (hb.mono hS.2.size))
    have HBW5 := Lib.hid hb
    clear ht hb
    refine ⟨hS, ?_⟩
    try simp only [List.setIfInBounds_toArray, List.set_cons_succ, List.set_cons_zero]
    refine held_take (i := 16) (t := 6) (v := (.pointer p3)) (fuel := 0) rfl rfl (by kernel_rfl) (by kernel_rfl) (by kernel_rfl) (fun _ _ _ h => h) (.inl ⟨rfl, fun W hW => by obtain ⟨s0, s1⟩ := hW; simp [execOp, Act.eval, go_sem, s0, s1]⟩) hS ?_
    simp only [List.setIfInBounds_toArray, List.set_cons_succ, List.set_cons_zero]
    refine wpAnyH_done (by kernel_rfl) ?_ 0
    go_wp2
    go_ret
    exact ⟨_, rfl, by have h := Hp3.out.1; simpa using h, HB.out.trans (Hp3.out.2.mono HB.out.size)⟩
set_option maxHeartbeats 4000000 in
set_option maxRecDepth 40000 in
theorem evenS (S : Nat → Prop) (u : World) (b : Nat) (x : KV ByteArray) (a c : Value) (l r : List (KV ByteArray)) (w : World) (hu : u.heap.size ≤ w.heap.size) (hx : NdS w b x) (ha : TrS (Up S u) w a l) (hc : TrS (Up S u) w c r) (hl : l.length + r.length ≤ limB) :
    Calls Try.prog 62 #[.pointer (some ⟨b, 0, none⟩), a, c] w (TrOutS S u w (l ++ x :: r)) := by
  obtain ⟨pa, rfl⟩ := ha.ptr
  obtain ⟨pc, rfl⟩ := hc.ptr
  have HX := Lib.hid hx
  have HA := Lib.hid ha
  have HC := Lib.hid hc
  have HU := Lib.hid hu
  have HL := Lib.hid hl
  have hw0 : l.length + r.length ≤ 9223372036854775807 := by unfold limB at hl; omega
  have hw1 : 3 * l.length ≤ 9223372036854775807 := by unfold limB at hl; omega
  have hw2 : 3 * r.length ≤ 9223372036854775807 := by unfold limB at hl; omega
  have HW := Lib.hid (show Calls Try.prog 76 #[.pointer (some ⟨b, 0, none⟩), .pointer pa, .pointer pc] w (TrOutS S u w (l ++ x :: r)) from withS S u b x _ _ l r w hu hx ha hc hl)
  have HT1 := Lib.hid (fun h => turnAS S u b x _ _ l r w hu hx ha hc hl h)
  have HT2 := Lib.hid (fun h => turnBS S u b x _ _ l r w hu hx ha hc hl h)
  clear hx ha hc hu hl
  go_enter Try.func62, Try.ntmps62
  by_cases h1 : l.length + r.length ≤ 1
  · go_wp2_with (first
      | (have HSEC := HCNT; go_at_call 46; clear HSEC; go_loud (refine (countS _ _ _ _ HC.out).mono ?_; rintro en w2 ⟨rfl, rfl⟩))
      | (go_at_call 46; go_loud (refine (countS _ _ _ _ HA.out).mono ?_; rintro en w2 ⟨rfl, rfl⟩; have HCNT := Lib.hid True.intro))
      | (go_at_call 76; go_loud (refine HW.out.mono ?_; rintro en w3 ⟨v1, rfl, ht1, hb1⟩; have HV1 := Lib.hid (And.intro ht1 hb1); clear ht1 hb1)))
    go_ret
    exact ⟨_, rfl, HV1.out⟩
  · by_cases h2 : 3 * l.length < r.length
    · have HR2 := Lib.hid (show 2 ≤ r.length by omega)
      go_wp2_with (first
        | (have HSEC := HCNT; go_at_call 46; clear HSEC; go_loud (refine (countS _ _ _ _ HC.out).mono ?_; rintro en w2 ⟨rfl, rfl⟩))
        | (go_at_call 46; go_loud (refine (countS _ _ _ _ HA.out).mono ?_; rintro en w2 ⟨rfl, rfl⟩; have HCNT := Lib.hid True.intro))
        | (go_at_call 77; go_loud (refine (HT1.out HR2.out).mono ?_; rintro en w3 ⟨v1, rfl, ht1, hb1⟩; have HV1 := Lib.hid (And.intro ht1 hb1); clear ht1 hb1)))
      go_ret
      exact ⟨_, rfl, HV1.out⟩
    · by_cases h3 : 3 * r.length < l.length
      · have HR2 := Lib.hid (show 2 ≤ l.length by omega)
        go_wp2_with (first
          | (have HSEC := HCNT; go_at_call 46; clear HSEC; go_loud (refine (countS _ _ _ _ HC.out).mono ?_; rintro en w2 ⟨rfl, rfl⟩))
          | (go_at_call 46; go_loud (refine (countS _ _ _ _ HA.out).mono ?_; rintro en w2 ⟨rfl, rfl⟩; have HCNT := Lib.hid True.intro))
          | (go_at_call 78; go_loud (refine (HT2.out HR2.out).mono ?_; rintro en w3 ⟨v1, rfl, ht1, hb1⟩; have HV1 := Lib.hid (And.intro ht1 hb1); clear ht1 hb1)))
        go_ret
        exact ⟨_, rfl, HV1.out⟩
      · go_wp2_with (first
          | (have HSEC := HCNT; go_at_call 46; clear HSEC; go_loud (refine (countS _ _ _ _ HC.out).mono ?_; rintro en w2 ⟨rfl, rfl⟩))
          | (go_at_call 46; go_loud (refine (countS _ _ _ _ HA.out).mono ?_; rintro en w2 ⟨rfl, rfl⟩; have HCNT := Lib.hid True.intro))
          | (go_at_call 76; go_loud (refine HW.out.mono ?_; rintro en w3 ⟨v1, rfl, ht1, hb1⟩; have HV1 := Lib.hid (And.intro ht1 hb1); clear ht1 hb1)))
        go_ret
        exact ⟨_, rfl, HV1.out⟩
end Go.Proofs.Ytmeoednndfgffaa

/- Layer 17, walked: a key put into a tree of string. -/
namespace Go.Proofs.Ytmeoednndfgffaa
open Go Go.ChangeShapes Go.WideShapes Go.ChangeAt Go.RowKit
set_option linter.unusedVariables false
set_option linter.unusedSimpArgs false
theorem infoNdS : (Try.prog.info? 120).map (fun i => (i.zero, i.size)) = some (some (Value.agg #[.string ⟨#[]⟩, .string ⟨#[]⟩, .int .i64 0, .pointer none, .pointer none]), 5) := by kernel_rfl
theorem one_nodeS {S : Nat → Prop} {u W : World} {x : KV ByteArray} (hu : u.heap.size ≤ W.heap.size) : TrS (Up S u) (W.alloc (.cells #[.string x.k, .string x.v, .int .i64 1, .pointer none, .pointer none] 120)) (.pointer (some ⟨W.heap.size, 0, none⟩)) [x] :=
  TrAt.made (l := []) (r := []) .nil .nil hu
set_option maxHeartbeats 4000000 in
set_option maxRecDepth 40000 in
theorem putS : ∀ (n : Nat) (S : Nat → Prop) (u : World) (v : Value) (l : List (KV ByteArray)) (key : ByteArray) (t : ByteArray) (w : World), l.length ≤ n → u.heap.size ≤ w.heap.size → TrS (Up S u) w v l → RiseK l → l.length ≤ limB →
    Calls Try.prog 37 #[v, .string key, .string t] w (TrOutS S u w (setK l key t)) := by
  intro n
  induction n with
  | zero =>
    intro S u v l key t w hn hu h hr hl
    rcases h.open_ with ⟨rfl, rfl⟩ | ⟨b, x, a, c, l1, r1, rfl, rfl, hS, hb, ha, hc⟩
    · have HU := Lib.hid hu
      clear hu h hr hl hn
      go_enter Try.func37, Try.ntmps37
      go_wp2
      go_ret
      exact ⟨_, rfl, one_nodeS (x := ⟨key, t⟩) HU.out, (Below.refl _ _).alloc (Nat.le_refl _) _⟩
    · simp at hn
  | succ n ih =>
    intro S u v l key t w hn hu h hr hl
    rcases h.open_ with ⟨rfl, rfl⟩ | ⟨b, x, a, c, l1, r1, rfl, rfl, hS, hb, ha, hc⟩
    · have HU := Lib.hid hu
      clear hu h hr hl hn ih
      go_enter Try.func37, Try.ntmps37
      go_wp2
      go_ret
      exact ⟨_, rfl, one_nodeS (x := ⟨key, t⟩) HU.out, (Below.refl _ _).alloc (Nat.le_refl _) _⟩
    · obtain ⟨pa, rfl⟩ := ha.ptr
      obtain ⟨pc, rfl⟩ := hc.ptr
      obtain ⟨c0, c1, c2, c3, c4⟩ := nd_cells hb
      have hlen : (l1 ++ x :: r1).length = l1.length + 1 + r1.length := by simp only [List.length_append, List.length_cons]; omega
      have hdr := (Below.refl w.heap.size w).drew
      have HX := Lib.hid (NdAt.on (show NdS w b x from ⟨_, _, _, hb⟩) hdr)
      have HA := Lib.hid (ha.on hdr)
      have HC := Lib.hid (hc.on hdr)
      have HU := Lib.hid (show u.heap.size ≤ w.drew.heap.size from hu)
      have HB := Lib.hid hdr
      have HN := Lib.hid hn
      have HR := Lib.hid hr
      have HL := Lib.hid (show l1.length + 1 + r1.length ≤ limB by rw [← hlen]; exact hl)
      have HIH := Lib.hid ih
      obtain ⟨M, hM⟩ : ∃ M, l1.length + 1 + r1.length = M := ⟨_, rfl⟩
      rw [hM] at c2
      have HM := Lib.hid hM
      have HM2 := Lib.hid hlen
      by_cases hlt : ltK key x.k
      · have hq := lk_yes hlt
        rw [setK_before hr hlt]
        have HSL := Lib.hid (setK_len1 l1 key t)
        have hS1 : (w.drew.cell? ⟨b, 3, none⟩ = some (.pointer pa) ∧ w.drew.cell? ⟨b, 4, none⟩ = some (.pointer pc)) ∧ Below w.heap.size w w.drew := ⟨⟨c3, c4⟩, hdr⟩
        clear hn hu h hr hl ih hS hb ha hc hlen hdr hlt c1 c2 c3 c4 hM
        go_enter Try.func37, Try.ntmps37
        go_wp2
        have hS := hS1
        clear hS1
        refine held_begin 14 (fun W => (W.cell? ⟨b, 3, none⟩ = some (.pointer pa) ∧ W.cell? ⟨b, 4, none⟩ = some (.pointer pc)) ∧ Below w.heap.size w W) rfl (by kernel_rfl) ?_
        obtain ⟨W, hW⟩ : ∃ W, w.drew = W := ⟨_, rfl⟩
        rw [hW] at hS HX HA HC HU HB ⊢
        clear hW
        have HB0 := Lib.hid hS.2
        have hbw : ∀ V, Below w.heap.size w V → W.heap.size ≤ V.heap.size → True := fun _ _ _ => trivial
        refine held_take (i := 0) (t := 21) (v := (.pointer (some ⟨b, 0, none⟩))) (fuel := 13) rfl rfl (by kernel_rfl) (by kernel_rfl) (by kernel_rfl) (fun _ _ _ h => h) (.inl ⟨rfl, fun W hW => by obtain ⟨s0, s1⟩ := hW; simp [execOp, Act.eval, go_sem, s0, s1]⟩) hS ?_
        simp only [List.setIfInBounds_toArray, List.set_cons_succ, List.set_cons_zero]
        refine held_take (i := 1) (t := 22) (v := (.pointer (some ⟨b, 0, none⟩))) (fuel := 12) rfl rfl (by kernel_rfl) (by kernel_rfl) (by kernel_rfl) (fun _ _ _ h => h) (.inl ⟨rfl, fun W hW => by obtain ⟨s0, s1⟩ := hW; simp [execOp, Act.eval, go_sem, s0, s1]⟩) hS ?_
        simp only [List.setIfInBounds_toArray, List.set_cons_succ, List.set_cons_zero]
        refine held_take (i := 2) (t := 23) (v := (.pointer (some ⟨b, 0, none⟩))) (fuel := 11) rfl rfl (by kernel_rfl) (by kernel_rfl) (by kernel_rfl) (fun _ _ _ h => h) (.inl ⟨rfl, fun W hW => by obtain ⟨s0, s1⟩ := hW; simp [execOp, Act.eval, go_sem, s0, s1]⟩) hS ?_
        simp only [List.setIfInBounds_toArray, List.set_cons_succ, List.set_cons_zero]
        refine held_take (i := 3) (t := 24) (v := (.pointer (some ⟨b, 3, none⟩))) (fuel := 10) rfl rfl (by kernel_rfl) (by kernel_rfl) (by kernel_rfl) (fun _ _ _ h => h) (.inl ⟨rfl, fun W hW => by obtain ⟨s0, s1⟩ := hW; simp [execOp, Act.eval, go_sem, s0, s1]⟩) hS ?_
        simp only [List.setIfInBounds_toArray, List.set_cons_succ, List.set_cons_zero]
        refine held_take (i := 4) (t := 25) (v := (.pointer pa)) (fuel := 9) rfl rfl (by kernel_rfl) (by kernel_rfl) (by kernel_rfl) (fun _ _ _ h => h) (.inl ⟨rfl, fun W hW => by obtain ⟨s0, s1⟩ := hW; simp [execOp, Act.eval, go_sem, s0, s1]⟩) hS ?_
        simp only [List.setIfInBounds_toArray, List.set_cons_succ, List.set_cons_zero]
        refine held_take (i := 5) (t := 26) (v := (.string key)) (fuel := 8) rfl rfl (by kernel_rfl) (by kernel_rfl) (by kernel_rfl) (fun _ _ _ h => h) (.inl ⟨rfl, fun W hW => by obtain ⟨s0, s1⟩ := hW; simp [execOp, Act.eval, go_sem, s0, s1]⟩) hS ?_
        simp only [List.setIfInBounds_toArray, List.set_cons_succ, List.set_cons_zero]
        refine held_take (i := 6) (t := 27) (v := (.string t)) (fuel := 7) rfl rfl (by kernel_rfl) (by kernel_rfl) (by kernel_rfl) (fun _ _ _ h => h) (.inl ⟨rfl, fun W hW => by obtain ⟨s0, s1⟩ := hW; simp [execOp, Act.eval, go_sem, s0, s1]⟩) hS ?_
        simp only [List.setIfInBounds_toArray, List.set_cons_succ, List.set_cons_zero]
        refine held_take (i := 8) (t := 29) (v := (.pointer (some ⟨b, 0, none⟩))) (fuel := 6) rfl rfl (by kernel_rfl) (by kernel_rfl) (by kernel_rfl) (fun _ _ _ h => h) (.inl ⟨rfl, fun W hW => by obtain ⟨s0, s1⟩ := hW; simp [execOp, Act.eval, go_sem, s0, s1]⟩) hS ?_
        simp only [List.setIfInBounds_toArray, List.set_cons_succ, List.set_cons_zero]
        refine held_take (i := 9) (t := 30) (v := (.pointer (some ⟨b, 0, none⟩))) (fuel := 5) rfl rfl (by kernel_rfl) (by kernel_rfl) (by kernel_rfl) (fun _ _ _ h => h) (.inl ⟨rfl, fun W hW => by obtain ⟨s0, s1⟩ := hW; simp [execOp, Act.eval, go_sem, s0, s1]⟩) hS ?_
        simp only [List.setIfInBounds_toArray, List.set_cons_succ, List.set_cons_zero]
        refine held_take (i := 10) (t := 31) (v := (.pointer (some ⟨b, 4, none⟩))) (fuel := 4) rfl rfl (by kernel_rfl) (by kernel_rfl) (by kernel_rfl) (fun _ _ _ h => h) (.inl ⟨rfl, fun W hW => by obtain ⟨s0, s1⟩ := hW; simp [execOp, Act.eval, go_sem, s0, s1]⟩) hS ?_
        simp only [List.setIfInBounds_toArray, List.set_cons_succ, List.set_cons_zero]
        refine held_take (i := 11) (t := 32) (v := (.pointer pc)) (fuel := 3) rfl rfl (by kernel_rfl) (by kernel_rfl) (by kernel_rfl) (fun _ _ _ h => h) (.inl ⟨rfl, fun W hW => by obtain ⟨s0, s1⟩ := hW; simp [execOp, Act.eval, go_sem, s0, s1]⟩) hS ?_
        simp only [List.setIfInBounds_toArray, List.set_cons_succ, List.set_cons_zero]
        refine held_call (i := 7) rfl (by kernel_rfl) (by kernel_rfl) ?_
        simp [Oper.wp, execOp, Act.eval, Act.put, go_sem]
        refine (HIH.out S u _ l1 key t W (by have := HN.out; have := HM2.out; omega) HU.out HA.out (rise_parts HR.out).1 (by have := HL.out; omega)).mono ?_
        rintro e W3 ⟨v, rfl, ht, hb⟩
        obtain ⟨p1, rfl⟩ := ht.ptr
        have Hp1 := Lib.hid ht
        replace hS := And.intro (And.intro ((hb.cell (p := ⟨b, 3, none⟩) (cell_lt hS.1.1)).trans hS.1.1) ((hb.cell (p := ⟨b, 4, none⟩) (cell_lt hS.1.2)).trans hS.1.2)) (hS.2.trans (hb.mono hS.2.size))
        have HBW3 := Lib.hid hb
        have HZW3 := Lib.hid hS.2
        clear ht hb
        refine ⟨hS, ?_⟩
        try simp only [List.setIfInBounds_toArray, List.set_cons_succ, List.set_cons_zero]
        refine held_call (i := 12) rfl (by kernel_rfl) (by kernel_rfl) ?_
        simp [Oper.wp, execOp, Act.eval, Act.put, go_sem]
        refine (evenS S u b x _ _ (setK l1 key t) r1 _ (Nat.le_trans HU.out HBW3.out.size) (HX.out.on HBW3.out) Hp1.out (HC.out.on HBW3.out) (by have := HL.out; have := HSL.out; omega)).mono ?_
        rintro e W4 ⟨v, rfl, ht, hb⟩
        obtain ⟨p2, rfl⟩ := ht.ptr
        have Hp2 := Lib.hid ht
        replace hS := And.intro (And.intro ((hb.cell (p := ⟨b, 3, none⟩) (cell_lt hS.1.1)).trans hS.1.1) ((hb.cell (p := ⟨b, 4, none⟩) (cell_lt hS.1.2)).trans hS.1.2)) (hS.2.trans (hb.mono hS.2.size))
        have HBW4 := Lib.hid hb
        have HZW4 := Lib.hid hS.2
        clear ht hb
        refine ⟨hS, ?_⟩
        try simp only [List.setIfInBounds_toArray, List.set_cons_succ, List.set_cons_zero]
        refine held_take (i := 13) (t := 6) (v := (.pointer p2)) (fuel := 0) rfl rfl (by kernel_rfl) (by kernel_rfl) (by kernel_rfl) (fun _ _ _ h => h) (.inl ⟨rfl, fun W hW => by obtain ⟨s0, s1⟩ := hW; simp [execOp, Act.eval, go_sem, s0, s1]⟩) hS ?_
        simp only [List.setIfInBounds_toArray, List.set_cons_succ, List.set_cons_zero]
        refine wpAnyH_done (by kernel_rfl) ?_ 0
        go_wp2
        go_ret
        exact ⟨_, rfl, Hp2.out, HZW4.out⟩
      · have hq := lk_no hlt
        by_cases hgt : ltK x.k key
        · have hq2 := lk_yes hgt
          rw [setK_behind hr hgt]
          have HSL := Lib.hid (setK_len1 r1 key t)
          have hS1 : (w.drew.cell? ⟨b, 3, none⟩ = some (.pointer pa) ∧ w.drew.cell? ⟨b, 4, none⟩ = some (.pointer pc)) ∧ Below w.heap.size w w.drew := ⟨⟨c3, c4⟩, hdr⟩
          clear hn hu h hr hl ih hS hb ha hc hlen hdr hlt hgt c1 c2 c3 c4 hM
          go_enter Try.func37, Try.ntmps37
          go_wp2
          have hS := hS1
          clear hS1
          refine held_begin 14 (fun W => (W.cell? ⟨b, 3, none⟩ = some (.pointer pa) ∧ W.cell? ⟨b, 4, none⟩ = some (.pointer pc)) ∧ Below w.heap.size w W) rfl (by kernel_rfl) ?_
          obtain ⟨W, hW⟩ : ∃ W, w.drew = W := ⟨_, rfl⟩
          rw [hW] at hS HX HA HC HU HB ⊢
          clear hW
          have HB0 := Lib.hid hS.2
          refine held_take (i := 0) (t := 41) (v := (.pointer (some ⟨b, 0, none⟩))) (fuel := 13) rfl rfl (by kernel_rfl) (by kernel_rfl) (by kernel_rfl) (fun _ _ _ h => h) (.inl ⟨rfl, fun W hW => by obtain ⟨s0, s1⟩ := hW; simp [execOp, Act.eval, go_sem, s0, s1]⟩) hS ?_
          simp only [List.setIfInBounds_toArray, List.set_cons_succ, List.set_cons_zero]
          refine held_take (i := 1) (t := 42) (v := (.pointer (some ⟨b, 0, none⟩))) (fuel := 12) rfl rfl (by kernel_rfl) (by kernel_rfl) (by kernel_rfl) (fun _ _ _ h => h) (.inl ⟨rfl, fun W hW => by obtain ⟨s0, s1⟩ := hW; simp [execOp, Act.eval, go_sem, s0, s1]⟩) hS ?_
          simp only [List.setIfInBounds_toArray, List.set_cons_succ, List.set_cons_zero]
          refine held_take (i := 2) (t := 43) (v := (.pointer (some ⟨b, 0, none⟩))) (fuel := 11) rfl rfl (by kernel_rfl) (by kernel_rfl) (by kernel_rfl) (fun _ _ _ h => h) (.inl ⟨rfl, fun W hW => by obtain ⟨s0, s1⟩ := hW; simp [execOp, Act.eval, go_sem, s0, s1]⟩) hS ?_
          simp only [List.setIfInBounds_toArray, List.set_cons_succ, List.set_cons_zero]
          refine held_take (i := 3) (t := 44) (v := (.pointer (some ⟨b, 3, none⟩))) (fuel := 10) rfl rfl (by kernel_rfl) (by kernel_rfl) (by kernel_rfl) (fun _ _ _ h => h) (.inl ⟨rfl, fun W hW => by obtain ⟨s0, s1⟩ := hW; simp [execOp, Act.eval, go_sem, s0, s1]⟩) hS ?_
          simp only [List.setIfInBounds_toArray, List.set_cons_succ, List.set_cons_zero]
          refine held_take (i := 4) (t := 45) (v := (.pointer pa)) (fuel := 9) rfl rfl (by kernel_rfl) (by kernel_rfl) (by kernel_rfl) (fun _ _ _ h => h) (.inl ⟨rfl, fun W hW => by obtain ⟨s0, s1⟩ := hW; simp [execOp, Act.eval, go_sem, s0, s1]⟩) hS ?_
          simp only [List.setIfInBounds_toArray, List.set_cons_succ, List.set_cons_zero]
          refine held_take (i := 5) (t := 46) (v := (.pointer (some ⟨b, 0, none⟩))) (fuel := 8) rfl rfl (by kernel_rfl) (by kernel_rfl) (by kernel_rfl) (fun _ _ _ h => h) (.inl ⟨rfl, fun W hW => by obtain ⟨s0, s1⟩ := hW; simp [execOp, Act.eval, go_sem, s0, s1]⟩) hS ?_
          simp only [List.setIfInBounds_toArray, List.set_cons_succ, List.set_cons_zero]
          refine held_take (i := 6) (t := 47) (v := (.pointer (some ⟨b, 0, none⟩))) (fuel := 7) rfl rfl (by kernel_rfl) (by kernel_rfl) (by kernel_rfl) (fun _ _ _ h => h) (.inl ⟨rfl, fun W hW => by obtain ⟨s0, s1⟩ := hW; simp [execOp, Act.eval, go_sem, s0, s1]⟩) hS ?_
          simp only [List.setIfInBounds_toArray, List.set_cons_succ, List.set_cons_zero]
          refine held_take (i := 7) (t := 48) (v := (.pointer (some ⟨b, 4, none⟩))) (fuel := 6) rfl rfl (by kernel_rfl) (by kernel_rfl) (by kernel_rfl) (fun _ _ _ h => h) (.inl ⟨rfl, fun W hW => by obtain ⟨s0, s1⟩ := hW; simp [execOp, Act.eval, go_sem, s0, s1]⟩) hS ?_
          simp only [List.setIfInBounds_toArray, List.set_cons_succ, List.set_cons_zero]
          refine held_take (i := 8) (t := 49) (v := (.pointer pc)) (fuel := 5) rfl rfl (by kernel_rfl) (by kernel_rfl) (by kernel_rfl) (fun _ _ _ h => h) (.inl ⟨rfl, fun W hW => by obtain ⟨s0, s1⟩ := hW; simp [execOp, Act.eval, go_sem, s0, s1]⟩) hS ?_
          simp only [List.setIfInBounds_toArray, List.set_cons_succ, List.set_cons_zero]
          refine held_take (i := 9) (t := 50) (v := (.string key)) (fuel := 4) rfl rfl (by kernel_rfl) (by kernel_rfl) (by kernel_rfl) (fun _ _ _ h => h) (.inl ⟨rfl, fun W hW => by obtain ⟨s0, s1⟩ := hW; simp [execOp, Act.eval, go_sem, s0, s1]⟩) hS ?_
          simp only [List.setIfInBounds_toArray, List.set_cons_succ, List.set_cons_zero]
          refine held_take (i := 10) (t := 51) (v := (.string t)) (fuel := 3) rfl rfl (by kernel_rfl) (by kernel_rfl) (by kernel_rfl) (fun _ _ _ h => h) (.inl ⟨rfl, fun W hW => by obtain ⟨s0, s1⟩ := hW; simp [execOp, Act.eval, go_sem, s0, s1]⟩) hS ?_
          simp only [List.setIfInBounds_toArray, List.set_cons_succ, List.set_cons_zero]
          refine held_call (i := 11) rfl (by kernel_rfl) (by kernel_rfl) ?_
          simp [Oper.wp, execOp, Act.eval, Act.put, go_sem]
          refine (HIH.out S u _ r1 key t W (by have := HN.out; have := HM2.out; omega) HU.out HC.out (rise_parts HR.out).2.1 (by have := HL.out; omega)).mono ?_
          rintro e W3 ⟨v, rfl, ht, hb⟩
          obtain ⟨p1, rfl⟩ := ht.ptr
          have Hp1 := Lib.hid ht
          replace hS := And.intro (And.intro ((hb.cell (p := ⟨b, 3, none⟩) (cell_lt hS.1.1)).trans hS.1.1) ((hb.cell (p := ⟨b, 4, none⟩) (cell_lt hS.1.2)).trans hS.1.2)) (hS.2.trans (hb.mono hS.2.size))
          have HBW3 := Lib.hid hb
          have HZW3 := Lib.hid hS.2
          clear ht hb
          refine ⟨hS, ?_⟩
          try simp only [List.setIfInBounds_toArray, List.set_cons_succ, List.set_cons_zero]
          refine held_call (i := 12) rfl (by kernel_rfl) (by kernel_rfl) ?_
          simp [Oper.wp, execOp, Act.eval, Act.put, go_sem]
          refine (evenS S u b x _ _ l1 (setK r1 key t) _ (Nat.le_trans HU.out HBW3.out.size) (HX.out.on HBW3.out) (HA.out.on HBW3.out) Hp1.out (by have := HL.out; have := HSL.out; omega)).mono ?_
          rintro e W4 ⟨v, rfl, ht, hb⟩
          obtain ⟨p2, rfl⟩ := ht.ptr
          have Hp2 := Lib.hid ht
          replace hS := And.intro (And.intro ((hb.cell (p := ⟨b, 3, none⟩) (cell_lt hS.1.1)).trans hS.1.1) ((hb.cell (p := ⟨b, 4, none⟩) (cell_lt hS.1.2)).trans hS.1.2)) (hS.2.trans (hb.mono hS.2.size))
          have HBW4 := Lib.hid hb
          have HZW4 := Lib.hid hS.2
          clear ht hb
          refine ⟨hS, ?_⟩
          try simp only [List.setIfInBounds_toArray, List.set_cons_succ, List.set_cons_zero]
          refine held_take (i := 13) (t := 6) (v := (.pointer p2)) (fuel := 0) rfl rfl (by kernel_rfl) (by kernel_rfl) (by kernel_rfl) (fun _ _ _ h => h) (.inl ⟨rfl, fun W hW => by obtain ⟨s0, s1⟩ := hW; simp [execOp, Act.eval, go_sem, s0, s1]⟩) hS ?_
          simp only [List.setIfInBounds_toArray, List.set_cons_succ, List.set_cons_zero]
          refine wpAnyH_done (by kernel_rfl) ?_ 0
          go_wp2
          go_ret
          exact ⟨_, rfl, Hp2.out, HZW4.out⟩
        · have hq2 := lk_no hgt
          have hk : x.k = key := by
            rcases ltK_tri x.k key with h1 | h1 | h1
            · exact absurd h1 hgt
            · exact h1
            · exact absurd h1 hlt
          have HSET := Lib.hid (show setK (l1 ++ x :: r1) key t = l1 ++ ⟨key, t⟩ :: r1 by rw [← hk]; exact setK_here hr)
          have hS1 : (w.drew.cell? ⟨b, 2, none⟩ = some (.int .i64 (M : Int)) ∧ w.drew.cell? ⟨b, 3, none⟩ = some (.pointer pa) ∧ w.drew.cell? ⟨b, 4, none⟩ = some (.pointer pc)) ∧ Below w.heap.size w w.drew := ⟨⟨c2, c3, c4⟩, hdr⟩
          rw [HSET.out]
          clear hn hu h hr hl ih hS hb ha hc hlen hdr hlt hgt c1 c2 c3 c4 hM hk HSET HIH
          go_enter Try.func37, Try.ntmps37
          go_wp2
          have hS := hS1
          clear hS1
          refine held_begin 17 (fun W => (W.cell? ⟨b, 2, none⟩ = some (.int .i64 (M : Int)) ∧ W.cell? ⟨b, 3, none⟩ = some (.pointer pa) ∧ W.cell? ⟨b, 4, none⟩ = some (.pointer pc)) ∧ Below w.heap.size w W) rfl (by kernel_rfl) ?_
          obtain ⟨W, hW⟩ : ∃ W, w.drew = W := ⟨_, rfl⟩
          rw [hW] at hS HX HA HC HU HB ⊢
          clear hW
          refine held_take (i := 0) (t := 54) (v := (.string key)) (fuel := 16) rfl rfl (by kernel_rfl) (by kernel_rfl) (by kernel_rfl) (fun _ _ _ h => h) (.inl ⟨rfl, fun W hW => by obtain ⟨s0, s1⟩ := hW; simp [execOp, Act.eval, go_sem, s0, s1]⟩) hS ?_
          simp only [List.setIfInBounds_toArray, List.set_cons_succ, List.set_cons_zero]
          refine held_take (i := 1) (t := 55) (v := (.string t)) (fuel := 15) rfl rfl (by kernel_rfl) (by kernel_rfl) (by kernel_rfl) (fun _ _ _ h => h) (.inl ⟨rfl, fun W hW => by obtain ⟨s0, s1⟩ := hW; simp [execOp, Act.eval, go_sem, s0, s1]⟩) hS ?_
          simp only [List.setIfInBounds_toArray, List.set_cons_succ, List.set_cons_zero]
          refine held_take (i := 2) (t := 56) (v := (.pointer (some ⟨b, 0, none⟩))) (fuel := 14) rfl rfl (by kernel_rfl) (by kernel_rfl) (by kernel_rfl) (fun _ _ _ h => h) (.inl ⟨rfl, fun W hW => by obtain ⟨s0, s1⟩ := hW; simp [execOp, Act.eval, go_sem, s0, s1]⟩) hS ?_
          simp only [List.setIfInBounds_toArray, List.set_cons_succ, List.set_cons_zero]
          refine held_take (i := 3) (t := 57) (v := (.pointer (some ⟨b, 0, none⟩))) (fuel := 13) rfl rfl (by kernel_rfl) (by kernel_rfl) (by kernel_rfl) (fun _ _ _ h => h) (.inl ⟨rfl, fun W hW => by obtain ⟨s0, s1⟩ := hW; simp [execOp, Act.eval, go_sem, s0, s1]⟩) hS ?_
          simp only [List.setIfInBounds_toArray, List.set_cons_succ, List.set_cons_zero]
          refine held_take (i := 4) (t := 58) (v := (.pointer (some ⟨b, 2, none⟩))) (fuel := 12) rfl rfl (by kernel_rfl) (by kernel_rfl) (by kernel_rfl) (fun _ _ _ h => h) (.inl ⟨rfl, fun W hW => by obtain ⟨s0, s1⟩ := hW; simp [execOp, Act.eval, go_sem, s0, s1]⟩) hS ?_
          simp only [List.setIfInBounds_toArray, List.set_cons_succ, List.set_cons_zero]
          refine held_take (i := 5) (t := 59) (v := (.int .i64 (M : Int))) (fuel := 11) rfl rfl (by kernel_rfl) (by kernel_rfl) (by kernel_rfl) (fun _ _ _ h => h) (.inl ⟨rfl, fun W hW => by obtain ⟨s0, s1⟩ := hW; simp [execOp, Act.eval, go_sem, s0, s1]⟩) hS ?_
          simp only [List.setIfInBounds_toArray, List.set_cons_succ, List.set_cons_zero]
          refine held_take (i := 6) (t := 60) (v := (.pointer (some ⟨b, 0, none⟩))) (fuel := 10) rfl rfl (by kernel_rfl) (by kernel_rfl) (by kernel_rfl) (fun _ _ _ h => h) (.inl ⟨rfl, fun W hW => by obtain ⟨s0, s1⟩ := hW; simp [execOp, Act.eval, go_sem, s0, s1]⟩) hS ?_
          simp only [List.setIfInBounds_toArray, List.set_cons_succ, List.set_cons_zero]
          refine held_take (i := 7) (t := 61) (v := (.pointer (some ⟨b, 0, none⟩))) (fuel := 9) rfl rfl (by kernel_rfl) (by kernel_rfl) (by kernel_rfl) (fun _ _ _ h => h) (.inl ⟨rfl, fun W hW => by obtain ⟨s0, s1⟩ := hW; simp [execOp, Act.eval, go_sem, s0, s1]⟩) hS ?_
          simp only [List.setIfInBounds_toArray, List.set_cons_succ, List.set_cons_zero]
          refine held_take (i := 8) (t := 62) (v := (.pointer (some ⟨b, 3, none⟩))) (fuel := 8) rfl rfl (by kernel_rfl) (by kernel_rfl) (by kernel_rfl) (fun _ _ _ h => h) (.inl ⟨rfl, fun W hW => by obtain ⟨s0, s1⟩ := hW; simp [execOp, Act.eval, go_sem, s0, s1]⟩) hS ?_
          simp only [List.setIfInBounds_toArray, List.set_cons_succ, List.set_cons_zero]
          refine held_take (i := 9) (t := 63) (v := (.pointer pa)) (fuel := 7) rfl rfl (by kernel_rfl) (by kernel_rfl) (by kernel_rfl) (fun _ _ _ h => h) (.inl ⟨rfl, fun W hW => by obtain ⟨s0, s1⟩ := hW; simp [execOp, Act.eval, go_sem, s0, s1]⟩) hS ?_
          simp only [List.setIfInBounds_toArray, List.set_cons_succ, List.set_cons_zero]
          refine held_take (i := 10) (t := 64) (v := (.pointer (some ⟨b, 0, none⟩))) (fuel := 6) rfl rfl (by kernel_rfl) (by kernel_rfl) (by kernel_rfl) (fun _ _ _ h => h) (.inl ⟨rfl, fun W hW => by obtain ⟨s0, s1⟩ := hW; simp [execOp, Act.eval, go_sem, s0, s1]⟩) hS ?_
          simp only [List.setIfInBounds_toArray, List.set_cons_succ, List.set_cons_zero]
          refine held_take (i := 11) (t := 65) (v := (.pointer (some ⟨b, 0, none⟩))) (fuel := 5) rfl rfl (by kernel_rfl) (by kernel_rfl) (by kernel_rfl) (fun _ _ _ h => h) (.inl ⟨rfl, fun W hW => by obtain ⟨s0, s1⟩ := hW; simp [execOp, Act.eval, go_sem, s0, s1]⟩) hS ?_
          simp only [List.setIfInBounds_toArray, List.set_cons_succ, List.set_cons_zero]
          refine held_take (i := 12) (t := 66) (v := (.pointer (some ⟨b, 4, none⟩))) (fuel := 4) rfl rfl (by kernel_rfl) (by kernel_rfl) (by kernel_rfl) (fun _ _ _ h => h) (.inl ⟨rfl, fun W hW => by obtain ⟨s0, s1⟩ := hW; simp [execOp, Act.eval, go_sem, s0, s1]⟩) hS ?_
          simp only [List.setIfInBounds_toArray, List.set_cons_succ, List.set_cons_zero]
          refine held_take (i := 13) (t := 67) (v := (.pointer pc)) (fuel := 3) rfl rfl (by kernel_rfl) (by kernel_rfl) (by kernel_rfl) (fun _ _ _ h => h) (.inl ⟨rfl, fun W hW => by obtain ⟨s0, s1⟩ := hW; simp [execOp, Act.eval, go_sem, s0, s1]⟩) hS ?_
          simp only [List.setIfInBounds_toArray, List.set_cons_succ, List.set_cons_zero]
          refine held_take (i := 14) (t := 68) (v := (.agg #[.string key, .string t, .int .i64 (M : Int), .pointer pa, .pointer pc])) (fuel := 2) rfl rfl (by kernel_rfl) (by kernel_rfl) (by kernel_rfl) (fun _ _ _ h => h) (.inl ⟨rfl, fun W hW => by obtain ⟨s0, s1⟩ := hW; simp [execOp, Act.eval, go_sem, s0, s1]⟩) hS ?_
          simp only [List.setIfInBounds_toArray, List.set_cons_succ, List.set_cons_zero]
          refine held_call (i := 15) rfl (by kernel_rfl) (by kernel_rfl) ?_
          simp [Oper.wp, execOp, Act.eval, Act.put, go_sem]
          have hM3 := TrAt.made (x := ⟨key, t⟩) HA.out HC.out HU.out
          rw [HM.out] at hM3
          have hb3 := (Below.refl W.heap.size W).alloc (Nat.le_refl _) (.cells #[.string key, .string t, .int .i64 (M : Int), .pointer pa, .pointer pc] 120)
          obtain ⟨W3, hW3⟩ : ∃ W3, W.alloc (.cells #[.string key, .string t, .int .i64 (M : Int), .pointer pa, .pointer pc] 120) = W3 := ⟨_, rfl⟩
          have hM4 : TrS (Up S u) W3 (.pointer (some ⟨W.heap.size, 0, none⟩)) (l1 ++ ⟨key, t⟩ :: r1) := by rw [← hW3]; exact hM3
          rw [hW3] at hb3 ⊢
          have HMK := Lib.hid hM4
          replace hS := And.intro (And.intro ((hb3.cell (p := ⟨b, 2, none⟩) (cell_lt hS.1.1)).trans hS.1.1) (And.intro ((hb3.cell (p := ⟨b, 3, none⟩) (cell_lt hS.1.2.1)).trans hS.1.2.1) ((hb3.cell (p := ⟨b, 4, none⟩) (cell_lt hS.1.2.2)).trans hS.1.2.2))) (hS.2.trans (hb3.mono hS.2.size))
          have HB3 := Lib.hid hS.2
          refine ⟨hS, ?_⟩
          clear hM3 hM4 hW3 hb3
          try simp only [List.setIfInBounds_toArray, List.set_cons_succ, List.set_cons_zero]
          refine held_take (i := 16) (t := 6) (v := (.pointer (some ⟨W.heap.size, 0, none⟩))) (fuel := 0) rfl rfl (by kernel_rfl) (by kernel_rfl) (by kernel_rfl) (fun _ _ _ h => h) (.inl ⟨rfl, fun W hW => by obtain ⟨s0, s1⟩ := hW; simp [execOp, Act.eval, go_sem, s0, s1]⟩) hS ?_
          simp only [List.setIfInBounds_toArray, List.set_cons_succ, List.set_cons_zero]
          refine wpAnyH_done (by kernel_rfl) ?_ 0
          go_wp2
          go_ret
          exact ⟨_, rfl, HMK.out, HB3.out⟩
end Go.Proofs.Ytmeoednndfgffaa

/- Layer 17, walked: the first and the last node of a tree of string; a key that goes. -/
namespace Go.Proofs.Ytmeoednndfgffaa
open Go Go.ChangeShapes Go.WideShapes Go.ChangeAt Go.RowKit
set_option linter.unusedVariables false
set_option linter.unusedSimpArgs false
theorem getK_firstS {r : List (KV ByteArray)} {c : KV ByteArray} : getK (c :: r) c.k = some c.v := by simp only [getK, if_pos]
/-- A node's place, and what it holds. -/
def NdOutS (w : World) (x : KV ByteArray) (e : Ending) (w' : World) : Prop := ∃ b, e = .returned (.pointer (some ⟨b, 0, none⟩)) ∧ NdS w b x ∧ w = w'
set_option maxHeartbeats 4000000 in
set_option maxRecDepth 40000 in
theorem lastS (S : Nat → Prop) (v : Value) (l : List (KV ByteArray)) (x : KV ByteArray) (w : World) (h : TrS S w v (l ++ [x])) :
    Calls Try.prog 79 #[v] w (NdOutS w x) := by
  have HG := Lib.hid (show ∃ l', TrS S w v (l' ++ [x]) from ⟨l, h⟩)
  clear h
  go_enter Try.func79, Try.ntmps79
  go_wp2
  go_loop [0] (fun nv => Hid (∃ l', TrS S w nv (l' ++ [x]))) (fun nv => szT w nv)
  case atStart => exact HG
  case round =>
    clear HG
    obtain ⟨l', ht⟩ := hrel.out
    clear hrel
    have hsz := ht.sz
    obtain ⟨b, y, a, c, l1, r1, rfl, hl, hS, hb, ha, hc⟩ := ht.some_ (by simp)
    obtain ⟨c0, c1, c2, c3, c4⟩ := nd_cells hb
    have hN : NdS w b y := ⟨_, _, _, hb⟩
    rcases hc.open_ with ⟨rfl, rfl⟩ | ⟨b2, y2, a2, cc2, l2, r2, rfl, hr2, hS2, hb2, ha2, hc2⟩
    · have hxy : y = x := by
        have := (List.append_inj' hl rfl).2
        injection this with h1 _
        exact h1.symm
      subst hxy
      have HN := Lib.hid hN
      clear ht hsz hl hS hb ha hc hN
      go_wp2
      go_ret
      exact ⟨b, rfl, HN.out, rfl⟩
    · have hne : r1 ≠ [] := by rw [hr2]; simp
      obtain ⟨t, z, hz⟩ : ∃ t z, r1 = t ++ [z] := ⟨_, _, (List.dropLast_concat_getLast hne).symm⟩
      have hxz : z = x := by
        rw [hz, ← List.cons_append, ← List.append_assoc] at hl
        have := (List.append_inj' hl rfl).2
        injection this with h1 _
        exact h1.symm
      have HNX := Lib.hid (show ∃ l', TrS S w (.pointer (some ⟨b2, 0, none⟩)) (l' ++ [x]) from ⟨t, by rw [← hxz, ← hz]; exact hc⟩)
      have HM := Lib.hid (show szT w (.pointer (some ⟨b2, 0, none⟩)) < szT w (.pointer (some ⟨b, 0, none⟩)) by rw [hsz, hc.sz, hl]; simp only [List.length_append, List.length_cons]; omega)
      clear ht hsz hl hS hb ha hc hN hr2 hS2 hb2 ha2 hc2 hne hz hxz
      go_wp2
      go_round
      case rel => exact HNX
      case measure => exact HM.out
set_option maxHeartbeats 4000000 in
set_option maxRecDepth 40000 in
theorem firstS (S : Nat → Prop) (v : Value) (l : List (KV ByteArray)) (x : KV ByteArray) (w : World) (h : TrS S w v (x :: l)) :
    Calls Try.prog 80 #[v] w (NdOutS w x) := by
  have HG := Lib.hid (show ∃ l', TrS S w v (x :: l') from ⟨l, h⟩)
  clear h
  go_enter Try.func80, Try.ntmps80
  go_wp2
  go_loop [0] (fun nv => Hid (∃ l', TrS S w nv (x :: l'))) (fun nv => szT w nv)
  case atStart => exact HG
  case round =>
    clear HG
    obtain ⟨l', ht⟩ := hrel.out
    clear hrel
    have hsz := ht.sz
    obtain ⟨b, y, a, c, l1, r1, rfl, hl, hS, hb, ha, hc⟩ := ht.some_ (by simp)
    obtain ⟨c0, c1, c2, c3, c4⟩ := nd_cells hb
    have hN : NdS w b y := ⟨_, _, _, hb⟩
    rcases ha.open_ with ⟨rfl, rfl⟩ | ⟨b2, y2, a2, cc2, l2, r2, rfl, hr2, hS2, hb2, ha2, hc2⟩
    · have hxy : y = x := by
        injection hl with h1 _
        exact h1.symm
      subst hxy
      have HN := Lib.hid hN
      clear ht hsz hl hS hb ha hc hN
      go_wp2
      go_ret
      exact ⟨b, rfl, HN.out, rfl⟩
    · have hne : l1 ≠ [] := by rw [hr2]; simp
      obtain ⟨z, t, hz⟩ : ∃ z t, l1 = z :: t := List.exists_cons_of_ne_nil hne
      have hxz : z = x := by
        rw [hz] at hl
        injection hl with h1 _
        exact h1.symm
      have HNX := Lib.hid (show ∃ l', TrS S w (.pointer (some ⟨b2, 0, none⟩)) (x :: l') from ⟨t, by rw [← hxz, ← hz]; exact ha⟩)
      have HM := Lib.hid (show szT w (.pointer (some ⟨b2, 0, none⟩)) < szT w (.pointer (some ⟨b, 0, none⟩)) by rw [hsz, ha.sz, hl]; simp only [List.length_append, List.length_cons]; omega)
      clear ht hsz hl hS hb ha hc hN hr2 hS2 hb2 ha2 hc2 hne hz hxz
      go_wp2
      go_round
      case rel => exact HNX
      case measure => exact HM.out
/-- A tree without a key: for trees of at most n keys. -/
def DelToS (n : Nat) : Prop := ∀ (S : Nat → Prop) (u : World) (v : Value) (l : List (KV ByteArray)) (key : ByteArray) (w : World), l.length ≤ n → u.heap.size ≤ w.heap.size → TrS (Up S u) w v l → RiseK l → (getK l key).isSome = true → l.length ≤ limB →
    Calls Try.prog 38 #[v, .string key] w (TrOutS S u w (dropK l key))
set_option maxHeartbeats 4000000 in
set_option maxRecDepth 40000 in
theorem joinS (n : Nat) (hd : DelToS n) (S : Nat → Prop) (u : World) (a c : Value) (l r : List (KV ByteArray)) (w : World) (hn : l.length + r.length ≤ n) (hu : u.heap.size ≤ w.heap.size) (ha : TrS (Up S u) w a l) (hc : TrS (Up S u) w c r) (hrl : RiseK l) (hrr : RiseK r) (hl : l.length + r.length ≤ limB) :
    Calls Try.prog 63 #[a, c] w (TrOutS S u w (l ++ r)) := by
  rcases ha.open_ with ⟨rfl, rfl⟩ | ⟨b, x, a1, c1, l1, r1, rfl, hle, hS, hb, ha1, hc1⟩
  · obtain ⟨pc, rfl⟩ := hc.ptr
    have HC := Lib.hid hc
    clear hd hn hu ha hc hrl hrr hl
    go_enter Try.func63, Try.ntmps63
    go_wp2
    go_ret
    exact ⟨_, rfl, HC.out, Below.refl _ _⟩
  · rcases hc.open_ with ⟨rfl, rfl⟩ | ⟨b2, y, a2, c2, l2, r2, rfl, hre, hS2, hb2, ha2, hc2⟩
    · have HA := Lib.hid ha
      clear hd hn hu ha hc hrl hrr hl hle hS hb ha1 hc1
      go_enter Try.func63, Try.ntmps63
      go_wp2
      go_ret
      exact ⟨_, rfl, by have h := HA.out; rwa [← List.append_nil l] at h, Below.refl _ _⟩
    · obtain ⟨_, _, d2, _, _⟩ := nd_cells hb
      obtain ⟨_, _, e2, _, _⟩ := nd_cells hb2
      have hln : l1.length + 1 + r1.length = l.length := by rw [hle]; simp only [List.length_append, List.length_cons]; omega
      have hrn : l2.length + 1 + r2.length = r.length := by rw [hre]; simp only [List.length_append, List.length_cons]; omega
      rw [hln] at d2
      rw [hrn] at e2
      have hlne : l ≠ [] := by rw [hle]; simp
      have hrne : r ≠ [] := by rw [hre]; simp
      obtain ⟨t1, z1, hz1⟩ : ∃ t z, l = t ++ [z] := ⟨_, _, (List.dropLast_concat_getLast hlne).symm⟩
      obtain ⟨z2, t2, hz2⟩ : ∃ z t, r = z :: t := List.exists_cons_of_ne_nil hrne
      have hdr := (Below.refl w.heap.size w).drew
      have HA := Lib.hid (ha.on hdr)
      have HC := Lib.hid (hc.on hdr)
      have HU := Lib.hid (show u.heap.size ≤ w.drew.heap.size from hu)
      have HB := Lib.hid hdr
      have HD := Lib.hid hd
      have HN := Lib.hid hn
      have HL := Lib.hid hl
      have HRL := Lib.hid hrl
      have HRR := Lib.hid hrr
      obtain ⟨nl, hnl⟩ : ∃ nl, l.length = nl := ⟨_, rfl⟩
      obtain ⟨nr, hnr⟩ : ∃ nr, r.length = nr := ⟨_, rfl⟩
      rw [hnl] at d2
      rw [hnr] at e2
      have HNL := Lib.hid hnl
      have HNR := Lib.hid hnr
      have HZ1 := Lib.hid hz1
      have HZ2 := Lib.hid hz2
      have hS1 : w.drew.cell? ⟨b, 2, none⟩ = some (.int .i64 (nl : Int)) ∧ w.drew.cell? ⟨b2, 2, none⟩ = some (.int .i64 (nr : Int)) := ⟨d2, e2⟩
      clear hd hn hu ha hc hrl hrr hl hle hS hb ha1 hc1 hre hS2 hb2 ha2 hc2 d2 e2 hln hrn hlne hrne hz1 hz2 hnl hnr hdr
      go_enter Try.func63, Try.ntmps63
      go_wp2
      have hS := hS1
      clear hS1
      by_cases hq : nr < nl
      all_goals
        refine held_begin 10 (fun W => W.cell? ⟨b, 2, none⟩ = some (.int .i64 (nl : Int)) ∧ W.cell? ⟨b2, 2, none⟩ = some (.int .i64 (nr : Int))) rfl (by kernel_rfl) ?_
        obtain ⟨W, hW⟩ : ∃ W, w.drew = W := ⟨_, rfl⟩
        rw [hW] at hS HA HC HU HB ⊢
        clear hW
        refine held_take (i := 0) (t := 16) (v := (.pointer (some ⟨b, 0, none⟩))) (fuel := 9) rfl rfl (by kernel_rfl) (by kernel_rfl) (by kernel_rfl) (fun _ _ _ h => h) (.inl ⟨rfl, fun W hW => by obtain ⟨s0, s1⟩ := hW; simp [execOp, Act.eval, go_sem, s0, s1]⟩) hS ?_
        simp only [List.setIfInBounds_toArray, List.set_cons_succ, List.set_cons_zero]
        refine held_take (i := 1) (t := 17) (v := (.pointer (some ⟨b, 0, none⟩))) (fuel := 8) rfl rfl (by kernel_rfl) (by kernel_rfl) (by kernel_rfl) (fun _ _ _ h => h) (.inl ⟨rfl, fun W hW => by obtain ⟨s0, s1⟩ := hW; simp [execOp, Act.eval, go_sem, s0, s1]⟩) hS ?_
        simp only [List.setIfInBounds_toArray, List.set_cons_succ, List.set_cons_zero]
        refine held_take (i := 2) (t := 18) (v := (.pointer (some ⟨b, 2, none⟩))) (fuel := 7) rfl rfl (by kernel_rfl) (by kernel_rfl) (by kernel_rfl) (fun _ _ _ h => h) (.inl ⟨rfl, fun W hW => by obtain ⟨s0, s1⟩ := hW; simp [execOp, Act.eval, go_sem, s0, s1]⟩) hS ?_
        simp only [List.setIfInBounds_toArray, List.set_cons_succ, List.set_cons_zero]
        refine held_take (i := 3) (t := 19) (v := (.int .i64 (nl : Int))) (fuel := 6) rfl rfl (by kernel_rfl) (by kernel_rfl) (by kernel_rfl) (fun _ _ _ h => h) (.inl ⟨rfl, fun W hW => by obtain ⟨s0, s1⟩ := hW; simp [execOp, Act.eval, go_sem, s0, s1]⟩) hS ?_
        simp only [List.setIfInBounds_toArray, List.set_cons_succ, List.set_cons_zero]
        refine held_take (i := 4) (t := 20) (v := (.pointer (some ⟨b2, 0, none⟩))) (fuel := 5) rfl rfl (by kernel_rfl) (by kernel_rfl) (by kernel_rfl) (fun _ _ _ h => h) (.inl ⟨rfl, fun W hW => by obtain ⟨s0, s1⟩ := hW; simp [execOp, Act.eval, go_sem, s0, s1]⟩) hS ?_
        simp only [List.setIfInBounds_toArray, List.set_cons_succ, List.set_cons_zero]
        refine held_take (i := 5) (t := 21) (v := (.pointer (some ⟨b2, 0, none⟩))) (fuel := 4) rfl rfl (by kernel_rfl) (by kernel_rfl) (by kernel_rfl) (fun _ _ _ h => h) (.inl ⟨rfl, fun W hW => by obtain ⟨s0, s1⟩ := hW; simp [execOp, Act.eval, go_sem, s0, s1]⟩) hS ?_
        simp only [List.setIfInBounds_toArray, List.set_cons_succ, List.set_cons_zero]
        refine held_take (i := 6) (t := 22) (v := (.pointer (some ⟨b2, 2, none⟩))) (fuel := 3) rfl rfl (by kernel_rfl) (by kernel_rfl) (by kernel_rfl) (fun _ _ _ h => h) (.inl ⟨rfl, fun W hW => by obtain ⟨s0, s1⟩ := hW; simp [execOp, Act.eval, go_sem, s0, s1]⟩) hS ?_
        simp only [List.setIfInBounds_toArray, List.set_cons_succ, List.set_cons_zero]
        refine held_take (i := 7) (t := 23) (v := (.int .i64 (nr : Int))) (fuel := 2) rfl rfl (by kernel_rfl) (by kernel_rfl) (by kernel_rfl) (fun _ _ _ h => h) (.inl ⟨rfl, fun W hW => by obtain ⟨s0, s1⟩ := hW; simp [execOp, Act.eval, go_sem, s0, s1]⟩) hS ?_
        simp only [List.setIfInBounds_toArray, List.set_cons_succ, List.set_cons_zero]
        refine held_take (i := 8) (t := 24) (v := (.bool (decide (nr < nl)))) (fuel := 1) rfl rfl (by kernel_rfl) (by kernel_rfl) (by kernel_rfl) (fun _ _ _ h => h) (.inl ⟨rfl, fun W hW => by obtain ⟨s0, s1⟩ := hW; simp [execOp, Act.eval, go_sem, s0, s1]⟩) hS ?_
        simp only [List.setIfInBounds_toArray, List.set_cons_succ, List.set_cons_zero]
        refine held_take (i := 9) (t := 15) (v := (.bool (decide (nr < nl)))) (fuel := 0) rfl rfl (by kernel_rfl) (by kernel_rfl) (by kernel_rfl) (fun _ _ _ h => h) (.inl ⟨rfl, fun W hW => by obtain ⟨s0, s1⟩ := hW; simp [execOp, Act.eval, go_sem, s0, s1]⟩) hS ?_
        simp only [List.setIfInBounds_toArray, List.set_cons_succ, List.set_cons_zero]
        refine wpAnyH_done (by kernel_rfl) ?_ 0
        clear hS
      · have HLST := Lib.hid (show Calls Try.prog 79 #[.pointer (some ⟨b, 0, none⟩)] W (NdOutS W z1) from lastS (Up S u) _ t1 z1 W (by rw [← HZ1.out]; exact HA.out))
        go_wp2_with (first
          | (go_at_call 79; go_loud (refine HLST.out.mono ?_; rintro en w2 ⟨bz, rfl, hz, rfl⟩; have HZN := Lib.hid hz; have z0 := hz.c0; clear hz))
          | (go_at_call 38; go_loud (refine (HD.out S u _ l z1.k W (by have := HN.out; omega) HU.out HA.out HRL.out (by rw [HZ1.out, getK_here (r := []) (by rw [← HZ1.out]; exact HRL.out)]; rfl) (by have := HL.out; omega)).mono ?_; rintro en w3 ⟨v1, rfl, ht1, hb1⟩; obtain ⟨p1, rfl⟩ := ht1.ptr; rw [HZ1.out, dropK_last (by rw [← HZ1.out]; exact HRL.out)] at ht1; have HV1 := Lib.hid (And.intro ht1 hb1); clear ht1 hb1))
          | (go_at_call 62; go_loud (refine (evenS S u bz z1 _ _ t1 r _ (Nat.le_trans HU.out HV1.out.2.size) (HZN.out.on HV1.out.2) HV1.out.1 (HC.out.on HV1.out.2) (by have h1 := HL.out; rw [HZ1.out, List.length_append] at h1; omega)).mono ?_; rintro en w4 ⟨v2, rfl, ht2, hb2⟩; obtain ⟨p2, rfl⟩ := ht2.ptr; have HV2 := Lib.hid (And.intro ht2 (HB.out.trans ((HV1.out.2.trans (hb2.mono HV1.out.2.size)).mono HB.out.size))); clear ht2 hb2)))
        go_ret
        exact ⟨_, rfl, by rw [HZ1.out]; have h := HV2.out.1; simpa using h, HV2.out.2⟩
      · have HLST := Lib.hid (show Calls Try.prog 80 #[.pointer (some ⟨b2, 0, none⟩)] W (NdOutS W z2) from firstS (Up S u) _ t2 z2 W (by rw [← HZ2.out]; exact HC.out))
        go_wp2_with (first
          | (go_at_call 80; go_loud (refine HLST.out.mono ?_; rintro en w2 ⟨bz, rfl, hz, rfl⟩; have HZN := Lib.hid hz; have z0 := hz.c0; clear hz))
          | (go_at_call 38; go_loud (refine (HD.out S u _ r z2.k W (by have := HN.out; omega) HU.out HC.out HRR.out (by rw [HZ2.out, getK_firstS]; rfl) (by have := HL.out; omega)).mono ?_; rintro en w3 ⟨v1, rfl, ht1, hb1⟩; obtain ⟨p1, rfl⟩ := ht1.ptr; rw [HZ2.out, dropK_first (by have h := HRR.out; rwa [HZ2.out] at h)] at ht1; have HV1 := Lib.hid (And.intro ht1 hb1); clear ht1 hb1))
          | (go_at_call 62; go_loud (refine (evenS S u bz z2 _ _ l t2 _ (Nat.le_trans HU.out HV1.out.2.size) (HZN.out.on HV1.out.2) (HA.out.on HV1.out.2) HV1.out.1 (by have h1 := HL.out; rw [HZ2.out, List.length_cons] at h1; omega)).mono ?_; rintro en w4 ⟨v2, rfl, ht2, hb2⟩; obtain ⟨p2, rfl⟩ := ht2.ptr; have HV2 := Lib.hid (And.intro ht2 (HB.out.trans ((HV1.out.2.trans (hb2.mono HV1.out.2.size)).mono HB.out.size))); clear ht2 hb2)))
        go_ret
        exact ⟨_, rfl, by rw [HZ2.out]; exact HV2.out.1, HV2.out.2⟩
set_option maxHeartbeats 4000000 in
set_option maxRecDepth 40000 in
theorem delS : ∀ (n : Nat), DelToS n := by
  intro n
  induction n with
  | zero =>
    intro S u v l key w hn hu h hr hk hl
    have : l = [] := List.eq_nil_of_length_eq_zero (by omega)
    subst this
    cases hk
  | succ n ih =>
    intro S u v l key w hn hu h hr hk hl
    rcases h.open_ with ⟨rfl, rfl⟩ | ⟨b, x, a, c, l1, r1, rfl, rfl, hS, hb, ha, hc⟩
    · cases hk
    · obtain ⟨pa, rfl⟩ := ha.ptr
      obtain ⟨pc, rfl⟩ := hc.ptr
      obtain ⟨c0, c1, c2, c3, c4⟩ := nd_cells hb
      have hlen : (l1 ++ x :: r1).length = l1.length + 1 + r1.length := by simp only [List.length_append, List.length_cons]; omega
      have hdr := (Below.refl w.heap.size w).drew
      have HX := Lib.hid (NdAt.on (show NdS w b x from ⟨_, _, _, hb⟩) hdr)
      have HA := Lib.hid (ha.on hdr)
      have HC := Lib.hid (hc.on hdr)
      have HU := Lib.hid (show u.heap.size ≤ w.drew.heap.size from hu)
      have HB := Lib.hid hdr
      have HN := Lib.hid (show l1.length + 1 + r1.length ≤ n + 1 by rw [← hlen]; exact hn)
      have HR := Lib.hid hr
      have HK := Lib.hid hk
      have HL := Lib.hid (show l1.length + 1 + r1.length ≤ limB by rw [← hlen]; exact hl)
      have HIH := Lib.hid ih
      have HJN := Lib.hid (fun W h1 h2 h3 => joinS n ih S u (.pointer pa) (.pointer pc) l1 r1 W (by have := HN.out; omega) h1 h2 h3 (rise_parts hr).1 (rise_parts hr).2.1 (by have := HL.out; omega))
      have hS1 : (w.drew.cell? ⟨b, 3, none⟩ = some (.pointer pa) ∧ w.drew.cell? ⟨b, 4, none⟩ = some (.pointer pc)) ∧ Below w.heap.size w w.drew := ⟨⟨c3, c4⟩, hdr⟩
      by_cases hlt : ltK key x.k
      · have hq := lk_yes hlt
        rw [dropK_before hr hlt]
        have HSL := Lib.hid (dropT_len l1 key)
        have HKY := Lib.hid (isSome_before hr hk hlt)
        clear hn hu h hr hl ih hS hb ha hc hlen hdr hlt hk c1 c2 c3 c4 HJN
        go_enter Try.func38, Try.ntmps38
        go_wp2
        have hS := hS1
        clear hS1
        refine held_begin 13 (fun W => (W.cell? ⟨b, 3, none⟩ = some (.pointer pa) ∧ W.cell? ⟨b, 4, none⟩ = some (.pointer pc)) ∧ Below w.heap.size w W) rfl (by kernel_rfl) ?_
        obtain ⟨W, hW⟩ : ∃ W, w.drew = W := ⟨_, rfl⟩
        rw [hW] at hS HX HA HC HU HB ⊢
        clear hW
        refine held_take (i := 0) (t := 12) (v := (.pointer (some ⟨b, 0, none⟩))) (fuel := 12) rfl rfl (by kernel_rfl) (by kernel_rfl) (by kernel_rfl) (fun _ _ _ h => h) (.inl ⟨rfl, fun W hW => by obtain ⟨s0, s1⟩ := hW; simp [execOp, Act.eval, go_sem, s0, s1]⟩) hS ?_
        simp only [List.setIfInBounds_toArray, List.set_cons_succ, List.set_cons_zero]
        refine held_take (i := 1) (t := 13) (v := (.pointer (some ⟨b, 0, none⟩))) (fuel := 11) rfl rfl (by kernel_rfl) (by kernel_rfl) (by kernel_rfl) (fun _ _ _ h => h) (.inl ⟨rfl, fun W hW => by obtain ⟨s0, s1⟩ := hW; simp [execOp, Act.eval, go_sem, s0, s1]⟩) hS ?_
        simp only [List.setIfInBounds_toArray, List.set_cons_succ, List.set_cons_zero]
        refine held_take (i := 2) (t := 14) (v := (.pointer (some ⟨b, 0, none⟩))) (fuel := 10) rfl rfl (by kernel_rfl) (by kernel_rfl) (by kernel_rfl) (fun _ _ _ h => h) (.inl ⟨rfl, fun W hW => by obtain ⟨s0, s1⟩ := hW; simp [execOp, Act.eval, go_sem, s0, s1]⟩) hS ?_
        simp only [List.setIfInBounds_toArray, List.set_cons_succ, List.set_cons_zero]
        refine held_take (i := 3) (t := 15) (v := (.pointer (some ⟨b, 3, none⟩))) (fuel := 9) rfl rfl (by kernel_rfl) (by kernel_rfl) (by kernel_rfl) (fun _ _ _ h => h) (.inl ⟨rfl, fun W hW => by obtain ⟨s0, s1⟩ := hW; simp [execOp, Act.eval, go_sem, s0, s1]⟩) hS ?_
        simp only [List.setIfInBounds_toArray, List.set_cons_succ, List.set_cons_zero]
        refine held_take (i := 4) (t := 16) (v := (.pointer pa)) (fuel := 8) rfl rfl (by kernel_rfl) (by kernel_rfl) (by kernel_rfl) (fun _ _ _ h => h) (.inl ⟨rfl, fun W hW => by obtain ⟨s0, s1⟩ := hW; simp [execOp, Act.eval, go_sem, s0, s1]⟩) hS ?_
        simp only [List.setIfInBounds_toArray, List.set_cons_succ, List.set_cons_zero]
        refine held_take (i := 5) (t := 17) (v := (.string key)) (fuel := 7) rfl rfl (by kernel_rfl) (by kernel_rfl) (by kernel_rfl) (fun _ _ _ h => h) (.inl ⟨rfl, fun W hW => by obtain ⟨s0, s1⟩ := hW; simp [execOp, Act.eval, go_sem, s0, s1]⟩) hS ?_
        simp only [List.setIfInBounds_toArray, List.set_cons_succ, List.set_cons_zero]
        refine held_take (i := 7) (t := 19) (v := (.pointer (some ⟨b, 0, none⟩))) (fuel := 6) rfl rfl (by kernel_rfl) (by kernel_rfl) (by kernel_rfl) (fun _ _ _ h => h) (.inl ⟨rfl, fun W hW => by obtain ⟨s0, s1⟩ := hW; simp [execOp, Act.eval, go_sem, s0, s1]⟩) hS ?_
        simp only [List.setIfInBounds_toArray, List.set_cons_succ, List.set_cons_zero]
        refine held_take (i := 8) (t := 20) (v := (.pointer (some ⟨b, 0, none⟩))) (fuel := 5) rfl rfl (by kernel_rfl) (by kernel_rfl) (by kernel_rfl) (fun _ _ _ h => h) (.inl ⟨rfl, fun W hW => by obtain ⟨s0, s1⟩ := hW; simp [execOp, Act.eval, go_sem, s0, s1]⟩) hS ?_
        simp only [List.setIfInBounds_toArray, List.set_cons_succ, List.set_cons_zero]
        refine held_take (i := 9) (t := 21) (v := (.pointer (some ⟨b, 4, none⟩))) (fuel := 4) rfl rfl (by kernel_rfl) (by kernel_rfl) (by kernel_rfl) (fun _ _ _ h => h) (.inl ⟨rfl, fun W hW => by obtain ⟨s0, s1⟩ := hW; simp [execOp, Act.eval, go_sem, s0, s1]⟩) hS ?_
        simp only [List.setIfInBounds_toArray, List.set_cons_succ, List.set_cons_zero]
        refine held_take (i := 10) (t := 22) (v := (.pointer pc)) (fuel := 3) rfl rfl (by kernel_rfl) (by kernel_rfl) (by kernel_rfl) (fun _ _ _ h => h) (.inl ⟨rfl, fun W hW => by obtain ⟨s0, s1⟩ := hW; simp [execOp, Act.eval, go_sem, s0, s1]⟩) hS ?_
        simp only [List.setIfInBounds_toArray, List.set_cons_succ, List.set_cons_zero]
        refine held_call (i := 6) rfl (by kernel_rfl) (by kernel_rfl) ?_
        simp [Oper.wp, execOp, Act.eval, Act.put, go_sem]
        refine (HIH.out S u _ l1 key W (by have := HN.out; omega) HU.out HA.out (rise_parts HR.out).1 HKY.out (by have := HL.out; omega)).mono ?_
        rintro e W3 ⟨v, rfl, ht, hb⟩
        obtain ⟨p1, rfl⟩ := ht.ptr
        have Hp1 := Lib.hid ht
        replace hS := And.intro (And.intro ((hb.cell (p := ⟨b, 3, none⟩) (cell_lt hS.1.1)).trans hS.1.1) ((hb.cell (p := ⟨b, 4, none⟩) (cell_lt hS.1.2)).trans hS.1.2)) (hS.2.trans (hb.mono hS.2.size))
        have HBW3 := Lib.hid hb
        have HZW3 := Lib.hid hS.2
        clear ht hb
        refine ⟨hS, ?_⟩
        try simp only [List.setIfInBounds_toArray, List.set_cons_succ, List.set_cons_zero]
        refine held_call (i := 11) rfl (by kernel_rfl) (by kernel_rfl) ?_
        simp [Oper.wp, execOp, Act.eval, Act.put, go_sem]
        refine (evenS S u b x _ _ (dropK l1 key) r1 _ (Nat.le_trans HU.out HBW3.out.size) (HX.out.on HBW3.out) Hp1.out (HC.out.on HBW3.out) (by have := HL.out; have := HSL.out; omega)).mono ?_
        rintro e W4 ⟨v, rfl, ht, hb⟩
        obtain ⟨p2, rfl⟩ := ht.ptr
        have Hp2 := Lib.hid ht
        replace hS := And.intro (And.intro ((hb.cell (p := ⟨b, 3, none⟩) (cell_lt hS.1.1)).trans hS.1.1) ((hb.cell (p := ⟨b, 4, none⟩) (cell_lt hS.1.2)).trans hS.1.2)) (hS.2.trans (hb.mono hS.2.size))
        have HBW4 := Lib.hid hb
        have HZW4 := Lib.hid hS.2
        clear ht hb
        refine ⟨hS, ?_⟩
        try simp only [List.setIfInBounds_toArray, List.set_cons_succ, List.set_cons_zero]
        refine held_take (i := 12) (t := 4) (v := (.pointer p2)) (fuel := 0) rfl rfl (by kernel_rfl) (by kernel_rfl) (by kernel_rfl) (fun _ _ _ h => h) (.inl ⟨rfl, fun W hW => by obtain ⟨s0, s1⟩ := hW; simp [execOp, Act.eval, go_sem, s0, s1]⟩) hS ?_
        simp only [List.setIfInBounds_toArray, List.set_cons_succ, List.set_cons_zero]
        refine wpAnyH_done (by kernel_rfl) ?_ 0
        go_wp2
        go_ret
        exact ⟨_, rfl, Hp2.out, HZW4.out⟩
      · have hq := lk_no hlt
        by_cases hgt : ltK x.k key
        · have hq2 := lk_yes hgt
          rw [dropK_behind hr hgt]
          have HSL := Lib.hid (dropT_len r1 key)
          have HKY := Lib.hid (isSome_behind hr hk hgt)
          clear hn hu h hr hl ih hS hb ha hc hlen hdr hlt hgt hk c1 c2 c3 c4 HJN
          go_enter Try.func38, Try.ntmps38
          go_wp2
          have hS := hS1
          clear hS1
          refine held_begin 13 (fun W => (W.cell? ⟨b, 3, none⟩ = some (.pointer pa) ∧ W.cell? ⟨b, 4, none⟩ = some (.pointer pc)) ∧ Below w.heap.size w W) rfl (by kernel_rfl) ?_
          obtain ⟨W, hW⟩ : ∃ W, w.drew = W := ⟨_, rfl⟩
          rw [hW] at hS HX HA HC HU HB ⊢
          clear hW
          refine held_take (i := 0) (t := 31) (v := (.pointer (some ⟨b, 0, none⟩))) (fuel := 12) rfl rfl (by kernel_rfl) (by kernel_rfl) (by kernel_rfl) (fun _ _ _ h => h) (.inl ⟨rfl, fun W hW => by obtain ⟨s0, s1⟩ := hW; simp [execOp, Act.eval, go_sem, s0, s1]⟩) hS ?_
          simp only [List.setIfInBounds_toArray, List.set_cons_succ, List.set_cons_zero]
          refine held_take (i := 1) (t := 32) (v := (.pointer (some ⟨b, 0, none⟩))) (fuel := 11) rfl rfl (by kernel_rfl) (by kernel_rfl) (by kernel_rfl) (fun _ _ _ h => h) (.inl ⟨rfl, fun W hW => by obtain ⟨s0, s1⟩ := hW; simp [execOp, Act.eval, go_sem, s0, s1]⟩) hS ?_
          simp only [List.setIfInBounds_toArray, List.set_cons_succ, List.set_cons_zero]
          refine held_take (i := 2) (t := 33) (v := (.pointer (some ⟨b, 0, none⟩))) (fuel := 10) rfl rfl (by kernel_rfl) (by kernel_rfl) (by kernel_rfl) (fun _ _ _ h => h) (.inl ⟨rfl, fun W hW => by obtain ⟨s0, s1⟩ := hW; simp [execOp, Act.eval, go_sem, s0, s1]⟩) hS ?_
          simp only [List.setIfInBounds_toArray, List.set_cons_succ, List.set_cons_zero]
          refine held_take (i := 3) (t := 34) (v := (.pointer (some ⟨b, 3, none⟩))) (fuel := 9) rfl rfl (by kernel_rfl) (by kernel_rfl) (by kernel_rfl) (fun _ _ _ h => h) (.inl ⟨rfl, fun W hW => by obtain ⟨s0, s1⟩ := hW; simp [execOp, Act.eval, go_sem, s0, s1]⟩) hS ?_
          simp only [List.setIfInBounds_toArray, List.set_cons_succ, List.set_cons_zero]
          refine held_take (i := 4) (t := 35) (v := (.pointer pa)) (fuel := 8) rfl rfl (by kernel_rfl) (by kernel_rfl) (by kernel_rfl) (fun _ _ _ h => h) (.inl ⟨rfl, fun W hW => by obtain ⟨s0, s1⟩ := hW; simp [execOp, Act.eval, go_sem, s0, s1]⟩) hS ?_
          simp only [List.setIfInBounds_toArray, List.set_cons_succ, List.set_cons_zero]
          refine held_take (i := 5) (t := 36) (v := (.pointer (some ⟨b, 0, none⟩))) (fuel := 7) rfl rfl (by kernel_rfl) (by kernel_rfl) (by kernel_rfl) (fun _ _ _ h => h) (.inl ⟨rfl, fun W hW => by obtain ⟨s0, s1⟩ := hW; simp [execOp, Act.eval, go_sem, s0, s1]⟩) hS ?_
          simp only [List.setIfInBounds_toArray, List.set_cons_succ, List.set_cons_zero]
          refine held_take (i := 6) (t := 37) (v := (.pointer (some ⟨b, 0, none⟩))) (fuel := 6) rfl rfl (by kernel_rfl) (by kernel_rfl) (by kernel_rfl) (fun _ _ _ h => h) (.inl ⟨rfl, fun W hW => by obtain ⟨s0, s1⟩ := hW; simp [execOp, Act.eval, go_sem, s0, s1]⟩) hS ?_
          simp only [List.setIfInBounds_toArray, List.set_cons_succ, List.set_cons_zero]
          refine held_take (i := 7) (t := 38) (v := (.pointer (some ⟨b, 4, none⟩))) (fuel := 5) rfl rfl (by kernel_rfl) (by kernel_rfl) (by kernel_rfl) (fun _ _ _ h => h) (.inl ⟨rfl, fun W hW => by obtain ⟨s0, s1⟩ := hW; simp [execOp, Act.eval, go_sem, s0, s1]⟩) hS ?_
          simp only [List.setIfInBounds_toArray, List.set_cons_succ, List.set_cons_zero]
          refine held_take (i := 8) (t := 39) (v := (.pointer pc)) (fuel := 4) rfl rfl (by kernel_rfl) (by kernel_rfl) (by kernel_rfl) (fun _ _ _ h => h) (.inl ⟨rfl, fun W hW => by obtain ⟨s0, s1⟩ := hW; simp [execOp, Act.eval, go_sem, s0, s1]⟩) hS ?_
          simp only [List.setIfInBounds_toArray, List.set_cons_succ, List.set_cons_zero]
          refine held_take (i := 9) (t := 40) (v := (.string key)) (fuel := 3) rfl rfl (by kernel_rfl) (by kernel_rfl) (by kernel_rfl) (fun _ _ _ h => h) (.inl ⟨rfl, fun W hW => by obtain ⟨s0, s1⟩ := hW; simp [execOp, Act.eval, go_sem, s0, s1]⟩) hS ?_
          simp only [List.setIfInBounds_toArray, List.set_cons_succ, List.set_cons_zero]
          refine held_call (i := 10) rfl (by kernel_rfl) (by kernel_rfl) ?_
          simp [Oper.wp, execOp, Act.eval, Act.put, go_sem]
          refine (HIH.out S u _ r1 key W (by have := HN.out; omega) HU.out HC.out (rise_parts HR.out).2.1 HKY.out (by have := HL.out; omega)).mono ?_
          rintro e W3 ⟨v, rfl, ht, hb⟩
          obtain ⟨p1, rfl⟩ := ht.ptr
          have Hp1 := Lib.hid ht
          replace hS := And.intro (And.intro ((hb.cell (p := ⟨b, 3, none⟩) (cell_lt hS.1.1)).trans hS.1.1) ((hb.cell (p := ⟨b, 4, none⟩) (cell_lt hS.1.2)).trans hS.1.2)) (hS.2.trans (hb.mono hS.2.size))
          have HBW3 := Lib.hid hb
          have HZW3 := Lib.hid hS.2
          clear ht hb
          refine ⟨hS, ?_⟩
          try simp only [List.setIfInBounds_toArray, List.set_cons_succ, List.set_cons_zero]
          refine held_call (i := 11) rfl (by kernel_rfl) (by kernel_rfl) ?_
          simp [Oper.wp, execOp, Act.eval, Act.put, go_sem]
          refine (evenS S u b x _ _ l1 (dropK r1 key) _ (Nat.le_trans HU.out HBW3.out.size) (HX.out.on HBW3.out) (HA.out.on HBW3.out) Hp1.out (by have := HL.out; have := HSL.out; omega)).mono ?_
          rintro e W4 ⟨v, rfl, ht, hb⟩
          obtain ⟨p2, rfl⟩ := ht.ptr
          have Hp2 := Lib.hid ht
          replace hS := And.intro (And.intro ((hb.cell (p := ⟨b, 3, none⟩) (cell_lt hS.1.1)).trans hS.1.1) ((hb.cell (p := ⟨b, 4, none⟩) (cell_lt hS.1.2)).trans hS.1.2)) (hS.2.trans (hb.mono hS.2.size))
          have HBW4 := Lib.hid hb
          have HZW4 := Lib.hid hS.2
          clear ht hb
          refine ⟨hS, ?_⟩
          try simp only [List.setIfInBounds_toArray, List.set_cons_succ, List.set_cons_zero]
          refine held_take (i := 12) (t := 4) (v := (.pointer p2)) (fuel := 0) rfl rfl (by kernel_rfl) (by kernel_rfl) (by kernel_rfl) (fun _ _ _ h => h) (.inl ⟨rfl, fun W hW => by obtain ⟨s0, s1⟩ := hW; simp [execOp, Act.eval, go_sem, s0, s1]⟩) hS ?_
          simp only [List.setIfInBounds_toArray, List.set_cons_succ, List.set_cons_zero]
          refine wpAnyH_done (by kernel_rfl) ?_ 0
          go_wp2
          go_ret
          exact ⟨_, rfl, Hp2.out, HZW4.out⟩
        · have hq2 := lk_no hgt
          have hk2 : x.k = key := by
            rcases ltK_tri x.k key with h1 | h1 | h1
            · exact absurd h1 hgt
            · exact h1
            · exact absurd h1 hlt
          have HDR := Lib.hid (show dropK (l1 ++ x :: r1) key = l1 ++ r1 by rw [← hk2]; exact dropK_here hr)
          rw [HDR.out]
          clear hn hu h hr hl ih hS hb ha hc hlen hdr hlt hgt hk c1 c2 c3 c4 hk2 HDR HIH
          go_enter Try.func38, Try.ntmps38
          go_wp2
          have hS := hS1
          clear hS1
          refine held_begin 10 (fun W => (W.cell? ⟨b, 3, none⟩ = some (.pointer pa) ∧ W.cell? ⟨b, 4, none⟩ = some (.pointer pc)) ∧ Below w.heap.size w W) rfl (by kernel_rfl) ?_
          obtain ⟨W, hW⟩ : ∃ W, w.drew = W := ⟨_, rfl⟩
          rw [hW] at hS HX HA HC HU HB ⊢
          clear hW
          refine held_take (i := 0) (t := 43) (v := (.pointer (some ⟨b, 0, none⟩))) (fuel := 9) rfl rfl (by kernel_rfl) (by kernel_rfl) (by kernel_rfl) (fun _ _ _ h => h) (.inl ⟨rfl, fun W hW => by obtain ⟨s0, s1⟩ := hW; simp [execOp, Act.eval, go_sem, s0, s1]⟩) hS ?_
          simp only [List.setIfInBounds_toArray, List.set_cons_succ, List.set_cons_zero]
          refine held_take (i := 1) (t := 44) (v := (.pointer (some ⟨b, 0, none⟩))) (fuel := 8) rfl rfl (by kernel_rfl) (by kernel_rfl) (by kernel_rfl) (fun _ _ _ h => h) (.inl ⟨rfl, fun W hW => by obtain ⟨s0, s1⟩ := hW; simp [execOp, Act.eval, go_sem, s0, s1]⟩) hS ?_
          simp only [List.setIfInBounds_toArray, List.set_cons_succ, List.set_cons_zero]
          refine held_take (i := 2) (t := 45) (v := (.pointer (some ⟨b, 3, none⟩))) (fuel := 7) rfl rfl (by kernel_rfl) (by kernel_rfl) (by kernel_rfl) (fun _ _ _ h => h) (.inl ⟨rfl, fun W hW => by obtain ⟨s0, s1⟩ := hW; simp [execOp, Act.eval, go_sem, s0, s1]⟩) hS ?_
          simp only [List.setIfInBounds_toArray, List.set_cons_succ, List.set_cons_zero]
          refine held_take (i := 3) (t := 46) (v := (.pointer pa)) (fuel := 6) rfl rfl (by kernel_rfl) (by kernel_rfl) (by kernel_rfl) (fun _ _ _ h => h) (.inl ⟨rfl, fun W hW => by obtain ⟨s0, s1⟩ := hW; simp [execOp, Act.eval, go_sem, s0, s1]⟩) hS ?_
          simp only [List.setIfInBounds_toArray, List.set_cons_succ, List.set_cons_zero]
          refine held_take (i := 4) (t := 47) (v := (.pointer (some ⟨b, 0, none⟩))) (fuel := 5) rfl rfl (by kernel_rfl) (by kernel_rfl) (by kernel_rfl) (fun _ _ _ h => h) (.inl ⟨rfl, fun W hW => by obtain ⟨s0, s1⟩ := hW; simp [execOp, Act.eval, go_sem, s0, s1]⟩) hS ?_
          simp only [List.setIfInBounds_toArray, List.set_cons_succ, List.set_cons_zero]
          refine held_take (i := 5) (t := 48) (v := (.pointer (some ⟨b, 0, none⟩))) (fuel := 4) rfl rfl (by kernel_rfl) (by kernel_rfl) (by kernel_rfl) (fun _ _ _ h => h) (.inl ⟨rfl, fun W hW => by obtain ⟨s0, s1⟩ := hW; simp [execOp, Act.eval, go_sem, s0, s1]⟩) hS ?_
          simp only [List.setIfInBounds_toArray, List.set_cons_succ, List.set_cons_zero]
          refine held_take (i := 6) (t := 49) (v := (.pointer (some ⟨b, 4, none⟩))) (fuel := 3) rfl rfl (by kernel_rfl) (by kernel_rfl) (by kernel_rfl) (fun _ _ _ h => h) (.inl ⟨rfl, fun W hW => by obtain ⟨s0, s1⟩ := hW; simp [execOp, Act.eval, go_sem, s0, s1]⟩) hS ?_
          simp only [List.setIfInBounds_toArray, List.set_cons_succ, List.set_cons_zero]
          refine held_take (i := 7) (t := 50) (v := (.pointer pc)) (fuel := 2) rfl rfl (by kernel_rfl) (by kernel_rfl) (by kernel_rfl) (fun _ _ _ h => h) (.inl ⟨rfl, fun W hW => by obtain ⟨s0, s1⟩ := hW; simp [execOp, Act.eval, go_sem, s0, s1]⟩) hS ?_
          simp only [List.setIfInBounds_toArray, List.set_cons_succ, List.set_cons_zero]
          refine held_call (i := 8) rfl (by kernel_rfl) (by kernel_rfl) ?_
          simp [Oper.wp, execOp, Act.eval, Act.put, go_sem]
          refine (HJN.out W HU.out HA.out HC.out).mono ?_
          rintro e W3 ⟨v, rfl, ht, hb⟩
          obtain ⟨p1, rfl⟩ := ht.ptr
          have Hp1 := Lib.hid ht
          replace hS := And.intro (And.intro ((hb.cell (p := ⟨b, 3, none⟩) (cell_lt hS.1.1)).trans hS.1.1) ((hb.cell (p := ⟨b, 4, none⟩) (cell_lt hS.1.2)).trans hS.1.2)) (hS.2.trans (hb.mono hS.2.size))
          have HBW3 := Lib.hid hb
          have HZW3 := Lib.hid hS.2
          clear ht hb
          refine ⟨hS, ?_⟩
          try simp only [List.setIfInBounds_toArray, List.set_cons_succ, List.set_cons_zero]
          refine held_take (i := 9) (t := 4) (v := (.pointer p1)) (fuel := 0) rfl rfl (by kernel_rfl) (by kernel_rfl) (by kernel_rfl) (fun _ _ _ h => h) (.inl ⟨rfl, fun W hW => by obtain ⟨s0, s1⟩ := hW; simp [execOp, Act.eval, go_sem, s0, s1]⟩) hS ?_
          simp only [List.setIfInBounds_toArray, List.set_cons_succ, List.set_cons_zero]
          refine wpAnyH_done (by kernel_rfl) ?_ 0
          go_wp2
          go_ret
          exact ⟨_, rfl, Hp1.out, HZW3.out⟩
end Go.Proofs.Ytmeoednndfgffaa
