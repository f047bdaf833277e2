/- source: Read while the power is on. -/
import Derived.Test.YtkcnmajjfljilaaGreatDoorSoPl
import Derived.Test.YtkcnmajjfljilaaGreatDoorRegAll
namespace Go.Proofs.YtkcnmajjfljilaaGreatDoor
open Go Go.ChangeShapes Go.WideShapes Go.ChangeAt Go.RowKit Go.ChangeMaps Go.MapKept
set_option linter.unusedVariables false
set_option linter.unusedSimpArgs false

theorem recs_by {W : World} {B n c : Nat} {A : Option Addr} {vs : List Value} {bs : List (List UInt8)} (h : W.ownsRow B 30 1 (.slice A n c) n vs) (k : RecsAt W vs bs) (j : Nat) (hj : j < bs.length) :
    ∃ g A' c', A = some ⟨g, 0, none⟩ ∧ g < W.heap.size ∧ W.cell? ⟨g, j, none⟩ = some (.slice A' bs[j].length c') ∧ BytesAt W W.heap.size A' bs[j] ∧ U8At W A' := by
  obtain ⟨A', c', h1, h2, h3⟩ := k.2 j hj
  have hn : n = vs.length := by have := h.1; omega
  have hl := k.1
  obtain ⟨g, cap, hv, _, hlt⟩ := h.form (by omega)
  have hc := h.cells (g := g) (by rw [hv]; rfl) j _ h1
  injection hv with e1 _ _
  rw [add_at, Nat.zero_add] at hc
  exact ⟨g, A', c', e1, hlt, hc, h2, h3⟩
/-- A record, and where it stands. -/
structure R3 where
  p : Nat
  a : Nat
  b : List UInt8
  A : Option Addr
  c : Nat
def r3C (x : R3) : List Value := [.int .i64 (x.p : Int), .int .i64 (x.a : Int), .slice x.A x.b.length x.c]
theorem r3C_length (x : R3) : (r3C x).length = 3 := rfl
theorem r3C_one (x : R3) : ∀ u ∈ r3C x, u.oneCell' = true := by simp [r3C, Value.oneCell']
theorem infoRec : (Tryz.prog.info? 53).map (fun i => (i.zero, i.size, i.bytes)) = some (some (Value.agg #[.int .i64 0, .int .i64 0, .slice none 0 0]), 3, 40) := by kernel_rfl
/-- The records' bytes lie somewhere. -/
def RsAt (W : World) (xs : List R3) : Prop := ∀ x ∈ xs, BytesAt W W.heap.size x.A x.b ∧ U8At W x.A
theorem RsAt.below {W W' : World} {xs : List R3} (h : RsAt W xs) (hb : Below W.heap.size W W') : RsAt W' xs := fun x hx => ⟨ml_bytes (h x hx).1 hb, (h x hx).2.below hb⟩
theorem bytes_grown {W W' : World} {A : Option Addr} {b : List UInt8} {B n : Nat} {v : Value} {xs : List Value} (h : BytesAt W W.heap.size A b) (hu : U8At W A) (hr : W.ownsRow B 53 3 v n xs) (hg : W.grownBy W' v.ownBlock) : BytesAt W' W'.heap.size A b ∧ U8At W' A := by
  have hne : ∀ k : Nat, (∃ (d : Array Value) (z : Nat × Nat), W.heap[k]? = some (Obj.cells d 5 z)) → W'.heap[k]? = W.heap[k]? := by
    rintro k ⟨d, z, hk⟩
    refine hg.block k (Array.getElem?_eq_some_iff.1 hk).1 (fun e => ?_)
    obtain ⟨d2, hd2, _⟩ := own_cells hr e.symm
    have e2 := Option.some.inj (hk.symm.trans hd2)
    injection e2 with _ e3
    exact absurd e3 (by decide)
  refine ⟨fun i hi => ?_, fun a ha => ?_⟩
  · obtain ⟨b, off, e, hlt, hc⟩ := h i hi
    exact ⟨b, off, e, Nat.lt_of_lt_of_le hlt hg.size, (World.cell?_of_block (a := ⟨b, off + i, none⟩) (hne b (hu _ e))).trans hc⟩
  · obtain ⟨d, z, hk⟩ := hu a ha
    exact ⟨d, z, (hne _ ⟨d, z, hk⟩).trans hk⟩
theorem RsAt.grown {W W' : World} {xs : List R3} {B n : Nat} {v : Value} {vs : List Value} (h : RsAt W xs) (hr : W.ownsRow B 53 3 v n vs) (hg : W.grownBy W' v.ownBlock) : RsAt W' xs := fun x hx => bytes_grown (h x hx).1 (h x hx).2 hr hg
theorem cells_grown {W W' : World} {g : Nat} {cs : Array Value} {t : TypeId} {B n : Nat} {v : Value} {vs : List Value} (h : Cells W g cs t) (ht : t ≠ 53) (hr : W.ownsRow B 53 3 v n vs) (hg : W.grownBy W' v.ownBlock) : Cells W' g cs t := by
  refine (hg.block g h.lt (fun e => ?_)).trans h
  obtain ⟨d2, hd2, _⟩ := own_cells hr e.symm
  exact h.ne hd2 ht rfl
theorem row_grown {W W' : World} {B1 n1 : Nat} {v1 : Value} {vs1 : List Value} {B n : Nat} {v : Value} {vs : List Value} (h : W.ownsRow B1 30 1 v1 n1 vs1) (hr : W.ownsRow B 53 3 v n vs) (hg : W.grownBy W' v.ownBlock) : W'.ownsRow B1 30 1 v1 n1 vs1 := by
  refine h.kept hg ?_
  cases hv : v1.ownBlock with
  | none => exact .inl rfl
  | some r =>
    refine .inr fun e => ?_
    obtain ⟨d1, hd1, _⟩ := own_cells h hv
    obtain ⟨d2, hd2, _⟩ := own_cells hr e.symm
    exact hd1.ne hd2 (by decide) rfl
/-- The places of the ranges ahead of k. -/
def keysK (k f t : Nat) : List (Nat × Nat) := (List.range' f (t - f)).map fun a => (k, a)
def keysTo (l : List Rg) : Nat → List (Nat × Nat)
  | 0 => []
  | k + 1 => keysTo l k ++ keysK k ((l.getD k ⟨0, 0⟩).f.toNat) ((l.getD k ⟨0, 0⟩).t.toNat)
theorem keysTo_succ {l : List Rg} {k f t : Nat} (hk : k < l.length) (hf : l[k].f = (f : Int)) (ht : l[k].t = (t : Int)) : keysTo l (k + 1) = keysTo l k ++ keysK k f t := by
  have e : l.getD k ⟨0, 0⟩ = l[k] := by simp [List.getD, hk]
  show keysTo l k ++ keysK k ((l.getD k ⟨0, 0⟩).f.toNat) ((l.getD k ⟨0, 0⟩).t.toNat) = _
  rw [e, hf, ht]; rfl
theorem keysK_succ (k f i : Nat) : keysK k f (f + (i + 1)) = keysK k f (f + i) ++ [(k, f + i)] := by
  unfold keysK
  rw [show f + (i + 1) - f = i + 1 by omega, show f + i - f = i by omega, List.range'_concat]
  simp
theorem keysK_zero (k f : Nat) : keysK k f f = [] := by simp [keysK]
def keyOf (x : R3) : Nat × Nat := (x.p, x.a)
/-- The records, and their bytes. -/
def Tells (ps : List Pt) (xs : List R3) : Prop := ∀ x ∈ xs, ∃ pt, ps[x.p]? = some pt ∧ pt.rs[x.a]? = some x.b
def SReadPost (ps : List Pt) (l : List Rg) (w : World) (e : Ending) (w' : World) : Prop :=
  ∃ A c xs, e = .returned (.tuple #[.slice A xs.length c, .int .i64 0]) ∧ xs.map keyOf = keysTo l ps.length ∧ Tells ps xs ∧ w'.ownsRow w.heap.size 53 3 (.slice A xs.length c) xs.length (xs.flatMap r3C) ∧ RsAt w' xs ∧ Below w.heap.size w w'
theorem Wasok.nat {ps : List Pt} {l : List Rg} (h : Wasok ps l) {k : Nat} (hk : k < l.length) : ∃ f t : Nat, l[k].f = (f : Int) ∧ l[k].t = (t : Int) ∧ f ≤ t := by
  have := h.at_ hk
  exact ⟨l[k].f.toNat, l[k].t.toNat, by omega, by omega, by omega⟩
section
variable {Q : Nat → Prop} {B s f M : Nat} {room used size : Int} {ps : List Pt} {S : Fs} {w w' : World} {l : List Rg}
/-- How many places ranges have, one by one. -/
theorem keysTo_length (hw : Wasok ps l) : ∀ k, k ≤ l.length → (keysTo l k).length ≤ 16000 * k ∨ ∃ j, ∃ h : j < l.length, ∃ h2 : j < ps.length, 16000 < ps[j].dur
  | 0, _ => .inl (by simp [keysTo])
  | k + 1, hk => by
    obtain ⟨f, t, h1, h2, h3⟩ := hw.nat (k := k) (by omega)
    rcases keysTo_length hw k (by omega) with h | h
    · have hl := hw.len
      have hle := hw.le k (by omega) (by omega)
      by_cases hb : 16000 < ps[k].dur
      · exact .inr ⟨k, by omega, by omega, hb⟩
      · refine .inl ?_
        rw [keysTo_succ (by omega) h1 h2, List.length_append]
        have : (keysK k f t).length = t - f := by simp [keysK]
        omega
    · exact .inr h
set_option maxRecDepth 100000 in
set_option maxHeartbeats 16000000 in
theorem sread_src (h : Src Q B s f room used M size ps S w) (hw : Wasok ps l) (hM : M ≤ 1000000) (hBw : B ≤ w.heap.size) (hT : Tab B w) (A0 : Option Addr) (c0 : Nat) (hat : RowC rgCells 2 w w.heap.size A0 l) :
    Calls Tryz.prog 18 #[.pointer (some ⟨s, 0, none⟩), .slice A0 ps.length c0] w (SReadPost ps l w) := by
  have hl := h.len
  have HCK := Lib.hid (check_src h hw A0 c0 hat)
  have HSRC := Lib.hid h
  have HW := Lib.hid hw
  have HA := Lib.hid hat
  have HLEN := Lib.hid hw.len
  have HTAB := Lib.hid hT
  have HFEW := Lib.hid h.logs.few
  have HREAD := Lib.hid (fun (W : World) (hb : Below w.heap.size w W) (k : Nat) (hk : k < ps.length) (lo hi : Nat) (h1 : lo ≤ hi) (h2 : hi ≤ ps[k].rs.length) => (show Calls Tryz.prog 32 #[.pointer (some ⟨ps[k].l, 0, none⟩), .int .i64 (lo : Int), .int .i64 (hi : Int)] W (ReadP ps[k].rs lo (hi - lo) W) from by
    obtain ⟨Q', _, hsg, _⟩ := (h.below hb).logs.at_ hk
    exact read_sg hsg hM (Nat.le_trans hBw hb.size) (hT.below (hb.mono hBw)) lo hi h1 h2))
  clear h hw hat hT
  go_enter Tryz.func18, Tryz.ntmps18
  go_wp2_with (go_at_call 30; go_loud (refine HCK.out.mono ?_; rintro e w1 ⟨rfl, h1⟩; have HB1 := Lib.hid h1; clear h1))
  go_loopw [7, 24] (fun av iv wr => ∃ (k : Nat) (A : Option Addr) (c : Nat) (xs : List R3), av = .slice A xs.length c ∧ iv = .int .i64 (k : Int) ∧ k ≤ ps.length ∧ Hid (xs.map keyOf = keysTo l k) ∧ Hid (Tells ps xs) ∧ Hid (wr.ownsRow w.heap.size 53 3 (.slice A xs.length c) xs.length (xs.flatMap r3C)) ∧ Hid (RsAt wr xs) ∧ Hid (Below w.heap.size w wr)) (fun _ iv _ => ps.length - (intOf iv).toNat)
  case atStart => exact ⟨0, none, 0, [], rfl, rfl, Nat.zero_le _, Lib.hid rfl, Lib.hid (fun x hx => absurd hx (by simp)), Lib.hid (World.ownsRow_nil _ _ _ 3), Lib.hid (fun x hx => absurd hx (by simp)), HB1⟩
  case round =>
    obtain ⟨k, A, c, xs, rfl, rfl, hk, HK, HTE, HO, HRS, HB⟩ := hrel
    by_cases hlt : k < ps.length
    · have hkl : k < l.length := by rw [HLEN.out]; exact hlt
      obtain ⟨b, off, hA0, hb, r0, r1⟩ := rg_r (HA.out.below HB.out) k hkl
      subst hA0
      obtain ⟨lo, hi, e0, e1, hlh⟩ := HW.out.nat hkl
      have hfw := HFEW.out k hlt
      have hle := HW.out.le k hkl hlt
      have HKS := Lib.hid (keysTo_succ hkl e0 e1)
      rw [e0] at r0
      rw [e1] at r1 hle
      have hhi : hi ≤ ps[k].rs.length := by omega
      have HRD := Lib.hid (fun (W : World) (hbW : Below w.heap.size w W) => HREAD.out W hbW k hlt lo hi hlh hhi)
      have ck : wr.cell? ⟨s, k, none⟩ = some (lp ps k) := ((HSRC.out.below HB.out).cells.cell k).trans (soC_at _ _ (by omega))
      rw [lp_at hlt] at ck
      have HPT := Lib.hid (show ∀ i, i < hi - lo → ∃ pt, ps[k]? = some pt ∧ pt.rs[lo + i]? = ((ps[k].rs.drop lo).take (hi - lo))[i]? from fun i hi2 => ⟨ps[k], List.getElem?_eq_getElem hlt, by rw [List.getElem?_take_of_lt hi2, List.getElem?_drop]⟩)
      have hbsl : ((ps[k].rs.drop lo).take (hi - lo)).length = hi - lo := by rw [List.length_take, List.length_drop]; omega
      obtain ⟨bs, hbs⟩ : ∃ bs, (ps[k].rs.drop lo).take (hi - lo) = bs := ⟨_, rfl⟩
      obtain ⟨lg, hlg⟩ : ∃ lg, ps[k].l = lg := ⟨_, rfl⟩
      obtain ⟨rk, hrk⟩ : ∃ rk, ps[k].rs = rk := ⟨_, rfl⟩
      simp only [hrk] at HPT hbsl hbs HRD hhi hfw
      simp only [hbs] at HPT hbsl
      rw [hlg] at ck HRD
      have HBS := Lib.hid hbs
      have HBSL := Lib.hid hbsl
      have hh16 : hi ≤ 16000 := by omega
      have hk4 : k < 4 := by omega
      have hk5 : (k : Int) < 4 := by omega
      have hlt2 : (k : Int) < (ps.length : Int) := by omega
      have hxl : xs.length ≤ 64000 := by
        have h1 := congrArg List.length HK.out
        rw [List.length_map] at h1
        rcases keysTo_length HW.out k (by omega) with h2 | ⟨j, h2, h3, h4⟩
        · omega
        · have := HFEW.out j h3; omega
      have hsw : s < wr.heap.size := (HSRC.out.below HB.out).cells.lt
      have hbW : b < wr.heap.size := Nat.lt_of_lt_of_le hb HB.out.size
      clear e0 e1 hbs hlg hrk hhi hfw hle hbsl hkl
      go_wp2_with fail
      obtain ⟨gb, hgb⟩ : ∃ g, wr.heap.size = g := ⟨_, rfl⟩
      have hbox : Below wr.heap.size wr (wr.alloc (.cells #[.int .i64 (lo : Int), .int .i64 (hi : Int)] 59)) := (Below.refl _ _).alloc (Nat.le_refl _) _
      have hcb : Cells (wr.alloc (.cells #[.int .i64 (lo : Int), .int .i64 (hi : Int)] 59)) wr.heap.size #[.int .i64 (lo : Int), .int .i64 (hi : Int)] 59 := Cells.new wr _ _
      obtain ⟨w5, hw5⟩ : ∃ V, wr.alloc (.cells #[.int .i64 (lo : Int), .int .i64 (hi : Int)] 59) = V := ⟨_, rfl⟩
      rw [hw5] at hbox hcb
      rw [hgb] at hcb
      try rw [hw5]
      try rw [hgb]
      have ck5 := cell_later hbox ck
      have HBOX := Lib.hid hbox
      have HCB := Lib.hid hcb
      have q0 : w5.cell? ⟨gb, 0, none⟩ = some (.int .i64 (lo : Int)) := hcb.cell 0
      have q1 : w5.cell? ⟨gb, 1, none⟩ = some (.int .i64 (hi : Int)) := hcb.cell 1
      clear hbox hcb hw5 hgb
      refine wp_mono ?_ noPanic_le
      refine held_begin 16 (fun W => W.cell? ⟨s, k, none⟩ = some (.pointer (some ⟨lg, 0, none⟩)) ∧ W.cell? ⟨gb, 0, none⟩ = some (.int .i64 (lo : Int)) ∧ W.cell? ⟨gb, 1, none⟩ = some (.int .i64 (hi : Int))) rfl (by kernel_rfl) ?_
      have hS : w5.drew.cell? ⟨s, k, none⟩ = some (.pointer (some ⟨lg, 0, none⟩)) ∧ w5.drew.cell? ⟨gb, 0, none⟩ = some (.int .i64 (lo : Int)) ∧ w5.drew.cell? ⟨gb, 1, none⟩ = some (.int .i64 (hi : Int)) := ⟨ck5, q0, q1⟩
      refine held_take (i := 0) (t := 30) (v := (.pointer (some ⟨s, 0, none⟩))) (fuel := 15) rfl rfl (by kernel_rfl) (by kernel_rfl) (by kernel_rfl) (fun _ _ _ h => h) (.inl ⟨rfl, fun W hW => by obtain ⟨w1, w2, w3⟩ := hW; simp [execOp, Act.eval, go_sem, w1, w2, w3]⟩) hS ?_
      simp only [List.setIfInBounds_toArray, List.set_cons_succ, List.set_cons_zero]
      refine held_take (i := 1) (t := 31) (v := (.int .i64 (k : Int))) (fuel := 14) rfl rfl (by kernel_rfl) (by kernel_rfl) (by kernel_rfl) (fun _ _ _ h => h) (.inl ⟨rfl, fun W hW => by obtain ⟨w1, w2, w3⟩ := hW; simp [execOp, Act.eval, go_sem, w1, w2, w3]⟩) hS ?_
      simp only [List.setIfInBounds_toArray, List.set_cons_succ, List.set_cons_zero]
      refine held_take (i := 2) (t := 32) (v := (.pointer (some ⟨s, 0, none⟩))) (fuel := 13) rfl rfl (by kernel_rfl) (by kernel_rfl) (by kernel_rfl) (fun _ _ _ h => h) (.inl ⟨rfl, fun W hW => by obtain ⟨w1, w2, w3⟩ := hW; simp [execOp, Act.eval, go_sem, w1, w2, w3]⟩) hS ?_
      simp only [List.setIfInBounds_toArray, List.set_cons_succ, List.set_cons_zero]
      refine held_take (i := 3) (t := 33) (v := (.pointer (some ⟨s, 0, none⟩))) (fuel := 12) rfl rfl (by kernel_rfl) (by kernel_rfl) (by kernel_rfl) (fun _ _ _ h => h) (.inl ⟨rfl, fun W hW => by obtain ⟨w1, w2, w3⟩ := hW; simp [execOp, Act.eval, go_sem, w1, w2, w3]⟩) hS ?_
      simp only [List.setIfInBounds_toArray, List.set_cons_succ, List.set_cons_zero]
      refine held_take (i := 4) (t := 34) (v := (.pointer (some ⟨s, k, none⟩))) (fuel := 11) rfl rfl (by kernel_rfl) (by kernel_rfl) (by kernel_rfl) (fun _ _ _ h => h) (.inl ⟨rfl, fun W hW => by obtain ⟨w1, w2, w3⟩ := hW; simp [execOp, Act.eval, go_sem, w1, w2, w3, hk4, hk5]⟩) hS ?_
      simp only [List.setIfInBounds_toArray, List.set_cons_succ, List.set_cons_zero]
      refine held_take (i := 5) (t := 35) (v := (.pointer (some ⟨lg, 0, none⟩))) (fuel := 10) rfl rfl (by kernel_rfl) (by kernel_rfl) (by kernel_rfl) (fun _ _ _ h => h) (.inl ⟨rfl, fun W hW => by obtain ⟨w1, w2, w3⟩ := hW; simp [execOp, Act.eval, go_sem, w1, w2, w3]⟩) hS ?_
      simp only [List.setIfInBounds_toArray, List.set_cons_succ, List.set_cons_zero]
      refine held_take (i := 6) (t := 36) (v := (.pointer (some ⟨gb, 0, none⟩))) (fuel := 9) rfl rfl (by kernel_rfl) (by kernel_rfl) (by kernel_rfl) (fun _ _ _ h => h) (.inl ⟨rfl, fun W hW => by obtain ⟨w1, w2, w3⟩ := hW; simp [execOp, Act.eval, go_sem, w1, w2, w3]⟩) hS ?_
      simp only [List.setIfInBounds_toArray, List.set_cons_succ, List.set_cons_zero]
      refine held_take (i := 7) (t := 37) (v := (.int .i64 (lo : Int))) (fuel := 8) rfl rfl (by kernel_rfl) (by kernel_rfl) (by kernel_rfl) (fun _ _ _ h => h) (.inl ⟨rfl, fun W hW => by obtain ⟨w1, w2, w3⟩ := hW; simp [execOp, Act.eval, go_sem, w1, w2, w3]⟩) hS ?_
      simp only [List.setIfInBounds_toArray, List.set_cons_succ, List.set_cons_zero]
      refine held_take (i := 8) (t := 38) (v := (.pointer (some ⟨gb, 1, none⟩))) (fuel := 7) rfl rfl (by kernel_rfl) (by kernel_rfl) (by kernel_rfl) (fun _ _ _ h => h) (.inl ⟨rfl, fun W hW => by obtain ⟨w1, w2, w3⟩ := hW; simp [execOp, Act.eval, go_sem, w1, w2, w3]⟩) hS ?_
      simp only [List.setIfInBounds_toArray, List.set_cons_succ, List.set_cons_zero]
      refine held_take (i := 9) (t := 39) (v := (.int .i64 (hi : Int))) (fuel := 6) rfl rfl (by kernel_rfl) (by kernel_rfl) (by kernel_rfl) (fun _ _ _ h => h) (.inl ⟨rfl, fun W hW => by obtain ⟨w1, w2, w3⟩ := hW; simp [execOp, Act.eval, go_sem, w1, w2, w3]⟩) hS ?_
      simp only [List.setIfInBounds_toArray, List.set_cons_succ, List.set_cons_zero]
      refine held_call (i := 10) rfl (by kernel_rfl) (by kernel_rfl) ?_
      simp [Oper.wp, execOp, Act.eval, Act.put, go_sem]
      refine (HRD.out w5.drew (HB.out.trans ((HBOX.out.mono HB.out.size).drew))).mono ?_
      rintro e w6 ⟨Ag, cg, vs, rfl, p1, p2, p3⟩
      have hb6 : Below w5.heap.size w5 w6 := below_undrew p3
      have HB6 := Lib.hid (HB.out.trans ((HBOX.out.trans (hb6.mono HBOX.out.size)).mono HB.out.size))
      have hbr : Below wr.heap.size wr w6 := HBOX.out.trans (hb6.mono HBOX.out.size)
      have HO6 := Lib.hid (own_below HO.out hbr)
      have HRS6 := Lib.hid (HRS.out.below hbr)
      have HG6 := Lib.hid (show Cells w6 gb #[.int .i64 (lo : Int), .int .i64 (hi : Int)] 59 from (hb6.block gb HCB.out.lt).trans HCB.out)
      rw [HBS.out] at p2
      have HP6 := Lib.hid (show w6.ownsRow 0 30 1 (.slice Ag (hi - lo) cg) (hi - lo) vs ∧ RecsAt w6 vs bs from ⟨p1.mono (Nat.zero_le _), p2⟩)
      have hS : w6.cell? ⟨s, k, none⟩ = some (.pointer (some ⟨lg, 0, none⟩)) ∧ w6.cell? ⟨gb, 0, none⟩ = some (.int .i64 (lo : Int)) ∧ w6.cell? ⟨gb, 1, none⟩ = some (.int .i64 (hi : Int)) := ⟨cell_later hb6 hS.1, cell_later hb6 hS.2.1, cell_later hb6 hS.2.2⟩
      refine ⟨hS, ?_⟩
      try simp only [List.setIfInBounds_toArray, List.set_cons_succ, List.set_cons_zero]
      refine held_take (i := 11) (t := 29) (v := (.tuple #[.slice Ag (hi - lo) cg, .int .i64 0])) (fuel := 4) rfl rfl (by kernel_rfl) (by kernel_rfl) (by kernel_rfl) (fun _ _ _ h => h) (.inl ⟨rfl, fun W hW => by obtain ⟨w1, w2, w3⟩ := hW; simp [execOp, Act.eval, go_sem, w1, w2, w3]⟩) hS ?_
      simp only [List.setIfInBounds_toArray, List.set_cons_succ, List.set_cons_zero]
      refine held_take (i := 12) (t := 41) (v := (.slice Ag (hi - lo) cg)) (fuel := 3) rfl rfl (by kernel_rfl) (by kernel_rfl) (by kernel_rfl) (fun _ _ _ h => h) (.inl ⟨rfl, fun W hW => by obtain ⟨w1, w2, w3⟩ := hW; simp [execOp, Act.eval, go_sem, w1, w2, w3]⟩) hS ?_
      simp only [List.setIfInBounds_toArray, List.set_cons_succ, List.set_cons_zero]
      refine held_take (i := 13) (t := 42) (v := (.int .i64 0)) (fuel := 2) rfl rfl (by kernel_rfl) (by kernel_rfl) (by kernel_rfl) (fun _ _ _ h => h) (.inl ⟨rfl, fun W hW => by obtain ⟨w1, w2, w3⟩ := hW; simp [execOp, Act.eval, go_sem, w1, w2, w3]⟩) hS ?_
      simp only [List.setIfInBounds_toArray, List.set_cons_succ, List.set_cons_zero]
      refine held_take (i := 14) (t := 10) (v := (.slice Ag (hi - lo) cg)) (fuel := 1) rfl rfl (by kernel_rfl) (by kernel_rfl) (by kernel_rfl) (fun _ _ _ h => h) (.inl ⟨rfl, fun W hW => by obtain ⟨w1, w2, w3⟩ := hW; simp [execOp, Act.eval, go_sem, w1, w2, w3]⟩) hS ?_
      simp only [List.setIfInBounds_toArray, List.set_cons_succ, List.set_cons_zero]
      refine held_take (i := 15) (t := 11) (v := (.int .i64 0)) (fuel := 0) rfl rfl (by kernel_rfl) (by kernel_rfl) (by kernel_rfl) (fun _ _ _ h => h) (.inl ⟨rfl, fun W hW => by obtain ⟨w1, w2, w3⟩ := hW; simp [execOp, Act.eval, go_sem, w1, w2, w3]⟩) hS ?_
      simp only [List.setIfInBounds_toArray, List.set_cons_succ, List.set_cons_zero]
      refine wpAnyH_done (by kernel_rfl) ?_ 0
      unfold noPanic
      clear ck ck5 q0 q1 hS p1 p2 p3 hb6 hbr
      go_wp2_with fail
      go_loopw [7, 48] (fun av iv wr => ∃ (i : Nat) (A : Option Addr) (c : Nat) (ys : List R3), av = .slice A ys.length c ∧ iv = .int .i64 (i : Int) ∧ i ≤ hi - lo ∧ Hid (ys.map keyOf = keysTo l k ++ keysK k lo (lo + i)) ∧ Hid (Tells ps ys) ∧ ys.length = xs.length + i ∧ Hid (wr.ownsRow w.heap.size 53 3 (.slice A ys.length c) ys.length (ys.flatMap r3C)) ∧ Hid (RsAt wr ys) ∧ Hid (Below w.heap.size w wr) ∧ Hid (Cells wr gb #[.int .i64 (lo : Int), .int .i64 (hi : Int)] 59) ∧ Hid (wr.ownsRow 0 30 1 (.slice Ag (hi - lo) cg) (hi - lo) vs ∧ RecsAt wr vs bs)) (fun _ iv _ => (hi - lo) - (intOf iv).toNat)
      case atStart => exact ⟨0, A, c, xs, rfl, rfl, Nat.zero_le _, Lib.hid (by rw [Nat.add_zero, keysK_zero, List.append_nil]; exact HK.out), HTE, rfl, HO6, HRS6, HB6, HG6, HP6⟩
      case round =>
        obtain ⟨i, A2, c2, ys, rfl, rfl, hi2, HKy, HTy, hyl, HOy, HRy, HBy, HGy, HPy⟩ := hrel
        by_cases hil : i < hi - lo
        · obtain ⟨pt, hp1, hp3⟩ := HPT.out i hil
          have hp2 : i < bs.length := by rw [HBSL.out]; exact hil
          rw [List.getElem?_eq_getElem hp2] at hp3
          obtain ⟨gg, A', c', hAg, hgl, cellj, byj, u8j⟩ := recs_by HPy.out.1 HPy.out.2 i hp2
          subst hAg
          have g0 : wr.cell? ⟨gb, 0, none⟩ = some (.int .i64 (lo : Int)) := HGy.out.cell 0
          have HP3 := Lib.hid hp3
          have HP1 := Lib.hid hp1
          obtain ⟨r, hr⟩ : ∃ r, bs[i] = r := ⟨_, rfl⟩
          rw [hr] at cellj byj HP3
          have HBYJ := Lib.hid byj
          have HU8J := Lib.hid u8j
          obtain ⟨x, hx⟩ : ∃ x : R3, x = ⟨k, lo + i, r, A', c'⟩ := ⟨_, rfl⟩
          have HX := Lib.hid hx
          have hxc : r3C x = [.int .i64 (k : Int), .int .i64 ((lo : Int) + (i : Int)), .slice A' r.length c'] := by rw [hx]; simp [r3C]
          have HXC := Lib.hid hxc.symm
          have s1 : IntKind.i64.wrap ((lo : Int) + (i : Int)) = (lo : Int) + (i : Int) := wrap_id (by omega)
          have hil2 : (i : Int) < ((hi - lo : Nat) : Int) := by omega
          obtain ⟨L, hLy⟩ : ∃ L, ys.length = L := ⟨_, rfl⟩
          have HLY := Lib.hid hLy
          rw [hLy] at HOy hyl ⊢
          have HYL := Lib.hid hyl
          have hL6 : L + 1 ≤ 100000 := by omega
          clear hp1 hp2 hp3 hr byj u8j hx hxc hLy hyl
          go_wp2_with (at_builtin; go_loud (refine append_item Tryz.underlying49 infoRec rfl (by decide) r3C_length r3C_one rfl _ _ rfl w.heap.size A2 L c2 ys rfl wr x HOy.out HBy.out.size wr.heap.size rfl rfl (by omega) (by unfold maxLen; omega) _ HXC.out ?_; rintro A5 n5 c5 w7 rfl hown hb7 hg7; have HO7 := Lib.hid hown; have HG7 := Lib.hid hg7; have HB7 := Lib.hid (HBy.out.trans (hb7.mono (Nat.le_refl _))); clear hown hb7 hg7))
          have hal : Below wr.heap.size wr (wr.alloc (.cells (r3C x).toArray 53)) := (Below.refl _ _).alloc (Nat.le_refl _) _
          rw [HXC.out] at HG7
          have hra := HOy.out.alloc (.cells (r3C x).toArray 53)
          have HR8 := Lib.hid (show RsAt w7 (ys ++ [x]) from by
            have h1 : RsAt (wr.alloc (.cells (r3C x).toArray 53)) (ys ++ [x]) := by
              intro y hy
              rcases List.mem_append.1 hy with h | h
              · exact (HRy.out.below hal) y h
              · rw [List.mem_singleton.1 h]
                have e1 : x.A = A' := by rw [HX.out]
                have e2 : x.b = r := by rw [HX.out]
                rw [e1, e2]
                exact ⟨ml_bytes HBYJ.out hal, HU8J.out.below hal⟩
            exact h1.grown hra HG7.out)
          have HG8 := Lib.hid (cells_grown (HGy.out.alloc _) (by decide) hra HG7.out)
          have HP8 := Lib.hid (show w7.ownsRow 0 30 1 (.slice (some ⟨gg, 0, none⟩) (hi - lo) cg) (hi - lo) vs ∧ RecsAt w7 vs bs from ⟨row_grown (HPy.out.1.alloc _) hra HG7.out, by
            have h1 := HPy.out.2.below hal
            exact ⟨h1.1, fun j hj => by obtain ⟨a, cc, q1, q2, q3⟩ := h1.2 j hj; exact ⟨a, cc, q1, (bytes_grown q2 q3 hra HG7.out).1, (bytes_grown q2 q3 hra HG7.out).2⟩⟩⟩)
          have HK8 := Lib.hid (show (ys ++ [x]).map keyOf = keysTo l k ++ keysK k lo (lo + (i + 1)) by rw [keysK_succ, ← List.append_assoc, ← HKy.out, List.map_append, HX.out]; rfl)
          have HT8 := Lib.hid (show Tells ps (ys ++ [x]) from fun y hy => by
            rcases List.mem_append.1 hy with h | h
            · exact HTy.out y h
            · rw [List.mem_singleton.1 h, HX.out]
              exact ⟨pt, HP1.out, HP3.out⟩)
          have hl8 : (ys ++ [x]).length = L + 1 := by rw [List.length_append, HLY.out]; rfl
          have HL8 := Lib.hid hl8
          clear hal hra hl8
          go_roundw
          case rel => exact ⟨i + 1, A5, c5, ys ++ [x], by rw [HL8.out], by go_num, hil, HK8, HT8, by rw [HL8.out, HYL.out]; omega, Lib.hid (by rw [HL8.out]; exact HO7.out), HR8, HB7, HG8, HP8⟩
          case measure => simp [intOf]; omega
        · obtain rfl : i = hi - lo := by omega
          have hil2 : ¬ ((hi - lo : Nat) : Int) < ((hi - lo : Nat) : Int) := by omega
          have HK9 := Lib.hid (show ys.map keyOf = keysTo l (k + 1) by rw [HKS.out, HKy.out, show lo + (hi - lo) = hi by omega])
          go_wp2_with fail
          go_roundw
          case rel => exact ⟨k + 1, A2, c2, ys, rfl, by go_num, hlt, HK9, HTy, HOy, HRy, HBy⟩
          case measure => simp [intOf]; omega
    · obtain rfl : k = ps.length := by omega
      have hlt2 : ¬ (ps.length : Int) < (ps.length : Int) := by omega
      go_wp2_with fail
      go_ret2
      exact ⟨A, c, xs, rfl, HK.out, HTE.out, HO.out, HRS.out, HB.out⟩
end
end Go.Proofs.YtkcnmajjfljilaaGreatDoor
