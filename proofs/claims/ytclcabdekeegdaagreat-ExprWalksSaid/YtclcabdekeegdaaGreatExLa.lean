/- Several texts in one: ExL, ExLb, ExLc. -/
import Derived.Test.YtclcabdekeegdaaGreatExWjk
import Derived.Recover
/- Layer 13, walked: given up, and told. -/
namespace Go.Proofs.YtclcabdekeegdaaGreat
open Go.ChangeShapes Go.WideShapes Go.ChangeAt Go.RowKit
set_option linter.unusedVariables false
set_option linter.unusedSimpArgs false
def saved (er : Int) : PanicEntry := { v := .iface 29 (.int .i64 er), recovered := true }
theorem errno_told (er : Int) (W : World) : (Instr.typeAssert (.iface 29 (.int .i64 er)) 20 29 false).run Tryz.prog W = .ok (.int .i64 er) W := by kernel_rfl
set_option maxRecDepth 20000 in
theorem catch_i (p : Addr) (x : Value) (er : Int) (w : World) (hc : w.cell? p = some x) (hz : w.frozen? p = false) :
    CallsD Tryz.prog 95 #[.pointer (some p)] (.panicking [gaveUp er]) w fun e u' w' =>
      e = .returned (.tuple #[]) ∧ u' = .panicking [saved er] ∧ w' = w.setCell p (.int .i64 er) := by
  refine callsD_of_wpS Tryz.func95 rfl fun c₀ cs hu => ?_
  apply wpS_seq
  apply wpS_region
  simp [wpOpsS, go_sem, recoverD, hu, Tryz.ntmps95, Exit.thenS, gaveUp]
  apply wpS_seq
  apply wpS_region
  simp [wpOpsS, go_sem, Exit.thenS, Array.replicate, Act.eval]
  refine wpS_cond (t := true) (by simp [Act.eval, Array.replicate]) ?_
  simp only [if_true]
  apply wpS_region
  simp [wpOpsS, go_sem, hc, hz, errno_told, bodyPostS, results, Tryz.results95, saved]
set_option maxRecDepth 20000 in
theorem idle_i (p : Addr) (w : World) :
    CallsD Tryz.prog 95 #[.pointer (some p)] .returning w fun e u' w' => e = .returned (.tuple #[]) ∧ u' = .returning ∧ w' = w := by
  refine callsD_of_wpS Tryz.func95 rfl fun c₀ cs hu => ?_
  apply wpS_seq
  apply wpS_region
  simp [wpOpsS, go_sem, recoverD, hu, Tryz.ntmps95, Exit.thenS]
  apply wpS_seq
  apply wpS_region
  simp [wpOpsS, go_sem, Exit.thenS, Array.replicate, Act.eval]
  refine wpS_cond (t := false) (by simp [Act.eval, Array.replicate]) ?_
  simp only [Bool.false_eq_true, if_false]
  refine wpS_of_wp (wp_skip ?_)
  cases c₀
  simp_all [bodyPostS, results, Tryz.results95]
set_option maxRecDepth 20000 in
theorem catch_v (p : Addr) (x : Value) (er : Int) (w : World) (hc : w.cell? p = some x) (hz : w.frozen? p = false) :
    CallsD Tryz.prog 97 #[.pointer (some p)] (.panicking [gaveUp er]) w fun e u' w' =>
      e = .returned (.tuple #[]) ∧ u' = .panicking [saved er] ∧ w' = w.setCell p (.int .i64 er) := by
  refine callsD_of_wpS Tryz.func97 rfl fun c₀ cs hu => ?_
  apply wpS_seq
  apply wpS_region
  simp [wpOpsS, go_sem, recoverD, hu, Tryz.ntmps97, Exit.thenS, gaveUp]
  apply wpS_seq
  apply wpS_region
  simp [wpOpsS, go_sem, Exit.thenS, Array.replicate, Act.eval]
  refine wpS_cond (t := true) (by simp [Act.eval, Array.replicate]) ?_
  simp only [if_true]
  apply wpS_region
  simp [wpOpsS, go_sem, hc, hz, errno_told, bodyPostS, results, Tryz.results97, saved]
set_option maxRecDepth 20000 in
theorem idle_v (p : Addr) (w : World) :
    CallsD Tryz.prog 97 #[.pointer (some p)] .returning w fun e u' w' => e = .returned (.tuple #[]) ∧ u' = .returning ∧ w' = w := by
  refine callsD_of_wpS Tryz.func97 rfl fun c₀ cs hu => ?_
  apply wpS_seq
  apply wpS_region
  simp [wpOpsS, go_sem, recoverD, hu, Tryz.ntmps97, Exit.thenS]
  apply wpS_seq
  apply wpS_region
  simp [wpOpsS, go_sem, Exit.thenS, Array.replicate, Act.eval]
  refine wpS_cond (t := false) (by simp [Act.eval, Array.replicate]) ?_
  simp only [Bool.false_eq_true, if_false]
  refine wpS_of_wp (wp_skip ?_)
  cases c₀
  simp_all [bodyPostS, results, Tryz.results97]
end Go.Proofs.YtclcabdekeegdaaGreat

/- Layer 13, walked: what is told, or the error with which it is given up. -/
namespace Go.Proofs.YtclcabdekeegdaaGreat
open Go.ChangeShapes Go.WideShapes Go.ChangeAt Go.RowKit
set_option linter.unusedVariables false
set_option linter.unusedSimpArgs false
/-- One cell of a block, to be written. -/
def Box1 (w : World) (g : Nat) (x : Value) (T : Nat) : Prop := w.heap[g]? = some (.cells #[x] T (0, 0))
theorem Box1.lt {w : World} {g : Nat} {x : Value} {T : Nat} (h : Box1 w g x T) : g < w.heap.size := (Array.getElem?_eq_some_iff.1 h).1
theorem Box1.c0 {w : World} {g : Nat} {x : Value} {T : Nat} (h : Box1 w g x T) : w.cell? ⟨g, 0, none⟩ = some x := by simp [World.cell?, show w.heap[g]? = _ from h]
theorem Box1.free {w : World} {g : Nat} {x : Value} {T : Nat} (h : Box1 w g x T) (i : Nat) : w.frozen? ⟨g, i, none⟩ = false := by simp [World.frozen?, show w.heap[g]? = _ from h]
theorem Box1.below {w w2 : World} {g : Nat} {x : Value} {T : Nat} (h : Box1 w g x T) (hb : Below w.heap.size w w2) : Box1 w2 g x T := (hb.block g h.lt).trans h
theorem Box1.set {w : World} {g : Nat} {x : Value} {T : Nat} (h : Box1 w g x T) (y : Value) : Box1 (w.setCell ⟨g, 0, none⟩ y) g y T := heap_set h _
/-- An int and an error. -/
def endI (r : Int × Int) : Ending := .returned (.tuple #[.int .i64 r.1, .int .i64 r.2])
def endV (r : V × Int) : Ending := .returned (.tuple #[r.1.val, .int .i64 r.2])
theorem new_errno (w : World) : Box1 (w.alloc (.cells #[.int .i64 0] 29)) w.heap.size (.int .i64 0) 29 := World.alloc_heap_new _ _
set_option maxHeartbeats 2000000 in
set_option maxRecDepth 20000 in
theorem unlessI_any (g : Nat) (p1 p2 : Value) (eg : ∀ args W, (callFunc g args).run Tryz.prog W = .ok (.enter g args) W) (r : Int × Int) (hr : r.2 ≠ 0 → r.1 = 0) (w : World) (hg : ∀ W, Below w.heap.size w W → Calls Tryz.prog g #[p1, p2] W fun en w' => en = endK r ∧ Below W.heap.size W w') :
    Calls Tryz.prog 39 #[.func (.func g) #[] #[p1, p2]] w fun en w' => en = endI r ∧ Below w.heap.size w w' := by
  have hmf : ∀ (fn : Fn) (first cap : Array Value) (w : World), (Instr.makeFunc fn first cap).run Tryz.prog w = .ok (.func fn first cap) w := fun _ _ _ _ => rfl
  obtain ⟨k, er⟩ := r
  obtain ⟨W1, hW1⟩ : ∃ W1, w.alloc (.cells #[.int .i64 0] 29) = W1 := ⟨_, rfl⟩
  have hb1 : Below w.heap.size w W1 := by rw [← hW1]; exact (Below.refl _ w).alloc (Nat.le_refl _) _
  have HX := Lib.hid (show Box1 W1 w.heap.size (.int .i64 0) 29 by rw [← hW1]; exact new_errno w)
  have HC := Lib.hid (hg W1 hb1)
  have HB := Lib.hid hb1
  have hen := eg
  clear hg eg hb1
  by_cases he : er = 0
  · subst he
    rw [endK_ok] at HC
    clear hr
    go_enter_defers Tryz.func39, Tryz.ntmps39
    go_wp2_with (go_at_fn g; refine HC.out.mono ?_; rintro e w2 ⟨rfl, hb2⟩; have HX2 := Lib.hid (HX.out.below hb2); have HB2 := Lib.hid (hop0 HB.out hb2); have x0 := HX2.out.c0; have x1 := HX2.out.free 0; clear hb2)
    have x0 := HX2.out.c0
    have x1 := HX2.out.free 0
    refine leaves_cons (f := 95) (args := #[.pointer (some ⟨w.heap.size, 0, none⟩)]) (by simp) (by simp [go_sem]) ?_
    refine (idle_i ⟨w.heap.size, 0, none⟩ _).mono ?_
    rintro e u' w'' ⟨rfl, rfl, rfl⟩
    exact ⟨.tuple #[.int .i64 k, .int .i64 0], by simp [results, Tryz.results39, go_sem, x0], rfl, Below.row HB2.out (Nat.le_refl _) _⟩
  · rw [endK_no he] at HC
    obtain rfl : k = 0 := hr he
    clear hr
    go_enter_defers Tryz.func39, Tryz.ntmps39
    go_wp2_with (go_at_fn g; refine HC.out.mono ?_; rintro e w2 ⟨rfl, hb2⟩; have HX2 := Lib.hid (HX.out.below hb2); have HB2 := Lib.hid (hop0 HB.out hb2); clear hb2)
    have x0 := HX2.out.c0
    have x1 := HX2.out.free 0
    refine leaves_cons (f := 95) (args := #[.pointer (some ⟨w.heap.size, 0, none⟩)]) (by simp) (by simp [go_sem]) ?_
    refine (catch_i ⟨w.heap.size, 0, none⟩ (.int .i64 0) er _ x0 x1).mono ?_
    rintro e u' w'' ⟨rfl, rfl, rfl⟩
    exact ⟨.tuple #[.int .i64 0, .int .i64 er], by simp [results, Tryz.results39, go_sem, x0], rfl, Below.row HB2.out (Nat.le_refl _) _⟩
set_option maxHeartbeats 2000000 in
set_option maxRecDepth 20000 in
theorem unlessV_any (g : Nat) (p1 p2 : Value) (eg : ∀ args W, (callFunc g args).run Tryz.prog W = .ok (.enter g args) W) (r : V × Int) (hr : r.2 ≠ 0 → r.1 = nulV) (w : World) (hg : ∀ W, Below w.heap.size w W → Calls Tryz.prog g #[p1, p2] W fun en w' => en = endW r ∧ Below W.heap.size W w') :
    Calls Tryz.prog 44 #[.func (.func g) #[] #[p1, p2]] w fun en w' => en = endV r ∧ Below w.heap.size w w' := by
  have hmf : ∀ (fn : Fn) (first cap : Array Value) (w : World), (Instr.makeFunc fn first cap).run Tryz.prog w = .ok (.func fn first cap) w := fun _ _ _ _ => rfl
  obtain ⟨y, er⟩ := r
  obtain ⟨W1, hW1⟩ : ∃ W1, (w.alloc (.cells #[.int .i64 0, .int .i64 0, .string ⟨#[]⟩] 23)).alloc (.cells #[.int .i64 0] 29) = W1 := ⟨_, rfl⟩
  have hb1 : Below w.heap.size w W1 := by rw [← hW1]; exact two_boxes _ _ _
  have HX := Lib.hid (show Box1 W1 (w.heap.size + 1) (.int .i64 0) 29 by
    rw [← hW1]
    have := new_errno (w.alloc (.cells #[.int .i64 0, .int .i64 0, .string ⟨#[]⟩] 23))
    rwa [World.size_alloc] at this)
  have HZ := Lib.hid (show Box3 W1 w.heap.size zV by rw [← hW1]; exact Box3.alloc (Box3.new w zV) _)
  have HC := Lib.hid (hg W1 hb1)
  have HB := Lib.hid hb1
  have hen := eg
  clear hg eg hb1
  by_cases he : er = 0
  · subst he
    rw [endW_ok rfl] at HC
    dsimp only at HC
    unfold V.val at HC
    clear hr
    go_enter_defers Tryz.func44, Tryz.ntmps44
    go_wp2_with (go_at_fn g; refine HC.out.mono ?_; rintro e w2 ⟨rfl, hb2⟩; have HX2 := Lib.hid (HX.out.below hb2); have HZ2 := Lib.hid (HZ.out.below hb2); have HB2 := Lib.hid (hop0 HB.out hb2); have x0 := HX2.out.c0; have x1 := HX2.out.free 0; have s0 := HZ2.out.c0; have s1 := HZ2.out.c1; have s2 := HZ2.out.c2; have f0 := HZ2.out.free 0; have f1 := HZ2.out.free 1; have f2 := HZ2.out.free 2; clear hb2)
    have x0 := HX2.out.c0
    have s0 := HZ2.out.c0; have s1 := HZ2.out.c1; have s2 := HZ2.out.c2
    refine leaves_cons (f := 97) (args := #[.pointer (some ⟨w.heap.size + 1, 0, none⟩)]) (by simp) (by simp [go_sem]) ?_
    refine (idle_v ⟨w.heap.size + 1, 0, none⟩ _).mono ?_
    rintro e u' w'' ⟨rfl, rfl, rfl⟩
    refine ⟨.tuple #[y.val, .int .i64 0], by simp [V.val, results, Tryz.results44, go_sem, x0, s0, s1, s2], rfl, Below.row (set3_below HB2.out (Nat.le_refl _) _ _ _) (Nat.le_succ _) _⟩
  · rw [endW_no he] at HC
    obtain rfl : y = nulV := hr he
    clear hr
    go_enter_defers Tryz.func44, Tryz.ntmps44
    go_wp2_with (go_at_fn g; refine HC.out.mono ?_; rintro e w2 ⟨rfl, hb2⟩; have HX2 := Lib.hid (HX.out.below hb2); have HZ2 := Lib.hid (HZ.out.below hb2); have HB2 := Lib.hid (hop0 HB.out hb2); clear hb2)
    have x0 := HX2.out.c0
    have x1 := HX2.out.free 0
    have s0 := HZ2.out.c0; have s1 := HZ2.out.c1; have s2 := HZ2.out.c2
    refine leaves_cons (f := 97) (args := #[.pointer (some ⟨w.heap.size + 1, 0, none⟩)]) (by simp) (by simp [go_sem]) ?_
    refine (catch_v ⟨w.heap.size + 1, 0, none⟩ (.int .i64 0) er _ x0 x1).mono ?_
    rintro e u' w'' ⟨rfl, rfl, rfl⟩
    refine ⟨.tuple #[nulV.val, .int .i64 er], by simp [V.val, nulV, zV, results, Tryz.results44, go_sem, x0, s0, s1, s2], rfl, Below.row HB2.out (Nat.le_succ _) _⟩
end Go.Proofs.YtclcabdekeegdaaGreat

/- Layer 13, walked: whether a row fits columns. -/
namespace Go.Proofs.YtclcabdekeegdaaGreat
open Go.ChangeShapes Go.WideShapes Go.ChangeAt Go.RowKit
set_option linter.unusedVariables false
set_option linter.unusedSimpArgs false
set_option maxHeartbeats 8000000 in
set_option maxRecDepth 40000 in
theorem fits_any (cs : List C) (row : List V) (hw : ∀ v ∈ row, v.wf) (cA : Option Addr) (cc : Nat) (rA : Option Addr) (rc : Nat) (w : World) (hcl : cs.length ≤ maxLen) (hrl : row.length ≤ maxLen) (hc : Row2 w w.heap.size cA cs) (hr : Row3 w w.heap.size rA row) :
    Calls Tryz.prog 43 #[.slice rA row.length rc, .slice cA cs.length cc] w fun en w' => en = .returned (.bool (fitsR cs row)) ∧ Below w.heap.size w w' := by
  obtain ⟨E, hE⟩ : ∃ E, Ending.returned (.bool (fitsR cs row)) = E := ⟨_, rfl⟩
  rw [hE]
  have HE := Lib.hid hE
  by_cases hlen : row.length = cs.length
  · have HGOOD := Lib.hid (fun (h : ∀ i (hi : i < cs.length) (hir : i < row.length), fits cs[i] row[i] = true) => show E = .returned (.bool true) by
      rw [← HE.out]
      unfold fitsR
      rw [decide_eq_true hlen, (fitsL_iff hlen).2 fun i hi => h i hi (by omega)]
      rfl)
    have HBAD := Lib.hid (fun (k : Nat) (hk : k < cs.length) (hkr : k < row.length) (h : fits cs[k] row[k] = false) => show E = .returned (.bool false) by
      rw [← HE.out]
      unfold fitsR
      have : fitsL cs row = false := by
        cases hh : fitsL cs row with
        | false => rfl
        | true => rw [(fitsL_iff hlen).1 hh k hk] at h; cases h
      rw [this, Bool.and_false])
    have HC := Lib.hid hc
    have HR := Lib.hid hr
    have HW := Lib.hid hw
    have HLC := Lib.hid hcl
    have HLR := Lib.hid hrl
    have q0 : ((row.length : Int) != (cs.length : Int)) = false := by simp [hlen]
    have HLEN := Lib.hid hlen
    unfold maxLen at hcl hrl
    clear hE hc hr hw hlen
    go_enter Tryz.func43, Tryz.ntmps43
    go_wp2
    go_loopw [14] (fun i wr => ∃ (k : Nat), k ≤ row.length ∧ i = .int .i64 k ∧ Hid (∀ i (hi : i < k) (hic : i < cs.length) (hir : i < row.length), fits cs[i] row[i] = true) ∧ Below w.heap.size w wr) (fun i _ => row.length - (intOf i).toNat)
    case atStart => exact ⟨0, Nat.zero_le _, rfl, Lib.hid (fun i hi => by omega), Below.refl _ _⟩
    case round =>
      obtain ⟨k, hkk, rfl, HK, hbel⟩ := hrel
      have HB := Lib.hid hbel
      by_cases hlt : k < row.length
      · have hkc : k < cs.length := by have := HLEN.out; omega
        obtain ⟨br, orr, rfl, hbr, r0, r1, r2⟩ := (HR.out.below hbel) k hlt
        obtain ⟨bc, oc, rfl, hbc, s0, s1⟩ := (HC.out.below hbel) k hkc
        have HBADk := Lib.hid (HBAD.out k hkc hlt)
        have HCH := Lib.hid (check_any row[k] (HW.out _ (List.getElem_mem hlt)))
        have HSTEP := Lib.hid (fun (h : fits cs[k] row[k] = true) => show ∀ i (hi : i < k + 1) (hic : i < cs.length) (hir : i < row.length), fits cs[i] row[i] = true from fun i hi hic hir => by
          by_cases hik : i < k
          · exact HK.out i hik hic hir
          · obtain rfl : i = k := by omega
            exact h)
        obtain ⟨v, hv⟩ : ∃ v, row[k] = v := ⟨_, rfl⟩
        obtain ⟨cl, hcl2⟩ : ∃ cl, cs[k] = cl := ⟨_, rfl⟩
        rw [hv] at r0 r1 r2 HBADk HSTEP HCH
        rw [hcl2] at s0 s1 HBADk HSTEP
        have hbrw : br < wr.heap.size := Nat.lt_of_lt_of_le hbr hbel.size
        have hbcw : bc < wr.heap.size := Nat.lt_of_lt_of_le hbc hbel.size
        obtain ⟨x, hx⟩ : ∃ x, chk v = x := ⟨_, rfl⟩
        rw [hx] at HCH
        have i1 : (0 : Int) ≤ (k : Int) := by omega
        have i2 : (k : Int) < (row.length : Int) := by omega
        have i3 : (k : Int) < (cs.length : Int) := by omega
        unfold V.val at HCH
        clear hv hcl2 HK s0 hbr hbc
        obtain ⟨W1, hW1⟩ : ∃ W1, wr.alloc (.cells #[.int .i64 v.k, .int .i64 v.n, .string v.s] 23) = W1 := ⟨_, rfl⟩
        have hB3 : Box3 W1 wr.heap.size v := by rw [← hW1]; exact Box3.new wr v
        have hb1 : Below wr.heap.size wr W1 := by rw [← hW1]; exact (Below.refl _ wr).alloc (Nat.le_refl _) _
        have HB1 := Lib.hid (hop0 hbel hb1)
        have HB3 := Lib.hid hB3
        have hs1 := later_cell hb1 s1
        have HS1 := Lib.hid hs1
        clear hB3 hb1 hs1
        by_cases h0 : x = 0
        · subst h0
          by_cases hz : v.k = 0
          · have HF := Lib.hid (HSTEP.out (by unfold fits; rw [decide_eq_true hx, decide_eq_true (.inl hz)]; rfl))
            have q1 : (v.k != 0) = false := by simpa using hz
            clear hz
            go_wp2_with fail
            try rw [hW1]
            have hS : (Box3 W1.drew wr.heap.size v ∧ W1.drew.cell? ⟨bc, oc + k * 2 + 1, none⟩ = some (.int .i64 cl.k)) ∧ Below w.heap.size w W1.drew := ⟨⟨HB3.out, HS1.out⟩, HB1.out.drew⟩
            clear hW1
            refine held_begin 18 (fun W => (Box3 W wr.heap.size v ∧ W.cell? ⟨bc, oc + k * 2 + 1, none⟩ = some (.int .i64 cl.k)) ∧ Below w.heap.size w W) rfl (by kernel_rfl) ?_
            refine held_take (i := 0) (t := 19) (v := (.agg #[.int .i64 v.k, .int .i64 v.n, .string v.s])) (fuel := 17) rfl rfl (by kernel_rfl) (by kernel_rfl) (by kernel_rfl) (fun _ _ _ h => h) (.inl ⟨rfl, fun W hW => by simp [execOp, Act.eval, go_sem, hW.1.1.c0, hW.1.1.c1, hW.1.1.c2]⟩) hS ?_
            simp only [List.setIfInBounds_toArray, List.set_cons_succ, List.set_cons_zero]
            refine held_call (i := 1) rfl (by kernel_rfl) (by kernel_rfl) ?_
            simp [Oper.wp, execOp, Act.eval, Act.put, go_sem]
            refine (HCH.out _).mono ?_
            rintro en w3 ⟨rfl, hb3⟩
            have hS := And.intro (And.intro (hS.1.1.below hb3) (later_cell hb3 hS.1.2)) (hop0 hS.2 hb3)
            refine ⟨hS, ?_⟩
            try simp only [List.setIfInBounds_toArray, List.set_cons_succ, List.set_cons_zero]
            refine held_take (i := 2) (t := 21) (v := (.bool false)) (fuel := 15) rfl rfl (by kernel_rfl) (by kernel_rfl) (by kernel_rfl) (fun _ _ _ h => h) (.inl ⟨rfl, fun W hW => by simp [execOp, Act.eval, go_sem]⟩) hS ?_
            simp only [List.setIfInBounds_toArray, List.set_cons_succ, List.set_cons_zero]
            refine held_take (i := 3) (t := 22) (v := (.bool false)) (fuel := 14) rfl rfl (by kernel_rfl) (by kernel_rfl) (by kernel_rfl) (fun _ _ _ h => h) (.inl ⟨rfl, fun W hW => by simp [execOp, Act.eval, go_sem]⟩) hS ?_
            simp only [List.setIfInBounds_toArray, List.set_cons_succ, List.set_cons_zero]
            refine held_take (i := 4) (t := 23) (v := (.pointer (some ⟨wr.heap.size, 0, none⟩))) (fuel := 13) rfl rfl (by kernel_rfl) (by kernel_rfl) (by kernel_rfl) (fun _ _ _ h => h) (.inl ⟨rfl, fun W hW => by simp [execOp, Act.eval, go_sem]⟩) hS ?_
            simp only [List.setIfInBounds_toArray, List.set_cons_succ, List.set_cons_zero]
            refine held_take (i := 5) (t := 24) (v := (.int .i64 v.k)) (fuel := 12) rfl rfl (by kernel_rfl) (by kernel_rfl) (by kernel_rfl) (fun _ _ _ h => h) (.inl ⟨rfl, fun W hW => by simp [execOp, Act.eval, go_sem, hW.1.1.c0]⟩) hS ?_
            simp only [List.setIfInBounds_toArray, List.set_cons_succ, List.set_cons_zero]
            refine held_take (i := 6) (t := 25) (v := (.bool false)) (fuel := 11) rfl rfl (by kernel_rfl) (by kernel_rfl) (by kernel_rfl) (fun _ _ _ h => h) (.inl ⟨rfl, fun W hW => by simp [execOp, Act.eval, go_sem, q1]⟩) hS ?_
            simp only [List.setIfInBounds_toArray, List.set_cons_succ, List.set_cons_zero]
            refine held_take (i := 7) (t := 26) (v := (.bool false)) (fuel := 10) rfl rfl (by kernel_rfl) (by kernel_rfl) (by kernel_rfl) (fun _ _ _ h => h) (.inl ⟨rfl, fun W hW => by simp [execOp, Act.eval, go_sem]⟩) hS ?_
            simp only [List.setIfInBounds_toArray, List.set_cons_succ, List.set_cons_zero]
            refine held_take (i := 8) (t := 27) (v := undef) (fuel := 9) rfl rfl (by kernel_rfl) (by kernel_rfl) (by kernel_rfl) (fun _ _ _ h => h) (.inr ⟨rfl, rfl⟩) hS ?_
            simp only [List.setIfInBounds_toArray, List.set_cons_succ, List.set_cons_zero]
            refine held_take (i := 9) (t := 28) (v := undef) (fuel := 8) rfl rfl (by kernel_rfl) (by kernel_rfl) (by kernel_rfl) (fun _ _ _ h => h) (.inr ⟨rfl, rfl⟩) hS ?_
            simp only [List.setIfInBounds_toArray, List.set_cons_succ, List.set_cons_zero]
            refine held_take (i := 10) (t := 29) (v := undef) (fuel := 7) rfl rfl (by kernel_rfl) (by kernel_rfl) (by kernel_rfl) (fun _ _ _ h => h) (.inr ⟨rfl, rfl⟩) hS ?_
            simp only [List.setIfInBounds_toArray, List.set_cons_succ, List.set_cons_zero]
            refine held_take (i := 11) (t := 30) (v := undef) (fuel := 6) rfl rfl (by kernel_rfl) (by kernel_rfl) (by kernel_rfl) (fun _ _ _ h => h) (.inr ⟨rfl, rfl⟩) hS ?_
            simp only [List.setIfInBounds_toArray, List.set_cons_succ, List.set_cons_zero]
            refine held_take (i := 12) (t := 31) (v := undef) (fuel := 5) rfl rfl (by kernel_rfl) (by kernel_rfl) (by kernel_rfl) (fun _ _ _ h => h) (.inr ⟨rfl, rfl⟩) hS ?_
            simp only [List.setIfInBounds_toArray, List.set_cons_succ, List.set_cons_zero]
            refine held_take (i := 13) (t := 32) (v := undef) (fuel := 4) rfl rfl (by kernel_rfl) (by kernel_rfl) (by kernel_rfl) (fun _ _ _ h => h) (.inr ⟨rfl, rfl⟩) hS ?_
            simp only [List.setIfInBounds_toArray, List.set_cons_succ, List.set_cons_zero]
            refine held_take (i := 14) (t := 33) (v := undef) (fuel := 3) rfl rfl (by kernel_rfl) (by kernel_rfl) (by kernel_rfl) (fun _ _ _ h => h) (.inr ⟨rfl, rfl⟩) hS ?_
            simp only [List.setIfInBounds_toArray, List.set_cons_succ, List.set_cons_zero]
            refine held_take (i := 15) (t := 34) (v := undef) (fuel := 2) rfl rfl (by kernel_rfl) (by kernel_rfl) (by kernel_rfl) (fun _ _ _ h => h) (.inr ⟨rfl, rfl⟩) hS ?_
            simp only [List.setIfInBounds_toArray, List.set_cons_succ, List.set_cons_zero]
            refine held_take (i := 16) (t := 35) (v := (.bool false)) (fuel := 1) rfl rfl (by kernel_rfl) (by kernel_rfl) (by kernel_rfl) (fun _ _ _ h => h) (.inl ⟨rfl, fun W hW => by simp [execOp, Act.eval, go_sem]⟩) hS ?_
            simp only [List.setIfInBounds_toArray, List.set_cons_succ, List.set_cons_zero]
            refine held_take (i := 17) (t := 36) (v := (.bool false)) (fuel := 0) rfl rfl (by kernel_rfl) (by kernel_rfl) (by kernel_rfl) (fun _ _ _ h => h) (.inl ⟨rfl, fun W hW => by simp [execOp, Act.eval, go_sem]⟩) hS ?_
            simp only [List.setIfInBounds_toArray, List.set_cons_succ, List.set_cons_zero]
            refine wpAnyH_done (by kernel_rfl) ?_ 0
            go_wp2
            go_roundw
            case rel => exact ⟨k + 1, by omega, by go_num, HF, hS.2⟩
            case measure => simp [intOf]; omega
          · have q1 : (v.k != 0) = true := by simpa using hz
            by_cases he : v.k = cl.k
            · have HF := Lib.hid (HSTEP.out (by unfold fits; rw [decide_eq_true hx, decide_eq_true (.inr he)]; rfl))
              have q2 : (v.k != cl.k) = false := by simpa using he
              clear he
              go_wp2_with fail
              try rw [hW1]
              have hS : (Box3 W1.drew wr.heap.size v ∧ W1.drew.cell? ⟨bc, oc + k * 2 + 1, none⟩ = some (.int .i64 cl.k)) ∧ Below w.heap.size w W1.drew := ⟨⟨HB3.out, HS1.out⟩, HB1.out.drew⟩
              clear hW1
              refine held_begin 18 (fun W => (Box3 W wr.heap.size v ∧ W.cell? ⟨bc, oc + k * 2 + 1, none⟩ = some (.int .i64 cl.k)) ∧ Below w.heap.size w W) rfl (by kernel_rfl) ?_
              refine held_take (i := 0) (t := 19) (v := (.agg #[.int .i64 v.k, .int .i64 v.n, .string v.s])) (fuel := 17) rfl rfl (by kernel_rfl) (by kernel_rfl) (by kernel_rfl) (fun _ _ _ h => h) (.inl ⟨rfl, fun W hW => by simp [execOp, Act.eval, go_sem, hW.1.1.c0, hW.1.1.c1, hW.1.1.c2]⟩) hS ?_
              simp only [List.setIfInBounds_toArray, List.set_cons_succ, List.set_cons_zero]
              refine held_call (i := 1) rfl (by kernel_rfl) (by kernel_rfl) ?_
              simp [Oper.wp, execOp, Act.eval, Act.put, go_sem]
              refine (HCH.out _).mono ?_
              rintro en w3 ⟨rfl, hb3⟩
              have hS := And.intro (And.intro (hS.1.1.below hb3) (later_cell hb3 hS.1.2)) (hop0 hS.2 hb3)
              refine ⟨hS, ?_⟩
              try simp only [List.setIfInBounds_toArray, List.set_cons_succ, List.set_cons_zero]
              refine held_take (i := 2) (t := 21) (v := (.bool false)) (fuel := 15) rfl rfl (by kernel_rfl) (by kernel_rfl) (by kernel_rfl) (fun _ _ _ h => h) (.inl ⟨rfl, fun W hW => by simp [execOp, Act.eval, go_sem]⟩) hS ?_
              simp only [List.setIfInBounds_toArray, List.set_cons_succ, List.set_cons_zero]
              refine held_take (i := 3) (t := 22) (v := (.bool false)) (fuel := 14) rfl rfl (by kernel_rfl) (by kernel_rfl) (by kernel_rfl) (fun _ _ _ h => h) (.inl ⟨rfl, fun W hW => by simp [execOp, Act.eval, go_sem]⟩) hS ?_
              simp only [List.setIfInBounds_toArray, List.set_cons_succ, List.set_cons_zero]
              refine held_take (i := 4) (t := 23) (v := (.pointer (some ⟨wr.heap.size, 0, none⟩))) (fuel := 13) rfl rfl (by kernel_rfl) (by kernel_rfl) (by kernel_rfl) (fun _ _ _ h => h) (.inl ⟨rfl, fun W hW => by simp [execOp, Act.eval, go_sem]⟩) hS ?_
              simp only [List.setIfInBounds_toArray, List.set_cons_succ, List.set_cons_zero]
              refine held_take (i := 5) (t := 24) (v := (.int .i64 v.k)) (fuel := 12) rfl rfl (by kernel_rfl) (by kernel_rfl) (by kernel_rfl) (fun _ _ _ h => h) (.inl ⟨rfl, fun W hW => by simp [execOp, Act.eval, go_sem, hW.1.1.c0]⟩) hS ?_
              simp only [List.setIfInBounds_toArray, List.set_cons_succ, List.set_cons_zero]
              refine held_take (i := 6) (t := 25) (v := (.bool true)) (fuel := 11) rfl rfl (by kernel_rfl) (by kernel_rfl) (by kernel_rfl) (fun _ _ _ h => h) (.inl ⟨rfl, fun W hW => by simp [execOp, Act.eval, go_sem, q1]⟩) hS ?_
              simp only [List.setIfInBounds_toArray, List.set_cons_succ, List.set_cons_zero]
              refine held_take (i := 7) (t := 26) (v := (.bool true)) (fuel := 10) rfl rfl (by kernel_rfl) (by kernel_rfl) (by kernel_rfl) (fun _ _ _ h => h) (.inl ⟨rfl, fun W hW => by simp [execOp, Act.eval, go_sem]⟩) hS ?_
              simp only [List.setIfInBounds_toArray, List.set_cons_succ, List.set_cons_zero]
              refine held_take (i := 8) (t := 27) (v := (.pointer (some ⟨wr.heap.size, 0, none⟩))) (fuel := 9) rfl rfl (by kernel_rfl) (by kernel_rfl) (by kernel_rfl) (fun _ _ _ h => h) (.inl ⟨rfl, fun W hW => by simp [execOp, Act.eval, go_sem]⟩) hS ?_
              simp only [List.setIfInBounds_toArray, List.set_cons_succ, List.set_cons_zero]
              refine held_take (i := 9) (t := 28) (v := (.int .i64 v.k)) (fuel := 8) rfl rfl (by kernel_rfl) (by kernel_rfl) (by kernel_rfl) (fun _ _ _ h => h) (.inl ⟨rfl, fun W hW => by simp [execOp, Act.eval, go_sem, hW.1.1.c0]⟩) hS ?_
              simp only [List.setIfInBounds_toArray, List.set_cons_succ, List.set_cons_zero]
              refine held_take (i := 10) (t := 29) (v := (.slice (some ⟨bc, oc, none⟩) cs.length cc)) (fuel := 7) rfl rfl (by kernel_rfl) (by kernel_rfl) (by kernel_rfl) (fun _ _ _ h => h) (.inl ⟨rfl, fun W hW => by simp [execOp, Act.eval, go_sem]⟩) hS ?_
              simp only [List.setIfInBounds_toArray, List.set_cons_succ, List.set_cons_zero]
              refine held_take (i := 11) (t := 30) (v := (.int .i64 (k : Int))) (fuel := 6) rfl rfl (by kernel_rfl) (by kernel_rfl) (by kernel_rfl) (fun _ _ _ h => h) (.inl ⟨rfl, fun W hW => by simp [execOp, Act.eval, go_sem]⟩) hS ?_
              simp only [List.setIfInBounds_toArray, List.set_cons_succ, List.set_cons_zero]
              refine held_take (i := 12) (t := 31) (v := (.pointer (some ⟨bc, oc + k * 2, none⟩))) (fuel := 5) rfl rfl (by kernel_rfl) (by kernel_rfl) (by kernel_rfl) (fun _ _ _ h => h) (.inl ⟨rfl, fun W hW => by simp [execOp, Act.eval, go_sem, i1, i3]⟩) hS ?_
              simp only [List.setIfInBounds_toArray, List.set_cons_succ, List.set_cons_zero]
              refine held_take (i := 13) (t := 32) (v := (.pointer (some ⟨bc, oc + k * 2 + 1, none⟩))) (fuel := 4) rfl rfl (by kernel_rfl) (by kernel_rfl) (by kernel_rfl) (fun _ _ _ h => h) (.inl ⟨rfl, fun W hW => by simp [execOp, Act.eval, go_sem]⟩) hS ?_
              simp only [List.setIfInBounds_toArray, List.set_cons_succ, List.set_cons_zero]
              refine held_take (i := 14) (t := 33) (v := (.int .i64 cl.k)) (fuel := 3) rfl rfl (by kernel_rfl) (by kernel_rfl) (by kernel_rfl) (fun _ _ _ h => h) (.inl ⟨rfl, fun W hW => by simp [execOp, Act.eval, go_sem, hW.1.2]⟩) hS ?_
              simp only [List.setIfInBounds_toArray, List.set_cons_succ, List.set_cons_zero]
              refine held_take (i := 15) (t := 34) (v := (.bool false)) (fuel := 2) rfl rfl (by kernel_rfl) (by kernel_rfl) (by kernel_rfl) (fun _ _ _ h => h) (.inl ⟨rfl, fun W hW => by simp [execOp, Act.eval, go_sem, q2]⟩) hS ?_
              simp only [List.setIfInBounds_toArray, List.set_cons_succ, List.set_cons_zero]
              refine held_take (i := 16) (t := 35) (v := (.bool false)) (fuel := 1) rfl rfl (by kernel_rfl) (by kernel_rfl) (by kernel_rfl) (fun _ _ _ h => h) (.inl ⟨rfl, fun W hW => by simp [execOp, Act.eval, go_sem]⟩) hS ?_
              simp only [List.setIfInBounds_toArray, List.set_cons_succ, List.set_cons_zero]
              refine held_take (i := 17) (t := 36) (v := (.bool false)) (fuel := 0) rfl rfl (by kernel_rfl) (by kernel_rfl) (by kernel_rfl) (fun _ _ _ h => h) (.inl ⟨rfl, fun W hW => by simp [execOp, Act.eval, go_sem]⟩) hS ?_
              simp only [List.setIfInBounds_toArray, List.set_cons_succ, List.set_cons_zero]
              refine wpAnyH_done (by kernel_rfl) ?_ 0
              go_wp2
              go_roundw
              case rel => exact ⟨k + 1, by omega, by go_num, HF, hS.2⟩
              case measure => simp [intOf]; omega
            · have HX := Lib.hid (HBADk.out (by unfold fits; rw [decide_eq_false (show ¬ (v.k = 0 ∨ v.k = cl.k) by simp [hz, he]), Bool.and_false]))
              have q2 : (v.k != cl.k) = true := by simpa using he
              go_wp2_with fail
              try rw [hW1]
              have hS : (Box3 W1.drew wr.heap.size v ∧ W1.drew.cell? ⟨bc, oc + k * 2 + 1, none⟩ = some (.int .i64 cl.k)) ∧ Below w.heap.size w W1.drew := ⟨⟨HB3.out, HS1.out⟩, HB1.out.drew⟩
              clear hW1
              refine held_begin 18 (fun W => (Box3 W wr.heap.size v ∧ W.cell? ⟨bc, oc + k * 2 + 1, none⟩ = some (.int .i64 cl.k)) ∧ Below w.heap.size w W) rfl (by kernel_rfl) ?_
              refine held_take (i := 0) (t := 19) (v := (.agg #[.int .i64 v.k, .int .i64 v.n, .string v.s])) (fuel := 17) rfl rfl (by kernel_rfl) (by kernel_rfl) (by kernel_rfl) (fun _ _ _ h => h) (.inl ⟨rfl, fun W hW => by simp [execOp, Act.eval, go_sem, hW.1.1.c0, hW.1.1.c1, hW.1.1.c2]⟩) hS ?_
              simp only [List.setIfInBounds_toArray, List.set_cons_succ, List.set_cons_zero]
              refine held_call (i := 1) rfl (by kernel_rfl) (by kernel_rfl) ?_
              simp [Oper.wp, execOp, Act.eval, Act.put, go_sem]
              refine (HCH.out _).mono ?_
              rintro en w3 ⟨rfl, hb3⟩
              have hS := And.intro (And.intro (hS.1.1.below hb3) (later_cell hb3 hS.1.2)) (hop0 hS.2 hb3)
              refine ⟨hS, ?_⟩
              try simp only [List.setIfInBounds_toArray, List.set_cons_succ, List.set_cons_zero]
              refine held_take (i := 2) (t := 21) (v := (.bool false)) (fuel := 15) rfl rfl (by kernel_rfl) (by kernel_rfl) (by kernel_rfl) (fun _ _ _ h => h) (.inl ⟨rfl, fun W hW => by simp [execOp, Act.eval, go_sem]⟩) hS ?_
              simp only [List.setIfInBounds_toArray, List.set_cons_succ, List.set_cons_zero]
              refine held_take (i := 3) (t := 22) (v := (.bool false)) (fuel := 14) rfl rfl (by kernel_rfl) (by kernel_rfl) (by kernel_rfl) (fun _ _ _ h => h) (.inl ⟨rfl, fun W hW => by simp [execOp, Act.eval, go_sem]⟩) hS ?_
              simp only [List.setIfInBounds_toArray, List.set_cons_succ, List.set_cons_zero]
              refine held_take (i := 4) (t := 23) (v := (.pointer (some ⟨wr.heap.size, 0, none⟩))) (fuel := 13) rfl rfl (by kernel_rfl) (by kernel_rfl) (by kernel_rfl) (fun _ _ _ h => h) (.inl ⟨rfl, fun W hW => by simp [execOp, Act.eval, go_sem]⟩) hS ?_
              simp only [List.setIfInBounds_toArray, List.set_cons_succ, List.set_cons_zero]
              refine held_take (i := 5) (t := 24) (v := (.int .i64 v.k)) (fuel := 12) rfl rfl (by kernel_rfl) (by kernel_rfl) (by kernel_rfl) (fun _ _ _ h => h) (.inl ⟨rfl, fun W hW => by simp [execOp, Act.eval, go_sem, hW.1.1.c0]⟩) hS ?_
              simp only [List.setIfInBounds_toArray, List.set_cons_succ, List.set_cons_zero]
              refine held_take (i := 6) (t := 25) (v := (.bool true)) (fuel := 11) rfl rfl (by kernel_rfl) (by kernel_rfl) (by kernel_rfl) (fun _ _ _ h => h) (.inl ⟨rfl, fun W hW => by simp [execOp, Act.eval, go_sem, q1]⟩) hS ?_
              simp only [List.setIfInBounds_toArray, List.set_cons_succ, List.set_cons_zero]
              refine held_take (i := 7) (t := 26) (v := (.bool true)) (fuel := 10) rfl rfl (by kernel_rfl) (by kernel_rfl) (by kernel_rfl) (fun _ _ _ h => h) (.inl ⟨rfl, fun W hW => by simp [execOp, Act.eval, go_sem]⟩) hS ?_
              simp only [List.setIfInBounds_toArray, List.set_cons_succ, List.set_cons_zero]
              refine held_take (i := 8) (t := 27) (v := (.pointer (some ⟨wr.heap.size, 0, none⟩))) (fuel := 9) rfl rfl (by kernel_rfl) (by kernel_rfl) (by kernel_rfl) (fun _ _ _ h => h) (.inl ⟨rfl, fun W hW => by simp [execOp, Act.eval, go_sem]⟩) hS ?_
              simp only [List.setIfInBounds_toArray, List.set_cons_succ, List.set_cons_zero]
              refine held_take (i := 9) (t := 28) (v := (.int .i64 v.k)) (fuel := 8) rfl rfl (by kernel_rfl) (by kernel_rfl) (by kernel_rfl) (fun _ _ _ h => h) (.inl ⟨rfl, fun W hW => by simp [execOp, Act.eval, go_sem, hW.1.1.c0]⟩) hS ?_
              simp only [List.setIfInBounds_toArray, List.set_cons_succ, List.set_cons_zero]
              refine held_take (i := 10) (t := 29) (v := (.slice (some ⟨bc, oc, none⟩) cs.length cc)) (fuel := 7) rfl rfl (by kernel_rfl) (by kernel_rfl) (by kernel_rfl) (fun _ _ _ h => h) (.inl ⟨rfl, fun W hW => by simp [execOp, Act.eval, go_sem]⟩) hS ?_
              simp only [List.setIfInBounds_toArray, List.set_cons_succ, List.set_cons_zero]
              refine held_take (i := 11) (t := 30) (v := (.int .i64 (k : Int))) (fuel := 6) rfl rfl (by kernel_rfl) (by kernel_rfl) (by kernel_rfl) (fun _ _ _ h => h) (.inl ⟨rfl, fun W hW => by simp [execOp, Act.eval, go_sem]⟩) hS ?_
              simp only [List.setIfInBounds_toArray, List.set_cons_succ, List.set_cons_zero]
              refine held_take (i := 12) (t := 31) (v := (.pointer (some ⟨bc, oc + k * 2, none⟩))) (fuel := 5) rfl rfl (by kernel_rfl) (by kernel_rfl) (by kernel_rfl) (fun _ _ _ h => h) (.inl ⟨rfl, fun W hW => by simp [execOp, Act.eval, go_sem, i1, i3]⟩) hS ?_
              simp only [List.setIfInBounds_toArray, List.set_cons_succ, List.set_cons_zero]
              refine held_take (i := 13) (t := 32) (v := (.pointer (some ⟨bc, oc + k * 2 + 1, none⟩))) (fuel := 4) rfl rfl (by kernel_rfl) (by kernel_rfl) (by kernel_rfl) (fun _ _ _ h => h) (.inl ⟨rfl, fun W hW => by simp [execOp, Act.eval, go_sem]⟩) hS ?_
              simp only [List.setIfInBounds_toArray, List.set_cons_succ, List.set_cons_zero]
              refine held_take (i := 14) (t := 33) (v := (.int .i64 cl.k)) (fuel := 3) rfl rfl (by kernel_rfl) (by kernel_rfl) (by kernel_rfl) (fun _ _ _ h => h) (.inl ⟨rfl, fun W hW => by simp [execOp, Act.eval, go_sem, hW.1.2]⟩) hS ?_
              simp only [List.setIfInBounds_toArray, List.set_cons_succ, List.set_cons_zero]
              refine held_take (i := 15) (t := 34) (v := (.bool true)) (fuel := 2) rfl rfl (by kernel_rfl) (by kernel_rfl) (by kernel_rfl) (fun _ _ _ h => h) (.inl ⟨rfl, fun W hW => by simp [execOp, Act.eval, go_sem, q2]⟩) hS ?_
              simp only [List.setIfInBounds_toArray, List.set_cons_succ, List.set_cons_zero]
              refine held_take (i := 16) (t := 35) (v := (.bool true)) (fuel := 1) rfl rfl (by kernel_rfl) (by kernel_rfl) (by kernel_rfl) (fun _ _ _ h => h) (.inl ⟨rfl, fun W hW => by simp [execOp, Act.eval, go_sem]⟩) hS ?_
              simp only [List.setIfInBounds_toArray, List.set_cons_succ, List.set_cons_zero]
              refine held_take (i := 17) (t := 36) (v := (.bool true)) (fuel := 0) rfl rfl (by kernel_rfl) (by kernel_rfl) (by kernel_rfl) (fun _ _ _ h => h) (.inl ⟨rfl, fun W hW => by simp [execOp, Act.eval, go_sem]⟩) hS ?_
              simp only [List.setIfInBounds_toArray, List.set_cons_succ, List.set_cons_zero]
              refine wpAnyH_done (by kernel_rfl) ?_ 0
              go_wp2
              go_ret
              rw [HX.out]
              exact ⟨rfl, hS.2⟩
        · have HX := Lib.hid (HBADk.out (by unfold fits; rw [hx, decide_eq_false h0, Bool.false_and]))
          have q1 : (x != 0) = true := by simpa using h0
          go_wp2_with fail
          try rw [hW1]
          have hS : (Box3 W1.drew wr.heap.size v ∧ W1.drew.cell? ⟨bc, oc + k * 2 + 1, none⟩ = some (.int .i64 cl.k)) ∧ Below w.heap.size w W1.drew := ⟨⟨HB3.out, HS1.out⟩, HB1.out.drew⟩
          clear hW1
          refine held_begin 18 (fun W => (Box3 W wr.heap.size v ∧ W.cell? ⟨bc, oc + k * 2 + 1, none⟩ = some (.int .i64 cl.k)) ∧ Below w.heap.size w W) rfl (by kernel_rfl) ?_
          refine held_take (i := 0) (t := 19) (v := (.agg #[.int .i64 v.k, .int .i64 v.n, .string v.s])) (fuel := 17) rfl rfl (by kernel_rfl) (by kernel_rfl) (by kernel_rfl) (fun _ _ _ h => h) (.inl ⟨rfl, fun W hW => by simp [execOp, Act.eval, go_sem, hW.1.1.c0, hW.1.1.c1, hW.1.1.c2]⟩) hS ?_
          simp only [List.setIfInBounds_toArray, List.set_cons_succ, List.set_cons_zero]
          refine held_call (i := 1) rfl (by kernel_rfl) (by kernel_rfl) ?_
          simp [Oper.wp, execOp, Act.eval, Act.put, go_sem]
          refine (HCH.out _).mono ?_
          rintro en w3 ⟨rfl, hb3⟩
          have hS := And.intro (And.intro (hS.1.1.below hb3) (later_cell hb3 hS.1.2)) (hop0 hS.2 hb3)
          refine ⟨hS, ?_⟩
          try simp only [List.setIfInBounds_toArray, List.set_cons_succ, List.set_cons_zero]
          refine held_take (i := 2) (t := 21) (v := (.bool true)) (fuel := 15) rfl rfl (by kernel_rfl) (by kernel_rfl) (by kernel_rfl) (fun _ _ _ h => h) (.inl ⟨rfl, fun W hW => by simp [execOp, Act.eval, go_sem, q1]⟩) hS ?_
          simp only [List.setIfInBounds_toArray, List.set_cons_succ, List.set_cons_zero]
          refine held_take (i := 3) (t := 22) (v := (.bool true)) (fuel := 14) rfl rfl (by kernel_rfl) (by kernel_rfl) (by kernel_rfl) (fun _ _ _ h => h) (.inl ⟨rfl, fun W hW => by simp [execOp, Act.eval, go_sem]⟩) hS ?_
          simp only [List.setIfInBounds_toArray, List.set_cons_succ, List.set_cons_zero]
          refine held_take (i := 4) (t := 23) (v := undef) (fuel := 13) rfl rfl (by kernel_rfl) (by kernel_rfl) (by kernel_rfl) (fun _ _ _ h => h) (.inr ⟨rfl, rfl⟩) hS ?_
          simp only [List.setIfInBounds_toArray, List.set_cons_succ, List.set_cons_zero]
          refine held_take (i := 5) (t := 24) (v := undef) (fuel := 12) rfl rfl (by kernel_rfl) (by kernel_rfl) (by kernel_rfl) (fun _ _ _ h => h) (.inr ⟨rfl, rfl⟩) hS ?_
          simp only [List.setIfInBounds_toArray, List.set_cons_succ, List.set_cons_zero]
          refine held_take (i := 6) (t := 25) (v := undef) (fuel := 11) rfl rfl (by kernel_rfl) (by kernel_rfl) (by kernel_rfl) (fun _ _ _ h => h) (.inr ⟨rfl, rfl⟩) hS ?_
          simp only [List.setIfInBounds_toArray, List.set_cons_succ, List.set_cons_zero]
          refine held_take (i := 7) (t := 26) (v := undef) (fuel := 10) rfl rfl (by kernel_rfl) (by kernel_rfl) (by kernel_rfl) (fun _ _ _ h => h) (.inr ⟨rfl, rfl⟩) hS ?_
          simp only [List.setIfInBounds_toArray, List.set_cons_succ, List.set_cons_zero]
          refine held_take (i := 8) (t := 27) (v := undef) (fuel := 9) rfl rfl (by kernel_rfl) (by kernel_rfl) (by kernel_rfl) (fun _ _ _ h => h) (.inr ⟨rfl, rfl⟩) hS ?_
          simp only [List.setIfInBounds_toArray, List.set_cons_succ, List.set_cons_zero]
          refine held_take (i := 9) (t := 28) (v := undef) (fuel := 8) rfl rfl (by kernel_rfl) (by kernel_rfl) (by kernel_rfl) (fun _ _ _ h => h) (.inr ⟨rfl, rfl⟩) hS ?_
          simp only [List.setIfInBounds_toArray, List.set_cons_succ, List.set_cons_zero]
          refine held_take (i := 10) (t := 29) (v := undef) (fuel := 7) rfl rfl (by kernel_rfl) (by kernel_rfl) (by kernel_rfl) (fun _ _ _ h => h) (.inr ⟨rfl, rfl⟩) hS ?_
          simp only [List.setIfInBounds_toArray, List.set_cons_succ, List.set_cons_zero]
          refine held_take (i := 11) (t := 30) (v := undef) (fuel := 6) rfl rfl (by kernel_rfl) (by kernel_rfl) (by kernel_rfl) (fun _ _ _ h => h) (.inr ⟨rfl, rfl⟩) hS ?_
          simp only [List.setIfInBounds_toArray, List.set_cons_succ, List.set_cons_zero]
          refine held_take (i := 12) (t := 31) (v := undef) (fuel := 5) rfl rfl (by kernel_rfl) (by kernel_rfl) (by kernel_rfl) (fun _ _ _ h => h) (.inr ⟨rfl, rfl⟩) hS ?_
          simp only [List.setIfInBounds_toArray, List.set_cons_succ, List.set_cons_zero]
          refine held_take (i := 13) (t := 32) (v := undef) (fuel := 4) rfl rfl (by kernel_rfl) (by kernel_rfl) (by kernel_rfl) (fun _ _ _ h => h) (.inr ⟨rfl, rfl⟩) hS ?_
          simp only [List.setIfInBounds_toArray, List.set_cons_succ, List.set_cons_zero]
          refine held_take (i := 14) (t := 33) (v := undef) (fuel := 3) rfl rfl (by kernel_rfl) (by kernel_rfl) (by kernel_rfl) (fun _ _ _ h => h) (.inr ⟨rfl, rfl⟩) hS ?_
          simp only [List.setIfInBounds_toArray, List.set_cons_succ, List.set_cons_zero]
          refine held_take (i := 15) (t := 34) (v := undef) (fuel := 2) rfl rfl (by kernel_rfl) (by kernel_rfl) (by kernel_rfl) (fun _ _ _ h => h) (.inr ⟨rfl, rfl⟩) hS ?_
          simp only [List.setIfInBounds_toArray, List.set_cons_succ, List.set_cons_zero]
          refine held_take (i := 16) (t := 35) (v := undef) (fuel := 1) rfl rfl (by kernel_rfl) (by kernel_rfl) (by kernel_rfl) (fun _ _ _ h => h) (.inr ⟨rfl, rfl⟩) hS ?_
          simp only [List.setIfInBounds_toArray, List.set_cons_succ, List.set_cons_zero]
          refine held_take (i := 17) (t := 36) (v := (.bool true)) (fuel := 0) rfl rfl (by kernel_rfl) (by kernel_rfl) (by kernel_rfl) (fun _ _ _ h => h) (.inl ⟨rfl, fun W hW => by simp [execOp, Act.eval, go_sem]⟩) hS ?_
          simp only [List.setIfInBounds_toArray, List.set_cons_succ, List.set_cons_zero]
          refine wpAnyH_done (by kernel_rfl) ?_ 0
          go_wp2
          go_ret
          rw [HX.out]
          exact ⟨rfl, hS.2⟩
      · have HX := Lib.hid (HGOOD.out fun i hi hir => HK.out i (by have := HLEN.out; omega) hi hir)
        go_wp2
        go_ret
        rw [HX.out]
        exact ⟨rfl, HB.out⟩
  · have q0 : ((row.length : Int) != (cs.length : Int)) = true := by simp; omega
    have HX : E = .returned (.bool false) := by
      rw [← HE.out]
      unfold fitsR
      rw [decide_eq_false hlen]
      rfl
    unfold maxLen at hcl hrl
    rw [HX]
    clear HX HE hE hlen
    go_enter Tryz.func43, Tryz.ntmps43
    go_wp2
    go_ret
    exact ⟨rfl, Below.refl _ _⟩
end Go.Proofs.YtclcabdekeegdaaGreat
