/- Layer 12, walked: what a field says. -/
import Derived.Test.YtfkfgabepjpdlaaDoorDecW7
import Derived.Test.YtfkfgabepjpdlaaDoorDecShelf
import Derived.Lib.AppendIntMem
import Derived.WalkSmall
import Derived.Test.YtfkfgabepjpdlaaDoorRegAll
namespace Go.Proofs.YtfkfgabepjpdlaaDoor
open Go.ChangeShapes Go.WideShapes Go.ChangeAt Go.RowKit
set_option linter.unusedVariables false

/-- What the library's own variables hold. -/
structure Env (B : Nat) (w : World) : Prop where
  lt : 0 < B ∧ 1 < B ∧ 2 < B
  syn : ∃ ev, w.cell? ⟨0, 0, none⟩ = some ev ∧ (ev = .nilIface ∨ ∃ te pe, ev = .iface te pe)
  rng : ∃ ev, w.cell? ⟨1, 0, none⟩ = some ev ∧ (ev = .nilIface ∨ ∃ te pe, ev = .iface te pe)
  tab : Lib.TabIs Tryd.prog w "internal/strconv.uint64pow10" .u64 Lib.pow10Tab
theorem Env.below {B : Nat} {w w' : World} (h : Env B w) (hb : Below B w w') : Env B w' := by
  obtain ⟨h0, ⟨e1, c1, k1⟩, ⟨e2, c2, k2⟩, ht⟩ := h
  exact ⟨h0, ⟨e1, (hb.cell (p := ⟨0, 0, none⟩) h0.1).trans c1, k1⟩, ⟨e2, (hb.cell (p := ⟨1, 0, none⟩) h0.2.1).trans c2, k2⟩, var?_below (g := 2) hb (by kernel_rfl) h0.2.2 ht⟩
theorem Env.more {B B' : Nat} {w : World} (h : Env B w) (hb : B ≤ B') : Env B' w := ⟨⟨Nat.lt_of_lt_of_le h.lt.1 hb, Nat.lt_of_lt_of_le h.lt.2.1 hb, Nat.lt_of_lt_of_le h.lt.2.2 hb⟩, h.syn, h.rng, h.tab⟩
theorem format_any (n : Int) (hn : in64 n) (w : World) {B : Nat} (hE : Env B w) :
    Calls Tryd.prog 39 #[.int .i64 n, .int .i64 10] w fun e w' => e = .returned (.string (txt (Lib.itoa n))) ∧ Below w.heap.size w w' := by
  refine (Tryd.strconv_FormatInt_10 n hn.1 hn.2 w hE.tab).mono ?_
  rintro e w' ⟨rfl, k, os, rfl⟩
  exact ⟨rfl, Lib.below_grow _ _ (Nat.le_refl _) _ _⟩
/-- What ParseInt answers: a number and no error, or an error. -/
def ParsePost (l : List UInt8) (w : World) (e : Ending) (w' : World) : Prop :=
  Below w.heap.size w w' ∧ ((∃ n : Int, Lib.parseIntB 64 l = .ok n ∧ e = .returned (.tuple #[.int .i64 n, .nilIface])) ∨ (∃ (n : Int) (t : TypeId) (p : Value), intV l = none ∧ in64 n ∧ e = .returned (.tuple #[.int .i64 n, .iface t p])))
theorem intSat_in (l : List UInt8) : in64 (Lib.intSat 64 l) := by
  unfold Lib.intSat in64
  split <;> simp
theorem parse_any (s : ByteArray) (hs : s.size ≤ 68719476736) (w : World) {B : Nat} (hE : Env B w) :
    Calls Tryd.prog 37 #[.string s, .int .i64 10, .int .i64 64] w (ParsePost s.data.toList w) := by
  rcases hp : Lib.parseIntB 64 s.data.toList with n | _ | _
  · refine (Tryd.strconv_ParseInt_10_at64_ok s (by omega) n hp w).mono ?_
    rintro e w' ⟨rfl, h⟩
    refine ⟨?_, .inl ⟨n, hp, rfl⟩⟩
    rcases h with rfl | ⟨t, rfl⟩
    · exact Below.refl _ _
    · exact Lib.bytesWorld_below _ _ _
  · obtain ⟨ev, c1, k1⟩ := hE.syn
    refine (Tryd.strconv_ParseInt_10_at64_syntax s (by omega) hp ev w c1 k1).mono ?_
    rintro e w' ⟨N, rfl, _, _, hb⟩
    exact ⟨hb, .inr ⟨0, _, _, by unfold intV; rw [hp], by simp [in64], rfl⟩⟩
  · obtain ⟨ev, c1, k1⟩ := hE.rng
    refine (Tryd.strconv_ParseInt_10_at64_range s (by omega) hp ev w c1 k1).mono ?_
    rintro e w' ⟨N, rfl, _, _, hb⟩
    exact ⟨hb, .inr ⟨_, _, _, by unfold intV; rw [hp], intSat_in _, rfl⟩⟩
theorem lit_eq {s : ByteArray} {l : List UInt8} (h : s.data.toList = l) : (s.toList == l) = true := by rw [Lib.toList_data, h]; simp
theorem lit_ne {s : ByteArray} {l : List UInt8} (h : s.data.toList ≠ l) : (s.toList == l) = false := by rw [Lib.toList_data]; simpa using h
theorem boolT (w : World) : Calls Tryd.prog 40 #[.bool true] w fun e w' => e = .returned (.agg #[.int .i64 2, .int .i64 1, .string ⟨#[]⟩]) ∧ Below w.heap.size w w' := bool_any true w
theorem boolF (w : World) : Calls Tryd.prog 40 #[.bool false] w fun e w' => e = .returned (.agg #[.int .i64 2, .int .i64 0, .string ⟨#[]⟩]) ∧ Below w.heap.size w w' := bool_any false w
theorem box_zero (w : World) : Box3 (w.alloc (.cells #[.int .i64 0, .int .i64 0, .string ⟨#[]⟩] 53)) w.heap.size zV := World.alloc_heap_new _ _
set_option maxHeartbeats 2000000 in
set_option maxRecDepth 20000 in
theorem says_any (s : ByteArray) (hs : s.size ≤ 68719476736) (k : Int) (hk : k = 1 ∨ k = 2 ∨ k = 3) (w : World) {B : Nat} (hE : Env B w) (hB : B ≤ w.heap.size) :
    Calls Tryd.prog 28 #[.string s, .int .i64 k] w (SayPost (saysV k s.data.toList) w) := by
  have HBX := Lib.hid (box_zero w)
  have hb0 : Below w.heap.size w (w.alloc (.cells #[.int .i64 0, .int .i64 0, .string ⟨#[]⟩] 53)) := (Below.refl _ _).alloc (Nat.le_refl _) _
  by_cases hn : s.data.toList = nul
  · have q1 : (s.toList == [92, 78]) = true := lit_eq hn
    have HX := Lib.hid (show saysV k s.data.toList = some ⟨0, 0, ⟨#[]⟩⟩ by rw [hn]; exact saysV_nul k)
    clear hn
    have HB0 := Lib.hid hb0
    clear hb0
    go_enter Tryd.func28, Tryd.ntmps28
    go_wp2
    have c0 := HBX.out.c0
    have c1 := HBX.out.c1
    have c2 := HBX.out.c2
    unfold zV at c0 c1 c2
    exact bodyPost_ret (by simp [results, Tryd.results28, go_sem, c0, c1, c2]) rfl (say_yes HX.out HB0.out)
  · have q1 : (s.toList == [92, 78]) = false := lit_ne hn
    have HNU := Lib.hid hn
    clear hn
    rcases hk with rfl | rfl | rfl
    · have HP := Lib.hid (fun w1 (h : Below w.heap.size w w1) => parse_any s hs w1 (hE.below (h.mono hB)))
      have HFM := Lib.hid (fun (n : Int) (hn : in64 n) w1 (h : Below w.heap.size w w1) => format_any n hn w1 (hE.below (h.mono hB)))
      have HB0 := Lib.hid hb0
      clear hb0 hE
      go_enter Tryd.func28, Tryd.ntmps28
      go_wp2_with (go_at_call 37; refine (HP.out _ HB0.out).mono ?_; rintro e w1 ⟨hb1, (⟨n, hp, rfl⟩ | ⟨n, t, p, hp, hn64, rfl⟩)⟩ <;> (have HB1 := Lib.hid (hop0 HB0.out hb1); have HBX1 := Lib.hid (HBX.out.below hb1); have HPV := Lib.hid hp; clear hb1 hp))
      · have hn64 : in64 n := by
          have h1 := Lib.parseIntB_bounds HPV.out
          unfold in64; simp at h1; omega
        obtain ⟨eqB, heq⟩ : ∃ eqB, ((txt (Lib.itoa n)).toList == s.toList) = eqB := ⟨_, rfl⟩
        have HV := Lib.hid (show (eqB = true → saysV 1 s.data.toList = some ⟨1, n, mt⟩) ∧ (eqB = false → saysV 1 s.data.toList = none) by
          have h1 := saysV_int HNU.out
          unfold intV at h1
          rw [HPV.out] at h1
          rw [Lib.toList_data, Lib.toList_data, txt_list] at heq
          by_cases h2 : Lib.itoa n = s.data.toList
          · refine ⟨fun _ => by rw [h1]; simp [h2], fun h => ?_⟩
            rw [← heq, h2] at h; simp at h
          · refine ⟨fun h => ?_, fun _ => by rw [h1]; simp [h2]⟩
            rw [← heq] at h; simp at h; exact absurd h h2)
        have HEQ := Lib.hid heq
        clear heq
        refine held_begin 12 (fun W => Hid (Below w.heap.size w W ∧ ∃ v, Box3 W w.heap.size v)) rfl (by kernel_rfl) ?_
        have hS : Hid (Below w.heap.size w w1.drew ∧ ∃ v, Box3 w1.drew w.heap.size v) := Lib.hid ⟨HB1.out.drew, _, HBX1.out⟩
        refine held_take (i := 0) (t := 19) (v := (.int .i64 n)) (fuel := 11) rfl rfl (by kernel_rfl) (by kernel_rfl) (by kernel_rfl) (fun _ _ _ h => h) (.inl ⟨rfl, fun W hW => by simp [execOp, Act.eval, go_sem]⟩) hS ?_
        simp only [List.setIfInBounds_toArray, List.set_cons_succ, List.set_cons_zero]
        refine held_take (i := 2) (t := 21) (v := .nilIface) (fuel := 10) rfl rfl (by kernel_rfl) (by kernel_rfl) (by kernel_rfl) (fun _ _ _ h => h) (.inl ⟨rfl, fun W hW => by simp [execOp, Act.eval, go_sem]⟩) hS ?_
        simp only [List.setIfInBounds_toArray, List.set_cons_succ, List.set_cons_zero]
        refine held_take (i := 3) (t := 22) (v := (.bool true)) (fuel := 9) rfl rfl (by kernel_rfl) (by kernel_rfl) (by kernel_rfl) (fun _ _ _ h => h) (.inl ⟨rfl, fun W hW => by simp [execOp, Act.eval, go_sem]⟩) hS ?_
        simp only [List.setIfInBounds_toArray, List.set_cons_succ, List.set_cons_zero]
        refine held_call (i := 1) rfl (by kernel_rfl) (by kernel_rfl) ?_
        simp [Oper.wp, execOp, Act.eval, Act.put, go_sem]
        refine (int_any n _).mono ?_
        unfold V.val
        rintro e w2 ⟨rfl, hb2⟩
        have hS : Hid (Below w.heap.size w w2 ∧ ∃ v, Box3 w2 w.heap.size v) := Lib.hid ⟨hop0 hS.out.1 hb2, hS.out.2.choose, hS.out.2.choose_spec.below hb2⟩
        refine ⟨hS, ?_⟩
        refine held_take (i := 4) (t := 23) (v := (.bool true)) (fuel := 7) rfl rfl (by kernel_rfl) (by kernel_rfl) (by kernel_rfl) (fun _ _ _ h => h) (.inl ⟨rfl, fun W hW => by simp [execOp, Act.eval, go_sem]⟩) hS ?_
        simp only [List.setIfInBounds_toArray, List.set_cons_succ, List.set_cons_zero]
        refine held_take (i := 5) (t := 24) (v := (.int .i64 n)) (fuel := 6) rfl rfl (by kernel_rfl) (by kernel_rfl) (by kernel_rfl) (fun _ _ _ h => h) (.inl ⟨rfl, fun W hW => by simp [execOp, Act.eval, go_sem]⟩) hS ?_
        simp only [List.setIfInBounds_toArray, List.set_cons_succ, List.set_cons_zero]
        refine held_take (i := 7) (t := 26) (v := (.string s)) (fuel := 5) rfl rfl (by kernel_rfl) (by kernel_rfl) (by kernel_rfl) (fun _ _ _ h => h) (.inl ⟨rfl, fun W hW => by simp [execOp, Act.eval, go_sem]⟩) hS ?_
        simp only [List.setIfInBounds_toArray, List.set_cons_succ, List.set_cons_zero]
        refine held_call (i := 6) rfl (by kernel_rfl) (by kernel_rfl) ?_
        simp [Oper.wp, execOp, Act.eval, Act.put, go_sem]
        refine (HFM.out n hn64 _ hS.out.1).mono ?_
        rintro e w3 ⟨rfl, hb3⟩
        have hS : Hid (Below w.heap.size w w3 ∧ ∃ v, Box3 w3 w.heap.size v) := Lib.hid ⟨hop0 hS.out.1 hb3, hS.out.2.choose, hS.out.2.choose_spec.below hb3⟩
        refine ⟨hS, ?_⟩
        try simp only [List.setIfInBounds_toArray, List.set_cons_succ, List.set_cons_zero]
        have heq := HEQ.out
        refine held_take (i := 8) (t := 27) (v := (.bool eqB)) (fuel := 3) rfl rfl (by kernel_rfl) (by kernel_rfl) (by kernel_rfl) (fun _ _ _ h => h) (.inl ⟨rfl, fun W hW => by simp [execOp, Act.eval, go_sem, heq]⟩) hS ?_
        simp only [List.setIfInBounds_toArray, List.set_cons_succ, List.set_cons_zero]
        refine held_take (i := 9) (t := 28) (v := (.bool eqB)) (fuel := 2) rfl rfl (by kernel_rfl) (by kernel_rfl) (by kernel_rfl) (fun _ _ _ h => h) (.inl ⟨rfl, fun W hW => by simp [execOp, Act.eval, go_sem]⟩) hS ?_
        simp only [List.setIfInBounds_toArray, List.set_cons_succ, List.set_cons_zero]
        clear heq
        obtain ⟨hbl0, v0, hbx0⟩ := hS.out
        have c0 := hbx0.c0
        have c1 := hbx0.c1
        have c2 := hbx0.c2
        have f0 := hbx0.free 0
        have f1 := hbx0.free 1
        have f2 := hbx0.free 2
        have hlt3 := hbx0.lt
        refine held_call (i := 10) rfl (by kernel_rfl) (by kernel_rfl) ?_
        simp [Oper.wp, execOp, Act.eval, Act.put, go_sem, c0, c1, c2, f0, f1, f2]
        have hbx := hbx0.set ⟨1, n, mt⟩
        have hbl := below_set3 hbl0 (Nat.le_refl _) ⟨1, n, mt⟩
        clear hbx0 hbl0 c0 c1 c2 f0 f1 f2 hlt3 hS
        have hS : Hid (Below w.heap.size w _ ∧ ∃ v, Box3 _ w.heap.size v) := Lib.hid ⟨hbl, _, hbx⟩
        refine ⟨hS, ?_⟩
        refine held_take (i := 11) (t := 5) (v := (.bool eqB)) (fuel := 0) rfl rfl (by kernel_rfl) (by kernel_rfl) (by kernel_rfl) (fun _ _ _ h => h) (.inl ⟨rfl, fun W hW => by simp [execOp, Act.eval, go_sem]⟩) hS ?_
        simp only [List.setIfInBounds_toArray, List.set_cons_succ, List.set_cons_zero]
        refine wpAnyH_done (by kernel_rfl) ?_ 0
        go_wp2
        have c0 := hbx.c0
        have c1 := hbx.c1
        have c2 := hbx.c2
        cases eqB
        · exact bodyPost_ret (by simp [results, Tryd.results28, go_sem, c0, c1, c2]) rfl (say_no ⟨1, n, mt⟩ (HV.out.2 rfl) hbl)
        · exact bodyPost_ret (by simp [results, Tryd.results28, go_sem, c0, c1, c2]) rfl (say_yes (HV.out.1 rfl) hbl)
      · have HX := Lib.hid (show saysV 1 s.data.toList = none by rw [saysV_int HNU.out, HPV.out]; rfl)
        refine held_begin 12 (fun W => Hid (Below w.heap.size w W ∧ ∃ v, Box3 W w.heap.size v)) rfl (by kernel_rfl) ?_
        have hS : Hid (Below w.heap.size w w1.drew ∧ ∃ v, Box3 w1.drew w.heap.size v) := Lib.hid ⟨HB1.out.drew, _, HBX1.out⟩
        refine held_take (i := 0) (t := 19) (v := (.int .i64 n)) (fuel := 11) rfl rfl (by kernel_rfl) (by kernel_rfl) (by kernel_rfl) (fun _ _ _ h => h) (.inl ⟨rfl, fun W hW => by simp [execOp, Act.eval, go_sem]⟩) hS ?_
        simp only [List.setIfInBounds_toArray, List.set_cons_succ, List.set_cons_zero]
        refine held_take (i := 2) (t := 21) (v := (.iface t p)) (fuel := 10) rfl rfl (by kernel_rfl) (by kernel_rfl) (by kernel_rfl) (fun _ _ _ h => h) (.inl ⟨rfl, fun W hW => by simp [execOp, Act.eval, go_sem]⟩) hS ?_
        simp only [List.setIfInBounds_toArray, List.set_cons_succ, List.set_cons_zero]
        refine held_take (i := 3) (t := 22) (v := (.bool false)) (fuel := 9) rfl rfl (by kernel_rfl) (by kernel_rfl) (by kernel_rfl) (fun _ _ _ h => h) (.inl ⟨rfl, fun W hW => by simp [execOp, Act.eval, go_sem]⟩) hS ?_
        simp only [List.setIfInBounds_toArray, List.set_cons_succ, List.set_cons_zero]
        refine held_call (i := 1) rfl (by kernel_rfl) (by kernel_rfl) ?_
        simp [Oper.wp, execOp, Act.eval, Act.put, go_sem]
        refine (int_any n _).mono ?_
        unfold V.val
        rintro e w2 ⟨rfl, hb2⟩
        have hS : Hid (Below w.heap.size w w2 ∧ ∃ v, Box3 w2 w.heap.size v) := Lib.hid ⟨hop0 hS.out.1 hb2, hS.out.2.choose, hS.out.2.choose_spec.below hb2⟩
        refine ⟨hS, ?_⟩
        refine held_take (i := 4) (t := 23) (v := (.bool false)) (fuel := 7) rfl rfl (by kernel_rfl) (by kernel_rfl) (by kernel_rfl) (fun _ _ _ h => h) (.inl ⟨rfl, fun W hW => by simp [execOp, Act.eval, go_sem]⟩) hS ?_
        simp only [List.setIfInBounds_toArray, List.set_cons_succ, List.set_cons_zero]
        refine held_take (i := 5) (t := 24) (v := undef) (fuel := 6) rfl rfl (by kernel_rfl) (by kernel_rfl) (by kernel_rfl) (fun _ _ _ h => h) (.inr ⟨rfl, rfl⟩) hS ?_
        simp only [List.setIfInBounds_toArray, List.set_cons_succ, List.set_cons_zero]
        refine held_take (i := 6) (t := 25) (v := undef) (fuel := 5) rfl rfl (by kernel_rfl) (by kernel_rfl) (by kernel_rfl) (fun _ _ _ h => h) (.inr ⟨rfl, rfl⟩) hS ?_
        simp only [List.setIfInBounds_toArray, List.set_cons_succ, List.set_cons_zero]
        refine held_take (i := 7) (t := 26) (v := undef) (fuel := 4) rfl rfl (by kernel_rfl) (by kernel_rfl) (by kernel_rfl) (fun _ _ _ h => h) (.inr ⟨rfl, rfl⟩) hS ?_
        simp only [List.setIfInBounds_toArray, List.set_cons_succ, List.set_cons_zero]
        refine held_take (i := 8) (t := 27) (v := undef) (fuel := 3) rfl rfl (by kernel_rfl) (by kernel_rfl) (by kernel_rfl) (fun _ _ _ h => h) (.inr ⟨rfl, rfl⟩) hS ?_
        simp only [List.setIfInBounds_toArray, List.set_cons_succ, List.set_cons_zero]
        refine held_take (i := 9) (t := 28) (v := (.bool false)) (fuel := 2) rfl rfl (by kernel_rfl) (by kernel_rfl) (by kernel_rfl) (fun _ _ _ h => h) (.inl ⟨rfl, fun W hW => by simp [execOp, Act.eval, go_sem]⟩) hS ?_
        simp only [List.setIfInBounds_toArray, List.set_cons_succ, List.set_cons_zero]
        obtain ⟨hbl0, v0, hbx0⟩ := hS.out
        have c0 := hbx0.c0
        have c1 := hbx0.c1
        have c2 := hbx0.c2
        have f0 := hbx0.free 0
        have f1 := hbx0.free 1
        have f2 := hbx0.free 2
        have hlt3 := hbx0.lt
        refine held_call (i := 10) rfl (by kernel_rfl) (by kernel_rfl) ?_
        simp [Oper.wp, execOp, Act.eval, Act.put, go_sem, c0, c1, c2, f0, f1, f2]
        have hbx := hbx0.set ⟨1, n, mt⟩
        have hbl := below_set3 hbl0 (Nat.le_refl _) ⟨1, n, mt⟩
        clear hbx0 hbl0 c0 c1 c2 f0 f1 f2 hlt3 hS
        have hS : Hid (Below w.heap.size w _ ∧ ∃ v, Box3 _ w.heap.size v) := Lib.hid ⟨hbl, _, hbx⟩
        refine ⟨hS, ?_⟩
        refine held_take (i := 11) (t := 5) (v := (.bool false)) (fuel := 0) rfl rfl (by kernel_rfl) (by kernel_rfl) (by kernel_rfl) (fun _ _ _ h => h) (.inl ⟨rfl, fun W hW => by simp [execOp, Act.eval, go_sem]⟩) hS ?_
        simp only [List.setIfInBounds_toArray, List.set_cons_succ, List.set_cons_zero]
        refine wpAnyH_done (by kernel_rfl) ?_ 0
        go_wp2
        have c0 := hbx.c0
        have c1 := hbx.c1
        have c2 := hbx.c2
        exact bodyPost_ret (by simp [results, Tryd.results28, go_sem, c0, c1, c2]) rfl (say_no ⟨1, n, mt⟩ HX.out hbl)
    · clear hE
      have HB0 := Lib.hid hb0
      clear hb0
      by_cases ht : s.data.toList = tru
      · have q2 : (s.toList == [116, 114, 117, 101]) = true := lit_eq ht
        have HX := Lib.hid (show saysV 2 s.data.toList = some ⟨2, 1, ⟨#[]⟩⟩ by rw [saysV_bool HNU.out, if_pos ht]; rfl)
        clear ht
        go_enter Tryd.func28, Tryd.ntmps28
        go_wp2_with (go_at_call 40; refine (boolT _).mono ?_; rintro e w1 ⟨rfl, hb1⟩; have HBX1 := Lib.hid (HBX.out.below hb1); have HBY := Lib.hid (below_set3 (hop0 HB0.out hb1) (Nat.le_refl _) ⟨2, 1, ⟨#[]⟩⟩); have HBZ := Lib.hid (HBX1.out.set ⟨2, 1, ⟨#[]⟩⟩); have f0 := HBX1.out.free 0; have f1 := HBX1.out.free 1; have f2 := HBX1.out.free 2; have c0 := HBX1.out.c0; have c1 := HBX1.out.c1; have c2 := HBX1.out.c2; have hltx := HBX1.out.lt; clear hb1)
        clear c0 c1 c2
        have c0 := HBZ.out.c0
        have c1 := HBZ.out.c1
        have c2 := HBZ.out.c2
        exact bodyPost_ret (by simp [results, Tryd.results28, go_sem, c0, c1, c2]) rfl (say_yes HX.out HBY.out)
      · have q2 : (s.toList == [116, 114, 117, 101]) = false := lit_ne ht
        by_cases hf : s.data.toList = fls
        · have q3 : (s.toList == [102, 97, 108, 115, 101]) = true := lit_eq hf
          have HX := Lib.hid (show saysV 2 s.data.toList = some ⟨2, 0, ⟨#[]⟩⟩ by rw [saysV_bool HNU.out, if_neg ht, if_pos hf]; rfl)
          clear ht hf
          go_enter Tryd.func28, Tryd.ntmps28
          go_wp2_with (go_at_call 40; refine (boolF _).mono ?_; rintro e w1 ⟨rfl, hb1⟩; have HBX1 := Lib.hid (HBX.out.below hb1); have HBY := Lib.hid (below_set3 (hop0 HB0.out hb1) (Nat.le_refl _) ⟨2, 0, ⟨#[]⟩⟩); have HBZ := Lib.hid (HBX1.out.set ⟨2, 0, ⟨#[]⟩⟩); have f0 := HBX1.out.free 0; have f1 := HBX1.out.free 1; have f2 := HBX1.out.free 2; have c0 := HBX1.out.c0; have c1 := HBX1.out.c1; have c2 := HBX1.out.c2; have hltx := HBX1.out.lt; clear hb1)
          clear c0 c1 c2
          have c0 := HBZ.out.c0
          have c1 := HBZ.out.c1
          have c2 := HBZ.out.c2
          exact bodyPost_ret (by simp [results, Tryd.results28, go_sem, c0, c1, c2]) rfl (say_yes HX.out HBY.out)
        · have q3 : (s.toList == [102, 97, 108, 115, 101]) = false := lit_ne hf
          have HX := Lib.hid (show saysV 2 s.data.toList = none by rw [saysV_bool HNU.out, if_neg ht, if_neg hf])
          clear ht hf
          go_enter Tryd.func28, Tryd.ntmps28
          go_wp2_with (go_at_call 40; refine (boolF _).mono ?_; rintro e w1 ⟨rfl, hb1⟩; have HBX1 := Lib.hid (HBX.out.below hb1); have HBY := Lib.hid (below_set3 (hop0 HB0.out hb1) (Nat.le_refl _) ⟨2, 0, ⟨#[]⟩⟩); have HBZ := Lib.hid (HBX1.out.set ⟨2, 0, ⟨#[]⟩⟩); have f0 := HBX1.out.free 0; have f1 := HBX1.out.free 1; have f2 := HBX1.out.free 2; have c0 := HBX1.out.c0; have c1 := HBX1.out.c1; have c2 := HBX1.out.c2; have hltx := HBX1.out.lt; clear hb1)
          clear c0 c1 c2
          have c0 := HBZ.out.c0
          have c1 := HBZ.out.c1
          have c2 := HBZ.out.c2
          exact bodyPost_ret (by simp [results, Tryd.results28, go_sem, c0, c1, c2]) rfl (say_no ⟨2, 0, ⟨#[]⟩⟩ HX.out HBY.out)
    · have HX := Lib.hid (show saysV 3 s.data.toList = textO s.data.toList from saysV_text HNU.out)
      have HTX := Lib.hid (textf_any s hs)
      clear hE
      have HB0 := Lib.hid hb0
      clear hb0
      go_enter Tryd.func28, Tryd.ntmps28
      go_wp2_with (go_at_call 41; refine (HTX.out _).mono ?_; rintro e w1 ⟨v, ok, rfl, hy, hn, hb1⟩; have HY := Lib.hid hy; have HN := Lib.hid hn; have HBX1 := Lib.hid (HBX.out.below hb1); have HBY := Lib.hid (below_set3 (hop0 HB0.out hb1) (Nat.le_refl _) v); have HBZ := Lib.hid (HBX1.out.set v); have f0 := HBX1.out.free 0; have f1 := HBX1.out.free 1; have f2 := HBX1.out.free 2; have c0 := HBX1.out.c0; have c1 := HBX1.out.c1; have c2 := HBX1.out.c2; have hltx := HBX1.out.lt; clear hb1 hy hn)
      clear c0 c1 c2
      have c0 := HBZ.out.c0
      have c1 := HBZ.out.c1
      have c2 := HBZ.out.c2
      refine bodyPost_ret (v := .tuple #[.agg #[.int .i64 v.k, .int .i64 v.n, .string v.s], .bool ok]) (by simp [results, Tryd.results28, go_sem, c0, c1, c2]) rfl ⟨v, ok, rfl, ?_, ?_, HBY.out⟩
      · intro h; rw [HX.out]; exact HY.out h
      · intro h; rw [HX.out]; exact HN.out h
end Go.Proofs.YtfkfgabepjpdlaaDoor
