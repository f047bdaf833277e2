/- metalog: calls of no log; the walk of MetaNil. -/
import Derived.Test.YtnkhgajghfonhaaGreatDoorMlXZ
import Derived.Test.YtnkhgajghfonhaaGreatDoorPlNil
namespace Go.Proofs.YtnkhgajghfonhaaGreatDoor
attribute [local go_sem] Oper.semAt_some
open Go Go.ChangeShapes Go.WideShapes Go.ChangeAt Go.RowKit Go.ChangeMaps Go.MapKept
set_option linter.unusedVariables false
set_option linter.unusedSimpArgs false

theorem last_no (w : World) : Calls Tryz.prog 18 #[.pointer none] w fun e w' => e = .returned (.tuple #[.int .i64 0, .bool false]) ∧ w = w' := by
  go_enter Tryz.func18, Tryz.ntmps18
  go_wp2
  go_ret2
  exact ⟨rfl, rfl⟩
theorem get_no (t : Int) (w : World) : Calls Tryz.prog 17 #[.pointer none, .int .i64 t] w fun e w' => e = .returned (.tuple #[.slice none 0 0, .int .i64 1]) ∧ w = w' := by
  go_enter Tryz.func17, Tryz.ntmps17
  go_wp2
  go_ret2
  exact ⟨rfl, rfl⟩
theorem len_no (w : World) : Calls Tryz.prog 15 #[.pointer none] w fun e w' => e = .returned (.int .i64 0) ∧ w = w' := by
  go_enter Tryz.func15, Tryz.ntmps15
  go_wp2
  go_ret
  exact ⟨rfl, rfl⟩
theorem put_no (t : Int) (v : Value) (w : World) : Calls Tryz.prog 12 #[.pointer none, .int .i64 t, v] w fun e w' => e = .returned (.int .i64 1) ∧ w = w' := by
  go_enter Tryz.func12, Tryz.ntmps12
  go_wp2
  go_ret
  exact ⟨rfl, rfl⟩
theorem fold_no (t : Int) (w : World) : Calls Tryz.prog 11 #[.pointer none, .int .i64 t] w fun e w' => e = .returned (.int .i64 1) ∧ w = w' := by
  go_enter Tryz.func11, Tryz.ntmps11
  go_wp2
  go_ret
  exact ⟨rfl, rfl⟩
theorem purge_no (t : Int) (w : World) : Calls Tryz.prog 19 #[.pointer none, .int .i64 t] w fun e w' => e = .returned (.int .i64 1) ∧ Below w.heap.size w w' := by
  go_enter Tryz.func19, Tryz.ntmps19
  go_wp2
  go_ret
  exact ⟨rfl, ((Below.refl _ w).alloc (Nat.le_refl _) _).alloc (by simp) _⟩
def alW (w : World) : World := (w.alloc (.cells #[.slice none 0 0] 64)).alloc (.cells #[.pointer (some ⟨w.heap.size, 0, none⟩)] 68)
theorem all_no (w : World) : Calls Tryz.prog 14 #[.pointer none] w fun e w' => e = .returned (.func (.func 50) #[] #[.pointer (some ⟨w.heap.size + 1, 0, none⟩)]) ∧ w' = alW w := by
  go_enter Tryz.func14, Tryz.ntmps14
  go_wp2
  go_ret
  exact ⟨by simp, rfl⟩
theorem open_no (d : ByteArray) (w : World) : Calls Tryz.prog 9 #[.pointer none, .string d] w fun e w' => e = .returned (.tuple #[.pointer none, .int .i64 1]) ∧ Below w.heap.size w w' := by
  refine (callsIn_wide (n := 8)).1 ?_
  refine callsIn_of_wp_marks Tryz.func9 rfl trivial ?_ rfl
  simp only [Tryz.ntmps9, List.size_toArray, List.length_cons, List.length_nil, Nat.reduceAdd, Nat.reduceSub, Array.replicate_succ, Array.replicate_zero, List.push_toArray, List.append_toArray, List.nil_append, List.cons_append]
  have HB1 := Lib.hid (show Below w.heap.size w ((w.alloc (.cells #[.pointer none] 29)).alloc (.cells #[.int .i64 0] 26)) from ((Below.refl _ w).alloc (Nat.le_refl _) _).alloc (by simp) _)
  have HC14 := Lib.hid (show Cells ((w.alloc (.cells #[.pointer none] 29)).alloc (.cells #[.int .i64 0] 26)) w.heap.size #[.pointer none] 29 from (Cells.new w _ _).alloc _)
  have HC15 := Lib.hid (show Cells ((w.alloc (.cells #[.pointer none] 29)).alloc (.cells #[.int .i64 0] 26)) (w.heap.size + 1) #[.int .i64 0] 26 from cells_at _ _ (by simp) _ _)
  gi_wp2_with (first
    | (refine ⟨trivial, ?_⟩; gi_at_call 21; go_loud (refine (callsIn_wide.2 (ready_nil _ _)).mono ?_; rintro e w2 ⟨rfl, hb⟩; have HB := Lib.hid hb; have k4 := HC14.out.ch (chb hb) (fun h => h); have k5 := HC15.out.ch (chb hb) (fun h => h); have r4 : w2.cell? ⟨w.heap.size, 0, none⟩ = some (.pointer none) := k4.cell 0; have r5 : w2.cell? ⟨w.heap.size + 1, 0, none⟩ = some (.int .i64 0) := k5.cell 0; have f4 := k4.frozen 0; have f5 := k5.frozen 0; have g4 := k4.lt; have g5 := k5.lt; have K4 := Lib.hid k4; have K5 := Lib.hid k5; clear hb k4 k5))
    | fail)
  have c4 : ((w2.setCell ⟨w.heap.size, 0, none⟩ (.pointer none)).setCell ⟨w.heap.size + 1, 0, none⟩ (.int .i64 1)).cell? ⟨w.heap.size, 0, none⟩ = some (.pointer none) := (World.cell?_of_block (a := ⟨w.heap.size, 0, none⟩) (Below.heap_setCell _ ⟨w.heap.size + 1, 0, none⟩ _ _ (by show w.heap.size ≠ w.heap.size + 1; omega))).trans ((K4.out.set 0 _).cell 0)
  have c5 : ((w2.setCell ⟨w.heap.size, 0, none⟩ (.pointer none)).setCell ⟨w.heap.size + 1, 0, none⟩ (.int .i64 1)).cell? ⟨w.heap.size + 1, 0, none⟩ = some (.int .i64 1) := by
    have h5 : Cells (w2.setCell ⟨w.heap.size, 0, none⟩ (.pointer none)) (w.heap.size + 1) #[.int .i64 0] 26 := (Below.heap_setCell w2 ⟨w.heap.size, 0, none⟩ _ _ (by show w.heap.size + 1 ≠ w.heap.size; omega)).trans K5.out
    exact (h5.set 0 _).cell 0
  have hb : Below w.heap.size w ((w2.setCell ⟨w.heap.size, 0, none⟩ (.pointer none)).setCell ⟨w.heap.size + 1, 0, none⟩ (.int .i64 1)) := ((HB1.out.trans (HB.out.mono HB1.out.size)).setCell (p := ⟨w.heap.size, 0, none⟩) (Nat.le_refl _) _).setCell (p := ⟨w.heap.size + 1, 0, none⟩) (Nat.le_succ _) _
  clear r4 r5 f4 f5
  exact ⟨.tuple #[.pointer none, .int .i64 1], by simp [results, Tryz.results9, go_sem, c4, c5], rfl, hb⟩
set_option maxRecDepth 100000 in
set_option maxHeartbeats 2000000 in
/-- The iterator over no entries. -/
theorem allm0_seq (n : Nat) (hn : 4 ≤ n) (q T : Nat) (W : World) (hq : Cells W q #[.pointer (some ⟨T, 0, none⟩)] 68) (hT : Cells W T #[.slice none 0 0] 64) :
    SeqAt Fence.wide n Tryz.prog 50 #[.pointer (some ⟨q, 0, none⟩)] (fun x : Int × Value => #[.int .i64 x.1, x.2]) (fun _ _ _ => False) (fun _ _ => True) (fun xs => xs = []) W := by
  intro L J Jx hJ hJx hY h0
  have hn1 : 1 ≤ n := by omega
  have hn2 : 1 ≤ n - 1 - 1 := by omega
  have hn3 : 1 ≤ n - 1 - 1 - 1 := by omega
  have HJ := Lib.hid hJ
  have H0 := Lib.hid h0
  have HT := Lib.hid hT
  have c0 := hq.cell 0
  have hlq := hq.lt
  clear hJ hJx hY h0 hq hT
  refine callsIn_of_wp_marks Tryz.func50 rfl trivial ?_ rfl
  simp only [Tryz.ntmps50, List.size_toArray, List.length_cons, List.length_nil, Nat.reduceAdd, Nat.reduceSub, Array.replicate_succ, Array.replicate_zero, List.push_toArray, List.append_toArray, List.nil_append, List.cons_append]
  gi_wp2_with (first
    | (refine ⟨trivial, ?_⟩; gi_at_call 51; go_loud (refine (callsIn_wide.2 (all_any _ _ _)).mono ?_; rintro e w1 ⟨rfl, rfl⟩)))
  obtain ⟨W0, hW0⟩ : ∃ W0, (W.alloc (.cells #[.func (.yield L) #[] #[]] 102)).alloc (.cells #[.pointer (some ⟨T, 0, none⟩)] 68) = W0 := ⟨_, rfl⟩
  have hsz : W0.heap.size = W.heap.size + 2 := by rw [← hW0]; simp
  have hg0 : W.grownBy W0 none := by rw [← hW0]; exact grown_of_below (((Below.refl _ W).alloc (Nat.le_refl _) _).alloc (by simp) _)
  have hbx : Cells W0 (W.heap.size + 1) #[.pointer (some ⟨T, 0, none⟩)] 68 := by rw [← hW0]; exact cells_at _ _ (by simp) _ _
  have hT0 : Cells W0 T #[.slice none 0 0] 64 := HT.out.ch (ch_grown hg0) (fun h => h)
  rw [hW0]
  have HG0 := Lib.hid hg0
  clear hW0 hg0
  refine range_nest rfl (by omega) (gf := 79) (lb := #[.pointer (some ⟨W.heap.size + 1, 0, none⟩)]) rfl trivial (enters_of Tryz.func79 (by kernel_rfl) rfl)
    (fun W1 hg hs1 => all_seq (n - 1) (by omega) [] (Nat.zero_le _) T 0 0 (W.heap.size + 1) none (fun _ => False) W1 (hbx.ch (ch_grown hg) (fun h => h)) ((hT0.ch (ch_grown hg) (fun h => h)).cell 0) (fun j hj => absurd hj (by simp)) (fun a ha => by cases ha)) (fun _ => rfl)
    Kept.trans (fun hg => Kept.grown hg) (fun U o => (ch_put U _ o).mono fun k _ e hk => hk)
    (fun pre U => pre = [] ∧ J [] U) (fun c pre U => False)
    ((LoopOwn.pure_ _).and ((HJ.out.mono (by omega)).map fun _ => [])) (fun c _ U V row h1 hg hr => h1.elim)
    (fun pre => LoopOwn.pure_ (fun _ => _)) ?start boxE (fun x U => World.grownBy_alloc U _ none) (fun _ _ _ => True) (fun _ _ _ _ _ => trivial) ?a1 ?assign ?body ?done ?stop
  case start =>
    intro W1 hg hs1
    exact ⟨rfl, HJ.out.grow (HJ.out.grow H0.out HG0.out) hg⟩
  case assign =>
    intro l0 x U K hK
    unfold mrEnc
    gi_wp2
    exact hK
  case body =>
    rintro l0 pre x U V _ ⟨post, hpre⟩ _
    exact absurd hpre (by simp)
  case done =>
    rintro xs V hxs ⟨hp, hJ3⟩ hK
    have HJ3 := Lib.hid hJ3
    have HK := Lib.hid hK
    rw [hsz] at HK ⊢
    clear hp hJ3 hK hsz
    gi_wp2
    refine ⟨by simp, .inl ⟨_, _, rfl, run_takeDeferred HK.out, ?_⟩⟩
    exact ⟨.tuple #[], by simp [results, Tryz.results50, go_sem], ⟨_, rfl⟩, .inl ⟨_, rfl, HJ.out.done HJ3.out (by omega) HK.out _⟩⟩
  case stop =>
    rintro c pre V h hK
    exact h.elim
theorem alW_below (w : World) : Below w.heap.size w (alW w) := ((Below.refl _ w).alloc (Nat.le_refl _) _).alloc (by simp) _
theorem alW_cells (w : World) : Cells (alW w) w.heap.size #[.slice none 0 0] 64 ∧ Cells (alW w) (w.heap.size + 1) #[.pointer (some ⟨w.heap.size, 0, none⟩)] 68 := ⟨(Cells.new w _ _).alloc _, cells_at _ _ (by simp) _ _⟩
set_option maxRecDepth 100000 in
set_option maxHeartbeats 4000000 in
theorem nil_ml (t : Int) (d : ByteArray) (w : World) (hT : Tab w.heap.size w) : Calls Tryz.prog 5 #[.int .i64 t, .string d] w fun e w' => e = .returned (.bool true) ∧ Below w.heap.size w w' := by
  refine (callsIn_wide (n := 8)).1 ?_
  have HAL := Lib.hid (alive_ml w hT)
  clear hT
  refine callsIn_of_wp_marks Tryz.func5 rfl trivial ?_ rfl
  simp only [Tryz.ntmps5, List.size_toArray, List.length_cons, List.length_nil, Nat.reduceAdd, Nat.reduceSub, Array.replicate_succ, Array.replicate_zero, List.push_toArray, List.append_toArray, List.nil_append, List.cons_append]
  gi_wp2_with (first
    | (refine ⟨trivial, ?_⟩; gi_at_call 7; go_loud (refine (callsIn_wide.2 HAL.out).mono ?_; rintro e w1 ⟨rfl, hb⟩; have HB1 := Lib.hid hb; clear hb))
    | (refine ⟨trivial, ?_⟩; gi_at_call 18; go_loud (refine (callsIn_wide.2 (last_no _)).mono ?_; rintro e w2 ⟨rfl, rfl⟩))
    | (refine ⟨trivial, ?_⟩; gi_at_call 17; go_loud (refine (callsIn_wide.2 (get_no _ _)).mono ?_; rintro e w2 ⟨rfl, rfl⟩))
    | (refine ⟨trivial, ?_⟩; gi_at_call 14; go_loud (refine (callsIn_wide.2 (all_no _)).mono ?_; rintro e w2 ⟨rfl, hw2⟩; have HW2 := Lib.hid hw2; clear hw2)))
  have hz2 : w2.heap.size = w1.heap.size + 3 := by rw [HW2.out]; unfold alW; simp
  have hb2 : Below w1.heap.size w1 w2 := by rw [HW2.out]; exact ((Below.refl _ w1).alloc (Nat.le_refl _) _).trans ((alW_below _).mono (by simp))
  have hcn : Cells w2 w1.heap.size #[.int .i64 0] 3 := by rw [HW2.out]; exact (Cells.new w1 _ _).ch (chb (alW_below _)) (fun h => h)
  have hcT : Cells w2 (w1.heap.size + 1) #[.slice none 0 0] 64 := by
    have h := (alW_cells (w1.alloc (.cells #[.int .i64 0] 3))).1
    rw [← HW2.out] at h
    simpa using h
  have hcq : Cells w2 (w1.heap.size + 1 + 1) #[.pointer (some ⟨w1.heap.size + 1, 0, none⟩)] 68 := by
    have h := (alW_cells (w1.alloc (.cells #[.int .i64 0] 3))).2
    rw [← HW2.out] at h
    simpa using h
  have HCN := Lib.hid hcn
  have HB2 := Lib.hid hb2
  clear hb2 hcn HW2
  refine range_nest rfl (by omega) (gf := 50) (lb := #[.pointer (some ⟨w1.heap.size + 1 + 1, 0, none⟩)]) rfl trivial (enters_of Tryz.func50 (by kernel_rfl) rfl)
    (fun W1 hg hs1 => allm0_seq _ (by omega) (w1.heap.size + 1 + 1) (w1.heap.size + 1) W1 (hcq.ch (ch_grown hg) (fun h => h)) (hcT.ch (ch_grown hg) (fun h => h))) (fun _ => rfl)
    (fun _ _ => trivial) (fun hg => trivial) (fun U o => trivial)
    (fun pre U => pre = [] ∧ Kept (fun _ => True) w2 U) (fun c pre U => False)
    ((LoopOwn.pure_ _).and (LoopOwn.kept (Nat.le_refl _))) (fun c _ U V row h1 hg hr => h1.elim)
    (fun pre => LoopOwn.pure_ (fun _ => _)) ?start (fun _ U => U) (fun x U => grown_of_below (Below.refl _ U)) (fun _ _ _ => True) (fun _ _ _ _ _ => trivial) ?a1 ?assign ?body ?done ?stop
  case start =>
    intro W1 hg hs1
    exact ⟨rfl, Kept.grown hg⟩
  case assign =>
    intro l0 x U K hK
    gi_wp2
    exact hK
  case body =>
    rintro l0 pre x U V _ hY _
    exact hY.elim
  case done =>
    rintro xs V rfl ⟨hp, hk⟩ hK
    have HCV := Lib.hid (hk.cells trivial HCN.out)
    have HK := Lib.hid hK
    have HBV := Lib.hid (show Below w1.heap.size w1 V from HB2.out.trans (none_below hk (by omega)))
    clear hp hk hK
    gi_wp2_with (first
      | (refine ⟨trivial, ?_⟩; gi_at_call 9; go_loud (refine (callsIn_wide.2 (open_no _ _)).mono ?_; rintro e w3 ⟨rfl, hb⟩; have HB3 := Lib.hid hb; have n3 : w3.cell? ⟨w1.heap.size, 0, none⟩ = some (.int .i64 0) := cell_later hb (HCV.out.cell 0); clear hb))
      | (refine ⟨trivial, ?_⟩; gi_at_call 15; go_loud (refine (callsIn_wide.2 (len_no _)).mono ?_; rintro e w4 ⟨rfl, rfl⟩))
      | (refine ⟨trivial, ?_⟩; gi_at_call 12; go_loud (refine (callsIn_wide.2 (put_no _ _ _)).mono ?_; rintro e w4 ⟨rfl, rfl⟩))
      | (refine ⟨trivial, ?_⟩; gi_at_call 11; go_loud (refine (callsIn_wide.2 (fold_no _ _)).mono ?_; rintro e w4 ⟨rfl, rfl⟩))
      | (refine ⟨trivial, ?_⟩; gi_at_call 19; go_loud (refine (callsIn_wide.2 (purge_no _ _)).mono ?_; rintro e w4 ⟨rfl, hb⟩; have HB4 := Lib.hid hb; clear hb)))
    have hl := (Array.getElem?_eq_some_iff.1 HK.out).1
    have hD : w4.heap[w1.heap.size + 3]? = some (.deferred (some [])) := by
      rw [← hz2]
      exact (HB4.out.block _ (Nat.lt_of_lt_of_le hl HB3.out.size)).trans ((HB3.out.block _ hl).trans HK.out)
    have hs1 := HBV.out.size
    have hs3 := HB3.out.size
    have hb4 : Below w.heap.size w w4 := HB1.out.trans ((HBV.out.trans ((HB3.out.mono hs1).trans (HB4.out.mono (Nat.le_trans hs1 hs3)))).mono HB1.out.size)
    refine ⟨by simp, .inl ⟨_, _, rfl, run_takeDeferred hD, ?_⟩⟩
    exact ⟨.bool true, by simp [results, Tryz.results5, go_sem], rfl, hb4.trans (below_put (a := w.heap.size) (q := w1.heap.size + 3) (by have := HB1.out.size; omega) _)⟩
  case stop =>
    rintro c pre V h hK
    exact h.elim
end Go.Proofs.YtnkhgajghfonhaaGreatDoor
