/- Several texts in one: MlT, MlU. -/
import Derived.Test.YtnkhgajghfonhaaGreatDoorMlOS
/- metalog: the numbers in no names. -/
namespace Go.Proofs.YtnkhgajghfonhaaGreatDoor
attribute [local go_sem] Oper.semAt_some
open Go Go.ChangeShapes Go.WideShapes Go.ChangeAt Go.RowKit Go.ChangeMaps Go.MapKept
set_option linter.unusedVariables false
set_option linter.unusedSimpArgs false

def nuW (v : Value) (m : ByteArray) (w : World) : World := (w.alloc (.cells #[v] 54)).alloc (.cells #[.string m] 9)
theorem numbers_any (A : Option Addr) (n c : Nat) (m : ByteArray) (w : World) : Calls Tryz.prog 23 #[.slice A n c, .string m] w fun e w' =>
    e = .returned (.func (.func 59) #[] #[.pointer (some ⟨w.heap.size, 0, none⟩), .pointer (some ⟨w.heap.size + 1, 0, none⟩)]) ∧ w' = nuW (.slice A n c) m w := by
  go_enter Tryz.func23, Tryz.ntmps23
  go_wp2
  go_ret
  exact ⟨by simp, rfl⟩
theorem nuW_below (v : Value) (m : ByteArray) (w : World) : Below w.heap.size w (nuW v m w) := ((Below.refl _ w).alloc (Nat.le_refl _) _).alloc (by simp) _
theorem nuW_cells (v : Value) (m : ByteArray) (w : World) : Cells (nuW v m w) w.heap.size #[v] 54 ∧ Cells (nuW v m w) (w.heap.size + 1) #[.string m] 9 := ⟨(Cells.new w _ _).alloc _, cells_at _ _ (by simp) _ _⟩
set_option maxRecDepth 100000 in
set_option maxHeartbeats 2000000 in
theorem numbers0_seq (n : Nat) (hn : 1 ≤ n) (p1 p2 c : Nat) (A : Option Addr) (W : World) (hbox : Cells W p1 #[.slice A 0 c] 54) :
    SeqAt Fence.wide n Tryz.prog 59 #[.pointer (some ⟨p1, 0, none⟩), .pointer (some ⟨p2, 0, none⟩)] (fun x : Int => #[.int .i64 x]) (fun _ _ _ => False) (fun _ _ => True) (fun xs => xs = []) W := by
  intro L J Jx hJ hJx hY h0
  have H0 := Lib.hid h0
  have c0 := hbox.cell 0
  clear hbox hJ hJx hY h0
  refine callsIn_of_wp Tryz.func59 rfl trivial ?_ rfl
  simp only [Tryz.ntmps59, List.size_toArray, List.length_cons, List.length_nil, Nat.reduceAdd, Nat.reduceSub, Array.replicate_succ, Array.replicate_zero, List.push_toArray, List.append_toArray, List.nil_append, List.cons_append]
  gi_wp2
  gi_loopw [12] (fun i wr => i = .int .i64 0 ∧ J [] wr) (fun _ _ => 0)
  case atStart => exact ⟨rfl, H0.out⟩
  case round =>
    obtain ⟨rfl, hJp⟩ := hrel
    have HE := Lib.hid hJp
    clear hJp
    gi_wp2
    go_end0
    exact ⟨⟨_, rfl⟩, .inl ⟨_, rfl, HE.out⟩⟩
set_option maxRecDepth 100000 in
set_option maxHeartbeats 2000000 in
theorem append0_any (p1 p2 c : Nat) (A : Option Addr) (w : World) (hbox : Cells w p1 #[.slice A 0 c] 54) :
    Calls Tryz.prog 58 #[.slice none 0 0, .func (.func 59) #[] #[.pointer (some ⟨p1, 0, none⟩), .pointer (some ⟨p2, 0, none⟩)]] w fun e w' => e = .returned (.slice none 0 0) ∧ Below w.heap.size w w' := by
  refine (callsIn_wide (n := 8)).1 ?_
  have HBX := Lib.hid hbox
  clear hbox
  refine callsIn_of_wp_marks Tryz.func58 rfl trivial ?_ rfl
  simp only [Tryz.ntmps58, List.size_toArray, List.length_cons, List.length_nil, Nat.reduceAdd, Nat.reduceSub, Array.replicate_succ, Array.replicate_zero, List.push_toArray, List.append_toArray, List.nil_append, List.cons_append]
  gi_wp2
  obtain ⟨W0, hW0⟩ : ∃ W0, w.alloc (.cells #[.slice none 0 0] 57) = W0 := ⟨_, rfl⟩
  have hsz : W0.heap.size = w.heap.size + 1 := by rw [← hW0]; simp
  have hb0 : Below w.heap.size w W0 := by rw [← hW0]; exact (Below.refl _ w).alloc (Nat.le_refl _) _
  have hcl : Cells W0 w.heap.size #[.slice none 0 0] 57 := by rw [← hW0]; exact Cells.new w _ _
  rw [hW0]
  have HB0 := Lib.hid hb0
  have HCL := Lib.hid hcl
  clear hW0 hb0 hcl
  refine range_nest rfl (by omega) (gf := 59) (lb := #[.pointer (some ⟨p1, 0, none⟩), .pointer (some ⟨p2, 0, none⟩)]) rfl trivial (enters_of Tryz.func59 (by kernel_rfl) rfl)
    (fun W1 hg hs1 => numbers0_seq _ (by omega) p1 p2 c A W1 ((HBX.out.ch (chb HB0.out) (fun h => h)).ch (ch_grown hg) (fun h => h))) (fun _ => rfl)
    (fun _ _ => trivial) (fun hg => trivial) (fun U o => trivial)
    (fun pre U => pre = [] ∧ Kept (fun _ => True) W0 U) (fun c pre U => False)
    ((LoopOwn.pure_ _).and (LoopOwn.kept (by omega))) (fun c _ U V row h1 hg hr => h1.elim)
    (fun pre => LoopOwn.pure_ (fun _ => _)) ?start (fun _ U => U) (fun x U => grown_of_below (Below.refl _ U)) (fun _ _ _ => True) (fun _ _ _ _ _ => trivial) ?a1 ?assign ?body ?done ?stop
  case start =>
    intro W1 hg hs1
    exact ⟨rfl, Kept.grown hg⟩
  case assign =>
    intro l0 x U K hK
    gi_wp2
    exact hK
  case body =>
    rintro l0 pre x U V _ hY _
    exact hY.elim
  case done =>
    rintro xs V rfl ⟨hp, hk⟩ hK
    have hc := hk.cells trivial HCL.out
    have c0 : V.cell? ⟨w.heap.size, 0, none⟩ = some (.slice none 0 0) := hc.cell 0
    have HK := Lib.hid hK
    have HKP := Lib.hid hk
    rw [hsz] at HK ⊢
    clear hp hk hc hK hsz
    gi_wp2
    refine ⟨by simp, .inl ⟨_, _, rfl, run_takeDeferred HK.out, ?_⟩⟩
    refine ⟨.slice none 0 0, by simp [results, Tryz.results58, go_sem], rfl, ?_⟩
    exact HB0.out.trans ((none_below HKP.out (by have := HB0.out.size; omega)).trans (below_put (a := w.heap.size) (q := w.heap.size + 1) (by omega) _))
  case stop =>
    rintro c pre V h hK
    exact h.elim
theorem collect0_any (p1 p2 c : Nat) (A : Option Addr) (w : World) (hbox : Cells w p1 #[.slice A 0 c] 54) :
    Calls Tryz.prog 22 #[.func (.func 59) #[] #[.pointer (some ⟨p1, 0, none⟩), .pointer (some ⟨p2, 0, none⟩)]] w fun e w' => e = .returned (.slice none 0 0) ∧ Below w.heap.size w w' := by
  have HA := Lib.hid (append0_any p1 p2 c A w hbox)
  clear hbox
  go_enter Tryz.func22, Tryz.ntmps22
  go_wp2_with (go_at_call 58; go_loud (refine HA.out.mono ?_; rintro e w1 ⟨rfl, hb1⟩; have HB1 := Lib.hid hb1; clear hb1))
  go_ret
  exact ⟨rfl, HB1.out⟩
theorem readFold0_any {P : Nat → Prop} {l f : Nat} {dir : Nm} {rs : List Mr} {w : World} (h : LogAt P l f dir rs [] w) : Calls Tryz.prog 24 #[.pointer (some ⟨l, 0, none⟩)] w fun e w' => e = .returned (.int .i64 0) ∧ Below w.heap.size w w' := by
  have HG := Lib.hid (show Calls Tryz.prog 26 #[.pointer (some ⟨l, 0, none⟩)] w fun e w' => e = .returned (.tuple #[.int .i64 0, .bool false]) ∧ Below w.heap.size w w' from greatest_any h)
  clear h
  go_enter Tryz.func24, Tryz.ntmps24
  go_wp2_with (go_at_call 26; go_loud (refine HG.out.mono ?_; rintro e w1 ⟨rfl, hb1⟩; have HB1 := Lib.hid hb1; clear hb1))
  go_ret
  exact ⟨rfl, HB1.out⟩
end Go.Proofs.YtnkhgajghfonhaaGreatDoor

/- metalog: Open of a directory without files. -/
namespace Go.Proofs.YtnkhgajghfonhaaGreatDoor
attribute [local go_sem] Oper.semAt_some
open Go Go.ChangeShapes Go.WideShapes Go.ChangeAt Go.RowKit Go.ChangeMaps Go.MapKept
set_option linter.unusedVariables false
set_option linter.unusedSimpArgs false

section
variable {Q : Nat → Prop} {B f : Nat} {dir : Nm} {s s' : Fs} {w : World}
def OpenPost (Q : Nat → Prop) (B f : Nat) (dir : Nm) (rs : List Mr) (fs : List Int) (s : Fs) (w : World) (e : Ending) (w' : World) : Prop :=
  ∃ l, e = .returned (.tuple #[adr l, .int .i64 0]) ∧ LS Q B l f dir rs fs s w' ∧ Turn Q B w w'
theorem log_fresh {w4 : World} {f : Nat} {dir : Nm} : LogAt (· = w4.heap.size) w4.heap.size f dir [] [] (w4.alloc (.cells #[adr f, .string (txt dir), .slice none 0 0, .slice none 0 0] 66)) :=
  ⟨⟨none, 0, none, 0, Cells.new w4 _ _, World.ownsRow_nil _ 0 _ 4, World.ownsRow_nil _ 0 _ 1, (fun k hk => by cases hk), (fun k hk => by cases hk)⟩, rfl, fun r hr => absurd hr (by simp), fun i j hi => absurd hi (by simp), fun r hr => absurd hr (by simp), fun i hi => absurd hi (by simp), fun r hr => absurd hr (by simp), ⟨by decide, by decide⟩, fun k hk => by rw [hk]; simp⟩
set_option maxRecDepth 100000 in
set_option maxHeartbeats 4000000 in
theorem open_new {M : Nat} (hr : Rep Q B f s w) (wf : WfK M s) (hM : M + 1 + (listN (readyM s dir).2 dir).length + 1 ≤ 1000000) (hBw : B ≤ w.heap.size) (hrd : readyR s dir = ([], 0, s')) :
    Calls Tryz.prog 9 #[adr f, .string (txt dir)] w (OpenPost Q B f dir [] [] s' w) := by
  refine (callsIn_wide (n := 8)).1 ?_
  have HQ := Lib.hid (show ∀ i, Q i → i < w.heap.size from fun i hi => by obtain ⟨L, hL⟩ := hr; exact hL.kold i hi)
  have HR := Lib.hid hr
  have HRD := Lib.hid (fun (W : World) (hb : Below w.heap.size w W) => by
    have h := ready_any (hr.keep hb) wf dir hM (Nat.le_trans hBw hb.size)
    rw [hrd] at h
    exact h)
  clear hr wf hM hrd
  unfold adr
  refine callsIn_of_wp_marks Tryz.func9 rfl trivial ?_ rfl
  simp only [Tryz.ntmps9, List.size_toArray, List.length_cons, List.length_nil, Nat.reduceAdd, Nat.reduceSub, Array.replicate_succ, Array.replicate_zero, List.push_toArray, List.append_toArray, List.nil_append, List.cons_append]
  have HB1 := Lib.hid (show Below w.heap.size w ((w.alloc (.cells #[.pointer none] 29)).alloc (.cells #[.int .i64 0] 26)) from ((Below.refl _ w).alloc (Nat.le_refl _) _).alloc (by simp) _)
  have HC14 := Lib.hid (show Cells ((w.alloc (.cells #[.pointer none] 29)).alloc (.cells #[.int .i64 0] 26)) w.heap.size #[.pointer none] 29 from (Cells.new w _ _).alloc _)
  have HC15 := Lib.hid (show Cells ((w.alloc (.cells #[.pointer none] 29)).alloc (.cells #[.int .i64 0] 26)) (w.heap.size + 1) #[.int .i64 0] 26 from cells_at _ _ (by simp) _ _)
  have HS1 := Lib.hid (show ((w.alloc (.cells #[.pointer none] 29)).alloc (.cells #[.int .i64 0] 26)).heap.size = w.heap.size + 2 from by simp)
  gi_wp2_with (first
    | (refine ⟨trivial, ?_⟩; gi_at_call 21; go_loud (refine (callsIn_wide.2 (HRD.out _ HB1.out)).mono ?_; rintro e w2 ⟨v, rfl, h1, h2, h3⟩; obtain ⟨A2, c2, rfl, _⟩ := names_own h1; rw [HS1.out] at h2 h3; have HC24 := Lib.hid (h3.cells (Nat.le_refl _) (by omega) HC14.out); have HC25 := Lib.hid (h3.cells (Nat.le_succ _) (by omega) HC15.out); have HR2 := Lib.hid h2; have HT2 := Lib.hid (show Turn Q B w w2 from (Turn.of HB1.out hBw).trans h3.kept); clear h1 h2 h3))
    | (refine ⟨trivial, ?_⟩; gi_at_call 23; have HSEC := HB6; go_loud (refine (callsIn_wide.2 (numbers_any A2 0 c2 _ w6)).mono ?_; rintro e w7 ⟨rfl, hw7⟩; have HW7 := Lib.hid hw7; clear hw7))
    | (refine ⟨trivial, ?_⟩; gi_at_call 23; go_loud (refine (callsIn_wide.2 (numbers_any A2 0 c2 _ w2)).mono ?_; rintro e w3 ⟨rfl, hw3⟩; have HB3 := Lib.hid (show Below w2.heap.size w2 w3 from by rw [hw3]; exact nuW_below _ _ w2); have HN3 := Lib.hid (show Cells w3 w2.heap.size #[.slice A2 0 c2] 54 from by rw [hw3]; exact (nuW_cells _ _ w2).1); clear hw3))
    | (refine ⟨trivial, ?_⟩; gi_at_call 22; go_loud (refine (callsIn_wide.2 (collect0_any _ _ c2 A2 w3 HN3.out)).mono ?_; rintro e w4 ⟨rfl, hb4⟩; have HB4 := Lib.hid (HB3.out.trans (hb4.mono HB3.out.size)); clear hb4))
    | (refine ⟨trivial, ?_⟩; gi_at_call 24; go_loud (refine (callsIn_wide.2 (readFold0_any (P := (· = w4.heap.size)) (log_fresh.below ((Below.refl _ _).alloc (Nat.le_refl _) _)))).mono ?_; rintro e w6 ⟨rfl, hb6⟩; have HB6 := Lib.hid hb6; clear hb6)))
  have hz4 := HB4.out.size
  obtain ⟨X, hX⟩ : ∃ X, (w4.alloc (.cells #[adr f, .string (txt dir), .slice none 0 0, .slice none 0 0] 66)).alloc (.cells #[adr w4.heap.size] 29) = X := ⟨_, rfl⟩
  have hbX : Below w4.heap.size w4 X := by rw [← hX]; exact ((Below.refl _ w4).alloc (Nat.le_refl _) _).alloc (by simp) _
  have hX8 : Cells X (w4.heap.size + 1) #[adr w4.heap.size] 29 := by rw [← hX]; exact cells_at _ _ (by simp) _ _
  have hXl : LogAt (· = w4.heap.size) w4.heap.size f dir [] [] X := by rw [← hX]; exact log_fresh.below ((Below.refl _ _).alloc (Nat.le_refl _) _)
  have hB6 : Below X.heap.size X w6 := by rw [← hX]; exact HB6.out
  have hb67 : Below w6.heap.size w6 w7 := by rw [HW7.out]; exact nuW_below _ _ w6
  have hbX7 : Below X.heap.size X w7 := hB6.trans (hb67.mono hB6.size)
  have hb27 : Below w2.heap.size w2 w7 := (HB4.out.trans (hbX.mono HB4.out.size)).trans (hbX7.mono (Nat.le_trans HB4.out.size hbX.size))
  have HLOG7 := Lib.hid (hXl.below hbX7)
  have HC78 := Lib.hid (hX8.ch (chb hbX7) (fun h => h))
  have HC74 := Lib.hid (HC24.out.ch (chb hb27) (fun h => h))
  have HC75 := Lib.hid (HC25.out.ch (chb hb27) (fun h => h))
  have HN7 := Lib.hid (show Cells w7 w6.heap.size #[.slice A2 0 c2] 54 from by rw [HW7.out]; exact (nuW_cells _ _ w6).1)
  have HB27 := Lib.hid hb27
  have hl47 : w4.heap.size < w7.heap.size := Nat.lt_of_lt_of_le (by have := HC78.out.lt; omega) (Nat.le_refl _)
  have hlw2 : w.heap.size + 2 ≤ w2.heap.size := by have := HC25.out.lt; omega
  clear hX hbX hX8 hXl hB6 hb67 hbX7 hb27
  refine range_nest rfl (by omega) (gf := 59) (lb := #[.pointer (some ⟨w6.heap.size, 0, none⟩), .pointer (some ⟨w6.heap.size + 1, 0, none⟩)]) rfl trivial (enters_of Tryz.func59 (by kernel_rfl) rfl)
    (fun W1 hg hs1 => numbers0_seq _ (by omega) w6.heap.size (w6.heap.size + 1) c2 A2 W1 (HN7.out.ch (ch_grown hg) (fun h => h))) (fun _ => rfl)
    (fun _ _ => trivial) (fun hg => trivial) (fun U o => trivial)
    (fun pre U => pre = [] ∧ Kept (fun _ => True) w7 U) (fun c pre U => False)
    ((LoopOwn.pure_ _).and (LoopOwn.kept (Nat.le_refl _))) (fun c _ U V row h1 hg hr => h1.elim)
    (fun pre => LoopOwn.pure_ (fun _ => _)) ?start (fun _ U => U) (fun x U => grown_of_below (Below.refl _ U)) (fun _ _ _ => True) (fun _ _ _ _ _ => trivial) ?a1 ?assign ?body ?done ?stop
  case start =>
    intro W1 hg hs1
    exact ⟨rfl, Kept.grown hg⟩
  case assign =>
    intro l0 x U K hK
    gi_wp2
    exact hK
  case body =>
    rintro l0 pre x U V _ hY _
    exact hY.elim
  case done =>
    rintro xs V rfl ⟨hp, hk⟩ hK
    have r8 : V.cell? ⟨w4.heap.size + 1, 0, none⟩ = some (.pointer (some ⟨w4.heap.size, 0, none⟩)) := (hk.cells trivial HC78.out).cell 0
    have k4 := hk.cells trivial HC74.out
    have k5 := hk.cells trivial HC75.out
    have r4 : V.cell? ⟨w.heap.size, 0, none⟩ = some (.pointer none) := k4.cell 0
    have r5 : V.cell? ⟨w.heap.size + 1, 0, none⟩ = some (.int .i64 0) := k5.cell 0
    have f4 := k4.frozen 0
    have f5 := k5.frozen 0
    have g4 := k4.lt
    have g5 := k5.lt
    have g6 : w4.heap.size < V.heap.size := Nat.lt_of_lt_of_le hl47 (Ch.size hk)
    have HK := Lib.hid hK
    have HKP := Lib.hid hk
    have HC4 := Lib.hid k4
    have HC5 := Lib.hid k5
    clear hp hk hK k4 k5
    gi_wp2
    have hz27 : w2.heap.size ≤ w7.heap.size := HB27.out.size
    obtain ⟨V2, hV2⟩ : ∃ V2, (V.setCell ⟨w.heap.size, 0, none⟩ (.pointer (some ⟨w4.heap.size, 0, none⟩))).setCell ⟨w.heap.size + 1, 0, none⟩ (.int .i64 0) = V2 := ⟨_, rfl⟩
    have hT2 : Ch (fun k => k = w.heap.size ∨ k = w.heap.size + 1) w7 V2 := by
      rw [← hV2]
      exact (((HKP.out.mono fun k _ h => absurd trivial h).set (S := fun k => k = w.heap.size ∨ k = w.heap.size + 1) (p := ⟨w.heap.size, 0, none⟩) (.inl (.inl rfl)) _).set (p := ⟨w.heap.size + 1, 0, none⟩) (.inl (.inr rfl)) _)
    have hD : V2.heap[w7.heap.size]? = some (.deferred (some [])) := by
      rw [← hV2]
      exact (Below.heap_setCell _ ⟨w.heap.size + 1, 0, none⟩ _ _ (by show w7.heap.size ≠ w.heap.size + 1; omega)).trans ((Below.heap_setCell V ⟨w.heap.size, 0, none⟩ _ _ (by show w7.heap.size ≠ w.heap.size; omega)).trans HK.out)
    have c4 : V2.cell? ⟨w.heap.size, 0, none⟩ = some (.pointer (some ⟨w4.heap.size, 0, none⟩)) := by
      rw [← hV2]
      exact (World.cell?_of_block (a := ⟨w.heap.size, 0, none⟩) (Below.heap_setCell _ ⟨w.heap.size + 1, 0, none⟩ _ _ (by show w.heap.size ≠ w.heap.size + 1; omega))).trans ((HC4.out.set 0 _).cell 0)
    have c5 : V2.cell? ⟨w.heap.size + 1, 0, none⟩ = some (.int .i64 0) := by
      rw [← hV2]
      have h5 : Cells (V.setCell ⟨w.heap.size, 0, none⟩ (.pointer (some ⟨w4.heap.size, 0, none⟩))) (w.heap.size + 1) #[.int .i64 0] 26 := (Below.heap_setCell V ⟨w.heap.size, 0, none⟩ _ _ (by show w.heap.size + 1 ≠ w.heap.size; omega)).trans HC5.out
      exact (h5.set 0 _).cell 0
    rw [hV2]
    clear hV2 r8 r4 r5 f4 f5
    refine ⟨by simp, .inl ⟨_, _, rfl, run_takeDeferred hD, ?_⟩⟩
    have hT3 : Ch (fun k => k = w.heap.size ∨ k = w.heap.size + 1) w7 (V2.putObj w7.heap.size (.deferred none)) := hT2.grown (grown_put _ _ _) (fun k e => by cases e; exact .inr (Nat.le_refl _))
    have e4 := (World.cell?_of_block (a := ⟨w.heap.size, 0, none⟩) (World.putObj_heap_other (w := V2) (o := .deferred none) (by show w.heap.size ≠ w7.heap.size; omega))).trans c4
    have e5 := (World.cell?_of_block (a := ⟨w.heap.size + 1, 0, none⟩) (World.putObj_heap_other (w := V2) (o := .deferred none) (by show w.heap.size + 1 ≠ w7.heap.size; omega))).trans c5
    obtain ⟨V3, hV3⟩ : ∃ V3, V2.putObj w7.heap.size (.deferred none) = V3 := ⟨_, rfl⟩
    rw [hV3] at hT3 e4 e5 ⊢
    have hz47 : w2.heap.size ≤ w4.heap.size := hz4
    have hlog := HLOG7.out.kept hT3 (fun i e h => by rcases h with h | h <;> omega)
    have hch2 : Ch (fun k => k = w.heap.size ∨ k = w.heap.size + 1) w2 V3 := ((chb HB27.out).mono (fun k _ h => h.elim)).then_ hT3 (fun i _ h => h)
    have hrep := HR2.out.kept_more (Kq := fun i => With Q w.heap.size (w.heap.size + 2) i ∨ i = w4.heap.size) hch2 (fun i h => .inl (.inr (by rcases h with h | h <;> omega))) (fun i h => by
      rcases h with h | h
      · exact .inl h
      · exact .inr ⟨by omega, by have := hT3.size; omega⟩)
    have hfin : OpenPost Q B f dir [] [] s' w (.returned (.tuple #[adr w4.heap.size, .int .i64 0])) V3 :=
      ⟨_, rfl, ⟨(· = w4.heap.size), hlog, hrep.fewer (fun i h => h.elim (fun h => .inl (.inl h)) .inr), fun i e => ⟨fun hq => by have := HQ.out i hq; omega, by omega⟩⟩,
        HT2.out.trans (hch2.toTurn (fun k _ h => ⟨by rcases h with h | h <;> omega, fun hq => by have := HQ.out k hq; rcases h with h | h <;> omega⟩) (by omega))⟩
    exact ⟨.tuple #[adr w4.heap.size, .int .i64 0], by simp [results, Tryz.results9, go_sem, e4, e5, adr], hfin⟩
  case stop =>
    rintro c pre V h hK
    exact h.elim
end
end Go.Proofs.YtnkhgajghfonhaaGreatDoor
