/- Several texts in one: MlO, MlP, MlQ, MlR, MlS. -/
import Derived.Test.YtnkhgajghfonhaaGreatDoorMlLN
import Derived.Maps.OwnIn
import Derived.OwnWalkIn
import Derived.BigQuiet
/- metalog: a table's values are turned by a fold. -/
namespace Go.Proofs.YtnkhgajghfonhaaGreatDoor
attribute [local go_sem] Oper.semAt_some
open Go Go.ChangeShapes Go.WideShapes Go.ChangeAt Go.RowKit Go.ChangeMaps Go.MapKept
set_option linter.unusedVariables false
set_option linter.unusedSimpArgs false

def trM (N : Int) (r : Mr) : Mr := if r.id ≤ N then { r with fo := true, si := false } else r
theorem trM_id (N : Int) (r : Mr) : (trM N r).id = r.id := by unfold trM; split <;> rfl
def trF (N : Int) (r : Mr) : Bool := (trM N r).fo
def trS (N : Int) (r : Mr) : Bool := (trM N r).si
theorem trM_eq (N : Int) (r : Mr) : mrCells (trM N r) = [.int .i64 r.id, .slice r.A r.b.length r.c, .bool (trF N r), .bool (trS N r)] := by unfold trF trS mrCells trM; split <;> rfl
theorem heap_second (w : World) (o p : Obj) : ((w.alloc o).alloc p).heap[w.heap.size + 1]? = some p := by
  have := heap_alloc_new (w.alloc o) p
  rwa [show (w.alloc o).heap.size = w.heap.size + 1 by simp] at this
theorem box2 (w : World) (X : Obj) (x y z : Value) : Cells ((w.alloc X).alloc (.cells #[x, y, z] 71)) (w.heap.size + 1) #[x, y, z] 71 := cells_at _ _ (by simp) _ _
theorem fold3_any (r : Mr) (N : Int) (q : Nat) (w : World) (h : w.cell? ⟨q, 0, none⟩ = some (.int .i64 N)) : Calls Tryz.prog 37 #[.int .i64 r.id, .agg #[.slice r.A r.b.length r.c, .bool r.fo, .bool r.si], .pointer (some ⟨q, 0, none⟩)] w fun e w' =>
    e = .returned (.tuple #[.agg #[.slice r.A r.b.length r.c, .bool (trF N r), .bool (trS N r)], .bool true]) ∧ Below w.heap.size w w' := by
  have hq := World.block_lt_of_cell? _ _ h
  by_cases hle : r.id ≤ N
  · have e2 : trF N r = true ∧ trS N r = false := by unfold trF trS trM; rw [if_pos hle]; exact ⟨rfl, rfl⟩
    rw [e2.1, e2.2]
    clear e2
    go_enter Tryz.func37, Tryz.ntmps37
    go_wp2
    obtain ⟨⟨g1, g2, g3⟩, _⟩ := three (box2 w (.cells #[.slice r.A r.b.length r.c, .bool true, .bool false] 71) (.slice r.A r.b.length r.c) (.bool true) (.bool false))
    refine bodyPost_ret (v := .tuple #[.agg #[.slice r.A r.b.length r.c, .bool true, .bool false], .bool true]) (by simp [results, Tryz.results37, go_sem, g1, g2, g3]) rfl ⟨rfl, ((Below.refl _ w).alloc (Nat.le_refl _) _).alloc (by simp) _⟩
  · have e2 : trF N r = r.fo ∧ trS N r = r.si := by unfold trF trS trM; rw [if_neg hle]; exact ⟨rfl, rfl⟩
    rw [e2.1, e2.2]
    clear e2
    go_enter Tryz.func37, Tryz.ntmps37
    go_wp2
    obtain ⟨⟨g1, g2, g3⟩, _⟩ := three (box2 w (.cells #[.slice r.A r.b.length r.c, .bool r.fo, .bool r.si] 71) (.slice r.A r.b.length r.c) (.bool r.fo) (.bool r.si))
    refine bodyPost_ret (v := .tuple #[.agg #[.slice r.A r.b.length r.c, .bool r.fo, .bool r.si], .bool true]) (by simp [results, Tryz.results37, go_sem, g1, g2, g3]) rfl ⟨rfl, ((Below.refl _ w).alloc (Nat.le_refl _) _).alloc (by simp) _⟩
/-- While rows come: the rows made of them. -/
structure TrI (a q : Nat) (N : Int) (w : World) (pre : List Mr) (U : World) : Prop where
  fn : Cells U a #[.func (.func 37) #[] #[.pointer (some ⟨q, 0, none⟩)]] 81
  row : ∃ A c, Cells U (a + 1) #[.slice A pre.length c] 62 ∧ U.ownsRow (a + 5) 123 4 (.slice A pre.length c) pre.length ((pre.map (trM N)).flatMap mrCells)
  below : Below w.heap.size w U
  size : a + 5 ≤ U.heap.size
theorem below_books {a D : Nat} {w U V : World} {row : Option Nat} (h : Below a w U) (haw : a ≤ w.heap.size) (hD : a ≤ D) (hg : U.grownBy V row) (hr : ∀ r, row = some r → D ≤ r ∧ ∃ o, U.heap[r]? = some o ∧ bookish o) : Below a w V :=
  ⟨hg.os.trans h.os, hg.tape.trans h.tape, hg.output.trans h.output, Nat.le_trans h.size hg.size, fun k hk => (hg.block k (Nat.lt_of_lt_of_le hk (Nat.le_trans haw h.size)) (fun e => by have := (hr k e.symm).1; omega)).trans (h.block k hk)⟩
theorem TrI.books {a q D : Nat} {N : Int} {w : World} (hD : w.heap.size ≤ D) : LoopOwn D (TrI a q N w) := fun pre U V row h hg hr => by
  obtain ⟨A, c, h1, h2⟩ := h.row
  exact ⟨cells_books h.fn hg hr, ⟨A, c, cells_books h1 hg hr, own_books h2 hg hr⟩, below_books h.below (Nat.le_refl _) hD hg hr, Nat.le_trans h.size hg.size⟩
theorem tr_al (w : World) (o p : Obj) : Below w.heap.size w ((w.alloc o).alloc p) := ((Below.refl _ w).alloc (Nat.le_refl _) _).alloc (by simp) _
/-- A round's end. -/
theorem TrI.next {w V w3 w4 : World} {pre : List Mr} {x : Mr} {A2 : Option Addr} {c2 D q : Nat} {N : Int} {v4 : Value} (hI : TrI w.heap.size q N w pre V) (hb3 : Below V.heap.size V w3) (ho3 : w3.ownsRow (w.heap.size + 5) 123 4 (.slice A2 pre.length c2) pre.length ((pre.map (trM N)).flatMap mrCells))
    (hg4 : w3.grownBy w4 (Value.ownBlock (.slice A2 pre.length c2))) (hown4 : w4.ownsRow (w.heap.size + 5) 123 4 v4 (pre.length + 1) ((pre.map (trM N)).flatMap mrCells ++ mrCells (trM N x)))
    (hc4 : Cells w4 (w.heap.size + 1) #[.slice A2 pre.length c2] 62) (hf4 : Cells w4 w.heap.size #[.func (.func 37) #[] #[.pointer (some ⟨q, 0, none⟩)]] 81) (hD : D = w.heap.size + 3) :
    BookKept D V (w4.setCell ⟨w.heap.size + 1, 0, none⟩ v4) ∧ Kept (fun k => k < w.heap.size) V (w4.setCell ⟨w.heap.size + 1, 0, none⟩ v4) ∧ TrI w.heap.size q N w (pre ++ [x]) (w4.setCell ⟨w.heap.size + 1, 0, none⟩ v4) := by
  subst hD
  obtain ⟨A4, c4, rfl⟩ := own_slice hown4
  have hs := hI.size
  have hbw3 : Below w.heap.size w w3 := hI.below.trans (hb3.mono hI.below.size)
  have hbw4 := ml_below ho3 hg4 (Nat.le_add_right _ _) hbw3.size hbw3
  have hbw5 : Below w.heap.size w (w4.setCell ⟨w.heap.size + 1, 0, none⟩ (.slice A4 (pre.length + 1) c4)) := hbw4.setCell (p := ⟨w.heap.size + 1, 0, none⟩) (Nat.le_succ _) _
  have hz : (w4.setCell ⟨w.heap.size + 1, 0, none⟩ (.slice A4 (pre.length + 1) c4)).heap.size = w4.heap.size := by simp
  have hsz : V.heap.size ≤ w4.heap.size := Nat.le_trans hb3.size hg4.size
  have hbk : ∀ k, w.heap.size + 1 < k → k < w.heap.size + 5 → (w4.setCell ⟨w.heap.size + 1, 0, none⟩ (.slice A4 (pre.length + 1) c4)).heap[k]? = V.heap[k]? := fun k h1 h2 =>
    (Below.heap_setCell w4 ⟨w.heap.size + 1, 0, none⟩ _ k (by show k ≠ w.heap.size + 1; omega)).trans ((hg4.block k (by have := hb3.size; omega) (fun e => by obtain ⟨d, hd, hB⟩ := own_cells ho3 e.symm; omega)).trans (hb3.block k (by omega)))
  have hch : Ch (· = w.heap.size + 1) w4 (w4.setCell ⟨w.heap.size + 1, 0, none⟩ (.slice A4 (pre.length + 1) c4)) := (Ch.refl (· = w.heap.size + 1) w4).set (p := ⟨w.heap.size + 1, 0, none⟩) (.inl rfl) _
  refine ⟨⟨hbk _ (by omega) (by omega), hbk _ (by omega) (by omega)⟩, kept_of_belows hI.below hbw5 (by rw [hz]; exact hsz), hf4.ch hch (fun e => by omega), ⟨A4, c4, ?_, ?_⟩, hbw5, by rw [hz]; omega⟩
  · rw [List.length_append, List.length_singleton]
    simpa using hc4.set 0 (.slice A4 (pre.length + 1) c4)
  · rw [List.length_append, List.length_singleton, List.map_append, List.map_cons, List.map_nil, List.flatMap_append, List.flatMap_cons, List.flatMap_nil, List.append_nil]
    exact own_ch hown4 hch (fun r hr e => by obtain ⟨d, hd, hB⟩ := own_cells hown4 hr; omega)
def TurnPost (l : Nat) (cs : Array Value) (tL : TypeId) (rs' : List Mr) (w : World) (e : Ending) (w' : World) : Prop :=
  ∃ A' c', e = .returned (.tuple #[]) ∧ Cells w' l (cs.setIfInBounds 2 (.slice A' rs'.length c')) tL ∧ w'.ownsRow w.heap.size 123 4 (.slice A' rs'.length c') rs'.length (rs'.flatMap mrCells) ∧ Ch (fun k => k = l) w w'
set_option maxRecDepth 100000 in
set_option maxHeartbeats 4000000 in
theorem turn_any {w : World} {l q c : Nat} {N : Int} {cs : Array Value} {tL : TypeId} {A : Option Addr} {rs : List Mr} (hc : Cells w l cs tL) (hpo : cs[2]? = some (.slice A rs.length c)) (ht : Tb w l 2 A c rs) (hne : rs ≠ []) (hq : w.cell? ⟨q, 0, none⟩ = some (.int .i64 N)) :
    Calls Tryz.prog 36 #[.pointer (some ⟨l, 2, none⟩), .func (.func 37) #[] #[.pointer (some ⟨q, 0, none⟩)]] w (TurnPost l cs tL (rs.map (trM N)) w) := by
  have HC := Lib.hid hc
  have HPO := Lib.hid hpo
  have HTB := Lib.hid ht
  have HQ := Lib.hid hq
  clear hc hpo ht hq
  refine (callsIn_wide (n := 8)).1 ?_
  refine callsIn_of_wp_marks Tryz.func36 rfl trivial ?_ rfl
  simp only [Tryz.ntmps36, List.size_toArray, List.length_cons, List.length_nil, Nat.reduceAdd, Nat.reduceSub, Array.replicate_succ, Array.replicate_zero, List.push_toArray, List.append_toArray, List.nil_append, List.cons_append]
  gi_wp2_with (first
    | (refine ⟨trivial, ?_⟩; gi_at_call 51; refine (callsIn_wide.2 (all_any _ _ _)).mono ?_; rintro e w1 ⟨rfl, rfl⟩))
  obtain ⟨W0, hW0⟩ : ∃ W0, ((w.alloc (.cells #[.func (.func 37) #[] #[.pointer (some ⟨q, 0, none⟩)]] 81)).alloc (.cells #[.slice none 0 0] 62)).alloc (.cells #[.pointer (some ⟨l, 2, none⟩)] 68) = W0 := ⟨_, rfl⟩
  have hsz : W0.heap.size = w.heap.size + 3 := by rw [← hW0]; simp
  have hb0 : Below w.heap.size w W0 := by rw [← hW0]; exact (((Below.refl _ w).alloc (Nat.le_refl _) _).alloc (by simp) _).alloc (by simp; omega) _
  have hfx : Cells W0 w.heap.size #[.func (.func 37) #[] #[.pointer (some ⟨q, 0, none⟩)]] 81 := by rw [← hW0]; exact ((Cells.new w _ _).alloc _).alloc _
  have hpx : Cells W0 (w.heap.size + 1) #[.slice none 0 0] 62 := by rw [← hW0]; exact (cells_at _ _ (by simp) _ _).alloc _
  have hbx : Cells W0 (w.heap.size + 2) #[.pointer (some ⟨l, 2, none⟩)] 68 := by rw [← hW0]; exact cells_at _ _ (by simp) _ _
  rw [hW0]
  have HB0 := Lib.hid hb0
  have HSZ := Lib.hid hsz
  have HPX := Lib.hid hpx
  have HFX := Lib.hid hfx
  clear hW0 hb0 hpx hfx
  refine range_nest rfl (by omega) (gf := 79) (lb := #[.pointer (some ⟨w.heap.size + 2, 0, none⟩)]) rfl trivial (enters_of Tryz.func79 (by kernel_rfl) rfl)
    (fun W1 hg hs1 => all_seq _ (by omega) rs HTB.out.len l 2 c (w.heap.size + 2) A (fun k => k < w.heap.size) W1 (hbx.ch (ch_grown hg) (fun h => h)) ((HTB.out.below (HB0.out.trans (below_of_grown hg (by rw [hsz]; omega)))).cell) ((HTB.out.below (HB0.out.trans (below_of_grown hg (by rw [hsz]; omega)))).row) (fun a ha => row_blk HTB.out.row hne ha)) (fun _ => rfl)
    Kept.trans (fun hg => Kept.grown hg) (fun U o => (ch_put U _ o).mono fun k _ e hk => by have h7 : k = W0.heap.size + 1 := e; omega)
    (TrI w.heap.size q N w) (fun c pre U => False)
    (TrI.books (by omega)) (fun c _ _ _ row h1 hg hr => h1.elim)
    (fun pre => LoopOwn.pure_ (fun _ => _)) ?start boxE (fun x U => World.grownBy_alloc U _ none) (fun x U W => Cells W U.heap.size #[.slice x.A x.b.length x.c, .bool x.fo, .bool x.si] 71) (fun x U r r' hb => boxE_cells hb.lt _) ?a1 ?assign ?body ?done ?stop
  case start =>
    intro W1 hg hs1
    have hb := below_of_grown (a := w.heap.size) hg (by rw [hsz]; omega)
    exact ⟨HFX.out.ch (ch_grown hg) (fun h => h), ⟨none, 0, HPX.out.ch (ch_grown hg) (fun h => h), World.ownsRow_nil W1 _ _ 4⟩, HB0.out.trans hb, by rw [hs1, hsz]; omega⟩
  case assign =>
    intro l0 x U K' hK
    unfold mrEnc
    gi_wp2
    exact hK
  case body =>
    rintro l0 pre x U V hI ⟨post, hpre⟩ hat
    obtain ⟨A2, c2, hp1, hp2⟩ := hI.row
    have hpl : pre.length < rs.length := by rw [hpre]; simp
    obtain ⟨⟨b1, b2, b3⟩, f1, f2, f3⟩ := three hat
    have y3 : V.cell? ⟨w.heap.size, 0, none⟩ = some (.func (.func 37) #[] #[.pointer (some ⟨q, 0, none⟩)]) := hI.fn.cell 0
    have HF3 := Lib.hid (fold3_any x N q V (cell_later hI.below HQ.out))
    have HI := Lib.hid hI
    have HP1 := Lib.hid hp1
    have HP2 := Lib.hid hp2
    have HPL := Lib.hid hpl
    have HX := Lib.hid (trM_eq N x)
    obtain ⟨i0, hi, hz0, hz1, hz2⟩ := info_parts infoMr
    have HII := Lib.hid hi
    have HZ0 := Lib.hid hz0
    have HZ1 := Lib.hid hz1
    have HZ2 := Lib.hid hz2
    have HAT := Lib.hid hat
    clear hp1 hp2 hI hpre hpl hat hi hz0 hz1 hz2
    gi_wp2_with (first
      | (refine ⟨trivial, ?_⟩; gi_at_call 37; refine (CallsIn.inRound l0 (callsIn_wide.2 HF3.out)).mono ?_; rintro e w2 ⟨rfl, hb2⟩; have HB2 := Lib.hid hb2; have k1 : w2.cell? ⟨w.heap.size + 1, 0, none⟩ = some (.slice A2 pre.length c2) := (HP1.out.ch (chb hb2) (fun h => h)).cell 0; have k2 := (HP1.out.ch (chb hb2) (fun h => h)).lt; clear hb2)
      | (gi_at_builtin; go_loud (refine wpListIn_append_own_at _ rfl _ _ 62 rfl (w.heap.size + 5) 123 i0 _ 4 40 Tryz.underlying62 HII.out HZ0.out HZ1.out HZ2.out rfl (by decide) (.slice A2 pre.length c2) pre.length ((pre.map (trM N)).flatMap mrCells) rfl ((own_below (own_below HP2.out HB2.out) ((Below.refl _ w2).alloc (Nat.le_refl _) _)).alloc _) ⟨w2.heap.size + 1, 0, none⟩ 1 1 (mrCells (trM N x)) rfl rfl (by rw [HX.out]; exact cells_of_block (heap_second w2 _ _)) (mrCells_one _) (by have := HPL.out; have := HTB.out.len; unfold maxLen; omega) (by have := HPL.out; have := HTB.out.len; omega) (by have := HI.out.size; have := HB2.out.size; simp; omega) ?_); intro v1 w3 hown hg _ _; obtain ⟨A4, c4, rfl⟩ := own_slice hown; have HO3 := Lib.hid hown; have HG3 := Lib.hid hg; have HB3 := Lib.hid (HB2.out.trans ((tr_al w2 (.cells #[.slice x.A x.b.length x.c, .bool (trF N x), .bool (trS N x)] 71) (.cells #[.int .i64 x.id, .slice x.A x.b.length x.c, .bool (trF N x), .bool (trS N x)] 123)).mono HB2.out.size)); have hc3 := ml_away (own_below HP2.out HB3.out) hg (HP1.out.ch (chb HB3.out) (fun h => h)) (by decide); have HC3 := Lib.hid hc3; have HF3b := Lib.hid (ml_away (own_below HP2.out HB3.out) hg (HI.out.fn.ch (chb HB3.out) (fun h => h)) (by decide)); have m0 : w3.cell? ⟨w.heap.size + 1, 0, none⟩ = some (.slice A2 pre.length c2) := hc3.cell 0; have m1 := hc3.frozen 0; clear hown hg hc3))
    exact HI.out.next HB3.out (own_below HP2.out HB3.out) HG3.out HO3.out HC3.out HF3b.out HSZ.out
  case done =>
    rintro xs V hxs hI hK
    rw [hxs] at hI
    rw [hsz] at hK ⊢
    obtain ⟨A2, c2, hp1, hp2⟩ := hI.row
    have y7 : V.cell? ⟨w.heap.size + 1, 0, none⟩ = some (.slice A2 rs.length c2) := hp1.cell 0
    have hcV := HC.out.ch (chb hI.below) (fun h => h)
    have y8 : V.cell? ⟨l, 2, none⟩ = some (.slice A rs.length c) := (hcV.cell 2).trans HPO.out
    have y9 := hcV.frozen 2
    have HI := Lib.hid hI
    have HK := Lib.hid hK
    have HP2 := Lib.hid hp2
    have HCV := Lib.hid hcV
    clear hI hp1 hp2 hK hxs hsz hcV
    gi_wp2
    have hlw := HC.out.lt
    have hch : Ch (· = l) V (V.setCell ⟨l, 2, none⟩ (.slice A2 rs.length c2)) := (Ch.refl (· = l) V).set (p := ⟨l, 2, none⟩) (.inl rfl) _
    have hD : (V.setCell ⟨l, 2, none⟩ (.slice A2 rs.length c2)).heap[w.heap.size + 3]? = some (.deferred (some [])) := (Below.heap_setCell V ⟨l, 2, none⟩ _ _ (by show w.heap.size + 3 ≠ l; omega)).trans HK.out
    refine ⟨by simp, .inl ⟨_, _, rfl, run_takeDeferred hD, ?_⟩⟩
    have hput : Ch (· = w.heap.size + 3) (V.setCell ⟨l, 2, none⟩ (.slice A2 rs.length c2)) ((V.setCell ⟨l, 2, none⟩ (.slice A2 rs.length c2)).putObj (w.heap.size + 3) (.deferred none)) := ch_put _ _ _
    have hrl : (rs.map (trM N)).length = rs.length := List.length_map _
    have h1 : Cells ((V.setCell ⟨l, 2, none⟩ (.slice A2 rs.length c2)).putObj (w.heap.size + 3) (.deferred none)) l (cs.setIfInBounds 2 (.slice A2 rs.length c2)) tL := (HCV.out.set 2 _).ch hput (fun e => by omega)
    have h2 : ((V.setCell ⟨l, 2, none⟩ (.slice A2 rs.length c2)).putObj (w.heap.size + 3) (.deferred none)).ownsRow (w.heap.size + 5) 123 4 (.slice A2 rs.length c2) rs.length ((rs.map (trM N)).flatMap mrCells) :=
      own_ch (own_ch HP2.out hch (fun k hk e => by obtain ⟨d, hd, hB⟩ := own_cells HP2.out hk; omega)) hput (fun k hk e => by obtain ⟨d, hd, hB⟩ := own_cells HP2.out hk; omega)
    have h3 : Ch (fun k => k = l) w ((V.setCell ⟨l, 2, none⟩ (.slice A2 rs.length c2)).putObj (w.heap.size + 3) (.deferred none)) := by
      have e1 : Ch (fun k => k = l) w V := ⟨HI.out.below.os, HI.out.below.tape, HI.out.below.output, HI.out.below.size, fun k hk _ => HI.out.below.block k hk⟩
      have e2 : Ch (fun k => k = l) w (V.setCell ⟨l, 2, none⟩ (.slice A2 rs.length c2)) := e1.set (p := ⟨l, 2, none⟩) (.inl rfl) _
      exact e2.grown (grown_put _ _ _) (fun k e => by cases e; exact .inr (by omega))
    have hfin : TurnPost l cs tL (rs.map (trM N)) w (.returned (.tuple #[])) ((V.setCell ⟨l, 2, none⟩ (.slice A2 rs.length c2)).putObj (w.heap.size + 3) (.deferred none)) := by
      refine ⟨A2, c2, rfl, ?_, ?_, h3⟩
      · rw [hrl]; exact h1
      · rw [hrl]; exact h2.mono (by omega)
    exact ⟨.tuple #[], by simp [results, Tryz.results36, go_sem], hfin⟩
  case stop =>
    rintro c pre V hX hK
    exact hX.elim
end Go.Proofs.YtnkhgajghfonhaaGreatDoor

/- metalog: a table's first rows as a table; the greatest fold. -/
namespace Go.Proofs.YtnkhgajghfonhaaGreatDoor
open Go Go.ChangeShapes Go.WideShapes Go.ChangeAt Go.RowKit Go.ChangeMaps Go.MapKept
set_option linter.unusedVariables false
set_option linter.unusedSimpArgs false

section
variable {P S : Nat → Prop} {l f : Nat} {dir : Nm} {rs : List Mr} {fs : List Int} {w w' : World}
theorem firstT_any {pb po c : Nat} {A : Option Addr} (h : Tb w pb po A c rs) (hcap : rs.length ≤ c) (k : Nat) (hk : k ≤ rs.length) :
    Calls Tryz.prog 27 #[.pointer (some ⟨pb, po, none⟩), .int .i64 (k : Int)] w fun e w' => ∃ A' c' T, e = .returned (adr T) ∧ Cells w' T #[.slice A' k c'] 64 ∧
      w'.ownsRow w.heap.size 123 4 (.slice A' k c') k ((rs.take k).flatMap mrCells) ∧ w.heap.size ≤ T ∧ Below w.heap.size w w' := by
  have c0 := h.cell
  have hl := h.len
  have HCL := Lib.hid (clone_ml (rs.take k) k c A w (by rw [List.length_take]; omega) (by omega) (row_take h.row k))
  have i0 : ¬ ((k : Int) < 0) := by omega
  have i1 : (k : Int) ≤ (c : Int) := by omega
  have i2 : k ≤ c := by omega
  clear h hl hcap hk
  go_enter Tryz.func27, Tryz.ntmps27
  go_wp2_with (go_at_call 64; go_loud (refine HCL.out.mono ?_; rintro e w1 ⟨A', c', rfl, hown, hb⟩; have HO := Lib.hid hown; have HB := Lib.hid hb; clear hown hb))
  go_ret
  exact ⟨A', c', w1.heap.size, rfl, Cells.new w1 _ _, own_below HO.out ((Below.refl _ w1).alloc (Nat.le_refl _) _), HB.out.size, HB.out.alloc HB.out.size _⟩
theorem ints_flat (fs : List Int) : ints fs = fs.flatMap fun i => [Value.int .i64 i] := by
  unfold ints
  induction fs with
  | nil => rfl
  | cons a l ih => rw [List.map_cons, List.flatMap_cons, ih]; rfl
theorem ints_c {A : Option Addr} {n c : Nat} (h : w.ownsRow 0 2 1 (.slice A n c) n (ints fs)) : IntsC w w.heap.size A fs := by
  rw [ints_flat] at h
  have h2 := (RowC.own (f := fun i : Int => [Value.int .i64 i]) (fun _ => rfl) (by decide) h).2
  intro j hj
  obtain ⟨b, off, e, hb, hc⟩ := h2 j hj
  refine ⟨b, off, e, hb, ?_⟩
  have h3 := hc 0 _ rfl
  simpa using h3
def grI (fs : List Int) : Int := fs.getLast?.getD 0
theorem grI_eq {fs : List Int} (h : fs ≠ []) : ∃ hk : fs.length - 1 < fs.length, grI fs = fs[fs.length - 1] := by
  have h1 : fs.length ≠ 0 := fun e => h (List.length_eq_zero_iff.1 e)
  refine ⟨by omega, ?_⟩
  unfold grI
  rw [List.getLast?_eq_getElem?, List.getElem?_eq_getElem (by omega)]
  rfl
theorem greatest_any (h : LogAt P l f dir rs fs w) : Calls Tryz.prog 26 #[.pointer (some ⟨l, 0, none⟩)] w fun e w' => e = .returned (.tuple #[.int .i64 (grI fs), .bool (!fs.isEmpty)]) ∧ Below w.heap.size w w' := by
  obtain ⟨A, c, A2, c2, h1, h2, h3, h4, h5⟩ := h.own
  have hfl := h.lens.2
  have c3 : w.cell? ⟨l, 3, none⟩ = some (.slice A2 fs.length c2) := h1.cell 3
  by_cases h0 : fs = []
  · subst h0
    clear h h1 h2 h3 h4 h5 hfl
    go_enter Tryz.func26, Tryz.ntmps26
    go_wp2
    go_ret2
    exact ⟨rfl, Below.refl _ _⟩
  · obtain ⟨hk, hg⟩ := grI_eq h0
    obtain ⟨b, off, rfl, hb, k0⟩ := ints_c h3 _ hk
    have hne : (!fs.isEmpty) = true := by cases fs with | nil => exact absurd rfl h0 | cons a b => rfl
    rw [hne, hg]
    obtain ⟨v, hv⟩ : ∃ v, fs[fs.length - 1] = v := ⟨_, rfl⟩
    rw [hv] at k0 ⊢
    obtain ⟨n, hn⟩ : ∃ n : Nat, fs.length = n + 1 := ⟨fs.length - 1, by omega⟩
    rw [hn] at c3 hfl
    rw [hn, Nat.add_sub_cancel] at k0
    clear h h1 h2 h3 h4 h5 hb hv hg hne hn hk
    have i1 : ¬ ((n : Int) + 1 = 0) := by omega
    have i2 : (0 : Int) ≤ (n : Int) := by omega
    have i3 : (n : Int) < (n : Int) + 1 := by omega
    have i4 : ((n + 1 : Nat) : Int) = (n : Int) + 1 := by omega
    go_enter Tryz.func26, Tryz.ntmps26
    go_wp2
    go_quiet (fail)
    go_wp2
    go_ret2
    exact ⟨rfl, below_drewN _ _⟩
end
end Go.Proofs.YtnkhgajghfonhaaGreatDoor

/- metalog: what a fold does, plainly; what it is made of. -/
namespace Go.Proofs.YtnkhgajghfonhaaGreatDoor
open Go Go.ChangeShapes Go.WideShapes Go.ChangeAt Go.RowKit Go.ChangeMaps Go.MapKept
set_option linter.unusedVariables false
set_option linter.unusedSimpArgs false

def foldN (fs : List Int) (upto : Int) : Int := if fs = [] then upto else max upto (grI fs)
def foldUp (rs : List Mr) (fs : List Int) (upto : Int) : List Mr := rs.take (upI rs (foldN fs upto))
def foldId (rs : List Mr) (fs : List Int) (upto : Int) : Int := lastI (foldUp rs fs upto)
def foldGo (rs : List Mr) (fs : List Int) (n : Int) : List Nm := lvN (leI n) (neI n) rs fs
/-- What a fold of some entries with some leavers answers and leaves. -/
def foldM (s : Fs) (dir : Nm) (rs : List Mr) (fs : List Int) (up : List Mr) (n : Int) (x : Nat) : Int × List Mr × List Int × Fs :=
  let r1 := rawR s dir (fN n) (fr (listL pairL (up.map prOf))) x
  if r1.1 ≠ 0 then (r1.1, rs, fs, r1.2) else
  let r2 := remR dir (foldGo rs fs n) r1.2
  if r2.1 ≠ 0 then (r2.1, rs, fs, r2.2) else (0, rs.map (trM n), [n], r2.2)
def foldR (s : Fs) (dir : Nm) (rs : List Mr) (fs : List Int) (upto : Int) (x : Nat) : Int × List Mr × List Int × Fs :=
  if foldUp rs fs upto = [] then (91, rs, fs, s) else
  if foldGo rs fs (foldId rs fs upto) = [] then (0, rs, fs, s) else
  foldM s dir rs fs (foldUp rs fs upto) (foldId rs fs upto) x
def FoldPost (Q : Nat → Prop) (B l f : Nat) (dir : Nm) (rs : List Mr) (fs : List Int) (s : Fs) (upto : Int) (w : World) (e : Ending) (w' : World) : Prop :=
  ∃ x, s.file x = none ∧ e = .returned (.int .i64 (foldR s dir rs fs upto x).1) ∧ LS Q B l f dir (foldR s dir rs fs upto x).2.1 (foldR s dir rs fs upto x).2.2.1 (foldR s dir rs fs upto x).2.2.2 w' ∧ Turn Q B w w'
theorem upI_le (rs : List Mr) (hr : Rise rs) (t : Int) : upI rs t ≤ rs.length := by
  have h := hr.at_ t
  have h1 := h.le
  unfold upI
  by_cases hh : hasI rs t = true
  · rw [hh]
    have h2 := h.has hr
    rw [hh] at h2
    have h3 : atI rs t < rs.length := by
      by_cases e : atI rs t < rs.length
      · exact e
      · exact absurd h2 (by simp [e])
    simp
    omega
  · have e : hasI rs t = false := by simpa using hh
    rw [e]
    simpa using h1
theorem lv_length (pS pF : Int → Bool) (rs : List Mr) (fs : List Int) : (lvN pS pF rs fs).length ≤ rs.length + fs.length := by
  unfold lvN bNames fNames
  rw [List.length_append, List.length_map, List.length_map]
  have h1 := List.length_filter_le (fun r : Mr => r.si && pS r.id) rs
  have h2 := List.length_filter_le pF fs
  omega
theorem own_int (w : World) (B : Nat) (hB : B ≤ w.heap.size) (n : Int) : (w.alloc (.cells #[.int .i64 n] 2)).ownsRow B 2 1 (.slice (some ⟨w.heap.size, 0, none⟩) 1 1) 1 (ints [n]) := by
  refine ⟨rfl, .inr ⟨w.heap.size, 1, #[.int .i64 n], rfl, hB, ?_, Nat.le_refl _, by decide, rfl, rfl⟩⟩
  exact Cells.new w _ _
def lvW (l q : Nat) (w : World) : World := ((w.alloc (.cells #[.pointer (some ⟨l, 0, none⟩)] 29)).alloc (.cells #[.func (.func 31) #[] #[.pointer (some ⟨q, 0, none⟩)]] 76)).alloc (.cells #[.func (.func 32) #[] #[.pointer (some ⟨q, 0, none⟩)]] 76)
theorem leaving_any (l q : Nat) (w : World) : Calls Tryz.prog 30 #[.pointer (some ⟨l, 0, none⟩), .func (.func 31) #[] #[.pointer (some ⟨q, 0, none⟩)], .func (.func 32) #[] #[.pointer (some ⟨q, 0, none⟩)]] w fun e w' =>
    e = .returned (.func (.func 66) #[] #[.pointer (some ⟨w.heap.size, 0, none⟩), .pointer (some ⟨w.heap.size + 1, 0, none⟩), .pointer (some ⟨w.heap.size + 2, 0, none⟩)]) ∧ w' = lvW l q w := by
  go_enter Tryz.func30, Tryz.ntmps30
  go_wp2
  go_ret
  exact ⟨by simp, rfl⟩
theorem lvW_size (l q : Nat) (w : World) : (lvW l q w).heap.size = w.heap.size + 3 := by unfold lvW; simp
theorem lvW_below (l q : Nat) (w : World) : Below w.heap.size w (lvW l q w) := by
  unfold lvW
  exact (((Below.refl _ w).alloc (Nat.le_refl _) _).alloc (by simp) _).alloc (by simp; omega) _
theorem lvW_cells (l q : Nat) (w : World) : Cells (lvW l q w) w.heap.size #[.pointer (some ⟨l, 0, none⟩)] 29 ∧ Cells (lvW l q w) (w.heap.size + 1) #[.func (.func 31) #[] #[.pointer (some ⟨q, 0, none⟩)]] 76 ∧
    Cells (lvW l q w) (w.heap.size + 2) #[.func (.func 32) #[] #[.pointer (some ⟨q, 0, none⟩)]] 76 := by
  unfold lvW
  exact ⟨((Cells.new w _ _).alloc _).alloc _, (cells_at _ _ (by simp) _ _).alloc _, cells_at _ _ (by simp) _ _⟩
section
variable {P S : Nat → Prop} {B l f : Nat} {dir : Nm} {rs : List Mr} {fs : List Int} {w w' : World}
/-- What the iterator over a fold's leavers finds, just made. -/
theorem LogAt.lv (h : LogAt P l f dir rs fs w) (hT : Tab B w) {q : Nat} {N : Int} (hq : w.cell? ⟨q, 0, none⟩ = some (.int .i64 N)) (hS : ∀ k, P k → S k) (hq2 : S q) (hB : ∀ k, k < B → S k) (hBw : B ≤ w.heap.size) (hn : ∀ k, w.heap.size ≤ k → k < w.heap.size + 3 → S k) (hlt : ∀ k, S k → k < w.heap.size + 3) :
    ∃ rA rc fA fc, LvAt B l w.heap.size (w.heap.size + 1) (w.heap.size + 2) q S rs fs rA rc fA fc N (lvW l q w) := by
  obtain ⟨A, c, A2, c2, h1, h2, h3, h4, h5⟩ := (h.below (lvW_below l q w)).own
  obtain ⟨x1, x2, x3⟩ := lvW_cells l q w
  have hb := lvW_below l q w
  exact ⟨A, c, A2, c2, x1, x2, x3, cell_later hb hq, h1.cell 2, h1.cell 3, (RowC.own mrCells_length (by decide) h2).2, ints_c h3, hT.below (hb.mono hBw),
    ⟨hn _ (Nat.le_refl _) (by omega), hn _ (by omega) (by omega), hn _ (by omega) (by omega), hq2, hS _ h.pl, fun a ha => hS _ (h4 _ (by rw [ha]; rfl)), fun a ha => hS _ (h5 _ (by rw [ha]; rfl)), hB⟩, fun k hk => by rw [lvW_size]; exact hlt k hk⟩
end
end Go.Proofs.YtnkhgajghfonhaaGreatDoor

/- metalog: a fold's answers, and the log that it leaves. -/
namespace Go.Proofs.YtnkhgajghfonhaaGreatDoor
open Go Go.ChangeShapes Go.WideShapes Go.ChangeAt Go.RowKit Go.ChangeMaps Go.MapKept
set_option linter.unusedVariables false
set_option linter.unusedSimpArgs false

theorem last_mem {up : List Mr} (h : up ≠ []) : ∃ r ∈ up, lastI up = r.id := by
  unfold lastI
  rw [List.getLast?_eq_some_getLast h]
  exact ⟨_, List.getLast_mem h, rfl⟩
section
variable {s : Fs} {dir : Nm} {rs up : List Mr} {fs : List Int} {upto n : Int} {x : Nat}
theorem foldR_none (h : foldUp rs fs upto = []) : foldR s dir rs fs upto x = (91, rs, fs, s) := by unfold foldR; rw [if_pos h]
theorem foldR_same (h : foldUp rs fs upto ≠ []) (h2 : foldGo rs fs (foldId rs fs upto) = []) : foldR s dir rs fs upto x = (0, rs, fs, s) := by unfold foldR; rw [if_neg h, if_pos h2]
theorem foldR_m (h : foldUp rs fs upto ≠ []) (h2 : foldGo rs fs (foldId rs fs upto) ≠ []) : foldR s dir rs fs upto x = foldM s dir rs fs (foldUp rs fs upto) (foldId rs fs upto) x := by unfold foldR; rw [if_neg h, if_neg h2]
theorem foldM_bad {r1 : Int × Fs} (h : rawR s dir (fN n) (fr (listL pairL (up.map prOf))) x = r1) (h1 : r1.1 ≠ 0) : foldM s dir rs fs up n x = (r1.1, rs, fs, r1.2) := by unfold foldM; rw [h]; exact if_pos h1
theorem foldM_bad2 {r1 r2 : Int × Fs} (h : rawR s dir (fN n) (fr (listL pairL (up.map prOf))) x = r1) (h1 : r1.1 = 0) (h2 : remR dir (foldGo rs fs n) r1.2 = r2) (h3 : r2.1 ≠ 0) : foldM s dir rs fs up n x = (r2.1, rs, fs, r2.2) := by
  unfold foldM; rw [h]; dsimp only; rw [if_neg (not_not_intro h1), h2]; exact if_pos h3
theorem foldM_ok {r1 r2 : Int × Fs} (h : rawR s dir (fN n) (fr (listL pairL (up.map prOf))) x = r1) (h1 : r1.1 = 0) (h2 : remR dir (foldGo rs fs n) r1.2 = r2) (h3 : r2.1 = 0) : foldM s dir rs fs up n x = (0, rs.map (trM n), [n], r2.2) := by
  unfold foldM; rw [h]; dsimp only; rw [if_neg (not_not_intro h1), h2]; exact if_neg (not_not_intro h3)
end
theorem trM_b (N : Int) (r : Mr) : (trM N r).b = r.b ∧ (trM N r).A = r.A ∧ (trM N r).c = r.c := by unfold trM; split <;> exact ⟨rfl, rfl, rfl⟩
theorem rise_tr {rs : List Mr} (h : Rise rs) (N : Int) : Rise (rs.map (trM N)) := by
  intro i j hi hj hij
  rw [List.getElem_map, List.getElem_map, trM_id, trM_id]
  exact h i j (by simpa using hi) (by simpa using hj) hij
/-- The log that a fold leaves. -/
theorem log_folded {P : Nat → Prop} {l f : Nat} {dir : Nm} {rs : List Mr} {fs : List Int} {w8 w9 w10 : World} {N : Int} {A : Option Addr} {c : Nat} {A2 : Value} {e : Ending}
    (h : LogAt P l f dir rs fs w8) (hc : Cells w8 l #[adr f, .string (txt dir), .slice A rs.length c, A2] 66) (h9 : w9 = (w8.alloc (.cells #[.int .i64 N] 2)).setCell ⟨l, 3, none⟩ (.slice (some ⟨w8.heap.size, 0, none⟩) 1 1))
    (hs : TurnPost l #[adr f, .string (txt dir), .slice A rs.length c, .slice (some ⟨w8.heap.size, 0, none⟩) 1 1] 66 (rs.map (trM N)) w9 e w10) (h0 : 0 ≤ N) (h1 : N ≤ 9223372036854775807) :
    LogAt (fun i => P i ∨ (w8.heap.size ≤ i ∧ i < w10.heap.size)) l f dir (rs.map (trM N)) [N] w10 ∧ Ch (· = l) w8 w10 := by
  obtain ⟨A', c', _, s1, s2, s3⟩ := hs
  have hz : w9.heap.size = w8.heap.size + 1 := by rw [h9]; simp
  have hlw := hc.lt
  have k9 : Ch (· = l) w8 w9 := by rw [h9]; exact ((Ch.refl (· = l) w8).alloc _).set (p := ⟨l, 3, none⟩) (.inl rfl) _
  have k10 : Ch (· = l) w8 w10 := k9.trans s3
  have hi : w9.ownsRow w8.heap.size 2 1 (.slice (some ⟨w8.heap.size, 0, none⟩) 1 1) 1 (ints [N]) := by
    rw [h9]
    refine own_ch (own_int w8 w8.heap.size (Nat.le_refl _) N) ((Ch.refl (· = l) _).set (p := ⟨l, 3, none⟩) (.inl rfl) _) (fun r hr e => ?_)
    obtain ⟨d, hd, hB⟩ := own_cells (own_int w8 w8.heap.size (Nat.le_refl _) N) hr
    omega
  have hi2 : w10.ownsRow 0 2 1 (.slice (some ⟨w8.heap.size, 0, none⟩) 1 1) 1 (ints [N]) := by
    refine (own_ch hi s3 (fun r hr e => ?_)).mono (Nat.zero_le _)
    obtain ⟨d, hd, hB⟩ := own_cells hi hr
    omega
  have hby : ∀ k, (∃ c z, w8.heap[k]? = some (.cells c 5 z)) → ¬ k = l := fun k ⟨c, z, hk⟩ hn => by
    subst hn
    have e := Option.some.inj (hk.symm.trans hc)
    injection e with _ e2
    exact absurd e2 (by decide)
  refine ⟨⟨⟨A', c', some ⟨w8.heap.size, 0, none⟩, 1, ?_, s2.mono (Nat.zero_le _), hi2, fun k hk => ?_, fun k hk => ?_⟩, .inl h.pl, fun r hr => ?_, rise_tr h.rise N, fun r hr => ?_, fun i hi => ?_, fun r hr => ?_, ⟨?_, by rw [List.length_singleton]; decide⟩, fun k hk => ?_⟩, k10⟩
  · simpa using s1
  · obtain ⟨d, hd, hB⟩ := own_cells s2 (b := k) (by cases A' <;> exact hk)
    exact .inr ⟨by omega, hd.lt⟩
  · obtain rfl : w8.heap.size = k := by injection hk
    exact .inr ⟨Nat.le_refl _, Nat.lt_of_lt_of_le (by omega) s3.size⟩
  · obtain ⟨r0, hr0, rfl⟩ := List.mem_map.1 hr
    obtain ⟨t1, t2, t3⟩ := trM_b N r0
    rw [t1, t2]
    obtain ⟨b1, b2⟩ := h.bytes r0 hr0
    have b3 : ∀ a, r0.A = some a → ∃ c z, w8.heap[a.block]? = some (.cells c 5 z) := fun a ha => (b2 a ha).2
    refine ⟨b1.chK (P := fun k => ∃ c z, w8.heap[k]? = some (.cells c 5 z)) b3 k10 (fun k hk => hby k hk), fun a ha => ⟨.inl (b2 a ha).1, ?_⟩⟩
    obtain ⟨c, z, hcz⟩ := b3 a ha
    exact ⟨c, z, (k10.block _ (Array.getElem?_eq_some_iff.1 hcz).1 (hby _ (b3 a ha))).trans hcz⟩
  · obtain ⟨r0, hr0, rfl⟩ := List.mem_map.1 hr
    rw [trM_id]
    exact h.ids r0 hr0
  · obtain rfl := List.mem_singleton.1 hi
    exact ⟨h0, h1⟩
  · obtain ⟨r0, hr0, rfl⟩ := List.mem_map.1 hr
    rw [(trM_b N r0).1]
    exact h.blen r0 hr0
  · rw [List.length_map]; exact h.lens.1
  · rcases hk with hk | hk
    · exact Nat.lt_of_lt_of_le (h.lt k hk) k10.size
    · exact hk.2
end Go.Proofs.YtnkhgajghfonhaaGreatDoor

/- metalog: Fold. -/
namespace Go.Proofs.YtnkhgajghfonhaaGreatDoor
open Go Go.ChangeShapes Go.WideShapes Go.ChangeAt Go.RowKit Go.ChangeMaps Go.MapKept
set_option linter.unusedVariables false
set_option linter.unusedSimpArgs false

theorem rise_take {rs : List Mr} (h : Rise rs) (k : Nat) : Rise (rs.take k) := by
  intro i j hi hj hij
  rw [List.getElem_take, List.getElem_take]
  exact h i j (by rw [List.length_take] at hi; omega) (by rw [List.length_take] at hj; omega) hij
section
variable {Q : Nat → Prop} {B l f : Nat} {dir : Nm} {rs : List Mr} {fs : List Int} {s : Fs} {w : World}
theorem LS.quiet {w' : World} (h : LS Q B l f dir rs fs s w) (hb : Below w.heap.size w w') : LS Q B l f dir rs fs s w' := by
  obtain ⟨P, h1, h2, h3⟩ := h
  exact ⟨P, h1.below hb, (h2.keep hb).kept_, h3⟩
theorem FoldPost.none_ {upto : Int} {w' : World} (h : LS Q B l f dir rs fs s w) (hBw : B ≤ w.heap.size) (hu : foldUp rs fs upto = []) (hb : Below w.heap.size w w') : FoldPost Q B l f dir rs fs s upto w (.returned (.int .i64 91)) w' := by
  obtain ⟨y, hy⟩ : ∃ y, s.file y = none := by obtain ⟨P, h1, h2, h3⟩ := h; exact h2.noFile
  refine ⟨y, hy, ?_⟩
  rw [foldR_none hu]
  exact ⟨rfl, h.quiet hb, Turn.of hb hBw⟩
theorem FoldPost.same {upto : Int} {w' : World} (h : LS Q B l f dir rs fs s w) (hBw : B ≤ w.heap.size) (hu : foldUp rs fs upto ≠ []) (hg : foldGo rs fs (foldId rs fs upto) = []) (hb : Below w.heap.size w w') : FoldPost Q B l f dir rs fs s upto w (.returned (.int .i64 0)) w' := by
  obtain ⟨y, hy⟩ : ∃ y, s.file y = none := by obtain ⟨P, h1, h2, h3⟩ := h; exact h2.noFile
  refine ⟨y, hy, ?_⟩
  rw [foldR_same hu hg]
  exact ⟨rfl, h.quiet hb, Turn.of hb hBw⟩
theorem FoldPost.of {upto : Int} {w' : World} {y : Nat} {N : Int} {up : List Mr} {R : Int × List Mr × List Int × Fs} (hu : foldUp rs fs upto = up) (hun : up ≠ []) (hid : foldId rs fs upto = N) (hg : foldGo rs fs N ≠ []) (hy : s.file y = none) (hR : foldM s dir rs fs up N y = R)
    (hls : LS Q B l f dir R.2.1 R.2.2.1 R.2.2.2 w') (ht : Turn Q B w w') : FoldPost Q B l f dir rs fs s upto w (.returned (.int .i64 R.1)) w' := by
  refine ⟨y, hy, ?_⟩
  rw [foldR_m (by rw [hu]; exact hun) (by rw [hid]; exact hg), hu, hid, hR]
  exact ⟨rfl, hls, ht⟩
theorem LogAt.head {P : Nat → Prop} (h : LogAt P l f dir rs fs w) : w.cell? ⟨l, 0, none⟩ = some (adr f) ∧ w.cell? ⟨l, 1, none⟩ = some (.string (txt dir)) := by
  obtain ⟨A, c, A2, c2, h1, h2, h3, h4, h5⟩ := h.own
  exact ⟨h1.cell 0, h1.cell 1⟩
theorem Turn.keptS {K S : Nat → Prop} {w' : World} (h : Turn K B w w') (hS : ∀ k, S k → k < B ∨ K k) : Kept S w w' :=
  ⟨h.below.os, h.below.tape, h.below.output, h.below.size, fun k hk hn => by
    rcases hS k (Classical.not_not.1 hn) with h1 | h1
    · exact h.below.block k h1
    · exact h.ch.block k hk (fun hn => hn h1)⟩
/-- The leavers' iterator, behind the number's box. -/
theorem fold_lv {P : Nat → Prop} {w4 : World} {N : Int} (hlog : LogAt P l f dir rs fs w) (hT : Tab B w) (hBw : B ≤ w.heap.size) (hb : Below w.heap.size w w4) :
    Below w.heap.size w (lvW l w4.heap.size (w4.alloc (.cells #[.int .i64 N] 2))) ∧ ∃ rA rc fA fc, LvAt B l (w4.heap.size + 1) (w4.heap.size + 1 + 1) (w4.heap.size + 1 + 2) w4.heap.size
      (fun k => k < B ∨ P k ∨ (w.heap.size ≤ k ∧ k < w4.heap.size + 4)) rs fs rA rc fA fc N (lvW l w4.heap.size (w4.alloc (.cells #[.int .i64 N] 2))) := by
  have hV : Below w.heap.size w (w4.alloc (.cells #[.int .i64 N] 2)) := hb.alloc hb.size _
  have hz : (w4.alloc (.cells #[.int .i64 N] 2)).heap.size = w4.heap.size + 1 := by simp
  have hs := hb.size
  rw [← hz]
  refine ⟨hV.trans ((lvW_below l w4.heap.size _).mono hV.size), (hlog.below hV).lv (hT.below (hV.mono hBw)) ((Cells.new w4 _ _).cell 0) (fun k h => .inr (.inl h)) (.inr (.inr ⟨hs, by omega⟩)) (fun k h => .inl h) (by omega) (fun k h1 h2 => .inr (.inr ⟨by omega, by omega⟩)) (fun k hk => ?_)⟩
  rcases hk with hk | hk | hk
  · omega
  · have := hlog.lt k hk; omega
  · omega
/-- The folds' numbers are stored, the rows turned. -/
theorem fold_turn {P : Nat → Prop} {w8 : World} {q : Nat} {N : Int} (h : LogAt P l f dir rs fs w8) (hne : rs ≠ []) (hq : w8.cell? ⟨q, 0, none⟩ = some (.int .i64 N)) (hql : q ≠ l) (h0 : 0 ≤ N) (h1 : N ≤ 9223372036854775807) :
    Calls Tryz.prog 36 #[.pointer (some ⟨l, 2, none⟩), .func (.func 37) #[] #[.pointer (some ⟨q, 0, none⟩)]] ((w8.setCell ⟨l, 3, none⟩ (.slice (some ⟨w8.heap.size, 0, none⟩) 1 1)).alloc (.cells #[.int .i64 N] 2)) fun e w' =>
      e = .returned (.tuple #[]) ∧ LogAt (fun i => P i ∨ (w8.heap.size ≤ i ∧ i < w'.heap.size)) l f dir (rs.map (trM N)) [N] w' ∧ Ch (· = l) w8 w' := by
  obtain ⟨A, c, A2, c2, q1, q2, q3, q4, q5⟩ := h.own
  obtain ⟨w9, hw9⟩ : ∃ w9, (w8.setCell ⟨l, 3, none⟩ (.slice (some ⟨w8.heap.size, 0, none⟩) 1 1)).alloc (.cells #[.int .i64 N] 2) = w9 := ⟨_, rfl⟩
  have hlw := q1.lt
  have e9 : w9 = (w8.alloc (.cells #[.int .i64 N] 2)).setCell ⟨l, 3, none⟩ (.slice (some ⟨w8.heap.size, 0, none⟩) 1 1) := by rw [← hw9]; exact (World.setCell_alloc_past _ l 3 _ hlw).symm
  have k9 : Ch (· = l) w8 w9 := by rw [← hw9]; exact ((Ch.refl (· = l) w8).set (p := ⟨l, 3, none⟩) (.inl rfl) _).alloc _
  have hc9 : Cells w9 l #[adr f, .string (txt dir), .slice A rs.length c, .slice (some ⟨w8.heap.size, 0, none⟩) 1 1] 66 := by
    rw [← hw9]
    have := (q1.set 3 (.slice (some ⟨w8.heap.size, 0, none⟩) 1 1)).alloc (.cells #[.int .i64 N] 2)
    simpa using this
  have hrow : w9.ownsRow 0 123 4 (.slice A rs.length c) rs.length (rs.flatMap mrCells) := own_ch q2 k9 (fun r hr e => by
    subst e
    obtain ⟨d, hd, hB⟩ := own_cells q2 hr
    exact (hd.ne q1 (by decide)) rfl)
  rw [hw9]
  refine (turn_any hc9 rfl ⟨hc9.cell 2, (RowC.own mrCells_length (by decide) hrow).2, h.rise, by have := h.lens.1; omega⟩ hne ((World.cell?_of_block (a := ⟨q, 0, none⟩) (k9.block q (World.block_lt_of_cell? _ _ hq) hql)).trans hq)).mono fun e w' hs => ?_
  obtain ⟨hl, hk⟩ := log_folded h q1 e9 hs h0 h1
  obtain ⟨_, _, he, _⟩ := hs
  exact ⟨he, hl, hk⟩
set_option maxRecDepth 100000 in
set_option maxHeartbeats 4000000 in
theorem fold_any {M : Nat} (h : LS Q B l f dir rs fs s w) (wf : WfK M s) (hM : M + 8 + rs.length + fs.length ≤ 1000000) (hBw : B ≤ w.heap.size) (hT : Tab B w) (upto : Int) (htot : ∀ k, (listL pairL ((rs.take k).map prOf)).length ≤ 16777200) :
    Calls Tryz.prog 11 #[.pointer (some ⟨l, 0, none⟩), .int .i64 upto] w (FoldPost Q B l f dir rs fs s upto w) := by
  obtain ⟨P, hlog, hrep, hP⟩ := h
  have HLOG := Lib.hid hlog
  have HREP := Lib.hid hrep
  have HP := Lib.hid hP
  have HWF := Lib.hid wf
  have HTAB := Lib.hid hT
  have HTOT := Lib.hid htot
  have HKLE := Lib.hid (upI_le rs hlog.rise (foldN fs upto))
  have HGR := Lib.hid (greatest_any hlog)
  have hgr : (fs = [] ∧ (!fs.isEmpty) = false ∧ foldN fs upto = upto) ∨ ((!fs.isEmpty) = true ∧ foldN fs upto = max upto (grI fs)) := by
    unfold foldN
    cases fs with
    | nil => exact .inl ⟨rfl, rfl, rfl⟩
    | cons a t => exact .inr ⟨rfl, rfl⟩
  obtain ⟨G, hG⟩ : ∃ G, grI fs = G := ⟨_, rfl⟩
  rw [hG] at HGR hgr
  have HU : ∀ X, foldN fs upto = X → ∀ W A c, Tb W l 2 A c rs → Calls Tryz.prog 28 #[.pointer (some ⟨l, 2, none⟩), .int .i64 X] W fun e w' => e = .returned (.int .i64 (upI rs (foldN fs upto) : Int)) ∧ Below W.heap.size W w' :=
    fun X hX W A c ht => (upTo_any ht X).mono fun e w' hh => by rw [hX]; exact hh
  obtain ⟨k, hk⟩ : ∃ k, upI rs (foldN fs upto) = k := ⟨_, rfl⟩
  rw [hk] at HKLE
  simp only [hk] at HU
  have HUP := Lib.hid (show foldUp rs fs upto = rs.take k from by unfold foldUp; rw [hk])
  clear hlog hrep hP wf hT htot hG hk
  rcases hgr with ⟨-, e1, e2⟩ | ⟨e1, e2⟩
  case' inl =>
    rw [e1] at HGR
    have HN := Lib.hid (HU upto e2)
    clear e1 e2 HU
    go_enter Tryz.func11, Tryz.ntmps11
    go_wp2_with (go_at_call 26; go_loud (refine HGR.out.mono ?_; rintro e w1 ⟨rfl, hb1⟩; have HB1 := Lib.hid hb1; clear hb1))
  case' inr =>
    rw [e1] at HGR
    have HN := Lib.hid (HU _ e2)
    clear e1 e2 HU
    go_enter Tryz.func11, Tryz.ntmps11
    go_wp2_with (go_at_call 26; go_loud (refine HGR.out.mono ?_; rintro e w1 ⟨rfl, hb1⟩; have HB1 := Lib.hid hb1; clear hb1))
  all_goals obtain ⟨A0, c0, A9, c9, ho1, ho2, ho3, ho4, ho5⟩ := (HLOG.out.below (HB1.out.drew)).own
  all_goals have HCAP := Lib.hid (own_cap ho2).1
  all_goals have HTB1 := Lib.hid (show Tb w1.drew l 2 A0 c0 rs from ⟨ho1.cell 2, (RowC.own mrCells_length (by decide) ho2).2, HLOG.out.rise, by have := HLOG.out.lens.1; omega⟩)
  all_goals clear ho1 ho2 ho3 ho4 ho5
  all_goals refine wp_mono ?_ noPanic_le
  all_goals refine held_begin 10 (fun _ => True) rfl (by kernel_rfl) ?_
  all_goals refine held_take (i := 0) (t := 24) (v := (.pointer (some ⟨l, 0, none⟩))) (fuel := 9) rfl rfl (by kernel_rfl) (by kernel_rfl) (by kernel_rfl) (fun _ _ _ h => h) (.inl ⟨rfl, fun W hW => by simp [execOp, Act.eval, go_sem, adr]⟩) trivial ?_
  all_goals simp only [List.setIfInBounds_toArray, List.set_cons_succ, List.set_cons_zero]
  all_goals refine held_take (i := 1) (t := 25) (v := (.pointer (some ⟨l, 0, none⟩))) (fuel := 8) rfl rfl (by kernel_rfl) (by kernel_rfl) (by kernel_rfl) (fun _ _ _ h => h) (.inl ⟨rfl, fun W hW => by simp [execOp, Act.eval, go_sem, adr]⟩) trivial ?_
  all_goals simp only [List.setIfInBounds_toArray, List.set_cons_succ, List.set_cons_zero]
  all_goals refine held_take (i := 2) (t := 26) (v := (.pointer (some ⟨l, 2, none⟩))) (fuel := 7) rfl rfl (by kernel_rfl) (by kernel_rfl) (by kernel_rfl) (fun _ _ _ h => h) (.inl ⟨rfl, fun W hW => by simp [execOp, Act.eval, go_sem, adr]⟩) trivial ?_
  all_goals simp only [List.setIfInBounds_toArray, List.set_cons_succ, List.set_cons_zero]
  all_goals refine held_take (i := 3) (t := 27) (v := (.pointer (some ⟨l, 0, none⟩))) (fuel := 6) rfl rfl (by kernel_rfl) (by kernel_rfl) (by kernel_rfl) (fun _ _ _ h => h) (.inl ⟨rfl, fun W hW => by simp [execOp, Act.eval, go_sem, adr]⟩) trivial ?_
  all_goals simp only [List.setIfInBounds_toArray, List.set_cons_succ, List.set_cons_zero]
  all_goals refine held_take (i := 4) (t := 28) (v := (.pointer (some ⟨l, 0, none⟩))) (fuel := 5) rfl rfl (by kernel_rfl) (by kernel_rfl) (by kernel_rfl) (fun _ _ _ h => h) (.inl ⟨rfl, fun W hW => by simp [execOp, Act.eval, go_sem, adr]⟩) trivial ?_
  all_goals simp only [List.setIfInBounds_toArray, List.set_cons_succ, List.set_cons_zero]
  all_goals refine held_take (i := 5) (t := 29) (v := (.pointer (some ⟨l, 2, none⟩))) (fuel := 4) rfl rfl (by kernel_rfl) (by kernel_rfl) (by kernel_rfl) (fun _ _ _ h => h) (.inl ⟨rfl, fun W hW => by simp [execOp, Act.eval, go_sem, adr]⟩) trivial ?_
  all_goals simp only [List.setIfInBounds_toArray, List.set_cons_succ, List.set_cons_zero]
  all_goals refine held_take (i := 6) (t := 30) (v := (.int .i64 _)) (fuel := 3) rfl rfl (by kernel_rfl) (by kernel_rfl) (by kernel_rfl) (fun _ _ _ h => h) (.inl ⟨rfl, fun W hW => by simp [execOp, Act.eval, go_sem, adr]; rfl⟩) trivial ?_
  all_goals simp only [List.setIfInBounds_toArray, List.set_cons_succ, List.set_cons_zero]
  all_goals refine held_call (i := 7) rfl (by kernel_rfl) (by kernel_rfl) ?_
  all_goals simp [Oper.wp, execOp, Act.eval, Act.put, go_sem]
  all_goals refine (HN.out _ _ _ HTB1.out).mono ?_
  all_goals rintro e w2 ⟨rfl, hb2⟩
  all_goals have HB2 := Lib.hid hb2
  all_goals clear hb2
  all_goals try simp only [List.setIfInBounds_toArray, List.set_cons_succ, List.set_cons_zero]
  all_goals refine held_call (i := 8) rfl (by kernel_rfl) (by kernel_rfl) ?_
  all_goals simp [Oper.wp, execOp, Act.eval, Act.put, go_sem]
  all_goals refine (firstT_any (HTB1.out.below HB2.out) HCAP.out k HKLE.out).mono ?_
  all_goals rintro e w3 ⟨A3, c3, T, rfl, hct, hown3, hT3, hb3⟩
  all_goals have HB3 := Lib.hid (show Below w.heap.size w w3 from (HB1.out.drew.trans (HB2.out.mono HB1.out.size)).trans (hb3.mono (Nat.le_trans HB1.out.size HB2.out.size)))
  all_goals have HCT := Lib.hid hct
  all_goals have HO3 := Lib.hid hown3
  all_goals clear hb3 hct hown3
  all_goals try simp only [List.setIfInBounds_toArray, List.set_cons_succ, List.set_cons_zero]
  all_goals refine held_take (i := 9) (t := 7) (v := (adr T)) (fuel := 0) rfl rfl (by kernel_rfl) (by kernel_rfl) (by kernel_rfl) (fun _ _ _ h => h) (.inl ⟨rfl, fun W hW => by simp [execOp, Act.eval, go_sem, adr]⟩) trivial ?_
  all_goals simp only [List.setIfInBounds_toArray, List.set_cons_succ, List.set_cons_zero]
  all_goals refine wpAnyH_done (by kernel_rfl) ?_ 0
  all_goals unfold noPanic
  all_goals have HLS := Lib.hid (show LS Q B l f dir rs fs s w from ⟨P, HLOG.out, HREP.out, HP.out⟩)
  all_goals have hkt : (rs.take k).length = k := by have := HKLE.out; rw [List.length_take]; omega
  all_goals have HTB3 := Lib.hid (show Tb w3 T 0 A3 c3 (rs.take k) from ⟨by rw [hkt]; exact HCT.out.cell 0, (RowC.own mrCells_length (by decide) HO3.out).2, rise_take HLOG.out.rise k, by have := HLOG.out.lens.1; have := HKLE.out; omega⟩)
  all_goals have HL := Lib.hid (last_any HTB3.out)
  all_goals
    by_cases hup : rs.take k = []
    · have hl : hasAny (rs.take k) = false := by rw [hup]; rfl
      rw [hl] at HL
      have HUE := Lib.hid (HUP.out.trans hup)
      clear hl hkt hup
      go_wp2_with (go_at_call 29; go_loud (refine HL.out.mono ?_; rintro e w4 ⟨rfl, hb4⟩; have HB4 := Lib.hid (HB3.out.trans (hb4.mono HB3.out.size)); clear hb4))
      go_ret
      exact FoldPost.none_ HLS.out hBw HUE.out (HB4.out.alloc HB4.out.size _)
    · have hl : hasAny (rs.take k) = true := by unfold hasAny; cases hh : rs.take k with | nil => exact absurd hh hup | cons a t => rfl
      obtain ⟨r, hr, hrid⟩ := last_mem hup
      obtain ⟨N, hN⟩ : ∃ N, lastI (rs.take k) = N := ⟨_, rfl⟩
      obtain ⟨hN0, hN1⟩ := HLOG.out.ids r (List.mem_of_mem_take hr)
      rw [← hrid, hN] at hN0 hN1
      rw [hl, hN] at HL
      have HUE := Lib.hid (show foldUp rs fs upto ≠ [] from by rw [HUP.out]; exact hup)
      have HID := Lib.hid (show foldId rs fs upto = N from by unfold foldId; rw [HUP.out]; exact hN)
      have HUPN := Lib.hid hup
      clear hl hkt hup r hr hrid hN
      go_wp2_with (go_at_call 29; go_loud (refine HL.out.mono ?_; rintro e w4 ⟨rfl, hb4⟩; have HB4 := Lib.hid (HB3.out.trans (hb4.mono HB3.out.size)); have HB34 := Lib.hid hb4; clear hb4))
      obtain ⟨hb5, rA, rc, fA, fc, hlv⟩ := fold_lv (w4 := w4) (N := N) HLOG.out HTAB.out hBw HB4.out
      refine (leaving_any l _ _).mono ?_
      rintro e w5 ⟨rfl, hw5⟩
      rw [← hw5] at hb5 hlv
      have hrl : rs.length ≤ 1000000000 ∧ fs.length ≤ 1000000000 := by have := HLOG.out.lens; omega
      have HIN := Lib.hid (show ∀ r ∈ rs, in64 r.id from fun r hr => by have := HLOG.out.ids r hr; exact ⟨by omega, by omega⟩)
      have HFN := Lib.hid (show ∀ i ∈ fs, in64 i from fun i hi => by have := HLOG.out.fids i hi; exact ⟨by omega, by omega⟩)
      have HNN := Lib.hid (none_any hrl.1 hrl.2 HIN.out HFN.out hlv)
      have HLV := Lib.hid hlv
      have HB5 := Lib.hid hb5
      have hb45 : Below w4.heap.size w4 w5 := by rw [hw5]; exact ((Below.refl _ w4).alloc (Nat.le_refl _) _).trans ((lvW_below l w4.heap.size _).mono (by simp))
      have HS5 := Lib.hid (show w4.heap.size + 4 ≤ w5.heap.size from by rw [hw5, lvW_size]; simp)
      clear hb5 hlv hw5
      by_cases hgo : foldGo rs fs N = []
      · have he : (lvN (leI N) (neI N) rs fs).isEmpty = true := by rw [show lvN (leI N) (neI N) rs fs = [] from hgo]; rfl
        rw [he] at HNN
        have HGO := Lib.hid hgo
        clear he hgo hrl
        go_wp2_with (go_at_call 33; go_loud (refine HNN.out.mono ?_; rintro e w6 ⟨rfl, hb6⟩; have HB6 := Lib.hid (HB5.out.trans (hb6.mono HB5.out.size)); clear hb6))
        go_ret
        exact FoldPost.same HLS.out hBw HUE.out (by rw [HID.out]; exact HGO.out) HB6.out
      · have he : (lvN (leI N) (neI N) rs fs).isEmpty = false := by
          cases hh : lvN (leI N) (neI N) rs fs with
          | nil => exact absurd hh hgo
          | cons a t => rfl
        rw [he] at HNN
        have HGO := Lib.hid hgo
        clear he hgo
        go_wp2_with (go_at_call 33; go_loud (refine HNN.out.mono ?_; rintro e w6 ⟨rfl, hb6⟩; have HB56 := Lib.hid hb6; have HB46 := Lib.hid (hb45.trans (hb6.mono hb45.size)); have HB6 := Lib.hid (HB5.out.trans (hb6.mono HB5.out.size)); have m6 : w6.cell? ⟨w4.heap.size, 0, none⟩ = some (.int .i64 N) := cell_later hb6 HLV.out.n; clear hb6))
        have hlog6 := HLOG.out.below HB6.out
        obtain ⟨l60, l61⟩ := hlog6.head
        have hT6 : Tab B w6 := HTAB.out.below (HB6.out.mono hBw)
        have HLV6 := Lib.hid (HLV.out.kept (Kept.grown (grown_of_below HB56.out)))
        have HTB6 := Lib.hid ((HTB3.out.below HB34.out).below (HB46.out.mono (Nat.le_refl _)))
        have hs6 : w4.heap.size + 4 ≤ w6.heap.size := Nat.le_trans HS5.out HB56.out.size
        have hSK : ∀ k, (k < B ∨ P k ∨ (w.heap.size ≤ k ∧ k < w4.heap.size + 4)) → k < B ∨ With (fun i => Q i ∨ P i) w.heap.size w6.heap.size k := fun k hk => by
          rcases hk with h1 | h1 | h1
          · exact .inl h1
          · exact .inr (.inl (.inr h1))
          · exact .inr (.inr ⟨h1.1, by omega⟩)
        refine (putFold_any (HREP.out.keep HB6.out) HWF.out (by omega) (Nat.le_trans hBw HB6.out.size) hT6 N ⟨by omega, by omega⟩ HTB6.out (fun r hr => HIN.out r (List.mem_of_mem_take hr)) (fun r hr => (hlog6.bytes r (List.mem_of_mem_take hr)).1) (fun r hr => by have := hlog6.blen r (List.mem_of_mem_take hr); omega) HUPN.out (HTOT.out k) l60 l61 (.inr (.inl (.inr hlog6.pl)))).mono ?_
        rintro e w7 ⟨y, hy, rfl, hr7, ht7⟩
        have hlog7 := hlog6.kept ht7.ch (fun i hi hn => hn (.inl (.inr hi)))
        have HLV7 := Lib.hid (HLV6.out.kept (ht7.keptS hSK))
        have HT7 := Lib.hid (show Turn Q B w w7 from (Turn.of HB6.out hBw).trans (ht7.fewer fun i hi => .inl (.inl hi)))
        have HWF7 := Lib.hid (wfk_raw HWF.out dir (fN N) (fr (listL pairL ((rs.take k).map prOf))) y)
        have HLOG7 := Lib.hid hlog7
        have HY := Lib.hid hy
        obtain ⟨r1, hr1⟩ : ∃ r1, rawR s dir (fN N) (fr (listL pairL ((rs.take k).map prOf))) y = r1 := ⟨_, rfl⟩
        rw [hr1] at hr7 HWF7 ⊢
        have HR1 := Lib.hid hr1
        have HREP7 := Lib.hid hr7
        have HSK := Lib.hid hSK
        have m7 := HLV7.out.n
        clear hr1 hr7 hlog6 hlog7 hT6 ht7 hy l60 l61 m6 hSK
        obtain ⟨E1, s1⟩ := r1
        dsimp only at HREP7 HWF7 ⊢
        by_cases hE1 : E1 = 0
        case neg =>
          have hE1b : (E1 != 0) = true := by rw [bne_iff_ne]; exact hE1
          go_wp2
          go_ret
          exact FoldPost.of HUP.out HUPN.out HID.out HGO.out HY.out (foldM_bad HR1.out hE1) ⟨P, HLOG7.out, HREP7.out.kept_, HP.out⟩ HT7.out
        subst hE1
        go_wp2_with (fail)
        obtain ⟨l70, l71⟩ := HLOG7.out.head
        have hgl := lv_length (leI N) (neI N) rs fs
        refine (remove_any2 HREP7.out HWF7.out (by omega) (Nat.le_trans hBw HT7.out.size) hrl.1 hrl.2 HIN.out HFN.out HLV7.out HSK.out l70 l71).mono ?_
        rintro e w8 ⟨rfl, hr8, ht8⟩
        have hlog8 := HLOG7.out.kept ht8.ch (fun i hi hn => hn (.inl (.inr hi)))
        have HLV8 := Lib.hid (HLV7.out.kept (ht8.keptS HSK.out))
        have HT8 := Lib.hid (show Turn Q B w w8 from HT7.out.trans (ht8.fewer fun i hi => .inl (.inl hi)))
        have HLOG8 := Lib.hid hlog8
        obtain ⟨r2, hr2⟩ : ∃ r2, remR dir (lvN (leI N) (neI N) rs fs) s1 = r2 := ⟨_, rfl⟩
        rw [hr2] at hr8 ⊢
        have HR2 := Lib.hid (show remR dir (foldGo rs fs N) s1 = r2 from hr2)
        have HREP8 := Lib.hid hr8
        have m8 := HLV8.out.n
        clear hr2 hr8 hlog8 ht8 l70 l71 m7 hgl
        obtain ⟨E2, s2⟩ := r2
        dsimp only at HREP8 ⊢
        by_cases hE2 : E2 = 0
        case neg =>
          have hE2b : (E2 != 0) = true := by rw [bne_iff_ne]; exact hE2
          go_wp2
          go_ret
          exact FoldPost.of HUP.out HUPN.out HID.out HGO.out HY.out (foldM_bad2 HR1.out rfl HR2.out hE2) ⟨P, HLOG8.out, HREP8.out.kept_, HP.out⟩ HT8.out
        subst hE2
        obtain ⟨A5, c5, A6, c6, q1, q2, q3, q4, q5⟩ := HLOG8.out.own
        have n0 : w8.cell? ⟨l, 3, none⟩ = some (.slice A6 fs.length c6) := q1.cell 3
        have n1 := q1.frozen 3
        have n2 := q1.lt
        have n3 := (World.block_lt_of_cell? _ _ m8)
        have HTU := Lib.hid (fold_turn HLOG8.out (fun e => HUPN.out (by rw [e]; exact List.take_nil)) m8 (fun e => by have := HLOG.out.lt l HLOG.out.pl; have := HB4.out.size; omega) hN0 hN1)
        clear q1 q2 q3 q4 q5
        go_wp2_with (go_at_call 36; go_loud (refine HTU.out.mono ?_; rintro e w10 ⟨rfl, hlog10, hch10⟩; have HL10 := Lib.hid hlog10; have HC10 := Lib.hid hch10; clear hlog10 hch10))
        go_ret
        have hQV : ∀ i, Q i → i < w8.heap.size := fun i hi => by obtain ⟨L, hL⟩ := HREP8.out; exact hL.kold i (.inl (.inl hi))
        have hrep10 := HREP8.out.kept_more (Kq := fun i => Q i ∨ (P i ∨ (w8.heap.size ≤ i ∧ i < w10.heap.size))) HC10.out (fun i e => .inr (.inl (by rw [e]; exact HLOG.out.pl))) (fun i hi => by
          rcases hi with h | h | h
          · exact .inl (.inl (.inl h))
          · exact .inl (.inl (.inr h))
          · exact .inr h)
        refine FoldPost.of HUP.out HUPN.out HID.out HGO.out HY.out (foldM_ok HR1.out rfl HR2.out rfl) ⟨_, HL10.out, hrep10, fun i hi => hi.elim (HP.out i) (fun h => ⟨fun hq => by have := hQV i hq; omega, by have := HT8.out.size; omega⟩)⟩ (HT8.out.trans (HC10.out.toTurn (fun k _ e => by rw [e]; exact ⟨(HP.out l HLOG.out.pl).2, (HP.out l HLOG.out.pl).1⟩) (Nat.le_trans hBw HT8.out.size)))
end
end Go.Proofs.YtnkhgajghfonhaaGreatDoor
