/- Several texts in one: MlI, MlJ, MlK. -/
import Derived.Test.YtnkhgajghfonhaaGreatDoorMlH
import Derived.Test.YtnkhgajghfonhaaGreatDoorMlCs
import Derived.Laws.OwnMore
import Derived.BigRegion
/- metalog: a fold is laid. -/
namespace Go.Proofs.YtnkhgajghfonhaaGreatDoor
attribute [local go_sem] Oper.semAt_some
open Go Go.ChangeShapes Go.WideShapes Go.ChangeAt Go.RowKit Go.ChangeMaps Go.MapKept
set_option linter.unusedVariables false
set_option linter.unusedSimpArgs false

def prOf (r : Mr) : Pa := ⟨txt (hexL r.id), txt r.b⟩
/-- While rows come: the pairs made of them. -/
structure PfI (a : Nat) (w : World) (pre : List Mr) (U : World) : Prop where
  row : ∃ A c, Cells U a #[.slice A pre.length c] 116 ∧ U.ownsRow (a + 4) 120 2 (.slice A pre.length c) pre.length ((pre.map prOf).flatMap pCells)
  below : Below w.heap.size w U
  size : a + 4 ≤ U.heap.size
theorem own_books {U V : World} {base D n sz : Nat} {E : TypeId} {v : Value} {xs : List Value} {row : Option Nat} (h : U.ownsRow base E sz v n xs) (hg : U.grownBy V row) (hr : ∀ r, row = some r → D ≤ r ∧ ∃ o, U.heap[r]? = some o ∧ bookish o) : V.ownsRow base E sz v n xs := by
  refine ⟨h.1, ?_⟩
  rcases h.2 with ⟨rfl, h0⟩ | ⟨g, cap, cur, rfl, hg', hh, rest⟩
  · exact .inl ⟨rfl, h0⟩
  · exact .inr ⟨g, cap, cur, rfl, hg', (cells_books (k := g) (show Cells U g _ _ from hh) hg hr), rest⟩
theorem PfI.books {a D : Nat} {w : World} (hD : w.heap.size ≤ D) : LoopOwn D (PfI a w) := fun pre U V row h hg hr => by
  obtain ⟨A, c, h1, h2⟩ := h.row
  exact ⟨⟨A, c, cells_books h1 hg hr, own_books h2 hg hr⟩, ⟨hg.os.trans h.below.os, hg.tape.trans h.below.tape, hg.output.trans h.below.output, Nat.le_trans h.below.size hg.size, fun k hk => (hg.block k (Nat.lt_of_lt_of_le hk h.below.size) (fun e => by have := (hr k e.symm).1; omega)).trans (h.below.block k hk)⟩, Nat.le_trans h.size hg.size⟩
theorem below_of_grown {a : Nat} {U V : World} (hg : U.grownBy V none) (ha : a ≤ U.heap.size) : Below a U V := ⟨hg.os, hg.tape, hg.output, hg.size, fun k hk => hg.block k (Nat.lt_of_lt_of_le hk ha) (by simp)⟩
theorem ml_bytes {w W : World} {A : Option Addr} {b : List UInt8} (h : BytesAt w w.heap.size A b) (hb : Below w.heap.size w W) : BytesAt W W.heap.size A b := (h.below hb).more hb.size
theorem boxE_cells {x : Mr} {W : World} {D : Nat} (h : D + 1 < W.heap.size) (o : Obj) : Cells ((boxE x W).putObj (D + 1) o) W.heap.size #[.slice x.A x.b.length x.c, .bool x.fo, .bool x.si] 71 :=
  (World.putObj_heap_other (by show W.heap.size ≠ _; omega)).trans (Cells.new W _ _)
theorem ml_away {w w' : World} {B sz n m k : Nat} {E t : TypeId} {A : Option Addr} {c : Nat} {xs : List Value} {cs : Array Value} (h : w.ownsRow B E sz (.slice A n c) m xs) (hg : w.grownBy w' (Value.ownBlock (.slice A n c))) (hc : Cells w k cs t) (hne : t ≠ E) : Cells w' k cs t :=
  hc.ch (ch_of_grown hg) (fun e => by obtain ⟨d, hd, _⟩ := own_cells h e; exact (hc.ne hd hne) rfl)
theorem ml_below {w w' w0 : World} {B sz n m : Nat} {E : TypeId} {A : Option Addr} {c : Nat} {xs : List Value} {a : Nat} (h : w.ownsRow B E sz (.slice A n c) m xs) (hg : w.grownBy w' (Value.ownBlock (.slice A n c))) (ha : a ≤ B) (haw : a ≤ w.heap.size) (hb : Below a w0 w) : Below a w0 w' :=
  ⟨hg.os.trans hb.os, hg.tape.trans hb.tape, hg.output.trans hb.output, Nat.le_trans hb.size hg.size, fun k hk =>
    (hg.block k (Nat.lt_of_lt_of_le hk haw) (fun e => by obtain ⟨d, hd, hB⟩ := own_cells h e.symm; omega)).trans (hb.block k hk)⟩
theorem kept_of_belows {a : Nat} {w V V2 : World} (h1 : Below a w V) (h2 : Below a w V2) (hs : V.heap.size ≤ V2.heap.size) : Kept (fun k => k < a) V V2 :=
  ⟨h2.os.trans h1.os.symm, h2.tape.trans h1.tape.symm, h2.output.trans h1.output.symm, hs, fun k _ hn => by
    have hk : k < a := Classical.not_not.1 hn
    exact (h2.block k hk).trans (h1.block k hk).symm⟩
/-- A round's end. -/
theorem PfI.next {w V w3 w4 : World} {pre : List Mr} {x : Mr} {A2 A4 : Option Addr} {c2 c4 D : Nat} (hI : PfI w.heap.size w pre V) (hb3 : Below V.heap.size V w3) (ho3 : w3.ownsRow (w.heap.size + 4) 120 2 (.slice A2 pre.length c2) pre.length ((pre.map prOf).flatMap pCells))
    (hg4 : w3.grownBy w4 (Value.ownBlock (.slice A2 pre.length c2))) (hown4 : w4.ownsRow (w.heap.size + 4) 120 2 (.slice A4 (pre.length + 1) c4) (pre.length + 1) ((pre.map prOf ++ [prOf x]).flatMap pCells))
    (hc4 : Cells w4 w.heap.size #[.slice A2 pre.length c2] 116) (hD : D = w.heap.size + 2) :
    BookKept D V (w4.setCell ⟨w.heap.size, 0, none⟩ (.slice A4 (pre.length + 1) c4)) ∧ Kept (fun k => k < w.heap.size) V (w4.setCell ⟨w.heap.size, 0, none⟩ (.slice A4 (pre.length + 1) c4)) ∧ PfI w.heap.size w (pre ++ [x]) (w4.setCell ⟨w.heap.size, 0, none⟩ (.slice A4 (pre.length + 1) c4)) := by
  subst hD
  have hs := hI.size
  have hbw3 : Below w.heap.size w w3 := hI.below.trans (hb3.mono hI.below.size)
  have hbw4 := ml_below ho3 hg4 (Nat.le_add_right _ _) hbw3.size hbw3
  have hbw5 : Below w.heap.size w (w4.setCell ⟨w.heap.size, 0, none⟩ (.slice A4 (pre.length + 1) c4)) := hbw4.setCell (p := ⟨w.heap.size, 0, none⟩) (Nat.le_refl _) _
  have hz : (w4.setCell ⟨w.heap.size, 0, none⟩ (.slice A4 (pre.length + 1) c4)).heap.size = w4.heap.size := by simp
  have hsz : V.heap.size ≤ w4.heap.size := Nat.le_trans hb3.size hg4.size
  have hbk : ∀ k, w.heap.size < k → k < w.heap.size + 4 → (w4.setCell ⟨w.heap.size, 0, none⟩ (.slice A4 (pre.length + 1) c4)).heap[k]? = V.heap[k]? := fun k h1 h2 =>
    (Below.heap_setCell w4 ⟨w.heap.size, 0, none⟩ _ k (by show k ≠ w.heap.size; omega)).trans ((hg4.block k (by have := hb3.size; omega) (fun e => by obtain ⟨d, hd, hB⟩ := own_cells ho3 e.symm; omega)).trans (hb3.block k (by omega)))
  have hch : Ch (· = w.heap.size) w4 (w4.setCell ⟨w.heap.size, 0, none⟩ (.slice A4 (pre.length + 1) c4)) := (Ch.refl (· = w.heap.size) w4).set (p := ⟨w.heap.size, 0, none⟩) (.inl rfl) _
  refine ⟨⟨hbk _ (by omega) (by omega), hbk _ (by omega) (by omega)⟩, kept_of_belows hI.below hbw5 (by rw [hz]; exact hsz), ⟨A4, c4, ?_, ?_⟩, hbw5, by rw [hz]; omega⟩
  · rw [List.length_append, List.length_singleton]
    simpa using hc4.set 0 (.slice A4 (pre.length + 1) c4)
  · rw [List.length_append, List.length_singleton, List.map_append, List.map_cons, List.map_nil]
    exact own_ch hown4 hch (fun r hr e => by obtain ⟨d, hd, hB⟩ := own_cells hown4 hr; omega)
theorem ml_pairs {rs : List Mr} (hin : ∀ r ∈ rs, in64 r.id) (hlen : ∀ r ∈ rs, r.b.length ≤ 16777216) : ∀ p ∈ rs.map prOf, p.s.size ≤ 274877906944 ∧ p.t.size ≤ 274877906944 := by
  intro p hp
  obtain ⟨r, hr, rfl⟩ := List.mem_map.1 hp
  have := hlen r hr
  exact ⟨by show (txt (hexL r.id)).size ≤ _; rw [txt_size, hexL_length]; omega, by show (txt r.b).size ≤ _; rw [txt_size]; omega⟩
theorem infoPr : (Tryz.prog.info? 120).map (fun i => (i.zero, i.size, i.bytes)) = some (some (Value.agg #[.string ⟨#[]⟩, .string ⟨#[]⟩]), 2, 32) := by kernel_rfl
/-- 'append(l, v)' of an item whose cells lie somewhere. -/
theorem app_ml {α : Type} {f : α → List Value} {sz bytes : Nat} {T E : TypeId} {z : Value} (hT : Tryz.prog.underlying T = some (.slice E)) (hinfo : (Tryz.prog.info? E).map (fun i => (i.zero, i.size, i.bytes)) = some (some z, sz, bytes)) (hz : z.cells.size = sz) (hsz : 0 < sz)
    (hl : ∀ a, (f a).length = sz) (h1 : ∀ a, ∀ u ∈ f a, u.oneCell' = true) (w : World)
    {o : Oper} {a : Act} {K : Act → World → Prop} {Q : Exit → Act → World → Prop} (s x : Operand)
    (ho : o.op = .call { callee := .builtin .append, args := #[s, x], argTypes := #[T, T] })
    (B : Nat) (hB : B ≤ w.heap.size) (A : Option Addr) (n c : Nat) (l : List α) (hs : a.eval s = .slice A n c) (hb : w.ownsRow B E sz (.slice A n c) n (l.flatMap f)) (v : α)
    (ad : Addr) (c2 : Nat) (hx : a.eval x = .slice (some ad) 1 c2) (hnews : ∀ j u, (f v)[j]? = some u → w.cell? (ad.add j) = some u) (hlen : (n + 1) * bytes ≤ 140737488355328) (hn : n + 1 ≤ maxLen)
    (h : ∀ A' c' w', w'.ownsRow B E sz (.slice A' (n + 1) c') (n + 1) ((l ++ [v]).flatMap f) → w.grownBy w' (Value.ownBlock (.slice A n c)) → K (a.put o.dst (.slice A' (n + 1) c')) w') :
    Oper.wp Tryz.prog o a w K Q := by
  obtain ⟨i0, hi, hz0, hz1, hz2⟩ := info_parts hinfo
  obtain ⟨v', w', hr, h2, h3, _, h5⟩ := run_append_own_at (P := Tryz.prog) w B T o.type E i0 _ sz bytes hT hi hz0 hz1 hz2 hz hsz (.slice A n c) n (l.flatMap f) hb ad 1 c2 (f v) (by rw [hl, Nat.one_mul]) hnews
    (h1 v) hn hlen hB
  obtain ⟨A', c', rfl⟩ := own_slice h2
  unfold Oper.wp execOp
  simp only [ho, resolve, invoke, builtin, Sem.run_bind, Sem.run_pure, Result.andThen_ok, List.map_toArray, List.map_cons, List.map_nil, hs, hx, hr]
  exact h A' c' w' (by rw [List.flatMap_append, List.flatMap_cons, List.flatMap_nil, List.append_nil]; exact h2) h3
theorem cells_of_block {w : World} {b : Nat} {l : List Value} {T : TypeId} (h : w.heap[b]? = some (.cells l.toArray T)) : ∀ j u, l[j]? = some u → w.cell? ((⟨b, 0, none⟩ : Addr).add j) = some u := by
  intro j u hu
  rw [add_at, Nat.zero_add]
  simp [World.cell?, h, hu]
theorem row_blk {w : World} {B : Nat} {A : Option Addr} {l : List Mr} {a : Addr} (h : RowC mrCells 4 w B A l) (hl : l ≠ []) (ha : A = some a) : a.block < B := by
  have h0 : 0 < l.length := by cases l with | nil => exact absurd rfl hl | cons _ _ => simp
  obtain ⟨b, off, e, hb, _⟩ := h 0 h0
  rw [ha] at e
  injection e with e
  subst e
  exact hb
section
variable {K : Nat → Prop} {B f l : Nat} {dir : Nm} {s : Fs} {w : World} {rs : List Mr}
set_option maxRecDepth 100000 in
set_option maxHeartbeats 4000000 in
theorem putFold_any {M T : Nat} {A : Option Addr} {c : Nat} (hr : Rep K B f s w) (wf : WfK M s) (hM : M + 6 ≤ 1000000) (hBw : B ≤ w.heap.size) (hT : Tab B w) (N : Int) (hN : in64 N) (ht : Tb w T 0 A c rs) (hin : ∀ r ∈ rs, in64 r.id) (hb : ∀ r ∈ rs, BytesAt w w.heap.size r.A r.b)
    (hlen : ∀ r ∈ rs, r.b.length ≤ 16777216) (hne : rs ≠ []) (htot : (listL pairL (rs.map prOf)).length ≤ 16777200) (hl0 : w.cell? ⟨l, 0, none⟩ = some (adr f)) (hl1 : w.cell? ⟨l, 1, none⟩ = some (.string (txt dir))) (hKl : l < B ∨ K l) :
    Calls Tryz.prog 34 #[.pointer (some ⟨l, 0, none⟩), .int .i64 N, .pointer (some ⟨T, 0, none⟩)] w (RawPost K B f s dir (fN N) (fr (listL pairL (rs.map prOf))) w) := by
  have HREP := Lib.hid hr
  have HWF := Lib.hid wf
  have HTB := Lib.hid ht
  have HTAB := Lib.hid hT
  have HIN := Lib.hid hin
  have HBY := Lib.hid hb
  have HLEN := Lib.hid hlen
  have HTOT := Lib.hid htot
  have HL0 := Lib.hid hl0
  have HL1 := Lib.hid hl1
  have HKL := Lib.hid hKl
  clear hr wf ht hin hb hlen htot hl0 hl1 hKl hT
  refine (callsIn_wide (n := 8)).1 ?_
  refine callsIn_of_wp_marks Tryz.func34 rfl trivial ?_ rfl
  simp only [Tryz.ntmps34, List.size_toArray, List.length_cons, List.length_nil, Nat.reduceAdd, Nat.reduceSub, Array.replicate_succ, Array.replicate_zero, List.push_toArray, List.append_toArray, List.nil_append, List.cons_append]
  gi_wp2_with (first
    | (refine ⟨trivial, ?_⟩; gi_at_call 51; refine (callsIn_wide.2 (all_any _ _ _)).mono ?_; rintro e w1 ⟨rfl, rfl⟩))
  obtain ⟨W0, hW0⟩ : ∃ W0, (w.alloc (.cells #[.slice none 0 0] 116)).alloc (.cells #[.pointer (some ⟨T, 0, none⟩)] 68) = W0 := ⟨_, rfl⟩
  have hsz : W0.heap.size = w.heap.size + 2 := by rw [← hW0]; simp
  have hb0 : Below w.heap.size w W0 := by rw [← hW0]; exact ((Below.refl _ w).alloc (Nat.le_refl _) _).alloc (by simp) _
  have hpx : Cells W0 w.heap.size #[.slice none 0 0] 116 := by rw [← hW0]; exact (Cells.new w _ _).alloc _
  have hbx : Cells W0 (w.heap.size + 1) #[.pointer (some ⟨T, 0, none⟩)] 68 := by rw [← hW0]; exact cells_at _ _ (by simp) _ _
  rw [hW0]
  have HB0 := Lib.hid hb0
  have HSZ := Lib.hid hsz
  have HPX := Lib.hid hpx
  clear hW0 hb0 hpx
  refine range_nest rfl (by omega) (gf := 79) (lb := #[.pointer (some ⟨w.heap.size + 1, 0, none⟩)]) rfl trivial (enters_of Tryz.func79 (by kernel_rfl) rfl)
    (fun W1 hg hs1 => all_seq _ (by omega) rs HTB.out.len T 0 c (w.heap.size + 1) A (fun k => k < w.heap.size) W1 (hbx.ch (ch_grown hg) (fun h => h)) ((HTB.out.below (HB0.out.trans (below_of_grown hg (by rw [hsz]; omega)))).cell) ((HTB.out.below (HB0.out.trans (below_of_grown hg (by rw [hsz]; omega)))).row) (fun a ha => row_blk HTB.out.row hne ha)) (fun _ => rfl)
    Kept.trans (fun hg => Kept.grown hg) (fun U o => (ch_put U _ o).mono fun k _ e hk => by have h7 : k = W0.heap.size + 1 := e; omega)
    (PfI w.heap.size w) (fun c pre U => False)
    (PfI.books (by omega)) (fun c _ _ _ row h1 hg hr => h1.elim)
    (fun pre => LoopOwn.pure_ (fun _ => _)) ?start boxE (fun x U => World.grownBy_alloc U _ none) (fun x U W => Cells W U.heap.size #[.slice x.A x.b.length x.c, .bool x.fo, .bool x.si] 71) (fun x U r r' hb => boxE_cells hb.lt _) ?a1 ?assign ?body ?done ?stop
  case start =>
    intro W1 hg hs1
    have hb := below_of_grown (a := w.heap.size) hg (by rw [hsz]; omega)
    exact ⟨⟨none, 0, HPX.out.ch (ch_grown hg) (fun h => h), World.ownsRow_nil W1 _ _ 2⟩, HB0.out.trans hb, by rw [hs1, hsz]; omega⟩
  case assign =>
    intro l0 x U K' hK
    unfold mrEnc
    gi_wp2
    exact hK
  case body =>
    rintro l0 pre x U V hI ⟨post, hpre⟩ hat
    obtain ⟨A2, c2, hp1, hp2⟩ := hI.row
    have hmem : x ∈ rs := by rw [hpre]; simp
    have hpl : pre.length < rs.length := by rw [hpre]; simp
    have hlr := HTB.out.len
    have y7 : V.cell? ⟨w.heap.size, 0, none⟩ = some (.slice A2 pre.length c2) := hp1.cell 0
    have y9 : V.cell? ⟨U.heap.size, 0, none⟩ = some (.slice x.A x.b.length x.c) := hat.cell 0
    have HAT := Lib.hid hat
    have HX := Lib.hid (HIN.out x hmem)
    have HXB := Lib.hid (HBY.out x hmem)
    have HI := Lib.hid hI
    have HP1 := Lib.hid hp1
    have HP2 := Lib.hid hp2
    have HPL := Lib.hid hpl
    clear hp1 hp2 hI hat hpre hmem hpl hlr
    gi_wp2
    refine wpIn_mono ?_ noPanic_le
    refine till_round 10 9 (fun W => W.cell? ⟨w.heap.size, 0, none⟩ = some (.slice A2 pre.length c2) ∧ W.cell? ⟨U.heap.size, 0, none⟩ = some (.slice x.A x.b.length x.c) ∧ Below w.heap.size w W) rfl (by kernel_rfl) (by simp) (fun ⟨_, _, h⟩ => h) ?_
    have hS : V.drew.cell? ⟨w.heap.size, 0, none⟩ = some (.slice A2 pre.length c2) ∧ V.drew.cell? ⟨U.heap.size, 0, none⟩ = some (.slice x.A x.b.length x.c) ∧ Below w.heap.size w V.drew := ⟨y7, y9, HI.out.below.drew⟩
    refine till_take (i := 0) (t := 16) (v := (.slice A2 pre.length c2)) (fuel := 9) rfl rfl (by kernel_rfl) (by kernel_rfl) (by kernel_rfl) (by kernel_rfl) (fun _ _ _ h => h) (.inl ⟨rfl, fun W hW => by obtain ⟨w1, w2, w3⟩ := hW; simp [execOp, Act.eval, go_sem, w1, w2]⟩) hS ?_
    simp only [List.setIfInBounds_toArray, List.set_cons_succ, List.set_cons_zero]
    refine till_take (i := 1) (t := 17) (v := (.int .i64 x.id)) (fuel := 8) rfl rfl (by kernel_rfl) (by kernel_rfl) (by kernel_rfl) (by kernel_rfl) (fun _ _ _ h => h) (.inl ⟨rfl, fun W hW => by obtain ⟨w1, w2, w3⟩ := hW; simp [execOp, Act.eval, go_sem, w1, w2]⟩) hS ?_
    simp only [List.setIfInBounds_toArray, List.set_cons_succ, List.set_cons_zero]
    refine till_take (i := 3) (t := 19) (v := (.pointer (some ⟨U.heap.size, 0, none⟩))) (fuel := 7) rfl rfl (by kernel_rfl) (by kernel_rfl) (by kernel_rfl) (by kernel_rfl) (fun _ _ _ h => h) (.inl ⟨rfl, fun W hW => by obtain ⟨w1, w2, w3⟩ := hW; simp [execOp, Act.eval, go_sem, w1, w2]⟩) hS ?_
    simp only [List.setIfInBounds_toArray, List.set_cons_succ, List.set_cons_zero]
    refine till_take (i := 4) (t := 20) (v := (.slice x.A x.b.length x.c)) (fuel := 6) rfl rfl (by kernel_rfl) (by kernel_rfl) (by kernel_rfl) (by kernel_rfl) (fun _ _ _ h => h) (.inl ⟨rfl, fun W hW => by obtain ⟨w1, w2, w3⟩ := hW; simp [execOp, Act.eval, go_sem, w1, w2]⟩) hS ?_
    simp only [List.setIfInBounds_toArray, List.set_cons_succ, List.set_cons_zero]
    refine till_take (i := 5) (t := 21) (v := (.string (txt x.b))) (fuel := 5) rfl rfl (by kernel_rfl) (by kernel_rfl) (by kernel_rfl) (by kernel_rfl) (fun _ _ _ h => h) (.inl ⟨rfl, fun W hW => by obtain ⟨w1, w2, w3⟩ := hW; have hcv := string_of_bytes x.A x.b.length x.c x.b W rfl (ml_bytes HXB.out w3); simp [execOp, Act.eval, go_sem, hcv]⟩) hS ?_
    simp only [List.setIfInBounds_toArray, List.set_cons_succ, List.set_cons_zero]
    refine till_one (i := 2) rfl (by kernel_rfl) (by kernel_rfl) ?_
    simp [Oper.wp, execOp, Act.eval, Act.put, go_sem]
    refine (hex_any x.id HX.out V.drew (HTAB.out.below (hS.2.2.mono hBw)) (Nat.le_trans hBw hS.2.2.size)).mono ?_
    rintro e V2 ⟨rfl, hb2⟩
    replace hb2 := below_undrew hb2
    have hS : V2.cell? ⟨w.heap.size, 0, none⟩ = some (.slice A2 pre.length c2) ∧ V2.cell? ⟨U.heap.size, 0, none⟩ = some (.slice x.A x.b.length x.c) ∧ Below w.heap.size w V2 := ⟨cell_later hb2 y7, cell_later hb2 y9, HI.out.below.trans (hb2.mono HI.out.below.size)⟩
    refine ⟨hS, ?_⟩
    try simp only [List.setIfInBounds_toArray, List.set_cons_succ, List.set_cons_zero]
    refine till_take (i := 6) (t := 22) (v := (.agg #[.string (txt (hexL x.id)), .string (txt x.b)])) (fuel := 3) rfl rfl (by kernel_rfl) (by kernel_rfl) (by kernel_rfl) (by kernel_rfl) (fun _ _ _ h => h) (.inl ⟨rfl, fun W hW => by obtain ⟨w1, w2, w3⟩ := hW; simp [execOp, Act.eval, go_sem, w1, w2]⟩) hS ?_
    simp only [List.setIfInBounds_toArray, List.set_cons_succ, List.set_cons_zero]
    refine till_one (i := 7) rfl (by kernel_rfl) (by kernel_rfl) ?_
    simp [Oper.wp, execOp, Act.eval, Act.put, go_sem]
    obtain ⟨w3, hw3⟩ : ∃ w3, V2.alloc (.cells #[.string (txt (hexL x.id)), .string (txt x.b)] 120) = w3 := ⟨_, rfl⟩
    have hal : Below V2.heap.size V2 w3 := by rw [← hw3]; exact (Below.refl _ V2).alloc (Nat.le_refl _) _
    have hnew : w3.heap[V2.heap.size]? = some (.cells (pCells (prOf x)).toArray 120 (0, 0)) := by rw [← hw3]; exact heap_alloc_new V2 _
    have hb3 : Below V.heap.size V w3 := hb2.trans (hal.mono hb2.size)
    have hS3 : w3.cell? ⟨w.heap.size, 0, none⟩ = some (.slice A2 pre.length c2) ∧ w3.cell? ⟨U.heap.size, 0, none⟩ = some (.slice x.A x.b.length x.c) ∧ Below w.heap.size w w3 := ⟨cell_later hb3 y7, cell_later hb3 y9, HI.out.below.trans (hb3.mono HI.out.below.size)⟩
    rw [hw3]
    refine ⟨hS3, ?_⟩
    try simp only [List.setIfInBounds_toArray, List.set_cons_succ, List.set_cons_zero]
    refine till_one (i := 8) rfl (by kernel_rfl) (by kernel_rfl) ?_
    have ho3 := own_below HP2.out hb3
    refine app_ml Tryz.underlying116 infoPr rfl (by decide) pCells_length pCells_one w3 _ _ rfl (w.heap.size + 4) (Nat.le_trans HI.out.size hb3.size) A2 pre.length c2 (pre.map prOf) rfl ho3 (prOf x) ⟨V2.heap.size, 0, none⟩ 1 rfl (cells_of_block hnew) (by have := HPL.out; have := HTB.out.len; omega) (by have := HPL.out; have := HTB.out.len; unfold maxLen; omega) ?_
    intro A4 c4 w4 hown4 hg4
    have hc4 := ml_away ho3 hg4 (HP1.out.ch (chb hb3) (fun h => h)) (by decide)
    have hx4 := ml_away ho3 hg4 (HAT.out.ch (chb hb3) (fun h => h)) (by decide)
    have hbw4 := ml_below ho3 hg4 (Nat.le_add_right _ _) hS3.2.2.size hS3.2.2
    have hS4 : w4.cell? ⟨w.heap.size, 0, none⟩ = some (.slice A2 pre.length c2) ∧ w4.cell? ⟨U.heap.size, 0, none⟩ = some (.slice x.A x.b.length x.c) ∧ Below w.heap.size w w4 := ⟨hc4.cell 0, hx4.cell 0, hbw4⟩
    refine ⟨fun _ => hS4, ?_⟩
    try simp only [Act.put]
    try simp only [List.setIfInBounds_toArray, List.set_cons_succ, List.set_cons_zero]
    refine till_one (i := 9) rfl (by kernel_rfl) (by kernel_rfl) ?_
    have z0 := hS4.1
    have z1 := hc4.frozen 0
    simp [Oper.wp, execOp, Act.eval, Act.put, go_sem, z0, z1]
    refine till_done (by kernel_rfl) ?_
    unfold noPanic
    gi_wp2
    exact HI.out.next hb3 ho3 hg4 hown4 hc4 HSZ.out
  case done =>
    rintro xs V hxs hI hK
    rw [hxs] at hI
    rw [hsz] at hK ⊢
    obtain ⟨A2, c2, hp1, hp2⟩ := hI.row
    have y7 : V.cell? ⟨w.heap.size, 0, none⟩ = some (.slice A2 rs.length c2) := hp1.cell 0
    have HPW := Lib.hid (pairs_walk (rs.map prOf) (ml_pairs HIN.out HLEN.out) (by have := HTOT.out; omega) A2 rs.length c2 V (by simp) (by have := HTB.out.len; omega) (RowC.own pCells_length (by decide) hp2).2)
    have HI := Lib.hid hI
    have HK := Lib.hid hK
    obtain ⟨bs, hbs⟩ : ∃ bs, listL pairL (rs.map prOf) = bs := ⟨_, rfl⟩
    rw [hbs] at HPW ⊢
    have HBS := Lib.hid hbs
    clear hI hp1 hp2 hK hxs hbs hsz
    gi_wp2_with (first
      | (refine ⟨trivial, ?_⟩; gi_at_call 67; refine (callsIn_wide.2 HPW.out).mono ?_; rintro e V2 ⟨A5, n5, c5, rfl, hb5, hl5⟩; have HB5 := Lib.hid hb5; have HL5 := Lib.hid hl5; clear hb5 hl5))
    have hlw := World.block_lt_of_cell? _ _ HL0.out
    have hbw : Below w.heap.size w V2 := HI.out.below.trans (HL5.out.mono HI.out.below.size)
    have hls : ¬ 9223372036854775807 < (⟨#[102, 46]⟩ : ByteArray).size + (txt (hexL N)).size := by rw [txt_size, hexL_length]; decide
    have hpos : 0 < bs.length := by rw [← HBS.out]; unfold listL; rw [List.length_append]; have := numL_pos (rs.map prOf).length; omega
    obtain ⟨g5, off5, rfl, _⟩ := HB5.out.bytes 0 hpos
    have hS : V2.drew.cell? ⟨l, 0, none⟩ = some (adr f) ∧ V2.drew.cell? ⟨l, 1, none⟩ = some (.string (txt dir)) := ⟨cell_later hbw.drew HL0.out, cell_later hbw.drew HL1.out⟩
    refine wpIn_mono ?_ noPanic_le
    refine wpIn_wide.2 ?_
    refine held_begin 14 (fun W => W.cell? ⟨l, 0, none⟩ = some (adr f) ∧ W.cell? ⟨l, 1, none⟩ = some (.string (txt dir))) rfl (by kernel_rfl) ?_
    refine held_take (i := 0) (t := 33) (v := (.pointer (some ⟨l, 0, none⟩))) (fuel := 13) rfl rfl (by kernel_rfl) (by kernel_rfl) (by kernel_rfl) (fun _ _ _ h => h) (.inl ⟨rfl, fun W hW => by obtain ⟨w1, w2⟩ := hW; simp [execOp, Act.eval, go_sem, adr, w1, w2]⟩) hS ?_
    simp only [List.setIfInBounds_toArray, List.set_cons_succ, List.set_cons_zero]
    refine held_take (i := 1) (t := 34) (v := (.pointer (some ⟨l, 0, none⟩))) (fuel := 12) rfl rfl (by kernel_rfl) (by kernel_rfl) (by kernel_rfl) (fun _ _ _ h => h) (.inl ⟨rfl, fun W hW => by obtain ⟨w1, w2⟩ := hW; simp [execOp, Act.eval, go_sem, adr, w1, w2]⟩) hS ?_
    simp only [List.setIfInBounds_toArray, List.set_cons_succ, List.set_cons_zero]
    refine held_take (i := 2) (t := 35) (v := (.pointer (some ⟨l, 0, none⟩))) (fuel := 11) rfl rfl (by kernel_rfl) (by kernel_rfl) (by kernel_rfl) (fun _ _ _ h => h) (.inl ⟨rfl, fun W hW => by obtain ⟨w1, w2⟩ := hW; simp [execOp, Act.eval, go_sem, adr, w1, w2]⟩) hS ?_
    simp only [List.setIfInBounds_toArray, List.set_cons_succ, List.set_cons_zero]
    refine held_take (i := 3) (t := 36) (v := (adr f)) (fuel := 10) rfl rfl (by kernel_rfl) (by kernel_rfl) (by kernel_rfl) (fun _ _ _ h => h) (.inl ⟨rfl, fun W hW => by obtain ⟨w1, w2⟩ := hW; simp [execOp, Act.eval, go_sem, adr, w1, w2]⟩) hS ?_
    simp only [List.setIfInBounds_toArray, List.set_cons_succ, List.set_cons_zero]
    refine held_take (i := 4) (t := 37) (v := (.pointer (some ⟨l, 0, none⟩))) (fuel := 9) rfl rfl (by kernel_rfl) (by kernel_rfl) (by kernel_rfl) (fun _ _ _ h => h) (.inl ⟨rfl, fun W hW => by obtain ⟨w1, w2⟩ := hW; simp [execOp, Act.eval, go_sem, adr, w1, w2]⟩) hS ?_
    simp only [List.setIfInBounds_toArray, List.set_cons_succ, List.set_cons_zero]
    refine held_take (i := 5) (t := 38) (v := (.pointer (some ⟨l, 0, none⟩))) (fuel := 8) rfl rfl (by kernel_rfl) (by kernel_rfl) (by kernel_rfl) (fun _ _ _ h => h) (.inl ⟨rfl, fun W hW => by obtain ⟨w1, w2⟩ := hW; simp [execOp, Act.eval, go_sem, adr, w1, w2]⟩) hS ?_
    simp only [List.setIfInBounds_toArray, List.set_cons_succ, List.set_cons_zero]
    refine held_take (i := 6) (t := 39) (v := (.pointer (some ⟨l, 1, none⟩))) (fuel := 7) rfl rfl (by kernel_rfl) (by kernel_rfl) (by kernel_rfl) (fun _ _ _ h => h) (.inl ⟨rfl, fun W hW => by obtain ⟨w1, w2⟩ := hW; simp [execOp, Act.eval, go_sem, adr, w1, w2]⟩) hS ?_
    simp only [List.setIfInBounds_toArray, List.set_cons_succ, List.set_cons_zero]
    refine held_take (i := 7) (t := 40) (v := (.string (txt dir))) (fuel := 6) rfl rfl (by kernel_rfl) (by kernel_rfl) (by kernel_rfl) (fun _ _ _ h => h) (.inl ⟨rfl, fun W hW => by obtain ⟨w1, w2⟩ := hW; simp [execOp, Act.eval, go_sem, adr, w1, w2]⟩) hS ?_
    simp only [List.setIfInBounds_toArray, List.set_cons_succ, List.set_cons_zero]
    refine held_take (i := 8) (t := 41) (v := (.int .i64 N)) (fuel := 5) rfl rfl (by kernel_rfl) (by kernel_rfl) (by kernel_rfl) (fun _ _ _ h => h) (.inl ⟨rfl, fun W hW => by obtain ⟨w1, w2⟩ := hW; simp [execOp, Act.eval, go_sem, adr, w1, w2]⟩) hS ?_
    simp only [List.setIfInBounds_toArray, List.set_cons_succ, List.set_cons_zero]
    refine held_take (i := 11) (t := 44) (v := (.slice (some ⟨g5, off5, none⟩) n5 c5)) (fuel := 4) rfl rfl (by kernel_rfl) (by kernel_rfl) (by kernel_rfl) (fun _ _ _ h => h) (.inl ⟨rfl, fun W hW => by obtain ⟨w1, w2⟩ := hW; simp [execOp, Act.eval, go_sem, adr, w1, w2]⟩) hS ?_
    simp only [List.setIfInBounds_toArray, List.set_cons_succ, List.set_cons_zero]
    refine held_call (i := 9) rfl (by kernel_rfl) (by kernel_rfl) ?_
    simp [Oper.wp, execOp, Act.eval, Act.put, go_sem]
    refine (hex_any N hN V2.drew (HTAB.out.below (hbw.drew.mono hBw)) (Nat.le_trans hBw hbw.size)).mono ?_
    rintro e V3 ⟨rfl, hb3⟩
    replace hb3 := below_undrew hb3
    have hbw3 : Below w.heap.size w V3 := hbw.trans (hb3.mono hbw.size)
    have hS : V3.cell? ⟨l, 0, none⟩ = some (adr f) ∧ V3.cell? ⟨l, 1, none⟩ = some (.string (txt dir)) := ⟨cell_later hbw3 HL0.out, cell_later hbw3 HL1.out⟩
    refine ⟨hS, ?_⟩
    try simp only [List.setIfInBounds_toArray, List.set_cons_succ, List.set_cons_zero]
    refine held_take (i := 10) (t := 43) (v := (.string (txt (fN N)))) (fuel := 2) rfl rfl (by kernel_rfl) (by kernel_rfl) (by kernel_rfl) (fun _ _ _ h => h) (.inl ⟨rfl, fun W hW => by obtain ⟨w1, w2⟩ := hW; have hfn := fN_txt N; have hle : 2 + (txt (hexL N)).size ≤ 9223372036854775807 := (by rw [txt_size, hexL_length]; decide); simp [execOp, Act.eval, go_sem, hle, hfn]⟩) hS ?_
    simp only [List.setIfInBounds_toArray, List.set_cons_succ, List.set_cons_zero]
    refine held_call (i := 12) rfl (by kernel_rfl) (by kernel_rfl) ?_
    simp [Oper.wp, execOp, Act.eval, Act.put, go_sem, adr]
    refine (put_any (HREP.out.keep hbw3) HWF.out hM (Nat.le_trans hBw hbw3.size) dir (fN N) n5 c5 ⟨g5, off5, none⟩ bs HB5.out.1 (by rw [HB5.out.1, ← HBS.out]; have := HTOT.out; omega) (((HB5.out.bytes).below hb3).more hb3.size)).mono ?_
    rintro e V4 ⟨y, hy, rfl, hr4, ht4⟩
    have hS : V4.cell? ⟨l, 0, none⟩ = some (adr f) ∧ V4.cell? ⟨l, 1, none⟩ = some (.string (txt dir)) := by
      have hl4 : V4.heap[l]? = V3.heap[l]? := turn_same ht4 (HKL.out.elim .inl (fun h => .inr (.inl h))) (Nat.lt_of_lt_of_le hlw hbw3.size)
      exact ⟨(World.cell?_of_block (a := ⟨l, 0, none⟩) hl4).trans hS.1, (World.cell?_of_block (a := ⟨l, 1, none⟩) hl4).trans hS.2⟩
    refine ⟨hS, ?_⟩
    try simp only [List.setIfInBounds_toArray, List.set_cons_succ, List.set_cons_zero]
    have hDV : w.heap.size + 2 < V.heap.size := (Array.getElem?_eq_some_iff.1 HK.out).1
    have hD3 : V3.heap[w.heap.size + 2]? = some (.deferred (some [])) := (hb3.block _ (by have := HL5.out.size; omega)).trans ((HL5.out.block _ hDV).trans HK.out)
    have hD3lt : w.heap.size + 2 < V3.heap.size := (Array.getElem?_eq_some_iff.1 hD3).1
    have hD4 : V4.heap[w.heap.size + 2]? = some (.deferred (some [])) := (turn_same ht4 (.inr (.inr ⟨by omega, hD3lt⟩)) hD3lt).trans hD3
    obtain ⟨r6, r7⟩ := rm_end (D := w.heap.size + 2) (hi := V3.heap.size) (show ∀ i, K i → i < w.heap.size from fun i hi => by obtain ⟨L, hL⟩ := HREP.out; exact hL.kold i hi) hBw (by omega) hD4 trivial (hr4.fewer (fun i hi => hi.elim .inl (fun h => .inr ⟨h.1, h.2.1⟩))) ((Turn.of hbw3 hBw).trans ht4.kept) (.deferred none)
    refine held_take (i := 13) (t := 6) (v := (.int .i64 (rawR s dir (fN N) (fr bs) y).1)) (fuel := 0) rfl rfl (by kernel_rfl) (by kernel_rfl) (by kernel_rfl) (fun _ _ _ h => h) (.inl ⟨rfl, fun W hW => by obtain ⟨w1, w2⟩ := hW; simp [execOp, Act.eval, go_sem, adr, w1, w2]⟩) hS ?_
    simp only [List.setIfInBounds_toArray, List.set_cons_succ, List.set_cons_zero]
    refine wpAnyH_done (by kernel_rfl) ?_ 0
    unfold noPanic
    gi_wp2
    refine ⟨by simp, .inl ⟨_, _, rfl, run_takeDeferred hD4, ?_⟩⟩
    rw [HBS.out]
    exact ⟨.int .i64 (rawR s dir (fN N) (fr bs) y).1, by simp [results, Tryz.results34, go_sem], y, hy, rfl, r6, r7⟩
  case stop =>
    rintro c pre V hX hK
    exact hX.elim
end
end Go.Proofs.YtnkhgajghfonhaaGreatDoor

/- metalog: a table's first rows, as a table of its own. -/
namespace Go.Proofs.YtnkhgajghfonhaaGreatDoor
open Go Go.ChangeShapes Go.WideShapes Go.ChangeAt Go.RowKit Go.ChangeMaps Go.MapKept
set_option linter.unusedVariables false
set_option linter.unusedSimpArgs false

theorem flat_at' {α : Type} {f : α → List Value} {sz : Nat} (hl : ∀ a, (f a).length = sz) : ∀ (l : List α) (q r : Nat) (hq : q < l.length), r < sz → (l.flatMap f)[q * sz + r]? = (f l[q])[r]?
  | [], _, _, hq, _ => absurd hq (by simp)
  | a :: l, 0, r, _, hr => by
    rw [Nat.zero_mul, Nat.zero_add, List.flatMap_cons, List.getElem?_append_left (by rw [hl]; exact hr)]; rfl
  | a :: l, q + 1, r, hq, hr => by
    rw [List.flatMap_cons, List.getElem?_append_right (by rw [hl, Nat.add_mul]; omega), hl]
    have e : (q + 1) * sz + r - sz = q * sz + r := by rw [Nat.add_mul]; omega
    rw [e]
    exact flat_at' hl l q r (by simpa using hq) hr
/-- Items that lie side by side, cell by cell. -/
theorem row_cells {α : Type} {f : α → List Value} {sz : Nat} (hsz : 0 < sz) (hl : ∀ a, (f a).length = sz) {w : World} {B : Nat} {ad : Addr} {l : List α} (h : RowC f sz w B (some ad) l) : ∀ j u, (l.flatMap f)[j]? = some u → w.cell? (ad.add j) = some u := by
  intro j u hu
  have hj : j < l.length * sz := by rw [← flat_length hl]; exact (List.getElem?_eq_some_iff.1 hu).1
  have hq : j / sz < l.length := (Nat.div_lt_iff_lt_mul hsz).2 hj
  obtain ⟨b, off, e, _, hc⟩ := h (j / sz) hq
  have hr : j % sz < sz := Nat.mod_lt _ hsz
  have h2 := flat_at' hl l (j / sz) (j % sz) hq hr
  rw [Nat.div_add_mod' j sz, hu] at h2
  have := hc (j % sz) u h2.symm
  injection e with e
  subst e
  rw [add_at]
  rw [Nat.add_assoc, Nat.div_add_mod' j sz] at this
  exact this
theorem row_take {w : World} {B : Nat} {A : Option Addr} {l : List Mr} (h : RowC mrCells 4 w B A l) (k : Nat) : RowC mrCells 4 w B A (l.take k) := by
  intro j hj
  have hj' := hj
  rw [List.length_take] at hj'
  obtain ⟨b, off, e, hb, hc⟩ := h j (by omega)
  refine ⟨b, off, e, hb, fun i v hv => hc i v ?_⟩
  rw [List.getElem_take] at hv
  exact hv
theorem clone_ml (l : List Mr) (len c : Nat) (A : Option Addr) (w : World) (hl : len = l.length) (hm : len ≤ 1000000000) (hr : RowC mrCells 4 w w.heap.size A l) :
    Calls Tryz.prog 64 #[.slice A len c] w fun e w' => ∃ A' c', e = .returned (.slice A' len c') ∧ w'.ownsRow w.heap.size 123 4 (.slice A' len c') len (l.flatMap mrCells) ∧ Below w.heap.size w w' := by
  cases A with
  | none =>
    obtain rfl : l = [] := by
      cases l with
      | nil => rfl
      | cons p l => obtain ⟨_, _, e, _⟩ := hr 0 (by simp); cases e
    obtain rfl : len = 0 := hl
    clear hr
    have hnil : ∀ W, (binOp .eql 62 (.slice none 0 c) (.slice none 0 0)).run Tryz.prog W = .ok (.bool true) W := fun W => Lib.run_eql_slice_nil_nil W _ _ Tryz.underlying62
    go_enter Tryz.func64, Tryz.ntmps64
    go_wp2
    go_ret
    exact ⟨none, 0, rfl, World.ownsRow_nil _ _ _ 4, Below.refl _ _⟩
  | some a =>
    have HL := Lib.hid hl
    have HR := Lib.hid hr
    clear hr hl
    obtain ⟨i0, hi, hz0, hz1, hz2⟩ := info_parts infoMr
    have HI := Lib.hid hi
    have HZ0 := Lib.hid hz0
    have HZ1 := Lib.hid hz1
    have HZ2 := Lib.hid hz2
    clear hi hz0 hz1 hz2
    have hnil : ∀ W, (binOp .eql 62 (.slice (some a) len c) (.slice none 0 0)).run Tryz.prog W = .ok (.bool false) W := fun W => Lib.run_eql_slice_some_nil W _ _ _ Tryz.underlying62
    go_enter Tryz.func64, Tryz.ntmps64
    go_wp2_with (at_builtin; go_loud (refine wpList_append_own_at _ rfl _ _ 62 rfl w.heap.size 123 i0 _ 4 40 Tryz.underlying62 HI.out HZ0.out HZ1.out HZ2.out rfl (by decide) _ 0 [] rfl (World.ownsRow_made w #[] 0 (Nat.le_refl _) (by decide) rfl) a len c (l.flatMap mrCells) rfl (by rw [flat_length mrCells_length, HL.out]) (row_cells (by decide) mrCells_length (HR.out.below ((Below.refl _ w).alloc (Nat.le_refl _) _))) (flat_one mrCells_one l) (by unfold maxLen; omega) (by omega) (by simp) ?_; intro v1 w1 hown hg _ _; have HO := Lib.hid hown; have HG := Lib.hid hg; clear hown hg))
    go_ret
    have hn := HL.out
    subst hn
    obtain ⟨A', c', rfl⟩ := own_slice HO.out
    have hbel := ((Below.refl _ w).alloc (Nat.le_refl _) (.cells #[] 123)).grown HG.out (by simp) (fun k e => by cases e; exact Nat.le_refl _)
    refine ⟨A', c', by simp, by simpa using HO.out, hbel⟩
end Go.Proofs.YtnkhgajghfonhaaGreatDoor

/- metalog: a row is laid in a table, at its end or in the place of another. -/
namespace Go.Proofs.YtnkhgajghfonhaaGreatDoor
open Go Go.ChangeShapes Go.WideShapes Go.ChangeAt Go.RowKit Go.ChangeMaps Go.MapKept
set_option linter.unusedVariables false
set_option linter.unusedSimpArgs false

def r0 (t : Int) : Mr := ⟨t, [], false, false, none, 0⟩
set_option maxRecDepth 20000 in
set_option maxHeartbeats 1000000 in
theorem insert_end (l : List Mr) (t : Int) (n : Nat) (hn : n = l.length) (hm : n ≤ 999999990) (A : Option Addr) (c : Nat) (hcap : n ≤ c) (hcm : c ≤ maxLen) (B V : Nat) (w : World) (hB : B ≤ w.heap.size) (ho : w.ownsRow B 123 4 (.slice A n c) n (l.flatMap mrCells))
    (hv : w.heap[V]? = some (.cells (mrCells (r0 t)).toArray 123 (0, 0))) :
    Calls Tryz.prog 74 #[.slice A n c, .int .i64 (n : Int), .slice (some ⟨V, 0, none⟩) 1 1] w fun e w' =>
      ∃ A' c', e = .returned (.slice A' (n + 1) c') ∧ w'.ownsRow B 123 4 (.slice A' (n + 1) c') (n + 1) ((l ++ [r0 t]).flatMap mrCells) ∧ w.grownBy w' (Value.ownBlock (.slice A n c)) ∧ ((Value.slice A' (n + 1) c').ownBlock = (Value.slice A n c).ownBlock ∨ (Value.slice A' (n + 1) c').ownBlock = some w.heap.size) := by
  obtain ⟨i0, hi, hz0, hz1, hz2⟩ := info_parts infoMr
  have HI := Lib.hid hi
  have HZ0 := Lib.hid hz0
  have HZ1 := Lib.hid hz1
  have HZ2 := Lib.hid hz2
  have HO := Lib.hid ho
  have HV := Lib.hid hv
  have i1 : (n : Int) ≤ (c : Int) := by omega
  have HN := Lib.hid hn
  clear hi hz0 hz1 hz2 ho hv hn
  go_enter Tryz.func74, Tryz.ntmps74
  go_wp2_with (at_builtin; go_loud (refine wpList_append_own_at _ rfl _ _ 62 rfl B 123 i0 _ 4 40 Tryz.underlying62 HI.out HZ0.out HZ1.out HZ2.out rfl (by decide) (.slice A n c) n (l.flatMap mrCells) rfl HO.out ⟨V, 0, none⟩ 1 1 (mrCells (r0 t)) rfl rfl (cells_of_block HV.out) (mrCells_one _) (by unfold maxLen; omega) (by omega) hB ?_); intro v1 w1 hown hg _ hob; have HO1 := Lib.hid hown; have HG := Lib.hid hg; have HOB := Lib.hid hob; clear hown hg hob)
  all_goals
    go_ret
    obtain ⟨A', c', rfl⟩ := own_slice HO1.out
    exact ⟨A', c', by simp, by simpa using HO1.out, by cases A <;> exact HG.out, by cases A <;> cases A' <;> exact HOB.out⟩
theorem flat_set : ∀ (l : List Mr) (j : Nat) (hj : j < l.length) (r : Mr), l[j].id = r.id →
    (((l.flatMap mrCells).set (j * 4 + 1) (.slice r.A r.b.length r.c)).set (j * 4 + 2) (.bool r.fo)).set (j * 4 + 3) (.bool r.si) = (l.set j r).flatMap mrCells
  | [], _, hj, _, _ => absurd hj (by simp)
  | a :: l, 0, _, r, hid => by
    have e : a.id = r.id := hid
    rw [List.set_cons_zero, List.flatMap_cons, List.flatMap_cons]
    simp [mrCells, e]
  | a :: l, j + 1, hj, r, hid => by
    have ih := flat_set l j (by simpa using hj) r (by simpa using hid)
    rw [List.set_cons_succ, List.flatMap_cons, List.flatMap_cons, ← ih]
    have e1 : (j + 1) * 4 + 1 = 4 + (j * 4 + 1) := by omega
    have e2 : (j + 1) * 4 + 2 = 4 + (j * 4 + 2) := by omega
    have e3 : (j + 1) * 4 + 3 = 4 + (j * 4 + 3) := by omega
    rw [e1, e2, e3]
    rw [List.set_append_right _ _ (by rw [mrCells_length]; omega), List.set_append_right _ _ (by rw [mrCells_length]; omega), List.set_append_right _ _ (by rw [mrCells_length]; omega)]
    simp only [mrCells_length, Nat.add_sub_cancel_left]
def setL (l : List Mr) (r : Mr) : List Mr := if hasI l r.id = true then l.set (atI l r.id) r else l ++ [r]
/-- A row's value is laid in its place. -/
theorem row_store {w : World} {B n c : Nat} {A : Option Addr} {l : List Mr} (h : w.ownsRow B 123 4 (.slice A n c) n (l.flatMap mrCells)) (j : Nat) (hj : j < l.length) (r : Mr) (hid : l[j].id = r.id) :
    ∃ g, A = some ⟨g, 0, none⟩ ∧ B ≤ g ∧ g < w.heap.size ∧ (∀ o, w.frozen? ⟨g, o, none⟩ = false) ∧ (∀ i v, (mrCells l[j])[i]? = some v → w.cell? ⟨g, j * 4 + i, none⟩ = some v) ∧
      (((w.setCell ⟨g, j * 4 + 1, none⟩ (.slice r.A r.b.length r.c)).setCell ⟨g, j * 4 + 1 + 1, none⟩ (.bool r.fo)).setCell ⟨g, j * 4 + 1 + 2, none⟩ (.bool r.si)).ownsRow B 123 4 (.slice A n c) n ((l.set j r).flatMap mrCells) := by
  have hn := h.1
  rw [flat_length mrCells_length] at hn
  rcases h.2 with ⟨hv, h0⟩ | ⟨g, cap, cur, hv, hg, hh, _⟩
  · exfalso; subst h0; omega
  · injection hv with hA _ hc
    subst hA
    refine ⟨g, rfl, hg, (Array.getElem?_eq_some_iff.1 hh).1, fun o => h.frozenAt o, fun i v hv2 => ?_, ?_⟩
    · rw [h.cellAt _ (by have : i < 4 := (List.getElem?_eq_some_iff.1 hv2).1; omega)]
      exact flat_at mrCells_length l j hj i v hv2
    · rw [← flat_set l j hj r hid]
      exact (((h.stored (j * 4 + 1) _).1.stored (j * 4 + 1 + 1) _).1.stored (j * 4 + 1 + 2) _).1
theorem set_self {cs : Array Value} {po : Nat} {v : Value} (h : cs[po]? = some v) : cs.setIfInBounds po v = cs := by
  apply Array.ext_getElem?
  intro i
  rw [Array.getElem?_setIfInBounds]
  split
  · rename_i e
    subst e
    rw [if_pos (Array.getElem?_eq_some_iff.1 h).1, h]
  · rfl
/-- What set leaves: the cell of the rows, the rows; nothing else turns. -/
def SetPost (B pb po : Nat) (cs : Array Value) (tL : TypeId) (A : Option Addr) (l' : List Mr) (w : World) (e : Ending) (w' : World) : Prop :=
  ∃ A' c', e = .returned (.tuple #[]) ∧ Cells w' pb (cs.setIfInBounds po (.slice A' l'.length c')) tL ∧ w'.ownsRow B 123 4 (.slice A' l'.length c') l'.length (l'.flatMap mrCells) ∧ Ch (fun k => k = pb ∨ (Value.slice A 0 0).ownBlock = some k) w w' ∧ ∀ k, (Value.slice A' 0 0).ownBlock = some k → (Value.slice A 0 0).ownBlock = some k ∨ w.heap.size ≤ k
set_option maxRecDepth 20000 in
set_option maxHeartbeats 2000000 in
theorem set_there {w : World} {pb po c B : Nat} {cs : Array Value} {tL : TypeId} {A : Option Addr} {l : List Mr} (hc : Cells w pb cs tL) (hpo : cs[po]? = some (.slice A l.length c)) (htL : tL ≠ 123) (ho : w.ownsRow B 123 4 (.slice A l.length c) l.length (l.flatMap mrCells)) (hr : Rise l) (hlen : l.length ≤ 999999980)
    (r : Mr) (hh : hasI l r.id = true) : Calls Tryz.prog 42 #[.pointer (some ⟨pb, po, none⟩), .int .i64 r.id, .agg #[.slice r.A r.b.length r.c, .bool r.fo, .bool r.si]] w (SetPost B pb po cs tL A (l.set (atI l r.id) r) w) := by
  obtain ⟨hk, hid, hlk⟩ := (hr.at_ r.id).look hr hh
  clear hlk
  have ht : Tb w pb po A c l := ⟨(hc.cell po).trans hpo, (RowC.own mrCells_length (by decide) ho).2, hr, by omega⟩
  have HF := find_at (ht.below ((Below.refl _ w).alloc (Nat.le_refl _) (.cells #[.slice r.A r.b.length r.c, .bool r.fo, .bool r.si] 71))) r.id
  rw [hh] at HF
  have hid0 : ∀ k (h : k < l.length), k = atI l r.id → l[k].id = r.id := fun k h e => by subst e; exact hid
  obtain ⟨m, hm⟩ : ∃ m, atI l r.id = m := ⟨_, rfl⟩
  have hk2 : m < l.length := hm ▸ hk
  have hid2 := hid0 m hk2 hm.symm
  clear hid hk hid0
  rw [hm] at HF ⊢
  have HC := Lib.hid hc
  have HO := Lib.hid ho
  have HPO := Lib.hid hpo
  have i1 : (0 : Int) ≤ (m : Int) := by omega
  have i2 : (m : Int) < (l.length : Int) := by omega
  have HS := Lib.hid (fun (W : World) (hb : Below w.heap.size w W) => row_store (own_below ho hb) m hk2 r hid2)
  clear hc hpo ho ht hm hh hr
  go_enter Tryz.func42, Tryz.ntmps42
  go_wp2_with (go_at_call 65; go_loud (refine HF.mono ?_; rintro e w2 ⟨rfl, hb⟩; have HB := Lib.hid (((Below.refl _ w).alloc (Nat.le_refl _) _).trans (hb.mono (by simp))); have b0 := Cells.new w #[.slice r.A r.b.length r.c, .bool r.fo, .bool r.si] 71; replace b0 := b0.ch (chb hb) (fun h => h); obtain ⟨⟨b1, b2, b3⟩, f1, f2, f3⟩ := three b0; have HZ := Lib.hid b0; have k0 : w2.cell? ⟨pb, po, none⟩ = some (.slice A l.length c) := (HC.out.ch (chb HB.out) (fun h => h)).cell po |>.trans HPO.out; clear hb b0))
  obtain ⟨g, rfl, hg1, hg2, hgf, hgc, hgo⟩ := HS.out w2 HB.out
  have q1 := hgf (m * 4 + 1)
  have q2 := hgf (m * 4 + 1 + 1)
  have q3 := hgf (m * 4 + 1 + 2)
  have s1 := hgc 1 _ rfl
  have s2 : w2.cell? ⟨g, m * 4 + 1 + 1, none⟩ = some (.bool l[m].fo) := hgc 2 _ rfl
  have s3 : w2.cell? ⟨g, m * 4 + 1 + 2, none⟩ = some (.bool l[m].si) := hgc 3 _ rfl
  have HGO := Lib.hid hgo
  have HG1 := Lib.hid hg1
  have HG2 := Lib.hid hg2
  clear hgf hgc hgo hg1 hg2
  go_region
  have hlen2 : (l.set m r).length = l.length := List.length_set
  have hch : Ch (fun k => k = pb ∨ (Value.slice (some ⟨g, 0, none⟩) 0 0).ownBlock = some k) w (((w2.setCell ⟨g, m * 4 + 1, none⟩ (.slice r.A r.b.length r.c)).setCell ⟨g, m * 4 + 1 + 1, none⟩ (.bool r.fo)).setCell ⟨g, m * 4 + 1 + 2, none⟩ (.bool r.si)).drew :=
    (((((chb HB.out).mono (fun k _ h => h.elim)).set (p := ⟨g, m * 4 + 1, none⟩) (.inl (.inr rfl)) _).set (p := ⟨g, m * 4 + 1 + 1, none⟩) (.inl (.inr rfl)) _).set (p := ⟨g, m * 4 + 1 + 2, none⟩) (.inl (.inr rfl)) _).drew
  have hne : pb ≠ g := by
    obtain ⟨d, hd, _⟩ := own_cells HO.out (b := g) rfl
    exact HC.out.ne hd htL
  have hcl : Cells (((w2.setCell ⟨g, m * 4 + 1, none⟩ (.slice r.A r.b.length r.c)).setCell ⟨g, m * 4 + 1 + 1, none⟩ (.bool r.fo)).setCell ⟨g, m * 4 + 1 + 2, none⟩ (.bool r.si)).drew pb cs tL :=
    ((((HC.out.ch (chb HB.out) (fun h => h)).set_other (p := ⟨g, m * 4 + 1, none⟩) hne _).set_other (p := ⟨g, m * 4 + 1 + 1, none⟩) hne _).set_other (p := ⟨g, m * 4 + 1 + 2, none⟩) hne _)
  go_end0
  refine ⟨some ⟨g, 0, none⟩, c, rfl, ?_, ?_, hch, fun k hk => .inl hk⟩
  · rw [hlen2, set_self HPO.out]; exact hcl
  · rw [hlen2]; exact HGO.out
theorem own_cap {w : World} {B n c sz : Nat} {E : TypeId} {A : Option Addr} {xs : List Value} (h : w.ownsRow B E sz (.slice A n c) n xs) : n ≤ c ∧ c ≤ maxLen := by
  rcases h.2 with ⟨hv, h0⟩ | ⟨g, cap, cur, hv, _, _, h1, h2, _⟩
  · injection hv with _ _ h3
    exact ⟨by omega, by rw [h3]; decide⟩
  · injection hv with _ _ h3
    exact ⟨by omega, by omega⟩
set_option maxRecDepth 20000 in
set_option maxHeartbeats 2000000 in
theorem set_new {w : World} {pb po c B : Nat} {cs : Array Value} {tL : TypeId} {A : Option Addr} {l : List Mr} (hc : Cells w pb cs tL) (hpo : cs[po]? = some (.slice A l.length c)) (htL : tL ≠ 123) (hB : B ≤ w.heap.size) (ho : w.ownsRow B 123 4 (.slice A l.length c) l.length (l.flatMap mrCells)) (hr : Rise l) (hlen : l.length ≤ 999999980)
    (r : Mr) (hh : hasI l r.id = false) (hat : atI l r.id = l.length) : Calls Tryz.prog 42 #[.pointer (some ⟨pb, po, none⟩), .int .i64 r.id, .agg #[.slice r.A r.b.length r.c, .bool r.fo, .bool r.si]] w (SetPost B pb po cs tL A (l ++ [r]) w) := by
  have ht : Tb w pb po A c l := ⟨(hc.cell po).trans hpo, (RowC.own mrCells_length (by decide) ho).2, hr, by omega⟩
  have HF := find_at (ht.below ((Below.refl _ w).alloc (Nat.le_refl _) (.cells #[.slice r.A r.b.length r.c, .bool r.fo, .bool r.si] 71))) r.id
  rw [hh, hat] at HF
  obtain ⟨hcap, hcm⟩ := own_cap ho
  have HC := Lib.hid hc
  have HO := Lib.hid ho
  have HPO := Lib.hid hpo
  obtain ⟨n, hn⟩ : ∃ n, l.length = n := ⟨_, rfl⟩
  have HN := Lib.hid hn.symm
  rw [hn] at HF HO HPO hcap
  have HIN := Lib.hid (fun (W : World) (hb : Below w.heap.size w W) (V : Nat) (hv : W.heap[V]? = some (.cells (mrCells (r0 r.id)).toArray 123 (0, 0))) => insert_end l r.id n HN.out (by omega) A c hcap hcm B V W (Nat.le_trans hB hb.size) (own_below HO.out hb) hv)
  have i1 : (0 : Int) ≤ (n : Int) := by omega
  have i2 : (n : Int) < (n : Int) + 1 := by omega
  clear hc hpo ho ht hh hat hr hn
  go_enter Tryz.func42, Tryz.ntmps42
  go_wp2_with (first
    | (go_at_call 65; go_loud (refine HF.mono ?_; rintro e w2 ⟨rfl, hb⟩; have HB := Lib.hid (((Below.refl _ w).alloc (Nat.le_refl _) _).trans (hb.mono (by simp))); have HZ := Lib.hid ((Cells.new w #[.slice r.A r.b.length r.c, .bool r.fo, .bool r.si] 71).ch (chb hb) (fun h => h)); have k0 : w2.cell? ⟨pb, po, none⟩ = some (.slice A n c) := (HC.out.ch (chb HB.out) (fun h => h)).cell po |>.trans HPO.out; have k1 := (HC.out.ch (chb HB.out) (fun h => h)).lt; clear hb))
    | (go_at_call 74; go_loud (refine (HIN.out _ (HB.out.alloc HB.out.size _) w2.heap.size (heap_alloc_new w2 _)).mono ?_; rintro e w3 ⟨A4, c4, rfl, ho4, hg4, hob4⟩; have HOB4 := Lib.hid hob4; have HO4 := Lib.hid ho4; have HG4 := Lib.hid hg4; have hc3 := ml_away (own_below HO.out (HB.out.alloc HB.out.size _)) hg4 (HC.out.ch (chb (HB.out.alloc HB.out.size _)) (fun h => h)) htL; have HC3 := Lib.hid hc3; have HZ3 := Lib.hid (ml_away (own_below HO.out (HB.out.alloc HB.out.size _)) hg4 (HZ.out.alloc _) (by decide)); have m0 : w3.cell? ⟨pb, po, none⟩ = some (.slice A n c) := (hc3.cell po).trans HPO.out; have m1 := hc3.frozen po; clear ho4 hg4 hc3 hob4)))
  obtain ⟨w5, hw5⟩ : ∃ w5, w3.setCell ⟨pb, po, none⟩ (.slice A4 (n + 1) c4) = w5 := ⟨_, rfl⟩
  have hpb := HC.out.lt
  have hch5 : Ch (· = pb) w3 w5 := by rw [← hw5]; exact (Ch.refl (· = pb) w3).set (p := ⟨pb, po, none⟩) (.inl rfl) _
  have hc5 : Cells w5 pb (cs.setIfInBounds po (.slice A4 (n + 1) c4)) tL := by rw [← hw5]; exact HC3.out.set po _
  have hlt4 : ∀ k, (Value.slice A4 (n + 1) c4).ownBlock = some k → pb ≠ k := fun k hk => by
    obtain ⟨d, hd, _⟩ := own_cells HO4.out hk
    exact HC3.out.ne hd htL
  have ho5 : w5.ownsRow B 123 4 (.slice A4 (n + 1) c4) (n + 1) ((l ++ [r0 r.id]).flatMap mrCells) := own_ch HO4.out hch5 (fun k hk e => hlt4 k hk e.symm)
  have hz5 : Cells w5 w.heap.size #[.slice r.A r.b.length r.c, .bool r.fo, .bool r.si] 71 := HZ3.out.ch hch5 (fun e => by omega)
  have hpos : po < cs.size := (Array.getElem?_eq_some_iff.1 HPO.out).1
  have k5 : w5.cell? ⟨pb, po, none⟩ = some (.slice A4 (n + 1) c4) := (hc5.cell po).trans (by rw [Array.getElem?_setIfInBounds, if_pos rfl, if_pos hpos])
  obtain ⟨⟨b1, b2, b3⟩, f1, f2, f3⟩ := three hz5
  have hnl : n < (l ++ [r0 r.id]).length := by rw [List.length_append, ← HN.out]; simp
  have hge : (l ++ [r0 r.id])[n] = r0 r.id := by
    have hN := HN.out
    subst hN
    exact List.getElem_concat_length rfl _
  obtain ⟨g, rfl, hg1, hg2, hgf, hgc, hgo⟩ := row_store ho5 n hnl r (by rw [hge]; rfl)
  rw [hge] at hgc
  have q1 := hgf (n * 4 + 1)
  have q2 := hgf (n * 4 + 1 + 1)
  have q3 := hgf (n * 4 + 1 + 2)
  have s1 : w5.cell? ⟨g, n * 4 + 1, none⟩ = some (.slice none 0 0) := hgc 1 _ rfl
  have s2 : w5.cell? ⟨g, n * 4 + 1 + 1, none⟩ = some (.bool false) := hgc 2 _ rfl
  have s3 : w5.cell? ⟨g, n * 4 + 1 + 2, none⟩ = some (.bool false) := hgc 3 _ rfl
  have HGO := Lib.hid hgo
  have HC5 := Lib.hid hc5
  have HCH5 := Lib.hid hch5
  have HLT := Lib.hid (hlt4 g rfl)
  rw [hw5]
  clear hgf hgc hgo hg1 hg2 hge hnl hc5 hch5 hlt4 ho5 hz5 hw5 m0 m1 k0 k1 hpb
  go_region
  have hall : Ch (fun k => k = pb ∨ (Value.slice A 0 0).ownBlock = some k) w w3 := ((chb (HB.out.alloc HB.out.size (.cells (mrCells (r0 r.id)).toArray 123))).mono (fun k _ h => h.elim)).grown HG4.out (fun k e => by
    have e' : (Value.slice A 0 0).ownBlock = some k := by cases A <;> exact e
    exact .inl (.inr e'))
  have hset : (l ++ [r0 r.id]).set n r = l ++ [r] := by
    have hN := HN.out
    subst hN
    rw [List.set_append_right _ _ (Nat.le_refl _), Nat.sub_self]; rfl
  have hlen3 : (l ++ [r]).length = n + 1 := by rw [List.length_append, ← HN.out]; rfl
  go_end0
  have hg : (Value.slice A 0 0).ownBlock = some g ∨ w.heap.size ≤ g := by
    rcases HOB4.out with h1 | h1
    · left
      have h2 : (Value.slice A n c).ownBlock = some g := h1.symm
      cases A <;> exact h2
    · right
      have h2 : g = (w2.alloc (.cells (mrCells (r0 r.id)).toArray 123)).heap.size := by
        have h3 : some g = some _ := h1
        injection h3
      rw [h2, World.size_alloc]
      have := HB.out.size
      omega
  refine ⟨some ⟨g, 0, none⟩, c4, rfl, ?_, ?_, ?_, fun k hk => by injection hk with hk; subst hk; exact hg⟩
  · rw [hlen3]
    exact (((HC5.out.set_other (p := ⟨g, n * 4 + 1, none⟩) HLT.out _).set_other (p := ⟨g, n * 4 + 1 + 1, none⟩) HLT.out _).set_other (p := ⟨g, n * 4 + 1 + 2, none⟩) HLT.out _)
  · rw [hlen3, ← hset]; exact HGO.out
  · have hgs : (k : Nat) → k = g → (k = pb ∨ (Value.slice A 0 0).ownBlock = some k) ∨ w.heap.size ≤ k := fun k e => by subst e; exact hg.elim (fun h => .inl (.inr h)) .inr
    exact (((((hall.then_ HCH5.out (fun i _ e => .inl e)).set (p := ⟨g, n * 4 + 1, none⟩) (hgs g rfl) _).set (p := ⟨g, n * 4 + 1 + 1, none⟩) (hgs g rfl) _).set (p := ⟨g, n * 4 + 1 + 2, none⟩) (hgs g rfl) _)).drew
end Go.Proofs.YtnkhgajghfonhaaGreatDoor
