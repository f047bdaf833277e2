/- metalog: a file system while loops' records turn; whether there is a name; removals. -/
import Derived.Test.YtnkhgajghfonhaaGreatDoorMlF
namespace Go.Proofs.YtnkhgajghfonhaaGreatDoor
attribute [local go_sem] Oper.semAt_some
open Go Go.ChangeShapes Go.WideShapes Go.ChangeAt Go.RowKit Go.ChangeMaps Go.MapKept
set_option linter.unusedVariables false

theorem bookish_cells {w : World} {k : Nat} {o : Obj} {c : Array Value} {t : TypeId} (h : w.heap[k]? = some o) (hb : bookish o) (hc : Cells w k c t) : False := by
  have e := Option.some.inj (h.symm.trans hc)
  subst e
  exact hb
theorem bookish_map {w : World} {k : Nat} {o : Obj} {l : List (Nm × Nat)} (h : w.heap[k]? = some o) (hb : bookish o) (hm : MapAt w k l) : False := by
  obtain ⟨es, clock, hc, r⟩ := hm
  have e := Option.some.inj (h.symm.trans hc)
  subst e
  exact hb
theorem RepL.off_books {Kp : Nat → Prop} {B f : Nat} {L : Lay} {s : Fs} {w : World} {S : Nat → Prop} (h : RepL Kp B f L s w) (hS : ∀ k, S k → ∃ o, w.heap[k]? = some o ∧ bookish o) : Off Kp S B f L s w :=
  { top := fun hs => by obtain ⟨o, h1, h2⟩ := hS _ hs; exact bookish_map h1 h2 h.top
    dir := fun n hn => ⟨fun hs => by obtain ⟨o, h1, h2⟩ := hS _ hs; exact bookish_cells h1 h2 (h.dir n hn),
      fun hs => by obtain ⟨o, h1, h2⟩ := hS _ hs; exact bookish_map h1 h2 (h.base n hn),
      fun hs => by obtain ⟨o, h1, h2⟩ := hS _ hs; exact bookish_map h1 h2 (h.now n hn),
      fun k hk hs => by obtain ⟨o, h1, h2⟩ := hS _ hs; obtain ⟨d, hd, _⟩ := (h.pend n hn).row hk; exact bookish_cells h1 h2 hd⟩
    file := fun x b sf hx => ⟨fun hs => by obtain ⟨o, h1, h2⟩ := hS _ hs; exact bookish_cells h1 h2 (h.file x b sf hx).cells,
      fun k hk hs => by obtain ⟨o, h1, h2⟩ := hS _ hs; obtain ⟨d, hd, _⟩ := (h.file x b sf hx).blk hk; exact bookish_cells h1 h2 hd⟩
    str := fun k hs _ c hc => by obtain ⟨o, h1, h2⟩ := hS _ hs; exact bookish_cells h1 h2 hc
    ptr := fun k hs _ c hc => by obtain ⟨o, h1, h2⟩ := hS _ hs; exact bookish_cells h1 h2 hc }
theorem ch_of_grown {w w' : World} {row : Option Nat} (h : w.grownBy w' row) : Ch (fun k => row = some k) w w' := ⟨h.os, h.tape, h.output, h.size, fun k hk hn => h.block k hk (fun e => hn e.symm)⟩
/-- A file system lies on while memory grows and records of loops turn; new blocks may be kept from now on. -/
theorem Rep.books {Kp Kq : Nat → Prop} {B f : Nat} {s : Fs} {U V : World} {row : Option Nat} (h : Rep Kp B f s U) (hg : U.grownBy V row) (hr : ∀ r, row = some r → ∃ o, U.heap[r]? = some o ∧ bookish o)
    (hq : ∀ i, Kq i → Kp i ∨ (U.heap.size ≤ i ∧ i < V.heap.size)) : Rep Kq B f s V := by
  cases row with
  | none => exact h.more (ch_grown hg) hq
  | some r =>
    obtain ⟨o, ho, hbo⟩ := hr r rfl
    have hlt : r < U.heap.size := (Array.getElem?_eq_some_iff.1 ho).1
    have hlt2 : r < V.heap.size := Nat.lt_of_lt_of_le hlt hg.size
    have hV : (V.putObj r o).heap.size = V.heap.size := by simp [World.putObj]
    have hat : (V.putObj r o).heap[r]? = some o := World.putObj_heap_same hlt2
    have k1 : Ch (fun _ => False) U (V.putObj r o) := ⟨hg.os, hg.tape, hg.output, by rw [hV]; exact hg.size, fun k hk _ => by
      by_cases e : k = r
      · subst e; rw [hat, ho]
      · exact (World.putObj_heap_other e).trans (hg.block k hk (fun e2 => e (by injection e2)))⟩
    obtain ⟨L, hL⟩ := h.more k1 (Kq := Kq) (fun i hi => by rw [hV]; exact hq i hi)
    have k2 : Ch (fun k => k = r) (V.putObj r o) V := ⟨rfl, rfl, rfl, by rw [hV]; exact Nat.le_refl _, fun k _ hn => (World.putObj_heap_other hn).symm⟩
    have hoff := hL.off_books (S := fun k => k = r) (fun k e => ⟨o, by rw [e]; exact hat, hbo⟩)
    exact ⟨L, hL.turned k2 hoff (hL.fs.ch k2 (fun e => bookish_cells hat hbo (e ▸ hL.fs)))⟩
section
variable {B l p1 p2 p3 q : Nat} {S : Nat → Prop} {rs : List Mr} {fs : List Int} {rA fA : Option Addr} {rc fc : Nat} {N : Int} {w : World}
theorem leave_seqD (n : Nat) (hn : 4 ≤ n) (D : Nat) (hrl : rs.length ≤ 1000000000) (hfl : fs.length ≤ 1000000000) (hin : ∀ r ∈ rs, in64 r.id) (hfn : ∀ i ∈ fs, in64 i) (h : LvAt B l p1 p2 p3 q S rs fs rA rc fA fc N w) (hD : w.heap.size = D) :
    SeqAt Fence.wide n Tryz.prog 66 #[.pointer (some ⟨p1, 0, none⟩), .pointer (some ⟨p2, 0, none⟩), .pointer (some ⟨p3, 0, none⟩)] (fun x : Nm => #[.string (txt x)])
      (fun pre x U => (∃ post, lvN (leI N) (neI N) rs fs = pre ++ x :: post) ∧ D + 4 ≤ U.heap.size) (Kept fun k => S k ∨ (D ≤ k ∧ k < D + 4)) (fun xs => xs = lvN (leI N) (neI N) rs fs) w := by
  subst hD
  exact leave_seq n hn B l p1 p2 p3 q S rs fs hrl hfl hin hfn rA rc fA fc N w h
theorem none_below {S : Nat → Prop} {a : Nat} {U V : World} (h : Kept S U V) (ha : a ≤ U.heap.size) (hS : ∀ k, k < a → S k := by intro k hk; first | exact hk | trivial) : Below a U V :=
  ⟨h.os, h.tape, h.output, h.size, fun k hk => h.block k (Nat.lt_of_lt_of_le hk ha) (fun hn => hn (hS k hk))⟩
theorem below_put {a q : Nat} {V : World} (hq : a ≤ q) (o : Obj) : Below a V (V.putObj q o) := ⟨rfl, rfl, rfl, by simp [World.putObj], fun k hk => World.putObj_heap_other (by omega)⟩
set_option maxRecDepth 100000 in
set_option maxHeartbeats 2000000 in
theorem none_any (hrl : rs.length ≤ 1000000000) (hfl : fs.length ≤ 1000000000) (hin : ∀ r ∈ rs, in64 r.id) (hfn : ∀ i ∈ fs, in64 i) (h : LvAt B l p1 p2 p3 q S rs fs rA rc fA fc N w) :
    Calls Tryz.prog 33 #[.func (.func 66) #[] #[.pointer (some ⟨p1, 0, none⟩), .pointer (some ⟨p2, 0, none⟩), .pointer (some ⟨p3, 0, none⟩)]] w fun e w' =>
      e = .returned (.bool (lvN (leI N) (neI N) rs fs).isEmpty) ∧ Below w.heap.size w w' := by
  refine (callsIn_wide (n := 8)).1 ?_
  have HH := Lib.hid h
  have HSL := Lib.hid h.lt
  clear h
  refine callsIn_of_wp_marks Tryz.func33 rfl trivial ?_ rfl
  simp only [Tryz.ntmps33, List.size_toArray, List.length_cons, List.length_nil, Nat.reduceAdd, Nat.reduceSub, Array.replicate_succ, Array.replicate_zero, List.push_toArray, List.append_toArray, List.nil_append, List.cons_append]
  gi_wp2
  obtain ⟨W0, hW0⟩ : ∃ W0, w.alloc (.cells #[.bool false] 4) = W0 := ⟨_, rfl⟩
  have hsz : W0.heap.size = w.heap.size + 1 := by rw [← hW0]; simp
  have hb0 : Below w.heap.size w W0 := by rw [← hW0]; exact (Below.refl _ w).alloc (Nat.le_refl _) _
  have hcl : Cells W0 w.heap.size #[.bool false] 4 := by rw [← hW0]; exact Cells.new w _ _
  rw [hW0]
  have HB0 := Lib.hid hb0
  have HCL := Lib.hid hcl
  clear hW0 hb0 hcl
  refine range_nest rfl (by omega) (gf := 66) (lb := #[.pointer (some ⟨p1, 0, none⟩), .pointer (some ⟨p2, 0, none⟩), .pointer (some ⟨p3, 0, none⟩)]) rfl trivial (enters_of Tryz.func66 (by kernel_rfl) rfl)
    (fun W1 hg hs1 => leave_seqD _ (by omega) (w.heap.size + 3) hrl hfl hin hfn (HH.out.kept (Kept.trans (Kept.grown (grown_of_below HB0.out)) (Kept.grown hg))) (by omega)) (fun _ => rfl)
    Kept.trans (fun hg => Kept.grown hg) (fun U o => (ch_put U _ o).mono fun k _ e hk => hk.elim (fun h => by have := HSL.out k h; omega) (fun h => by omega))
    (fun pre U => pre = [] ∧ Kept (fun _ => True) W0 U) (fun c pre U => c = .ret ∧ (lvN (leI N) (neI N) rs fs).isEmpty = false ∧ Kept (fun k => k < w.heap.size) W0 U ∧ U.cell? ⟨w.heap.size, 0, none⟩ = some (.bool false))
    ((LoopOwn.pure_ _).and (LoopOwn.kept (by omega))) (fun c _ U V row h1 hg hr => ⟨h1.1, h1.2.1, LoopOwn.kept (β := Unit) (Nat.le_refl W0.heap.size) () U V row h1.2.2.1 hg hr, (World.cell?_of_block (a := ⟨w.heap.size, 0, none⟩) (hg.block _ (by have := World.block_lt_of_cell? _ _ h1.2.2.2; exact this) (fun e => by have h9 : w.heap.size + 1 ≤ w.heap.size := hsz ▸ (hr w.heap.size e.symm).1; omega))).trans h1.2.2.2⟩)
    (fun pre => (LoopOwn.pure_ (fun _ => _)).and LoopOwn.size_) ?start (fun _ U => U) (fun x U => grown_of_below (Below.refl _ U)) (fun _ _ _ => True) (fun _ _ _ _ _ => trivial) ?a1 ?assign ?body ?done ?stop
  case start =>
    intro W1 hg hs1
    exact ⟨rfl, Kept.grown hg⟩
  case assign =>
    intro l0 x U K hK
    gi_wp2
    exact hK
  case body =>
    rintro l0 pre x U V ⟨rfl, hk⟩ ⟨⟨post, hpre⟩, hVs⟩ _
    have HE := Lib.hid (show (lvN (leI N) (neI N) rs fs).isEmpty = false by rw [hpre]; rfl)
    have hc := hk.cells trivial HCL.out
    have c0 : V.cell? ⟨w.heap.size, 0, none⟩ = some (.bool false) := hc.cell 0
    have f0 := hc.frozen 0
    have HC := Lib.hid hc
    have HK := Lib.hid hk
    clear hc hk hpre
    gi_wp2
    have hch : Ch (· = w.heap.size) V (V.setCell ⟨w.heap.size, 0, none⟩ (.bool false)) := (Ch.refl (· = w.heap.size) V).set (p := ⟨w.heap.size, 0, none⟩) (.inl rfl) _
    have hlt := HC.out.lt
    have hin1 : ∀ k, k ≠ w.heap.size → k < V.heap.size → (V.setCell ⟨w.heap.size, 0, none⟩ (.bool false)).heap[k]? = V.heap[k]? := fun k hk hl => hch.block k hl hk
    refine ⟨⟨hin1 _ (by omega) (by omega), hin1 _ (by omega) (by omega)⟩, hch.mono fun k _ e hk => ?_, rfl, HE.out, (HK.out.mono (fun k _ h => absurd trivial h)).trans (hch.mono fun k _ e hk => by omega), (HC.out.set 0 (.bool false)).cell 0⟩
    subst e
    exact hk.elim (fun h => by have := HSL.out _ h; omega) (fun h => by omega)
  case done =>
    rintro xs V rfl ⟨hp, hk⟩ hK
    have HE := Lib.hid (show (lvN (leI N) (neI N) rs fs).isEmpty = true by rw [hp]; rfl)
    have hc := hk.cells trivial HCL.out
    have c0 : V.cell? ⟨w.heap.size, 0, none⟩ = some (.bool false) := hc.cell 0
    have f0 := hc.frozen 0
    have HK := Lib.hid hK
    have HKP := Lib.hid hk
    have HC := Lib.hid hc
    rw [hsz] at HK ⊢
    clear hp hk hc hK hsz
    gi_wp2
    have hlt := HC.out.lt
    have hD : (V.setCell ⟨w.heap.size, 0, none⟩ (.bool true)).heap[w.heap.size + 1]? = some (.deferred (some [])) := (((Ch.refl (· = w.heap.size) V).set (p := ⟨w.heap.size, 0, none⟩) (.inl rfl) (.bool true)).block (w.heap.size + 1) (Array.getElem?_eq_some_iff.1 HK.out).1 (fun e => by have e' : w.heap.size + 1 = w.heap.size := e; omega)).trans HK.out
    refine ⟨by simp, .inl ⟨_, _, rfl, run_takeDeferred hD, ?_⟩⟩
    have r2 : ((V.setCell ⟨w.heap.size, 0, none⟩ (.bool true)).putObj (w.heap.size + 1) (.deferred none)).cell? ⟨w.heap.size, 0, none⟩ = some (.bool true) := (World.cell?_of_block (a := ⟨w.heap.size, 0, none⟩) (World.putObj_heap_other (by show w.heap.size ≠ _; omega))).trans ((HC.out.set 0 (.bool true)).cell 0)
    refine ⟨.bool true, by simp [results, Tryz.results33, go_sem, r2], by rw [HE.out], ?_⟩
    exact HB0.out.trans ((none_below HKP.out (by have := HB0.out.size; omega)).trans (((Below.refl w.heap.size V).setCell (p := ⟨w.heap.size, 0, none⟩) (Nat.le_refl _) _).trans (below_put (a := w.heap.size) (q := w.heap.size + 1) (by omega) _)))
  case stop =>
    rintro c pre V ⟨rfl, hE, hk, hc⟩ hK
    have HE := Lib.hid hE
    have HK := Lib.hid hK
    have HKP := Lib.hid hk
    have HC := Lib.hid hc
    rw [hsz] at HK ⊢
    clear hE hk hc hK
    gi_wp2
    refine ⟨by simp, .inl ⟨_, _, rfl, run_takeDeferred HK.out, ?_⟩⟩
    have r2 : (V.putObj (w.heap.size + 1) (.deferred none)).cell? ⟨w.heap.size, 0, none⟩ = some (.bool false) := (World.cell?_of_block (a := ⟨w.heap.size, 0, none⟩) (World.putObj_heap_other (by show w.heap.size ≠ _; omega))).trans HC.out
    refine ⟨.bool false, by simp [results, Tryz.results33, go_sem, r2], by rw [HE.out], ?_⟩
    exact HB0.out.trans ((none_below HKP.out (by have := HB0.out.size; omega)).trans (below_put (a := w.heap.size) (q := w.heap.size + 1) (by omega) _))
end
end Go.Proofs.YtnkhgajghfonhaaGreatDoor
