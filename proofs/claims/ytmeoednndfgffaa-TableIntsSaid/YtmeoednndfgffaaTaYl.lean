/- Layer 17: the laws' boxes; a range over an iterator beside them. -/
import Derived.Test.YtmeoednndfgffaaTaY1
namespace Go.Proofs.Ytmeoednndfgffaa
attribute [local go_sem] Oper.semAt_some
open Go Go.ChangeShapes Go.WideShapes Go.ChangeAt Go.RowKit
set_option linter.unusedVariables false
set_option linter.unusedSimpArgs false
section
variable {TabS : Blks → Blks → World → Value → List Kp → Prop}
abbrev bxR (w : World) : Bx := (w.heap.size, .cells #[.bool false] 4)
abbrev bxM (q : Nat) (A : Option Addr) (n c : Nat) : Bx := (q, .cells #[.slice A n c] 27)
abbrev bxO (q : Nat) (x : Oq) : Bx := (q, .cells #[.int .i64 x.d, .string x.k, .string x.v] 29)
abbrev bxN (q : Nat) (j : Int) : Bx := (q, .cells #[.int .i64 j] 3)
theorem plays_start (HT : TabC TabS) {w w3 w4 : World} {D R : Blks} {v : Value} (ht : TabS D R w4 v []) (hf : ∀ k, R k → w3.heap.size ≤ k) (hb3 : Below w.heap.size w w3) (hb : Below w.heap.size w w4) (hr : w4.heap[w.heap.size]? = some (.cells #[.bool false] 4)) (hs : w.heap.size < w3.heap.size) :
    Pl TabS w [bxM w4.heap.size none 0 0, bxR w] v [] [] none 0 0 (w4.alloc (.cells #[.slice none 0 0] 27)) := by
  have h4 : Pl TabS w [bxR w] v [] [] none 0 0 w4 := by
    refine ⟨⟨D, R, ht, fun k hk => ⟨Nat.le_trans hb3.size (hf k hk), fun p hp e => ?_⟩, fun a h => (by cases h)⟩, (by simp), fun p hp => ?_, fun p hp a h => (by cases h), World.ownsRow_nil _ _ _ 2, hb⟩
    · rw [List.mem_singleton.1 hp] at e
      have h1 := hf k hk
      have h2 : w.heap.size = k := e
      omega
    · rw [List.mem_singleton.1 hp]
      exact ⟨Nat.le_refl _, hr⟩
  exact h4.new HT ((Below.refl _ _).alloc (Nat.le_refl _) _) (Nat.le_refl _) (World.alloc_heap_new w4 _)
theorem plays_nodup {b1 b2 : Bx} {rs : List Nat} (h : ((b1 :: b2 :: rs.map mkB).map Prod.fst).Nodup) : rs.Nodup := by
  have h2 := (List.nodup_cons.1 (List.nodup_cons.1 h).2).2
  simpa [mkB, Function.comp_def] using h2
theorem plays_ne {w : World} {b1 : Bx} {rs : List Nat} (h : ((b1 :: bxR w :: rs.map mkB).map Prod.fst).Nodup) {r : Nat} (hr : r ∈ rs) : r ≠ w.heap.size := by
  have h2 := (List.nodup_cons.1 (List.nodup_cons.1 h).2).1
  intro e
  refine h2 ?_
  have h3 : (bxR w).1 = r := e.symm
  rw [h3]
  exact List.mem_map.2 ⟨mkB r, List.mem_map.2 ⟨r, hr, rfl⟩, rfl⟩
theorem plays_mk {b1 b2 : Bx} {rs : List Nat} {r : Nat} (hr : r ∈ rs) : mkB r ∈ b1 :: b2 :: rs.map mkB := .tail _ (.tail _ (List.mem_map.2 ⟨r, hr, rfl⟩))
theorem plays_ways (d : Int) : d = 0 ∨ d = 1 ∨ d = 3 ∨ d = 4 ∨ d = 5 ∨ (¬ d = 0 ∧ ¬ d = 1 ∧ ¬ d = 3 ∧ ¬ d = 4 ∧ ¬ d = 5) := by omega
theorem Pl.cells {w U : World} {bo bm : Nat} {x : Oq} {B : Option Addr} {n2 c2 : Nat} {bs : List Bx} {v : Value} {l m : List Kp} {A : Option Addr} {n c : Nat} (h : Pl TabS w (bxO bo x :: bxM bm B n2 c2 :: bs) v l m A n c U) :
    U.cell? ⟨bo, 0, none⟩ = some (.int .i64 x.d) ∧ U.cell? ⟨bo, 1, none⟩ = some (.string x.k) ∧ U.cell? ⟨bo, 2, none⟩ = some (.string x.v) ∧ U.cell? ⟨bm, 0, none⟩ = some (.slice B n2 c2) ∧ U.frozen? ⟨bm, 0, none⟩ = false ∧ bm < U.heap.size ∧ bo < U.heap.size := by
  have h1 := (h.at_ (bxO bo x) (by simp)).2
  have h2 := (h.at_ (bxM bm B n2 c2) (by simp)).2
  simp only [bxO, bxM] at h1 h2
  exact ⟨by simp [World.cell?, h1], by simp [World.cell?, h1], by simp [World.cell?, h1], by simp [World.cell?, h2], by simp [World.frozen?, h2], lt_of_heap h2, lt_of_heap h1⟩
theorem heap_setCell1 {U : World} {q : Nat} {x y : Value} {t : TypeId} (h : U.heap[q]? = some (.cells #[x] t)) : (U.setCell ⟨q, 0, none⟩ y).heap[q]? = some (.cells #[y] t) := by
  have hl := lt_of_heap h
  have h2 : U.heap[q] = .cells #[x] t := by
    rw [Array.getElem?_eq_getElem hl] at h
    exact Option.some.inj h
  have h3 : q < (U.setCell ⟨q, 0, none⟩ y).heap.size := by simpa [World.setCell] using hl
  rw [Array.getElem?_eq_getElem h3]
  simp only [World.setCell, Array.getElem_modify, if_true, h2]
  simp
/-- The law's box of the document's row is written. -/
theorem Pl.store (HT : TabK TabS) {w U : World} {bo bm : Nat} {x : Oq} {B : Option Addr} {n2 c2 : Nat} {bs : List Bx} {v : Value} {l m : List Kp} {A : Option Addr} {n c : Nat} (h : Pl TabS w (bxO bo x :: bxM bm B n2 c2 :: bs) v l m A n c U) :
    Pl TabS w (bxO bo x :: bxM bm A n c :: bs) v l m A n c (U.setCell ⟨bm, 0, none⟩ (.slice A n c)) :=
  ((h.perm (List.Perm.swap _ _ _)).ch HT (show Ch (fun k => k = bm) U (U.setCell ⟨bm, 0, none⟩ (.slice A n c)) from Ch.set (S := fun k => k = bm) (Ch.refl _ U) (p := ⟨bm, 0, none⟩) (.inl rfl) _) (heap_setCell1 (h.at_ (bxM bm B n2 c2) (by simp)).2)).perm (List.Perm.swap _ _ _)
/-- One block that is written, and a new one. -/
theorem Pl.ranged (HT : TabK TabS) {w U V : World} {bs : List Bx} {v : Value} {l m : List Kp} {A : Option Addr} {n c : Nat} {q d : Nat} {o o' od : Obj} (h : Pl TabS w ((q, o) :: bs) v l m A n c U) (hc : Ch (fun k => k = q) U V) (ho : V.heap[q]? = some o') (hd : U.heap.size ≤ d) (hod : V.heap[d]? = some od) : Pl TabS w ((d, od) :: (q, o') :: bs) v l m A n c V := by
  have h1 := h.ch HT hc ho
  obtain ⟨D, R, ht, hf, hof⟩ := h.ex
  have hR := HT.lt ht
  have hf1 : ∀ k, R k → ∀ p ∈ (q, o') :: bs, p.1 ≠ k := fun k hk p hp => by
    rcases List.mem_cons.1 hp with rfl | hp
    · exact (hf k hk).2 (q, o) (by simp)
    · exact (hf k hk).2 p (by simp [hp])
  have hlt : ∀ p ∈ (q, o') :: bs, p.1 < U.heap.size := fun p hp => by
    rcases List.mem_cons.1 hp with rfl | hp
    · exact h.lt (p := (q, o)) (by simp)
    · exact h.lt (p := p) (by simp [hp])
  refine ⟨⟨D, R, HT.ch ht hc (fun k hk hr => (hf k hr).2 (q, o) (by simp) hk.symm), fun k hk => ⟨(hf k hk).1, fun p hp => ?_⟩, hof⟩, List.nodup_cons.2 ⟨fun hm => ?_, h1.nd⟩, fun p hp => ?_, fun p hp a ha => ?_, h1.own, h1.bel⟩
  · rcases List.mem_cons.1 hp with rfl | hp
    · have := hR k hk
      exact fun e => by simp only at e; omega
    · exact hf1 k hk p hp
  · obtain ⟨p, hp, e⟩ := List.mem_map.1 hm
    have := hlt p hp
    simp only at e
    omega
  · rcases List.mem_cons.1 hp with rfl | hp
    · exact ⟨Nat.le_trans h.bel.size hd, hod⟩
    · exact h1.at_ p hp
  · rcases List.mem_cons.1 hp with rfl | hp
    · have := offB_lt h.own a ha
      exact fun e => by simp only at e; omega
    · exact h1.off p hp a ha
/-- Between two rounds of the iterator. -/
structure PlI (w9 : World) (bn j : Nat) (pre : List Kp) (U : World) : Prop where
  c : Ch (fun k => k = bn) w9 U
  n : U.heap[bn]? = some (.cells #[.int .i64 ((j + pre.length : Nat) : Int)] 3)
  s : w9.heap.size + 2 ≤ U.heap.size
theorem PlI.own {w9 : World} {bn j : Nat} (hb : bn < w9.heap.size) : LoopOwn w9.heap.size (PlI w9 bn j) := fun pre U V row h hg hr =>
  ⟨h.c.grown hg (fun k e => .inr (hr k e).1), (hg.block _ (lt_of_heap h.n) (fun e => by have := (hr _ e.symm).1; omega)).trans h.n, Nat.le_trans h.s hg.size⟩
theorem PlI.step {w9 V2 : World} {bn j q : Nat} {S : Blks} {pre : List Kp} {x : Kp} (hI : PlI w9 bn j pre V2) (hq : j + pre.length = q) (hS : ¬ S bn) (hD : bn < w9.heap.size) :
    BookKept w9.heap.size V2 (V2.setCell ⟨bn, 0, none⟩ (.int .i64 ((q : Int) + 1))) ∧ Ks S V2 (V2.setCell ⟨bn, 0, none⟩ (.int .i64 ((q : Int) + 1))) ∧ PlI w9 bn j (pre ++ [x]) (V2.setCell ⟨bn, 0, none⟩ (.int .i64 ((q : Int) + 1))) := by
  have hs2 : (V2.setCell ⟨bn, 0, none⟩ (.int .i64 ((q : Int) + 1))).heap.size = V2.heap.size := by simp [World.setCell]
  have hh : ∀ k, k ≠ bn → (V2.setCell ⟨bn, 0, none⟩ (.int .i64 ((q : Int) + 1))).heap[k]? = V2.heap[k]? := fun k hk => Below.heap_setCell _ _ _ _ hk
  refine ⟨BookKept.set hD _, ⟨by omega, fun k hk _ => hh k (fun e => hS (e ▸ hk))⟩, ⟨hI.c.set (.inl rfl) _, ?_, by have := hI.s; omega⟩⟩
  rw [heap_setCell1 hI.n, List.length_append, ← hq]
  simp [Int.natCast_add, Int.add_assoc]
theorem plays_next {m : List Kp} {key : ByteArray} {j : Nat} {pre : List Kp} {x : Kp} (h : fromK m key = m.drop j) (hn : (fromK m key)[pre.length]? = some x) : ∃ hq : j + pre.length < m.length, m[j + pre.length] = x := by
  rw [h, List.getElem?_drop] at hn
  exact List.getElem?_eq_some_iff.1 hn
theorem Pl.cellN {w U : World} {bn : Nat} {j : Int} {bs : List Bx} {v : Value} {l m : List Kp} {A : Option Addr} {n c : Nat} (h : Pl TabS w (bxN bn j :: bs) v l m A n c U) : U.cell? ⟨bn, 0, none⟩ = some (.int .i64 j) ∧ U.frozen? ⟨bn, 0, none⟩ = false ∧ bn < U.heap.size := by
  have h1 := (h.at_ (bxN bn j) (by simp)).2
  simp only [bxN] at h1
  exact ⟨by simp [World.cell?, h1], by simp [World.frozen?, h1], lt_of_heap h1⟩
theorem Pl.storeN (HT : TabK TabS) {w U : World} {bn : Nat} {j : Int} {bs : List Bx} {v : Value} {l m : List Kp} {A : Option Addr} {n c : Nat} (h : Pl TabS w (bxN bn j :: bs) v l m A n c U) (y : Int) : Pl TabS w (bxN bn y :: bs) v l m A n c (U.setCell ⟨bn, 0, none⟩ (.int .i64 y)) :=
  h.ch HT (Ch.set (S := fun k => k = bn) (Ch.refl _ U) (p := ⟨bn, 0, none⟩) (.inl rfl) _) (heap_setCell1 (h.at_ (bxN bn j) (by simp)).2)
theorem Pl.drop1 {w U : World} {b : Bx} {bs : List Bx} {v : Value} {l m : List Kp} {A : Option Addr} {n c : Nat} (h : Pl TabS w (b :: bs) v l m A n c U) : Pl TabS w bs v l m A n c U := h.sub (fun p hp => .tail _ hp) (List.nodup_cons.1 h.nd).2
theorem plays_less {m : List Kp} {key : ByteArray} {j : Nat} {hj : j < m.length} (h : ∀ (i : Nat) (h : i < m.length), i < j → ltK m[i].k key) (h2 : ltK m[j].k key) : ∀ (i : Nat) (h : i < m.length), i < j + 1 → ltK m[i].k key := fun i hi hl => by
  by_cases e : i = j
  · subst e
    exact h2
  · exact h i hi (by omega)
theorem Pl.marked {w U : World} {d bn bo bm br : Bx} {bs : List Bx} {v : Value} {l m : List Kp} {A : Option Addr} {n c : Nat} (h : Pl TabS w (d :: bn :: bo :: bm :: br :: bs) v l m A n c U) : Pl TabS w (bm :: br :: d :: bs) v l m A n c U := by
  have hs : (d :: bm :: br :: bs).Sublist (d :: bn :: bo :: bm :: br :: bs) := .cons_cons d (.cons bn (.cons bo (List.Sublist.refl _)))
  exact (h.sub (fun p hp => hs.subset hp) (h.nd.sublist (hs.map Prod.fst))).perm (List.perm_middle (l₁ := [bm, br]))
end
end Go.Proofs.Ytmeoednndfgffaa
