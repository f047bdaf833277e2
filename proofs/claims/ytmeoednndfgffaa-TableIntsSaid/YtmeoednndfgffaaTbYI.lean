/- Layer 17, walked: the calls of a table of int. -/
import Derived.Test.YtmeoednndfgffaaTbWI
import Derived.Test.YtmeoednndfgffaaTbAI
namespace Go.Proofs.Ytmeoednndfgffaa
attribute [local go_sem] Oper.semAt_some
open Go Go.ChangeShapes Go.WideShapes Go.ChangeAt Go.RowKit
set_option linter.unusedVariables false
set_option linter.unusedSimpArgs false
theorem heap_setI {U : World} {q : Nat} {x y : Value} {t : TypeId} (h : U.heap[q]? = some (.cells #[x] t)) : (U.setCell ⟨q, 0, none⟩ y).heap[q]? = some (.cells #[y] t) := by
  have hl := lt_blk h
  have h2 : U.heap[q] = .cells #[x] t := by rw [Array.getElem?_eq_getElem hl] at h; exact Option.some.inj h
  have h3 : q < (U.setCell ⟨q, 0, none⟩ y).heap.size := by simpa [World.setCell] using hl
  rw [Array.getElem?_eq_getElem h3]
  simp only [World.setCell, Array.getElem_modify, if_true, h2]
  simp
theorem tree_nilI (U : World) : Calls Try.prog 72 #[.pointer none] U fun e V => e = .returned (.pointer none) ∧ U = V := by
  go_enter Try.func72, Try.ntmps72
  go_wp2
  go_ret
  exact ⟨rfl, rfl⟩
theorem tree_atI (t : Nat) (pv : Value) (U : World) (h : U.heap[t]? = some (.cells #[pv] 111)) : Calls Try.prog 72 #[.pointer (some ⟨t, 0, none⟩)] U fun e V => e = .returned pv ∧ U = V := by
  have c0 : U.cell? ⟨t, 0, none⟩ = some pv := by simp [World.cell?, h]
  clear h
  go_enter Try.func72, Try.ntmps72
  go_wp2
  go_ret
  exact ⟨by simp, rfl⟩
/-- What a table stands on: a tree of l. -/
structure TvI (S : Nat → Prop) (w : World) (v : Value) (p : Option Addr) (l : List (KV Int)) : Prop where
  tree : ∀ U, Below w.heap.size w U → Calls Try.prog 72 #[v] U fun e V => e = .returned (.pointer p) ∧ U = V
  at_ : TrI S w (.pointer p) l
  rise : RiseK l
theorem TvI.on {S : Nat → Prop} {w w' : World} {v : Value} {p : Option Addr} {l : List (KV Int)} (h : TvI S w v p l) (hb : Below w.heap.size w w') : TvI S w' v p l :=
  ⟨fun U hU => h.tree U (hb.trans (hU.mono hb.size)), h.at_.on hb, h.rise⟩
theorem tv_nilI (w : World) : TvI (fun _ => False) w (.pointer none) none [] := ⟨fun U _ => tree_nilI U, .nil, .nil⟩
theorem lenI {S : Nat → Prop} {w : World} {v : Value} {p : Option Addr} {l : List (KV Int)} (h : TvI S w v p l) : Calls Try.prog 71 #[v] w fun e w' => e = .returned (.int .i64 ((l.length : Nat) : Int)) ∧ w = w' := by
  have HT := Lib.hid h
  clear h
  go_enter Try.func71, Try.ntmps71
  go_wp2_with (first
    | (go_at_call 72; go_loud (refine (HT.out.tree _ (Below.refl _ _)).mono ?_; rintro en w2 ⟨rfl, rfl⟩))
    | (go_at_call 86; go_loud (refine (countI _ _ _ _ HT.out.at_).mono ?_; rintro en w2 ⟨rfl, rfl⟩)))
  go_ret
  exact ⟨by simp, rfl⟩
/-- All of a tree, told one by one. -/
theorem all_seqI (n : Nat) (S : Nat → Prop) (p : Option Addr) (l : List (KV Int)) (q : Nat) (W : World) (hq : W.heap[q]? = some (.cells #[.pointer p] 109)) (h : TrI S W (.pointer p) l) :
    SeqAt Fence.wide n Try.prog 73 #[.pointer (some ⟨q, 0, none⟩)] encKVI (NextT l) (Ks S) (fun xs => xs.length = l.length) W := by
  intro L J Jx hJ hJx hY h0
  refine callsIn_wide.2 ?_
  have c0 : W.cell? ⟨q, 0, none⟩ = some (.pointer p) := by simp [World.cell?, hq]
  have HWK := Lib.hid (walkI (B := W.heap.size) (L := L) (J := J) (Jx := Jx) (T := S) (M := l) hJ hY l.length l (.pointer p) [] [] W (Nat.le_refl _) h (by simp) h0)
  clear hJ hJx hY h0 hq h
  go_enter Try.func73, Try.ntmps73
  go_wp2_with (go_at_call 74; go_loud (refine HWK.out.mono ?_; rintro en V3 (⟨rfl, hj3, hk3⟩ | ⟨rfl, hj3, hk3⟩); all_goals (have HJ3 := Lib.hid hj3; clear hj3 hk3)))
  · go_end0
    exact ⟨⟨_, rfl⟩, .inl ⟨_, rfl, HJ3.out⟩⟩
  · go_end0
    exact ⟨⟨_, rfl⟩, .inr HJ3.out⟩
theorem allI {S : Nat → Prop} {w : World} {v : Value} {p : Option Addr} {l : List (KV Int)} (h : TvI S w v p l) : Calls Try.prog 59 #[v] w fun e w' => e = .returned (.func (.func 73) #[] #[.pointer (some ⟨w.heap.size, 0, none⟩)]) ∧ w'.heap[w.heap.size]? = some (.cells #[.pointer p] 109) ∧ w'.heap.size = w.heap.size + 1 ∧ Below w.heap.size w w' := by
  have HT := Lib.hid h
  clear h
  have hmf : ∀ (fn : Fn) (first cap : Array Value) (w : World), (Instr.makeFunc fn first cap).run Try.prog w = .ok (.func fn first cap) w := fun _ _ _ _ => rfl
  go_enter Try.func59, Try.ntmps59
  go_wp2_with (go_at_call 72; go_loud (refine (HT.out.tree _ (Below.refl _ _)).mono ?_; rintro en w2 ⟨rfl, rfl⟩))
  go_ret
  exact ⟨by simp, World.alloc_heap_new w _, by simp, (Below.refl _ _).alloc (Nat.le_refl _) _⟩
/-- A table: D the block that its calls write, R those that it is read from. -/
def TblI (D R : Blks) (w : World) (v : Value) (l : List (KV Int)) : Prop :=
  ∃ (t : Nat) (p : Option Addr) (S : Nat → Prop), v = .pointer (some ⟨t, 0, none⟩) ∧ w.heap[t]? = some (.cells #[.pointer p] 111) ∧ TrI S w (.pointer p) l ∧ RiseK l ∧ ¬ S t ∧ (∀ k, S k → k < w.heap.size) ∧ (∀ k, D k ↔ k = t) ∧ ∀ k, R k ↔ k = t ∨ S k
theorem TblI.tv {D R : Blks} {w : World} {v : Value} {l : List (KV Int)} (h : TblI D R w v l) : ∃ p S, TvI S w v p l ∧ ∀ k, S k → R k ∧ ¬ D k := by
  obtain ⟨t, p, S, rfl, hc, ht, hr, hn, hs, hd, hR⟩ := h
  exact ⟨p, S, ⟨fun U hU => tree_atI t _ U ((hU.block _ (lt_blk hc)).trans hc), ht, hr⟩, fun k hk => ⟨(hR k).2 (.inr hk), fun h1 => hn ((hd k).1 h1 ▸ hk)⟩⟩
theorem TblI.lt {D R : Blks} {w : World} {v : Value} {l : List (KV Int)} (h : TblI D R w v l) : ∀ k, R k → k < w.heap.size := by
  obtain ⟨t, p, S, rfl, hc, ht, hr, hn, hs, hd, hR⟩ := h
  intro k hk
  rcases (hR k).1 hk with rfl | h1
  · exact lt_blk hc
  · exact hs k h1
theorem TblI.wr {D R : Blks} {w : World} {v : Value} {l : List (KV Int)} (h : TblI D R w v l) : ∀ k, D k → R k := by
  obtain ⟨t, p, S, rfl, hc, ht, hr, hn, hs, hd, hR⟩ := h
  exact fun k hk => (hR k).2 (.inl ((hd k).1 hk))
theorem TblI.rise {D R : Blks} {w : World} {v : Value} {l : List (KV Int)} (h : TblI D R w v l) : RiseK l := by
  obtain ⟨t, p, S, rfl, hc, ht, hr, hn, hs, hd, hR⟩ := h
  exact hr
theorem TblI.ch {D R S : Blks} {w w' : World} {v : Value} {l : List (KV Int)} (h : TblI D R w v l) (hc2 : Ch S w w') (hS : ∀ k, S k → ¬ R k) : TblI D R w' v l := by
  obtain ⟨t, p, S0, rfl, hc, ht, hr, hn, hs, hd, hR⟩ := h
  refine ⟨t, p, S0, rfl, (hc2.block _ (lt_blk hc) (fun h1 => hS t h1 ((hR t).2 (.inl rfl)))).trans hc, ht.stay (fun k hk hl => hc2.block k hl (fun h1 => hS k h1 ((hR k).2 (.inr hk)))), hr, hn, fun k hk => Nat.lt_of_lt_of_le (hs k hk) hc2.size, hd, hR⟩
theorem TblI.on {D R : Blks} {w w' : World} {v : Value} {l : List (KV Int)} (h : TblI D R w v l) (hb : Below w.heap.size w w') : TblI D R w' v l := h.ch (ch_of (S := fun _ => False) hb) (fun _ h => h.elim)
/-- A new table over a tree. -/
theorem tab_newI {S : Nat → Prop} {w : World} {p : Option Addr} {l : List (KV Int)} (h : TrI S w (.pointer p) l) (hr : RiseK l) :
    TblI (fun k => k = w.heap.size) (fun k => k = w.heap.size ∨ S k ∧ k < w.heap.size) (w.alloc (.cells #[.pointer p] 111)) (.pointer (some ⟨w.heap.size, 0, none⟩)) l :=
  ⟨w.heap.size, p, fun k => S k ∧ k < w.heap.size, rfl, World.alloc_heap_new w _, (h.mono fun k hk hl => ⟨hk, hl⟩).stay fun k _ hl => Below.heap_alloc w _ k hl, hr, fun h1 => absurd h1.2 (Nat.lt_irrefl _), fun k hk => by have := hk.2; simp; omega, fun _ => Iff.rfl, fun _ => Iff.rfl⟩
/-- A table whose tree is another one now. -/
theorem tab_setI {D R : Blks} {w w3 : World} {t : Nat} {p p' : Option Addr} {S : Nat → Prop} {l' : List (KV Int)} (hc : w.heap[t]? = some (.cells #[.pointer p] 111)) (hn : ¬ S t) (hd : ∀ k, D k ↔ k = t) (hR : ∀ k, R k ↔ k = t ∨ S k)
    (hb : Below w.heap.size w w3) (ht : TrI (Up S w) w3 (.pointer p') l') (hr : RiseK l') :
    ∃ D' R', TblI D' R' (w3.setCell ⟨t, 0, none⟩ (.pointer p')) (.pointer (some ⟨t, 0, none⟩)) l' ∧ (∀ k, D' k → D k ∨ w.heap.size ≤ k) ∧ (∀ k, R' k → R k ∨ w.heap.size ≤ k) ∧ Ch D w (w3.setCell ⟨t, 0, none⟩ (.pointer p')) := by
  have hlt := lt_blk hc
  have hnt : ∀ k, Up S w k → k ≠ t := by
    rintro k (hk | hk) rfl
    · exact hn hk
    · omega
  refine ⟨fun k => k = t, fun k => k = t ∨ Up S w k ∧ k < w3.heap.size, ⟨t, p', fun k => Up S w k ∧ k < w3.heap.size, rfl, heap_setI ((hb.block _ hlt).trans hc), ?_, hr, fun h1 => hnt _ h1.1 rfl, fun k hk => by simp [World.setCell]; exact hk.2, fun _ => Iff.rfl, fun _ => Iff.rfl⟩, fun k hk => .inl ((hd k).2 hk), fun k hk => ?_, ?_⟩
  · exact (ht.mono fun k hk hl => ⟨hk, hl⟩).stay fun k hk _ => Below.heap_setCell _ _ _ _ (hnt k hk.1)
  · rcases hk with hk | ⟨hk | hk, _⟩
    · exact .inl ((hR k).2 (.inl hk))
    · exact .inl ((hR k).2 (.inr hk))
    · exact .inr hk
  · exact ((ch_of (S := D) hb)).set (p := ⟨t, 0, none⟩) (.inl ((hd t).2 rfl)) _
/-- What a call that changes a table leaves. -/
def ChPostI (D R : Blks) (w : World) (v : Value) (l : List (KV Int)) (r : Value) (e : Ending) (w' : World) : Prop := ∃ D' R', e = .returned r ∧ TblI D' R' w' v l ∧ (∀ k, D' k → D k ∨ w.heap.size ≤ k) ∧ (∀ k, R' k → R k ∨ w.heap.size ≤ k) ∧ Ch D w w'
set_option maxHeartbeats 4000000 in
set_option maxRecDepth 40000 in
theorem putTI {D R : Blks} {w : World} {v : Value} {l : List (KV Int)} (k : ByteArray) (x : Int) (h : TblI D R w v l) (hl : l.length ≤ limB) :
    Calls Try.prog 57 #[v, .string k, .int .i64 x] w (ChPostI D R w v (setK l k x) (.tuple #[])) := by
  obtain ⟨t, p, S, rfl, hc, ht, hr, hn, hs, hd, hR⟩ := h
  have c0 : w.cell? ⟨t, 0, none⟩ = some (.pointer p) := by simp [World.cell?, hc]
  have HC := Lib.hid hc
  have HR := Lib.hid hr
  have HF := Lib.hid (fun w3 p' hb ht => tab_setI (D := D) (R := R) (w := w) (w3 := w3) (p' := p') (l' := setK l k x) hc hn hd hR hb ht (setK_rise hr k x))
  have HP := Lib.hid (putI l.length S w (.pointer p) l k x w (Nat.le_refl _) (Nat.le_refl _) ht.up hr hl)
  clear hc ht hr hn hs hd hR hl
  go_enter Try.func57, Try.ntmps57
  go_wp2_with (go_at_call 70; go_loud (refine HP.out.mono ?_; rintro en w3 ⟨v3, rfl, ht3, hb3⟩; obtain ⟨p3, rfl⟩ := ht3.ptr; have hc3 := (hb3.block _ (lt_blk HC.out)).trans HC.out; have d0 : w3.cell? ⟨t, 0, none⟩ = some (.pointer p) := (by simp [World.cell?, hc3]); have d1 : w3.frozen? ⟨t, 0, none⟩ = false := (by simp [World.frozen?, hc3]); have d2 := lt_blk hc3; have HF3 := Lib.hid (HF.out w3 p3 hb3 ht3); clear ht3 hb3 hc3))
  go_end0
  obtain ⟨D', R', h1, h2, h3, h4⟩ := HF3.out
  exact ⟨D', R', rfl, h1, h2, h3, h4⟩
theorem new_tabI (w : World) : ∃ D R, TblI D R (w.alloc (.cells #[.pointer none] 111)) (.pointer (some ⟨w.heap.size, 0, none⟩)) [] ∧ ∀ k, R k → w.heap.size ≤ k :=
  ⟨_, _, tab_newI (S := fun _ => False) .nil .nil, fun k hk => hk.elim (fun h => by rw [h]; exact Nat.le_refl _) (fun h => h.1.elim)⟩
end Go.Proofs.Ytmeoednndfgffaa
