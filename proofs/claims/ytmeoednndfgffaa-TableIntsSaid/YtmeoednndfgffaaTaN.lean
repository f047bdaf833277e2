/- Layer 17: what no table is asked; a sequence that outlives its table. -/
import Derived.Test.YtmeoednndfgffaaTaYl
namespace Go.Proofs.Ytmeoednndfgffaa
attribute [local go_sem] Oper.semAt_some
open Go Go.ChangeShapes Go.WideShapes Go.ChangeAt Go.RowKit
set_option linter.unusedVariables false
set_option linter.unusedSimpArgs false
theorem cell_heap {U : World} {q : Nat} {x : Value} {t : TypeId} (h : U.heap[q]? = some (.cells #[x] t)) : U.cell? ⟨q, 0, none⟩ = some x := by simp [World.cell?, h]
theorem frozen_heap {U : World} {q : Nat} {x : Value} {t : TypeId} (h : U.heap[q]? = some (.cells #[x] t)) : U.frozen? ⟨q, 0, none⟩ = false := by simp [World.frozen?, h]
abbrev nilT : Value := .pointer none
/-- No table: it has nothing; what is put into it goes nowhere; its copy is a table. -/
structure TabN (TabS : Blks → Blks → World → Value → List Kp → Prop) : Prop where
  put : ∀ (k x : ByteArray) (w : World), Calls Try.prog 13 #[nilT, .string k, .string x] w fun e w' => e = .returned (.tuple #[]) ∧ Below w.heap.size w w'
  get : ∀ (k : ByteArray) (w : World), Calls Try.prog 11 #[nilT, .string k] w fun e w' => e = .returned (.tuple #[.string ⟨#[]⟩, .bool false]) ∧ Below w.heap.size w w'
  del : ∀ (k : ByteArray) (w : World), Calls Try.prog 15 #[nilT, .string k] w fun e w' => e = .returned (.bool false) ∧ Below w.heap.size w w'
  len : ∀ (w : World), Calls Try.prog 26 #[nilT] w fun e w' => e = .returned (.int .i64 0) ∧ Below w.heap.size w w'
  copy : ∀ (w : World), Calls Try.prog 18 #[nilT] w fun e w' => ∃ D R v, e = .returned v ∧ TabS D R w' v [] ∧ (∀ k, R k → w.heap.size ≤ k) ∧ Below w.heap.size w w'
  all : ∀ (w : World), Calls Try.prog 25 #[nilT] w fun e w' => ∃ gf lb, ∃ S : Blks, e = .returned (.func (.func gf) #[] lb) ∧ (∀ args W, (callFunc gf args).run Try.prog W = .ok (.enter gf args) W) ∧ Below w.heap.size w w' ∧ (∀ k, S k → w.heap.size ≤ k ∧ k < w'.heap.size) ∧
    ∀ W, (∀ k, S k → W.heap[k]? = w'.heap[k]?) → SeqAt Fence.wide 7 Try.prog gf lb encK (NextK []) (Ks S) (fun xs => xs.length = 0) W
  diff : ∀ (w : World), Calls Try.prog 21 #[nilT, nilT] w fun e w' => ∃ A c, e = .returned (.slice A 0 c) ∧ Below w.heap.size w w'
section
variable {TabS : Blks → Blks → World → Value → List Kp → Prop}
theorem TabN.has (HN : TabN TabS) (w : World) : Calls Try.prog 19 #[nilT, .slice none 0 0] w fun e w' => e = .returned (.bool true) ∧ Below w.heap.size w w' := by
  refine has_core (l := []) rfl (fun j h => absurd h (Nat.not_lt_zero _)) (by decide) (fun U hU => ?_) (fun U hU => HN.len U)
  refine (HN.all U).mono ?_
  rintro e w' ⟨gf, lb, S, h1, h2, h3, h4, h5⟩
  exact ⟨gf, lb, S, h1, h2, h3, fun k hs => .inr (h4 k hs), h5⟩
/-- What the iterator reads, as it lay at the call. -/
def TabQ (S : Blks) (V : World) : Blks → Blks → World → Value → List Kp → Prop := fun _ R U _ _ => (∀ k, R k ↔ S k) ∧ ∀ k, S k → k < U.heap.size ∧ U.heap[k]? = V.heap[k]?
theorem TabQ.k {S : Blks} {V : World} : TabK (TabQ S V) :=
  ⟨fun h k hk => (h.2 k ((h.1 k).1 hk)).1, fun h hc hs => ⟨h.1, fun k hk => ⟨Nat.lt_of_lt_of_le (h.2 k hk).1 hc.size, (hc.block k (h.2 k hk).1 (fun h0 => hs k h0 ((h.1 k).2 hk))).trans (h.2 k hk).2⟩⟩⟩
/-- A block that none of all this knows. -/
def FreeK (w : World) (bs : List Bx) (S : Blks) (A : Option Addr) (k : Nat) : Prop := w.heap.size ≤ k ∧ ¬ S k ∧ (∀ p ∈ bs, p.1 ≠ k) ∧ ∀ a, A = some a → a.block ≠ k
variable {w U V V0 : World} {bs : List Bx} {S D : Blks} {v : Value} {A : Option Addr} {n c : Nat} {l m : List Kp}
theorem Pl.seqs (h : Pl (TabQ S V0) w bs v l m A n c U) : ∀ k, S k → w.heap.size ≤ k ∧ k < U.heap.size ∧ U.heap[k]? = V0.heap[k]? ∧ ∀ p ∈ bs, p.1 ≠ k := by
  obtain ⟨D, R, ht, hf, ho⟩ := h.ex
  intro k hk
  have hr := (ht.1 k).2 hk
  exact ⟨(hf k hr).1, (ht.2 k hk).1, (ht.2 k hk).2, (hf k hr).2⟩
theorem Pl.fresh (h : Pl (TabQ S V0) w bs v l m A n c U) {k : Nat} (hk : U.heap.size ≤ k) : FreeK w bs S A k :=
  ⟨Nat.le_trans h.bel.size hk, fun hs => by have := (h.seqs k hs).2.1; omega, fun p hp e => by have := h.lt hp; omega, fun a ha e => by have := offB_lt h.own a ha; omega⟩
theorem Pl.free (h : Pl (TabQ S V0) w bs v l m A n c U) (hc : Ch D U V) (hD : ∀ k, D k → FreeK w bs S A k) : Pl (TabQ S V0) w bs v l m A n c V := by
  obtain ⟨D', R, ht, hf, ho⟩ := h.ex
  exact ⟨⟨D', R, TabQ.k.ch ht hc (fun k hd hr => (hD k hd).2.1 ((ht.1 k).1 hr)), hf, ho⟩, h.nd, fun p hp => ⟨(h.at_ p hp).1, (hc.block _ (h.lt hp) (fun hd => (hD _ hd).2.2.1 p hp rfl)).trans (h.at_ p hp).2⟩, h.off, own_ch h.own hc fun a ha hd => (hD _ hd).2.2.2 a ha rfl, h.bel.trans (hc.toBelow (fun k _ hk => (hD k hk).1) h.bel.size)⟩
/-- All of a table: what it reads is none of the table's own. -/
theorem Pl.all (HT : TabC TabS) (h : Pl TabS w bs v l m A n c U) (hl : l.length ≤ 1000) :
    Calls Try.prog 25 #[v] U fun e V => ∃ gf lb, ∃ S : Blks, e = .returned (.func (.func gf) #[] lb) ∧ (∀ args W, (callFunc gf args).run Try.prog W = .ok (.enter gf args) W) ∧ Pl (TabQ S V) w bs v l m A n c V ∧ (∃ D R, TabS D R V v l ∧ ∀ k, D k → FreeK w bs S A k) ∧
    ∀ W, (∀ k, S k → W.heap[k]? = V.heap[k]?) → SeqAt Fence.wide 7 Try.prog gf lb encK (NextK l) (Ks S) (fun xs => xs.length = l.length) W := by
  obtain ⟨D, R, ht, hf, ho⟩ := h.ex
  refine (HT.all ht hl).mono ?_
  rintro e V ⟨gf, lb, S, rfl, he, hb, hs, hq⟩
  have hR := HT.lt ht
  have hW := HT.wr ht
  have hS : ∀ k, S k → w.heap.size ≤ k ∧ k < V.heap.size ∧ (∀ p ∈ bs, p.1 ≠ k) ∧ ∀ a, A = some a → a.block ≠ k := by
    intro k hk
    rcases hs k hk with ⟨h1, h2⟩ | ⟨h1, h2⟩
    · exact ⟨(hf k h1).1, Nat.lt_of_lt_of_le (hR k h1) hb.size, (hf k h1).2, fun a ha e => ho a ha (e ▸ h1)⟩
    · exact ⟨Nat.le_trans h.bel.size h1, h2, fun p hp e => by have := h.lt hp; omega, fun a ha e => by have := offB_lt h.own a ha; omega⟩
  have h2 := h.on HT hb
  refine ⟨gf, lb, S, rfl, he, ⟨⟨fun _ => False, S, ⟨fun _ => Iff.rfl, fun k hk => ⟨(hS k hk).2.1, rfl⟩⟩, fun k hk => ⟨(hS k hk).1, (hS k hk).2.2.1⟩, fun a ha hk => (hS _ hk).2.2.2 a ha rfl⟩, h2.nd, h2.at_, h2.off, h2.own, h2.bel⟩, ⟨D, R, HT.ch ht (ch_of (S := fun _ => False) hb) (fun _ h => h.elim), fun k hk => ⟨(hf k (hW k hk)).1, fun h1 => ?_, (hf k (hW k hk)).2, fun a ha e => ho a ha (e ▸ hW k hk)⟩⟩, hq⟩
  rcases hs k h1 with ⟨_, h3⟩ | ⟨h3, _⟩
  · exact h3 hk
  · have := hR k (hW k hk)
    omega
/-- The table is changed: what was gone over stays. -/
theorem Pl.qput (HT : TabC TabS) (h : Pl (TabQ S V0) w bs v l m A n c U) {D R : Blks} {v1 : Value} {l1 : List Kp} (ht : TabS D R U v1 l1) (hD : ∀ k, D k → FreeK w bs S A k) (hl : l1.length ≤ 1000) (k x : ByteArray) :
    Calls Try.prog 13 #[v1, .string k, .string x] U fun e V => e = .returned (.tuple #[]) ∧ Pl (TabQ S V0) w bs v l m A n c V ∧ ∃ D R, TabS D R V v1 (setK l1 k x) ∧ ∀ k, D k → FreeK w bs S A k := by
  refine (HT.put k x ht hl).mono ?_
  rintro e V ⟨D', R', rfl, ht2, hd2, hr2, hc2⟩
  exact ⟨rfl, h.free hc2 hD, D', R', ht2, fun i hi => (hd2 i hi).elim (hD i) (fun h1 => h.fresh h1)⟩
theorem Pl.qdel (HT : TabC TabS) (h : Pl (TabQ S V0) w bs v l m A n c U) {D R : Blks} {v1 : Value} {l1 : List Kp} (ht : TabS D R U v1 l1) (hD : ∀ k, D k → FreeK w bs S A k) (hl : l1.length ≤ 1000) (k : ByteArray) :
    Calls Try.prog 15 #[v1, .string k] U fun e V => e = .returned (.bool (getK l1 k).isSome) ∧ Pl (TabQ S V0) w bs v l m A n c V := by
  refine (HT.del k ht hl).mono ?_
  rintro e V ⟨D', R', rfl, ht2, hd2, hr2, hc2⟩
  exact ⟨rfl, h.free hc2 hD⟩
end
end Go.Proofs.Ytmeoednndfgffaa
