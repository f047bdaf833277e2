/- What OffsOnce lays, plainly. -/
import Derived.Test.YtceoneigflejeaaOffV
namespace Go.Proofs.Ytceoneigflejeaa
open Go.ChangeShapes Go.WideShapes Go.ChangeAt Go.RowKit
set_option linter.unusedVariables false

/-- A slice of bytes: where it lies, its capacity, what it holds. -/
structure Bx where
  a : Option Addr
  c : Nat
  l : List UInt8
def bxCells (b : Bx) : List Value := [.slice b.a b.l.length b.c]
theorem bxCells_length (b : Bx) : (bxCells b).length = 1 := rfl
def goodBx (w : World) (B : Nat) (b : Bx) : Prop := BytesAt w B b.a b.l ∧ b.l.length ≤ maxLen
def nB (b : List UInt8) (p : Nat) : Nat := ((b[p]?).map (fun x => x.toNat % 5)).getD 0
theorem nB_at {b : List UInt8} {p : Nat} (h : p < b.length) : nB b p = b[p].toNat % 5 := by unfold nB; rw [List.getElem?_eq_getElem h]; rfl
theorem nB_no {b : List UInt8} {p : Nat} (h : b.length ≤ p) : nB b p = 0 := by unfold nB; rw [List.getElem?_eq_none h]; rfl
theorem nB_le (b : List UInt8) (p : Nat) : nB b p ≤ 4 := by
  by_cases h : p < b.length
  · rw [nB_at h]; omega
  · rw [nB_no (by omega)]; omega
/-- Where the first k of them end, in partition p. -/
def En (bs : List Bx) : Nat → Nat → Nat
  | 0, _ => 0
  | k + 1, p => En bs k p + nB ((bs[k]?).map Bx.l |>.getD []) p
theorem En_next {bs : List Bx} {k : Nat} (h : k < bs.length) (p : Nat) : En bs (k + 1) p = En bs k p + nB bs[k].l p := by
  rw [En, List.getElem?_eq_getElem h]; rfl
theorem En_mono (bs : List Bx) (k p : Nat) : En bs k p ≤ En bs (k + 1) p := by rw [En]; omega
theorem En_le (bs : List Bx) : ∀ k p, En bs k p ≤ 4 * k
  | 0, _ => by simp [En]
  | k + 1, p => by
    have h1 := En_le bs k p
    have h2 := nB_le ((bs[k]?).map Bx.l |>.getD []) p
    rw [En]; omega
def rgE (bs : List Bx) (i p : Nat) : Rg := ⟨(En bs i p : Int), (En bs (i + 1) p : Int)⟩
def rowE (bs : List Bx) (i p : Nat) : List Rg := (List.range p).map (rgE bs i)
theorem rowE_next (bs : List Bx) (i p : Nat) : rowE bs i (p + 1) = rowE bs i p ++ [rgE bs i p] := by simp [rowE, List.range_succ]
theorem rowE_len (bs : List Bx) (i p : Nat) : (rowE bs i p).length = p := by simp [rowE]
theorem rowE_get (bs : List Bx) (i : Nat) {p j : Nat} (h : j < (rowE bs i p).length) : (rowE bs i p)[j] = rgE bs i j := by simp [rowE]
def allE (bs : List Bx) (n : Nat) : List (List Rg) := (List.range n).map fun i => rowE bs i 3
theorem allE_len (bs : List Bx) (n : Nat) : (allE bs n).length = n := by simp [allE]
theorem allE_next (bs : List Bx) (n : Nat) : allE bs (n + 1) = allE bs n ++ [rowE bs n 3] := by simp [allE, List.range_succ]
theorem allE_get (bs : List Bx) {n j : Nat} (h : j < n) : (allE bs n).getD j [] = rowE bs j 3 := by
  simp [allE, List.getD, List.getElem?_map, List.getElem?_range h]
theorem rightE (bs : List Bx) {i : Nat} (h : i ≤ 100) : rightB (rowE bs i 3) = true := by
  refine right_of (by rw [rowE_len]; omega) (by rw [rowE_len]; omega) fun r hr => ?_
  obtain ⟨p, _, rfl⟩ := List.mem_map.1 hr
  have h1 := En_mono bs i p
  have h2 := En_le bs (i + 1) p
  rw [okB_iff]
  unfold rgE
  dsimp only
  omega
theorem tilesE (bs : List Bx) {n : Nat} (hn : n ≤ 100) : tileB (allE bs n) = true := by
  refine tile_iff.2 fun j hj => ?_
  rw [allE_len] at hj
  rw [allE_get bs hj]
  have hr := rightE bs (i := j) (by omega)
  unfold prevL
  by_cases h0 : j = 0
  · subst h0
    rw [if_pos rfl, allE_get bs hj, rowE_len]
    refine fol_iff.2 ⟨right_nones (by omega) (by omega), hr, by rw [rowE_len]; rfl, fun q h1 h2 => ?_⟩
    rw [rowE_get, List.getElem_replicate]
    simp [noRg, rgE, En]
  · rw [if_neg h0, allE_get bs (by omega)]
    refine fol_iff.2 ⟨rightE bs (by omega), hr, by rw [rowE_len, rowE_len], fun q h1 h2 => ?_⟩
    rw [rowE_get, rowE_get]
    unfold rgE
    dsimp only
    rw [show j - 1 + 1 = j by omega]
/-- In how many of the first k a place stands. -/
def cntE (bs : List Bx) (a p k : Nat) : Nat := if a < En bs k p then 1 else 0
theorem cntE_zero (bs : List Bx) (a p : Nat) : cntE bs a p 0 = 0 := by simp [cntE, En]
theorem cntE_in {bs : List Bx} {a p k : Nat} (h1 : En bs k p ≤ a) (h2 : a < En bs (k + 1) p) : cntE bs a p (k + 1) = cntE bs a p k + 1 := by
  unfold cntE; rw [if_pos h2, if_neg (by omega)]
theorem cntE_out {bs : List Bx} {a p k : Nat} (h : ¬ (En bs k p ≤ a ∧ a < En bs (k + 1) p)) : cntE bs a p (k + 1) = cntE bs a p k := by
  have := En_mono bs k p
  unfold cntE
  by_cases h1 : a < En bs k p
  · rw [if_pos h1, if_pos (by omega)]
  · rw [if_neg h1, if_neg (by omega)]
theorem cntE_all {bs : List Bx} {a p n : Nat} (h : a < En bs n p) : cntE bs a p n = 1 := by unfold cntE; rw [if_pos h]
theorem cntE_le (bs : List Bx) (a p k : Nat) : cntE bs a p k ≤ 1 := by unfold cntE; split <;> omega

/-- The ends that are kept: three numbers in a block. -/
structure EndsAt (w : World) (g : Nat) (e : Nat → Nat) : Prop where
  cell : ∀ q, q < 3 → w.cell? ⟨g, q, none⟩ = some (.int .i64 (e q : Int))
  frozen : ∀ q, w.frozen? ⟨g, q, none⟩ = false
theorem EndsAt.block {w w' : World} {g : Nat} {e : Nat → Nat} (h : EndsAt w g e) (hb : w'.heap[g]? = w.heap[g]?) : EndsAt w' g e :=
  ⟨fun q hq => (World.cell?_of_block (a := ⟨g, q, none⟩) hb).trans (h.cell q hq), fun q => (World.frozen?_of_block (a := ⟨g, q, none⟩) hb).trans (h.frozen q)⟩
theorem EndsAt.set {w : World} {g : Nat} {e : Nat → Nat} (h : EndsAt w g e) {p : Nat} (hp : p < 3) (v : Nat) : EndsAt (w.setCell ⟨g, p, none⟩ (.int .i64 (v : Int))) g (fun q => if q = p then v else e q) := by
  refine ⟨fun q hq => ?_, fun q => by rw [World.frozen?_setCell]; exact h.frozen q⟩
  by_cases e1 : q = p
  · subst e1
    rw [if_pos rfl, World.cell?_setCell_same _ _ _ (by rw [h.cell q hq])]
  · rw [if_neg e1, World.cell?_setCell_other _ _ _ _ (by simp <;> omega)]
    exact h.cell q hq
theorem EndsAt.is {w : World} {g : Nat} {e e' : Nat → Nat} (h : EndsAt w g e) (he : ∀ q, q < 3 → e q = e' q) : EndsAt w g e' := ⟨fun q hq => by rw [← he q hq]; exact h.cell q hq, h.frozen⟩
/-- What the ends are within a round: those ahead of p are new. -/
def mixE (bs : List Bx) (i p q : Nat) : Nat := if q < p then En bs (i + 1) q else En bs i q
end Go.Proofs.Ytceoneigflejeaa
