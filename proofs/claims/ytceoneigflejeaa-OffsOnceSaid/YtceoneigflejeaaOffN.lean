/- The walks of the iterators over what stands at one place of two lists. -/
import Derived.Test.YtceoneigflejeaaOffB
import Derived.Test.YtceoneigflejeaaRangeA
import Derived.RangeFuncBox
import Derived.RangeFuncCalls
import Derived.RangeFuncLeaves
import Derived.Stop.RegionWithIn
import Derived.OwnWalkIn
import Derived.TacticsInMore
import Derived.LoopNIn
import Derived.LoopIn
namespace Go.Proofs.Ytceoneigflejeaa
attribute [local go_sem] Oper.semAt_some
open Go.ChangeShapes Go.WideShapes Go.ChangeAt Go.RowKit
set_option linter.unusedVariables false

/-- The blocks below D lie as they lay. -/
structure Low (D : Nat) (U V : World) : Prop where
  size : U.heap.size ≤ V.heap.size
  block : ∀ k, k < D → V.heap[k]? = U.heap[k]?
theorem Low.refl (D : Nat) (U : World) : Low D U U := ⟨Nat.le_refl _, fun _ _ => rfl⟩
theorem Low.trans {D : Nat} {a b c : World} (h : Low D a b) (k : Low D b c) : Low D a c := ⟨Nat.le_trans h.size k.size, fun i h1 => (k.block i h1).trans (h.block i h1)⟩
theorem Low.grown {D : Nat} {a b c : World} (h : Low D a b) (hD : D ≤ a.heap.size) (hg : b.grownBy c none) : Low D b c := ⟨hg.size, fun i h2 => hg.block i (by have := h.size; omega) (by simp)⟩
theorem Low.of_below {D B : Nat} {b c : World} (hD : D ≤ B) (hb : Below B b c) : Low D b c := ⟨hb.size, fun i h2 => hb.block i (by omega)⟩
theorem grown_of_below {u v : World} (h : Below u.heap.size u v) : u.grownBy v none := ⟨h.os, h.tape, h.output, h.size, fun k hk _ => h.block k hk⟩
theorem Low.row {α : Type} {f : α → List Value} {sz D : Nat} {a b : World} {A : Option Addr} {l : List α} (h : Low D a b) (hr : RowC f sz a D A l) : RowC f sz b D A l := by
  intro j hj
  obtain ⟨g, off, e, hlt, hc⟩ := hr j hj
  exact ⟨g, off, e, hlt, fun i v hv => (World.cell?_of_block (a := ⟨g, _, none⟩) (h.block g hlt)).trans (hc i v hv)⟩
theorem Low.cell {D : Nat} {a b : World} {p : Addr} {v : Value} (h : Low D a b) (hp : p.block < D) (hc : a.cell? p = some v) : b.cell? p = some v := (World.cell?_of_block (h.block _ hp)).trans hc

abbrev encR (x : Rg × Rg) : Array Value := #[.agg #[.int .i64 x.1.f, .int .i64 x.1.t], .agg #[.int .i64 x.2.f, .int .i64 x.2.t]]
/-- What stands at the next place. -/
def NextIn {α : Type} (l m : List α) (pre : List (α × α)) (x : α × α) : Prop := ∃ (h1 : pre.length < l.length) (h2 : pre.length < m.length), x = (l[pre.length], m[pre.length])
/-- A round's end, as one. -/
theorem ways {p q : Prop} {e : Ending} (h : (e = .returned (.bool true) ∧ p) ∨ (e = .returned (.bool false) ∧ q)) : ∃ b, e = .returned (.bool b) ∧ (b = true → p) ∧ (b = false → q) := by
  rcases h with ⟨rfl, h⟩ | ⟨rfl, h⟩
  · exact ⟨true, rfl, fun _ => h, fun e => by cases e⟩
  · exact ⟨false, rfl, (fun e => by cases e), fun _ => h⟩

set_option maxRecDepth 100000 in
set_option maxHeartbeats 2000000 in
theorem nbR_seq (n : Nat) (hn : 1 ≤ n) (l m : List Rg) (len : Nat) (hl : len = l.length) (hm : len = m.length) (hlen : len ≤ 9223372036854775807) (g1 g2 c1 c2 D : Nat) (A1 A2 : Option Addr) (w0 : World)
    (h1 : g1 < D) (h2 : g2 < D) (hD : D ≤ w0.heap.size) (hb1 : w0.cell? ⟨g1, 0, none⟩ = some (.slice A1 len c1)) (hb2 : w0.cell? ⟨g2, 0, none⟩ = some (.slice A2 len c2)) (hr1 : RowC rgCells 2 w0 D A1 l) (hr2 : RowC rgCells 2 w0 D A2 m) :
    SeqMem Fence.wide n Try.prog 28 #[.pointer (some ⟨g1, 0, none⟩), .pointer (some ⟨g2, 0, none⟩)] encR (fun pre x _ => NextIn l m pre x) (Low D) (fun xs => xs.length = len) w0 := by
  intro L J Jx W hW hJ hJx hY h0
  have HL := Lib.hid hl
  have HM := Lib.hid hm
  have HR1 := Lib.hid hr1
  have HR2 := Lib.hid hr2
  have HJ := Lib.hid hJ
  have HY := Lib.hid hY
  have HG2 := Lib.hid (fun V (h : Low D w0 V) => h.cell (p := ⟨g2, 0, none⟩) h2 hb2)
  have x0 := hW.cell (p := ⟨g1, 0, none⟩) h1 hb1
  have HD := Lib.hid hD
  clear hl hm hr1 hr2 hJ hJx hY h1 h2 hb1 hb2 hD
  refine callsIn_of_wp Try.func28 rfl trivial ?_ rfl
  simp only [Try.ntmps28, List.size_toArray, List.length_cons, List.length_nil, Nat.reduceAdd, Nat.reduceSub, Array.replicate_succ, Array.replicate_zero, List.push_toArray, List.append_toArray, List.nil_append, List.cons_append]
  gi_wp2
  gi_loopw [8] (fun i wr => ∃ pre : List (Rg × Rg), i = .int .i64 (pre.length : Int) ∧ pre.length ≤ len ∧ J pre wr ∧ Low D w0 wr) (fun i _ => len - (intOf i).toNat)
  case atStart => exact ⟨[], rfl, Nat.zero_le _, h0, hW⟩
  case round =>
    obtain ⟨pre, rfl, hk, hJp, hmid⟩ := hrel
    have HJP := Lib.hid hJp
    have HMID := Lib.hid hmid
    clear hJp hmid
    obtain ⟨k, hkk⟩ : ∃ k, pre.length = k := ⟨_, rfl⟩
    rw [hkk] at hk ⊢
    have HK := Lib.hid hkk
    by_cases hlt : k < len
    · have hkl : k < l.length := by rw [← HL.out]; exact hlt
      have hkm : k < m.length := by rw [← HM.out]; exact hlt
      obtain ⟨b, off, rfl, hB, hc⟩ := (HMID.out.row HR1.out) k hkl
      obtain ⟨b2, off2, rfl, hB2, hd⟩ := (HMID.out.row HR2.out) k hkm
      have HNX := Lib.hid (show NextIn l m pre (l[k], m[k]) from by subst hkk; exact ⟨hkl, hkm, rfl⟩)
      have c0 := hc 0 _ rfl
      have c1 := hc 1 _ rfl
      have d0 := hd 0 _ rfl
      have d1 := hd 1 _ rfl
      rw [Nat.add_zero] at c0 d0
      obtain ⟨x, hx⟩ : ∃ x, l[k] = x := ⟨_, rfl⟩
      obtain ⟨y, hy⟩ : ∃ y, m[k] = y := ⟨_, rfl⟩
      rw [hx, hy] at HNX
      simp only [hx] at c0 c1
      simp only [hy] at d0 d1
      clear hx hy hc hd hkk
      have y0 := (((Below.refl wr.heap.size wr).alloc (Nat.le_refl _) (.cells #[.int .i64 x.f, .int .i64 x.t] 26)).cell (p := ⟨g2, 0, none⟩) (World.block_lt_of_cell? wr _ (HG2.out wr HMID.out))).trans (HG2.out wr HMID.out)
      have e0 := (((Below.refl wr.heap.size wr).alloc (Nat.le_refl _) (.cells #[.int .i64 x.f, .int .i64 x.t] 26)).cell (p := ⟨b2, _, none⟩) (World.block_lt_of_cell? wr _ d0)).trans d0
      have e1 := (((Below.refl wr.heap.size wr).alloc (Nat.le_refl _) (.cells #[.int .i64 x.f, .int .i64 x.t] 26)).cell (p := ⟨b2, _, none⟩) (World.block_lt_of_cell? wr _ d1)).trans d1
      have i1 : (0 : Int) ≤ (k : Int) := by omega
      have i2 : (k : Int) < (len : Int) := by omega
      have hgr := grown_of_below ((((Below.refl wr.heap.size wr).alloc (Nat.le_refl _) (.cells #[.int .i64 x.f, .int .i64 x.t] 26))).drew)
      obtain ⟨fn, tmps, assign, body, hy, hR⟩ := HY.out pre (x, y) _ (HJ.out _ _ _ HJP.out hgr) HNX.out
      have HLW := Lib.hid (HMID.out.trans (HMID.out.grown HD.out hgr))
      have HR := Lib.hid hR
      have HPL := Lib.hid (show (pre ++ [(x, y)]).length = k + 1 by rw [List.length_append, HK.out]; rfl)
      dsimp only [encR] at hy
      clear hR hgr
      gi_wp2_with fail
      gi_region_with (first | (refine HR.out.mono ?_; intro e W3 h; obtain ⟨bb, rfl, q1, q2⟩ := ways h; have Q1 := Lib.hid q1; have Q2 := Lib.hid q2; clear h q1 q2))
      all_goals
        cases bb with
        | true =>
          have HJ3 := Lib.hid (Q1.out rfl)
          clear Q1 Q2
          gi_wp2
          go_roundw
          case rel => exact ⟨pre ++ [(x, y)], by rw [HPL.out]; go_num, by rw [HPL.out]; omega, HJ3.out.1, HLW.out.trans HJ3.out.2⟩
          case measure => simp [intOf]; omega
        | false =>
          have HJ3 := Lib.hid (Q2.out rfl)
          clear Q1 Q2
          gi_wp2
          refine bodyPost_ret (results_none rfl _ _ _) rfl ?_
          exact ⟨⟨_, rfl⟩, .inr ⟨_, HJ3.out⟩⟩
    · have hke : k = len := by omega
      have HE := Lib.hid (HK.out.trans hke)
      clear hke hkk
      gi_wp2
      go_end0
      exact ⟨⟨_, rfl⟩, .inl ⟨_, HE.out, HJP.out⟩⟩
end Go.Proofs.Ytceoneigflejeaa
