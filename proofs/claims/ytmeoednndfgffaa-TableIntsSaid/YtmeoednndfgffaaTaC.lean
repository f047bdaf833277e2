/- Layer 17: what a table is asked, whatever its form; calls done one by one. -/
import Derived.Test.YtmeoednndfgffaaTaFr
import Derived.Test.YtmeoednndfgffaaTaCh
import Derived.Test.YtmeoednndfgffaaTaP2
namespace Go.Proofs.Ytmeoednndfgffaa
open Go Go.ChangeShapes Go.WideShapes Go.ChangeAt Go.RowKit
set_option linter.unusedVariables false
set_option linter.unusedSimpArgs false
abbrev Blks := Nat → Prop
/-- What a round must leave to the iterator: the blocks of S. -/
def Ks (S : Blks) (U V : World) : Prop := U.heap.size ≤ V.heap.size ∧ ∀ k, S k → k < U.heap.size → V.heap[k]? = U.heap[k]?
section
variable {S : Blks} {U V W : World}
theorem Ks.refl : Ks S U U := ⟨Nat.le_refl _, fun _ _ _ => rfl⟩
theorem Ks.trans (h : Ks S U V) (k : Ks S V W) : Ks S U W := ⟨Nat.le_trans h.1 k.1, fun i hs hi => (k.2 i hs (Nat.lt_of_lt_of_le hi h.1)).trans (h.2 i hs hi)⟩
theorem Ks.grown (h : U.grownBy V none) : Ks S U V := ⟨h.size, fun k _ hk => h.block k hk (by simp)⟩
theorem Ks.put {q : Nat} (hS : ¬ S q) (o : Obj) : Ks S U (U.putObj q o) := ⟨by simp [World.putObj], fun k hs _ => World.putObj_heap_other (by rintro rfl; exact hS hs)⟩
theorem Ks.below (h : Below U.heap.size U V) : Ks S U V := ⟨h.size, fun k _ hk => h.block k hk⟩
end
abbrev encK (x : Kp) : Array Value := #[.string x.k, .string x.v]
/-- The next pair. -/
def NextK (l : List Kp) (pre : List Kp) (x : Kp) (_ : World) : Prop := l[pre.length]? = some x
theorem NextK.own {l : List Kp} {D : Nat} (pre : List Kp) : LoopOwn D (NextK l pre) := fun _ _ _ _ h _ _ => h
/-- A table of texts: D the blocks that its calls write, R those that it is read from. -/
structure TabC (TabS : Blks → Blks → World → Value → List Kp → Prop) : Prop where
  rise : ∀ {D R w v l}, TabS D R w v l → RiseK l
  wr : ∀ {D R w v l}, TabS D R w v l → ∀ k, D k → R k
  lt : ∀ {D R w v l}, TabS D R w v l → ∀ k, R k → k < w.heap.size
  ch : ∀ {D R S w w' v l}, TabS D R w v l → Ch S w w' → (∀ k, S k → ¬ R k) → TabS D R w' v l
  new : ∀ (w : World), Calls Try.prog 10 #[.slice none 0 0] w fun e w' => ∃ D R v, e = .returned v ∧ TabS D R w' v [] ∧ (∀ k, R k → w.heap.size ≤ k) ∧ Below w.heap.size w w'
  get : ∀ {D R w v l} (k : ByteArray), TabS D R w v l → l.length ≤ 1000 → Calls Try.prog 11 #[v, .string k] w fun e w' => e = .returned (.tuple #[.string ((getK l k).getD ⟨#[]⟩), .bool (getK l k).isSome]) ∧ Below w.heap.size w w'
  put : ∀ {D R w v l} (k x : ByteArray), TabS D R w v l → l.length ≤ 1000 → Calls Try.prog 13 #[v, .string k, .string x] w fun e w' => ∃ D' R', e = .returned (.tuple #[]) ∧ TabS D' R' w' v (setK l k x) ∧ (∀ k, D' k → D k ∨ w.heap.size ≤ k) ∧ (∀ k, R' k → R k ∨ w.heap.size ≤ k) ∧ Ch D w w'
  del : ∀ {D R w v l} (k : ByteArray), TabS D R w v l → l.length ≤ 1000 → Calls Try.prog 15 #[v, .string k] w fun e w' => ∃ D' R', e = .returned (.bool (getK l k).isSome) ∧ TabS D' R' w' v (dropK l k) ∧ (∀ k, D' k → D k ∨ w.heap.size ≤ k) ∧ (∀ k, R' k → R k ∨ w.heap.size ≤ k) ∧ Ch D w w'
  len : ∀ {D R w v l}, TabS D R w v l → l.length ≤ 1000 → Calls Try.prog 26 #[v] w fun e w' => e = .returned (.int .i64 l.length) ∧ Below w.heap.size w w'
  copy : ∀ {D R w v l}, TabS D R w v l → l.length ≤ 1000 → Calls Try.prog 18 #[v] w fun e w' => ∃ D' R' v', e = .returned v' ∧ TabS D' R' w' v' l ∧ (∀ k, D' k → w.heap.size ≤ k) ∧ (∀ k, R' k → R k ∧ ¬ D k ∨ w.heap.size ≤ k) ∧ Below w.heap.size w w'
  all : ∀ {D R w v l}, TabS D R w v l → l.length ≤ 1000 → Calls Try.prog 25 #[v] w fun e w' => ∃ gf lb, ∃ S : Blks, e = .returned (.func (.func gf) #[] lb) ∧ (∀ args W, (callFunc gf args).run Try.prog W = .ok (.enter gf args) W) ∧ Below w.heap.size w w' ∧ (∀ k, S k → R k ∧ ¬ D k ∨ w.heap.size ≤ k ∧ k < w'.heap.size) ∧
    ∀ W, (∀ k, S k → W.heap[k]? = w'.heap[k]?) → SeqAt Fence.wide 7 Try.prog gf lb encK (NextK l) (Ks S) (fun xs => xs.length = l.length) W
  frm : ∀ {D R w v l} (key : ByteArray), TabS D R w v l → l.length ≤ 1000 → Calls Try.prog 17 #[v, .string key] w fun e w' => ∃ gf lb, ∃ S : Blks, e = .returned (.func (.func gf) #[] lb) ∧ (∀ args W, (callFunc gf args).run Try.prog W = .ok (.enter gf args) W) ∧ Below w.heap.size w w' ∧ (∀ k, S k → R k ∧ ¬ D k ∨ w.heap.size ≤ k ∧ k < w'.heap.size) ∧
    ∀ W, (∀ k, S k → W.heap[k]? = w'.heap[k]?) → SeqAt Fence.wide 7 Try.prog gf lb encK (NextK (fromK l key)) (Ks S) (fun xs => xs.length = (fromK l key).length) W
  diff : ∀ {D R D' R' w v v' l m}, TabS D R w v l → TabS D' R' w v' m → l.length + m.length ≤ 2000 → Calls Try.prog 21 #[v, v'] w fun e w' => ∃ A c, e = .returned (.slice A (diffK zB l m).length c) ∧ CRow w' w'.heap.size A (diffK zB l m) ∧ Below w.heap.size w w'
  apply : ∀ {D R w v l A c} (cs : List Kc), TabS D R w v l → l.length + cs.length ≤ 2000 → CRow w w.heap.size A cs → Calls Try.prog 23 #[v, .slice A cs.length c] w fun e w' => ∃ D' R' v', e = .returned v' ∧ TabS D' R' w' v' (applyK l cs) ∧ (∀ k, D' k → w.heap.size ≤ k) ∧ (∀ k, R' k → R k ∧ ¬ D k ∨ w.heap.size ≤ k) ∧ Below w.heap.size w w'
/-- A slice's row lies in none of these blocks. -/
def OffB (R : Blks) (A : Option Addr) : Prop := ∀ a, A = some a → ¬ R a.block
theorem own_ch {D : Blks} {w w' : World} {base : Nat} {e : TypeId} {size n c : Nat} {A : Option Addr} {xs : List Value} (h : w.ownsRow base e size (.slice A n c) n xs) (k : Ch D w w') (hD : OffB D A) : w'.ownsRow base e size (.slice A n c) n xs := by
  refine ⟨h.1, ?_⟩
  rcases h.2 with ⟨h1, h0⟩ | ⟨g, cap, cur, h1, hg, hh, rest⟩
  · exact .inl ⟨h1, h0⟩
  · refine .inr ⟨g, cap, cur, h1, hg, (k.block g (Array.getElem?_eq_some_iff.1 hh).1 ?_).trans hh, rest⟩
    injection h1 with hA
    exact hD _ hA
theorem offB_own {R : Blks} {w : World} {base : Nat} {e : TypeId} {size n c : Nat} {A : Option Addr} {xs : List Value} (h : w.ownsRow base e size (.slice A n c) n xs) (hR : ∀ k, R k → k < base) : OffB R A := by
  intro a ha hr
  rcases h.2 with ⟨h1, h0⟩ | ⟨g, cap, cur, h1, hg, hh, rest⟩
  · injection h1 with hA
    rw [ha] at hA
    cases hA
  · injection h1 with hA
    rw [ha] at hA
    injection hA with hA
    subst hA
    exact absurd (hR _ hr) (Nat.not_lt_of_le hg)
theorem offB_lt {w : World} {base : Nat} {e : TypeId} {size n c : Nat} {A : Option Addr} {xs : List Value} (h : w.ownsRow base e size (.slice A n c) n xs) : ∀ a, A = some a → a.block < w.heap.size := by
  intro a ha
  rcases h.2 with ⟨h1, h0⟩ | ⟨g, cap, cur, h1, hg, hh, rest⟩
  · injection h1 with hA
    rw [ha] at hA
    cases hA
  · injection h1 with hA
    rw [ha] at hA
    injection hA with hA
    subst hA
    exact (Array.getElem?_eq_some_iff.1 hh).1
/-- A table of l in blocks from w's size on, and the document's row m, apart from it. -/
structure Made (TabS : Blks → Blks → World → Value → List Kp → Prop) (w : World) (v : Value) (l : List Kp) (A : Option Addr) (n c : Nat) (m : List Kp) (U : World) : Prop where
  ex : ∃ D R, TabS D R U v l ∧ (∀ k, R k → w.heap.size ≤ k) ∧ OffB R A
  own : U.ownsRow w.heap.size 38 2 (.slice A n c) n (m.flatMap kpC)
  bel : Below w.heap.size w U
def setO (m : List Kp) (o : Oq) : List Kp := setK m o.k o.v
section
variable {TabS : Blks → Blks → World → Value → List Kp → Prop} {w U V : World} {v : Value} {A : Option Addr} {n c : Nat} {l m : List Kp}
theorem Made.len (h : Made TabS w v l A n c m U) : n = m.length := (RowC.own kp_len (by decide) h.own).1
theorem Made.row (h : Made TabS w v l A n c m U) : PRow U U.heap.size A m := PRow.of (RowC.own kp_len (by decide) h.own).2
theorem ch_of {S : Blks} (h : Below U.heap.size U V) : Ch S U V := ⟨h.os, h.tape, h.output, h.size, fun k hk _ => h.block k hk⟩
theorem Made.rise (HT : TabC TabS) (h : Made TabS w v l A n c m U) : RiseK l := by
  obtain ⟨D, R, ht, _⟩ := h.ex
  exact HT.rise ht
theorem Made.on (HT : TabC TabS) (h : Made TabS w v l A n c m U) (hb : Below U.heap.size U V) : Made TabS w v l A n c m V := by
  obtain ⟨D, R, ht, hf, ho⟩ := h.ex
  exact ⟨⟨D, R, HT.ch ht (ch_of (S := fun _ => False) hb) (fun _ h => h.elim), hf, ho⟩, own_below h.own hb, h.bel.trans (hb.mono h.bel.size)⟩
theorem Made.turn {l' : List Kp} (HT : TabC TabS) (h : Made TabS w v l A n c m U) (hx : ∀ D R, TabS D R U v l → ∃ D' R', TabS D' R' V v l' ∧ (∀ k, R' k → R k ∨ U.heap.size ≤ k) ∧ Ch D U V) : Made TabS w v l' A n c m V := by
  obtain ⟨D, R, ht, hf, ho⟩ := h.ex
  obtain ⟨D', R', ht2, hr2, hc2⟩ := hx D R ht
  refine ⟨⟨D', R', ht2, fun k hk => (hr2 k hk).elim (hf k) (fun h1 => Nat.le_trans h.bel.size h1), fun a ha hr => (hr2 _ hr).elim (ho a ha) (fun h1 => ?_)⟩, own_ch h.own hc2 fun a ha hd => ho a ha (HT.wr ht _ hd), h.bel.trans (hc2.toBelow (fun k _ hk => hf k (HT.wr ht k hk)) h.bel.size)⟩
  have := offB_lt h.own a ha
  omega
theorem Made.row' {A' : Option Addr} {c' : Nat} {m' : List Kp} (HT : TabC TabS) (h : Made TabS w v l A n c m U) (ho : OutS U A' m'.length c' m' V) : Made TabS w v l A' m'.length c' m' V := by
  obtain ⟨D, R, ht, hf, _⟩ := h.ex
  exact ⟨⟨D, R, HT.ch ht (ch_of (S := fun _ => False) ho.bel) (fun _ h => h.elim), hf, offB_own ho.own (HT.lt ht)⟩, ho.own.mono h.bel.size, h.bel.trans (ho.bel.mono h.bel.size)⟩
theorem put_made (HT : TabC TabS) (h : Made TabS w v l A n c m U) (hl : l.length ≤ 1000) (k x : ByteArray) :
    Calls Try.prog 13 #[v, .string k, .string x] U fun e V => e = .returned (.tuple #[]) ∧ Made TabS w v (setK l k x) A n c m V := by
  obtain ⟨D, R, ht, hf, ho⟩ := h.ex
  refine (HT.put k x ht hl).mono ?_
  rintro e V ⟨D', R', rfl, ht2, _, hr2, hc2⟩
  have hf2 : Made TabS w v (setK l k x) A n c m V := by
    refine ⟨⟨D', R', ht2, fun k hk => (hr2 k hk).elim (hf k) (fun h1 => Nat.le_trans h.bel.size h1), fun a ha hr => (hr2 _ hr).elim (ho a ha) (fun h1 => ?_)⟩, own_ch h.own hc2 fun a ha hd => ho a ha (HT.wr ht _ hd), h.bel.trans (hc2.toBelow (fun k _ hk => hf k (HT.wr ht k hk)) h.bel.size)⟩
    have := offB_lt h.own a ha
    omega
  exact ⟨rfl, hf2⟩
theorem del_made (HT : TabC TabS) (h : Made TabS w v l A n c m U) (hl : l.length ≤ 1000) (k : ByteArray) :
    Calls Try.prog 15 #[v, .string k] U fun e V => e = .returned (.bool (getK l k).isSome) ∧ Made TabS w v (dropK l k) A n c m V := by
  obtain ⟨D, R, ht, hf, ho⟩ := h.ex
  refine (HT.del k ht hl).mono ?_
  rintro e V ⟨D', R', rfl, ht2, _, hr2, hc2⟩
  have hf2 : Made TabS w v (dropK l k) A n c m V := by
    refine ⟨⟨D', R', ht2, fun k hk => (hr2 k hk).elim (hf k) (fun h1 => Nat.le_trans h.bel.size h1), fun a ha hr => (hr2 _ hr).elim (ho a ha) (fun h1 => ?_)⟩, own_ch h.own hc2 fun a ha hd => ho a ha (HT.wr ht _ hd), h.bel.trans (hc2.toBelow (fun k _ hk => hf k (HT.wr ht k hk)) h.bel.size)⟩
    have := offB_lt h.own a ha
    omega
  exact ⟨rfl, hf2⟩
theorem set_made (HT : TabC TabS) (h : Made TabS w v l A n c m U) (hr : RiseK m) (hn : n ≤ 999) (k x : ByteArray) :
    Calls Try.prog 14 #[.slice A n c, .string k, .string x] U fun e V => ∃ A' c', e = .returned (.slice A' (setK m k x).length c') ∧ Made TabS w v l A' (setK m k x).length c' (setK m k x) V := by
  refine (rset_own m hr k x n c A U h.len hn h.row).mono ?_
  rintro e V ⟨A', c', rfl, ho⟩
  exact ⟨A', c', rfl, h.row' HT ho⟩
theorem drop_made (HT : TabC TabS) (h : Made TabS w v l A n c m U) (hn : n ≤ 1000) (k : ByteArray) :
    Calls Try.prog 16 #[.slice A n c, .string k] U fun e V => ∃ A' c', e = .returned (.slice A' (dropK m k).length c') ∧ Made TabS w v l A' (dropK m k).length c' (dropK m k) V := by
  refine (rdrop_own m k n c A U h.len hn h.row).mono ?_
  rintro e V ⟨A', c', rfl, ho⟩
  exact ⟨A', c', rfl, h.row' HT ho⟩
set_option maxHeartbeats 4000000 in
set_option maxRecDepth 40000 in
theorem made_any (HT : TabC TabS) (l : List Oq) (n c : Nat) (A : Option Addr) (w : World) (hl : n = l.length) (hn : n ≤ limO) (hA : OqRow w w.heap.size A l) :
    Calls Try.prog 20 #[.slice A n c] w fun e w' => ∃ v A2 c2 m, m = l.foldl setO [] ∧ m.length ≤ n ∧ e = .returned (.tuple #[v, .slice A2 m.length c2]) ∧ Made TabS w v m A2 m.length c2 m w' := by
  have HA := Lib.hid hA
  have HL := Lib.hid hl
  have HN := Lib.hid hn
  obtain ⟨M, hM⟩ : ∃ M, l.foldl setO [] = M := ⟨_, rfl⟩
  rw [hM]
  have HM := Lib.hid (show (l.drop 0).foldl setO [] = M from hM)
  have HNEW := Lib.hid (HT.new w)
  clear hA hl hn hM
  go_enter Try.func20, Try.ntmps20
  go_wp2_with (go_at_call 10; go_loud (refine HNEW.out.mono ?_; rintro e w1 ⟨D1, R1, v, rfl, ht1, hf1, hb1⟩; have HS0 := Lib.hid (show Made TabS w v [] none 0 0 [] w1 from ⟨⟨D1, R1, ht1, hf1, fun a h => by cases h⟩, World.ownsRow_nil _ _ _ 2, hb1⟩); clear ht1 hf1 hb1))
  go_loopw [5, 6] (fun mv iv wr => ∃ A2 n2 c2 m i, mv = .slice A2 n2 c2 ∧ iv = .int .i64 ((i : Nat) : Int) ∧ i ≤ n ∧ Hid (n2 ≤ i) ∧ Hid ((l.drop i).foldl setO m = M) ∧ Hid (Made TabS w v m A2 n2 c2 m wr)) (fun _ iv _ => n - (intOf iv).toNat)
  case atStart => exact ⟨none, 0, 0, [], 0, rfl, rfl, Nat.zero_le _, Lib.hid (Nat.le_refl _), HM, HS0⟩
  case round =>
    obtain ⟨A2, n2, c2, m, i, rfl, rfl, hi, HNI, HF, HS⟩ := hrel
    by_cases hlt : i < n
    · have hil : i < l.length := by rw [← HL.out]; exact hlt
      obtain ⟨b, off, rfl, hb, k0, k1, k2⟩ := (HA.out.below HS.out.bel) i hil
      have HX := Lib.hid (show (l.drop (i + 1)).foldl setO (setK m l[i].k l[i].v) = M by
        have h := HF.out
        rw [List.drop_eq_getElem_cons hil] at h
        exact h)
      obtain ⟨⟨xd, xk, xv⟩, hx⟩ : ∃ x, l[i]'hil = x := ⟨_, rfl⟩
      rw [hx] at k0 k1 k2 HX
      have i1 : (0 : Int) ≤ (i : Int) := by omega
      have i2 : (i : Int) < (n : Int) := by omega
      have i3 : i + 1 ≤ 9223372036854775807 := by have := HN.out; unfold limO at this; omega
      have HLE := Lib.hid (show m.length ≤ 900 by have := HS.out.len; have := HNI.out; have := HN.out; unfold limO at this; omega)
      dsimp only at k0 k1 k2 HX
      have HSK := Lib.hid (show ∀ U : World, Below w.heap.size w U → U.cell? ⟨b, off + i * 3 + 1, none⟩ = some (.string xk) ∧ U.cell? ⟨b, off + i * 3 + 2, none⟩ = some (.string xv) from fun U hU => ⟨((hU.cell (p := ⟨b, _, none⟩) hb).trans (HS.out.bel.cell (p := ⟨b, _, none⟩) hb).symm).trans k1, ((hU.cell (p := ⟨b, _, none⟩) hb).trans (HS.out.bel.cell (p := ⟨b, _, none⟩) hb).symm).trans k2⟩)
      have HRI := Lib.hid (HS.out.rise HT)
      have HWD := Lib.hid (HS.out.on HT (Below.refl _ wr).drew)
      clear hx hil hb k0 k1 k2
      go_wp2
      have hS := HSK.out wr.drew HWD.out.bel
      refine held_begin 12 (fun W => W.cell? ⟨b, off + i * 3 + 1, none⟩ = some (.string xk) ∧ W.cell? ⟨b, off + i * 3 + 2, none⟩ = some (.string xv)) rfl (by kernel_rfl) ?_
      refine held_take (i := 0) (t := 14) (v := v) (fuel := 11) rfl rfl (by kernel_rfl) (by kernel_rfl) (by kernel_rfl) (fun _ _ _ h => h) (.inl ⟨rfl, fun W hW => by obtain ⟨s0, s1⟩ := hW; simp [execOp, Act.eval, go_sem, s0, s1]⟩) hS ?_
      simp only [List.setIfInBounds_toArray, List.set_cons_succ, List.set_cons_zero]
      refine held_take (i := 1) (t := 15) (v := (.slice (some ⟨b, off, none⟩) n c)) (fuel := 10) rfl rfl (by kernel_rfl) (by kernel_rfl) (by kernel_rfl) (fun _ _ _ h => h) (.inl ⟨rfl, fun W hW => by obtain ⟨s0, s1⟩ := hW; simp [execOp, Act.eval, go_sem, s0, s1]⟩) hS ?_
      simp only [List.setIfInBounds_toArray, List.set_cons_succ, List.set_cons_zero]
      refine held_take (i := 2) (t := 16) (v := (.int .i64 (i : Int))) (fuel := 9) rfl rfl (by kernel_rfl) (by kernel_rfl) (by kernel_rfl) (fun _ _ _ h => h) (.inl ⟨rfl, fun W hW => by obtain ⟨s0, s1⟩ := hW; simp [execOp, Act.eval, go_sem, s0, s1]⟩) hS ?_
      simp only [List.setIfInBounds_toArray, List.set_cons_succ, List.set_cons_zero]
      refine held_take (i := 3) (t := 17) (v := (.pointer (some ⟨b, off + i * 3, none⟩))) (fuel := 8) rfl rfl (by kernel_rfl) (by kernel_rfl) (by kernel_rfl) (fun _ _ _ h => h) (.inl ⟨rfl, fun W hW => by obtain ⟨s0, s1⟩ := hW; simp [execOp, Act.eval, go_sem, s0, s1, i1, i2, hlt]⟩) hS ?_
      simp only [List.setIfInBounds_toArray, List.set_cons_succ, List.set_cons_zero]
      refine held_take (i := 4) (t := 18) (v := (.pointer (some ⟨b, off + i * 3 + 1, none⟩))) (fuel := 7) rfl rfl (by kernel_rfl) (by kernel_rfl) (by kernel_rfl) (fun _ _ _ h => h) (.inl ⟨rfl, fun W hW => by obtain ⟨s0, s1⟩ := hW; simp [execOp, Act.eval, go_sem, s0, s1]⟩) hS ?_
      simp only [List.setIfInBounds_toArray, List.set_cons_succ, List.set_cons_zero]
      refine held_take (i := 5) (t := 19) (v := (.string xk)) (fuel := 6) rfl rfl (by kernel_rfl) (by kernel_rfl) (by kernel_rfl) (fun _ _ _ h => h) (.inl ⟨rfl, fun W hW => by obtain ⟨s0, s1⟩ := hW; simp [execOp, Act.eval, go_sem, s0, s1]⟩) hS ?_
      simp only [List.setIfInBounds_toArray, List.set_cons_succ, List.set_cons_zero]
      refine held_take (i := 6) (t := 20) (v := (.slice (some ⟨b, off, none⟩) n c)) (fuel := 5) rfl rfl (by kernel_rfl) (by kernel_rfl) (by kernel_rfl) (fun _ _ _ h => h) (.inl ⟨rfl, fun W hW => by obtain ⟨s0, s1⟩ := hW; simp [execOp, Act.eval, go_sem, s0, s1]⟩) hS ?_
      simp only [List.setIfInBounds_toArray, List.set_cons_succ, List.set_cons_zero]
      refine held_take (i := 7) (t := 21) (v := (.int .i64 (i : Int))) (fuel := 4) rfl rfl (by kernel_rfl) (by kernel_rfl) (by kernel_rfl) (fun _ _ _ h => h) (.inl ⟨rfl, fun W hW => by obtain ⟨s0, s1⟩ := hW; simp [execOp, Act.eval, go_sem, s0, s1]⟩) hS ?_
      simp only [List.setIfInBounds_toArray, List.set_cons_succ, List.set_cons_zero]
      refine held_take (i := 8) (t := 22) (v := (.pointer (some ⟨b, off + i * 3, none⟩))) (fuel := 3) rfl rfl (by kernel_rfl) (by kernel_rfl) (by kernel_rfl) (fun _ _ _ h => h) (.inl ⟨rfl, fun W hW => by obtain ⟨s0, s1⟩ := hW; simp [execOp, Act.eval, go_sem, s0, s1, i1, i2, hlt]⟩) hS ?_
      simp only [List.setIfInBounds_toArray, List.set_cons_succ, List.set_cons_zero]
      refine held_take (i := 9) (t := 23) (v := (.pointer (some ⟨b, off + i * 3 + 2, none⟩))) (fuel := 2) rfl rfl (by kernel_rfl) (by kernel_rfl) (by kernel_rfl) (fun _ _ _ h => h) (.inl ⟨rfl, fun W hW => by obtain ⟨s0, s1⟩ := hW; simp [execOp, Act.eval, go_sem, s0, s1]⟩) hS ?_
      simp only [List.setIfInBounds_toArray, List.set_cons_succ, List.set_cons_zero]
      refine held_take (i := 10) (t := 24) (v := (.string xv)) (fuel := 1) rfl rfl (by kernel_rfl) (by kernel_rfl) (by kernel_rfl) (fun _ _ _ h => h) (.inl ⟨rfl, fun W hW => by obtain ⟨s0, s1⟩ := hW; simp [execOp, Act.eval, go_sem, s0, s1]⟩) hS ?_
      simp only [List.setIfInBounds_toArray, List.set_cons_succ, List.set_cons_zero]
      refine held_call (i := 11) rfl (by kernel_rfl) (by kernel_rfl) ?_
      simp [Oper.wp, execOp, Act.eval, Act.put, go_sem]
      refine (put_made HT HWD.out (by have := HLE.out; omega) xk xv).mono ?_
      rintro e w2 ⟨rfl, h2⟩
      have H2 := Lib.hid h2
      have hS2 := HSK.out w2 h2.bel
      refine ⟨hS2, ?_⟩
      clear hS h2 hS2 HWD
      try simp only [List.setIfInBounds_toArray, List.set_cons_succ, List.set_cons_zero]
      refine wpAnyH_done (by kernel_rfl) ?_ 0
      go_wp2
      have HWD2 := Lib.hid (H2.out.on HT (Below.refl _ w2).drew)
      have hS := HSK.out w2.drew HWD2.out.bel
      refine held_begin 13 (fun W => W.cell? ⟨b, off + i * 3 + 1, none⟩ = some (.string xk) ∧ W.cell? ⟨b, off + i * 3 + 2, none⟩ = some (.string xv)) rfl (by kernel_rfl) ?_
      refine held_take (i := 0) (t := 26) (v := (.slice A2 n2 c2)) (fuel := 12) rfl rfl (by kernel_rfl) (by kernel_rfl) (by kernel_rfl) (fun _ _ _ h => h) (.inl ⟨rfl, fun W hW => by obtain ⟨s0, s1⟩ := hW; simp [execOp, Act.eval, go_sem, s0, s1]⟩) hS ?_
      simp only [List.setIfInBounds_toArray, List.set_cons_succ, List.set_cons_zero]
      refine held_take (i := 1) (t := 27) (v := (.slice (some ⟨b, off, none⟩) n c)) (fuel := 11) rfl rfl (by kernel_rfl) (by kernel_rfl) (by kernel_rfl) (fun _ _ _ h => h) (.inl ⟨rfl, fun W hW => by obtain ⟨s0, s1⟩ := hW; simp [execOp, Act.eval, go_sem, s0, s1]⟩) hS ?_
      simp only [List.setIfInBounds_toArray, List.set_cons_succ, List.set_cons_zero]
      refine held_take (i := 2) (t := 28) (v := (.int .i64 (i : Int))) (fuel := 10) rfl rfl (by kernel_rfl) (by kernel_rfl) (by kernel_rfl) (fun _ _ _ h => h) (.inl ⟨rfl, fun W hW => by obtain ⟨s0, s1⟩ := hW; simp [execOp, Act.eval, go_sem, s0, s1]⟩) hS ?_
      simp only [List.setIfInBounds_toArray, List.set_cons_succ, List.set_cons_zero]
      refine held_take (i := 3) (t := 29) (v := (.pointer (some ⟨b, off + i * 3, none⟩))) (fuel := 9) rfl rfl (by kernel_rfl) (by kernel_rfl) (by kernel_rfl) (fun _ _ _ h => h) (.inl ⟨rfl, fun W hW => by obtain ⟨s0, s1⟩ := hW; simp [execOp, Act.eval, go_sem, s0, s1, i1, i2, hlt]⟩) hS ?_
      simp only [List.setIfInBounds_toArray, List.set_cons_succ, List.set_cons_zero]
      refine held_take (i := 4) (t := 30) (v := (.pointer (some ⟨b, off + i * 3 + 1, none⟩))) (fuel := 8) rfl rfl (by kernel_rfl) (by kernel_rfl) (by kernel_rfl) (fun _ _ _ h => h) (.inl ⟨rfl, fun W hW => by obtain ⟨s0, s1⟩ := hW; simp [execOp, Act.eval, go_sem, s0, s1]⟩) hS ?_
      simp only [List.setIfInBounds_toArray, List.set_cons_succ, List.set_cons_zero]
      refine held_take (i := 5) (t := 31) (v := (.string xk)) (fuel := 7) rfl rfl (by kernel_rfl) (by kernel_rfl) (by kernel_rfl) (fun _ _ _ h => h) (.inl ⟨rfl, fun W hW => by obtain ⟨s0, s1⟩ := hW; simp [execOp, Act.eval, go_sem, s0, s1]⟩) hS ?_
      simp only [List.setIfInBounds_toArray, List.set_cons_succ, List.set_cons_zero]
      refine held_take (i := 6) (t := 32) (v := (.slice (some ⟨b, off, none⟩) n c)) (fuel := 6) rfl rfl (by kernel_rfl) (by kernel_rfl) (by kernel_rfl) (fun _ _ _ h => h) (.inl ⟨rfl, fun W hW => by obtain ⟨s0, s1⟩ := hW; simp [execOp, Act.eval, go_sem, s0, s1]⟩) hS ?_
      simp only [List.setIfInBounds_toArray, List.set_cons_succ, List.set_cons_zero]
      refine held_take (i := 7) (t := 33) (v := (.int .i64 (i : Int))) (fuel := 5) rfl rfl (by kernel_rfl) (by kernel_rfl) (by kernel_rfl) (fun _ _ _ h => h) (.inl ⟨rfl, fun W hW => by obtain ⟨s0, s1⟩ := hW; simp [execOp, Act.eval, go_sem, s0, s1]⟩) hS ?_
      simp only [List.setIfInBounds_toArray, List.set_cons_succ, List.set_cons_zero]
      refine held_take (i := 8) (t := 34) (v := (.pointer (some ⟨b, off + i * 3, none⟩))) (fuel := 4) rfl rfl (by kernel_rfl) (by kernel_rfl) (by kernel_rfl) (fun _ _ _ h => h) (.inl ⟨rfl, fun W hW => by obtain ⟨s0, s1⟩ := hW; simp [execOp, Act.eval, go_sem, s0, s1, i1, i2, hlt]⟩) hS ?_
      simp only [List.setIfInBounds_toArray, List.set_cons_succ, List.set_cons_zero]
      refine held_take (i := 9) (t := 35) (v := (.pointer (some ⟨b, off + i * 3 + 2, none⟩))) (fuel := 3) rfl rfl (by kernel_rfl) (by kernel_rfl) (by kernel_rfl) (fun _ _ _ h => h) (.inl ⟨rfl, fun W hW => by obtain ⟨s0, s1⟩ := hW; simp [execOp, Act.eval, go_sem, s0, s1]⟩) hS ?_
      simp only [List.setIfInBounds_toArray, List.set_cons_succ, List.set_cons_zero]
      refine held_take (i := 10) (t := 36) (v := (.string xv)) (fuel := 2) rfl rfl (by kernel_rfl) (by kernel_rfl) (by kernel_rfl) (fun _ _ _ h => h) (.inl ⟨rfl, fun W hW => by obtain ⟨s0, s1⟩ := hW; simp [execOp, Act.eval, go_sem, s0, s1]⟩) hS ?_
      simp only [List.setIfInBounds_toArray, List.set_cons_succ, List.set_cons_zero]
      refine held_call (i := 11) rfl (by kernel_rfl) (by kernel_rfl) ?_
      simp [Oper.wp, execOp, Act.eval, Act.put, go_sem]
      refine (set_made HT HWD2.out HRI.out (by have := HLE.out; have := HS.out.len; omega) xk xv).mono ?_
      rintro e w3 ⟨A3, c3, rfl, h3⟩
      have H3 := Lib.hid h3
      have hS2 := HSK.out w3 h3.bel
      refine ⟨hS2, ?_⟩
      clear hS h3 HWD2
      try simp only [List.setIfInBounds_toArray, List.set_cons_succ, List.set_cons_zero]
      refine held_call (i := 12) rfl (by kernel_rfl) (by kernel_rfl) ?_
      simp [Oper.wp, execOp, Act.eval, Act.put, go_sem]
      refine ⟨hS2, ?_⟩
      clear hS2
      try simp only [List.setIfInBounds_toArray, List.set_cons_succ, List.set_cons_zero]
      refine wpAnyH_done (by kernel_rfl) ?_ 0
      go_wp2
      go_roundw
      case rel => exact ⟨A3, _, c3, setK m xk xv, i + 1, rfl, by go_num, by omega, Lib.hid (by have := setK_len m xk xv; have := HNI.out; have := HS.out.len; omega), HX, H3⟩
      case measure => simp [intOf]; omega
    · have hin : i = n := by omega
      have he := HF.out
      rw [List.drop_of_length_le (by rw [← HL.out]; omega)] at he
      have he2 : m = M := he
      have hlen := HS.out.len
      subst hlen
      clear he
      go_wp2
      go_ret2
      exact ⟨v, A2, c2, m, he2, by have := HNI.out; omega, by simp, HS.out⟩
end
end Go.Proofs.Ytmeoednndfgffaa
