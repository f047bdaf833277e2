/- Layer 17: a table and the document's row beside blocks that the law itself holds; marks among what is deferred. -/
import Derived.Test.YtmeoednndfgffaaTaH
import Derived.RangeFuncLeaves
namespace Go.Proofs.Ytmeoednndfgffaa
open Go Go.ChangeShapes Go.WideShapes Go.ChangeAt Go.RowKit
set_option linter.unusedVariables false
set_option linter.unusedSimpArgs false
abbrev Bx := Nat × Obj
/-- What is known of anything that is held beside the law's own blocks. -/
structure TabK (TabS : Blks → Blks → World → Value → List Kp → Prop) : Prop where
  lt : ∀ {D R w v l}, TabS D R w v l → ∀ k, R k → k < w.heap.size
  ch : ∀ {D R S w w' v l}, TabS D R w v l → Ch S w w' → (∀ k, S k → ¬ R k) → TabS D R w' v l
theorem TabC.k {TabS : Blks → Blks → World → Value → List Kp → Prop} (HT : TabC TabS) : TabK TabS := ⟨HT.lt, HT.ch⟩
instance {TabS : Blks → Blks → World → Value → List Kp → Prop} : Coe (TabC TabS) (TabK TabS) := ⟨TabC.k⟩
/-- A mark among what is deferred. -/
def mkD (r : Nat) : Deferred := { target := .collected r, args := #[] }
def mkB (r : Nat) : Bx := (r, .deferred (some []))
/-- A table of l and the document's row of m, both apart from the blocks bs, whose objects lie as told. -/
structure Pl (TabS : Blks → Blks → World → Value → List Kp → Prop) (w : World) (bs : List Bx) (v : Value) (l m : List Kp) (A : Option Addr) (n c : Nat) (U : World) : Prop where
  ex : ∃ D R, TabS D R U v l ∧ (∀ k, R k → w.heap.size ≤ k ∧ ∀ p ∈ bs, p.1 ≠ k) ∧ OffB R A
  nd : (bs.map Prod.fst).Nodup
  at_ : ∀ p ∈ bs, w.heap.size ≤ p.1 ∧ U.heap[p.1]? = some p.2
  off : ∀ p ∈ bs, ∀ a, A = some a → p.1 ≠ a.block
  own : U.ownsRow w.heap.size 38 2 (.slice A n c) n (m.flatMap kpC)
  bel : Below w.heap.size w U
section
variable {TabS : Blks → Blks → World → Value → List Kp → Prop} {w U V : World} {bs bs' : List Bx} {v : Value} {A : Option Addr} {n c : Nat} {l m : List Kp}
theorem Pl.len (h : Pl TabS w bs v l m A n c U) : n = m.length := (RowC.own kp_len (by decide) h.own).1
theorem Pl.row (h : Pl TabS w bs v l m A n c U) : PRow U U.heap.size A m := PRow.of (RowC.own kp_len (by decide) h.own).2
theorem Pl.rise (HT : TabC TabS) (h : Pl TabS w bs v l m A n c U) : RiseK l := by
  obtain ⟨D, R, ht, _⟩ := h.ex
  exact HT.rise ht
theorem Pl.lt (h : Pl TabS w bs v l m A n c U) {p : Bx} (hp : p ∈ bs) : p.1 < U.heap.size := lt_of_heap (h.at_ p hp).2
theorem nodup_key : ∀ {bs : List Bx}, (bs.map Prod.fst).Nodup → ∀ {p q : Bx}, p ∈ bs → q ∈ bs → p.1 = q.1 → p = q
  | [], _, _, _, hp, _, _ => by cases hp
  | b :: bs, hn, p, q, hp, hq, e => by
    obtain ⟨h1, h2⟩ := List.nodup_cons.1 hn
    rcases List.mem_cons.1 hp with rfl | hp2 <;> rcases List.mem_cons.1 hq with rfl | hq2
    · rfl
    · exact absurd (List.mem_map.2 ⟨q, hq2, e.symm⟩) h1
    · exact absurd (show q.1 ∈ bs.map Prod.fst from List.mem_map.2 ⟨p, hp2, e⟩) h1
    · exact nodup_key h2 hp2 hq2 e
/-- Fewer blocks, or the same in another order. -/
theorem Pl.sub (h : Pl TabS w bs v l m A n c U) (hs : ∀ p ∈ bs', p ∈ bs) (hn : (bs'.map Prod.fst).Nodup) : Pl TabS w bs' v l m A n c U := by
  obtain ⟨D, R, ht, hf, ho⟩ := h.ex
  exact ⟨⟨D, R, ht, fun k hk => ⟨(hf k hk).1, fun p hp => (hf k hk).2 p (hs p hp)⟩, ho⟩, hn, fun p hp => h.at_ p (hs p hp), fun p hp => h.off p (hs p hp), h.own, h.bel⟩
theorem Pl.perm (h : Pl TabS w bs v l m A n c U) (hp : bs'.Perm bs) : Pl TabS w bs' v l m A n c U := h.sub (fun p hq => hp.mem_iff.1 hq) ((hp.map _).nodup_iff.2 h.nd)
theorem Pl.on (HT : TabK TabS) (h : Pl TabS w bs v l m A n c U) (hb : Below U.heap.size U V) : Pl TabS w bs v l m A n c V := by
  obtain ⟨D, R, ht, hf, ho⟩ := h.ex
  exact ⟨⟨D, R, HT.ch ht (ch_of (S := fun _ => False) hb) (fun _ h => h.elim), hf, ho⟩, h.nd, fun p hp => ⟨(h.at_ p hp).1, (hb.block _ (h.lt hp)).trans (h.at_ p hp).2⟩, h.off, own_below h.own hb, hop0 h.bel hb⟩
/-- One block more, that is new. -/
theorem Pl.new (HT : TabK TabS) (h : Pl TabS w bs v l m A n c U) (hb : Below U.heap.size U V) {q : Nat} {o : Obj} (hq : U.heap.size ≤ q) (ho : V.heap[q]? = some o) : Pl TabS w ((q, o) :: bs) v l m A n c V := by
  have h2 := h.on HT hb
  obtain ⟨D, R, ht, hf, hof⟩ := h.ex
  have hR := HT.lt ht
  refine ⟨⟨D, R, HT.ch ht (ch_of (S := fun _ => False) hb) (fun _ h => h.elim), fun k hk => ⟨(hf k hk).1, fun p hp => ?_⟩, hof⟩, ?_, fun p hp => ?_, fun p hp a ha => ?_, h2.own, h2.bel⟩
  · rcases List.mem_cons.1 hp with rfl | hp
    · have := hR k hk
      exact fun e => by simp only at e; omega
    · exact (hf k hk).2 p hp
  · refine List.nodup_cons.2 ⟨fun hm => ?_, h.nd⟩
    obtain ⟨p, hp, e⟩ := List.mem_map.1 hm
    have := h.lt hp
    simp only at e
    omega
  · rcases List.mem_cons.1 hp with rfl | hp
    · exact ⟨Nat.le_trans h.bel.size hq, ho⟩
    · exact h2.at_ p hp
  · rcases List.mem_cons.1 hp with rfl | hp
    · have := offB_lt h.own a ha
      exact fun e => by simp only at e; omega
    · exact h.off p hp a ha
/-- The first block is written. -/
theorem Pl.ch (HT : TabK TabS) {q : Nat} {o o' : Obj} (h : Pl TabS w ((q, o) :: bs) v l m A n c U) (hc : Ch (fun k => k = q) U V) (ho : V.heap[q]? = some o') : Pl TabS w ((q, o') :: bs) v l m A n c V := by
  obtain ⟨D, R, ht, hf, hof⟩ := h.ex
  obtain ⟨hn1, hn2⟩ := List.nodup_cons.1 h.nd
  refine ⟨⟨D, R, HT.ch ht hc (fun k hk hr => (hf k hr).2 (q, o) (by simp) hk.symm), fun k hk => ⟨(hf k hk).1, fun p hp => ?_⟩, hof⟩, List.nodup_cons.2 ⟨hn1, hn2⟩, fun p hp => ?_, fun p hp a ha => ?_, own_ch h.own hc fun a ha hd => h.off (q, o) (by simp) a ha hd.symm, h.bel.trans (hc.toBelow (fun k _ hk => hk ▸ (h.at_ (q, o) (by simp)).1) h.bel.size)⟩
  · rcases List.mem_cons.1 hp with rfl | hp
    · exact (hf k hk).2 (q, o) (by simp)
    · exact (hf k hk).2 p (by simp [hp])
  · rcases List.mem_cons.1 hp with rfl | hp
    · exact ⟨(h.at_ (q, o) (by simp)).1, ho⟩
    · have h1 := h.at_ p (by simp [hp])
      refine ⟨h1.1, (hc.block _ (lt_of_heap h1.2) (fun e => hn1 ?_)).trans h1.2⟩
      exact List.mem_map.2 ⟨p, hp, e⟩
  · rcases List.mem_cons.1 hp with rfl | hp
    · exact h.off (q, o) (by simp) a ha
    · exact h.off p (by simp [hp]) a ha
theorem Pl.get (HT : TabC TabS) (h : Pl TabS w bs v l m A n c U) (hl : l.length ≤ 1000) (k : ByteArray) :
    Calls Try.prog 11 #[v, .string k] U fun e V => e = .returned (.tuple #[.string ((getK l k).getD ⟨#[]⟩), .bool (getK l k).isSome]) ∧ Below U.heap.size U V := by
  obtain ⟨D, R, ht, _⟩ := h.ex
  exact HT.get k ht hl
/-- The table is changed, or another one taken. -/
theorem Pl.turn (HT : TabC TabS) (h : Pl TabS w bs v l m A n c U) {D R D' R' : Blks} {v' : Value} {l' : List Kp} (ht : TabS D R U v l) (hf : ∀ k, R k → w.heap.size ≤ k ∧ ∀ p ∈ bs, p.1 ≠ k) (ho : OffB R A) (ht2 : TabS D' R' V v' l') (hr2 : ∀ k, R' k → R k ∨ U.heap.size ≤ k) (hc2 : Ch D U V) : Pl TabS w bs v' l' m A n c V := by
  have hD : ∀ k, D k → R k := HT.wr ht
  refine ⟨⟨D', R', ht2, fun k hk => (hr2 k hk).elim (hf k) (fun h1 => ⟨Nat.le_trans h.bel.size h1, fun p hp e => ?_⟩), fun a ha hr => (hr2 _ hr).elim (ho a ha) (fun h1 => ?_)⟩, h.nd, fun p hp => ⟨(h.at_ p hp).1, (hc2.block _ (h.lt hp) fun hd => (hf _ (hD _ hd)).2 p hp rfl).trans (h.at_ p hp).2⟩, h.off, own_ch h.own hc2 fun a ha hd => ho a ha (hD _ hd), h.bel.trans (hc2.toBelow (fun k _ hk => (hf k (hD k hk)).1) h.bel.size)⟩
  · have := h.lt hp
    omega
  · have := offB_lt h.own a ha
    omega
theorem Pl.put (HT : TabC TabS) (h : Pl TabS w bs v l m A n c U) (hl : l.length ≤ 1000) (k x : ByteArray) :
    Calls Try.prog 13 #[v, .string k, .string x] U fun e V => e = .returned (.tuple #[]) ∧ Pl TabS w bs v (setK l k x) m A n c V := by
  obtain ⟨D, R, ht, hf, ho⟩ := h.ex
  refine (HT.put k x ht hl).mono ?_
  rintro e V ⟨D', R', rfl, ht2, _, hr2, hc2⟩
  exact ⟨rfl, h.turn HT ht hf ho ht2 hr2 hc2⟩
theorem Pl.del (HT : TabC TabS) (h : Pl TabS w bs v l m A n c U) (hl : l.length ≤ 1000) (k : ByteArray) :
    Calls Try.prog 15 #[v, .string k] U fun e V => e = .returned (.bool (getK l k).isSome) ∧ Pl TabS w bs v (dropK l k) m A n c V := by
  obtain ⟨D, R, ht, hf, ho⟩ := h.ex
  refine (HT.del k ht hl).mono ?_
  rintro e V ⟨D', R', rfl, ht2, _, hr2, hc2⟩
  exact ⟨rfl, h.turn HT ht hf ho ht2 hr2 hc2⟩
theorem Pl.copy (HT : TabC TabS) (h : Pl TabS w bs v l m A n c U) (hl : l.length ≤ 1000) :
    Calls Try.prog 18 #[v] U fun e V => ∃ v', e = .returned v' ∧ Pl TabS w bs v' l m A n c V := by
  obtain ⟨D, R, ht, hf, ho⟩ := h.ex
  refine (HT.copy ht hl).mono ?_
  rintro e V ⟨D', R', v', rfl, ht2, _, hr2, hb⟩
  exact ⟨v', rfl, h.turn HT ht hf ho ht2 (fun k hk => (hr2 k hk).imp And.left id) (ch_of hb)⟩
/-- A copy that is let go of: what is left stands as it was, whatever is done to the copy. -/
theorem Pl.copy2 (HT : TabC TabS) (h : Pl TabS w bs v l m A n c U) (hl : l.length ≤ 1000) :
    Calls Try.prog 18 #[v] U fun e V => ∃ v' D', ∃ R' : Blks, e = .returned v' ∧ TabS D' R' V v' l ∧ (∀ k, D' k → U.heap.size ≤ k) ∧ Below U.heap.size U V := by
  obtain ⟨D, R, ht, hf, ho⟩ := h.ex
  refine (HT.copy ht hl).mono ?_
  rintro e V ⟨D', R', v', rfl, ht2, hd, _, hb⟩
  exact ⟨v', D', R', rfl, ht2, hd, hb⟩
/-- The document's row is another one. -/
theorem Pl.row' (HT : TabC TabS) {A' : Option Addr} {c' : Nat} {m' : List Kp} (h : Pl TabS w bs v l m A n c U) (ho : OutS U A' m'.length c' m' V) : Pl TabS w bs v l m' A' m'.length c' V := by
  have h2 := h.on HT ho.bel
  obtain ⟨D, R, ht, hf, _⟩ := h.ex
  refine ⟨⟨D, R, HT.ch ht (ch_of (S := fun _ => False) ho.bel) (fun _ h => h.elim), hf, offB_own ho.own (HT.lt ht)⟩, h.nd, h2.at_, fun p hp a ha e => ?_, ho.own.mono h.bel.size, h2.bel⟩
  exact offB_own (R := fun k => k = p.1) ho.own (fun k hk => hk ▸ h.lt hp) a ha e.symm
theorem Pl.set (HT : TabC TabS) (h : Pl TabS w bs v l m A n c U) (hr : RiseK m) (hn : n ≤ 999) (k x : ByteArray) :
    Calls Try.prog 14 #[.slice A n c, .string k, .string x] U fun e V => ∃ A' c', e = .returned (.slice A' (setK m k x).length c') ∧ Pl TabS w bs v l (setK m k x) A' (setK m k x).length c' V := by
  refine (rset_own m hr k x n c A U h.len hn h.row).mono ?_
  rintro e V ⟨A', c', rfl, ho⟩
  exact ⟨A', c', rfl, h.row' HT ho⟩
theorem Pl.drop (HT : TabC TabS) (h : Pl TabS w bs v l m A n c U) (hn : n ≤ 1000) (k : ByteArray) :
    Calls Try.prog 16 #[.slice A n c, .string k] U fun e V => ∃ A' c', e = .returned (.slice A' (dropK m k).length c') ∧ Pl TabS w bs v l (dropK m k) A' (dropK m k).length c' V := by
  refine (rdrop_own m k n c A U h.len hn h.row).mono ?_
  rintro e V ⟨A', c', rfl, ho⟩
  exact ⟨A', c', rfl, h.row' HT ho⟩
theorem Pl.rget (h : Pl TabS w bs v l m A n c U) (hn : n ≤ 1000) (k : ByteArray) :
    Calls Try.prog 12 #[.slice A n c, .string k] U fun e V => e = .returned (.tuple #[.string ((getK m k).getD ⟨#[]⟩), .bool (getK m k).isSome]) ∧ U = V :=
  rget_any m k n c A U h.len (Nat.le_trans hn (by decide)) h.row
theorem Pl.has (HT : TabC TabS) (h : Pl TabS w bs v m m A n c U) (hn : n ≤ 1000) :
    Calls Try.prog 19 #[v, .slice A n c] U fun e V => e = .returned (.bool true) ∧ Below U.heap.size U V := by
  obtain ⟨D, R, ht, _⟩ := h.ex
  exact has_row HT ht h.len h.row hn
theorem Pl.frm (HT : TabC TabS) (h : Pl TabS w bs v l m A n c U) (hl : l.length ≤ 1000) (key : ByteArray) :
    Calls Try.prog 17 #[v, .string key] U fun e V => ∃ gf lb, ∃ S : Blks, e = .returned (.func (.func gf) #[] lb) ∧ (∀ args W, (callFunc gf args).run Try.prog W = .ok (.enter gf args) W) ∧ Pl TabS w bs v l m A n c V ∧ (∀ k, S k → k < V.heap.size ∧ ∀ p ∈ bs, p.1 ≠ k) ∧
    ∀ W, (∀ k, S k → W.heap[k]? = V.heap[k]?) → SeqAt Fence.wide 7 Try.prog gf lb encK (NextK (fromK l key)) (Ks S) (fun xs => xs.length = (fromK l key).length) W := by
  obtain ⟨D, R, ht, hf, ho⟩ := h.ex
  refine (HT.frm key ht hl).mono ?_
  rintro e V ⟨gf, lb, S, rfl, he, hb, hs, hq⟩
  have hR := HT.lt ht
  refine ⟨gf, lb, S, rfl, he, h.on HT hb, fun k hk => ?_, hq⟩
  rcases hs k hk with ⟨h1, h2⟩ | ⟨h1, h2⟩
  · exact ⟨Nat.lt_of_lt_of_le (hR k h1) hb.size, (hf k h1).2⟩
  · exact ⟨h2, fun p hp e => by have := h.lt hp; omega⟩
end
/-- The marks are taken over, one behind the other: nothing else turns. -/
theorem leaves_marks {fn : Func} {tmps : Array Value} {R : Ending → World → Prop} {B k : Nat} : ∀ (rs : List Nat) (W : World), rs.Nodup → (∀ r ∈ rs, B ≤ r ∧ W.heap[r]? = some (.deferred (some []))) →
    (∀ V, Below B W V → (∀ i, i ∉ rs → V.heap[i]? = W.heap[i]?) → LeavesIn Fence.wide k Try.prog fn tmps R [] .returning V) → B ≤ W.heap.size → LeavesInM Fence.wide k Try.prog fn tmps R (rs.map mkD) .returning W
  | [], W, _, _, h, _ => h W (Below.refl _ W) (fun _ _ => rfl)
  | r :: rs, W, hn, hm, h, hB => by
    obtain ⟨h1, h2⟩ := List.nodup_cons.1 hn
    obtain ⟨hr, hd⟩ := hm r (by simp)
    refine ⟨by simp, .inl ⟨r, _, rfl, run_takeDeferred hd, ?_⟩⟩
    refine leaves_marks rs _ h2 (fun q hq => ⟨(hm q (by simp [hq])).1, ?_⟩) (fun V hb hk => h V ?_ ?_) ?_
    · have hqr : q ≠ r := fun e => h1 (e ▸ hq)
      exact (World.putObj_heap_other (o := .deferred none) hqr).trans (hm q (by simp [hq])).2
    · exact (below_putH (Below.refl _ W) hB hr _).trans hb
    · intro i hi
      exact (hk i (fun hx => hi (by simp [hx]))).trans (World.putObj_heap_other (o := .deferred none) (fun e => hi (by simp [e])))
    · simpa [World.putObj] using hB
end Go.Proofs.Ytmeoednndfgffaa
