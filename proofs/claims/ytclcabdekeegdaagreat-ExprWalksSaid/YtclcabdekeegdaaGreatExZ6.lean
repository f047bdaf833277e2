/- Layer 13, walked: the iterator over all within, of what lies in given blocks alone. -/
import Derived.Test.YtclcabdekeegdaaGreatExZ2
namespace Go.Proofs.YtclcabdekeegdaaGreat
attribute [local go_sem] Oper.semAt_some
open Go Go.ChangeShapes Go.WideShapes Go.ChangeAt Go.RowKit
set_option linter.unusedVariables false
set_option linter.unusedSimpArgs false
mutual
/-- The Kids of an expression lie at A, and theirs behind them, all in blocks of P. -/
def KidsP (w : World) (P : Nat → Prop) : X → Option Addr → Nat → Prop
  | .mk _ _ _ ks, A, c => ks.length ≤ c ∧ c ≤ maxLen ∧ KidsPL w P ks A 0
def KidsPL (w : World) (P : Nat → Prop) : List X → Option Addr → Nat → Prop
  | [], _, _ => True
  | k :: ks, A, i => (∃ b off A2 c2, A = some ⟨b, off, none⟩ ∧ P b ∧ (∀ j (hj : j < 6), w.cell? ⟨b, off + i * 6 + j, none⟩ = some ((k.cells A2 c2)[j]'(by simpa [X.cells] using hj))) ∧ KidsP w P k A2 c2) ∧ KidsPL w P ks A (i + 1)
end
mutual
theorem KidsP.stay {w w' : World} {P : Nat → Prop} (hb : ∀ k, P k → k < w.heap.size → w'.heap[k]? = w.heap[k]?) : ∀ {e : X} {A : Option Addr} {c : Nat}, KidsP w P e A c → KidsP w' P e A c
  | .mk _ _ _ ks, A, c, h => by
    simp only [KidsP] at h ⊢
    exact ⟨h.1, h.2.1, KidsPL.stay hb h.2.2⟩
theorem KidsPL.stay {w w' : World} {P : Nat → Prop} (hb : ∀ k, P k → k < w.heap.size → w'.heap[k]? = w.heap[k]?) : ∀ {l : List X} {A : Option Addr} {i : Nat}, KidsPL w P l A i → KidsPL w' P l A i
  | [], _, _, h => by simp only [KidsPL]
  | k :: ks, A, i, h => by
    simp only [KidsPL] at h ⊢
    obtain ⟨⟨b, off, A2, c2, e, hlt, hc, hk⟩, h2⟩ := h
    exact ⟨⟨b, off, A2, c2, e, hlt, fun j hj => (World.cell?_of_block (w := w) (a := ⟨b, _, none⟩) (hb b hlt (World.block_lt_of_cell? w _ (hc j hj)))).trans (hc j hj), KidsP.stay hb hk⟩, KidsPL.stay hb h2⟩
end
mutual
theorem KidsP.kids {w : World} {P : Nat → Prop} {B : Nat} (hB : ∀ k, P k → k < B) : ∀ {e : X} {A : Option Addr} {c : Nat}, KidsP w P e A c → KidsAt w B e A c
  | .mk _ _ _ ks, A, c, h => by
    simp only [KidsP] at h
    simp only [KidsAt]
    exact ⟨h.1, h.2.1, KidsPL.kids hB h.2.2⟩
theorem KidsPL.kids {w : World} {P : Nat → Prop} {B : Nat} (hB : ∀ k, P k → k < B) : ∀ {l : List X} {A : Option Addr} {i : Nat}, KidsPL w P l A i → KidsL w B l A i
  | [], _, _, h => by simp only [KidsL]
  | k :: ks, A, i, h => by
    simp only [KidsPL] at h
    simp only [KidsL]
    obtain ⟨⟨b, off, A2, c2, e, hlt, hc, hk⟩, h2⟩ := h
    exact ⟨⟨b, off, A2, c2, e, hB b hlt, hc, KidsP.kids hB hk⟩, KidsPL.kids hB h2⟩
end
mutual
/-- What lies in a world of which the blocks not of P are empty lies in those of P. -/
theorem KidsAt.inP {w w0 : World} {P : Nat → Prop} {B : Nat} (h0 : ∀ k, ¬ P k → ∀ i v, w0.cell? ⟨k, i, none⟩ ≠ some v) (h1 : ∀ k, P k → w.heap[k]? = w0.heap[k]?) : ∀ {e : X} {A : Option Addr} {c : Nat}, KidsAt w0 B e A c → KidsP w P e A c
  | .mk _ _ _ ks, A, c, h => by
    simp only [KidsAt] at h
    simp only [KidsP]
    exact ⟨h.1, h.2.1, KidsL.inP h0 h1 h.2.2⟩
theorem KidsL.inP {w w0 : World} {P : Nat → Prop} {B : Nat} (h0 : ∀ k, ¬ P k → ∀ i v, w0.cell? ⟨k, i, none⟩ ≠ some v) (h1 : ∀ k, P k → w.heap[k]? = w0.heap[k]?) : ∀ {l : List X} {A : Option Addr} {i : Nat}, KidsL w0 B l A i → KidsPL w P l A i
  | [], _, _, h => by simp only [KidsPL]
  | k :: ks, A, i, h => by
    simp only [KidsL] at h
    simp only [KidsPL]
    obtain ⟨⟨b, off, A2, c2, e, hlt, hc, hk⟩, h2⟩ := h
    have hPb : P b := Classical.byContradiction fun hn => h0 b hn _ _ (hc 0 (by decide))
    exact ⟨⟨b, off, A2, c2, e, hPb, fun j hj => (World.cell?_of_block (w := w0) (a := ⟨b, _, none⟩) (h1 b hPb)).trans (hc j hj), KidsAt.inP h0 h1 hk⟩, KidsL.inP h0 h1 h2⟩
end
theorem KidsP.len {w : World} {P : Nat → Prop} {e : X} {A : Option Addr} {c : Nat} (h : KidsP w P e A c) : e.ks.length ≤ c ∧ c ≤ maxLen := by
  cases e; simp only [KidsP] at h; exact ⟨h.1, h.2.1⟩
theorem KidsPL.at {w : World} {P : Nat → Prop} : ∀ {l : List X} {A : Option Addr} {i : Nat}, KidsPL w P l A i → ∀ (j : Nat) (hj : j < l.length),
    ∃ b off A2 c2, A = some ⟨b, off, none⟩ ∧ P b ∧ (∀ q (hq : q < 6), w.cell? ⟨b, off + (i + j) * 6 + q, none⟩ = some ((l[j].cells A2 c2)[q]'(by simpa [X.cells] using hq))) ∧ KidsP w P l[j] A2 c2
  | k :: ks, A, i, h, 0, hj => by
    simp only [KidsPL] at h
    exact h.1
  | k :: ks, A, i, h, j + 1, hj => by
    simp only [KidsPL] at h
    have := KidsPL.at h.2 j (by simpa using hj)
    rw [show i + 1 + j = i + (j + 1) by omega] at this
    exact this
theorem KidsP.at6 {w : World} {P : Nat → Prop} {e : X} {A : Option Addr} {c : Nat} (h : KidsP w P e A c) (j : Nat) (hj : j < e.ks.length) :
    ∃ b off A2 c2, A = some ⟨b, off, none⟩ ∧ P b ∧ KidsP w P e.ks[j] A2 c2 ∧ w.cell? ⟨b, off + j * 6, none⟩ = some (.int .i64 e.ks[j].op) ∧ w.cell? ⟨b, off + j * 6 + 1, none⟩ = some (.string e.ks[j].nm) ∧ w.cell? ⟨b, off + j * 6 + 2, none⟩ = some (.int .i64 e.ks[j].v.k) ∧
      w.cell? ⟨b, off + j * 6 + 3, none⟩ = some (.int .i64 e.ks[j].v.n) ∧ w.cell? ⟨b, off + j * 6 + 4, none⟩ = some (.string e.ks[j].v.s) ∧ w.cell? ⟨b, off + j * 6 + 5, none⟩ = some (.slice A2 e.ks[j].ks.length c2) := by
  cases e
  simp only [KidsP] at h
  obtain ⟨b, off, A2, c2, h1, h2, h3, h4⟩ := KidsPL.at h.2.2 j hj
  rw [Nat.zero_add] at h3
  exact ⟨b, off, A2, c2, h1, h2, h4, h3 0 (by decide), h3 1 (by decide), h3 2 (by decide), h3 3 (by decide), h3 4 (by decide), h3 5 (by decide)⟩
/-- What is new lies in new blocks. -/
theorem Fresh.inP {B : Nat} {w : World} {e : X} {A : Option Addr} {c : Nat} (h : Fresh B w e A c) : KidsP w (fun k => B ≤ k ∧ k < w.heap.size) e A c := by
  have hw := h { w with heap := w.heap.mapIdx fun k o => if k < B then .deferred none else o } (by simp) (fun k h1 h2 => by
    simp only [Array.getElem?_mapIdx]
    rw [Array.getElem?_eq_getElem h2]
    simp [Nat.not_lt.2 h1])
  refine KidsAt.inP (fun k hk i v => ?_) (fun k hk => ?_) hw
  · simp only [World.cell?, Array.getElem?_mapIdx]
    by_cases h2 : k < w.heap.size
    · have h3 : k < B := by
        rcases Nat.lt_or_ge k B with h | h
        · exact h
        · exact absurd ⟨h, h2⟩ hk
      rw [Array.getElem?_eq_getElem h2]
      simp [h3]
    · rw [Array.getElem?_eq_none (by omega)]
      simp
  · simp only [Array.getElem?_mapIdx]
    rw [Array.getElem?_eq_getElem hk.2]
    simp [Nat.not_lt.2 hk.1]
/-- What comes behind pre. -/
def Yq (e : X) (Pk : Nat → Prop) (pre : List XA) (x : XA) (U : World) : Prop := (∃ post, allX e = pre.map XA.e ++ x.e :: post) ∧ KidsP U Pk x.e x.A x.c
theorem Yq.own {e : X} {Pk : Nat → Prop} {D : Nat} (hP : ∀ k, Pk k → k < D) (pre : List XA) : LoopOwn D (Yq e Pk pre) := fun x U V row h hg hr =>
  ⟨h.1, h.2.stay fun k h1 h2 => hg.block k h2 (fun e => by have := (hr k e.symm).1; have := hP k h1; omega)⟩
/-- What the iterator over e, called in W, needs of its own: e in block p, its yield, its Kids, its loops' marks. -/
structure Wq (e : X) (A : Option Addr) (c : Nat) (L : Nat) (Pk : Nat → Prop) (p s0 : Nat) (Ds : List Nat) (U : World) : Prop where
  hp : U.heap[p]? = some (e.obj A c)
  hy : U.heap[s0]? = some (.cells #[.func (.yield L) #[] #[]] 32)
  kids : KidsP U Pk e A c
  ds : ∀ D ∈ Ds, s0 ≤ D ∧ D < U.heap.size ∧ U.heap[D]? = some (.deferred (some []))
  size : s0 + 1 ≤ U.heap.size
  b : ∀ k, Pk k → k < s0
  ps : p < s0
section
variable {e : X} {A : Option Addr} {c : Nat} {L : Nat} {Pk : Nat → Prop} {p s0 : Nat} {Ds : List Nat} {U V : World}
theorem Wq.keep (h : Wq e A c L Pk p s0 Ds U) (hb : ∀ k, k < U.heap.size → (k < s0 → Pk k ∨ k = p) → (s0 < k → k ∈ Ds) → V.heap[k]? = U.heap[k]?) (hs : U.heap.size ≤ V.heap.size) : Wq e A c L Pk p s0 Ds V :=
  ⟨(hb p (by have := h.size; have := h.ps; omega) (fun _ => .inr rfl) (fun h2 => by have := h.ps; omega)).trans h.hp, (hb s0 h.size (fun h2 => by omega) (fun h2 => by omega)).trans h.hy, h.kids.stay fun k h1 h2 => hb k h2 (fun _ => .inl h1) (fun h3 => by have := h.b k h1; omega),
    fun D hD => by
      obtain ⟨h1, h2, h3⟩ := h.ds D hD
      refine ⟨h1, Nat.lt_of_lt_of_le h2 hs, (hb D h2 (fun h4 => by omega) (fun _ => hD)).trans h3⟩, Nat.le_trans h.size hs, h.b, h.ps⟩
theorem Wq.own {β : Type} {D : Nat} (hD : ∀ q ∈ Ds, q < D) (hs : s0 + 1 ≤ D) : LoopOwn D (fun (_ : β) U => Wq e A c L Pk p s0 Ds U) := fun _ U V row h hg hr =>
  h.keep (fun k hk h1 h2 => hg.block k hk (by
    intro e
    have := (hr k e.symm).1
    by_cases h3 : k < s0
    · omega
    · by_cases h4 : k = s0
      · omega
      · have := hD k (h2 (by omega)); omega)) hg.size
theorem Wq.kt {S : Nat → Prop} {T : Nat} (h : Wq e A c L Pk p s0 Ds U) (hT : T ≠ 32) (hk : Kt s0 S T U V) (hS : ∀ k, Pk k → S k) (hp : S p) : Wq e A c L Pk p s0 Ds V :=
  h.keep (fun k hk2 h1 h2 => hk.block k hk2 (by
    by_cases h3 : k < s0
    · rcases h1 h3 with h4 | rfl
      · exact .inl (hS k h4)
      · exact .inl hp
    · refine .inr ⟨by omega, fun cs fr e2 => ?_⟩
      by_cases h4 : k = s0
      · subst h4
        rw [h.hy] at e2
        injection e2 with e2
        injection e2 with _ e2 _
        exact hT e2.symm
      · obtain ⟨_, _, h5⟩ := h.ds k (h2 (by omega))
        rw [h5] at e2
        cases e2)) hk.size
end
set_option maxRecDepth 100000 in
set_option maxHeartbeats 16000000 in
theorem within_seqq : ∀ (e : X) (n : Nat) (hn : 4 ≤ n) (Pk : Nat → Prop) (p : Nat) (S : Nat → Prop) (T : Nat) (hT : T ≠ 32) (hT2 : T ≠ 26) (A : Option Addr) (c : Nat) (W : World) (hp : W.heap[p]? = some (e.obj A c)) (hk : KidsP W Pk e A c)
    (hB : ∀ k, Pk k → k < W.heap.size) (hSB : ∀ k, Pk k → S k) (hSp : S p) (hSW : ∀ k, S k → k < W.heap.size),
    SeqAt Fence.wide n Tryz.prog 89 #[.pointer (some ⟨p, 0, none⟩)] XA.enc (Yq e Pk) (Kt W.heap.size S T) (fun xs => xs.map XA.e = allX e) W := by
  refine X.ind ?_
  intro o nm v ks ih n hn Pk p S T hT hT2 A c W hp hk hB hSB hSp hSW L J Jx hJ hJx hY h0
  have hn1 : 1 ≤ n := by omega
  have hn2 : 1 ≤ n - 1 - 1 := by omega
  have hn3 : 1 ≤ n - 1 - 1 - 1 := by omega
  have HIH := Lib.hid ih
  have HJ := Lib.hid hJ
  have HJX := Lib.hid hJx
  have HY := Lib.hid hY
  have hps : p < W.heap.size := hSW p hSp
  have hws : Wq (.mk o nm v ks) A c L Pk p W.heap.size [] (W.alloc (.cells #[.func (.yield L) #[] #[]] 32)) :=
    ⟨(Below.heap_alloc W _ p hps).trans hp, World.alloc_heap_new W _, hk.stay (fun k h1 h2 => Below.heap_alloc W _ k h2), fun D hD => by simp at hD, by simp, hB, hps⟩
  have HWS := Lib.hid hws
  have HYY := Lib.hid (hY [] ⟨.mk o nm v ks, A, c⟩ (W.alloc (.cells #[.func (.yield L) #[] #[]] 32)) (hJ.grow h0 (World.grownBy_alloc W _ none)) ⟨⟨allL ks, by simp [allX]⟩, hws.kids⟩)
  clear ih hJ hJx hY hws hk
  refine callsIn_of_wp_marks Tryz.func89 rfl trivial ?_ rfl
  simp only [Tryz.ntmps89, List.size_toArray, List.length_cons, List.length_nil, Nat.reduceAdd, Nat.reduceSub, Array.replicate_succ, Array.replicate_zero, List.push_toArray, List.append_toArray, List.nil_append, List.cons_append]
  have c0 : W.cell? ⟨p, 0, none⟩ = some (.int .i64 o) := by simp [World.cell?, hp, X.obj, X.op]
  have c1 : W.cell? ⟨p, 1, none⟩ = some (.string nm) := by simp [World.cell?, hp, X.obj, X.nm]
  have c2 : W.cell? ⟨p, 2, none⟩ = some (.int .i64 v.k) := by simp [World.cell?, hp, X.obj, X.v]
  have c3 : W.cell? ⟨p, 3, none⟩ = some (.int .i64 v.n) := by simp [World.cell?, hp, X.obj, X.v]
  have c4 : W.cell? ⟨p, 4, none⟩ = some (.string v.s) := by simp [World.cell?, hp, X.obj, X.v]
  have c5 : W.cell? ⟨p, 5, none⟩ = some (.slice A ks.length c) := by simp [World.cell?, hp, X.obj, X.ks]
  obtain ⟨fn, tmps_, assign, body, hy, hR⟩ := HYY.out
  have HR := Lib.hid hR
  clear hR HYY
  unfold XA.enc X.val at hy
  simp only [X.op, X.nm, X.v, X.ks] at hy
  gi_wp2_with (refine (RoundIn.deep HR.out).mono ?_; rintro e W3 (⟨rfl, hJ3, hk3⟩ | ⟨rfl, hJ3, hk3⟩); all_goals (have HJ3 := Lib.hid hJ3; have HW3 := Lib.hid (HWS.out.kt hT hk3 hSB hSp); have d5 : W3.cell? ⟨p, 5, none⟩ = some (.slice A ks.length c) := (by simp [World.cell?, HW3.out.hp, X.obj, X.ks]); clear hJ3 hk3))
  · have HLEN := Lib.hid (by have := HWS.out.kids.len; unfold maxLen at this; simpa [X.ks] using this : ks.length ≤ c ∧ c ≤ 9223372036854775807)
    have HNEW := Lib.hid (show [XA.mk (.mk o nm v ks) A c].map XA.e = .mk o nm v ks :: allL (ks.take 0) from by simp [allL])
    refine wpIn_loop (fun a V => ∃ (k : Nat) (xs : List XA) (Ds : List Nat) (u4 u5 u14 u15 u16 u17 u18 u19 u20 u21 u22 u23 u24 : Value), (k ≤ ks.length ∧ Hid (xs.map XA.e = .mk o nm v ks :: allL (ks.take k)) ∧ Hid (J xs V) ∧ Hid (Wq (.mk o nm v ks) A c L Pk p W.heap.size Ds V) ∧ Hid (Ds.Pairwise (· ≠ ·))) ∧
      a = ⟨#[.func (.yield L) #[] #[], .pointer (some ⟨p, 0, none⟩), .pointer (some ⟨W.heap.size, 0, none⟩), undef, u4, u5, .func (.yield L) #[] #[], .agg #[.int .i64 o, .string nm, .int .i64 v.k, .int .i64 v.n, .string v.s, .slice A ks.length c], .bool true, .bool false, .pointer (some ⟨p, 5, none⟩),
        .slice A ks.length c, .int .i64 ks.length, .int .i64 k, u14, u15, u16, u17, u18, u19, u20, u21, u22, u23, u24], Ds.map markD⟩) (fun a _ => ks.length - (intOf (a.tmps.getD 13 undef)).toNat) ?start ?round
    case start => exact ⟨0, [⟨.mk o nm v ks, A, c⟩], [], _, _, _, _, _, _, _, _, _, _, _, _, _, ⟨Nat.zero_le _, HNEW, HJ3, HW3, Lib.hid .nil⟩, rfl⟩
    case round =>
      clear HNEW HJ3 HW3 d5 c0 c1 c2 c3 c4 c5 hp hy HR
      rintro a V ⟨k, xs, Ds, u4, u5, u14, u15, u16, u17, u18, u19, u20, u21, u22, u23, u24, ⟨hk, HXS, HJp, HWk, HP⟩, rfl⟩
      by_cases hlt : k < ks.length
      · obtain ⟨b, off, A2, c2, hA, hbB, hk2, c0, c1, c2', c3, c4, c5⟩ := HWk.out.kids.at6 k hlt
        have HA := Lib.hid hA
        simp only [X.ks] at hk2 c0 c1 c2' c3 c4 c5
        have HIHk := Lib.hid (HIH.out ks[k] (List.getElem_mem hlt))
        have HALL := Lib.hid (allL_at ks k hlt)
        have HTK := Lib.hid (allL_take ks k hlt)
        obtain ⟨x, hx⟩ : ∃ x, ks[k] = x := ⟨_, rfl⟩
        rw [hx] at hk2 c0 c1 c2' c3 c4 c5 HIHk HALL HTK
        clear hx
        obtain ⟨o2, nm2, v2, ks2⟩ := x
        simp only [X.op, X.nm, X.v, X.ks] at c0 c1 c2' c3 c4 c5
        have hbW : b < V.heap.size := by have := HWk.out.b b hbB; have := HWk.out.size; omega
        have i1 : (0 : Int) ≤ (k : Int) := by omega
        have i2 : (k : Int) < (ks.length : Int) := by omega
        have hW := within_any (.mk o2 nm2 v2 ks2) A2 c2
        unfold X.val X.obj at hW
        simp only [X.op, X.nm, X.v, X.ks] at hW
        have HWI := Lib.hid hW
        clear hW
        subst hA
        have HKX := Lib.hid hk2
        clear hk2
        gi_wp2_with (refine ⟨trivial, ?_⟩; gi_at_call 34; go_loud (refine (callsIn_wide.2 (HWI.out _)).mono ?_; rintro e w1 ⟨rfl, rfl⟩))
        obtain ⟨W0, hW0⟩ : ∃ W0, (V.alloc (.cells #[.int .i64 o2, .string nm2, .int .i64 v2.k, .int .i64 v2.n, .string v2.s, .slice A2 ks2.length c2] 26)).alloc (.cells #[.int .i64 o2, .string nm2, .int .i64 v2.k, .int .i64 v2.n, .string v2.s, .slice A2 ks2.length c2] 26) = W0 := ⟨_, rfl⟩
        have hsz : W0.heap.size = V.heap.size + 2 := by rw [← hW0]; simp
        have hg0 : V.grownBy W0 none := by rw [← hW0]; exact grown_of_below (((Below.refl _ V).alloc (Nat.le_refl _) _).alloc (by simp) _)
        have hq0 : W0.heap[V.heap.size + 1]? = some ((X.mk o2 nm2 v2 ks2).obj A2 c2) := by
          rw [← hW0]
          have := World.alloc_heap_new (V.alloc (.cells #[.int .i64 o2, .string nm2, .int .i64 v2.k, .int .i64 v2.n, .string v2.s, .slice A2 ks2.length c2] 26)) ((X.mk o2 nm2 v2 ks2).obj A2 c2)
          rwa [World.size_alloc] at this
        rw [hW0]
        have hVs := HWk.out.size
        have hBs := HWk.out.b
        have hSV : ∀ q, S q → q < V.heap.size := fun q h => by have := hSW q h; omega
        have hDs : ∀ q ∈ Ds, q < W0.heap.size := fun q h => by have := (HWk.out.ds q h).2.1; omega
        have HKT : Hid (KidsP W0 Pk (.mk o2 nm2 v2 ks2) A2 c2) := Lib.hid (HKX.out.stay (fun k h1 h2 => hg0.block k h2 (by simp)))
        clear hW0 c0 c1 c2' c3 c4 c5 HWI HKX
        have HWO := Lib.hid (Wq.own (β := List XA) (e := .mk o nm v ks) (A := some ⟨b, off, none⟩) (c := c) (L := L) (Pk := Pk) (p := p) (s0 := W.heap.size) (Ds := Ds) (D := W0.heap.size) hDs (by omega))
        have HL2 := Lib.hid HLEN.out.1
        refine range_nest2 rfl (by omega) (gf := 89) (lb := #[.pointer (some ⟨V.heap.size + 1, 0, none⟩)]) rfl trivial (enters_of Tryz.func89 (by kernel_rfl) rfl)
          (encs := XA.enc) (Y := Yq (.mk o2 nm2 v2 ks2) Pk) (Kp := Kt (W0.heap.size + 2) (fun q => S q ∨ q = V.heap.size + 1) T) (done := fun xs' => xs'.map XA.e = allX (.mk o2 nm2 v2 ks2))
          (fun W1 hg hs1 => by
            have h := HIHk.out 4 (Nat.le_refl _) Pk (V.heap.size + 1) (fun q => S q ∨ q = V.heap.size + 1) T hT hT2 A2 c2 W1 ((hg.block _ (by omega) (by simp)).trans hq0) (HKT.out.stay (fun k h1 h2 => hg.block k h2 (by simp)))
              (fun k h1 => by have := hBs k h1; omega) (fun k hk => .inl (hSB k hk)) (.inr rfl) (fun q hq => hq.elim (fun h => by have := hSV q h; omega) (fun h => by omega))
            rw [hs1] at h
            exact SeqAt.deep h)
          (fun x => rfl) Kt.trans Kt.grown (fun U o => Kt.put (fun q hq => hq.elim (fun h => by have := hSV q h; omega) (fun h => by omega)) rfl (fun hq => hq.elim (fun h => by have := hSV _ h; omega) (fun h => by omega)) o)
          (fun pre U => ((J (xs ++ pre) U ∧ Wq (.mk o nm v ks) (some ⟨b, off, none⟩) c L Pk p W.heap.size Ds U) ∧ U.heap[V.heap.size + 1]? = some ((X.mk o2 nm2 v2 ks2).obj A2 c2)) ∧ W0.heap.size + 2 ≤ U.heap.size)
          (fun c2 pre U => (c2 = .ret ∧ Wq (.mk o nm v ks) (some ⟨b, off, none⟩) c L Pk p W.heap.size Ds U) ∧ ∃ ns, Jx ns U)
          (((((HJ.out.mono (by omega)).map (xs ++ ·)).and HWO.out).and (LoopOwn.blk (by omega))).and LoopOwn.size_)
          (fun c3 => ((LoopOwn.pure_ (fun _ => c3 = .ret)).and HWO.out).and (LoopOwn.ex (HJX.out.mono (by omega))))
          (fun pre => Yq.own (fun k h1 => by have := hBs k h1; omega) pre) ?start boxX (fun x U => World.grownBy_alloc U _ none) AtX (fun x U r r' hb => AtX.made hb.lt _) ?a1 ?assign ?body ?done ?stop
        case start =>
          intro W1 hg hs1
          refine ⟨⟨⟨?_, ?_⟩, (hg.block _ (by omega) (by simp)).trans hq0⟩, by omega⟩
          · rw [List.append_nil]
            exact HJ.out.grow (HJ.out.grow HJp.out hg0) hg
          · exact (Wq.own (β := Unit) (D := V.heap.size) (fun q h => (HWk.out.ds q h).2.1) (by omega)).grow (s := ()) ((Wq.own (β := Unit) (D := V.heap.size) (fun q h => (HWk.out.ds q h).2.1) (by omega)).grow (s := ()) HWk.out hg0) hg
        case assign =>
          intro l0 x U K hK
          unfold XA.enc X.val
          gi_wp2
          exact hK
        case body =>
          rintro l0 pre x U V2 ⟨⟨⟨hJp2, hW2⟩, hq2⟩, hVs2⟩ ⟨⟨post, hpre⟩, hkx⟩ hat ⟨rb, hbk⟩
          have hat2 : V2.heap[U.heap.size]? = some (x.e.obj x.A x.c) := hat
          have e0 : V2.cell? ⟨U.heap.size, 0, none⟩ = some (.int .i64 x.e.op) := by simp [World.cell?, hat2, X.obj]
          have e1 : V2.cell? ⟨U.heap.size, 1, none⟩ = some (.string x.e.nm) := by simp [World.cell?, hat2, X.obj]
          have e2 : V2.cell? ⟨U.heap.size, 2, none⟩ = some (.int .i64 x.e.v.k) := by simp [World.cell?, hat2, X.obj]
          have e3 : V2.cell? ⟨U.heap.size, 3, none⟩ = some (.int .i64 x.e.v.n) := by simp [World.cell?, hat2, X.obj]
          have e4 : V2.cell? ⟨U.heap.size, 4, none⟩ = some (.string x.e.v.s) := by simp [World.cell?, hat2, X.obj]
          have e5 : V2.cell? ⟨U.heap.size, 5, none⟩ = some (.slice x.A x.e.ks.length x.c) := by simp [World.cell?, hat2, X.obj]
          have y4 : V2.cell? ⟨W.heap.size, 0, none⟩ = some (.func (.yield L) #[] #[]) := by simp [World.cell?, hW2.hy]
          obtain ⟨fn, tmps_, assign, body, hy, hR⟩ := HY.out (xs ++ pre) x V2 hJp2 ⟨⟨post ++ allL (ks.drop (k + 1)), by
            rw [List.map_append, HXS.out]
            show X.mk o nm v ks :: allL ks = _
            rw [HALL.out, hpre]
            simp⟩, hkx⟩
          have HR := Lib.hid hR
          unfold XA.enc X.val at hy
          have HQ2 := Lib.hid hq2
          have HW2 := Lib.hid hW2
          have HBK := Lib.hid hbk
          have HVS2 := Lib.hid hVs2
          have HRG := Lib.hid (show W.heap.size < W0.heap.size from by omega)
          have hkt : ∀ V3, Kt W.heap.size S T V2 V3 → BookKept W0.heap.size V2 V3 ∧ Kt (W0.heap.size + 2) (fun q => S q ∨ q = V.heap.size + 1) T V2 V3 ∧ V3.heap[V.heap.size + 1]? = some ((X.mk o2 nm2 v2 ks2).obj A2 c2) := fun V3 h3 => by
            have hqq : V3.heap[V.heap.size + 1]? = V2.heap[V.heap.size + 1]? := h3.block _ (by have := HVS2.out; omega) (.inr ⟨by omega, fun cs fr e => by
              rw [HQ2.out] at e
              injection e with e
              injection e with _ e _
              exact hT2 e.symm⟩)
            refine ⟨⟨h3.block _ (by have := HVS2.out; omega) (.inr ⟨by omega, fun cs fr e => by rw [HBK.out.dfr] at e; cases e⟩), h3.block _ (by have := HVS2.out; omega) (.inr ⟨by omega, fun cs fr e => by rw [HBK.out.rcd] at e; cases e⟩)⟩, ⟨h3.os, h3.tape, h3.output, h3.size, fun q hq hs => ?_⟩, hqq.trans HQ2.out⟩
            rcases hs with (h | rfl) | ⟨h1, h2⟩
            · exact h3.block q hq (.inl h)
            · exact hqq
            · exact h3.block q hq (.inr ⟨by omega, h2⟩)
          have HKT2 := Lib.hid hkt
          clear hR hJp2 hW2 hq2 hVs2 hpre hkx hat hat2 hbk hkt
          gi_wp2_with (refine (RoundIn.deep HR.out).mono ?_; rintro e W3 (⟨rfl, hJ3, hk3⟩ | ⟨rfl, hJ3, hk3⟩); all_goals (have HJ3 := Lib.hid hJ3; have HK3 := Lib.hid hk3; clear hJ3 hk3))
          · have hh := HKT2.out _ HK3.out
            exact ⟨hh.1, hh.2.1, ⟨⟨by rw [← List.append_assoc]; exact HJ3.out, HW2.out.kt hT HK3.out hSB hSp⟩, hh.2.2⟩, Nat.le_trans HVS2.out HK3.out.size⟩
          · have hh := HKT2.out _ HK3.out
            exact ⟨hh.1, hh.2.1, ⟨rfl, HW2.out.kt hT HK3.out hSB hSp⟩, _, HJ3.out⟩
        case done =>
          rintro xs' V2 hxs ⟨⟨⟨hJp2, hW2⟩, hq2⟩, hVs2⟩ hK
          have hxs2 : xs'.map XA.e = allX (.mk o2 nm2 v2 ks2) := hxs
          have HX2 := Lib.hid (show (xs ++ xs').map XA.e = .mk o nm v ks :: allL (ks.take (k + 1)) from by rw [List.map_append, HXS.out, hxs2, HTK.out]; rfl)
          have HJ2 := Lib.hid hJp2
          have hds : ∀ D ∈ W0.heap.size :: Ds, W.heap.size ≤ D ∧ D < V2.heap.size ∧ V2.heap[D]? = some (.deferred (some [])) := fun D hD => by
            rcases List.mem_cons.1 hD with rfl | hD
            · exact ⟨by omega, by omega, hK⟩
            · exact hW2.ds D hD
          have HW2 := Lib.hid (show Wq (.mk o nm v ks) (some ⟨b, off, none⟩) c L Pk p W.heap.size (W0.heap.size :: Ds) V2 from ⟨hW2.hp, hW2.hy, hW2.kids, hds, hW2.size, hW2.b, hW2.ps⟩)
          have HP2 := Lib.hid (List.Pairwise.cons (a := W0.heap.size) (R := (· ≠ ·)) (fun q hq e => by have := hDs q hq; omega) HP.out)
          have hl1 : k + 1 ≤ 9223372036854775807 := by have := HLEN.out; omega
          clear hxs hxs2 hJp2 hW2 hq2 hVs2 hK hds
          gi_wp2
          have hac : ∀ a : Act, a.defers = { target := .collected W0.heap.size, args := #[] } :: List.map markD Ds → a = ⟨a.tmps, List.map markD (W0.heap.size :: Ds)⟩ := fun a h => by
            rw [List.map_cons]
            unfold markD at h ⊢
            rw [← h]
          refine ⟨⟨k + 1, xs ++ xs', W0.heap.size :: Ds, _, _, _, _, _, _, _, _, _, _, _, _, _, ⟨by omega, HX2, HJ2, HW2, HP2⟩, hac _ rfl⟩, ?_⟩
          simp [intOf]
          omega
        case stop =>
          rintro cc pre V2 ⟨⟨rfl, hW2⟩, ns, hJx⟩ hK
          have HJ3 := Lib.hid hJx
          have hds : ∀ D ∈ W0.heap.size :: Ds, W.heap.size ≤ D ∧ V2.heap[D]? = some (.deferred (some [])) := fun D hD => by
            rcases List.mem_cons.1 hD with rfl | hD
            · exact ⟨by omega, hK⟩
            · exact ⟨(hW2.ds D hD).1, (hW2.ds D hD).2.2⟩
          have HDS := Lib.hid hds
          have HP2 := Lib.hid (List.Pairwise.cons (a := W0.heap.size) (R := (· ≠ ·)) (fun q hq e => by have := hDs q hq; omega) HP.out)
          clear hW2 hJx hK hds
          gi_wp2
          exact leaves_marks (Ds := W0.heap.size :: Ds) HJX.out (fun V => by simp [results, Tryz.results89, go_sem]; rfl) (fun V h => ⟨⟨_, rfl⟩, .inr ⟨_, h⟩⟩) V2 HP2.out HDS.out HJ3.out
      · have hke : ks.take k = ks := List.take_of_length_le (by omega)
        have HE := Lib.hid (show xs.map XA.e = allX (.mk o nm v ks) from by rw [HXS.out, hke]; rfl)
        have HDS := Lib.hid (show ∀ D ∈ Ds, W.heap.size ≤ D ∧ V.heap[D]? = some (.deferred (some [])) from fun D hD => ⟨(HWk.out.ds D hD).1, (HWk.out.ds D hD).2.2⟩)
        clear hke
        gi_wp2
        exact leaves_marks (Ds := Ds) HJ.out (fun V => by simp [results, Tryz.results89, go_sem]; rfl) (fun V h => ⟨⟨_, rfl⟩, .inl ⟨_, HE.out, h⟩⟩) V HP.out HDS.out HJp.out
  · exact leaves_marks (Ds := []) HJX.out (fun V => by simp [results, Tryz.results89, go_sem]; rfl) (fun V h => ⟨⟨_, rfl⟩, .inr ⟨_, h⟩⟩) W3 .nil (by simp) HJ3.out
end Go.Proofs.YtclcabdekeegdaaGreat
