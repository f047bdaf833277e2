/- Layer 13, walked: Walk, and its iterators. -/
import Derived.Test.YtclcabdekeegdaaGreatExZ6
import Derived.Test.YtclcabdekeegdaaGreatExC
namespace Go.Proofs.YtclcabdekeegdaaGreat
attribute [local go_sem] Oper.semAt_some
open Go Go.ChangeShapes Go.WideShapes Go.ChangeAt Go.RowKit
set_option linter.unusedVariables false
set_option linter.unusedSimpArgs false
mutual
theorem KidsP.imp {w : World} {P Q : Nat → Prop} (h : ∀ k, P k → Q k) : ∀ {e : X} {A : Option Addr} {c : Nat}, KidsP w P e A c → KidsP w Q e A c
  | .mk _ _ _ ks, A, c, hk => by
    simp only [KidsP] at hk ⊢
    exact ⟨hk.1, hk.2.1, KidsPL.imp h hk.2.2⟩
theorem KidsPL.imp {w : World} {P Q : Nat → Prop} (h : ∀ k, P k → Q k) : ∀ {l : List X} {A : Option Addr} {i : Nat}, KidsPL w P l A i → KidsPL w Q l A i
  | [], _, _, _ => by simp only [KidsPL]
  | k :: ks, A, i, hk => by
    simp only [KidsPL] at hk ⊢
    obtain ⟨⟨b, off, A2, c2, e, hlt, hc, hk1⟩, h2⟩ := hk
    exact ⟨⟨b, off, A2, c2, e, h b hlt, hc, KidsP.imp h hk1⟩, KidsPL.imp h h2⟩
end
mutual
/-- What has cells stays where records of loops turn. -/
theorem KidsAt.book {U V : World} {row : Option Nat} {B : Nat} (hg : U.grownBy V row) (hr : ∀ r, row = some r → ∃ o, U.heap[r]? = some o ∧ bookish o) : ∀ {e : X} {A : Option Addr} {c : Nat}, KidsAt U B e A c → KidsAt V B e A c
  | .mk _ _ _ ks, A, c, h => by
    simp only [KidsAt] at h ⊢
    exact ⟨h.1, h.2.1, KidsL.book hg hr h.2.2⟩
theorem KidsL.book {U V : World} {row : Option Nat} {B : Nat} (hg : U.grownBy V row) (hr : ∀ r, row = some r → ∃ o, U.heap[r]? = some o ∧ bookish o) : ∀ {l : List X} {A : Option Addr} {i : Nat}, KidsL U B l A i → KidsL V B l A i
  | [], _, _, h => by simp only [KidsL]
  | k :: ks, A, i, h => by
    simp only [KidsL] at h ⊢
    obtain ⟨⟨b, off, A2, c2, e, hlt, hc, hk⟩, h2⟩ := h
    refine ⟨⟨b, off, A2, c2, e, hlt, fun j hj => ?_, KidsAt.book hg hr hk⟩, KidsL.book hg hr h2⟩
    refine (World.cell?_of_block (w := U) (a := ⟨b, _, none⟩) (hg.block b (World.block_lt_of_cell? U _ (hc j hj)) (fun e => ?_))).trans (hc j hj)
    obtain ⟨o, ho, hb⟩ := hr b e.symm
    have h3 := hc j hj
    cases o <;> simp_all [bookish, World.cell?]
end
/-- What Walk hands out: the next one, as a copy. -/
def Yw (e : X) (pre : List XA) (x : XA) (U : World) : Prop := (∃ post, allX e = pre.map XA.e ++ x.e :: post) ∧ KidsAt U U.heap.size x.e x.A x.c
theorem Yw.own {e : X} {D : Nat} (pre : List XA) : LoopOwn D (Yw e pre) := fun x U V row h hg hr =>
  ⟨h.1, KidsAt.more hg.size (KidsAt.book hg (fun r e => (hr r e).2) h.2)⟩
/-- What Walk answers. -/
def WalkPost (e : X) (w : World) (en : Ending) (w' : World) : Prop :=
  Below w.heap.size w w' ∧ ((checkX e ≠ 0 ∧ en = .returned (.func (.func 50) #[] #[])) ∨
    (checkX e = 0 ∧ ∃ p A2 c2, en = .returned (.func (.func 52) #[] #[.pointer (some ⟨p, 0, none⟩)]) ∧ w'.heap[p]? = some (e.obj A2 c2) ∧ KidsP w' (fun k => w.heap.size ≤ k ∧ k < p) e A2 c2 ∧ w.heap.size ≤ p))
set_option maxHeartbeats 8000000 in
set_option maxRecDepth 40000 in
theorem walk_any (e : X) (hw : e.wf) (A : Option Addr) (c : Nat) (w : World) (hk : KidsAt w w.heap.size e A c) : Calls Tryz.prog 21 #[e.val A c] w (WalkPost e w) := by
  obtain ⟨W1, hW1⟩ : ∃ W1, w.alloc (e.obj A c) = W1 := ⟨_, rfl⟩
  have hb1 : Below w.heap.size w W1 := by rw [← hW1]; exact (Below.refl _ _).alloc (Nat.le_refl _) _
  have hq1 : W1.heap[w.heap.size]? = some (e.obj A c) := by rw [← hW1]; exact obj_box _ _ _ _
  have HCK := Lib.hid (check_any_x e hw A c W1 (KidsAt.more hb1.size (hk.below hb1)))
  have HCL := Lib.hid (fun (W : World) (h : Below w.heap.size w W) (hc : cnt e ≤ lim6) => clone_any e A c W hc (KidsAt.more h.size (hk.below h)))
  have HQ := Lib.hid hq1
  have HB1 := Lib.hid hb1
  obtain ⟨p0, p1, p2, p3, p4, p5⟩ := obj_cells hq1
  have hmf : ∀ (fn : Fn) (first cap : Array Value) (w : World), (Instr.makeFunc fn first cap).run Tryz.prog w = .ok (.func fn first cap) w := fun _ _ _ _ => rfl
  obtain ⟨E, hE⟩ : ∃ E, checkX e = E := ⟨_, rfl⟩
  have HE := Lib.hid hE
  rw [hE] at HCK
  unfold ClonePost2 at HCL
  clear hb1 hq1 hk hE hw
  unfold X.obj at hW1
  unfold X.val at HCK HCL ⊢
  by_cases h0 : E = 0
  · subst h0
    have HCN := Lib.hid (show cnt e ≤ lim6 by have := cnt_check HE.out; unfold lim6; omega)
    go_enter Tryz.func21, Tryz.ntmps21
    go_wp2_with (first
      | (go_at_call 12; refine HCK.out.mono ?_; rintro en w2 ⟨rfl, hb2⟩; clear p0 p1 p2 p3 p4 p5; have HQ2 := Lib.hid ((hb2.block _ (lt_of_heap HQ.out)).trans HQ.out); obtain ⟨p0, p1, p2, p3, p4, p5⟩ := obj_cells HQ2.out; have HB2 := Lib.hid (hop0 HB1.out hb2); clear hb2)
      | (go_at_call 51; refine (HCL.out _ HB2.out HCN.out).mono ?_; rintro en w3 ⟨A2, c2, rfl, hf3, hb3⟩; have HF3 := Lib.hid hf3; have HB3 := Lib.hid (hop0 HB2.out hb3); clear hf3 hb3))
    go_ret
    refine ⟨HB3.out.alloc HB3.out.size _, .inr ⟨HE.out, w3.heap.size, A2, c2, by simp, World.alloc_heap_new w3 _, ?_, HB3.out.size⟩⟩
    exact (HF3.out.inP.imp fun k h => ⟨Nat.le_trans HB2.out.size h.1, h.2⟩).stay fun k h1 h2 => Below.heap_alloc w3 _ k h2
  · have q0 : (E != 0) = true := by simpa using h0
    have HX := Lib.hid (show checkX e ≠ 0 by rw [HE.out]; exact h0)
    clear h0
    go_enter Tryz.func21, Tryz.ntmps21
    go_wp2_with (go_at_call 12; refine HCK.out.mono ?_; rintro en w2 ⟨rfl, hb2⟩; have HB2 := Lib.hid (hop0 HB1.out hb2); clear hb2)
    go_ret
    exact ⟨HB2.out, .inl ⟨HX.out, by simp⟩⟩
/-- Nothing comes. -/
theorem walk1_seq (n : Nat) (hn : 1 ≤ n) {Y : List XA → XA → World → Prop} {Kp : World → World → Prop} (W : World) : SeqAt Fence.wide n Tryz.prog 50 #[] XA.enc Y Kp (fun xs => xs = []) W := by
  intro L J Jx hJ hJx hY h0
  have H0 := Lib.hid h0
  clear hJ hJx hY h0
  refine callsIn_of_wp_marks Tryz.func50 rfl trivial ?_ rfl
  simp only [Tryz.ntmps50, List.size_toArray, List.length_cons, List.length_nil, Nat.reduceAdd, Nat.reduceSub, Array.replicate_succ, Array.replicate_zero, List.push_toArray, List.append_toArray, List.nil_append, List.cons_append]
  gi_wp2
  exact ⟨_, by simp [results, Tryz.results50, go_sem]; rfl, ⟨_, rfl⟩, .inl ⟨[], rfl, H0.out⟩⟩
/-- Between two rounds of Walk's iterator. -/
structure W2I (J : List XA → World → Prop) (e : X) (A : Option Addr) (c L s m : Nat) (pre : List XA) (U : World) : Prop where
  j : ∃ pre', pre'.map XA.e = pre.map XA.e ∧ J pre' U
  y : U.heap[s]? = some (.cells #[.func (.yield L) #[] #[]] 32)
  q : U.heap[s + 1]? = some (e.obj A c)
  size : m ≤ U.heap.size
theorem W2I.own {J : List XA → World → Prop} {e : X} {A : Option Addr} {c L s m D : Nat} (hJ : LoopOwn D J) (hs : s + 1 < D) : LoopOwn D (W2I J e A c L s m) := fun pre U V row h hg hr =>
  ⟨by obtain ⟨p, h1, h2⟩ := h.j; exact ⟨p, h1, hJ _ _ _ _ h2 hg hr⟩, (LoopOwn.blk (β := Unit) (B := D) (by omega)) () U V row h.y hg hr, (LoopOwn.blk (β := Unit) (B := D) (by omega)) () U V row h.q hg hr, Nat.le_trans h.size hg.size⟩
theorem w2_step {J : List XA → World → Prop} {e : X} {A : Option Addr} {c L s m D T : Nat} {S : Nat → Prop} {pre : List XA} {V2 w3 W3 : World} (hT : T ≠ 32) (hT2 : T ≠ 26) (hI : W2I J e A c L s m pre V2) (hbk : ∃ r, Book D r V2) (hD : s + 2 ≤ D)
    (hb : Below V2.heap.size V2 w3) (hk : Kt s S T w3 W3) :
    BookKept D V2 W3 ∧ Kt (D + 2) (fun q => S q ∨ q = s + 1) T V2 W3 ∧ W3.heap[s]? = some (.cells #[.func (.yield L) #[] #[]] 32) ∧ W3.heap[s + 1]? = some (e.obj A c) ∧ m ≤ W3.heap.size := by
  obtain ⟨r, hbk⟩ := hbk
  have hblk : ∀ k o, V2.heap[k]? = some o → s ≤ k → (∀ cs fr, o ≠ .cells cs T fr) → W3.heap[k]? = some o := fun k o ho hs hn => by
    have h3 := (hb.block k (Array.getElem?_eq_some_iff.1 ho).1).trans ho
    exact (hk.block k (Array.getElem?_eq_some_iff.1 h3).1 (.inr ⟨hs, fun cs fr h => by rw [h3] at h; injection h with h; exact hn _ _ h⟩)).trans h3
  have hq := hblk _ _ hI.q (Nat.le_succ _) (fun cs fr h => by injection h with _ h _; exact hT2 h.symm)
  refine ⟨⟨(hblk _ _ hbk.dfr (by omega) (fun cs fr h => by cases h)).trans hbk.dfr.symm, (hblk _ _ hbk.rcd (by omega) (fun cs fr h => by cases h)).trans hbk.rcd.symm⟩,
    ⟨hk.os.trans hb.os, hk.tape.trans hb.tape, hk.output.trans hb.output, Nat.le_trans hb.size hk.size, fun k hlt hs => ?_⟩, hblk _ _ hI.y (Nat.le_refl _) (fun cs fr h => by injection h with _ h _; exact hT h.symm), hq, Nat.le_trans hI.size (Nat.le_trans hb.size hk.size)⟩
  rcases hs with (h | rfl) | ⟨h1, h2⟩
  · exact (hk.block k (Nat.lt_of_lt_of_le hlt hb.size) (.inl h)).trans (hb.block k hlt)
  · exact hq.trans hI.q.symm
  · exact (hk.block k (Nat.lt_of_lt_of_le hlt hb.size) (.inr ⟨by omega, fun cs fr h => h2 cs fr (by rw [← hb.block k hlt]; exact h)⟩)).trans (hb.block k hlt)
theorem cnt_mem {e : X} : ∀ {x : X}, x ∈ allX e → cnt x ≤ cnt e := by
  refine X.ind (P := fun e => ∀ {x : X}, x ∈ allX e → cnt x ≤ cnt e) ?_ e
  intro o n v ks ih x hx
  simp only [allX, List.mem_cons] at hx
  rcases hx with rfl | hx
  · exact Nat.le_refl _
  · have h : ∀ l : List X, x ∈ allL l → ∃ k ∈ l, x ∈ allX k := by
      intro l
      induction l with
      | nil => intro h; simp [allL] at h
      | cons y l ih2 =>
        intro h
        simp only [allL, List.mem_append] at h
        rcases h with h | h
        · exact ⟨y, by simp, h⟩
        · obtain ⟨k, h1, h2⟩ := ih2 h
          exact ⟨k, by simp [h1], h2⟩
    obtain ⟨k, h1, h2⟩ := h ks hx
    have h3 := ih k h1 h2
    have h4 := (cnt_kid (o := o) (n := n) (v := v)).1 k h1
    omega
set_option maxRecDepth 100000 in
set_option maxHeartbeats 16000000 in
theorem walk2_seq (e : X) (hcn : cnt e ≤ lim6) (n : Nat) (hn : 6 ≤ n) (Pk : Nat → Prop) (p : Nat) (S : Nat → Prop) (T : Nat) (hT : T ≠ 32) (hT2 : T ≠ 26) (A : Option Addr) (c : Nat) (W : World) (hp : W.heap[p]? = some (e.obj A c)) (hk : KidsP W Pk e A c)
    (hB : ∀ k, Pk k → k < W.heap.size) (hSB : ∀ k, Pk k → S k) (hSp : S p) (hSW : ∀ k, S k → k < W.heap.size) :
    SeqAt Fence.wide n Tryz.prog 52 #[.pointer (some ⟨p, 0, none⟩)] XA.enc (Yw e) (Kt W.heap.size S T) (fun xs => xs.map XA.e = allX e) W := by
  intro L J Jx hJ hJx hY h0
  have hn1 : 1 ≤ n := by omega
  have hn2 : 1 ≤ n - 1 - 1 := by omega
  have hn3 : 1 ≤ n - 1 - 1 - 1 := by omega
  have HJ := Lib.hid hJ
  have HJX := Lib.hid hJx
  have HY := Lib.hid hY
  have HWI := Lib.hid (within_any e A c)
  have HCN := Lib.hid (fun (x : XA) (h : x.e ∈ allX e) => show cnt x.e ≤ lim6 from Nat.le_trans (cnt_mem h) hcn)
  obtain ⟨W0, hW0⟩ : ∃ W0, (W.alloc (.cells #[.func (.yield L) #[] #[]] 32)).alloc (e.obj A c) = W0 := ⟨_, rfl⟩
  have hsz : W0.heap.size = W.heap.size + 2 := by rw [← hW0]; simp
  have hg0 : W.grownBy W0 none := by rw [← hW0]; exact grown_of_below (((Below.refl _ W).alloc (Nat.le_refl _) _).alloc (by simp) _)
  have hy0 : W0.heap[W.heap.size]? = some (.cells #[.func (.yield L) #[] #[]] 32) := by rw [← hW0]; exact (Below.heap_alloc _ _ _ (by simp)).trans (World.alloc_heap_new W _)
  have hq0 : W0.heap[W.heap.size + 1]? = some (e.obj A c) := by
    rw [← hW0]
    have := World.alloc_heap_new (W.alloc (.cells #[.func (.yield L) #[] #[]] 32)) (e.obj A c)
    rwa [World.size_alloc] at this
  have HK0 := Lib.hid (hk.stay fun k h1 h2 => hg0.block k h2 (by simp))
  have HJ0 := Lib.hid (hJ.grow h0 hg0)
  obtain ⟨c0, c1, c2, c3, c4, c5⟩ := obj_cells hp
  have hps : p < W.heap.size := hSW p hSp
  unfold X.val X.obj at HWI
  unfold X.obj at hW0
  clear hJ hJx hY h0 hk hp hg0
  refine callsIn_of_wp_marks Tryz.func52 rfl trivial ?_ rfl
  simp only [Tryz.ntmps52, List.size_toArray, List.length_cons, List.length_nil, Nat.reduceAdd, Nat.reduceSub, Array.replicate_succ, Array.replicate_zero, List.push_toArray, List.append_toArray, List.nil_append, List.cons_append]
  gi_wp2_with (refine ⟨trivial, ?_⟩; gi_at_call 34; go_loud (refine (callsIn_wide.2 (HWI.out _)).mono ?_; rintro e w1 ⟨rfl, rfl⟩))
  try rw [hW0]
  clear HWI hW0 c0 c1 c2 c3 c4 c5
  refine range_nest2 rfl (by omega) (gf := 89) (lb := #[.pointer (some ⟨W.heap.size + 1, 0, none⟩)]) rfl trivial (enters_of Tryz.func89 (by kernel_rfl) rfl)
    (encs := XA.enc) (Y := Yq e Pk) (Kp := Kt (W0.heap.size + 2) (fun q => S q ∨ q = W.heap.size + 1) T) (done := fun xs' => xs'.map XA.e = allX e)
    (fun W1 hg hs1 => by
      have h := within_seqq e 4 (Nat.le_refl _) Pk (W.heap.size + 1) (fun q => S q ∨ q = W.heap.size + 1) T hT hT2 A c W1 ((hg.block _ (by omega) (by simp)).trans hq0) (HK0.out.stay (fun k h1 h2 => hg.block k h2 (by simp)))
        (fun k h1 => by have := hB k h1; omega) (fun k hk => .inl (hSB k hk)) (.inr rfl) (fun q hq => hq.elim (fun h => by have := hSW q h; omega) (fun h => by omega))
      rw [hs1] at h
      exact SeqAt.deep h)
    (fun x => rfl) Kt.trans Kt.grown (fun U o => Kt.put (fun q hq => hq.elim (fun h => by have := hSW q h; omega) (fun h => by omega)) rfl (fun hq => hq.elim (fun h => by have := hSW _ h; omega) (fun h => by omega)) o)
    (W2I J e A c L W.heap.size (W0.heap.size + 2))
    (fun c2 pre U => c2 = .ret ∧ ∃ ns, Jx ns U)
    (W2I.own (HJ.out.mono (by omega)) (by omega))
    (fun c3 => (LoopOwn.pure_ (fun _ => c3 = .ret)).and (LoopOwn.ex (HJX.out.mono (by omega))))
    (fun pre => Yq.own (fun k h1 => by have := hB k h1; omega) pre) ?start boxX (fun x U => World.grownBy_alloc U _ none) AtX (fun x U r r' hb => AtX.made hb.lt _) ?a1 ?assign ?body ?done ?stop
  case start =>
    intro W1 hg hs1
    exact ⟨⟨[], rfl, HJ.out.grow HJ0.out hg⟩, (hg.block _ (by omega) (by simp)).trans hy0, (hg.block _ (by omega) (by simp)).trans hq0, by omega⟩
  case assign =>
    intro l0 x U K hK
    unfold XA.enc X.val
    gi_wp2
    exact hK
  case body =>
    rintro l0 pre x U V2 hI ⟨⟨post, hpre⟩, hkx⟩ hat ⟨rb, hbk⟩
    obtain ⟨d0, d1, d2, d3, d4, d5⟩ := obj_cells hat
    have y0 : V2.cell? ⟨W.heap.size, 0, none⟩ = some (.func (.yield L) #[] #[]) := by simp [World.cell?, hI.y]
    have hmem : x.e ∈ allX e := by rw [hpre]; simp
    obtain ⟨pre', hp1, hp2⟩ := hI.j
    have hk2 : KidsAt V2 V2.heap.size x.e x.A x.c := hkx.kids fun k h => by have := hB k h; have := hI.size; omega
    have HCL := Lib.hid (clone_any x.e x.A x.c V2 (HCN.out x hmem) hk2)
    have HCLU := Lib.hid (fun (V : World) (h : Below V2.heap.size V2 V) => clone_any x.e x.A x.c V (HCN.out x hmem) (KidsAt.more h.size (hk2.below h)))
    unfold ClonePost2 X.val at HCLU
    have HYY := Lib.hid (fun (V : World) (A2 : Option Addr) (c2 : Nat) (h : Below V2.heap.size V2 V) (hf : KidsAt V V.heap.size x.e A2 c2) => HY.out pre' ⟨x.e, A2, c2⟩ V (HJ.out.grow hp2 (grown_of_below h)) ⟨⟨post, by rw [hp1]; exact hpre⟩, hf⟩)
    have HI := Lib.hid hI
    have HBK := Lib.hid hbk
    have HP1 := Lib.hid hp1
    have HSU := Lib.hid (show W.heap.size + 1 < V2.heap.size from (Array.getElem?_eq_some_iff.1 hI.q).1)
    clear HCL hI hpre hkx hat hbk hp1 hp2 hk2 hmem
    have mixed : Tryz.prog.follows .mixedOrders = true := by kernel_rfl
    gi_wp2
    gi_region_with_o (first
      | (refine ⟨trivial, ?_⟩; gi_at_call 51; go_loud ((refine (CallsIn.inRound l0 (callsIn_wide.2 (HCLU.out V2.drew (Below.refl _ V2).drew))).mono ?_; rintro en w3 ⟨A2, c2, rfl, hf3, hb3⟩; have hb4 : Below V2.heap.size V2 w3 := ⟨hb3.os, hb3.tape, hb3.output, hb3.size, hb3.block⟩; have HB3 := Lib.hid hb4; have y0 := (hb4.cell (p := ⟨W.heap.size, 0, none⟩) (Nat.lt_of_succ_lt HSU.out)).trans y0; obtain ⟨fn, tmps_, assign, body, hy, hR⟩ := HYY.out w3 A2 c2 hb4 hf3.kids; have HR := Lib.hid hR; unfold XA.enc X.val at hy; clear hR hf3 hb3 hb4)))
      | (refine (RoundIn.deep HR.out).mono ?_; rintro e W3 h3; obtain ⟨hv, he4, h4⟩ := two_ways h3; have H3 := Lib.hid h4; clear h3 h4; subst he4))
    all_goals (have h3 := H3.out; clear H3; rcases h3 with ⟨rfl, hJ3, hk3⟩ | ⟨rfl, hJ3, hk3⟩)
    all_goals (have HJ3 := Lib.hid hJ3; have HW := Lib.hid (w2_step hT hT2 HI.out ⟨_, HBK.out⟩ (Nat.le_of_eq hsz.symm) HB3.out hk3); clear hJ3 hk3)
    all_goals gi_wp2
    all_goals first
      | exact ⟨HW.out.1, HW.out.2.1, ⟨⟨pre' ++ [⟨x.e, A2, c2⟩], by simp [HP1.out], HJ3.out⟩, HW.out.2.2.1, HW.out.2.2.2.1, HW.out.2.2.2.2⟩⟩
      | exact ⟨HW.out.1, HW.out.2.1, rfl, _, HJ3.out⟩
  case done =>
    rintro xs V hxs hI hK
    have hxs2 : xs.map XA.e = allX e := hxs
    obtain ⟨pre', hp1, hp2⟩ := hI.j
    have HE := Lib.hid (hp1.trans hxs2)
    have HJ2 := Lib.hid hp2
    have HDS := Lib.hid (show ∀ D ∈ [W0.heap.size], W.heap.size ≤ D ∧ V.heap[D]? = some (.deferred (some [])) from fun D hD => by
      simp only [List.mem_singleton] at hD
      subst hD
      exact ⟨by omega, hK⟩)
    clear hxs hxs2 hI hK hp1 hp2
    gi_wp2
    exact leaves_marks (Ds := [W0.heap.size]) HJ.out (fun V => by simp [results, Tryz.results52, go_sem]; rfl) (fun V h => ⟨⟨_, rfl⟩, .inl ⟨_, HE.out, h⟩⟩) V (by simp) HDS.out HJ2.out
  case stop =>
    rintro cc pre V ⟨rfl, ns, hJx⟩ hK
    have HJ2 := Lib.hid hJx
    have HDS := Lib.hid (show ∀ D ∈ [W0.heap.size], W.heap.size ≤ D ∧ V.heap[D]? = some (.deferred (some [])) from fun D hD => by
      simp only [List.mem_singleton] at hD
      subst hD
      exact ⟨by omega, hK⟩)
    clear hJx hK
    gi_wp2
    exact leaves_marks (Ds := [W0.heap.size]) HJX.out (fun V => by simp [results, Tryz.results52, go_sem]; rfl) (fun V h => ⟨⟨_, rfl⟩, .inr ⟨_, h⟩⟩) V (by simp) HDS.out HJ2.out
end Go.Proofs.YtclcabdekeegdaaGreat
