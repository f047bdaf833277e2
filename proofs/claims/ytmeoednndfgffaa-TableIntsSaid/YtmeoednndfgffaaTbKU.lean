/- Layer 17, walked: what changed between two tables of uint8. -/
import Derived.Test.YtmeoednndfgffaaTbCU
import Derived.Test.YtmeoednndfgffaaTbKp
namespace Go.Proofs.Ytmeoednndfgffaa
attribute [local go_sem] Oper.semAt_some
open Go Go.ChangeShapes Go.WideShapes Go.ChangeAt Go.RowKit
set_option linter.unusedVariables false
set_option linter.unusedSimpArgs false
theorem infoChU : (Try.prog.info? 100).map (fun i => (i.zero, i.size, i.bytes)) = some (some (Value.agg #[.string ⟨#[]⟩, .int .u8 0, .bool false]), 3, 24) := by kernel_rfl
def chCU (x : KC Int) : List Value := [.string x.k, .int .u8 x.v, .bool x.g]
theorem ch_lenU (x : KC Int) : (chCU x).length = 3 := rfl
theorem ch_oneU (x : KC Int) : ∀ u ∈ chCU x, u.oneCell' = true := by simp [chCU, Value.oneCell']
/-- What stands where. -/
structure CfU (w w9 : World) (T : Nat → Prop) (ql qo : Nat) : Prop where
  l : w.heap.size ≤ ql
  o : w.heap.size ≤ qo
  ne : qo ≠ ql
  ld : ql < w9.heap.size
  od : qo < w9.heap.size
  t : ∀ k, T k → k < w9.heap.size ∧ ∃ cs, w9.heap[k]? = some (.cells cs 123 (0, 0))
/-- Between two rounds: the changes so far are o, what is left of the old ones is ra. -/
structure DiU (w w9 : World) (T : Nat → Prop) (ql qo : Nat) (A : Option Addr) (c : Nat) (o : List (KC Int)) (ra : List (KV Int)) (Ao : Option Addr) (co : Nat) (U : World) : Prop where
  gro : Gro w.heap.size 100 65 3 ql A o.length c (o.flatMap chCU) U
  ob : U.heap[qo]? = some (.cells #[.slice Ao ra.length co] 91)
  oa : OldAt 96 ecU ra Ao co U
  ks : Ks T w9 U
  bel : Below w.heap.size w U
/-- Within a round. -/
structure MiU (w w9 : World) (T : Nat → Prop) (M : Nat) (rr : Loop) (ql qo : Nat) (A : Option Addr) (c : Nat) (o : List (KC Int)) (ra : List (KV Int)) (Ao : Option Addr) (co : Nat) (U : World) : Prop where
  d : DiU w w9 T ql qo A c o ra Ao co U
  bkd : U.heap[w9.heap.size]? = some (.deferred (some []))
  bkr : U.heap[w9.heap.size + 1]? = some (.loop rr)
  sz : M ≤ U.heap.size
section
variable {w w9 U V w1 : World} {T : Nat → Prop} {M ql qo c co c' co' : Nat} {rr : Loop} {A A' Ao Ao' : Option Addr} {o : List (KC Int)} {d : KC Int} {ra : List (KV Int)} {y : KV Int}
theorem DiU.stay (h : DiU w w9 T ql qo A c o ra Ao co U) (hk : ∀ (k : Nat) (o : Obj), U.heap[k]? = some o → (∃ cs t, o = Obj.cells cs t (0, 0)) → V.heap[k]? = some o) (hks : Ks T w9 V) (hb : Below w.heap.size w V) : DiU w w9 T ql qo A c o ra Ao co V :=
  ⟨h.gro.stay hk, hk _ _ h.ob ⟨_, _, rfl⟩, h.oa.stay fun k cur e => hk _ _ e ⟨_, _, rfl⟩, hks, hb⟩
theorem DiU.on (h : DiU w w9 T ql qo A c o ra Ao co U) (hb : Below U.heap.size U V) : DiU w w9 T ql qo A c o ra Ao co V :=
  h.stay (fun k o hk _ => (hb.block k (lt_blk hk)).trans hk) (h.ks.trans (Ks.below hb)) (hop0 h.bel hb)
theorem MiU.on (h : MiU w w9 T M rr ql qo A c o ra Ao co U) (hb : Below U.heap.size U V) : MiU w w9 T M rr ql qo A c o ra Ao co V :=
  ⟨h.d.on hb, (hb.block _ (lt_blk h.bkd)).trans h.bkd, (hb.block _ (lt_blk h.bkr)).trans h.bkr, Nat.le_trans h.sz hb.size⟩
theorem DiU.to (hC : CfU w w9 T ql qo) (h : DiU w w9 T ql qo A c o ra Ao co U) (ht : GroTo w.heap.size 100 65 3 ql A o.length c A' (o.length + 1) c' ((o ++ [d]).flatMap chCU) U w1) :
    DiU w w9 T ql qo A' c' (o ++ [d]) ra Ao co (w1.setCell ⟨ql, 0, none⟩ (.slice A' (o.length + 1) c')) := by
  have hT : ∀ k, T k → (w1.setCell ⟨ql, 0, none⟩ (.slice A' (o.length + 1) c')).heap[k]? = U.heap[k]? := fun k hk => by
    obtain ⟨h9, cs, h0⟩ := hC.t k hk
    have h2 := (h.ks.2 k hk h9).trans h0
    refine (ht.rest k _ h2 (fun e => ?_) (fun cur e => ?_)).trans h2.symm
    · subst e
      have h3 := h.gro.box
      rw [h2] at h3
      injection h3 with h3
      injection h3 with _ h3 _
      exact absurd h3 (by decide)
    · injection e with _ h3 _
      exact absurd h3 (by decide)
  refine ⟨?_, ht.rest _ _ h.ob hC.ne (fun cur e => ?_), h.oa.stay fun k cur hk => ht.rest _ _ hk (fun e => ?_) (fun cur e => ?_), h.ks.trans ⟨ht.size, fun k hk _ => hT k hk⟩, h.bel.trans (ht.bel _ (Nat.le_refl _) hC.l h.bel.size)⟩
  · rw [List.length_append]
    exact ht.gro
  · injection e with _ h3 _
    exact absurd h3 (by decide)
  · subst e
    have h3 := h.gro.box
    rw [hk] at h3
    injection h3 with h3
    injection h3 with _ h3 _
    exact absurd h3 (by decide)
  · injection e with _ h3 _
    exact absurd h3 (by decide)
theorem MiU.to (hC : CfU w w9 T ql qo) (h : MiU w w9 T M rr ql qo A c o ra Ao co U) (ht : GroTo w.heap.size 100 65 3 ql A o.length c A' (o.length + 1) c' ((o ++ [d]).flatMap chCU) U w1) :
    MiU w w9 T M rr ql qo A' c' (o ++ [d]) ra Ao co (w1.setCell ⟨ql, 0, none⟩ (.slice A' (o.length + 1) c')) :=
  ⟨h.d.to hC ht, ht.rest _ _ h.bkd (by have := hC.ld; omega) (fun cur e => by cases e), ht.rest _ _ h.bkr (by have := hC.ld; omega) (fun cur e => by cases e), Nat.le_trans h.sz ht.size⟩
theorem MiU.to_ {k : Nat} (hC : CfU w w9 T ql qo) (h : MiU w w9 T M rr ql qo A c o ra Ao co U) (hk : o.length = k) (ht : GroTo w.heap.size 100 65 3 ql A k c A' (k + 1) c' ((o ++ [d]).flatMap chCU) U w1) :
    MiU w w9 T M rr ql qo A' c' (o ++ [d]) ra Ao co (w1.setCell ⟨ql, 0, none⟩ (.slice A' (k + 1) c')) := by
  subst hk
  exact h.to hC ht
theorem DiU.to_ {k : Nat} (h : DiU w w9 T ql qo A c o ra Ao co U) (hC : CfU w w9 T ql qo) (hk : o.length = k) (ht : GroTo w.heap.size 100 65 3 ql A k c A' (k + 1) c' ((o ++ [d]).flatMap chCU) U w1) :
    DiU w w9 T ql qo A' c' (o ++ [d]) ra Ao co (w1.setCell ⟨ql, 0, none⟩ (.slice A' (k + 1) c')) := by
  subst hk
  exact DiU.to hC h ht
theorem MiU.gk {k : Nat} (h : MiU w w9 T M rr ql qo A c o ra Ao co U) (hk : o.length = k) : Gro w.heap.size 100 65 3 ql A k c (o.flatMap chCU) U := hk ▸ h.d.gro
theorem MiU.pop (hC : CfU w w9 T ql qo) (h : MiU w w9 T M rr ql qo A c o (y :: ra) Ao co U) (ht : OldAt 96 ecU ra Ao' co' U) :
    MiU w w9 T M rr ql qo A c o ra Ao' co' (U.setCell ⟨qo, 0, none⟩ (.slice Ao' ra.length co')) := by
  have hs : (U.setCell ⟨qo, 0, none⟩ (.slice Ao' ra.length co')).heap.size = U.heap.size := by simp [World.setCell]
  have hK : ∀ k, k ≠ qo → (U.setCell ⟨qo, 0, none⟩ (.slice Ao' ra.length co')).heap[k]? = U.heap[k]? := fun k hk => Below.heap_setCell _ _ _ _ hk
  have hN : ∀ (k : Nat) (cs : Array Value) (t : TypeId), U.heap[k]? = some (.cells cs t (0, 0)) → t ≠ 91 → k ≠ qo := fun k cs t hk ht2 e => by
    subst e
    rw [h.d.ob] at hk
    injection hk with hk
    injection hk with _ hk _
    exact ht2 hk.symm
  refine ⟨⟨⟨(hK _ (fun e => hC.ne e.symm)).trans h.d.gro.box, own_stay h.d.gro.own fun g e => hK g (fun e2 => own_ne h.d.gro.own h.d.ob (fun cur e => ?_) (by rw [e, e2]))⟩, heap_setG h.d.ob, ht.stay fun k cur hk => (hK k (hN _ _ _ hk (by decide))).trans hk, h.d.ks.trans ⟨by omega, fun k hk hl => hK k ?_⟩, h.d.bel.setCell hC.o _⟩, (hK _ (by have := hC.od; omega)).trans h.bkd, (hK _ (by have := hC.od; omega)).trans h.bkr, by rw [hs]; exact h.sz⟩
  · injection e with _ h3 _
    exact absurd h3 (by decide)
  · obtain ⟨h9, cs, h0⟩ := hC.t k hk
    exact hN k _ _ ((h.d.ks.2 k hk h9).trans h0) (by decide)
theorem MiU.fin (hC : CfU w w9 T ql qo) {V2 : World} (h2 : Ks T w9 V2) (hb : Book w9.heap.size rr V2) (h : MiU w w9 T V2.heap.size rr ql qo A c o ra Ao co U) : BookKept w9.heap.size V2 U ∧ Ks T V2 U :=
  ⟨⟨h.bkd.trans hb.dfr.symm, h.bkr.trans hb.rcd.symm⟩, h.sz, fun k hk _ => (h.d.ks.2 k hk (hC.t k hk).1).trans (h2.2 k hk (hC.t k hk).1).symm⟩
theorem MiU.fin_ {V2 : World} (h : MiU w w9 T M rr ql qo A c o ra Ao co U) (hM : V2.heap.size = M) (hC : CfU w w9 T ql qo) (h2 : Ks T w9 V2) (hb : Book w9.heap.size rr V2) : BookKept w9.heap.size V2 U ∧ Ks T V2 U := by
  subst hM
  exact MiU.fin hC h2 hb h
end
theorem OldAt.of_ownU {w : World} {B : Nat} {A : Option Addr} {c : Nat} {l : List (KV Int)} (h : w.ownsRow B 96 2 (.slice A l.length c) l.length (l.flatMap enCU)) : OldAt 96 ecU l A c w := by
  rcases h.2 with ⟨h1, h0⟩ | ⟨g, cap, cur, h1, hg, hh, hn, hm, hsz, ht⟩
  · have hl : l = [] := List.eq_nil_of_length_eq_zero h0
    subst hl
    injection h1 with _ _ hc
    exact ⟨⟨by simp, by rw [hc]; exact Nat.zero_le _⟩, .inl rfl⟩
  · injection h1 with hA _ hc
    subst hA hc
    refine ⟨⟨hn, hm⟩, .inr ⟨g, cur, 0, rfl, hh, fun j hj => ?_⟩⟩
    have hget : ∀ (i : Nat), i < 2 → cur[j * 2 + i]? = (l.flatMap enCU)[j * 2 + i]? := fun i hi => by
      rw [← ht, List.getElem?_take, if_pos (by omega), Array.getElem?_toList]
    have hfm : ∀ (l : List (KV Int)) (j : Nat) (h : j < l.length) (i : Nat), i < 2 → (l.flatMap enCU)[j * 2 + i]? = (enCU l[j])[i]? := by
      intro l
      induction l with
      | nil => intro j h; simp at h
      | cons d r ih =>
        intro j h i hi
        rw [List.flatMap_cons]
        cases j with
        | zero => rw [List.getElem?_append_left (by rw [en_lenU]; omega)]; simp
        | succ j =>
          rw [List.getElem?_append_right (by rw [en_lenU]; omega), en_lenU, show (j + 1) * 2 + i - 2 = j * 2 + i by omega]
          have := ih j (by simp only [List.length_cons] at h; omega) i hi
          rw [this]
          rfl
    refine ⟨?_, ?_⟩
    · have := (hget 0 (by omega)).trans (hfm l j hj 0 (by omega))
      simpa [enCU] using this
    · have := (hget 1 (by omega)).trans (hfm l j hj 1 (by omega))
      rw [Nat.zero_add]
      simpa [enCU] using this
theorem bx_factsU {U : World} {q : Nat} {x : Value} {t : TypeId} (h : U.heap[q]? = some (.cells #[x] t)) : U.cell? ⟨q, 0, none⟩ = some x ∧ U.frozen? ⟨q, 0, none⟩ = false ∧ q < U.heap.size := ⟨by simp [World.cell?, h], by simp [World.frozen?, h], lt_blk h⟩
/-- How far the changes are. -/
def DfEU (la lb : List (KV Int)) (o : List (KC Int)) (ra rb : List (KV Int)) : Prop := diffK (0 : Int) la lb = o ++ diffK (0 : Int) ra rb ∧ o.length + ra.length + rb.length ≤ la.length + lb.length
def lenTU (w : World) (q : Nat) : Nat := match w.cell? ⟨q, 0, none⟩ with
  | some (.slice _ n _) => n
  | _ => 0
set_option maxHeartbeats 4000000 in
set_option maxRecDepth 100000 in
theorem diffU {Sa Sb : Nat → Prop} {w : World} {va vb : Value} {pa pb : Option Addr} {la lb : List (KV Int)} (hA : TvU Sa w va pa la) (hB : TvU Sb w vb pb lb) (hl : la.length + lb.length ≤ 2000) :
    Calls Try.prog 30 #[va, vb] w fun e w' => ∃ A c, e = .returned (.slice A (diffK (0 : Int) la lb).length c) ∧ w'.ownsRow w.heap.size 100 3 (.slice A (diffK (0 : Int) la lb).length c) (diffK (0 : Int) la lb).length ((diffK (0 : Int) la lb).flatMap chCU) ∧ Below w.heap.size w w' := by
  refine (callsIn_wide (n := 8)).1 ?_
  have HTB := Lib.hid hB
  have HL := Lib.hid (show la.length + lb.length ≤ lim2U from hl)
  obtain ⟨W1, hW1⟩ : ∃ W1, w.alloc (.cells #[.slice none 0 0] 65) = W1 := ⟨_, rfl⟩
  have hsz1 : W1.heap.size = w.heap.size + 1 := by rw [← hW1]; simp
  have hb1 : Below w.heap.size w W1 := by rw [← hW1]; exact (Below.refl _ _).alloc (Nat.le_refl _) _
  have hg1 : Gro w.heap.size 100 65 3 w.heap.size none 0 0 [] W1 := by
    rw [← hW1]
    exact ⟨World.alloc_heap_new w _, World.ownsRow_nil _ _ _ 3⟩
  have HE := Lib.hid (entriesU (hA.on hb1) (by unfold limB; omega))
  have HG1 := Lib.hid hg1
  have HB1 := Lib.hid hb1
  have HSZ1 := Lib.hid hsz1
  clear hA hB hl hsz1 hb1 hg1
  refine callsIn_of_wp_marks Try.func30 rfl trivial ?_ rfl
  simp only [Try.ntmps30, List.size_toArray, List.length_cons, List.length_nil, Nat.reduceAdd, Nat.reduceSub, Array.replicate_succ, Array.replicate_zero, List.push_toArray, List.append_toArray, List.nil_append, List.cons_append]
  refine wpIn_wide.2 ?_
  go_wp2_with (fail)
  refine HE.out.mono ?_
  rintro en w2 ⟨Ae, ce, rfl, ho2, hb2⟩
  dsimp only
  obtain ⟨n, hn⟩ : ∃ n, la.length = n := ⟨_, rfl⟩
  rw [hn] at ho2 ⊢
  have hoa := OldAt.of_ownU (show w2.ownsRow W1.heap.size 96 2 (.slice Ae la.length ce) la.length (la.flatMap enCU) by rw [hn]; exact ho2)
  obtain ⟨W3, hW3⟩ : ∃ W3, w2.alloc (.cells #[.slice Ae n ce] 91) = W3 := ⟨_, rfl⟩
  have hb3 : Below w2.heap.size w2 W3 := by rw [← hW3]; exact (Below.refl _ _).alloc (Nat.le_refl _) _
  have hob : W3.heap[w2.heap.size]? = some (.cells #[.slice Ae la.length ce] 91) := by rw [← hW3, hn]; exact World.alloc_heap_new w2 _
  have hb23 := hop0 hb2 hb3
  have HALL := Lib.hid (allxU (HTB.out.on (hop0 HB1.out hb23)))
  have HG3 := Lib.hid (HG1.out.stay (V := W3) fun k o hk _ => (hb23.block k (lt_blk hk)).trans hk)
  have HOB := Lib.hid hob
  have HOA := Lib.hid (hoa.stay (V := W3) fun k cur hk => (hb3.block k (lt_blk hk)).trans hk)
  have HB3 := Lib.hid (hop0 HB1.out hb23)
  have HQ := Lib.hid (show w.heap.size < w2.heap.size ∧ w2.heap.size < W3.heap.size from ⟨by have := hb2.size; have := HSZ1.out; omega, by rw [← hW3]; simp⟩)
  have HNA := Lib.hid hn
  clear ho2 hb2 hoa hb3 hob hb23 HE HG1 HB1 HSZ1 hn hW1
  go_wp2_with (fail)
  refine HALL.out.mono ?_
  rintro en w9 ⟨gf, lb0, rfl, he9, hb9, hs9, hc9, hq9⟩
  have HE9 := Lib.hid he9
  have HC9 := Lib.hid hc9
  have HS9 := Lib.hid hs9
  have HB9 := Lib.hid hb9
  have HQ9 := Lib.hid hq9
  clear he9 hc9 hs9 hb9 hq9
  dsimp only
  go_wp2_with (fail)
  have HBW9 := Lib.hid (HB3.out.trans (HB9.out.mono HB3.out.size))
  have HTR := Lib.hid (HTB.out.on HBW9.out).at_.nodes
  obtain ⟨T, hT⟩ : ∃ T, Nodes Sb 123 w9 = T := ⟨_, rfl⟩
  rw [hT] at HTR
  have hTE : ∀ k, T k → k < w9.heap.size ∧ ∃ cs, w9.heap[k]? = some (.cells cs 123 (0, 0)) := fun k hk => by
    rw [← hT] at hk
    obtain ⟨_, cs, h⟩ := hk
    exact ⟨lt_blk h, cs, h⟩
  have hq := HQ.out
  have HCF := Lib.hid (show CfU w w9 T w.heap.size w2.heap.size from ⟨Nat.le_refl _, Nat.le_of_lt hq.1, by omega, by have := HS9.out; omega, by have := HS9.out; omega, hTE⟩)
  have hK9 : ∀ (k : Nat) (o : Obj), W3.heap[k]? = some o → w9.heap[k]? = some o := fun k o hk => (HB9.out.block k (lt_blk hk)).trans hk
  have HDI := Lib.hid (show DiU w w9 T w.heap.size w2.heap.size none 0 [] la Ae ce w9 from ⟨HG3.out.stay fun k o hk _ => hK9 k o hk, hK9 _ _ HOB.out, HOA.out.stay fun k cur hk => hK9 _ _ hk, Ks.refl, HBW9.out⟩)
  have HBD := Lib.hid (show ∀ (o : List (KC Int)) (ra rb : List (KV Int)), DfEU la lb o ra rb → o.length ≤ limB from fun o ra rb h => by have h1 := h.2; have h2 := HL.out; unfold lim2U at h2; unfold limB; omega)
  have HDE := Lib.hid (show DfEU la lb [] la (lb.drop 0) from ⟨rfl, by simp⟩)
  obtain ⟨qo, hqo⟩ : ∃ q, w2.heap.size = q := ⟨_, rfl⟩
  rw [hqo] at HCF HDI ⊢
  clear hT hTE hq hK9 HB3 HG3 HOB HOA HBW9 HALL HTB hW3 HB9 HS9 HQ hqo
  refine (wpIn_wide (n := 8)).1 ?_
  refine range_nest2 rfl (by omega) (gf := gf) (lb := lb0) (by simp [Act.eval]) trivial HE9.out
    (encs := encKVU) (Y := NextT lb) (Kp := Ks T) (done := fun xs => xs.length = lb.length)
    (fun W4 hg hs1 => HQ9.out 7 T W4 ((hg.block _ (lt_blk HC9.out) (by simp)).trans HC9.out) (HTR.out.on (below_of_grown hg (fun r e => by cases e) (Nat.le_refl _))))
    (fun x => rfl) Ks.trans Ks.grown (fun U o => Ks.put (fun h => by have := (HCF.out.t _ h).1; omega) o)
    (fun pre U => ∃ A c o ra Ao co, DiU w w9 T w.heap.size qo A c o ra Ao co U ∧ DfEU la lb o ra (lb.drop pre.length))
    (fun _ _ _ => False)
    ?own
    (fun _ _ _ _ _ h _ _ => h)
    (fun pre _ _ _ _ h _ _ => h) ?sta (fun _ U => U) (fun x U => ⟨rfl, rfl, rfl, Nat.le_refl _, fun _ _ _ => rfl⟩) (fun _ _ _ => True) (fun x U r r' hb => trivial) ?aa1 ?asa ?boa ?doa ?spa
  case own =>
    rintro pre U V row ⟨A, c, o, ra, Ao, co, hd, he⟩ hg hr
    refine ⟨A, c, o, ra, Ao, co, hd.stay (turn_cells hg hr) (hd.ks.trans ⟨hg.size, fun k hk hl => hg.block k hl (fun e => ?_)⟩) (hd.bel.trans (below_of_grown hg (fun r e => Nat.le_trans (Nat.le_of_lt (Nat.lt_of_le_of_lt HCF.out.l HCF.out.ld)) (hr r e).1) hd.bel.size)), he⟩
    have h1 := (hr k e.symm).1
    have h2 := (HCF.out.t k hk).1
    omega
  case sta =>
    intro W4 hg hs1
    exact ⟨_, _, _, _, _, _, HDI.out.on (below_of_grown hg (fun r e => by cases e) (Nat.le_refl _)), HDE.out⟩
  case asa =>
    intro l0 x U K hK
    gi_wp2
    exact hK
  case spa =>
    rintro cc pre V2 h
    exact h.elim
  case doa =>
    rintro xs V hxs ⟨A, c, o, ra, Ao, co, hd, he⟩ hK
    have hxl : xs.length = lb.length := hxs
    rw [hxl, List.drop_length] at he
    have HD0 := Lib.hid hd
    have HK0 := Lib.hid hK
    have HE0 := Lib.hid (show DfEU la lb o (ra.drop 0) [] from he)
    obtain ⟨p0, p1, p2⟩ := bx_factsU hd.ob
    obtain ⟨r, hr⟩ : ∃ r, ra.length = r := ⟨_, rfl⟩
    rw [hr] at p0
    have HRR := Lib.hid hr
    have HRC := Lib.hid (show r ≤ 9223372036854775807 by have := hd.oa.cap; unfold maxLen at this; omega)
    clear hd he hK hxs hxl hr
    go_wp2_with (fail)
    go_loopw [71] (fun iv wr => ∃ A c o i, iv = .int .i64 ((i : Nat) : Int) ∧ i ≤ r ∧ Hid (DiU w w9 T w.heap.size qo A c o ra Ao co wr) ∧ Hid (wr.heap[w9.heap.size]? = some (.deferred (some []))) ∧ Hid (DfEU la lb o (ra.drop i) [])) (fun iv _ => r - (intOf iv).toNat)
    case atStart => exact ⟨A, c, o, 0, rfl, Nat.zero_le _, HD0, HK0, HE0⟩
    case round =>
      clear HD0 HK0 HE0 p0 p1 p2
      obtain ⟨A, c, o, i, rfl, hi, HD, HDF, HE0⟩ := hrel
      obtain ⟨k, hk⟩ : ∃ k, o.length = k := ⟨_, rfl⟩
      have HK := Lib.hid hk
      have l0 := HD.out.gro.cell
      rw [hk] at l0
      clear hk
      by_cases hlt : i < r
      · have hil : i < ra.length := by rw [HRR.out]; exact hlt
        obtain ⟨g, off, rfl, hg1, e0, e1⟩ := HD.out.oa.get hil
        have hdrop : ra.drop i = ra[i] :: ra.drop (i + 1) := List.drop_eq_getElem_cons hil
        obtain ⟨⟨yk, yv⟩, hy⟩ : ∃ y, ra[i]'hil = y := ⟨_, rfl⟩
        rw [hy] at e0 e1 hdrop
        rw [hdrop] at HE0
        replace e0 : wr.cell? ⟨g, off + i * 2, none⟩ = some (.string yk) := e0
        replace e1 : wr.cell? ⟨g, off + i * 2 + 1, none⟩ = some (.int .u8 yv) := e1
        have i3 : i + 1 ≤ 9223372036854775807 := by have := HRC.out; omega
        obtain ⟨W4, hW4⟩ : ∃ W4, wr.alloc (.cells #[.string yk, .int .u8 yv] 96) = W4 := ⟨_, rfl⟩
        have hb4 : Below wr.heap.size wr W4 := by rw [← hW4]; exact (Below.refl _ _).alloc (Nat.le_refl _) _
        have HEB := Lib.hid (show W4.heap[wr.heap.size]? = some (.cells #[.string yk, .int .u8 yv] 96 (0, 0)) by rw [← hW4]; exact World.alloc_heap_new wr _)
        obtain ⟨eb, heb⟩ : ∃ b, wr.heap.size = b := ⟨_, rfl⟩
        rw [heb] at HEB
        have HD4 := Lib.hid (HD.out.on hb4)
        have HF4 := Lib.hid ((hb4.block _ (lt_blk HDF.out)).trans HDF.out)
        have HSU := Lib.hid (show ∀ V, DiU w w9 T w.heap.size qo A c o ra (some ⟨g, off, none⟩) co V → V.heap[eb]? = some (.cells #[.string yk, .int .u8 yv] 96 (0, 0)) → V.cell? ⟨w.heap.size, 0, none⟩ = some (.slice A k c) ∧ V.cell? ⟨eb, 0, none⟩ = some (.string yk) ∧ V.cell? ⟨eb, 1, none⟩ = some (.int .u8 yv) from fun V hV hc => by
          have h1 := hV.gro.cell
          rw [HK.out] at h1
          exact ⟨h1, by simp [World.cell?, hc], by simp [World.cell?, hc]⟩)
        clear hil hdrop hy hb4
        go_wp2_with (fail)
        try rw [hW4]
        have hdr := (Below.refl W4.heap.size W4).drew
        have HMD := Lib.hid (HD4.out.on hdr)
        have HCD := Lib.hid (show W4.drew.heap[eb]? = some (.cells #[.string yk, .int .u8 yv] 96 (0, 0)) from HEB.out)
        have HFD := Lib.hid (show W4.drew.heap[w9.heap.size]? = some (.deferred (some [])) from HF4.out)
        have hS := HSU.out W4.drew HMD.out HCD.out
        refine wp_mono ?_ noPanic_le
        refine till_begin 6 5 (fun W => W.cell? ⟨w.heap.size, 0, none⟩ = some (.slice A k c) ∧ W.cell? ⟨eb, 0, none⟩ = some (.string yk) ∧ W.cell? ⟨eb, 1, none⟩ = some (.int .u8 yv)) rfl (by kernel_rfl) ?_
        obtain ⟨W4a, hW4a⟩ : ∃ W4a, W4.drew = W4a := ⟨_, rfl⟩
        rw [hW4a] at hS HMD HCD HFD ⊢
        clear hW4a hdr
        refine till_take (i := 0) (t := 75) (v := (.slice A k c)) (fuel := 5) rfl rfl (by kernel_rfl) (by kernel_rfl) (by kernel_rfl) (by kernel_rfl) (fun _ _ _ h => h) (.inl ⟨rfl, fun W hW => by obtain ⟨s0, s2, s3⟩ := hW; simp [execOp, Act.eval, go_sem, s0, s2, s3]⟩) hS ?_
        simp only [List.setIfInBounds_toArray, List.set_cons_succ, List.set_cons_zero]
        refine till_take (i := 1) (t := 76) (v := (.agg #[.string yk, .int .u8 yv])) (fuel := 4) rfl rfl (by kernel_rfl) (by kernel_rfl) (by kernel_rfl) (by kernel_rfl) (fun _ _ _ h => h) (.inl ⟨rfl, fun W hW => by obtain ⟨s0, s2, s3⟩ := hW; simp [execOp, Act.eval, go_sem, s0, s2, s3]⟩) hS ?_
        simp only [List.setIfInBounds_toArray, List.set_cons_succ, List.set_cons_zero]
        refine till_one (i := 2) rfl (by kernel_rfl) (by kernel_rfl) ?_
        simp [Oper.wp, execOp, Act.eval, Act.put, go_sem]
        refine (goneU yk yv W4a).mono ?_
        rintro e w5 ⟨rfl, hb5⟩
        have HM5 := Lib.hid (HMD.out.on hb5)
        have HC5 := Lib.hid ((hb5.block eb (lt_blk HCD.out)).trans HCD.out)
        have HF5 := Lib.hid ((hb5.block _ (lt_blk HFD.out)).trans HFD.out)
        replace hS := HSU.out w5 HM5.out HC5.out
        refine ⟨hS, ?_⟩
        clear hb5 HMD HCD HFD
        try simp only [List.setIfInBounds_toArray, List.set_cons_succ, List.set_cons_zero]
        refine till_one (i := 3) rfl (by kernel_rfl) (by kernel_rfl) ?_
        simp [Oper.wp, execOp, Act.eval, Act.put, go_sem]
        obtain ⟨W6, hW6⟩ : ∃ W6, w5.alloc (.cells #[.string yk, .int .u8 0, .bool true] 100) = W6 := ⟨_, rfl⟩
        have hb6 : Below w5.heap.size w5 W6 := by rw [← hW6]; exact (Below.refl _ _).alloc (Nat.le_refl _) _
        have HG6 := Lib.hid (show w5.grownBy W6 none by rw [← hW6]; exact World.grownBy_alloc _ _ none)
        have HNW := Lib.hid (show ∀ j u, (chCU ⟨yk, (0 : Int), true⟩)[j]? = some u → W6.cell? ((⟨w5.heap.size, 0, none⟩ : Addr).add j) = some u by rw [← hW6]; exact new_cells w5 _ _)
        rw [hW6]
        have HM6 := Lib.hid (HM5.out.on hb6)
        have HC6 := Lib.hid ((hb6.block eb (lt_blk HC5.out)).trans HC5.out)
        replace hS := HSU.out W6 HM6.out HC6.out
        refine ⟨hS, ?_⟩
        clear hb6 hW6
        try simp only [List.setIfInBounds_toArray, List.set_cons_succ, List.set_cons_zero]
        have HGK := Lib.hid (show Gro w.heap.size 100 65 3 w.heap.size A k c (o.flatMap chCU) w5 by have h := HM5.out.gro; rwa [HK.out] at h)
        have HOW := Lib.hid (show W6.ownsRow w.heap.size 100 3 (.slice A k c) k (o.flatMap chCU) by have h := HM6.out.gro.own; rwa [HK.out] at h)
        refine till_one (i := 4) rfl (by kernel_rfl) (by kernel_rfl) ?_
        refine op_append_gro Try.underlying65 infoChU rfl (by decide) ch_lenU ch_oneU W6 _ _ rfl w.heap.size A k c o rfl ⟨yk, (0 : Int), true⟩ HOW.out HM6.out.bel.size ⟨w5.heap.size, 0, none⟩ 1 rfl HNW.out (by have := HBD.out o _ _ HE0.out; rw [HK.out] at this; unfold limB at this; omega) (by have := HBD.out o _ _ HE0.out; rw [HK.out] at this; unfold limB at this; unfold maxLen; omega) ?_
        intro A' c' w7 hown hgr
        have hto := HGK.out.to (by decide) HG6.out hown hgr
        have HM8 := Lib.hid (HM5.out.to_ HCF.out HK.out hto)
        have HF8 := Lib.hid (hto.rest _ _ HF5.out (by have := HCF.out.ld; omega) (fun cur e => by cases e))
        have t0 := hto.cell
        have t1 := hto.frozen
        have t2 := hto.lt
        replace hS : w7.cell? ⟨w.heap.size, 0, none⟩ = some (.slice A k c) ∧ w7.cell? ⟨eb, 0, none⟩ = some (.string yk) ∧ w7.cell? ⟨eb, 1, none⟩ = some (.int .u8 yv) := by
          have h2 := (hto.keep _ _ HC5.out (fun cur e => by injection e with _ h3 _; exact absurd h3 (by decide))).trans HC5.out.symm
          obtain ⟨s0, s2, s3⟩ := HSU.out w5 HM5.out HC5.out
          exact ⟨t0, (World.cell?_of_block (w := w5) (a := ⟨eb, 0, none⟩) h2).trans s2, (World.cell?_of_block (w := w5) (a := ⟨eb, 1, none⟩) h2).trans s3⟩
        refine ⟨fun _ => hS, ?_⟩
        clear hto hown hgr HSU HM5 HM6 HC5 HC6 HG6 HNW HGK HOW hS
        try simp only [List.setIfInBounds_toArray, List.set_cons_succ, List.set_cons_zero]
        refine till_one (i := 5) rfl (by kernel_rfl) (by kernel_rfl) ?_
        simp [Oper.wp, execOp, Act.eval, Act.put, go_sem, t0, t1, t2]
        try simp only [List.setIfInBounds_toArray, List.set_cons_succ, List.set_cons_zero]
        refine till_done (by kernel_rfl) ?_
        unfold noPanic
        obtain ⟨W8, hW8⟩ : ∃ W8, w7.setCell ⟨w.heap.size, 0, none⟩ (.slice A' (k + 1) c') = W8 := ⟨_, rfl⟩
        rw [hW8] at HM8 HF8 ⊢
        clear hW8 t0 t1 t2 l0 e0 e1 hg1
        go_wp2_with (fail)
        go_roundw
        case rel =>
          refine ⟨A', c', o ++ [⟨yk, (0 : Int), true⟩], i + 1, by go_num, by omega, HM8, HF8, Lib.hid ⟨?_, ?_⟩⟩
          · rw [HE0.out.1, df_rest (y := ⟨yk, yv⟩)]
            simp
          · have h := HE0.out.2
            simp only [List.length_append, List.length_cons, List.length_nil] at h ⊢
            omega
        case measure => simp [intOf]; omega
      · have hin : i = r := by omega
        have he : diffK (0 : Int) la lb = o := by
          have h := HE0.out.1
          rw [List.drop_of_length_le (by rw [HRR.out]; omega), diffK, List.append_nil] at h
          exact h
        have HEE := Lib.hid he
        clear he
        go_wp2_with (fail)
        refine ⟨by simp, .inl ⟨_, _, rfl, run_takeDeferred HDF.out, ?_⟩⟩
        refine ⟨.slice A k c, by simp [results, Try.results30, go_sem], A, c, by rw [HEE.out, HK.out], ?_, below_putH HD.out.bel (Nat.le_refl _) (by have := HCF.out.ld; omega) _⟩
        rw [HEE.out]
        exact own_stay HD.out.gro.own fun g e => World.putObj_heap_other (fun e2 => own_ne HD.out.gro.own HDF.out (fun cur e => by cases e) (by rw [e, e2]))
  case boa =>
    rintro l0_ pre x U V2 ⟨A, c, o, ra, Ao, co, hd, he⟩ hY _ ⟨rr, hbk⟩
    have hY2 : lb[pre.length]? = some x := hY
    obtain ⟨hpl, hpe⟩ := List.getElem?_eq_some_iff.1 hY2
    obtain ⟨rb, hrb⟩ : ∃ rb, lb.drop (pre.length + 1) = rb := ⟨_, rfl⟩
    have hrx : lb.drop pre.length = x :: rb := by rw [List.drop_eq_getElem_cons hpl, hpe, hrb]
    have HPX := Lib.hid (show lb.drop (pre ++ [x]).length = rb by rw [List.length_append, List.length_singleton]; exact hrb)
    rw [hrx] at he
    have HKS := Lib.hid hd.ks
    have HBK := Lib.hid hbk
    have HMI := Lib.hid (show MiU w w9 T V2.heap.size rr w.heap.size qo A c o ra Ao co V2 from ⟨hd, hbk.dfr, hbk.rcd, Nat.le_refl _⟩)
    have HE0 := Lib.hid he
    obtain ⟨xk, xv⟩ := x
    clear hd he hY hbk hY2 hpl hpe hrb hrx
    obtain ⟨M2, hM2⟩ : ∃ M, V2.heap.size = M := ⟨_, rfl⟩
    rw [hM2] at HMI
    have HM2 := Lib.hid hM2
    clear hM2
    gi_wp2_with (fail)
    gi_loopw [] (fun wr => ∃ A c o ra Ao co, Hid (MiU w w9 T M2 rr w.heap.size qo A c o ra Ao co wr) ∧ Hid (DfEU la lb o ra (⟨xk, xv⟩ :: rb))) (fun wr => lenTU wr qo)
    case atStart => exact ⟨A, c, o, ra, Ao, co, HMI, HE0⟩
    case round =>
      clear HMI HE0
      obtain ⟨A, c, o, ra, Ao, co, HMI, HE0⟩ := hrel
      have l0 := HMI.out.d.gro.cell
      have l1 := HMI.out.d.gro.frozen
      have l2 := HMI.out.d.gro.lt
      obtain ⟨o0, o1, o2⟩ := bx_factsU HMI.out.d.ob
      obtain ⟨k, hk⟩ : ∃ k, o.length = k := ⟨_, rfl⟩
      rw [hk] at l0
      have HK := Lib.hid hk
      clear hk
      rcases ra with _ | ⟨y, ra⟩
      · gi_wp2_with (fail)
        refine ⟨trivial, ?_⟩
        gi_wp2_with
          (gi_at_builtin; go_loud (refine append_item_in Try.underlying65 infoChU rfl (by decide) ch_lenU ch_oneU rfl _ _ rfl w.heap.size A k c o rfl _ ⟨xk, xv, false⟩ (HMI.out.gk HK.out).own HMI.out.d.bel.size _ rfl rfl (by have := HBD.out o _ _ HE0.out; rw [HK.out] at this; unfold limB at this; omega) (by have := HBD.out o _ _ HE0.out; rw [HK.out] at this; unfold limB at this; unfold maxLen; omega) _ rfl ?_; intro A' n' c' w1 hn' hown hgr; subst hn'; have hto := (HMI.out.gk HK.out).to (by decide) (World.grownBy_alloc _ _ none) hown hgr; have HM8 := Lib.hid (HMI.out.to_ HCF.out HK.out hto); have t0 := hto.cell; have t1 := hto.frozen; have t2 := hto.lt; skip; clear hto hown hgr))
        have hf := (HM8.out.fin_ HM2.out HCF.out HKS.out HBK.out)
        refine ⟨hf.1, hf.2, _, _, _, _, _, _, HM8.out.d, ?_, ?_⟩
        · rw [HPX.out, HE0.out.1, df_new0]
          simp
        · have h := HE0.out.2
          rw [HPX.out]
          simp only [List.length_append, List.length_cons, List.length_nil] at h ⊢
          omega
      · obtain ⟨g, off, hAo, hg1, ⟨cur, hcur⟩, e0, e1⟩ := HMI.out.d.oa.head
        subst hAo
        have hcap := HMI.out.d.oa.cap
        obtain ⟨yk, yv⟩ := y
        replace e0 : wr.cell? ⟨g, off, none⟩ = some (.string yk) := e0
        replace e1 : wr.cell? ⟨g, off + 1, none⟩ = some (.int .u8 yv) := e1
        obtain ⟨m, hm⟩ : ∃ m, ra.length = m := ⟨_, rfl⟩
        rw [List.length_cons, hm] at o0 hcap
        have HMM := Lib.hid hm
        have HCUR := Lib.hid hcur
        have HCAP := Lib.hid hcap
        have i0 : (0 : Int) < (m : Int) + 1 := by omega
        have HO0 := Lib.hid (show lenTU wr qo = m + 1 by unfold lenTU; rw [o0])
        clear hm hcur hcap
        by_cases hlt : ltK yk xk
        · have hq := lk_yes hlt
          have HLT := Lib.hid hlt
          have HSU := Lib.hid (show ∀ V, MiU w w9 T M2 rr w.heap.size qo A c o (⟨yk, yv⟩ :: ra) (some ⟨g, off, none⟩) co V → V.heap[g]? = some (.cells cur 96 (0, 0)) → V.cell? ⟨w.heap.size, 0, none⟩ = some (.slice A k c) ∧ V.cell? ⟨qo, 0, none⟩ = some (.slice (some ⟨g, off, none⟩) (m + 1) co) ∧ V.cell? ⟨g, off, none⟩ = some (.string yk) ∧ V.cell? ⟨g, off + 1, none⟩ = some (.int .u8 yv) from fun V hV hc => by
            have h1 := hV.d.gro.cell
            rw [HK.out] at h1
            have h2 := (bx_factsU hV.d.ob).1
            rw [List.length_cons, HMM.out] at h2
            have hcg : V.heap[g]? = wr.heap[g]? := hc.trans HCUR.out.symm
            exact ⟨h1, h2, (World.cell?_of_block (w := wr) (a := ⟨g, off, none⟩) hcg).trans e0, (World.cell?_of_block (w := wr) (a := ⟨g, off + 1, none⟩) hcg).trans e1⟩)
          clear hlt
          gi_wp2_with (fail)
          have hdr := (Below.refl wr.heap.size wr).drew
          have HMD := Lib.hid (HMI.out.on hdr)
          have HCD := Lib.hid (show wr.drew.heap[g]? = some (.cells cur 96 (0, 0)) from HCUR.out)
          have hS := HSU.out wr.drew HMD.out HCD.out
          refine till_round 8 7 (fun W => W.cell? ⟨w.heap.size, 0, none⟩ = some (.slice A k c) ∧ W.cell? ⟨qo, 0, none⟩ = some (.slice (some ⟨g, off, none⟩) (m + 1) co) ∧ W.cell? ⟨g, off, none⟩ = some (.string yk) ∧ W.cell? ⟨g, off + 1, none⟩ = some (.int .u8 yv)) rfl (by kernel_rfl) (by simp) (by simp [LetsOut, Exit.then, Exit.inBlock, nestPost] <;> exact fun _ _ h => h) ?_
          obtain ⟨W4, hW4⟩ : ∃ W4, wr.drew = W4 := ⟨_, rfl⟩
          rw [hW4] at hS HMD HCD ⊢
          clear hW4 hdr
          refine till_take (i := 0) (t := 29) (v := (.slice A k c)) (fuel := 7) rfl rfl (by kernel_rfl) (by kernel_rfl) (by kernel_rfl) (by kernel_rfl) (fun _ _ _ h => h) (.inl ⟨rfl, fun W hW => by obtain ⟨s0, s1, s2, s3⟩ := hW; simp [execOp, Act.eval, go_sem, s0, s1, s2, s3]⟩) hS ?_
          simp only [List.setIfInBounds_toArray, List.set_cons_succ, List.set_cons_zero]
          refine till_take (i := 1) (t := 30) (v := (.slice (some ⟨g, off, none⟩) (m + 1) co)) (fuel := 6) rfl rfl (by kernel_rfl) (by kernel_rfl) (by kernel_rfl) (by kernel_rfl) (fun _ _ _ h => h) (.inl ⟨rfl, fun W hW => by obtain ⟨s0, s1, s2, s3⟩ := hW; simp [execOp, Act.eval, go_sem, s0, s1, s2, s3]⟩) hS ?_
          simp only [List.setIfInBounds_toArray, List.set_cons_succ, List.set_cons_zero]
          refine till_take (i := 2) (t := 31) (v := (.pointer (some ⟨g, off, none⟩))) (fuel := 5) rfl rfl (by kernel_rfl) (by kernel_rfl) (by kernel_rfl) (by kernel_rfl) (fun _ _ _ h => h) (.inl ⟨rfl, fun W hW => by obtain ⟨s0, s1, s2, s3⟩ := hW; simp [execOp, Act.eval, go_sem, s0, s1, s2, s3, i0]⟩) hS ?_
          simp only [List.setIfInBounds_toArray, List.set_cons_succ, List.set_cons_zero]
          refine till_take (i := 3) (t := 32) (v := (.agg #[.string yk, .int .u8 yv])) (fuel := 4) rfl rfl (by kernel_rfl) (by kernel_rfl) (by kernel_rfl) (by kernel_rfl) (fun _ _ _ h => h) (.inl ⟨rfl, fun W hW => by obtain ⟨s0, s1, s2, s3⟩ := hW; simp [execOp, Act.eval, go_sem, s0, s1, s2, s3]⟩) hS ?_
          simp only [List.setIfInBounds_toArray, List.set_cons_succ, List.set_cons_zero]
          refine till_one (i := 4) rfl (by kernel_rfl) (by kernel_rfl) ?_
          simp [Oper.wp, execOp, Act.eval, Act.put, go_sem]
          refine (goneU yk yv W4).mono ?_
          rintro e w5 ⟨rfl, hb5⟩
          have HM5 := Lib.hid (HMD.out.on hb5)
          have HC5 := Lib.hid ((hb5.block g (lt_blk HCD.out)).trans HCD.out)
          replace hS := HSU.out w5 HM5.out HC5.out
          refine ⟨hS, ?_⟩
          clear hb5 HMD HCD
          try simp only [List.setIfInBounds_toArray, List.set_cons_succ, List.set_cons_zero]
          refine till_one (i := 5) rfl (by kernel_rfl) (by kernel_rfl) ?_
          simp [Oper.wp, execOp, Act.eval, Act.put, go_sem]
          obtain ⟨W6, hW6⟩ : ∃ W6, w5.alloc (.cells #[.string yk, .int .u8 0, .bool true] 100) = W6 := ⟨_, rfl⟩
          have hb6 : Below w5.heap.size w5 W6 := by rw [← hW6]; exact (Below.refl _ _).alloc (Nat.le_refl _) _
          have HG6 := Lib.hid (show w5.grownBy W6 none by rw [← hW6]; exact World.grownBy_alloc _ _ none)
          have HNW := Lib.hid (show ∀ j u, (chCU ⟨yk, (0 : Int), true⟩)[j]? = some u → W6.cell? ((⟨w5.heap.size, 0, none⟩ : Addr).add j) = some u by rw [← hW6]; exact new_cells w5 _ _)
          rw [hW6]
          have HM6 := Lib.hid (HM5.out.on hb6)
          have HC6 := Lib.hid ((hb6.block g (lt_blk HC5.out)).trans HC5.out)
          replace hS := HSU.out W6 HM6.out HC6.out
          refine ⟨hS, ?_⟩
          clear hb6 hW6
          try simp only [List.setIfInBounds_toArray, List.set_cons_succ, List.set_cons_zero]
          have HGK := Lib.hid (show Gro w.heap.size 100 65 3 w.heap.size A k c (o.flatMap chCU) w5 by have h := HM5.out.d.gro; rwa [HK.out] at h)
          have HOW := Lib.hid (show W6.ownsRow w.heap.size 100 3 (.slice A k c) k (o.flatMap chCU) by have h := HM6.out.d.gro.own; rwa [HK.out] at h)
          refine till_one (i := 6) rfl (by kernel_rfl) (by kernel_rfl) ?_
          refine op_append_gro Try.underlying65 infoChU rfl (by decide) ch_lenU ch_oneU W6 _ _ rfl w.heap.size A k c o rfl ⟨yk, (0 : Int), true⟩ HOW.out HM6.out.d.bel.size ⟨w5.heap.size, 0, none⟩ 1 rfl HNW.out (by have := HBD.out o _ _ HE0.out; rw [HK.out] at this; unfold limB at this; omega) (by have := HBD.out o _ _ HE0.out; rw [HK.out] at this; unfold limB at this; unfold maxLen; omega) ?_
          intro A' c' w7 hown hgr
          have hto := HGK.out.to (by decide) HG6.out hown hgr
          have HM8 := Lib.hid (HM5.out.to_ HCF.out HK.out hto)
          have t0 := hto.cell
          have t1 := hto.frozen
          have t2 := hto.lt
          replace hS : w7.cell? ⟨w.heap.size, 0, none⟩ = some (.slice A k c) ∧ w7.cell? ⟨qo, 0, none⟩ = some (.slice (some ⟨g, off, none⟩) (m + 1) co) ∧ w7.cell? ⟨g, off, none⟩ = some (.string yk) ∧ w7.cell? ⟨g, off + 1, none⟩ = some (.int .u8 yv) := by
            have h1 := (hto.keep _ _ HM5.out.d.ob (fun cur e => by injection e with _ h3 _; exact absurd h3 (by decide))).trans HM5.out.d.ob.symm
            have h2 := (hto.keep _ _ HC5.out (fun cur e => by injection e with _ h3 _; exact absurd h3 (by decide))).trans HC5.out.symm
            obtain ⟨s0, s1, s2, s3⟩ := HSU.out w5 HM5.out HC5.out
            exact ⟨t0, (World.cell?_of_block (w := w5) (a := ⟨qo, 0, none⟩) h1).trans s1, (World.cell?_of_block (w := w5) (a := ⟨g, off, none⟩) h2).trans s2, (World.cell?_of_block (w := w5) (a := ⟨g, off + 1, none⟩) h2).trans s3⟩
          refine ⟨fun _ => hS, ?_⟩
          clear hto hown hgr HSU HM5 HM6 HC5 HC6 HG6 HNW HGK HOW hS
          try simp only [List.setIfInBounds_toArray, List.set_cons_succ, List.set_cons_zero]
          refine till_one (i := 7) rfl (by kernel_rfl) (by kernel_rfl) ?_
          simp [Oper.wp, execOp, Act.eval, Act.put, go_sem, t0, t1, t2]
          try simp only [List.setIfInBounds_toArray, List.set_cons_succ, List.set_cons_zero]
          refine till_done (by kernel_rfl) ?_
          obtain ⟨W8, hW8⟩ : ∃ W8, w7.setCell ⟨w.heap.size, 0, none⟩ (.slice A' (k + 1) c') = W8 := ⟨_, rfl⟩
          rw [hW8] at HM8 ⊢
          obtain ⟨p0, p1, p2⟩ := bx_factsU HM8.out.d.ob
          rw [List.length_cons, HMM.out] at p0
          clear hW8 t0 t1 t2 o0 o1 o2 l0 l1 l2 e0 e1 hg1 hq i0
          gi_wp2_with (fail)
          have hpop := HM8.out.pop HCF.out (HM8.out.d.oa.tail (A' := if co = 1 then some ⟨g, off, none⟩ else some ⟨g, off + 2, none⟩) (c' := co - 1) (by have := HCAP.out; omega) (fun g' off' e hc => by
            injection e with e
            injection e with e1 e2 _
            subst e1 e2
            rw [if_neg hc]))
          rw [HMM.out] at hpop
          refine ⟨⟨A', c', o ++ [⟨yk, (0 : Int), true⟩], ra, _, _, Lib.hid hpop, Lib.hid ⟨?_, ?_⟩⟩, ?_⟩
          · rw [HE0.out.1, df_gone (x := ⟨xk, xv⟩) (y := ⟨yk, yv⟩) HLT.out]
            simp
          · have h := HE0.out.2
            simp only [List.length_append, List.length_cons, List.length_nil] at h ⊢
            omega
          · rw [HO0.out]
            unfold lenTU
            rw [World.cell?_setCell_same _ _ _ p0]
            exact Nat.lt_succ_self m
        · have hq := lk_no hlt
          by_cases heq : yk = xk
          · have hqe := sk_eq heq
            have HEQ := Lib.hid heq
            clear heq hlt
            by_cases hv : yv = xv
            · have HSM := Lib.hid (show Calls Try.prog 53 #[.int .u8 yv, .int .u8 xv] wr fun e w' => e = .returned (.bool true) ∧ Below wr.heap.size wr w' by have h := sameU yv xv wr; rwa [decide_eq_true hv] at h)
              have HV := Lib.hid hv
              clear hv
              gi_wp2_with (refine ⟨trivial, ?_⟩; gi_at_call 53; go_loud (refine (CallsIn.inRound l0_ (callsIn_wide.2 HSM.out)).mono ?_; rintro e w5 ⟨rfl, hb5⟩; have HM5 := Lib.hid (HMI.out.on hb5); have hbx := bx_factsU HM5.out.d.ob; rw [List.length_cons, HMM.out] at hbx; obtain ⟨p0, p1, p2⟩ := hbx; clear hb5))
              -- HM5 the hypothesis within the round; df_same (x := ⟨xk, xv⟩) (y := ⟨yk, yv⟩) HEQ.out HV.out the steps of the changes
              · have hpop := HM5.out.pop HCF.out (HM5.out.d.oa.tail (A' := some ⟨g, off, none⟩) (c' := 0) (by have h1 := ‹co = 1›; omega) (fun g' off' e hc => absurd ‹co = 1› hc))
                rw [HMM.out] at hpop
                have hf := hpop.fin_ HM2.out HCF.out HKS.out HBK.out
                refine ⟨hf.1, hf.2, _, _, _, _, ⟨_, _, hpop.d⟩, ?_, ?_⟩
                · rw [HPX.out, HE0.out.1, df_same (x := ⟨xk, xv⟩) (y := ⟨yk, yv⟩) HEQ.out HV.out]
                  try simp
                · have h := HE0.out.2
                  rw [HPX.out]
                  simp only [List.length_append, List.length_cons, List.length_nil] at h ⊢
                  omega
              · have hpop := HM5.out.pop HCF.out (HM5.out.d.oa.tail (A' := some ⟨g, off + 2, none⟩) (c' := co - 1) (by have := HCAP.out; omega) (fun g' off' e hc => by
                  injection e with e
                  injection e with e1 e2 _
                  subst e1 e2
                  rfl))
                rw [HMM.out] at hpop
                have hf := hpop.fin_ HM2.out HCF.out HKS.out HBK.out
                refine ⟨hf.1, hf.2, _, _, _, _, ⟨_, _, hpop.d⟩, ?_, ?_⟩
                · rw [HPX.out, HE0.out.1, df_same (x := ⟨xk, xv⟩) (y := ⟨yk, yv⟩) HEQ.out HV.out]
                  try simp
                · have h := HE0.out.2
                  rw [HPX.out]
                  simp only [List.length_append, List.length_cons, List.length_nil] at h ⊢
                  omega
            · have HSM := Lib.hid (show Calls Try.prog 53 #[.int .u8 yv, .int .u8 xv] wr fun e w' => e = .returned (.bool false) ∧ Below wr.heap.size wr w' by have h := sameU yv xv wr; rwa [decide_eq_false hv] at h)
              have HV := Lib.hid hv
              clear hv
              gi_wp2_with (first
                | (refine ⟨trivial, ?_⟩; gi_at_call 53; go_loud (refine (CallsIn.inRound l0_ (callsIn_wide.2 HSM.out)).mono ?_; rintro e w5 ⟨rfl, hb5⟩; have HM5 := Lib.hid (HMI.out.on hb5); have hgk := HM5.out.gk HK.out; have q0 := hgk.cell; have q1 := hgk.frozen; have q2 := hgk.lt; clear hb5 hgk))
                |
                  (gi_at_builtin; go_loud (refine append_item_in Try.underlying65 infoChU rfl (by decide) ch_lenU ch_oneU rfl _ _ rfl w.heap.size A k c o rfl _ ⟨xk, xv, false⟩ (HM5.out.gk HK.out).own HM5.out.d.bel.size _ rfl rfl (by have := HBD.out o _ _ HE0.out; rw [HK.out] at this; unfold limB at this; omega) (by have := HBD.out o _ _ HE0.out; rw [HK.out] at this; unfold limB at this; unfold maxLen; omega) _ rfl ?_; intro A' n' c' w1 hn' hown hgr; subst hn'; have hto := (HM5.out.gk HK.out).to (by decide) (World.grownBy_alloc _ _ none) hown hgr; have HM8 := Lib.hid (HM5.out.to_ HCF.out HK.out hto); have t0 := hto.cell; have t1 := hto.frozen; have t2 := hto.lt; have hbx := bx_factsU HM8.out.d.ob; rw [List.length_cons, HMM.out] at hbx; obtain ⟨p0, p1, p2⟩ := hbx; clear hto hown hgr))
                )
              -- HM8 the hypothesis within the round; df_other (x := ⟨xk, xv⟩) (y := ⟨yk, yv⟩) HEQ.out HV.out the steps of the changes
              · have hpop := HM8.out.pop HCF.out (HM8.out.d.oa.tail (A' := some ⟨g, off, none⟩) (c' := 0) (by have h1 := ‹co = 1›; omega) (fun g' off' e hc => absurd ‹co = 1› hc))
                rw [HMM.out] at hpop
                have hf := hpop.fin_ HM2.out HCF.out HKS.out HBK.out
                refine ⟨hf.1, hf.2, _, _, _, _, ⟨_, _, hpop.d⟩, ?_, ?_⟩
                · rw [HPX.out, HE0.out.1, df_other (x := ⟨xk, xv⟩) (y := ⟨yk, yv⟩) HEQ.out HV.out]
                  try simp
                · have h := HE0.out.2
                  rw [HPX.out]
                  simp only [List.length_append, List.length_cons, List.length_nil] at h ⊢
                  omega
              · have hpop := HM8.out.pop HCF.out (HM8.out.d.oa.tail (A' := some ⟨g, off + 2, none⟩) (c' := co - 1) (by have := HCAP.out; omega) (fun g' off' e hc => by
                  injection e with e
                  injection e with e1 e2 _
                  subst e1 e2
                  rfl))
                rw [HMM.out] at hpop
                have hf := hpop.fin_ HM2.out HCF.out HKS.out HBK.out
                refine ⟨hf.1, hf.2, _, _, _, _, ⟨_, _, hpop.d⟩, ?_, ?_⟩
                · rw [HPX.out, HE0.out.1, df_other (x := ⟨xk, xv⟩) (y := ⟨yk, yv⟩) HEQ.out HV.out]
                  try simp
                · have h := HE0.out.2
                  rw [HPX.out]
                  simp only [List.length_append, List.length_cons, List.length_nil] at h ⊢
                  omega
          · have hqe := sk_ne heq
            have HLT := Lib.hid (show ltK xk yk from by
              rcases ltK_tri yk xk with h1 | h1 | h1
              · exact absurd h1 hlt
              · exact absurd h1 heq
              · exact h1)
            clear heq hlt
            gi_wp2_with (fail)
            refine ⟨trivial, ?_⟩
            gi_wp2_with
              (gi_at_builtin; go_loud (refine append_item_in Try.underlying65 infoChU rfl (by decide) ch_lenU ch_oneU rfl _ _ rfl w.heap.size A k c o rfl _ ⟨xk, xv, false⟩ (HMI.out.gk HK.out).own HMI.out.d.bel.size _ rfl rfl (by have := HBD.out o _ _ HE0.out; rw [HK.out] at this; unfold limB at this; omega) (by have := HBD.out o _ _ HE0.out; rw [HK.out] at this; unfold limB at this; unfold maxLen; omega) _ rfl ?_; intro A' n' c' w1 hn' hown hgr; subst hn'; have hto := (HMI.out.gk HK.out).to (by decide) (World.grownBy_alloc _ _ none) hown hgr; have HM8 := Lib.hid (HMI.out.to_ HCF.out HK.out hto); have t0 := hto.cell; have t1 := hto.frozen; have t2 := hto.lt; skip; clear hto hown hgr))
            have hf := (HM8.out.fin_ HM2.out HCF.out HKS.out HBK.out)
            refine ⟨hf.1, hf.2, _, _, _, _, _, _, HM8.out.d, ?_, ?_⟩
            · rw [HPX.out, HE0.out.1, df_new (x := ⟨xk, xv⟩) (y := ⟨yk, yv⟩) HLT.out]
              simp
            · have h := HE0.out.2
              rw [HPX.out]
              simp only [List.length_append, List.length_cons, List.length_nil] at h ⊢
              omega
end Go.Proofs.Ytmeoednndfgffaa
