/- Layer 17: the law TableStops, walked over what a table is asked. -/
import Derived.Test.YtmeoednndfgffaaTaN
namespace Go.Proofs.Ytmeoednndfgffaa
attribute [local go_sem] Oper.semAt_some
open Go Go.ChangeShapes Go.WideShapes Go.ChangeAt Go.RowKit
set_option linter.unusedVariables false
set_option linter.unusedSimpArgs false
section
variable {TabS : Blks → Blks → World → Value → List Kp → Prop}
abbrev bxU (w : World) (st : Int) : Bx := (w.heap.size, .cells #[.int .u8 st] 5)
abbrev bxF (w : World) : Bx := (w.heap.size + 1, .cells #[.bool false] 4)
/-- The law's boxes. -/
structure StB (w : World) (st : Int) (U : World) : Prop where
  s : U.heap[w.heap.size]? = some (.cells #[.int .u8 st] 5)
  r : U.heap[w.heap.size + 1]? = some (.cells #[.bool false] 4)
  b : Below w.heap.size w U
theorem StB.below {w U V : World} {st : Int} (h : StB w st U) (hb : Below U.heap.size U V) : StB w st V :=
  ⟨(hb.block _ (lt_of_heap h.s)).trans h.s, (hb.block _ (lt_of_heap h.r)).trans h.r, hop0 h.b hb⟩
theorem stops_start (HT : TabC TabS) {w w3 w4 : World} {st : Int} {v : Value} {A : Option Addr} {n c : Nat} {m : List Kp} (hs : StB w st w3) (h : Made TabS w3 v m A n c m w4) :
    Pl TabS w [bxM w4.heap.size A n c, bxF w, bxU w st] v m m A n c (w4.alloc (.cells #[.slice A n c] 27)) := by
  have h4 : Pl TabS w [bxF w, bxU w st] v m m A n c w4 := by
    obtain ⟨D, R, ht, hf, ho⟩ := h.ex
    have hs4 := hs.below h.bel
    have hl3 := lt_of_heap hs.r
    refine ⟨⟨D, R, ht, fun k hk => ⟨Nat.le_trans hs.b.size (hf k hk), fun p hp e => ?_⟩, ho⟩, (by simp), fun p hp => ?_, fun p hp a ha => ?_, h.own.mono hs.b.size, hop0 hs.b h.bel⟩
    · have := hf k hk
      rcases List.mem_cons.1 hp with rfl | hp
      · simp only at e; omega
      · rw [List.mem_singleton.1 hp] at e
        simp only at e
        omega
    · rcases List.mem_cons.1 hp with rfl | hp
      · exact ⟨Nat.le_succ _, hs4.r⟩
      · rw [List.mem_singleton.1 hp]
        exact ⟨Nat.le_refl _, hs4.s⟩
    · have h1 : ∀ k, k < w3.heap.size → k ≠ a.block := fun k hk => offB_own (R := fun i => i = k) h.own (fun i hi => hi ▸ hk) a ha ∘ Eq.symm
      rcases List.mem_cons.1 hp with rfl | hp
      · exact h1 _ hl3
      · rw [List.mem_singleton.1 hp]
        exact h1 _ (by simp only; omega)
  exact h4.new HT ((Below.refl _ _).alloc (Nat.le_refl _) _) (Nat.le_refl _) (World.alloc_heap_new w4 _)
theorem Pl.neq {w U : World} {q : Nat} {o : Obj} {bs : List Bx} {v : Value} {l m : List Kp} {A : Option Addr} {n c : Nat} (h : Pl TabS w ((q, o) :: bs) v l m A n c U) {p : Bx} (hp : p ∈ bs) : p.1 ≠ q :=
  fun e => (List.nodup_cons.1 h.nd).1 (List.mem_map.2 ⟨p, hp, e⟩)
/-- Behind a loop that was left. -/
structure PlX (w9 : World) (bn : Nat) (U : World) : Prop where
  c : Ch (fun k => k = bn) w9 U
  n : ∃ y : Int, U.heap[bn]? = some (.cells #[.int .i64 y] 3)
theorem PlX.own {w9 : World} {bn : Nat} (hb : bn < w9.heap.size) : LoopOwn w9.heap.size (fun (_ : List Kp) U => PlX w9 bn U) := fun pre U V row h hg hr => by
  obtain ⟨y, hn⟩ := h.n
  exact ⟨h.c.grown hg (fun k e => .inr (hr k e).1), y, (hg.block _ (lt_of_heap hn) (fun e => by have := (hr _ e.symm).1; omega)).trans hn⟩
theorem stops_next {m : List Kp} {pre : List Kp} {x : Kp} (hn : m[pre.length]? = some x) : ∃ hq : 0 + pre.length < m.length, m[0 + pre.length] = x := by
  rw [show pre.length = 0 + pre.length by omega] at hn
  exact List.getElem?_eq_some_iff.1 hn
theorem stops_sub {b m n t d e f : Bx} : ∀ p ∈ [b, m, d, e, f], p ∈ [b, m, n, t, d, e, f] := by
  intro p hp
  simp only [List.mem_cons, List.not_mem_nil, or_false] at hp ⊢
  rcases hp with h | h | h | h | h <;> simp [h]
theorem stops_nd {b m n t d e f : Bx} (h : ([b, m, n, t, d, e, f].map Prod.fst).Nodup) : ([b, m, d, e, f].map Prod.fst).Nodup :=
  h.sublist ((List.Sublist.cons_cons b (.cons_cons m (.cons n (.cons t (List.Sublist.refl _))))).map Prod.fst)
theorem cells2_heap {U : World} {q : Nat} {x y : Value} {t : TypeId} (h : U.heap[q]? = some (.cells #[x, y] t)) : U.cell? ⟨q, 0, none⟩ = some x ∧ U.cell? ⟨q, 1, none⟩ = some y := ⟨by simp [World.cell?, h], by simp [World.cell?, h]⟩
theorem stops_row (w : World) (k x : ByteArray) (t : TypeId) : PRow (w.alloc (.cells #[.string k, .string x] t)) (w.alloc (.cells #[.string k, .string x] t)).heap.size (some ⟨w.heap.size, 0, none⟩) [⟨k, x⟩] := by
  intro j hj
  have h := World.alloc_heap_new w (.cells #[.string k, .string x] t)
  have h0 : j = 0 := by simp at hj; omega
  subst h0
  obtain ⟨h1, h2⟩ := cells2_heap h
  exact ⟨_, _, rfl, by simp, h1, h2⟩
set_option maxHeartbeats 8000000 in
set_option maxRecDepth 100000 in
theorem stops_walk (HT : TabC TabS) (HNL : TabN TabS) (hal : ∀ W : World, Calls Try.prog 8 #[] W fun e w' => e = .returned (.bool true) ∧ Below W.heap.size W w') (a : List Oq) (na ca : Nat) (Aa : Option Addr) (st : Int) (hst : 0 ≤ st ∧ st ≤ 255) (w : World) (hla : na = a.length) (hna : na ≤ maxLen) (hA : OqRow w w.heap.size Aa a) :
    Calls Try.prog 6 #[.slice Aa na ca, .int .u8 st] w fun e w' => e = .returned (.bool true) ∧ Below w.heap.size w w' := by
  refine (callsIn_wide (n := 8)).1 ?_
  have HAL := Lib.hid hal
  have HLG := Lib.hid (fun (U : World) (hU : Below w.heap.size w U) => long_any a na ca Aa U hla hna ((hA.below hU).more hU.size))
  have HMD := Lib.hid (fun (U : World) (hU : Below w.heap.size w U) (hn : na ≤ limO) => made_any HT a na ca Aa U hla hn ((hA.below hU).more hU.size))
  have HST := Lib.hid hst
  obtain ⟨W1, hW1⟩ : ∃ W1, (w.alloc (.cells #[.int .u8 st] 5)).alloc (.cells #[.bool false] 4) = W1 := ⟨_, rfl⟩
  have HS1 : Hid (StB w st W1) := Lib.hid (by
    rw [← hW1]
    refine ⟨(Below.heap_alloc _ _ _ (by simp)).trans (World.alloc_heap_new w _), ?_, two_boxes _ _ _⟩
    have := World.alloc_heap_new (w.alloc (.cells #[.int .u8 st] 5)) (.cells #[.bool false] 4)
    rwa [World.size_alloc] at this)
  have HW1 := Lib.hid hW1
  clear hal hla hna hA hst hW1
  refine callsIn_of_wp_marks Try.func6 rfl trivial ?_ rfl
  simp only [Try.ntmps6, List.size_toArray, List.length_cons, List.length_nil, Nat.reduceAdd, Nat.reduceSub, Array.replicate_succ, Array.replicate_zero, List.push_toArray, List.append_toArray, List.nil_append, List.cons_append]
  refine wpIn_wide.2 ?_
  go_wp2_with (first
    | (go_at_call 8; go_loud (rw [HW1.out]; refine (HAL.out _).mono ?_; rintro en w2 ⟨rfl, hb2⟩; have HS2 := Lib.hid (HS1.out.below hb2); clear hb2))
    | (go_at_call 9; go_loud (refine (HLG.out _ HS2.out.b).mono ?_; rintro en w3 ⟨b3, rfl, hq3, hb3⟩; have HS3 := Lib.hid (HS2.out.below hb3); have HQ3 := Lib.hid hq3; have r0 : w3.cell? ⟨w.heap.size + 1, 0, none⟩ = some (.bool false) := (by simp [World.cell?, HS3.out.r]); have r1 : w3.frozen? ⟨w.heap.size + 1, 0, none⟩ = false := (by simp [World.frozen?, HS3.out.r]); have r2 : w.heap.size + 1 < w3.heap.size := lt_of_heap HS3.out.r; clear hb3 hq3; cases b3))
    | (go_at_call 20; go_loud (refine (HMD.out _ HS3.out.b (HQ3.out (by trivial))).mono ?_; rintro en w4 ⟨v, A2, c2, m, -, hlm, rfl, hm4⟩; have HLE := Lib.hid (show m.length ≤ limO from Nat.le_trans hlm (HQ3.out (by trivial))); have HM5 := Lib.hid (stops_start HT HS3.out hm4); clear hm4 hlm r0 r1 r2; obtain ⟨W5, hW5⟩ : ∃ W5, w4.alloc (.cells #[.slice A2 m.length c2] 27) = W5 := ⟨_, rfl⟩; obtain ⟨bm, hbm⟩ : ∃ bm, w4.heap.size = bm := ⟨_, rfl⟩; have HW5 := Lib.hid hW5; have HBM := Lib.hid hbm; rw [hW5, hbm] at HM5; clear hW5 hbm))
    | (go_at_call 25; go_loud (rw [HW5.out]; refine (HM5.out.all HT (by have := HLE.out; unfold limO at this; omega)).mono ?_; rintro en w6 ⟨gf, lb, S, rfl, he6, hp6, ⟨D6, R6, ht6, hd6⟩, hq6⟩; have HE6 := Lib.hid he6; have HP6 := Lib.hid hp6; have HT6 := Lib.hid ht6; have HD6 := Lib.hid hd6; have HQ6 := Lib.hid hq6; clear he6 hp6 ht6 hd6 hq6))
    | (go_at_call 13; go_loud (refine (HP6.out.qput HT HT6.out HD6.out (by have := HLE.out; unfold limO at this; omega) _ _).mono ?_; rintro en w7 ⟨rfl, hp7, ⟨D7, R7, ht7, hd7⟩⟩; have HP7 := Lib.hid hp7; have HT7 := Lib.hid ht7; have HD7 := Lib.hid hd7; clear hp7 ht7 hd7))
    | (go_at_call 15; go_loud (refine (HP7.out.qdel HT HT7.out HD7.out (by have h1 := setK_len m ⟨#[122, 122]⟩ ⟨#[110, 101, 119]⟩; have := HLE.out; unfold limO at this; omega) _).mono ?_; rintro en w8 ⟨rfl, hp8⟩; have HP8 := Lib.hid hp8; clear hp8)))
  · have HP9 := Lib.hid (HP8.out.new TabQ.k ((Below.refl _ _).alloc (Nat.le_refl _) (.cells #[.int .i64 0] 3)) (Nat.le_refl _) (World.alloc_heap_new w8 _))
    rw [HBM.out]
    obtain ⟨W9, hW9⟩ : ∃ W9, w8.alloc (.cells #[.int .i64 0] 3) = W9 := ⟨_, rfl⟩
    obtain ⟨bt, hbt⟩ : ∃ bt, w8.heap.size = bt := ⟨_, rfl⟩
    rw [hW9, hbt] at HP9
    rw [hW9, hbt]
    have HSQ := Lib.hid (show ∀ (U W : World) (bs : List Bx), Pl (TabQ S w6) w bs v m m A2 m.length c2 U → U.grownBy W none → SeqAt Fence.wide 7 Try.prog gf lb encK (NextK m) (Ks S) (fun xs => xs.length = m.length) W from fun U W bs h hg => HQ6.out W (fun k hk => (hg.block k (h.seqs k hk).2.1 (by simp)).trans (h.seqs k hk).2.2.1))
    have HLE2 := Lib.hid (show m.length ≤ 1000 by have := HLE.out; unfold limO at this; omega)
    clear hW9 hbt HP8 HT7 HD7 HP7 HT6 HD6 HP6 HM5 HW5 HBM HLE HQ6 HMD HLG HAL HW1 HS1 HS2 HS3 HQ3
    have t0 := cell_heap (HP9.out.at_ (bxN bt 0) (by simp)).2
    refine wp_loop_rounds 3 ?_
    rw [rounds_succ]
    go_wp2
    have HP10 := Lib.hid (HP9.out.new TabQ.k ((Below.refl _ _).alloc (Nat.le_refl _) (.cells #[.int .i64 0] 3)) (Nat.le_refl _) (World.alloc_heap_new W9 _))
    obtain ⟨W10, hW10⟩ : ∃ W10, W9.alloc (.cells #[.int .i64 0] 3) = W10 := ⟨_, rfl⟩
    obtain ⟨bn, hbn⟩ : ∃ bn, W9.heap.size = bn := ⟨_, rfl⟩
    rw [hW10, hbn] at HP10
    rw [hW10, hbn]
    clear hW10 hbn t0
    have hsz : bn < W10.heap.size := HP10.out.lt (p := bxN bn 0) (by simp)
    have HNS := Lib.hid (show ¬ S bn from fun h => (HP10.out.seqs bn h).2.2.2 (bxN bn 0) (by simp) rfl)
    have HSB := Lib.hid (show ∀ k, S k → k < W10.heap.size from fun k hk => (HP10.out.seqs k hk).2.1)
    refine (wpIn_wide (n := 8)).1 ?_
    refine range_nest2 rfl (by omega) (gf := gf) (lb := lb) (by simp [Act.eval]) trivial HE6.out
        (encs := encK) (Y := NextK m) (Kp := Ks S) (done := fun xs => xs.length = m.length)
        (fun W1 hg hs1 => HSQ.out _ W1 _ HP10.out hg)
        (fun x => rfl) Ks.trans Ks.grown (fun U o => Ks.put (fun h => by have := HSB.out _ h; omega) o)
        (PlI W10 bn 0)
        (fun c _ U => c = .exit 2 ∧ PlX W10 bn U)
        (PlI.own hsz)
        (fun c3 => (LoopOwn.pure_ (fun _ => c3 = .exit 2)).and (PlX.own hsz))
        (fun pre => NextK.own pre) ?sta1 (fun _ U => U) (fun x U => ⟨rfl, rfl, rfl, Nat.le_refl _, fun _ _ _ => rfl⟩) (fun _ _ _ => True) (fun x U r r' hb => trivial) ?aa1 ?asa1 ?boa1 ?doa1 ?spa1
    case sta1 =>
      intro W1 hg hs1
      exact ⟨(Ch.refl _ W10).grown hg (fun k e => by cases e), (hg.block _ hsz (by simp)).trans (HP10.out.at_ (bxN bn 0) (by simp)).2, by omega⟩
    case asa1 =>
      intro l0 x U K hK
      gi_wp2
      exact hK
    case boa1 =>
      rintro l0 pre x U V2 hI hY _ hbk
      obtain ⟨hpl, hpe⟩ := stops_next hY
      obtain ⟨gb2, og2, eA, hgb2, k0, k1⟩ := HP10.out.row (0 + pre.length) hpl
      have hoff := HP10.out.off (bxN bn 0) (by simp) _ eA
      rw [hpe] at k0 k1
      obtain ⟨q, hm⟩ : ∃ q, 0 + pre.length = q := ⟨_, rfl⟩
      have HST2 := Lib.hid (hI.step (x := x) hm HNS.out hsz)
      have C : ∀ (p : Bx) (of : Nat), p ∈ [bxN bt 0, bxM bm A2 m.length c2, bxF w, bxU w st] → V2.heap[p.1]? = some p.2 := fun p of hp => (hI.c.block _ (HP10.out.lt (.tail _ hp)) (HP10.out.neq hp)).trans (HP10.out.at_ p (.tail _ hp)).2
      have hlb := cell_heap (C (bxM bm A2 m.length c2) 0 (by simp))
      have t0 := cell_heap (C (bxN bt 0) 0 (by simp))
      have s0 := cell_heap (C (bxU w st) 0 (by simp))
      have u1 := HP10.out.neq (p := bxN bt 0) (by simp)
      have u2 := HP10.out.neq (p := bxU w st) (by simp)
      have u3 := HP10.out.neq (p := bxM bm A2 m.length c2) (by simp)
      dsimp only at u1 u2 u3
      cases eA
      have D : ∀ of : Nat, V2.cell? ⟨gb2, of, none⟩ = W10.cell? ⟨gb2, of, none⟩ := fun of => World.cell?_of_block (a := ⟨gb2, of, none⟩) (hI.c.block gb2 hgb2 (fun e => hoff e.symm))
      replace k0 := (D _).trans k0
      replace k1 := (D _).trans k1
      have n0 := cell_heap hI.n
      have n1 := lt_of_heap hI.n
      have f2 := frozen_heap hI.n
      rw [hm] at n0 k0 k1 hpl
      obtain ⟨yk, yv⟩ := x
      obtain ⟨N, hN⟩ : ∃ N, m.length = N := ⟨_, rfl⟩
      have HNN := Lib.hid (show N ≤ 1000 by rw [← hN]; exact HLE2.out)
      have i1 : (0 : Int) ≤ (q : Int) := by omega
      have i2 : (q : Int) < (m.length : Int) := by omega
      have i3 : q + 1 ≤ 9223372036854775807 := by have := HLE2.out; omega
      have q1 : decide ((m.length : Int) ≤ (q : Int)) = false := decide_eq_false (by omega)
      dsimp only at k0 k1
      clear hI hY hpe hbk hm C D hoff hN
      obtain ⟨hst0, hst1⟩ := HST.out
      by_cases hgt : st < (q : Int) + 1
      · have q2 : decide (st < (q : Int) + 1) = true := decide_eq_true hgt
        gi_wp2
        exact ⟨HST2.out.1, HST2.out.2.1, rfl, ⟨HST2.out.2.2.c, ⟨_, HST2.out.2.2.n⟩⟩⟩
      · have q2 : decide (st < (q : Int) + 1) = false := decide_eq_false hgt
        gi_wp2
        exact ⟨HST2.out.1, HST2.out.2.1, HST2.out.2.2⟩
    case spa1 =>
      rintro cc pre V ⟨rfl, hX⟩ hK
      obtain ⟨y, hn⟩ := hX.n
      have HPV := Lib.hid (HP10.out.ranged TabQ.k (d := W10.heap.size) (od := .deferred (some [])) hX.c hn (Nat.le_refl _) hK)
      have t0 := cell_heap (HPV.out.at_ (bxN bt 0) (by simp)).2
      clear hX hn hK
      gi_wp2
      go_wp2
      have HPW := Lib.hid ((HPV.out.new TabQ.k ((Below.refl _ _).alloc (Nat.le_refl _) (.cells #[.int .i64 1] 3)) (Nat.le_refl _) (World.alloc_heap_new V _)).sub (bs' := [bxN V.heap.size 1, mkB W10.heap.size, bxM bm A2 m.length c2, bxF w, bxU w st]) stops_sub (stops_nd (HPV.out.new TabQ.k ((Below.refl _ _).alloc (Nat.le_refl _) (.cells #[.int .i64 1] 3)) (Nat.le_refl _) (World.alloc_heap_new V _)).nd))
      obtain ⟨Wv, hWv⟩ : ∃ Wv, V.alloc (.cells #[.int .i64 1] 3) = Wv := ⟨_, rfl⟩
      obtain ⟨bt2, hbt2⟩ : ∃ bt2, V.heap.size = bt2 := ⟨_, rfl⟩
      obtain ⟨d0, hd0⟩ : ∃ d0, W10.heap.size = d0 := ⟨_, rfl⟩
      rw [hWv, hbt2, hd0] at HPW
      rw [hWv, hbt2, hd0]
      clear hWv hbt2 t0 HPV HSB hsz
      have t0 := cell_heap (HPW.out.at_ (bxN bt2 1) (by simp)).2
      rw [rounds_succ]
      go_wp2
      have HP11 := Lib.hid (HPW.out.new TabQ.k ((Below.refl _ _).alloc (Nat.le_refl _) (.cells #[.int .i64 0] 3)) (Nat.le_refl _) (World.alloc_heap_new Wv _))
      obtain ⟨W11, hW11⟩ : ∃ W11, Wv.alloc (.cells #[.int .i64 0] 3) = W11 := ⟨_, rfl⟩
      obtain ⟨bn2, hbn2⟩ : ∃ bn2, Wv.heap.size = bn2 := ⟨_, rfl⟩
      rw [hW11, hbn2] at HP11
      rw [hW11, hbn2]
      clear hW11 hbn2 t0 HNS hd0
      have hsz : bn2 < W11.heap.size := HP11.out.lt (p := bxN bn2 0) (by simp)
      have HNS := Lib.hid (show ¬ S bn2 from fun h => (HP11.out.seqs bn2 h).2.2.2 (bxN bn2 0) (by simp) rfl)
      have HSB := Lib.hid (show ∀ k, S k → k < W11.heap.size from fun k hk => (HP11.out.seqs k hk).2.1)
      refine (wpIn_wide (n := 8)).1 ?_
      refine range_nest2 rfl (by omega) (gf := gf) (lb := lb) (by simp [Act.eval]) trivial HE6.out
          (encs := encK) (Y := NextK m) (Kp := Ks S) (done := fun xs => xs.length = m.length)
          (fun W1 hg hs1 => HSQ.out _ W1 _ HP11.out hg)
          (fun x => rfl) Ks.trans Ks.grown (fun U o => Ks.put (fun h => by have := HSB.out _ h; omega) o)
          (PlI W11 bn2 0)
          (fun _ _ _ => False)
          (PlI.own hsz)
          (fun _ _ _ _ _ h _ _ => h)
          (fun pre => NextK.own pre) ?sta2 (fun _ U => U) (fun x U => ⟨rfl, rfl, rfl, Nat.le_refl _, fun _ _ _ => rfl⟩) (fun _ _ _ => True) (fun x U r r' hb => trivial) ?aa2 ?asa2 ?boa2 ?doa2 ?spa2
      case sta2 =>
        intro W1 hg hs1
        exact ⟨(Ch.refl _ W11).grown hg (fun k e => by cases e), (hg.block _ hsz (by simp)).trans (HP11.out.at_ (bxN bn2 0) (by simp)).2, by omega⟩
      case asa2 =>
        intro l0 x U K hK
        gi_wp2
        exact hK
      case boa2 =>
        rintro l0 pre x U V2 hI hY _ hbk
        obtain ⟨hpl, hpe⟩ := stops_next hY
        obtain ⟨gb2, og2, eA, hgb2, k0, k1⟩ := HP11.out.row (0 + pre.length) hpl
        have hoff := HP11.out.off (bxN bn2 0) (by simp) _ eA
        rw [hpe] at k0 k1
        obtain ⟨q, hm⟩ : ∃ q, 0 + pre.length = q := ⟨_, rfl⟩
        have HST2 := Lib.hid (hI.step (x := x) hm HNS.out hsz)
        have C : ∀ (p : Bx) (of : Nat), p ∈ [bxN bt2 1, mkB d0, bxM bm A2 m.length c2, bxF w, bxU w st] → V2.heap[p.1]? = some p.2 := fun p of hp => (hI.c.block _ (HP11.out.lt (.tail _ hp)) (HP11.out.neq hp)).trans (HP11.out.at_ p (.tail _ hp)).2
        have hlb := cell_heap (C (bxM bm A2 m.length c2) 0 (by simp))
        have t0 := cell_heap (C (bxN bt2 1) 0 (by simp))
        have s0 := cell_heap (C (bxU w st) 0 (by simp))
        have u1 := HP11.out.neq (p := bxN bt2 1) (by simp)
        have u2 := HP11.out.neq (p := bxU w st) (by simp)
        have u3 := HP11.out.neq (p := bxM bm A2 m.length c2) (by simp)
        dsimp only at u1 u2 u3
        cases eA
        have D : ∀ of : Nat, V2.cell? ⟨gb2, of, none⟩ = W11.cell? ⟨gb2, of, none⟩ := fun of => World.cell?_of_block (a := ⟨gb2, of, none⟩) (hI.c.block gb2 hgb2 (fun e => hoff e.symm))
        replace k0 := (D _).trans k0
        replace k1 := (D _).trans k1
        have n0 := cell_heap hI.n
        have n1 := lt_of_heap hI.n
        have f2 := frozen_heap hI.n
        rw [hm] at n0 k0 k1 hpl
        obtain ⟨yk, yv⟩ := x
        obtain ⟨N, hN⟩ : ∃ N, m.length = N := ⟨_, rfl⟩
        have HNN := Lib.hid (show N ≤ 1000 by rw [← hN]; exact HLE2.out)
        have i1 : (0 : Int) ≤ (q : Int) := by omega
        have i2 : (q : Int) < (m.length : Int) := by omega
        have i3 : q + 1 ≤ 9223372036854775807 := by have := HLE2.out; omega
        have q1 : decide ((m.length : Int) ≤ (q : Int)) = false := decide_eq_false (by omega)
        dsimp only at k0 k1
        clear hI hY hpe hbk hm C D hoff hN
        gi_wp2
        exact ⟨HST2.out.1, HST2.out.2.1, HST2.out.2.2⟩
      case spa2 =>
        rintro cc pre V2 h
        exact h.elim
      case doa2 =>
        rintro xs V hxs hI hK
        have hxl : xs.length = m.length := hxs
        have hn := hI.n
        rw [hxl, Nat.zero_add] at hn
        have HPV := Lib.hid (HP11.out.ranged TabQ.k (d := W11.heap.size) (od := .deferred (some [])) hI.c hn (Nat.le_refl _) hK)
        have t0 := cell_heap (HPV.out.at_ (bxN bt2 1) (by simp)).2
        have n0 := cell_heap hn
        have hlb := cell_heap (HPV.out.at_ (bxM bm A2 m.length c2) (by simp)).2
        clear hI hn hK hxs hxl
        go_wp2
        rw [rounds_succ]
        have HP12 := Lib.hid (HPV.out.new TabQ.k ((Below.refl _ _).alloc (Nat.le_refl _) (.cells #[.int .i64 2] 3)) (Nat.le_refl _) (World.alloc_heap_new V _))
        obtain ⟨W12, hW12⟩ : ∃ W12, V.alloc (.cells #[.int .i64 2] 3) = W12 := ⟨_, rfl⟩
        obtain ⟨bt3, hbt3⟩ : ∃ bt3, V.heap.size = bt3 := ⟨_, rfl⟩
        rw [hW12, hbt3] at HP12
        rw [hW12, hbt3]
        clear hW12 hbt3 t0 n0 hlb HPV
        have t0 := cell_heap (HP12.out.at_ (bxN bt3 2) (by simp)).2
        go_wp2_with (first
          | (have HSEC := HTc; go_at_call 13; clear HSEC; go_loud (refine (HT.put _ _ HTc.out (by simp)).mono ?_; rintro en wd ⟨Dd, Rd, rfl, htd, -, -, hcd⟩; have HTd := Lib.hid htd; have HPd := Lib.hid (HPb.out.on TabQ.k (HBc.out.trans (hcd.toBelow (fun k _ hk => HFc.out k (HT.wr HTc.out k hk)) HBc.out.size))); clear htd hcd))
          | (go_at_call 13; go_loud (refine (HNL.put _ _ _).mono ?_; rintro en wa ⟨rfl, hba⟩; have HPa := Lib.hid (HP12.out.on TabQ.k hba); clear hba))
          | (go_at_call 11; go_loud (refine (HNL.get _ _).mono ?_; rintro en wb ⟨rfl, hbb⟩; have HPb := Lib.hid (HPa.out.on TabQ.k hbb); clear hbb))
          | (go_at_call 18; go_loud (refine (HNL.copy _).mono ?_; rintro en wc ⟨Dc, Rc, vc, rfl, htc, hfc, hbc⟩; have HTc := Lib.hid htc; have HFc := Lib.hid hfc; have HBc := Lib.hid hbc; clear htc hfc hbc))
          | (go_at_call 26; go_loud (refine (HNL.len _).mono ?_; rintro en we ⟨rfl, hbe⟩; have HPe := Lib.hid (HPd.out.on TabQ.k hbe); have HTe := Lib.hid (HT.ch HTd.out (ch_of (S := fun _ => False) hbe) (fun _ h => h.elim)); clear hbe))
          | (go_at_call 15; go_loud (refine (HNL.del _ _).mono ?_; rintro en wf ⟨rfl, hbf⟩; have HPf := Lib.hid (HPe.out.on TabQ.k hbf); have HTf := Lib.hid (HT.ch HTe.out (ch_of (S := fun _ => False) hbf) (fun _ h => h.elim)); clear hbf))
          | (have HSEC := HTg; go_at_call 19; clear HSEC; go_loud (refine (has_row (A := some ⟨wg.heap.size, 0, none⟩) (n := 1) (c := 1) HT (HT.ch HTg.out (ch_of (S := fun _ => False) ((Below.refl _ _).alloc (Nat.le_refl _) _)) (fun _ h => h.elim)) (by rfl) (stops_row wg _ _ _) (by decide)).mono ?_; rintro en wh ⟨rfl, hbh⟩; have HPh := Lib.hid ((HPg.out.on TabQ.k ((Below.refl _ _).alloc (Nat.le_refl _) _)).on TabQ.k hbh); clear hbh))
          | (go_at_call 19; go_loud (refine (HNL.has _).mono ?_; rintro en wg ⟨rfl, hbg⟩; have HPg := Lib.hid (HPf.out.on TabQ.k hbg); have HTg := Lib.hid (HT.ch HTf.out (ch_of (S := fun _ => False) hbg) (fun _ h => h.elim)); clear hbg))
          | (go_at_call 21; go_loud (refine (HNL.diff _).mono ?_; rintro en wi ⟨Ai, ci, rfl, hbi⟩; have HPi := Lib.hid (HPh.out.on TabQ.k hbi); have r0 := cell_heap (HPi.out.at_ (bxF w) (by simp)).2; have r1 := frozen_heap (HPi.out.at_ (bxF w) (by simp)).2; have r2 : w.heap.size + 1 < wi.heap.size := lt_of_heap (HPi.out.at_ (bxF w) (by simp)).2; clear hbi)))
        have hn1 := HPi.out.drop1.neq (p := mkB d0) (by simp)
        have hn2 := HPi.out.drop1.neq (p := bxF w) (by simp)
        have hn3 := HPi.out.drop1.drop1.drop1.drop1.neq (p := bxF w) (by simp)
        have hm1 := HPi.out.at_ (W11.heap.size, .deferred (some [])) (by simp)
        have hm0 := HPi.out.at_ (mkB d0) (by simp)
        dsimp only [mkB, bxF] at hn1 hn2 hn3 hm1 hm0
        refine leaves_marks (B := w.heap.size) [W11.heap.size, d0] _ (by simpa using fun e => hn1 e.symm) (fun r hr => ?_) ?_ (by have := HPi.out.bel.size; simpa [World.setCell] using this)
        · rcases List.mem_cons.1 hr with rfl | hr
          · exact ⟨hm1.1, (Below.heap_setCell _ _ _ _ (fun e => hn2 e.symm)).trans hm1.2⟩
          · rw [List.mem_singleton.1 hr]
            exact ⟨hm0.1, (Below.heap_setCell _ _ _ _ (fun e => hn3 e.symm)).trans hm0.2⟩
        · intro V9 hV hk
          have z : V9.cell? ⟨w.heap.size + 1, 0, none⟩ = some (.bool true) := (World.cell?_of_block (a := ⟨w.heap.size + 1, 0, none⟩) (hk _ (by simp only [List.mem_cons, List.not_mem_nil, or_false, not_or]; exact ⟨hn2, hn3⟩))).trans (World.cell?_setCell_same _ _ _ r0)
          exact ⟨.bool true, by simp [results, Try.results6, go_sem, z], rfl, (HPi.out.bel.setCell (Nat.le_succ _) _).trans hV⟩
    case doa1 =>
      rintro xs V hxs hI hK
      obtain ⟨y, hy⟩ : ∃ y : Int, ((0 + xs.length : Nat) : Int) = y := ⟨_, rfl⟩
      have hn := hI.n
      rw [hy] at hn
      have HPV := Lib.hid (HP10.out.ranged TabQ.k (d := W10.heap.size) (od := .deferred (some [])) hI.c hn (Nat.le_refl _) hK)
      have t0 := cell_heap (HPV.out.at_ (bxN bt 0) (by simp)).2
      clear hI hn hK hxs hy
      go_wp2
      have HPW := Lib.hid ((HPV.out.new TabQ.k ((Below.refl _ _).alloc (Nat.le_refl _) (.cells #[.int .i64 1] 3)) (Nat.le_refl _) (World.alloc_heap_new V _)).sub (bs' := [bxN V.heap.size 1, mkB W10.heap.size, bxM bm A2 m.length c2, bxF w, bxU w st]) stops_sub (stops_nd (HPV.out.new TabQ.k ((Below.refl _ _).alloc (Nat.le_refl _) (.cells #[.int .i64 1] 3)) (Nat.le_refl _) (World.alloc_heap_new V _)).nd))
      obtain ⟨Wv, hWv⟩ : ∃ Wv, V.alloc (.cells #[.int .i64 1] 3) = Wv := ⟨_, rfl⟩
      obtain ⟨bt2, hbt2⟩ : ∃ bt2, V.heap.size = bt2 := ⟨_, rfl⟩
      obtain ⟨d0, hd0⟩ : ∃ d0, W10.heap.size = d0 := ⟨_, rfl⟩
      rw [hWv, hbt2, hd0] at HPW
      rw [hWv, hbt2, hd0]
      clear hWv hbt2 t0 HPV HSB hsz
      have t0 := cell_heap (HPW.out.at_ (bxN bt2 1) (by simp)).2
      rw [rounds_succ]
      go_wp2
      have HP11 := Lib.hid (HPW.out.new TabQ.k ((Below.refl _ _).alloc (Nat.le_refl _) (.cells #[.int .i64 0] 3)) (Nat.le_refl _) (World.alloc_heap_new Wv _))
      obtain ⟨W11, hW11⟩ : ∃ W11, Wv.alloc (.cells #[.int .i64 0] 3) = W11 := ⟨_, rfl⟩
      obtain ⟨bn2, hbn2⟩ : ∃ bn2, Wv.heap.size = bn2 := ⟨_, rfl⟩
      rw [hW11, hbn2] at HP11
      rw [hW11, hbn2]
      clear hW11 hbn2 t0 HNS hd0
      have hsz : bn2 < W11.heap.size := HP11.out.lt (p := bxN bn2 0) (by simp)
      have HNS := Lib.hid (show ¬ S bn2 from fun h => (HP11.out.seqs bn2 h).2.2.2 (bxN bn2 0) (by simp) rfl)
      have HSB := Lib.hid (show ∀ k, S k → k < W11.heap.size from fun k hk => (HP11.out.seqs k hk).2.1)
      refine (wpIn_wide (n := 8)).1 ?_
      refine range_nest2 rfl (by omega) (gf := gf) (lb := lb) (by simp [Act.eval]) trivial HE6.out
          (encs := encK) (Y := NextK m) (Kp := Ks S) (done := fun xs => xs.length = m.length)
          (fun W1 hg hs1 => HSQ.out _ W1 _ HP11.out hg)
          (fun x => rfl) Ks.trans Ks.grown (fun U o => Ks.put (fun h => by have := HSB.out _ h; omega) o)
          (PlI W11 bn2 0)
          (fun _ _ _ => False)
          (PlI.own hsz)
          (fun _ _ _ _ _ h _ _ => h)
          (fun pre => NextK.own pre) ?sta3 (fun _ U => U) (fun x U => ⟨rfl, rfl, rfl, Nat.le_refl _, fun _ _ _ => rfl⟩) (fun _ _ _ => True) (fun x U r r' hb => trivial) ?aa3 ?asa3 ?boa3 ?doa3 ?spa3
      case sta3 =>
        intro W1 hg hs1
        exact ⟨(Ch.refl _ W11).grown hg (fun k e => by cases e), (hg.block _ hsz (by simp)).trans (HP11.out.at_ (bxN bn2 0) (by simp)).2, by omega⟩
      case asa3 =>
        intro l0 x U K hK
        gi_wp2
        exact hK
      case boa3 =>
        rintro l0 pre x U V2 hI hY _ hbk
        obtain ⟨hpl, hpe⟩ := stops_next hY
        obtain ⟨gb2, og2, eA, hgb2, k0, k1⟩ := HP11.out.row (0 + pre.length) hpl
        have hoff := HP11.out.off (bxN bn2 0) (by simp) _ eA
        rw [hpe] at k0 k1
        obtain ⟨q, hm⟩ : ∃ q, 0 + pre.length = q := ⟨_, rfl⟩
        have HST2 := Lib.hid (hI.step (x := x) hm HNS.out hsz)
        have C : ∀ (p : Bx) (of : Nat), p ∈ [bxN bt2 1, mkB d0, bxM bm A2 m.length c2, bxF w, bxU w st] → V2.heap[p.1]? = some p.2 := fun p of hp => (hI.c.block _ (HP11.out.lt (.tail _ hp)) (HP11.out.neq hp)).trans (HP11.out.at_ p (.tail _ hp)).2
        have hlb := cell_heap (C (bxM bm A2 m.length c2) 0 (by simp))
        have t0 := cell_heap (C (bxN bt2 1) 0 (by simp))
        have s0 := cell_heap (C (bxU w st) 0 (by simp))
        have u1 := HP11.out.neq (p := bxN bt2 1) (by simp)
        have u2 := HP11.out.neq (p := bxU w st) (by simp)
        have u3 := HP11.out.neq (p := bxM bm A2 m.length c2) (by simp)
        dsimp only at u1 u2 u3
        cases eA
        have D : ∀ of : Nat, V2.cell? ⟨gb2, of, none⟩ = W11.cell? ⟨gb2, of, none⟩ := fun of => World.cell?_of_block (a := ⟨gb2, of, none⟩) (hI.c.block gb2 hgb2 (fun e => hoff e.symm))
        replace k0 := (D _).trans k0
        replace k1 := (D _).trans k1
        have n0 := cell_heap hI.n
        have n1 := lt_of_heap hI.n
        have f2 := frozen_heap hI.n
        rw [hm] at n0 k0 k1 hpl
        obtain ⟨yk, yv⟩ := x
        obtain ⟨N, hN⟩ : ∃ N, m.length = N := ⟨_, rfl⟩
        have HNN := Lib.hid (show N ≤ 1000 by rw [← hN]; exact HLE2.out)
        have i1 : (0 : Int) ≤ (q : Int) := by omega
        have i2 : (q : Int) < (m.length : Int) := by omega
        have i3 : q + 1 ≤ 9223372036854775807 := by have := HLE2.out; omega
        have q1 : decide ((m.length : Int) ≤ (q : Int)) = false := decide_eq_false (by omega)
        dsimp only at k0 k1
        clear hI hY hpe hbk hm C D hoff hN
        gi_wp2
        exact ⟨HST2.out.1, HST2.out.2.1, HST2.out.2.2⟩
      case spa3 =>
        rintro cc pre V2 h
        exact h.elim
      case doa3 =>
        rintro xs V hxs hI hK
        have hxl : xs.length = m.length := hxs
        have hn := hI.n
        rw [hxl, Nat.zero_add] at hn
        have HPV := Lib.hid (HP11.out.ranged TabQ.k (d := W11.heap.size) (od := .deferred (some [])) hI.c hn (Nat.le_refl _) hK)
        have t0 := cell_heap (HPV.out.at_ (bxN bt2 1) (by simp)).2
        have n0 := cell_heap hn
        have hlb := cell_heap (HPV.out.at_ (bxM bm A2 m.length c2) (by simp)).2
        clear hI hn hK hxs hxl
        go_wp2
        rw [rounds_succ]
        have HP12 := Lib.hid (HPV.out.new TabQ.k ((Below.refl _ _).alloc (Nat.le_refl _) (.cells #[.int .i64 2] 3)) (Nat.le_refl _) (World.alloc_heap_new V _))
        obtain ⟨W12, hW12⟩ : ∃ W12, V.alloc (.cells #[.int .i64 2] 3) = W12 := ⟨_, rfl⟩
        obtain ⟨bt3, hbt3⟩ : ∃ bt3, V.heap.size = bt3 := ⟨_, rfl⟩
        rw [hW12, hbt3] at HP12
        rw [hW12, hbt3]
        clear hW12 hbt3 t0 n0 hlb HPV
        have t0 := cell_heap (HP12.out.at_ (bxN bt3 2) (by simp)).2
        go_wp2_with (first
          | (have HSEC := HTc; go_at_call 13; clear HSEC; go_loud (refine (HT.put _ _ HTc.out (by simp)).mono ?_; rintro en wd ⟨Dd, Rd, rfl, htd, -, -, hcd⟩; have HTd := Lib.hid htd; have HPd := Lib.hid (HPb.out.on TabQ.k (HBc.out.trans (hcd.toBelow (fun k _ hk => HFc.out k (HT.wr HTc.out k hk)) HBc.out.size))); clear htd hcd))
          | (go_at_call 13; go_loud (refine (HNL.put _ _ _).mono ?_; rintro en wa ⟨rfl, hba⟩; have HPa := Lib.hid (HP12.out.on TabQ.k hba); clear hba))
          | (go_at_call 11; go_loud (refine (HNL.get _ _).mono ?_; rintro en wb ⟨rfl, hbb⟩; have HPb := Lib.hid (HPa.out.on TabQ.k hbb); clear hbb))
          | (go_at_call 18; go_loud (refine (HNL.copy _).mono ?_; rintro en wc ⟨Dc, Rc, vc, rfl, htc, hfc, hbc⟩; have HTc := Lib.hid htc; have HFc := Lib.hid hfc; have HBc := Lib.hid hbc; clear htc hfc hbc))
          | (go_at_call 26; go_loud (refine (HNL.len _).mono ?_; rintro en we ⟨rfl, hbe⟩; have HPe := Lib.hid (HPd.out.on TabQ.k hbe); have HTe := Lib.hid (HT.ch HTd.out (ch_of (S := fun _ => False) hbe) (fun _ h => h.elim)); clear hbe))
          | (go_at_call 15; go_loud (refine (HNL.del _ _).mono ?_; rintro en wf ⟨rfl, hbf⟩; have HPf := Lib.hid (HPe.out.on TabQ.k hbf); have HTf := Lib.hid (HT.ch HTe.out (ch_of (S := fun _ => False) hbf) (fun _ h => h.elim)); clear hbf))
          | (have HSEC := HTg; go_at_call 19; clear HSEC; go_loud (refine (has_row (A := some ⟨wg.heap.size, 0, none⟩) (n := 1) (c := 1) HT (HT.ch HTg.out (ch_of (S := fun _ => False) ((Below.refl _ _).alloc (Nat.le_refl _) _)) (fun _ h => h.elim)) (by rfl) (stops_row wg _ _ _) (by decide)).mono ?_; rintro en wh ⟨rfl, hbh⟩; have HPh := Lib.hid ((HPg.out.on TabQ.k ((Below.refl _ _).alloc (Nat.le_refl _) _)).on TabQ.k hbh); clear hbh))
          | (go_at_call 19; go_loud (refine (HNL.has _).mono ?_; rintro en wg ⟨rfl, hbg⟩; have HPg := Lib.hid (HPf.out.on TabQ.k hbg); have HTg := Lib.hid (HT.ch HTf.out (ch_of (S := fun _ => False) hbg) (fun _ h => h.elim)); clear hbg))
          | (go_at_call 21; go_loud (refine (HNL.diff _).mono ?_; rintro en wi ⟨Ai, ci, rfl, hbi⟩; have HPi := Lib.hid (HPh.out.on TabQ.k hbi); have r0 := cell_heap (HPi.out.at_ (bxF w) (by simp)).2; have r1 := frozen_heap (HPi.out.at_ (bxF w) (by simp)).2; have r2 : w.heap.size + 1 < wi.heap.size := lt_of_heap (HPi.out.at_ (bxF w) (by simp)).2; clear hbi)))
        have hn1 := HPi.out.drop1.neq (p := mkB d0) (by simp)
        have hn2 := HPi.out.drop1.neq (p := bxF w) (by simp)
        have hn3 := HPi.out.drop1.drop1.drop1.drop1.neq (p := bxF w) (by simp)
        have hm1 := HPi.out.at_ (W11.heap.size, .deferred (some [])) (by simp)
        have hm0 := HPi.out.at_ (mkB d0) (by simp)
        dsimp only [mkB, bxF] at hn1 hn2 hn3 hm1 hm0
        refine leaves_marks (B := w.heap.size) [W11.heap.size, d0] _ (by simpa using fun e => hn1 e.symm) (fun r hr => ?_) ?_ (by have := HPi.out.bel.size; simpa [World.setCell] using this)
        · rcases List.mem_cons.1 hr with rfl | hr
          · exact ⟨hm1.1, (Below.heap_setCell _ _ _ _ (fun e => hn2 e.symm)).trans hm1.2⟩
          · rw [List.mem_singleton.1 hr]
            exact ⟨hm0.1, (Below.heap_setCell _ _ _ _ (fun e => hn3 e.symm)).trans hm0.2⟩
        · intro V9 hV hk
          have z : V9.cell? ⟨w.heap.size + 1, 0, none⟩ = some (.bool true) := (World.cell?_of_block (a := ⟨w.heap.size + 1, 0, none⟩) (hk _ (by simp only [List.mem_cons, List.not_mem_nil, or_false, not_or]; exact ⟨hn2, hn3⟩))).trans (World.cell?_setCell_same _ _ _ r0)
          exact ⟨.bool true, by simp [results, Try.results6, go_sem, z], rfl, (HPi.out.bel.setCell (Nat.le_succ _) _).trans hV⟩
  · have z : (w3.setCell ⟨w.heap.size + 1, 0, none⟩ (.bool true)).cell? ⟨w.heap.size + 1, 0, none⟩ = some (.bool true) := World.cell?_setCell_same _ _ _ r0
    exact ⟨.bool true, by simp [results, Try.results6, go_sem, z], rfl, HS3.out.b.setCell (Nat.le_succ _) _⟩
end
end Go.Proofs.Ytmeoednndfgffaa
