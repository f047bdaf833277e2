/- Layer 14: the law WindowAll, walked. -/
import Derived.Test.YtjgbpbjgcniieaaWnJ
namespace Go.Proofs.Ytjgbpbjgcniieaa
attribute [local go_sem] Oper.semAt_some
open Go Go.ChangeShapes Go.WideShapes Go.ChangeAt Go.RowKit
set_option linter.unusedVariables false
set_option linter.unusedSimpArgs false
/-- What the law has of its own. -/
structure La (w : World) (st : Int) (W : World) : Prop where
  t : W.heap[w.heap.size]? = some (.cells #[.int .u8 st] 5)
  r : W.heap[w.heap.size + 1]? = some (.cells #[.bool false] 4)
  b : Below w.heap.size w W
section
variable {w W W' : World} {st : Int}
theorem La.below (h : La w st W) (hb : Below W.heap.size W W') : La w st W' :=
  ⟨(hb.block _ (lt_of_heap h.t)).trans h.t, (hb.block _ (lt_of_heap h.r)).trans h.r, hop0 h.b hb⟩
theorem La.sc (h : La w st W) : W.cell? ⟨w.heap.size, 0, none⟩ = some (.int .u8 st) := by simp [World.cell?, h.t]
theorem La.rc (h : La w st W) : W.cell? ⟨w.heap.size + 1, 0, none⟩ = some (.bool false) := by simp [World.cell?, h.r]
theorem La.rf (h : La w st W) : W.frozen? ⟨w.heap.size + 1, 0, none⟩ = false := by simp [World.frozen?, h.r]
theorem La.set (h : La w st W) (v : Value) : (W.setCell ⟨w.heap.size + 1, 0, none⟩ v).cell? ⟨w.heap.size + 1, 0, none⟩ = some v := World.cell?_setCell_same _ _ _ h.rc
theorem La.setb (h : La w st W) (v : Value) : Below w.heap.size w (W.setCell ⟨w.heap.size + 1, 0, none⟩ v) := h.b.setCell (by simp) v
theorem La.mark {D : Nat} {o : Obj} (hD : w.heap.size + 1 < D) (v : Value) (hk : W.heap[D]? = some o) : (W.setCell ⟨w.heap.size + 1, 0, none⟩ v).heap[D]? = some o := (Below.heap_setCell _ _ _ _ (by simp; omega)).trans hk
end
/-- Between two rounds of a turn: n counts. -/
structure WkI (Wt : World) (m : Nat) (pre : List Int) (U : World) : Prop where
  b : Below Wt.heap.size Wt U
  n : Cell1 Wt.heap.size (.int .i64 (pre.length : Nat)) U
  sz : m ≤ U.heap.size
theorem WkI.own {Wt : World} {m D : Nat} (hD : Wt.heap.size < D) : LoopOwn D (WkI Wt m) := fun pre U V row h hg hr =>
  ⟨(LoopOwn.below (β := Unit) (B := D) (by omega) (Nat.le_refl _)) () U V row h.b hg hr, h.n.blk (hg.block _ h.n.lt (fun e => by have := (hr _ e.symm).1; omega)), Nat.le_trans h.sz hg.size⟩
/-- A turn's end: n has counted somewhat. -/
structure WkX (Wt : World) (U : World) : Prop where
  b : Below Wt.heap.size Wt U
  n : ∃ m : Nat, Cell1 Wt.heap.size (.int .i64 m) U
theorem WkX.own {β : Type} {Wt : World} {D : Nat} (hD : Wt.heap.size < D) : LoopOwn D (fun (_ : β) U => WkX Wt U) := fun pre U V row h hg hr =>
  ⟨(LoopOwn.below (β := Unit) (B := D) (by omega) (Nat.le_refl _)) () U V row h.b hg hr, by
    obtain ⟨m, hm⟩ := h.n
    exact ⟨m, hm.blk (hg.block _ hm.lt (fun e => by have := (hr _ e.symm).1; omega))⟩⟩
theorem append_ln {pre : List Int} {x : Int} {m : Nat} (hm : pre.length = m) : (.int .i64 ((pre ++ [x]).length : Nat) : Value) = .int .i64 ((m : Int) + 1) := by
  rw [List.length_append, hm]; simp
/-- What a round of a turn leaves. -/
theorem wk_step {Wt V2 : World} {m M D : Nat} {pre : List Int} {x : Int} (hI : WkI Wt M pre V2) (hm : pre.length = m) (hbk : ∃ r, Book D r V2) (hD : Wt.heap.size < D) :
    BookKept D V2 (V2.setCell ⟨Wt.heap.size, 0, none⟩ (.int .i64 ((m : Int) + 1))) ∧ Ks (fun q => Wt.heap.size < q ∧ q < D) V2 (V2.setCell ⟨Wt.heap.size, 0, none⟩ (.int .i64 ((m : Int) + 1))) ∧ WkI Wt M (pre ++ [x]) (V2.setCell ⟨Wt.heap.size, 0, none⟩ (.int .i64 ((m : Int) + 1))) := by
  obtain ⟨r, hbk⟩ := hbk
  have hs2 : (V2.setCell ⟨Wt.heap.size, 0, none⟩ (.int .i64 ((m : Int) + 1))).heap.size = V2.heap.size := by simp [World.setCell]
  refine ⟨BookKept.set (D := D) (U := V2) (q := Wt.heap.size) (i := 0) hD (.int .i64 ((m : Int) + 1)), ⟨by omega, fun k hk _ => Below.heap_setCell _ _ _ _ (by simp; omega)⟩, ⟨hI.b.setCell (Nat.le_refl _) _, ?_, by have := hI.sz; omega⟩⟩
  rw [append_ln hm]
  exact hI.n.set _
set_option maxHeartbeats 4000000 in
set_option maxRecDepth 100000 in
theorem all_walk (t size slide st : Int) (ht : In64 t) (hz : In64 size) (hs : In64 slide) (hst : 0 ≤ st ∧ st ≤ 255) (w : World) :
    Calls Try.prog 5 #[.int .i64 t, .int .i64 size, .int .i64 slide, .int .u8 st] w fun en w' => en = .returned (.bool true) ∧ Below w.heap.size w w' := by
  refine (callsIn_wide (n := 8)).1 ?_
  obtain ⟨hst1, hst2⟩ := hst
  obtain ⟨W1, hW1⟩ : ∃ W1, (w.alloc (.cells #[.int .u8 st] 5)).alloc (.cells #[.bool false] 4) = W1 := ⟨_, rfl⟩
  have hl1 : La w st W1 := by
    rw [← hW1]
    refine ⟨(Below.heap_alloc _ _ _ (by simp)).trans (World.alloc_heap_new w _), ?_, two_boxes _ _ _⟩
    have := World.alloc_heap_new (w.alloc (.cells #[.int .u8 st] 5)) (.cells #[.bool false] 4)
    rwa [World.size_alloc] at this
  have HL1 := Lib.hid hl1
  have HR := Lib.hid (fun W => rof_any t size slide ht hz hs W)
  have HA := Lib.hid (fun W => all_any t size slide W)
  have HSQ := Lib.hid (fun (b : Nat) (S : Nat → Prop) (hS : ∀ k, b ≤ k → k ≤ b + 2 → S k) (W : World) (hB : Bx b t size slide W) => all_seq 7 (by decide) t size slide ht hz hs b S hS W hB)
  have HLN0 := Lib.hid (winO_len t size slide)
  have HNB0 := Lib.hid (show winN t size slide ≤ lim64 from winN_le t size slide)
  unfold OfPost at HR
  obtain ⟨N, hN⟩ : ∃ N, winN t size slide = N := ⟨_, rfl⟩
  have HWN := Lib.hid hN
  obtain ⟨l, hl⟩ : ∃ l, winO t size slide = l := ⟨_, rfl⟩
  have HAT := Lib.hid (fun (i : Nat) (h : i < l.length) => win_at hl i h)
  simp only [hl, hN] at HR
  have HLN : Hid (l.length = N) := Lib.hid (by have := HLN0.out; rwa [hl, hN] at this)
  have HNB : Hid (N ≤ lim64) := Lib.hid (by have := HNB0.out; rwa [hN] at this)
  obtain ⟨E, hE⟩ : ∃ E, winE t size slide = E := ⟨_, rfl⟩
  rw [hE] at HR
  have r0 := hl1.rc
  have r1 := hl1.rf
  have hlr := lt_of_heap hl1.r
  clear HLN0 HNB0 hN hl hE ht hz hs hl1
  refine callsIn_of_wp_marks Try.func5 rfl trivial ?_ rfl
  simp only [Try.ntmps5, List.size_toArray, List.length_cons, List.length_nil, Nat.reduceAdd, Nat.reduceSub, Array.replicate_succ, Array.replicate_zero, List.push_toArray, List.append_toArray, List.nil_append, List.cons_append]
  refine wpIn_wide.2 ?_
  go_wp2_with (first
    | (go_at_call 7; go_loud ((refine (alive_any _).mono ?_; rintro en w2 ⟨rfl, hb2⟩; have HL2 := Lib.hid (HL1.out.below hb2); clear r0 r1 hlr; have r0 := HL2.out.rc; have r1 := HL2.out.rf; have hlr := lt_of_heap HL2.out.r; clear hb2)))
    | (go_at_call 9; go_loud ((refine (HR.out _).mono ?_; rintro en w3 ⟨A3, cl, rfl, hr3, hb3⟩; have HL3 := Lib.hid (HL2.out.below hb3); have HR3 := Lib.hid hr3; clear r0 r1 hlr; have r0 := HL3.out.rc; have r1 := HL3.out.rf; have hlr := lt_of_heap HL3.out.r; clear hb3 hr3))))
  obtain ⟨W8, hW8⟩ : ∃ q, (w3.alloc (.cells #[.slice A3 N cl] 23)).alloc (.cells #[.int .i64 0] 3) = q := ⟨_, rfl⟩
  have hb8 : Below w3.heap.size w3 W8 := by rw [← hW8]; exact two_boxes _ _ _
  have hl8 : W8.heap[w3.heap.size]? = some (.cells #[.slice A3 N cl] 23) := by rw [← hW8]; exact (Below.heap_alloc _ _ _ (by simp)).trans (World.alloc_heap_new _ _)
  have ht8 : Cell1 (w3.heap.size + 1) (.int .i64 0) W8 := by rw [← hW8]; exact ⟨by simp [go_sem], by simp [go_sem]⟩
  obtain ⟨bl, hbl⟩ : ∃ q, w3.heap.size = q := ⟨_, rfl⟩
  have HL8 := Lib.hid (HL3.out.below hb8)
  have HO8 := Lib.hid ((HR3.out.below hb8).more hb8.size)
  rw [hbl] at hl8 ht8
  have HT := Lib.hid ht8
  have HLB := Lib.hid hl8
  rw [hW8]
  rw [hbl]
  have t0 := ht8.c
  have t1 := ht8.lt
  clear hW8 hb8 hl8 ht8 hbl HR HL1 HL2 HL3 HR3 hlr r0 r1
  refine wp_loop_rounds 3 ?_
  rw [rounds_succ]
  go_wp2_with (go_at_call 14; go_loud (refine (HA.out _).mono ?_; rintro en w9 ⟨rfl, hbx9, hb9⟩; have HBX9 := Lib.hid hbx9; have HB9 := Lib.hid hb9; clear hbx9 hb9))
  have hn9 : Cell1 W8.heap.size (.int .i64 0) w9 := by
    have h1 : Cell1 W8.heap.size (.int .i64 0) (W8.alloc (.cells #[.int .i64 0] 3)) := ⟨by simp [go_sem], by simp [go_sem]⟩
    exact h1.blk (HB9.out.block _ (by simp))
  have hb9 : Below W8.heap.size W8 w9 := hop0 ((Below.refl _ _).alloc (Nat.le_refl _) _) HB9.out
  have HBX9 : Hid (Bx (W8.heap.size + 1) t size slide w9) := Lib.hid (by have := HBX9.out; rwa [World.size_alloc] at this)
  have hpw := HBX9.out.lt
  have hn9s := hn9.lt
  have HN9 := Lib.hid hn9
  have HB99 := Lib.hid hb9
  clear hn9 hb9 t0 t1
  refine (wpIn_wide (n := 8)).1 ?_
  refine range_nest2 rfl (by omega) (gf := 17) (lb := #[.pointer (some ⟨W8.heap.size + 1, 0, none⟩), .pointer (some ⟨W8.heap.size + 1 + 1, 0, none⟩), .pointer (some ⟨W8.heap.size + 1 + 2, 0, none⟩)]) (by simp [Act.eval]) trivial (enters_of Try.func17 (by kernel_rfl) rfl)
    (encs := encI) (Y := Yn t size slide) (Kp := Ks (fun q => W8.heap.size < q ∧ q < w9.heap.size)) (done := fun xs => xs.length = winN t size slide)
    (fun W1 hg hs1 => HSQ.out _ _ (fun k h1 h2 => ⟨by omega, by omega⟩) W1 (HBX9.out.stay fun k h1 h2 h3 => hg.block k h3 (by simp)))
    (fun x => rfl) Ks.trans Ks.grown (fun U o => Ks.put (fun h => by omega) o)
    (WkI W8 (w9.heap.size + 2))
    (fun c2 _ U => c2 = .exit 2 ∧ WkX W8 U)
    (WkI.own hn9s)
    (fun c3 => (LoopOwn.pure_ (fun _ => c3 = .exit 2)).and (WkX.own hn9s))
    (fun pre => Yn.own pre) ?sta2 (fun _ U => U) (fun x U => ⟨rfl, rfl, rfl, Nat.le_refl _, fun _ _ _ => rfl⟩) (fun _ _ _ => True) (fun x U r r' hb => trivial) ?a2 ?asa2 ?boa2 ?doa2 ?spa2
  case sta2 =>
    intro W1 hg hs1
    exact ⟨HB99.out.trans (below_of_grown hg (fun r e => by cases e) (by omega)), HN9.out.blk (hg.block _ hn9s (by simp)), by omega⟩
  case asa2 =>
    intro l0 x U K hK
    gi_wp2
    exact hK
  case boa2 =>
    rintro l0 pre x U V2 hI ⟨hpl, hpe⟩ _ hbk
    rw [HWN.out] at hpl
    have HLV := Lib.hid (HL8.out.below hI.b)
    have t0 := (HT.out.blk (hI.b.block _ HT.out.lt)).c
    have hlb := (hI.b.block _ (lt_of_heap HLB.out)).trans HLB.out
    obtain ⟨gb, og, rfl, _, k0⟩ := rowI (HO8.out.below hI.b) pre.length (by rw [HLN.out]; exact hpl)
    have b0 : V2.cell? ⟨bl, 0, none⟩ = some (.slice (some ⟨gb, og, none⟩) N cl) := by simp [World.cell?, hlb]
    have s0 := HLV.out.sc
    have n0 := hI.n.c
    have n1 := hI.n.lt
    have n2 := hI.n.f
    rw [HAT.out, ← hpe] at k0
    obtain ⟨m, hm⟩ : ∃ q, pre.length = q := ⟨_, rfl⟩
    rw [hm] at n0 k0 hpl
    have HST := Lib.hid (wk_step (x := x) hI hm hbk hn9s)
    have i1 : (0 : Int) ≤ (m : Int) := by omega
    have i2 : (m : Int) < (N : Int) := by omega
    have i3 : m + 1 ≤ 9223372036854775807 := by have := HNB.out; unfold lim64 at this; omega
    have q1 : decide ((N : Int) ≤ (m : Int)) = false := decide_eq_false (by omega)
    have u1 := Nat.ne_of_lt HT.out.lt
    have u2 : w.heap.size ≠ W8.heap.size := Nat.ne_of_lt (lt_of_heap HL8.out.t)
    clear hI hpe hbk hlb hm
    by_cases hgt : st < (m : Int) + 1
    · have q2 : decide (st < (m : Int) + 1) = true := decide_eq_true hgt
      gi_wp2
      exact ⟨HST.out.1, HST.out.2.1, rfl, ⟨HST.out.2.2.b, ⟨_, HST.out.2.2.n⟩⟩⟩
    · have q2 : decide (st < (m : Int) + 1) = false := decide_eq_false hgt
      gi_wp2
      exact ⟨HST.out.1, HST.out.2.1, HST.out.2.2⟩
  case spa2 =>
    rintro cc pre V ⟨rfl, hX⟩ hK
    obtain ⟨mm, hn⟩ := hX.n
    have hb := hX.b
    have HK := Lib.hid hK
    have n0 := hn.c
    have n1 := hn.lt
    clear hX hK hn
    have HLV := Lib.hid (HL8.out.below hb)
    have HTV := Lib.hid (HT.out.blk (hb.block _ HT.out.lt))
    have HLBV := Lib.hid ((hb.block _ (lt_of_heap HLB.out)).trans HLB.out)
    have HOV := Lib.hid ((HO8.out.below hb).more hb.size)
    have t0 := HTV.out.c
    have t1 := HTV.out.lt
    have b0 : V.cell? ⟨bl, 0, none⟩ = some (.slice A3 N cl) := by simp [World.cell?, HLBV.out]
    have r0 := HLV.out.rc
    have r1 := HLV.out.rf
    have hlr := lt_of_heap HLV.out.r
    gi_wp2
    go_wp2
    obtain ⟨Wv, hWv⟩ : ∃ q, V.alloc (.cells #[.int .i64 1] 3) = q := ⟨_, rfl⟩
    have hbv : Below V.heap.size V Wv := by rw [← hWv]; exact (Below.refl _ _).alloc (Nat.le_refl _) _
    have ht8 : Cell1 V.heap.size (.int .i64 1) Wv := by rw [← hWv]; exact ⟨by simp [go_sem], by simp [go_sem]⟩
    have HTn := Lib.hid ht8
    have HLBn := Lib.hid ((hbv.block _ (lt_of_heap HLBV.out)).trans HLBV.out)
    have HLn := Lib.hid (HLV.out.below hbv)
    have HOn := Lib.hid ((HOV.out.below hbv).more hbv.size)
    have HKn := Lib.hid ((hbv.block _ (lt_of_heap HK.out)).trans HK.out)
    rw [hWv]
    have HD0 := Lib.hid (show w.heap.size + 1 < w9.heap.size from Nat.lt_of_lt_of_le (lt_of_heap HL8.out.r) HB99.out.size)
    obtain ⟨D0, hD0⟩ : ∃ q, w9.heap.size = q := ⟨_, rfl⟩
    rw [hD0] at HKn HD0
    rw [hD0]
    obtain ⟨bt, hbt⟩ : ∃ q, V.heap.size = q := ⟨_, rfl⟩
    rw [hbt] at HTn
    rw [hbt]
    clear r0 r1 hlr t0 t1 b0 n0 n1 hb hn9s hpw HB9 HBX9 HN9 HB99 HK HLV HTV HLBV HOV
    have t0 := HTn.out.c
    have t1 := HTn.out.lt
    clear hWv hbv ht8 hD0 hbt
    rw [rounds_succ]
    go_wp2_with (go_at_call 14; go_loud (refine (HA.out _).mono ?_; rintro en w9 ⟨rfl, hbx9, hb9⟩; have HBX9 := Lib.hid hbx9; have HB9 := Lib.hid hb9; clear hbx9 hb9))
    have hn9 : Cell1 Wv.heap.size (.int .i64 0) w9 := by
      have h1 : Cell1 Wv.heap.size (.int .i64 0) (Wv.alloc (.cells #[.int .i64 0] 3)) := ⟨by simp [go_sem], by simp [go_sem]⟩
      exact h1.blk (HB9.out.block _ (by simp))
    have hb9 : Below Wv.heap.size Wv w9 := hop0 ((Below.refl _ _).alloc (Nat.le_refl _) _) HB9.out
    have HBX9 : Hid (Bx (Wv.heap.size + 1) t size slide w9) := Lib.hid (by have := HBX9.out; rwa [World.size_alloc] at this)
    have hpw := HBX9.out.lt
    have hn9s := hn9.lt
    have HN9 := Lib.hid hn9
    have HB99 := Lib.hid hb9
    clear hn9 hb9 t0 t1
    refine (wpIn_wide (n := 8)).1 ?_
    refine range_nest2 rfl (by omega) (gf := 17) (lb := #[.pointer (some ⟨Wv.heap.size + 1, 0, none⟩), .pointer (some ⟨Wv.heap.size + 1 + 1, 0, none⟩), .pointer (some ⟨Wv.heap.size + 1 + 2, 0, none⟩)]) (by simp [Act.eval]) trivial (enters_of Try.func17 (by kernel_rfl) rfl)
      (encs := encI) (Y := Yn t size slide) (Kp := Ks (fun q => Wv.heap.size < q ∧ q < w9.heap.size)) (done := fun xs => xs.length = winN t size slide)
      (fun W1 hg hs1 => HSQ.out _ _ (fun k h1 h2 => ⟨by omega, by omega⟩) W1 (HBX9.out.stay fun k h1 h2 h3 => hg.block k h3 (by simp)))
      (fun x => rfl) Ks.trans Ks.grown (fun U o => Ks.put (fun h => by omega) o)
      (WkI Wv (w9.heap.size + 2))
      (fun _ _ _ => False)
      (WkI.own hn9s)
      (fun _ _ _ _ _ h _ _ => h)
      (fun pre => Yn.own pre) ?sta4 (fun _ U => U) (fun x U => ⟨rfl, rfl, rfl, Nat.le_refl _, fun _ _ _ => rfl⟩) (fun _ _ _ => True) (fun x U r r' hb => trivial) ?a4 ?asa4 ?boa4 ?doa4 ?spa4
    case sta4 =>
      intro W1 hg hs1
      exact ⟨HB99.out.trans (below_of_grown hg (fun r e => by cases e) (by omega)), HN9.out.blk (hg.block _ hn9s (by simp)), by omega⟩
    case asa4 =>
      intro l0 x U K hK
      gi_wp2
      exact hK
    case boa4 =>
      rintro l0 pre x U V2 hI ⟨hpl, hpe⟩ _ hbk
      rw [HWN.out] at hpl
      have HLV := Lib.hid (HLn.out.below hI.b)
      have t0 := (HTn.out.blk (hI.b.block _ HTn.out.lt)).c
      have hlb := (hI.b.block _ (lt_of_heap HLBn.out)).trans HLBn.out
      obtain ⟨gb, og, rfl, _, k0⟩ := rowI (HOn.out.below hI.b) pre.length (by rw [HLN.out]; exact hpl)
      have b0 : V2.cell? ⟨bl, 0, none⟩ = some (.slice (some ⟨gb, og, none⟩) N cl) := by simp [World.cell?, hlb]
      have s0 := HLV.out.sc
      have n0 := hI.n.c
      have n1 := hI.n.lt
      have n2 := hI.n.f
      rw [HAT.out, ← hpe] at k0
      obtain ⟨m, hm⟩ : ∃ q, pre.length = q := ⟨_, rfl⟩
      rw [hm] at n0 k0 hpl
      have HST := Lib.hid (wk_step (x := x) hI hm hbk hn9s)
      have i1 : (0 : Int) ≤ (m : Int) := by omega
      have i2 : (m : Int) < (N : Int) := by omega
      have i3 : m + 1 ≤ 9223372036854775807 := by have := HNB.out; unfold lim64 at this; omega
      have q1 : decide ((N : Int) ≤ (m : Int)) = false := decide_eq_false (by omega)
      have u1 := Nat.ne_of_lt HTn.out.lt
      have u2 : w.heap.size ≠ Wv.heap.size := Nat.ne_of_lt (lt_of_heap HLn.out.t)
      clear hI hpe hbk hlb hm
      gi_wp2
      exact ⟨HST.out.1, HST.out.2.1, HST.out.2.2⟩
    case spa4 =>
      rintro cc pre V2 h
      exact h.elim
    case doa4 =>
      rintro xs V hxs hI hK
      have hxl : xs.length = N := by
        have hxs2 : xs.length = winN t size slide := hxs
        rw [hxs2, HWN.out]
      have hn := hI.n
      rw [hxl] at hn
      have hb := hI.b
      have HK := Lib.hid hK
      have n0 := hn.c
      have n1 := hn.lt
      clear hxs hxl hI hK hn
      have HLV := Lib.hid (HLn.out.below hb)
      have HTV := Lib.hid (HTn.out.blk (hb.block _ HTn.out.lt))
      have HLBV := Lib.hid ((hb.block _ (lt_of_heap HLBn.out)).trans HLBn.out)
      have HOV := Lib.hid ((HOn.out.below hb).more hb.size)
      have t0 := HTV.out.c
      have t1 := HTV.out.lt
      have b0 : V.cell? ⟨bl, 0, none⟩ = some (.slice A3 N cl) := by simp [World.cell?, HLBV.out]
      have r0 := HLV.out.rc
      have r1 := HLV.out.rf
      have hlr := lt_of_heap HLV.out.r
      have HK0 := Lib.hid ((hb.block _ (lt_of_heap HKn.out)).trans HKn.out)
      have hne : D0 ≠ w9.heap.size := Nat.ne_of_lt (Nat.lt_of_lt_of_le (lt_of_heap HKn.out) HB99.out.size)
      have HD9 := Lib.hid (show w.heap.size + 1 < w9.heap.size from Nat.lt_of_lt_of_le (lt_of_heap HLn.out.r) HB99.out.size)
      clear hb
      go_wp2
      rw [rounds_succ]
      go_wp2
      obtain ⟨Wf, hWf⟩ : ∃ q, (V.setCell ⟨w.heap.size + 1, 0, none⟩ (.bool true)).alloc (.cells #[.int .i64 2] 3) = q := ⟨_, rfl⟩
      have hm1 := La.mark (w := w) HD9.out (.bool true) HK.out
      have hm0 := La.mark (w := w) HD0.out (.bool true) HK0.out
      have hsb := HLV.out.setb (.bool true)
      have hbs : Below w.heap.size w Wf := by rw [← hWf]; exact hsb.alloc hsb.size _
      have hk1 : Wf.heap[w9.heap.size]? = some (.deferred (some [])) := by rw [← hWf]; exact (Below.heap_alloc _ _ _ (lt_of_heap hm1)).trans hm1
      have hk0 : Wf.heap[D0]? = some (.deferred (some [])) := by rw [← hWf]; exact (Below.heap_alloc _ _ _ (lt_of_heap hm0)).trans hm0
      have hz : Wf.cell? ⟨w.heap.size + 1, 0, none⟩ = some (.bool true) := by
        rw [← hWf]
        have h := HLV.out.set (.bool true)
        exact (World.cell?_of_block (w := V.setCell ⟨w.heap.size + 1, 0, none⟩ (.bool true)) (a := ⟨w.heap.size + 1, 0, none⟩) (Below.heap_alloc _ _ _ (World.block_lt_of_cell? _ _ h))).trans h
      rw [hWf]
      refine ⟨by simp, .inl ⟨_, _, rfl, run_takeDeferred hk1, ?_⟩⟩
      refine ⟨by simp, .inl ⟨_, _, rfl, run_takeDeferred ((World.putObj_heap_other hne).trans hk0), ?_⟩⟩
      have z0 := (World.cell?_of_block (w := Wf) (a := ⟨w.heap.size + 1, 0, none⟩) (World.putObj_heap_other (o := .deferred none) (Nat.ne_of_lt HD9.out))).trans hz
      have z := (World.cell?_of_block (w := Wf.putObj w9.heap.size (.deferred none)) (a := ⟨w.heap.size + 1, 0, none⟩) (World.putObj_heap_other (o := .deferred none) (Nat.ne_of_lt HD0.out))).trans z0
      exact ⟨.bool true, by simp [results, Try.results5, go_sem, z], rfl, below_put (below_put hbs (Nat.le_refl _) (by have := HD9.out; omega) _) (Nat.le_refl _) (by have := HD0.out; omega) _⟩
  case doa2 =>
    rintro xs V hxs hI hK
    have hxl : xs.length = N := by
      have hxs2 : xs.length = winN t size slide := hxs
      rw [hxs2, HWN.out]
    have hn := hI.n
    rw [hxl] at hn
    have hb := hI.b
    have HK := Lib.hid hK
    have n0 := hn.c
    have n1 := hn.lt
    clear hxs hxl hI hK hn
    have HLV := Lib.hid (HL8.out.below hb)
    have HTV := Lib.hid (HT.out.blk (hb.block _ HT.out.lt))
    have HLBV := Lib.hid ((hb.block _ (lt_of_heap HLB.out)).trans HLB.out)
    have HOV := Lib.hid ((HO8.out.below hb).more hb.size)
    have t0 := HTV.out.c
    have t1 := HTV.out.lt
    have b0 : V.cell? ⟨bl, 0, none⟩ = some (.slice A3 N cl) := by simp [World.cell?, HLBV.out]
    have r0 := HLV.out.rc
    have r1 := HLV.out.rf
    have hlr := lt_of_heap HLV.out.r
    go_wp2
    obtain ⟨Wv, hWv⟩ : ∃ q, V.alloc (.cells #[.int .i64 1] 3) = q := ⟨_, rfl⟩
    have hbv : Below V.heap.size V Wv := by rw [← hWv]; exact (Below.refl _ _).alloc (Nat.le_refl _) _
    have ht8 : Cell1 V.heap.size (.int .i64 1) Wv := by rw [← hWv]; exact ⟨by simp [go_sem], by simp [go_sem]⟩
    have HTn := Lib.hid ht8
    have HLBn := Lib.hid ((hbv.block _ (lt_of_heap HLBV.out)).trans HLBV.out)
    have HLn := Lib.hid (HLV.out.below hbv)
    have HOn := Lib.hid ((HOV.out.below hbv).more hbv.size)
    have HKn := Lib.hid ((hbv.block _ (lt_of_heap HK.out)).trans HK.out)
    rw [hWv]
    have HD0 := Lib.hid (show w.heap.size + 1 < w9.heap.size from Nat.lt_of_lt_of_le (lt_of_heap HL8.out.r) HB99.out.size)
    obtain ⟨D0, hD0⟩ : ∃ q, w9.heap.size = q := ⟨_, rfl⟩
    rw [hD0] at HKn HD0
    rw [hD0]
    obtain ⟨bt, hbt⟩ : ∃ q, V.heap.size = q := ⟨_, rfl⟩
    rw [hbt] at HTn
    rw [hbt]
    clear r0 r1 hlr t0 t1 b0 n0 n1 hb hn9s hpw HB9 HBX9 HN9 HB99 HK HLV HTV HLBV HOV
    have t0 := HTn.out.c
    have t1 := HTn.out.lt
    clear hWv hbv ht8 hD0 hbt
    rw [rounds_succ]
    go_wp2_with (go_at_call 14; go_loud (refine (HA.out _).mono ?_; rintro en w9 ⟨rfl, hbx9, hb9⟩; have HBX9 := Lib.hid hbx9; have HB9 := Lib.hid hb9; clear hbx9 hb9))
    have hn9 : Cell1 Wv.heap.size (.int .i64 0) w9 := by
      have h1 : Cell1 Wv.heap.size (.int .i64 0) (Wv.alloc (.cells #[.int .i64 0] 3)) := ⟨by simp [go_sem], by simp [go_sem]⟩
      exact h1.blk (HB9.out.block _ (by simp))
    have hb9 : Below Wv.heap.size Wv w9 := hop0 ((Below.refl _ _).alloc (Nat.le_refl _) _) HB9.out
    have HBX9 : Hid (Bx (Wv.heap.size + 1) t size slide w9) := Lib.hid (by have := HBX9.out; rwa [World.size_alloc] at this)
    have hpw := HBX9.out.lt
    have hn9s := hn9.lt
    have HN9 := Lib.hid hn9
    have HB99 := Lib.hid hb9
    clear hn9 hb9 t0 t1
    refine (wpIn_wide (n := 8)).1 ?_
    refine range_nest2 rfl (by omega) (gf := 17) (lb := #[.pointer (some ⟨Wv.heap.size + 1, 0, none⟩), .pointer (some ⟨Wv.heap.size + 1 + 1, 0, none⟩), .pointer (some ⟨Wv.heap.size + 1 + 2, 0, none⟩)]) (by simp [Act.eval]) trivial (enters_of Try.func17 (by kernel_rfl) rfl)
      (encs := encI) (Y := Yn t size slide) (Kp := Ks (fun q => Wv.heap.size < q ∧ q < w9.heap.size)) (done := fun xs => xs.length = winN t size slide)
      (fun W1 hg hs1 => HSQ.out _ _ (fun k h1 h2 => ⟨by omega, by omega⟩) W1 (HBX9.out.stay fun k h1 h2 h3 => hg.block k h3 (by simp)))
      (fun x => rfl) Ks.trans Ks.grown (fun U o => Ks.put (fun h => by omega) o)
      (WkI Wv (w9.heap.size + 2))
      (fun _ _ _ => False)
      (WkI.own hn9s)
      (fun _ _ _ _ _ h _ _ => h)
      (fun pre => Yn.own pre) ?sta3 (fun _ U => U) (fun x U => ⟨rfl, rfl, rfl, Nat.le_refl _, fun _ _ _ => rfl⟩) (fun _ _ _ => True) (fun x U r r' hb => trivial) ?a3 ?asa3 ?boa3 ?doa3 ?spa3
    case sta3 =>
      intro W1 hg hs1
      exact ⟨HB99.out.trans (below_of_grown hg (fun r e => by cases e) (by omega)), HN9.out.blk (hg.block _ hn9s (by simp)), by omega⟩
    case asa3 =>
      intro l0 x U K hK
      gi_wp2
      exact hK
    case boa3 =>
      rintro l0 pre x U V2 hI ⟨hpl, hpe⟩ _ hbk
      rw [HWN.out] at hpl
      have HLV := Lib.hid (HLn.out.below hI.b)
      have t0 := (HTn.out.blk (hI.b.block _ HTn.out.lt)).c
      have hlb := (hI.b.block _ (lt_of_heap HLBn.out)).trans HLBn.out
      obtain ⟨gb, og, rfl, _, k0⟩ := rowI (HOn.out.below hI.b) pre.length (by rw [HLN.out]; exact hpl)
      have b0 : V2.cell? ⟨bl, 0, none⟩ = some (.slice (some ⟨gb, og, none⟩) N cl) := by simp [World.cell?, hlb]
      have s0 := HLV.out.sc
      have n0 := hI.n.c
      have n1 := hI.n.lt
      have n2 := hI.n.f
      rw [HAT.out, ← hpe] at k0
      obtain ⟨m, hm⟩ : ∃ q, pre.length = q := ⟨_, rfl⟩
      rw [hm] at n0 k0 hpl
      have HST := Lib.hid (wk_step (x := x) hI hm hbk hn9s)
      have i1 : (0 : Int) ≤ (m : Int) := by omega
      have i2 : (m : Int) < (N : Int) := by omega
      have i3 : m + 1 ≤ 9223372036854775807 := by have := HNB.out; unfold lim64 at this; omega
      have q1 : decide ((N : Int) ≤ (m : Int)) = false := decide_eq_false (by omega)
      have u1 := Nat.ne_of_lt HTn.out.lt
      have u2 : w.heap.size ≠ Wv.heap.size := Nat.ne_of_lt (lt_of_heap HLn.out.t)
      clear hI hpe hbk hlb hm
      gi_wp2
      exact ⟨HST.out.1, HST.out.2.1, HST.out.2.2⟩
    case spa3 =>
      rintro cc pre V2 h
      exact h.elim
    case doa3 =>
      rintro xs V hxs hI hK
      have hxl : xs.length = N := by
        have hxs2 : xs.length = winN t size slide := hxs
        rw [hxs2, HWN.out]
      have hn := hI.n
      rw [hxl] at hn
      have hb := hI.b
      have HK := Lib.hid hK
      have n0 := hn.c
      have n1 := hn.lt
      clear hxs hxl hI hK hn
      have HLV := Lib.hid (HLn.out.below hb)
      have HTV := Lib.hid (HTn.out.blk (hb.block _ HTn.out.lt))
      have HLBV := Lib.hid ((hb.block _ (lt_of_heap HLBn.out)).trans HLBn.out)
      have HOV := Lib.hid ((HOn.out.below hb).more hb.size)
      have t0 := HTV.out.c
      have t1 := HTV.out.lt
      have b0 : V.cell? ⟨bl, 0, none⟩ = some (.slice A3 N cl) := by simp [World.cell?, HLBV.out]
      have r0 := HLV.out.rc
      have r1 := HLV.out.rf
      have hlr := lt_of_heap HLV.out.r
      have HK0 := Lib.hid ((hb.block _ (lt_of_heap HKn.out)).trans HKn.out)
      have hne : D0 ≠ w9.heap.size := Nat.ne_of_lt (Nat.lt_of_lt_of_le (lt_of_heap HKn.out) HB99.out.size)
      have HD9 := Lib.hid (show w.heap.size + 1 < w9.heap.size from Nat.lt_of_lt_of_le (lt_of_heap HLn.out.r) HB99.out.size)
      clear hb
      go_wp2
      rw [rounds_succ]
      go_wp2
      obtain ⟨Wf, hWf⟩ : ∃ q, (V.setCell ⟨w.heap.size + 1, 0, none⟩ (.bool true)).alloc (.cells #[.int .i64 2] 3) = q := ⟨_, rfl⟩
      have hm1 := La.mark (w := w) HD9.out (.bool true) HK.out
      have hm0 := La.mark (w := w) HD0.out (.bool true) HK0.out
      have hsb := HLV.out.setb (.bool true)
      have hbs : Below w.heap.size w Wf := by rw [← hWf]; exact hsb.alloc hsb.size _
      have hk1 : Wf.heap[w9.heap.size]? = some (.deferred (some [])) := by rw [← hWf]; exact (Below.heap_alloc _ _ _ (lt_of_heap hm1)).trans hm1
      have hk0 : Wf.heap[D0]? = some (.deferred (some [])) := by rw [← hWf]; exact (Below.heap_alloc _ _ _ (lt_of_heap hm0)).trans hm0
      have hz : Wf.cell? ⟨w.heap.size + 1, 0, none⟩ = some (.bool true) := by
        rw [← hWf]
        have h := HLV.out.set (.bool true)
        exact (World.cell?_of_block (w := V.setCell ⟨w.heap.size + 1, 0, none⟩ (.bool true)) (a := ⟨w.heap.size + 1, 0, none⟩) (Below.heap_alloc _ _ _ (World.block_lt_of_cell? _ _ h))).trans h
      rw [hWf]
      refine ⟨by simp, .inl ⟨_, _, rfl, run_takeDeferred hk1, ?_⟩⟩
      refine ⟨by simp, .inl ⟨_, _, rfl, run_takeDeferred ((World.putObj_heap_other hne).trans hk0), ?_⟩⟩
      have z0 := (World.cell?_of_block (w := Wf) (a := ⟨w.heap.size + 1, 0, none⟩) (World.putObj_heap_other (o := .deferred none) (Nat.ne_of_lt HD9.out))).trans hz
      have z := (World.cell?_of_block (w := Wf.putObj w9.heap.size (.deferred none)) (a := ⟨w.heap.size + 1, 0, none⟩) (World.putObj_heap_other (o := .deferred none) (Nat.ne_of_lt HD0.out))).trans z0
      exact ⟨.bool true, by simp [results, Try.results5, go_sem, z], rfl, below_put (below_put hbs (Nat.le_refl _) (by have := HD9.out; omega) _) (Nat.le_refl _) (by have := HD0.out; omega) _⟩
end Go.Proofs.Ytjgbpbjgcniieaa
