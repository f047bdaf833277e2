/- Layer 14, walked: All, and its iterator. -/
import Derived.Test.YtjgbpbjgcniieaaWnC
import Derived.Stop.RegionWithIn
import Derived.OwnWalkIn
import Derived.OwnWalk
import Derived.TacticsInMore
import Derived.LoopIn
namespace Go.Proofs.Ytjgbpbjgcniieaa
attribute [local go_sem] Oper.semAt_some
open Go Go.ChangeShapes Go.WideShapes Go.ChangeAt Go.RowKit
set_option linter.unusedVariables false
set_option linter.unusedSimpArgs false
/-- The three boxes that All's closure holds. -/
structure Bx (b : Nat) (t size slide : Int) (U : World) : Prop where
  t : U.heap[b]? = some (.cells #[.int .i64 t] 2)
  z : U.heap[b + 1]? = some (.cells #[.int .i64 size] 2)
  s : U.heap[b + 2]? = some (.cells #[.int .i64 slide] 2)
section
variable {b : Nat} {t size slide : Int} {U V : World}
theorem Bx.lt (h : Bx b t size slide U) : b + 2 < U.heap.size := lt_of_heap h.s
theorem Bx.tc (h : Bx b t size slide U) : U.cell? ⟨b, 0, none⟩ = some (.int .i64 t) := by simp [World.cell?, h.t]
theorem Bx.zc (h : Bx b t size slide U) : U.cell? ⟨b + 1, 0, none⟩ = some (.int .i64 size) := by simp [World.cell?, h.z]
theorem Bx.sc (h : Bx b t size slide U) : U.cell? ⟨b + 2, 0, none⟩ = some (.int .i64 slide) := by simp [World.cell?, h.s]
theorem Bx.stay (h : Bx b t size slide U) (hk : ∀ k, b ≤ k → k ≤ b + 2 → k < U.heap.size → V.heap[k]? = U.heap[k]?) : Bx b t size slide V :=
  ⟨(hk _ (Nat.le_refl _) (by omega) (lt_of_heap h.t)).trans h.t, (hk _ (by omega) (by omega) (lt_of_heap h.z)).trans h.z, (hk _ (by omega) (by omega) (lt_of_heap h.s)).trans h.s⟩
theorem Bx.below (h : Bx b t size slide U) (hb : Below U.heap.size U V) : Bx b t size slide V := h.stay fun k _ _ hk => hb.block k hk
end
theorem all_any (t size slide : Int) (w : World) :
    Calls Try.prog 14 #[.int .i64 t, .int .i64 size, .int .i64 slide] w fun e w' => e = .returned (.func (.func 17) #[] #[.pointer (some ⟨w.heap.size, 0, none⟩), .pointer (some ⟨w.heap.size + 1, 0, none⟩), .pointer (some ⟨w.heap.size + 2, 0, none⟩)]) ∧ Bx w.heap.size t size slide w' ∧ Below w.heap.size w w' := by
  have hmf : ∀ (fn : Fn) (first cap : Array Value) (w : World), (Instr.makeFunc fn first cap).run Try.prog w = .ok (.func fn first cap) w := fun _ _ _ _ => rfl
  obtain ⟨W1, hW1⟩ : ∃ W1, ((w.alloc (.cells #[.int .i64 t] 2)).alloc (.cells #[.int .i64 size] 2)).alloc (.cells #[.int .i64 slide] 2) = W1 := ⟨_, rfl⟩
  have H : Hid (Bx w.heap.size t size slide W1 ∧ Below w.heap.size w W1) := Lib.hid (by
    rw [← hW1]
    refine ⟨⟨?_, ?_, ?_⟩, (two_boxes _ _ _).alloc (by simp; omega) _⟩
    · exact (Below.heap_alloc _ _ _ (by simp; omega)).trans ((Below.heap_alloc _ _ _ (by simp)).trans (World.alloc_heap_new w _))
    · have := World.alloc_heap_new (w.alloc (.cells #[.int .i64 t] 2)) (.cells #[.int .i64 size] 2)
      rw [World.size_alloc] at this
      exact (Below.heap_alloc _ _ _ (by simp)).trans this
    · have := World.alloc_heap_new ((w.alloc (.cells #[.int .i64 t] 2)).alloc (.cells #[.int .i64 size] 2)) (.cells #[.int .i64 slide] 2)
      rwa [World.size_alloc, World.size_alloc] at this)
  go_enter Try.func14, Try.ntmps14
  go_wp2
  try rw [hW1]
  go_ret
  exact ⟨by simp, H.out.1, H.out.2⟩
/-- What a round must leave to the iterator: the blocks of S. -/
def Ks (S : Nat → Prop) (U V : World) : Prop := U.heap.size ≤ V.heap.size ∧ ∀ k, S k → k < U.heap.size → V.heap[k]? = U.heap[k]?
section
variable {S : Nat → Prop} {U V W : World}
theorem Ks.refl : Ks S U U := ⟨Nat.le_refl _, fun _ _ _ => rfl⟩
theorem Ks.trans (h : Ks S U V) (k : Ks S V W) : Ks S U W := ⟨Nat.le_trans h.1 k.1, fun i hs hi => (k.2 i hs (Nat.lt_of_lt_of_le hi h.1)).trans (h.2 i hs hi)⟩
theorem Ks.grown (h : U.grownBy V none) : Ks S U V := ⟨h.size, fun k _ hk => h.block k hk (by simp)⟩
theorem Ks.put {q : Nat} (hS : ¬ S q) (o : Obj) : Ks S U (U.putObj q o) := ⟨by simp [World.putObj], fun k hs _ => World.putObj_heap_other (by rintro rfl; exact hS hs)⟩
theorem Ks.below (h : Below U.heap.size U V) : Ks S U V := ⟨h.size, fun k _ hk => h.block k hk⟩
end
/-- The next window. -/
def Yn (t size slide : Int) (pre : List Int) (x : Int) (_ : World) : Prop := pre.length < winN t size slide ∧ x = winS t size slide pre.length
theorem Yn.own {t size slide : Int} {D : Nat} (pre : List Int) : LoopOwn D (Yn t size slide pre) := fun _ _ _ _ h _ _ => h
abbrev encI (x : Int) : Array Value := #[.int .i64 x]
def lim64 : Nat := 64
theorem quiet_own {P : Program} {f : FuncId} {args : Array Value} {w : World} {n : Nat} {v : Value}
    (h : Calls P f args (w.drewN n) (fun e w' => e = .returned v ∧ w.drewN n = w')) : Calls P f args (w.drewN n) (fun e w' => e = .returned v ∧ ∃ m, w' = w.drewN m) := h.mono fun e w' h2 => ⟨h2.1, n, h2.2.symm⟩
set_option maxRecDepth 100000 in
set_option maxHeartbeats 400000 in
theorem all_seq (n : Nat) (hn : 1 ≤ n) (t size slide : Int) (ht : In64 t) (hz : In64 size) (hs : In64 slide) (b : Nat) (S : Nat → Prop) (hS : ∀ k, b ≤ k → k ≤ b + 2 → S k) (W : World) (hB : Bx b t size slide W) :
    SeqAt Fence.wide n Try.prog 17 #[.pointer (some ⟨b, 0, none⟩), .pointer (some ⟨b + 1, 0, none⟩), .pointer (some ⟨b + 2, 0, none⟩)] encI (Yn t size slide) (Ks S) (fun xs => xs.length = winN t size slide) W := by
  intro L J Jx hJ hJx hY h0
  have HJ := Lib.hid hJ
  have HY := Lib.hid hY
  have H0 := Lib.hid h0
  have HB := Lib.hid hB
  have HS := Lib.hid hS
  have HF := Lib.hid (fun W => fits_any t size slide ht hz hs W)
  have tc := hB.tc
  have zc := hB.zc
  have sc := hB.sc
  have l0 := hB.lt
  obtain ⟨E, hE⟩ : ∃ E, winE t size slide = E := ⟨_, rfl⟩
  rw [hE] at HF
  clear hJ hY h0 hB hS
  refine callsIn_of_wp Try.func17 rfl trivial ?_ rfl
  simp only [Try.ntmps17, List.size_toArray, List.length_cons, List.length_nil, Nat.reduceAdd, Nat.reduceSub, Array.replicate_succ, Array.replicate_zero, List.push_toArray, List.append_toArray, List.nil_append, List.cons_append]
  refine wpIn_wide.2 ?_
  by_cases h0 : E = 0
  · obtain ⟨hr, hti⟩ := winE_zero.1 (hE.trans h0)
    obtain ⟨r1, r2, r3, r4⟩ := rightW_iff.1 hr
    have HN := Lib.hid (show winN t size slide = winJ t size slide + 1 by unfold winN; rw [if_pos (hE.trans h0)])
    have hti2 := hti
    unfold isTime at hti2
    rw [Bool.and_eq_true, decide_eq_true_eq, decide_eq_true_eq] at hti2
    have d1 := div_bd (n := t) r1 (by omega) (by omega) (by omega)
    have d2 := div_bd (n := t - size) r1 (by omega) (by omega) (by omega)
    have HM := Lib.hid (fun W => multiple_any t slide ht r1 d1.1 W)
    have HM2 := Lib.hid (fun W => multiple_any (t - size) slide (by unfold In64; omega) r1 d2.1 W)
    have g3 : wrap64 (t - size) = t - size := IntWalk.wrap64_in _ (by omega)
    have g1 : wrap64 (t - size) = t - size := IntWalk.wrap64_in _ (by omega)
    have g2 : wrap64 ((t - size) / slide * slide + slide) = winS t size slide 0 := by rw [← winS_zero r1 r2]; exact IntWalk.wrap64_in _ (by omega)
    have HBD := Lib.hid (fun (i : Nat) (hi : i ≤ winJ t size slide) => winS_bd hr hti hi)
    have HLE := Lib.hid (fun (i : Nat) (hi : i ≤ winJ t size slide) => winL_le (t := t) (size := size) r1 hi)
    have HNX := Lib.hid (fun (i : Nat) => winS_next t size slide i)
    have HR1 := Lib.hid (And.intro r1 (show slide ≤ 72057594037927936 by omega))
    have HJ64 := Lib.hid (show winJ t size slide < lim64 from winJ_lt hr)
    have hl := winS_last t size slide
    rw [← hl] at HM
    obtain ⟨mm, hmm⟩ : ∃ m, (t - size) / slide * slide = m := ⟨_, rfl⟩
    rw [hmm] at HM2 g2
    rw [← g3] at HM2
    have G1 := Lib.hid g1
    have G2 := Lib.hid g2
    subst h0
    clear hE hr hti r1 r2 r3 r4 hti2 d1 d2 ht hz hs hl hmm g1 g2 g3
    obtain ⟨K, hK⟩ : ∃ K, winJ t size slide = K := ⟨_, rfl⟩
    rw [hK] at HN HBD HLE HM HJ64
    clear hK
    go_wp2_with (first
      | (go_at_call 15; go_loud (refine (HF.out _).mono ?_; rintro en w1 ⟨rfl, rfl⟩))
      | (go_at_call 18; go_loud (refine (HM.out _).mono ?_; rintro en w1 ⟨rfl, rfl⟩)))
    go_quiet (first | (go_at_call 18; refine quiet_own (HM2.out _)))
    rw [G2.out]
    clear G1 G2 HM HM2 HF
    go_wp2
    have HJN := Lib.hid (HJ.out.grow H0.out (grown_of_below (below_drewN W nq)))
    have HKN := Lib.hid (Ks.below (S := S) (below_drewN W nq))
    obtain ⟨W1, hW1⟩ : ∃ w, W.drewN nq = w := ⟨_, rfl⟩
    rw [hW1] at HJN HKN
    try rw [hW1]
    clear hW1 tc zc sc
    refine (wpIn_wide (n := n)).1 ?_
    gi_loopw [6] (fun sv wr => ∃ pre : List Int, sv = .int .i64 (winS t size slide pre.length) ∧ pre.length ≤ K + 1 ∧ Hid (J pre wr) ∧ Hid (Ks S W wr)) (fun sv _ => (winS t size slide K + slide - intOf sv).toNat)
    case atStart => exact ⟨[], rfl, Nat.zero_le _, HJN, HKN⟩
    case round =>
      obtain ⟨pre, rfl, hk, HJP, HKP⟩ := hrel
      obtain ⟨k, hkk⟩ : ∃ k, pre.length = k := ⟨_, rfl⟩
      rw [hkk] at hk ⊢
      have HK := Lib.hid hkk
      have HBX := Lib.hid (HB.out.stay fun k h1 h2 h3 => HKP.out.2 k (HS.out k h1 h2) h3)
      by_cases hlt : k ≤ K
      · have hbd := HBD.out k hlt
        have hbk := HBD.out K (Nat.le_refl _)
        have hle : winS t size slide k ≤ winS t size slide K := by
          have h1 := HLE.out k hlt
          have h2 : 0 ≤ ((K - k : Nat) : Int) * slide := Int.mul_nonneg (by omega) (by have := HR1.out; omega)
          omega
        have HYN := Lib.hid (HY.out pre _ wr HJP.out ⟨show pre.length < winN t size slide by rw [HN.out, HK.out]; omega, rfl⟩)
        rw [HK.out] at HYN
        obtain ⟨fn, tmps, assign, body, hy, hR⟩ := HYN.out
        have HR := Lib.hid hR
        have HPL := Lib.hid (show (pre ++ [winS t size slide k]).length = k + 1 by rw [List.length_append, HK.out]; rfl)
        have HN1 := Lib.hid (HNX.out k)
        obtain ⟨x, hx⟩ : ∃ x, winS t size slide k = x := ⟨_, rfl⟩
        rw [hx] at hle hbd HR HPL HN1 hy ⊢
        have hx2 := HR1.out
        clear hR HYN hx hkk
        gi_wp2_with (refine HR.out.mono ?_; rintro e W3 (⟨rfl, hJ3, hk3⟩ | ⟨rfl, hJ3, hk3⟩); all_goals (have HJ3 := Lib.hid hJ3; have HK3 := Lib.hid (HKP.out.trans hk3); have sc3 := (HBX.out.stay fun k h1 h2 h3 => hk3.2 k (HS.out k h1 h2) h3).sc; clear hJ3 hk3))
        · go_roundw
          case rel => exact ⟨pre ++ [x], by rw [HPL.out, HN1.out], by rw [HPL.out]; omega, HJ3, HK3⟩
          case measure => simp [intOf]; omega
        · refine bodyPost_ret (results_none rfl _ _ _) rfl ?_
          exact ⟨⟨_, rfl⟩, .inr ⟨_, HJ3.out⟩⟩
      · have hke : k = K + 1 := by omega
        subst hke
        have hgt : winS t size slide K < winS t size slide (K + 1) := by rw [HNX.out]; have := HR1.out; omega
        have HE := Lib.hid (show pre.length = winN t size slide by rw [HN.out, HK.out])
        clear hkk
        gi_wp2
        go_end0
        exact ⟨⟨_, rfl⟩, .inl ⟨_, HE.out, HJP.out⟩⟩
  · have q0 : (E != 0) = true := by simpa using h0
    have HN := Lib.hid (show ([] : List Int).length = winN t size slide by unfold winN; rw [if_neg (by rw [hE]; exact h0)]; rfl)
    clear h0 hE
    go_wp2_with (go_at_call 15; go_loud (refine (HF.out _).mono ?_; rintro en w1 ⟨rfl, rfl⟩))
    exact bodyPost_ret (results_none rfl _ _ _) rfl ⟨⟨_, rfl⟩, .inl ⟨[], HN.out, H0.out⟩⟩
end Go.Proofs.Ytjgbpbjgcniieaa
