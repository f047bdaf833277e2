/- Layer 15: the law AggOrders, walked. -/
import Derived.Test.YtihgcfokenabgaaAgJ
namespace Go.Proofs.Ytihgcfokenabgaa
open Go Go.ChangeShapes Go.WideShapes Go.ChangeAt Go.RowKit
set_option linter.unusedVariables false
set_option linter.unusedSimpArgs false
/-- Four boxes. -/
structure O4 (q : Nat) (a b c d : Ac) (W : World) : Prop where
  a : W.heap[q]? = some (.cells #[.int .i64 a.n, .int .i64 (hiZ a.x), .int .u64 (loZ a.x), .int .i64 a.b.k, .int .i64 a.b.n, .string a.b.s] 35)
  b : W.heap[q + 1]? = some (.cells #[.int .i64 b.n, .int .i64 (hiZ b.x), .int .u64 (loZ b.x), .int .i64 b.b.k, .int .i64 b.b.n, .string b.b.s] 35)
  c : W.heap[q + 2]? = some (.cells #[.int .i64 c.n, .int .i64 (hiZ c.x), .int .u64 (loZ c.x), .int .i64 c.b.k, .int .i64 c.b.n, .string c.b.s] 35)
  d : W.heap[q + 3]? = some (.cells #[.int .i64 d.n, .int .i64 (hiZ d.x), .int .u64 (loZ d.x), .int .i64 d.b.k, .int .i64 d.b.n, .string d.b.s] 35)
section
variable {q : Nat} {a b c d x : Ac} {W W' : World}
theorem O4.below (h : O4 q a b c d W) (hb : Below W.heap.size W W') : O4 q a b c d W' :=
  ⟨(hb.block _ (heap_lt h.a)).trans h.a, (hb.block _ (heap_lt h.b)).trans h.b, (hb.block _ (heap_lt h.c)).trans h.c, (hb.block _ (heap_lt h.d)).trans h.d⟩
theorem O4.setA (h : O4 q a b c d W) (x : Ac) : O4 q x b c d (put6 W q x) :=
  ⟨put6_same h.a x, (put6_other x (by omega)).trans h.b, (put6_other x (by omega)).trans h.c, (put6_other x (by omega)).trans h.d⟩
theorem O4.setB (h : O4 q a b c d W) (x : Ac) : O4 q a x c d (put6 W (q + 1) x) :=
  ⟨(put6_other x (by omega)).trans h.a, put6_same h.b x, (put6_other x (by omega)).trans h.c, (put6_other x (by omega)).trans h.d⟩
theorem O4.setC (h : O4 q a b c d W) (x : Ac) : O4 q a b x d (put6 W (q + 2) x) :=
  ⟨(put6_other x (by omega)).trans h.a, (put6_other x (by omega)).trans h.b, put6_same h.c x, (put6_other x (by omega)).trans h.d⟩
theorem O4.setD (h : O4 q a b c d W) (x : Ac) : O4 q a b c x (put6 W (q + 3) x) :=
  ⟨(put6_other x (by omega)).trans h.a, (put6_other x (by omega)).trans h.b, (put6_other x (by omega)).trans h.c, put6_same h.d x⟩
end
theorem O4.new (w : World) : O4 w.heap.size zeroA zeroA zeroA zeroA ((((w.alloc (.cells #[.int .i64 0, .int .i64 0, .int .u64 0, .int .i64 0, .int .i64 0, .string ⟨#[]⟩] 35)).alloc (.cells #[.int .i64 0, .int .i64 0, .int .u64 0, .int .i64 0, .int .i64 0, .string ⟨#[]⟩] 35)).alloc (.cells #[.int .i64 0, .int .i64 0, .int .u64 0, .int .i64 0, .int .i64 0, .string ⟨#[]⟩] 35)).alloc (.cells #[.int .i64 0, .int .i64 0, .int .u64 0, .int .i64 0, .int .i64 0, .string ⟨#[]⟩] 35)) := by
  have h1 := World.alloc_heap_new w (.cells #[.int .i64 0, .int .i64 0, .int .u64 0, .int .i64 0, .int .i64 0, .string ⟨#[]⟩] 35)
  have h2 := World.alloc_heap_new (w.alloc (.cells #[.int .i64 0, .int .i64 0, .int .u64 0, .int .i64 0, .int .i64 0, .string ⟨#[]⟩] 35)) (.cells #[.int .i64 0, .int .i64 0, .int .u64 0, .int .i64 0, .int .i64 0, .string ⟨#[]⟩] 35)
  have h3 := World.alloc_heap_new ((w.alloc (.cells #[.int .i64 0, .int .i64 0, .int .u64 0, .int .i64 0, .int .i64 0, .string ⟨#[]⟩] 35)).alloc (.cells #[.int .i64 0, .int .i64 0, .int .u64 0, .int .i64 0, .int .i64 0, .string ⟨#[]⟩] 35)) (.cells #[.int .i64 0, .int .i64 0, .int .u64 0, .int .i64 0, .int .i64 0, .string ⟨#[]⟩] 35)
  have h4 := World.alloc_heap_new (((w.alloc (.cells #[.int .i64 0, .int .i64 0, .int .u64 0, .int .i64 0, .int .i64 0, .string ⟨#[]⟩] 35)).alloc (.cells #[.int .i64 0, .int .i64 0, .int .u64 0, .int .i64 0, .int .i64 0, .string ⟨#[]⟩] 35)).alloc (.cells #[.int .i64 0, .int .i64 0, .int .u64 0, .int .i64 0, .int .i64 0, .string ⟨#[]⟩] 35)) (.cells #[.int .i64 0, .int .i64 0, .int .u64 0, .int .i64 0, .int .i64 0, .string ⟨#[]⟩] 35)
  simp only [World.size_alloc] at h2 h3 h4
  refine ⟨?_, ?_, ?_, h4⟩
  · exact (Below.heap_alloc _ _ _ (by simp <;> omega)).trans ((Below.heap_alloc _ _ _ (by simp <;> omega)).trans ((Below.heap_alloc _ _ _ (by simp)).trans h1))
  · exact (Below.heap_alloc _ _ _ (by simp <;> omega)).trans ((Below.heap_alloc _ _ _ (by simp)).trans h2)
  · exact (Below.heap_alloc _ _ _ (by simp)).trans h3
def lim2 : Nat := 200
set_option maxHeartbeats 4000000 in
set_option maxRecDepth 100000 in
theorem orders_walk (K0 C0 : Int) (hK : 0 ≤ K0 ∧ K0 ≤ 255) (hC : 0 ≤ C0 ∧ C0 ≤ 255) (l : List V) (hw : ∀ v ∈ l, v.wf) (n c : Nat) (A : Option Addr) (w : World) (hl : n = l.length) (hn : n ≤ maxLen) (hA : Row3 w w.heap.size A l) :
    Calls Try.prog 6 #[.int .u8 K0, .slice A n c, .int .u8 C0] w fun e w' => e = .returned (.bool true) ∧ Below w.heap.size w w' := by
  have HA := Lib.hid hA
  obtain ⟨hK1, hK2⟩ := hK
  obtain ⟨hC1, hC2⟩ := hC
  have HL := Lib.hid hl
  have HW := Lib.hid hw
  unfold maxLen at hn
  clear hA hl hw
  go_enter Try.func6, Try.ntmps6
  go_wp2_with (go_at_call 8; go_loud (refine (alive_any _).mono ?_; rintro en w1 ⟨rfl, hb1⟩; have HB1 := Lib.hid hb1; clear hb1))
  have HO := Lib.hid (O4.new w1)
  obtain ⟨W4, hW4⟩ : ∃ W, (((w1.alloc (.cells #[.int .i64 0, .int .i64 0, .int .u64 0, .int .i64 0, .int .i64 0, .string ⟨#[]⟩] 35)).alloc (.cells #[.int .i64 0, .int .i64 0, .int .u64 0, .int .i64 0, .int .i64 0, .string ⟨#[]⟩] 35)).alloc (.cells #[.int .i64 0, .int .i64 0, .int .u64 0, .int .i64 0, .int .i64 0, .string ⟨#[]⟩] 35)).alloc (.cells #[.int .i64 0, .int .i64 0, .int .u64 0, .int .i64 0, .int .i64 0, .string ⟨#[]⟩] 35) = W := ⟨_, rfl⟩
  have HB4 : Hid (Below w.heap.size w W4) := Lib.hid (by rw [← hW4]; exact hop1 HB1.out ((((Below.refl _ _).alloc (Nat.le_refl _) _).alloc (by simp) _).alloc (by simp; omega) _ |>.alloc (by simp; omega) _))
  have HQW : Hid (w.heap.size ≤ w1.heap.size) := Lib.hid HB1.out.size
  rw [hW4] at HO
  rw [hW4]
  obtain ⟨q, hq⟩ : ∃ q, w1.heap.size = q := ⟨_, rfl⟩
  rw [hq] at HO HQW
  rw [hq]
  obtain ⟨kk, hkk⟩ : ∃ z, K0 % 5 = z := ⟨_, rfl⟩
  have hkb : 0 ≤ kk ∧ kk ≤ 4 := by omega
  rw [hkk]
  obtain ⟨k, hk⟩ : ∃ z, 1 + kk = z := ⟨_, rfl⟩
  have HOK : Hid (okA k = true) := Lib.hid (okA_iff.2 (by omega))
  rw [hk]
  clear hW4 hq hkk hkb hk HB1
  go_loopw [12] (fun iv wr => ∃ (i : Nat) (a b c : Ac), iv = .int .i64 i ∧ i ≤ n ∧ Hid (i ≤ lim2) ∧ Hid (Ord1 k l i a b c) ∧ Hid (O4 q a b c zeroA wr) ∧ Hid (Below w.heap.size w wr)) (fun iv _ => lim2 - (intOf iv).toNat)
  case atStart => exact ⟨0, zeroA, zeroA, zeroA, rfl, Nat.zero_le _, Lib.hid (Nat.zero_le _), Lib.hid (Ord1.nil k l), HO, HB4⟩
  case round =>
    obtain ⟨i, ac, bc, cc, rfl, hi, H2, HORD, HO4, HB⟩ := hrel
    by_cases hlt : i < n ∧ i < lim2
    · obtain ⟨hin, hi2⟩ := hlt
      have hil : i < l.length := by rw [← HL.out]; exact hin
      obtain ⟨rb, ro, rfl, hrb, n0, n1, n2⟩ := ((HA.out.below HB.out).more HB.out.size) i hil
      have HWV := Lib.hid (HW.out _ (List.getElem_mem hil))
      have HBAD := Lib.hid (fun h => HORD.out.bad hil h)
      have HLEFT := Lib.hid (fun h => HORD.out.left HOK.out hil hi2 h (HW.out _ (List.getElem_mem hil)))
      have HRIGHT := Lib.hid (fun h => HORD.out.right HOK.out hil hi2 h (HW.out _ (List.getElem_mem hil)))
      obtain ⟨v, hv⟩ : ∃ v, l[i] = v := ⟨_, rfl⟩
      simp only [hv] at n0 n1 n2 HWV HBAD HLEFT HRIGHT
      have i200 : (i : Int) < 200 := by unfold lim2 at hi2; omega
      have i1 : (0 : Int) ≤ (i : Int) := by omega
      have i2 : (i : Int) < (n : Int) := by omega
      have i3 : i + 1 ≤ 9223372036854775807 := by unfold lim2 at hi2; omega
      have HI2 := Lib.hid hi2
      have HC := Lib.hid (fun W => rcheck_any v HWV.out W)
      unfold V.val at HC
      obtain ⟨⟨a0, a1, a2, a3, a4, a5⟩, fa0, fa1, fa2, fa3, fa4, fa5⟩ := blk6 HO4.out.a; obtain ⟨⟨b0, b1, b2, b3, b4, b5⟩, fb0, fb1, fb2, fb3, fb4, fb5⟩ := blk6 HO4.out.b; obtain ⟨⟨c0, c1, c2, c3, c4, c5⟩, fc0, fc1, fc2, fc3, fc4, fc5⟩ := blk6 HO4.out.c; obtain ⟨⟨d0, d1, d2, d3, d4, d5⟩, fd0, fd1, fd2, fd3, fd4, fd5⟩ := blk6 HO4.out.d; have hla := heap_lt HO4.out.d
      clear hil hv hi2
      have hqs : q + 3 < wr.heap.size := hla
      have z0 : q ≠ wr.heap.size := by omega
      have z1 : q + 1 ≠ wr.heap.size := by omega
      have z2 : q + 1 + 1 ≠ wr.heap.size := by omega
      have y0 : wr.heap.size ≠ q := by omega
      have y1 : wr.heap.size ≠ q + 1 := by omega
      have y2 : wr.heap.size ≠ q + 1 + 1 := by omega
      by_cases hg : goodV k v
      · obtain ⟨a', ha'⟩ : ∃ x, (addA k ac v).1 = x := ⟨_, rfl⟩
        obtain ⟨b', hb'⟩ : ∃ x, (addA k bc v).1 = x := ⟨_, rfl⟩
        obtain ⟨c', hc'⟩ : ∃ x, (addA k cc v).1 = x := ⟨_, rfl⟩
        have HAD := Lib.hid (fun W => aadd_any k ac v HORD.out.wa HWV.out W)
        have HBD := Lib.hid (fun W => aadd_any k bc v HORD.out.wb HWV.out W)
        have HCD := Lib.hid (fun W => aadd_any k cc v HORD.out.wc HWV.out W)
        have e2 : ∀ x : Ac, (addA k x v).2 = 0 := fun x => by rw [add_good HOK.out hg]
        simp only [e2, ha', hb', hc'] at HAD HBD HCD
        have HLE := Lib.hid (HLEFT.out hg)
        have HRI := Lib.hid (HRIGHT.out hg)
        rw [ha', hb'] at HLE
        rw [ha', hc'] at HRI
        unfold Ac.V V.val at HAD HBD HCD
        rw [hg.1] at HC
        have hg2 := hg.2
        clear e2 ha' hb' hc' HBAD HLEFT HRIGHT hg
        by_cases h3 : k = 3
        · have hv1 : v.k ≤ 1 := by
            rcases Int.lt_or_le 1 v.k with h | h
            · exact absurd ⟨h3, h⟩ hg2
            · exact h
          have q3 : (k == 3) = true := by simpa using h3
          clear h3 hg2
          by_cases hcut : (i : Int) % 5 < C0 % 5
          · skip
            go_wp2_with (first
              | (go_at_call 17; go_loud (refine (HC.out _).mono ?_; rintro en w2 ⟨rfl, hb⟩; have HV2 := Lib.hid ((hb.block _ (by simp)).trans (World.alloc_heap_new _ _)); have hb := hop1 ((Below.refl wr.heap.size wr).alloc (Nat.le_refl _) _) hb; have HO2 := Lib.hid (HO4.out.below hb); have HB2 := Lib.hid (hop1 HB.out hb); clear a0 a1 a2 a3 a4 a5 fa0 fa1 fa2 fa3 fa4 fa5 b0 b1 b2 b3 b4 b5 fb0 fb1 fb2 fb3 fb4 fb5 c0 c1 c2 c3 c4 c5 fc0 fc1 fc2 fc3 fc4 fc5 d0 d1 d2 d3 d4 d5 fd0 fd1 fd2 fd3 fd4 fd5 hla; obtain ⟨⟨a0, a1, a2, a3, a4, a5⟩, fa0, fa1, fa2, fa3, fa4, fa5⟩ := blk6 HO2.out.a; obtain ⟨⟨b0, b1, b2, b3, b4, b5⟩, fb0, fb1, fb2, fb3, fb4, fb5⟩ := blk6 HO2.out.b; obtain ⟨⟨c0, c1, c2, c3, c4, c5⟩, fc0, fc1, fc2, fc3, fc4, fc5⟩ := blk6 HO2.out.c; obtain ⟨⟨d0, d1, d2, d3, d4, d5⟩, fd0, fd1, fd2, fd3, fd4, fd5⟩ := blk6 HO2.out.d; have hla := heap_lt HO2.out.d; obtain ⟨v0, v1, v2⟩ := blk3 HV2.out; have hvl := heap_lt HV2.out; clear hb))
              | (go_at_call 11; have HSEC := HFIRST; go_loud (refine (HBD.out _).mono ?_; rintro en w5 ⟨rfl, hb⟩; have hb : Below (put6 w3 q a').heap.size (put6 w3 q a') w5 := hb; have HO5 := Lib.hid ((HO3.out.setA a').below hb); have HB5 := Lib.hid (hop1 (put6_below HB3.out HQW.out a') hb); clear a0 a1 a2 a3 a4 a5 fa0 fa1 fa2 fa3 fa4 fa5 b0 b1 b2 b3 b4 b5 fb0 fb1 fb2 fb3 fb4 fb5 c0 c1 c2 c3 c4 c5 fc0 fc1 fc2 fc3 fc4 fc5 d0 d1 d2 d3 d4 d5 fd0 fd1 fd2 fd3 fd4 fd5 hla; obtain ⟨⟨a0, a1, a2, a3, a4, a5⟩, fa0, fa1, fa2, fa3, fa4, fa5⟩ := blk6 HO5.out.a; obtain ⟨⟨b0, b1, b2, b3, b4, b5⟩, fb0, fb1, fb2, fb3, fb4, fb5⟩ := blk6 HO5.out.b; obtain ⟨⟨c0, c1, c2, c3, c4, c5⟩, fc0, fc1, fc2, fc3, fc4, fc5⟩ := blk6 HO5.out.c; obtain ⟨⟨d0, d1, d2, d3, d4, d5⟩, fd0, fd1, fd2, fd3, fd4, fd5⟩ := blk6 HO5.out.d; have hla := heap_lt HO5.out.d; clear v0 v1 v2 hvl hb))
              | (go_at_call 11; go_loud (refine (HAD.out _).mono ?_; rintro en w3 ⟨rfl, hb⟩; have HFIRST := Lib.hid True.intro; have HO3 := Lib.hid (HO2.out.below hb); have HV3 := Lib.hid ((hb.block _ (heap_lt HV2.out)).trans HV2.out); have HB3 := Lib.hid (hop1 HB2.out hb); clear a0 a1 a2 a3 a4 a5 fa0 fa1 fa2 fa3 fa4 fa5 b0 b1 b2 b3 b4 b5 fb0 fb1 fb2 fb3 fb4 fb5 c0 c1 c2 c3 c4 c5 fc0 fc1 fc2 fc3 fc4 fc5 d0 d1 d2 d3 d4 d5 fd0 fd1 fd2 fd3 fd4 fd5 hla; obtain ⟨⟨a0, a1, a2, a3, a4, a5⟩, fa0, fa1, fa2, fa3, fa4, fa5⟩ := blk6 HO3.out.a; obtain ⟨⟨b0, b1, b2, b3, b4, b5⟩, fb0, fb1, fb2, fb3, fb4, fb5⟩ := blk6 HO3.out.b; obtain ⟨⟨c0, c1, c2, c3, c4, c5⟩, fc0, fc1, fc2, fc3, fc4, fc5⟩ := blk6 HO3.out.c; obtain ⟨⟨d0, d1, d2, d3, d4, d5⟩, fd0, fd1, fd2, fd3, fd4, fd5⟩ := blk6 HO3.out.d; have hla := heap_lt HO3.out.d; clear v0 v1 v2 hvl; obtain ⟨v0, v1, v2⟩ := blk3 HV3.out; have hvl := heap_lt HV3.out; clear hb)))
            go_roundw
            case rel => exact ⟨i + 1, a', b', cc, by go_num, by omega, Lib.hid HI2.out, HLE, Lib.hid (HO5.out.setB b'), Lib.hid (put6_below HB5.out (by have := HQW.out; omega) _)⟩
            case measure => have := HI2.out; simp [intOf]; omega
          · skip
            go_wp2_with (first
              | (go_at_call 17; go_loud (refine (HC.out _).mono ?_; rintro en w2 ⟨rfl, hb⟩; have HV2 := Lib.hid ((hb.block _ (by simp)).trans (World.alloc_heap_new _ _)); have hb := hop1 ((Below.refl wr.heap.size wr).alloc (Nat.le_refl _) _) hb; have HO2 := Lib.hid (HO4.out.below hb); have HB2 := Lib.hid (hop1 HB.out hb); clear a0 a1 a2 a3 a4 a5 fa0 fa1 fa2 fa3 fa4 fa5 b0 b1 b2 b3 b4 b5 fb0 fb1 fb2 fb3 fb4 fb5 c0 c1 c2 c3 c4 c5 fc0 fc1 fc2 fc3 fc4 fc5 d0 d1 d2 d3 d4 d5 fd0 fd1 fd2 fd3 fd4 fd5 hla; obtain ⟨⟨a0, a1, a2, a3, a4, a5⟩, fa0, fa1, fa2, fa3, fa4, fa5⟩ := blk6 HO2.out.a; obtain ⟨⟨b0, b1, b2, b3, b4, b5⟩, fb0, fb1, fb2, fb3, fb4, fb5⟩ := blk6 HO2.out.b; obtain ⟨⟨c0, c1, c2, c3, c4, c5⟩, fc0, fc1, fc2, fc3, fc4, fc5⟩ := blk6 HO2.out.c; obtain ⟨⟨d0, d1, d2, d3, d4, d5⟩, fd0, fd1, fd2, fd3, fd4, fd5⟩ := blk6 HO2.out.d; have hla := heap_lt HO2.out.d; obtain ⟨v0, v1, v2⟩ := blk3 HV2.out; have hvl := heap_lt HV2.out; clear hb))
              | (go_at_call 11; have HSEC := HFIRST; go_loud (refine (HCD.out _).mono ?_; rintro en w5 ⟨rfl, hb⟩; have hb : Below (put6 w3 q a').heap.size (put6 w3 q a') w5 := hb; have HO5 := Lib.hid ((HO3.out.setA a').below hb); have HB5 := Lib.hid (hop1 (put6_below HB3.out HQW.out a') hb); clear a0 a1 a2 a3 a4 a5 fa0 fa1 fa2 fa3 fa4 fa5 b0 b1 b2 b3 b4 b5 fb0 fb1 fb2 fb3 fb4 fb5 c0 c1 c2 c3 c4 c5 fc0 fc1 fc2 fc3 fc4 fc5 d0 d1 d2 d3 d4 d5 fd0 fd1 fd2 fd3 fd4 fd5 hla; obtain ⟨⟨a0, a1, a2, a3, a4, a5⟩, fa0, fa1, fa2, fa3, fa4, fa5⟩ := blk6 HO5.out.a; obtain ⟨⟨b0, b1, b2, b3, b4, b5⟩, fb0, fb1, fb2, fb3, fb4, fb5⟩ := blk6 HO5.out.b; obtain ⟨⟨c0, c1, c2, c3, c4, c5⟩, fc0, fc1, fc2, fc3, fc4, fc5⟩ := blk6 HO5.out.c; obtain ⟨⟨d0, d1, d2, d3, d4, d5⟩, fd0, fd1, fd2, fd3, fd4, fd5⟩ := blk6 HO5.out.d; have hla := heap_lt HO5.out.d; clear v0 v1 v2 hvl hb))
              | (go_at_call 11; go_loud (refine (HAD.out _).mono ?_; rintro en w3 ⟨rfl, hb⟩; have HFIRST := Lib.hid True.intro; have HO3 := Lib.hid (HO2.out.below hb); have HV3 := Lib.hid ((hb.block _ (heap_lt HV2.out)).trans HV2.out); have HB3 := Lib.hid (hop1 HB2.out hb); clear a0 a1 a2 a3 a4 a5 fa0 fa1 fa2 fa3 fa4 fa5 b0 b1 b2 b3 b4 b5 fb0 fb1 fb2 fb3 fb4 fb5 c0 c1 c2 c3 c4 c5 fc0 fc1 fc2 fc3 fc4 fc5 d0 d1 d2 d3 d4 d5 fd0 fd1 fd2 fd3 fd4 fd5 hla; obtain ⟨⟨a0, a1, a2, a3, a4, a5⟩, fa0, fa1, fa2, fa3, fa4, fa5⟩ := blk6 HO3.out.a; obtain ⟨⟨b0, b1, b2, b3, b4, b5⟩, fb0, fb1, fb2, fb3, fb4, fb5⟩ := blk6 HO3.out.b; obtain ⟨⟨c0, c1, c2, c3, c4, c5⟩, fc0, fc1, fc2, fc3, fc4, fc5⟩ := blk6 HO3.out.c; obtain ⟨⟨d0, d1, d2, d3, d4, d5⟩, fd0, fd1, fd2, fd3, fd4, fd5⟩ := blk6 HO3.out.d; have hla := heap_lt HO3.out.d; clear v0 v1 v2 hvl; obtain ⟨v0, v1, v2⟩ := blk3 HV3.out; have hvl := heap_lt HV3.out; clear hb)))
            go_roundw
            case rel => exact ⟨i + 1, a', bc, c', by go_num, by omega, Lib.hid HI2.out, HRI, Lib.hid (HO5.out.setC c'), Lib.hid (put6_below HB5.out (by have := HQW.out; omega) _)⟩
            case measure => have := HI2.out; simp [intOf]; omega
        · have q3 : (k == 3) = false := by simpa using h3
          clear h3 hg2
          by_cases hcut : (i : Int) % 5 < C0 % 5
          · skip
            go_wp2_with (first
              | (go_at_call 17; go_loud (refine (HC.out _).mono ?_; rintro en w2 ⟨rfl, hb⟩; have HV2 := Lib.hid ((hb.block _ (by simp)).trans (World.alloc_heap_new _ _)); have hb := hop1 ((Below.refl wr.heap.size wr).alloc (Nat.le_refl _) _) hb; have HO2 := Lib.hid (HO4.out.below hb); have HB2 := Lib.hid (hop1 HB.out hb); clear a0 a1 a2 a3 a4 a5 fa0 fa1 fa2 fa3 fa4 fa5 b0 b1 b2 b3 b4 b5 fb0 fb1 fb2 fb3 fb4 fb5 c0 c1 c2 c3 c4 c5 fc0 fc1 fc2 fc3 fc4 fc5 d0 d1 d2 d3 d4 d5 fd0 fd1 fd2 fd3 fd4 fd5 hla; obtain ⟨⟨a0, a1, a2, a3, a4, a5⟩, fa0, fa1, fa2, fa3, fa4, fa5⟩ := blk6 HO2.out.a; obtain ⟨⟨b0, b1, b2, b3, b4, b5⟩, fb0, fb1, fb2, fb3, fb4, fb5⟩ := blk6 HO2.out.b; obtain ⟨⟨c0, c1, c2, c3, c4, c5⟩, fc0, fc1, fc2, fc3, fc4, fc5⟩ := blk6 HO2.out.c; obtain ⟨⟨d0, d1, d2, d3, d4, d5⟩, fd0, fd1, fd2, fd3, fd4, fd5⟩ := blk6 HO2.out.d; have hla := heap_lt HO2.out.d; obtain ⟨v0, v1, v2⟩ := blk3 HV2.out; have hvl := heap_lt HV2.out; clear hb))
              | (go_at_call 11; have HSEC := HFIRST; go_loud (refine (HBD.out _).mono ?_; rintro en w5 ⟨rfl, hb⟩; have hb : Below (put6 w3 q a').heap.size (put6 w3 q a') w5 := hb; have HO5 := Lib.hid ((HO3.out.setA a').below hb); have HB5 := Lib.hid (hop1 (put6_below HB3.out HQW.out a') hb); clear a0 a1 a2 a3 a4 a5 fa0 fa1 fa2 fa3 fa4 fa5 b0 b1 b2 b3 b4 b5 fb0 fb1 fb2 fb3 fb4 fb5 c0 c1 c2 c3 c4 c5 fc0 fc1 fc2 fc3 fc4 fc5 d0 d1 d2 d3 d4 d5 fd0 fd1 fd2 fd3 fd4 fd5 hla; obtain ⟨⟨a0, a1, a2, a3, a4, a5⟩, fa0, fa1, fa2, fa3, fa4, fa5⟩ := blk6 HO5.out.a; obtain ⟨⟨b0, b1, b2, b3, b4, b5⟩, fb0, fb1, fb2, fb3, fb4, fb5⟩ := blk6 HO5.out.b; obtain ⟨⟨c0, c1, c2, c3, c4, c5⟩, fc0, fc1, fc2, fc3, fc4, fc5⟩ := blk6 HO5.out.c; obtain ⟨⟨d0, d1, d2, d3, d4, d5⟩, fd0, fd1, fd2, fd3, fd4, fd5⟩ := blk6 HO5.out.d; have hla := heap_lt HO5.out.d; clear v0 v1 v2 hvl hb))
              | (go_at_call 11; go_loud (refine (HAD.out _).mono ?_; rintro en w3 ⟨rfl, hb⟩; have HFIRST := Lib.hid True.intro; have HO3 := Lib.hid (HO2.out.below hb); have HV3 := Lib.hid ((hb.block _ (heap_lt HV2.out)).trans HV2.out); have HB3 := Lib.hid (hop1 HB2.out hb); clear a0 a1 a2 a3 a4 a5 fa0 fa1 fa2 fa3 fa4 fa5 b0 b1 b2 b3 b4 b5 fb0 fb1 fb2 fb3 fb4 fb5 c0 c1 c2 c3 c4 c5 fc0 fc1 fc2 fc3 fc4 fc5 d0 d1 d2 d3 d4 d5 fd0 fd1 fd2 fd3 fd4 fd5 hla; obtain ⟨⟨a0, a1, a2, a3, a4, a5⟩, fa0, fa1, fa2, fa3, fa4, fa5⟩ := blk6 HO3.out.a; obtain ⟨⟨b0, b1, b2, b3, b4, b5⟩, fb0, fb1, fb2, fb3, fb4, fb5⟩ := blk6 HO3.out.b; obtain ⟨⟨c0, c1, c2, c3, c4, c5⟩, fc0, fc1, fc2, fc3, fc4, fc5⟩ := blk6 HO3.out.c; obtain ⟨⟨d0, d1, d2, d3, d4, d5⟩, fd0, fd1, fd2, fd3, fd4, fd5⟩ := blk6 HO3.out.d; have hla := heap_lt HO3.out.d; clear v0 v1 v2 hvl; obtain ⟨v0, v1, v2⟩ := blk3 HV3.out; have hvl := heap_lt HV3.out; clear hb)))
            go_roundw
            case rel => exact ⟨i + 1, a', b', cc, by go_num, by omega, Lib.hid HI2.out, HLE, Lib.hid (HO5.out.setB b'), Lib.hid (put6_below HB5.out (by have := HQW.out; omega) _)⟩
            case measure => have := HI2.out; simp [intOf]; omega
          · skip
            go_wp2_with (first
              | (go_at_call 17; go_loud (refine (HC.out _).mono ?_; rintro en w2 ⟨rfl, hb⟩; have HV2 := Lib.hid ((hb.block _ (by simp)).trans (World.alloc_heap_new _ _)); have hb := hop1 ((Below.refl wr.heap.size wr).alloc (Nat.le_refl _) _) hb; have HO2 := Lib.hid (HO4.out.below hb); have HB2 := Lib.hid (hop1 HB.out hb); clear a0 a1 a2 a3 a4 a5 fa0 fa1 fa2 fa3 fa4 fa5 b0 b1 b2 b3 b4 b5 fb0 fb1 fb2 fb3 fb4 fb5 c0 c1 c2 c3 c4 c5 fc0 fc1 fc2 fc3 fc4 fc5 d0 d1 d2 d3 d4 d5 fd0 fd1 fd2 fd3 fd4 fd5 hla; obtain ⟨⟨a0, a1, a2, a3, a4, a5⟩, fa0, fa1, fa2, fa3, fa4, fa5⟩ := blk6 HO2.out.a; obtain ⟨⟨b0, b1, b2, b3, b4, b5⟩, fb0, fb1, fb2, fb3, fb4, fb5⟩ := blk6 HO2.out.b; obtain ⟨⟨c0, c1, c2, c3, c4, c5⟩, fc0, fc1, fc2, fc3, fc4, fc5⟩ := blk6 HO2.out.c; obtain ⟨⟨d0, d1, d2, d3, d4, d5⟩, fd0, fd1, fd2, fd3, fd4, fd5⟩ := blk6 HO2.out.d; have hla := heap_lt HO2.out.d; obtain ⟨v0, v1, v2⟩ := blk3 HV2.out; have hvl := heap_lt HV2.out; clear hb))
              | (go_at_call 11; have HSEC := HFIRST; go_loud (refine (HCD.out _).mono ?_; rintro en w5 ⟨rfl, hb⟩; have hb : Below (put6 w3 q a').heap.size (put6 w3 q a') w5 := hb; have HO5 := Lib.hid ((HO3.out.setA a').below hb); have HB5 := Lib.hid (hop1 (put6_below HB3.out HQW.out a') hb); clear a0 a1 a2 a3 a4 a5 fa0 fa1 fa2 fa3 fa4 fa5 b0 b1 b2 b3 b4 b5 fb0 fb1 fb2 fb3 fb4 fb5 c0 c1 c2 c3 c4 c5 fc0 fc1 fc2 fc3 fc4 fc5 d0 d1 d2 d3 d4 d5 fd0 fd1 fd2 fd3 fd4 fd5 hla; obtain ⟨⟨a0, a1, a2, a3, a4, a5⟩, fa0, fa1, fa2, fa3, fa4, fa5⟩ := blk6 HO5.out.a; obtain ⟨⟨b0, b1, b2, b3, b4, b5⟩, fb0, fb1, fb2, fb3, fb4, fb5⟩ := blk6 HO5.out.b; obtain ⟨⟨c0, c1, c2, c3, c4, c5⟩, fc0, fc1, fc2, fc3, fc4, fc5⟩ := blk6 HO5.out.c; obtain ⟨⟨d0, d1, d2, d3, d4, d5⟩, fd0, fd1, fd2, fd3, fd4, fd5⟩ := blk6 HO5.out.d; have hla := heap_lt HO5.out.d; clear v0 v1 v2 hvl hb))
              | (go_at_call 11; go_loud (refine (HAD.out _).mono ?_; rintro en w3 ⟨rfl, hb⟩; have HFIRST := Lib.hid True.intro; have HO3 := Lib.hid (HO2.out.below hb); have HV3 := Lib.hid ((hb.block _ (heap_lt HV2.out)).trans HV2.out); have HB3 := Lib.hid (hop1 HB2.out hb); clear a0 a1 a2 a3 a4 a5 fa0 fa1 fa2 fa3 fa4 fa5 b0 b1 b2 b3 b4 b5 fb0 fb1 fb2 fb3 fb4 fb5 c0 c1 c2 c3 c4 c5 fc0 fc1 fc2 fc3 fc4 fc5 d0 d1 d2 d3 d4 d5 fd0 fd1 fd2 fd3 fd4 fd5 hla; obtain ⟨⟨a0, a1, a2, a3, a4, a5⟩, fa0, fa1, fa2, fa3, fa4, fa5⟩ := blk6 HO3.out.a; obtain ⟨⟨b0, b1, b2, b3, b4, b5⟩, fb0, fb1, fb2, fb3, fb4, fb5⟩ := blk6 HO3.out.b; obtain ⟨⟨c0, c1, c2, c3, c4, c5⟩, fc0, fc1, fc2, fc3, fc4, fc5⟩ := blk6 HO3.out.c; obtain ⟨⟨d0, d1, d2, d3, d4, d5⟩, fd0, fd1, fd2, fd3, fd4, fd5⟩ := blk6 HO3.out.d; have hla := heap_lt HO3.out.d; clear v0 v1 v2 hvl; obtain ⟨v0, v1, v2⟩ := blk3 HV3.out; have hvl := heap_lt HV3.out; clear hb)))
            go_roundw
            case rel => exact ⟨i + 1, a', bc, c', by go_num, by omega, Lib.hid HI2.out, HRI, Lib.hid (HO5.out.setC c'), Lib.hid (put6_below HB5.out (by have := HQW.out; omega) _)⟩
            case measure => have := HI2.out; simp [intOf]; omega
      · have HBA := Lib.hid (HBAD.out hg)
        obtain ⟨ch, hch⟩ : ∃ x, chk v = x := ⟨_, rfl⟩
        rw [hch] at HC
        unfold goodV at hg
        rw [hch] at hg
        clear HBAD HLEFT HRIGHT hch
        by_cases h0 : ch = 0
        · have h3 : k = 3 ∧ 1 < v.k := Classical.byContradiction fun h => hg ⟨h0, h⟩
          have hv1 := h3.2
          have q3 : (k == 3) = true := by simpa using h3.1
          subst h0
          clear h3 hg
          go_wp2_with (go_at_call 17; go_loud (refine (HC.out _).mono ?_; rintro en w2 ⟨rfl, hb⟩; have HV2 := Lib.hid ((hb.block _ (by simp)).trans (World.alloc_heap_new _ _)); have hb := hop1 ((Below.refl wr.heap.size wr).alloc (Nat.le_refl _) _) hb; have HO2 := Lib.hid (HO4.out.below hb); have HB2 := Lib.hid (hop1 HB.out hb); clear a0 a1 a2 a3 a4 a5 fa0 fa1 fa2 fa3 fa4 fa5 b0 b1 b2 b3 b4 b5 fb0 fb1 fb2 fb3 fb4 fb5 c0 c1 c2 c3 c4 c5 fc0 fc1 fc2 fc3 fc4 fc5 d0 d1 d2 d3 d4 d5 fd0 fd1 fd2 fd3 fd4 fd5 hla; obtain ⟨v0, v1, v2⟩ := blk3 HV2.out; have hvl := heap_lt HV2.out; clear hb))
          go_roundw
          case rel => exact ⟨i + 1, ac, bc, cc, by go_num, by omega, Lib.hid HI2.out, HBA, HO2, HB2⟩
          case measure => have := HI2.out; simp [intOf]; omega
        · have q0 : (ch != 0) = true := by simpa using h0
          clear h0 hg
          go_wp2_with (go_at_call 17; go_loud (refine (HC.out _).mono ?_; rintro en w2 ⟨rfl, hb⟩; have HV2 := Lib.hid ((hb.block _ (by simp)).trans (World.alloc_heap_new _ _)); have hb := hop1 ((Below.refl wr.heap.size wr).alloc (Nat.le_refl _) _) hb; have HO2 := Lib.hid (HO4.out.below hb); have HB2 := Lib.hid (hop1 HB.out hb); clear a0 a1 a2 a3 a4 a5 fa0 fa1 fa2 fa3 fa4 fa5 b0 b1 b2 b3 b4 b5 fb0 fb1 fb2 fb3 fb4 fb5 c0 c1 c2 c3 c4 c5 fc0 fc1 fc2 fc3 fc4 fc5 d0 d1 d2 d3 d4 d5 fd0 fd1 fd2 fd3 fd4 fd5 hla; obtain ⟨v0, v1, v2⟩ := blk3 HV2.out; have hvl := heap_lt HV2.out; clear hb))
          go_roundw
          case rel => exact ⟨i + 1, ac, bc, cc, by go_num, by omega, Lib.hid HI2.out, HBA, HO2, HB2⟩
          case measure => have := HI2.out; simp [intOf]; omega
    · by_cases hn1 : i < n
      · have hn2 : ¬ (i : Int) < 200 := by unfold lim2 at hlt; omega
        have HEND := Lib.hid (show i ≤ n ∧ i ≤ 200 ∧ (i = n ∨ i = 200) by have := H2.out; unfold lim2 at this hlt; omega)
        clear hlt
        obtain ⟨⟨a0, a1, a2, a3, a4, a5⟩, fa0, fa1, fa2, fa3, fa4, fa5⟩ := blk6 HO4.out.a; obtain ⟨⟨b0, b1, b2, b3, b4, b5⟩, fb0, fb1, fb2, fb3, fb4, fb5⟩ := blk6 HO4.out.b; obtain ⟨⟨c0, c1, c2, c3, c4, c5⟩, fc0, fc1, fc2, fc3, fc4, fc5⟩ := blk6 HO4.out.c; obtain ⟨⟨d0, d1, d2, d3, d4, d5⟩, fd0, fd1, fd2, fd3, fd4, fd5⟩ := blk6 HO4.out.d; have hla := heap_lt HO4.out.d
        go_wp2
        have hmin : min (n : Int) 200 - 1 = (i : Int) - 1 := by have := HEND.out; omega
        rw [hmin]
        have HB1 := Lib.hid HB.out
        have HO1 := Lib.hid HO4.out
        have hin : i ≤ n := hi
        clear hmin HB HO4 H2 hi
        clear a0 a1 a2 a3 a4 a5 fa0 fa1 fa2 fa3 fa4 fa5 b0 b1 b2 b3 b4 b5 fb0 fb1 fb2 fb3 fb4 fb5 c0 c1 c2 c3 c4 c5 fc0 fc1 fc2 fc3 fc4 fc5 d0 d1 d2 d3 d4 d5 fd0 fd1 fd2 fd3 fd4 fd5 hla
        obtain ⟨we, hwe⟩ : ∃ x, x = wr := ⟨_, rfl⟩
        subst hwe
        go_loopw [14] (fun iv wr => ∃ (j : Nat) (dc : Ac), iv = .int .i64 ((j : Int) - 1) ∧ Hid (j ≤ i) ∧ Hid (Ord2 k l i j dc) ∧ Hid (O4 q ac bc cc dc wr) ∧ Hid (Below w.heap.size w wr)) (fun iv _ => (intOf iv + 1).toNat)
        case atStart => exact ⟨i, zeroA, rfl, Lib.hid (Nat.le_refl _), Lib.hid (Ord2.nil k l i), HO1, HB1⟩
        case round =>
          obtain ⟨j, dc, rfl, HJ, HORD2, HO4, HB⟩ := hrel
          cases j with
          | zero =>
            have e : ((0 : Nat) : Int) - 1 = -1 := rfl
            rw [e]
            clear e
            obtain ⟨e1, e2, e3, h128⟩ := ord_same HOK.out HW.out HEND.out.2.1 HORD.out HORD2.out
            subst e1
            have HBC := Lib.hid (fun W => aboth_any k bc cc HORD.out.wb HORD.out.wc W)
            have HCB := Lib.hid (fun W => aboth_any k cc bc HORD.out.wc HORD.out.wb W)
            simp only [e2] at HBC
            simp only [e3] at HCB
            have HWO := Lib.hid (fun W => aworth_any k dc h128 W)
            have hw0 := worth_ok HOK.out dc
            obtain ⟨x, hx⟩ : ∃ z, (worthA k dc).1 = z := ⟨_, rfl⟩
            simp only [hw0, hx] at HWO
            unfold Ac.V at HBC HCB HWO
            unfold V.val at HWO
            obtain ⟨⟨a0, a1, a2, a3, a4, a5⟩, fa0, fa1, fa2, fa3, fa4, fa5⟩ := blk6 HO4.out.a; obtain ⟨⟨b0, b1, b2, b3, b4, b5⟩, fb0, fb1, fb2, fb3, fb4, fb5⟩ := blk6 HO4.out.b; obtain ⟨⟨c0, c1, c2, c3, c4, c5⟩, fc0, fc1, fc2, fc3, fc4, fc5⟩ := blk6 HO4.out.c; obtain ⟨⟨d0, d1, d2, d3, d4, d5⟩, fd0, fd1, fd2, fd3, fd4, fd5⟩ := blk6 HO4.out.d; have hla := heap_lt HO4.out.d; have l0 := heap_lt HO4.out.a; have l1 := heap_lt HO4.out.b; have l2 : q + 1 + 1 < _ := heap_lt HO4.out.c; have l3 : q + 1 + 1 + 1 < _ := heap_lt HO4.out.d
            clear e2 e3 h128 hw0 hx HORD HORD2 HEND
            go_wp2_with (first
              | (go_at_call 15; have HSEC := HT3; go_loud (refine (HWO.out _).mono ?_; rintro en w10 ⟨rfl, hb⟩; have HR10 := Lib.hid ((hb.block _ (by simp)).trans (World.alloc_heap_new _ _)); have hb := hop1 ((Below.refl w9.heap.size w9).alloc (Nat.le_refl _) _) hb; have HB10 := Lib.hid (hop1 HB9.out hb); have HP10 := Lib.hid ((hb.block _ (heap_lt HP9.out)).trans HP9.out); have HQ10 := Lib.hid ((hb.block _ (heap_lt HQ9.out)).trans HQ9.out); clear x0 x1 x2 x3 x4 x5 lx; obtain ⟨p0, p1, p2⟩ := blk3 HP10.out; obtain ⟨q0, q1, q2⟩ := blk3 HQ10.out; obtain ⟨r0, r1, r2⟩ := blk3 HR10.out; have l0 := heap_lt HP10.out; have l1 := heap_lt HQ10.out; have l2 := heap_lt HR10.out; clear hb))
              | (go_at_call 15; have HSEC := HT2; go_loud (refine (HWO.out _).mono ?_; rintro en w9 ⟨rfl, hb⟩; have HT3 := Lib.hid True.intro; have HQ9 := Lib.hid ((hb.block _ (by simp)).trans (World.alloc_heap_new _ _)); have hb := hop1 ((Below.refl w8.heap.size w8).alloc (Nat.le_refl _) _) hb; have HB9 := Lib.hid (hop1 HB8.out hb); have HP9 := Lib.hid ((hb.block _ (heap_lt HP8.out)).trans HP8.out); have HY9 := Lib.hid ((hb.block _ (heap_lt HY8.out)).trans HY8.out); clear x0 x1 x2 x3 x4 x5 lx; obtain ⟨⟨x0, x1, x2, x3, x4, x5⟩, _⟩ := blk6 HY9.out; have lx := heap_lt HY9.out; clear hb))
              | (go_at_call 15; have HSEC := HT1; go_loud (refine (HWO.out _).mono ?_; rintro en w8 ⟨rfl, hb⟩; have HT2 := Lib.hid True.intro; have HP8 := Lib.hid ((hb.block _ (by simp)).trans (World.alloc_heap_new _ _)); have hb := hop1 ((Below.refl w7.heap.size w7).alloc (Nat.le_refl _) _) hb; have HB8 := Lib.hid (hop1 HB7.out hb); have HX8 := Lib.hid ((hb.block _ (heap_lt HX7.out)).trans HX7.out); have HY8 := Lib.hid ((hb.block _ (heap_lt HY7.out)).trans HY7.out); clear a0 a1 a2 a3 a4 a5 fa0 fa1 fa2 fa3 fa4 fa5 b0 b1 b2 b3 b4 b5 fb0 fb1 fb2 fb3 fb4 fb5 c0 c1 c2 c3 c4 c5 fc0 fc1 fc2 fc3 fc4 fc5 d0 d1 d2 d3 d4 d5 fd0 fd1 fd2 fd3 fd4 fd5 hla l0 l1 l2 l3; obtain ⟨⟨x0, x1, x2, x3, x4, x5⟩, _⟩ := blk6 HX8.out; have lx := heap_lt HX8.out; clear hb))
              | (go_at_call 15; go_loud (refine (HWO.out _).mono ?_; rintro en w7 ⟨rfl, hb⟩; have HT1 := Lib.hid True.intro; have HY7 := Lib.hid ((hb.block _ (by simp)).trans (World.alloc_heap_new _ _)); have hb := hop1 ((Below.refl w6.heap.size w6).alloc (Nat.le_refl _) _) hb; have HB7 := Lib.hid (hop1 HB6.out hb); have HX7 := Lib.hid ((hb.block _ (heap_lt HX6.out)).trans HX6.out); have HO7 := Lib.hid (HO6.out.below hb); clear a0 a1 a2 a3 a4 a5 fa0 fa1 fa2 fa3 fa4 fa5 b0 b1 b2 b3 b4 b5 fb0 fb1 fb2 fb3 fb4 fb5 c0 c1 c2 c3 c4 c5 fc0 fc1 fc2 fc3 fc4 fc5 d0 d1 d2 d3 d4 d5 fd0 fd1 fd2 fd3 fd4 fd5 hla l0 l1 l2 l3; obtain ⟨⟨a0, a1, a2, a3, a4, a5⟩, fa0, fa1, fa2, fa3, fa4, fa5⟩ := blk6 HO7.out.a; obtain ⟨⟨b0, b1, b2, b3, b4, b5⟩, fb0, fb1, fb2, fb3, fb4, fb5⟩ := blk6 HO7.out.b; obtain ⟨⟨c0, c1, c2, c3, c4, c5⟩, fc0, fc1, fc2, fc3, fc4, fc5⟩ := blk6 HO7.out.c; obtain ⟨⟨d0, d1, d2, d3, d4, d5⟩, fd0, fd1, fd2, fd3, fd4, fd5⟩ := blk6 HO7.out.d; have hla := heap_lt HO7.out.d; have l0 := heap_lt HO7.out.a; have l1 := heap_lt HO7.out.b; have l2 : q + 1 + 1 < _ := heap_lt HO7.out.c; have l3 : q + 1 + 1 + 1 < _ := heap_lt HO7.out.d; clear hb))
              | (go_at_call 13; have HSEC := HT0; go_loud (refine (HCB.out _).mono ?_; rintro en w6 ⟨rfl, hb⟩; have HX6 := Lib.hid ((hb.block _ (by simp)).trans (World.alloc_heap_new _ _)); have hb := hop1 ((Below.refl w5.heap.size w5).alloc (Nat.le_refl _) _) hb; have HB6 := Lib.hid (hop1 HB5.out hb); have HO6 := Lib.hid (HO5.out.below hb); clear a0 a1 a2 a3 a4 a5 fa0 fa1 fa2 fa3 fa4 fa5 b0 b1 b2 b3 b4 b5 fb0 fb1 fb2 fb3 fb4 fb5 c0 c1 c2 c3 c4 c5 fc0 fc1 fc2 fc3 fc4 fc5 d0 d1 d2 d3 d4 d5 fd0 fd1 fd2 fd3 fd4 fd5 hla l0 l1 l2 l3; obtain ⟨⟨a0, a1, a2, a3, a4, a5⟩, fa0, fa1, fa2, fa3, fa4, fa5⟩ := blk6 HO6.out.a; obtain ⟨⟨b0, b1, b2, b3, b4, b5⟩, fb0, fb1, fb2, fb3, fb4, fb5⟩ := blk6 HO6.out.b; obtain ⟨⟨c0, c1, c2, c3, c4, c5⟩, fc0, fc1, fc2, fc3, fc4, fc5⟩ := blk6 HO6.out.c; obtain ⟨⟨d0, d1, d2, d3, d4, d5⟩, fd0, fd1, fd2, fd3, fd4, fd5⟩ := blk6 HO6.out.d; have hla := heap_lt HO6.out.d; have l0 := heap_lt HO6.out.a; have l1 := heap_lt HO6.out.b; have l2 : q + 1 + 1 < _ := heap_lt HO6.out.c; have l3 : q + 1 + 1 + 1 < _ := heap_lt HO6.out.d; clear hb))
              | (go_at_call 13; go_loud (refine (HBC.out _).mono ?_; rintro en w5 ⟨rfl, hb⟩; have HT0 := Lib.hid True.intro; have HB5 := Lib.hid (hop1 HB.out hb); have HO5 := Lib.hid (HO4.out.below hb); clear a0 a1 a2 a3 a4 a5 fa0 fa1 fa2 fa3 fa4 fa5 b0 b1 b2 b3 b4 b5 fb0 fb1 fb2 fb3 fb4 fb5 c0 c1 c2 c3 c4 c5 fc0 fc1 fc2 fc3 fc4 fc5 d0 d1 d2 d3 d4 d5 fd0 fd1 fd2 fd3 fd4 fd5 hla l0 l1 l2 l3; obtain ⟨⟨a0, a1, a2, a3, a4, a5⟩, fa0, fa1, fa2, fa3, fa4, fa5⟩ := blk6 HO5.out.a; obtain ⟨⟨b0, b1, b2, b3, b4, b5⟩, fb0, fb1, fb2, fb3, fb4, fb5⟩ := blk6 HO5.out.b; obtain ⟨⟨c0, c1, c2, c3, c4, c5⟩, fc0, fc1, fc2, fc3, fc4, fc5⟩ := blk6 HO5.out.c; obtain ⟨⟨d0, d1, d2, d3, d4, d5⟩, fd0, fd1, fd2, fd3, fd4, fd5⟩ := blk6 HO5.out.d; have hla := heap_lt HO5.out.d; have l0 := heap_lt HO5.out.a; have l1 := heap_lt HO5.out.b; have l2 : q + 1 + 1 < _ := heap_lt HO5.out.c; have l3 : q + 1 + 1 + 1 < _ := heap_lt HO5.out.d; clear hb)))
            go_ret
            exact ⟨by simp, HB10.out.alloc HB10.out.size _⟩
          | succ j =>
            have e : ((j + 1 : Nat) : Int) - 1 = (j : Int) := by omega
            rw [e]
            have hji : j < i := by have := HJ.out; omega
            have hjl : j < l.length := by rw [← HL.out]; omega
            have hil : i ≤ l.length := by rw [← HL.out]; exact hin
            obtain ⟨rb, ro, hA2, hrb, n0, n1, n2⟩ := ((HA.out.below HB.out).more HB.out.size) j hjl
            subst hA2
            have HWV := Lib.hid (HW.out _ (List.getElem_mem hjl))
            have HBAD := Lib.hid (fun h => HORD2.out.bad hil hji h)
            have HGOOD := Lib.hid (fun h => HORD2.out.good HOK.out hil HEND.out.2.1 hji h (HW.out _ (List.getElem_mem hjl)))
            obtain ⟨v, hv⟩ : ∃ v, l[j] = v := ⟨_, rfl⟩
            simp only [hv] at n0 n1 n2 HWV HBAD HGOOD
            have j1 : (0 : Int) ≤ (j : Int) := by omega
            have j2 : (j : Int) < (n : Int) := by omega
            have j3 : (j : Int) ≤ 9223372036854775807 := by omega
            have HC := Lib.hid (fun W => rcheck_any v HWV.out W)
            unfold V.val at HC
            have HJI := Lib.hid hji
            obtain ⟨⟨a0, a1, a2, a3, a4, a5⟩, fa0, fa1, fa2, fa3, fa4, fa5⟩ := blk6 HO4.out.a; obtain ⟨⟨b0, b1, b2, b3, b4, b5⟩, fb0, fb1, fb2, fb3, fb4, fb5⟩ := blk6 HO4.out.b; obtain ⟨⟨c0, c1, c2, c3, c4, c5⟩, fc0, fc1, fc2, fc3, fc4, fc5⟩ := blk6 HO4.out.c; obtain ⟨⟨d0, d1, d2, d3, d4, d5⟩, fd0, fd1, fd2, fd3, fd4, fd5⟩ := blk6 HO4.out.d; have hla := heap_lt HO4.out.d
            clear hjl hil hv e hji hin HEND
            have hqs : q + 3 < wr.heap.size := hla
            have z0 : q ≠ wr.heap.size := by omega
            have z3 : q + 1 + 1 + 1 ≠ wr.heap.size := by omega
            have y3 : wr.heap.size ≠ q + 1 + 1 + 1 := by omega
            by_cases hg : goodV k v
            · obtain ⟨d', hd'⟩ : ∃ x, (addA k dc v).1 = x := ⟨_, rfl⟩
              have HDD := Lib.hid (fun W => aadd_any k dc v HORD2.out.wd HWV.out W)
              have e2 : (addA k dc v).2 = 0 := by rw [add_good HOK.out hg]
              simp only [e2, hd'] at HDD
              have HGO := Lib.hid (HGOOD.out hg)
              rw [hd'] at HGO
              unfold Ac.V V.val at HDD
              rw [hg.1] at HC
              have hg2 := hg.2
              clear e2 hd' HBAD HGOOD hg
              by_cases h3 : k = 3
              · have hv1 : v.k ≤ 1 := by
                  rcases Int.lt_or_le 1 v.k with h | h
                  · exact absurd ⟨h3, h⟩ hg2
                  · exact h
                have q3 : (k != 3) = false := by simpa using h3
                clear h3 hg2
                go_wp2_with (first
                  | (go_at_call 17; go_loud (refine (HC.out _).mono ?_; rintro en w2 ⟨rfl, hb⟩; have HV2 := Lib.hid ((hb.block _ (by simp)).trans (World.alloc_heap_new _ _)); have hb := hop1 ((Below.refl wr.heap.size wr).alloc (Nat.le_refl _) _) hb; have HO2 := Lib.hid (HO4.out.below hb); have HB2 := Lib.hid (hop1 HB.out hb); clear a0 a1 a2 a3 a4 a5 fa0 fa1 fa2 fa3 fa4 fa5 b0 b1 b2 b3 b4 b5 fb0 fb1 fb2 fb3 fb4 fb5 c0 c1 c2 c3 c4 c5 fc0 fc1 fc2 fc3 fc4 fc5 d0 d1 d2 d3 d4 d5 fd0 fd1 fd2 fd3 fd4 fd5 hla; obtain ⟨⟨a0, a1, a2, a3, a4, a5⟩, fa0, fa1, fa2, fa3, fa4, fa5⟩ := blk6 HO2.out.a; obtain ⟨⟨b0, b1, b2, b3, b4, b5⟩, fb0, fb1, fb2, fb3, fb4, fb5⟩ := blk6 HO2.out.b; obtain ⟨⟨c0, c1, c2, c3, c4, c5⟩, fc0, fc1, fc2, fc3, fc4, fc5⟩ := blk6 HO2.out.c; obtain ⟨⟨d0, d1, d2, d3, d4, d5⟩, fd0, fd1, fd2, fd3, fd4, fd5⟩ := blk6 HO2.out.d; have hla := heap_lt HO2.out.d; obtain ⟨v0, v1, v2⟩ := blk3 HV2.out; have hvl := heap_lt HV2.out; clear hb))
                  | (go_at_call 11; go_loud (refine (HDD.out _).mono ?_; rintro en w3 ⟨rfl, hb⟩; have HO3 := Lib.hid (HO2.out.below hb); have HB3 := Lib.hid (hop1 HB2.out hb); clear a0 a1 a2 a3 a4 a5 fa0 fa1 fa2 fa3 fa4 fa5 b0 b1 b2 b3 b4 b5 fb0 fb1 fb2 fb3 fb4 fb5 c0 c1 c2 c3 c4 c5 fc0 fc1 fc2 fc3 fc4 fc5 d0 d1 d2 d3 d4 d5 fd0 fd1 fd2 fd3 fd4 fd5 hla; obtain ⟨⟨a0, a1, a2, a3, a4, a5⟩, fa0, fa1, fa2, fa3, fa4, fa5⟩ := blk6 HO3.out.a; obtain ⟨⟨b0, b1, b2, b3, b4, b5⟩, fb0, fb1, fb2, fb3, fb4, fb5⟩ := blk6 HO3.out.b; obtain ⟨⟨c0, c1, c2, c3, c4, c5⟩, fc0, fc1, fc2, fc3, fc4, fc5⟩ := blk6 HO3.out.c; obtain ⟨⟨d0, d1, d2, d3, d4, d5⟩, fd0, fd1, fd2, fd3, fd4, fd5⟩ := blk6 HO3.out.d; have hla := heap_lt HO3.out.d; clear v0 v1 v2 hvl hb)))
                go_roundw
                case rel => exact ⟨j, d', by go_num, Lib.hid (by have := HJI.out; omega), HGO, Lib.hid (HO3.out.setD d'), Lib.hid (put6_below HB3.out (by have := HQW.out; omega) _)⟩
                case measure => simp [intOf]
              · have q3 : (k != 3) = true := by simpa using h3
                clear h3 hg2
                go_wp2_with (first
                  | (go_at_call 17; go_loud (refine (HC.out _).mono ?_; rintro en w2 ⟨rfl, hb⟩; have HV2 := Lib.hid ((hb.block _ (by simp)).trans (World.alloc_heap_new _ _)); have hb := hop1 ((Below.refl wr.heap.size wr).alloc (Nat.le_refl _) _) hb; have HO2 := Lib.hid (HO4.out.below hb); have HB2 := Lib.hid (hop1 HB.out hb); clear a0 a1 a2 a3 a4 a5 fa0 fa1 fa2 fa3 fa4 fa5 b0 b1 b2 b3 b4 b5 fb0 fb1 fb2 fb3 fb4 fb5 c0 c1 c2 c3 c4 c5 fc0 fc1 fc2 fc3 fc4 fc5 d0 d1 d2 d3 d4 d5 fd0 fd1 fd2 fd3 fd4 fd5 hla; obtain ⟨⟨a0, a1, a2, a3, a4, a5⟩, fa0, fa1, fa2, fa3, fa4, fa5⟩ := blk6 HO2.out.a; obtain ⟨⟨b0, b1, b2, b3, b4, b5⟩, fb0, fb1, fb2, fb3, fb4, fb5⟩ := blk6 HO2.out.b; obtain ⟨⟨c0, c1, c2, c3, c4, c5⟩, fc0, fc1, fc2, fc3, fc4, fc5⟩ := blk6 HO2.out.c; obtain ⟨⟨d0, d1, d2, d3, d4, d5⟩, fd0, fd1, fd2, fd3, fd4, fd5⟩ := blk6 HO2.out.d; have hla := heap_lt HO2.out.d; obtain ⟨v0, v1, v2⟩ := blk3 HV2.out; have hvl := heap_lt HV2.out; clear hb))
                  | (go_at_call 11; go_loud (refine (HDD.out _).mono ?_; rintro en w3 ⟨rfl, hb⟩; have HO3 := Lib.hid (HO2.out.below hb); have HB3 := Lib.hid (hop1 HB2.out hb); clear a0 a1 a2 a3 a4 a5 fa0 fa1 fa2 fa3 fa4 fa5 b0 b1 b2 b3 b4 b5 fb0 fb1 fb2 fb3 fb4 fb5 c0 c1 c2 c3 c4 c5 fc0 fc1 fc2 fc3 fc4 fc5 d0 d1 d2 d3 d4 d5 fd0 fd1 fd2 fd3 fd4 fd5 hla; obtain ⟨⟨a0, a1, a2, a3, a4, a5⟩, fa0, fa1, fa2, fa3, fa4, fa5⟩ := blk6 HO3.out.a; obtain ⟨⟨b0, b1, b2, b3, b4, b5⟩, fb0, fb1, fb2, fb3, fb4, fb5⟩ := blk6 HO3.out.b; obtain ⟨⟨c0, c1, c2, c3, c4, c5⟩, fc0, fc1, fc2, fc3, fc4, fc5⟩ := blk6 HO3.out.c; obtain ⟨⟨d0, d1, d2, d3, d4, d5⟩, fd0, fd1, fd2, fd3, fd4, fd5⟩ := blk6 HO3.out.d; have hla := heap_lt HO3.out.d; clear v0 v1 v2 hvl hb)))
                go_roundw
                case rel => exact ⟨j, d', by go_num, Lib.hid (by have := HJI.out; omega), HGO, Lib.hid (HO3.out.setD d'), Lib.hid (put6_below HB3.out (by have := HQW.out; omega) _)⟩
                case measure => simp [intOf]
            · have HBA := Lib.hid (HBAD.out hg)
              obtain ⟨ch, hch⟩ : ∃ x, chk v = x := ⟨_, rfl⟩
              rw [hch] at HC
              unfold goodV at hg
              rw [hch] at hg
              clear HBAD HGOOD hch
              by_cases h0 : ch = 0
              · have h3 : k = 3 ∧ 1 < v.k := Classical.byContradiction fun h => hg ⟨h0, h⟩
                have hv1 := h3.2
                have q3 : (k != 3) = false := by simpa using h3.1
                subst h0
                clear h3 hg
                go_wp2_with (go_at_call 17; go_loud (refine (HC.out _).mono ?_; rintro en w2 ⟨rfl, hb⟩; have HV2 := Lib.hid ((hb.block _ (by simp)).trans (World.alloc_heap_new _ _)); have hb := hop1 ((Below.refl wr.heap.size wr).alloc (Nat.le_refl _) _) hb; have HO2 := Lib.hid (HO4.out.below hb); have HB2 := Lib.hid (hop1 HB.out hb); clear a0 a1 a2 a3 a4 a5 fa0 fa1 fa2 fa3 fa4 fa5 b0 b1 b2 b3 b4 b5 fb0 fb1 fb2 fb3 fb4 fb5 c0 c1 c2 c3 c4 c5 fc0 fc1 fc2 fc3 fc4 fc5 d0 d1 d2 d3 d4 d5 fd0 fd1 fd2 fd3 fd4 fd5 hla; obtain ⟨v0, v1, v2⟩ := blk3 HV2.out; have hvl := heap_lt HV2.out; clear hb))
                go_roundw
                case rel => exact ⟨j, dc, by go_num, Lib.hid (by have := HJI.out; omega), HBA, HO2, HB2⟩
                case measure => simp [intOf]
              · have q0 : (ch == 0) = false := by simpa using h0
                clear h0 hg
                go_wp2_with (go_at_call 17; go_loud (refine (HC.out _).mono ?_; rintro en w2 ⟨rfl, hb⟩; have HV2 := Lib.hid ((hb.block _ (by simp)).trans (World.alloc_heap_new _ _)); have hb := hop1 ((Below.refl wr.heap.size wr).alloc (Nat.le_refl _) _) hb; have HO2 := Lib.hid (HO4.out.below hb); have HB2 := Lib.hid (hop1 HB.out hb); clear a0 a1 a2 a3 a4 a5 fa0 fa1 fa2 fa3 fa4 fa5 b0 b1 b2 b3 b4 b5 fb0 fb1 fb2 fb3 fb4 fb5 c0 c1 c2 c3 c4 c5 fc0 fc1 fc2 fc3 fc4 fc5 d0 d1 d2 d3 d4 d5 fd0 fd1 fd2 fd3 fd4 fd5 hla; obtain ⟨v0, v1, v2⟩ := blk3 HV2.out; have hvl := heap_lt HV2.out; clear hb))
                go_roundw
                case rel => exact ⟨j, dc, by go_num, Lib.hid (by have := HJI.out; omega), HBA, HO2, HB2⟩
                case measure => simp [intOf]
      · skip
        have HEND := Lib.hid (show i ≤ n ∧ i ≤ 200 ∧ (i = n ∨ i = 200) by have := H2.out; unfold lim2 at this hlt; omega)
        clear hlt
        obtain ⟨⟨a0, a1, a2, a3, a4, a5⟩, fa0, fa1, fa2, fa3, fa4, fa5⟩ := blk6 HO4.out.a; obtain ⟨⟨b0, b1, b2, b3, b4, b5⟩, fb0, fb1, fb2, fb3, fb4, fb5⟩ := blk6 HO4.out.b; obtain ⟨⟨c0, c1, c2, c3, c4, c5⟩, fc0, fc1, fc2, fc3, fc4, fc5⟩ := blk6 HO4.out.c; obtain ⟨⟨d0, d1, d2, d3, d4, d5⟩, fd0, fd1, fd2, fd3, fd4, fd5⟩ := blk6 HO4.out.d; have hla := heap_lt HO4.out.d
        go_wp2
        have hmin : min (n : Int) 200 - 1 = (i : Int) - 1 := by have := HEND.out; omega
        rw [hmin]
        have HB1 := Lib.hid HB.out
        have HO1 := Lib.hid HO4.out
        have hin : i ≤ n := hi
        clear hmin HB HO4 H2 hi
        clear a0 a1 a2 a3 a4 a5 fa0 fa1 fa2 fa3 fa4 fa5 b0 b1 b2 b3 b4 b5 fb0 fb1 fb2 fb3 fb4 fb5 c0 c1 c2 c3 c4 c5 fc0 fc1 fc2 fc3 fc4 fc5 d0 d1 d2 d3 d4 d5 fd0 fd1 fd2 fd3 fd4 fd5 hla
        obtain ⟨we, hwe⟩ : ∃ x, x = wr := ⟨_, rfl⟩
        subst hwe
        go_loopw [14] (fun iv wr => ∃ (j : Nat) (dc : Ac), iv = .int .i64 ((j : Int) - 1) ∧ Hid (j ≤ i) ∧ Hid (Ord2 k l i j dc) ∧ Hid (O4 q ac bc cc dc wr) ∧ Hid (Below w.heap.size w wr)) (fun iv _ => (intOf iv + 1).toNat)
        case atStart => exact ⟨i, zeroA, rfl, Lib.hid (Nat.le_refl _), Lib.hid (Ord2.nil k l i), HO1, HB1⟩
        case round =>
          obtain ⟨j, dc, rfl, HJ, HORD2, HO4, HB⟩ := hrel
          cases j with
          | zero =>
            have e : ((0 : Nat) : Int) - 1 = -1 := rfl
            rw [e]
            clear e
            obtain ⟨e1, e2, e3, h128⟩ := ord_same HOK.out HW.out HEND.out.2.1 HORD.out HORD2.out
            subst e1
            have HBC := Lib.hid (fun W => aboth_any k bc cc HORD.out.wb HORD.out.wc W)
            have HCB := Lib.hid (fun W => aboth_any k cc bc HORD.out.wc HORD.out.wb W)
            simp only [e2] at HBC
            simp only [e3] at HCB
            have HWO := Lib.hid (fun W => aworth_any k dc h128 W)
            have hw0 := worth_ok HOK.out dc
            obtain ⟨x, hx⟩ : ∃ z, (worthA k dc).1 = z := ⟨_, rfl⟩
            simp only [hw0, hx] at HWO
            unfold Ac.V at HBC HCB HWO
            unfold V.val at HWO
            obtain ⟨⟨a0, a1, a2, a3, a4, a5⟩, fa0, fa1, fa2, fa3, fa4, fa5⟩ := blk6 HO4.out.a; obtain ⟨⟨b0, b1, b2, b3, b4, b5⟩, fb0, fb1, fb2, fb3, fb4, fb5⟩ := blk6 HO4.out.b; obtain ⟨⟨c0, c1, c2, c3, c4, c5⟩, fc0, fc1, fc2, fc3, fc4, fc5⟩ := blk6 HO4.out.c; obtain ⟨⟨d0, d1, d2, d3, d4, d5⟩, fd0, fd1, fd2, fd3, fd4, fd5⟩ := blk6 HO4.out.d; have hla := heap_lt HO4.out.d; have l0 := heap_lt HO4.out.a; have l1 := heap_lt HO4.out.b; have l2 : q + 1 + 1 < _ := heap_lt HO4.out.c; have l3 : q + 1 + 1 + 1 < _ := heap_lt HO4.out.d
            clear e2 e3 h128 hw0 hx HORD HORD2 HEND
            go_wp2_with (first
              | (go_at_call 15; have HSEC := HT3; go_loud (refine (HWO.out _).mono ?_; rintro en w10 ⟨rfl, hb⟩; have HR10 := Lib.hid ((hb.block _ (by simp)).trans (World.alloc_heap_new _ _)); have hb := hop1 ((Below.refl w9.heap.size w9).alloc (Nat.le_refl _) _) hb; have HB10 := Lib.hid (hop1 HB9.out hb); have HP10 := Lib.hid ((hb.block _ (heap_lt HP9.out)).trans HP9.out); have HQ10 := Lib.hid ((hb.block _ (heap_lt HQ9.out)).trans HQ9.out); clear x0 x1 x2 x3 x4 x5 lx; obtain ⟨p0, p1, p2⟩ := blk3 HP10.out; obtain ⟨q0, q1, q2⟩ := blk3 HQ10.out; obtain ⟨r0, r1, r2⟩ := blk3 HR10.out; have l0 := heap_lt HP10.out; have l1 := heap_lt HQ10.out; have l2 := heap_lt HR10.out; clear hb))
              | (go_at_call 15; have HSEC := HT2; go_loud (refine (HWO.out _).mono ?_; rintro en w9 ⟨rfl, hb⟩; have HT3 := Lib.hid True.intro; have HQ9 := Lib.hid ((hb.block _ (by simp)).trans (World.alloc_heap_new _ _)); have hb := hop1 ((Below.refl w8.heap.size w8).alloc (Nat.le_refl _) _) hb; have HB9 := Lib.hid (hop1 HB8.out hb); have HP9 := Lib.hid ((hb.block _ (heap_lt HP8.out)).trans HP8.out); have HY9 := Lib.hid ((hb.block _ (heap_lt HY8.out)).trans HY8.out); clear x0 x1 x2 x3 x4 x5 lx; obtain ⟨⟨x0, x1, x2, x3, x4, x5⟩, _⟩ := blk6 HY9.out; have lx := heap_lt HY9.out; clear hb))
              | (go_at_call 15; have HSEC := HT1; go_loud (refine (HWO.out _).mono ?_; rintro en w8 ⟨rfl, hb⟩; have HT2 := Lib.hid True.intro; have HP8 := Lib.hid ((hb.block _ (by simp)).trans (World.alloc_heap_new _ _)); have hb := hop1 ((Below.refl w7.heap.size w7).alloc (Nat.le_refl _) _) hb; have HB8 := Lib.hid (hop1 HB7.out hb); have HX8 := Lib.hid ((hb.block _ (heap_lt HX7.out)).trans HX7.out); have HY8 := Lib.hid ((hb.block _ (heap_lt HY7.out)).trans HY7.out); clear a0 a1 a2 a3 a4 a5 fa0 fa1 fa2 fa3 fa4 fa5 b0 b1 b2 b3 b4 b5 fb0 fb1 fb2 fb3 fb4 fb5 c0 c1 c2 c3 c4 c5 fc0 fc1 fc2 fc3 fc4 fc5 d0 d1 d2 d3 d4 d5 fd0 fd1 fd2 fd3 fd4 fd5 hla l0 l1 l2 l3; obtain ⟨⟨x0, x1, x2, x3, x4, x5⟩, _⟩ := blk6 HX8.out; have lx := heap_lt HX8.out; clear hb))
              | (go_at_call 15; go_loud (refine (HWO.out _).mono ?_; rintro en w7 ⟨rfl, hb⟩; have HT1 := Lib.hid True.intro; have HY7 := Lib.hid ((hb.block _ (by simp)).trans (World.alloc_heap_new _ _)); have hb := hop1 ((Below.refl w6.heap.size w6).alloc (Nat.le_refl _) _) hb; have HB7 := Lib.hid (hop1 HB6.out hb); have HX7 := Lib.hid ((hb.block _ (heap_lt HX6.out)).trans HX6.out); have HO7 := Lib.hid (HO6.out.below hb); clear a0 a1 a2 a3 a4 a5 fa0 fa1 fa2 fa3 fa4 fa5 b0 b1 b2 b3 b4 b5 fb0 fb1 fb2 fb3 fb4 fb5 c0 c1 c2 c3 c4 c5 fc0 fc1 fc2 fc3 fc4 fc5 d0 d1 d2 d3 d4 d5 fd0 fd1 fd2 fd3 fd4 fd5 hla l0 l1 l2 l3; obtain ⟨⟨a0, a1, a2, a3, a4, a5⟩, fa0, fa1, fa2, fa3, fa4, fa5⟩ := blk6 HO7.out.a; obtain ⟨⟨b0, b1, b2, b3, b4, b5⟩, fb0, fb1, fb2, fb3, fb4, fb5⟩ := blk6 HO7.out.b; obtain ⟨⟨c0, c1, c2, c3, c4, c5⟩, fc0, fc1, fc2, fc3, fc4, fc5⟩ := blk6 HO7.out.c; obtain ⟨⟨d0, d1, d2, d3, d4, d5⟩, fd0, fd1, fd2, fd3, fd4, fd5⟩ := blk6 HO7.out.d; have hla := heap_lt HO7.out.d; have l0 := heap_lt HO7.out.a; have l1 := heap_lt HO7.out.b; have l2 : q + 1 + 1 < _ := heap_lt HO7.out.c; have l3 : q + 1 + 1 + 1 < _ := heap_lt HO7.out.d; clear hb))
              | (go_at_call 13; have HSEC := HT0; go_loud (refine (HCB.out _).mono ?_; rintro en w6 ⟨rfl, hb⟩; have HX6 := Lib.hid ((hb.block _ (by simp)).trans (World.alloc_heap_new _ _)); have hb := hop1 ((Below.refl w5.heap.size w5).alloc (Nat.le_refl _) _) hb; have HB6 := Lib.hid (hop1 HB5.out hb); have HO6 := Lib.hid (HO5.out.below hb); clear a0 a1 a2 a3 a4 a5 fa0 fa1 fa2 fa3 fa4 fa5 b0 b1 b2 b3 b4 b5 fb0 fb1 fb2 fb3 fb4 fb5 c0 c1 c2 c3 c4 c5 fc0 fc1 fc2 fc3 fc4 fc5 d0 d1 d2 d3 d4 d5 fd0 fd1 fd2 fd3 fd4 fd5 hla l0 l1 l2 l3; obtain ⟨⟨a0, a1, a2, a3, a4, a5⟩, fa0, fa1, fa2, fa3, fa4, fa5⟩ := blk6 HO6.out.a; obtain ⟨⟨b0, b1, b2, b3, b4, b5⟩, fb0, fb1, fb2, fb3, fb4, fb5⟩ := blk6 HO6.out.b; obtain ⟨⟨c0, c1, c2, c3, c4, c5⟩, fc0, fc1, fc2, fc3, fc4, fc5⟩ := blk6 HO6.out.c; obtain ⟨⟨d0, d1, d2, d3, d4, d5⟩, fd0, fd1, fd2, fd3, fd4, fd5⟩ := blk6 HO6.out.d; have hla := heap_lt HO6.out.d; have l0 := heap_lt HO6.out.a; have l1 := heap_lt HO6.out.b; have l2 : q + 1 + 1 < _ := heap_lt HO6.out.c; have l3 : q + 1 + 1 + 1 < _ := heap_lt HO6.out.d; clear hb))
              | (go_at_call 13; go_loud (refine (HBC.out _).mono ?_; rintro en w5 ⟨rfl, hb⟩; have HT0 := Lib.hid True.intro; have HB5 := Lib.hid (hop1 HB.out hb); have HO5 := Lib.hid (HO4.out.below hb); clear a0 a1 a2 a3 a4 a5 fa0 fa1 fa2 fa3 fa4 fa5 b0 b1 b2 b3 b4 b5 fb0 fb1 fb2 fb3 fb4 fb5 c0 c1 c2 c3 c4 c5 fc0 fc1 fc2 fc3 fc4 fc5 d0 d1 d2 d3 d4 d5 fd0 fd1 fd2 fd3 fd4 fd5 hla l0 l1 l2 l3; obtain ⟨⟨a0, a1, a2, a3, a4, a5⟩, fa0, fa1, fa2, fa3, fa4, fa5⟩ := blk6 HO5.out.a; obtain ⟨⟨b0, b1, b2, b3, b4, b5⟩, fb0, fb1, fb2, fb3, fb4, fb5⟩ := blk6 HO5.out.b; obtain ⟨⟨c0, c1, c2, c3, c4, c5⟩, fc0, fc1, fc2, fc3, fc4, fc5⟩ := blk6 HO5.out.c; obtain ⟨⟨d0, d1, d2, d3, d4, d5⟩, fd0, fd1, fd2, fd3, fd4, fd5⟩ := blk6 HO5.out.d; have hla := heap_lt HO5.out.d; have l0 := heap_lt HO5.out.a; have l1 := heap_lt HO5.out.b; have l2 : q + 1 + 1 < _ := heap_lt HO5.out.c; have l3 : q + 1 + 1 + 1 < _ := heap_lt HO5.out.d; clear hb)))
            go_ret
            exact ⟨by simp, HB10.out.alloc HB10.out.size _⟩
          | succ j =>
            have e : ((j + 1 : Nat) : Int) - 1 = (j : Int) := by omega
            rw [e]
            have hji : j < i := by have := HJ.out; omega
            have hjl : j < l.length := by rw [← HL.out]; omega
            have hil : i ≤ l.length := by rw [← HL.out]; exact hin
            obtain ⟨rb, ro, hA2, hrb, n0, n1, n2⟩ := ((HA.out.below HB.out).more HB.out.size) j hjl
            subst hA2
            have HWV := Lib.hid (HW.out _ (List.getElem_mem hjl))
            have HBAD := Lib.hid (fun h => HORD2.out.bad hil hji h)
            have HGOOD := Lib.hid (fun h => HORD2.out.good HOK.out hil HEND.out.2.1 hji h (HW.out _ (List.getElem_mem hjl)))
            obtain ⟨v, hv⟩ : ∃ v, l[j] = v := ⟨_, rfl⟩
            simp only [hv] at n0 n1 n2 HWV HBAD HGOOD
            have j1 : (0 : Int) ≤ (j : Int) := by omega
            have j2 : (j : Int) < (n : Int) := by omega
            have j3 : (j : Int) ≤ 9223372036854775807 := by omega
            have HC := Lib.hid (fun W => rcheck_any v HWV.out W)
            unfold V.val at HC
            have HJI := Lib.hid hji
            obtain ⟨⟨a0, a1, a2, a3, a4, a5⟩, fa0, fa1, fa2, fa3, fa4, fa5⟩ := blk6 HO4.out.a; obtain ⟨⟨b0, b1, b2, b3, b4, b5⟩, fb0, fb1, fb2, fb3, fb4, fb5⟩ := blk6 HO4.out.b; obtain ⟨⟨c0, c1, c2, c3, c4, c5⟩, fc0, fc1, fc2, fc3, fc4, fc5⟩ := blk6 HO4.out.c; obtain ⟨⟨d0, d1, d2, d3, d4, d5⟩, fd0, fd1, fd2, fd3, fd4, fd5⟩ := blk6 HO4.out.d; have hla := heap_lt HO4.out.d
            clear hjl hil hv e hji hin HEND
            have hqs : q + 3 < wr.heap.size := hla
            have z0 : q ≠ wr.heap.size := by omega
            have z3 : q + 1 + 1 + 1 ≠ wr.heap.size := by omega
            have y3 : wr.heap.size ≠ q + 1 + 1 + 1 := by omega
            by_cases hg : goodV k v
            · obtain ⟨d', hd'⟩ : ∃ x, (addA k dc v).1 = x := ⟨_, rfl⟩
              have HDD := Lib.hid (fun W => aadd_any k dc v HORD2.out.wd HWV.out W)
              have e2 : (addA k dc v).2 = 0 := by rw [add_good HOK.out hg]
              simp only [e2, hd'] at HDD
              have HGO := Lib.hid (HGOOD.out hg)
              rw [hd'] at HGO
              unfold Ac.V V.val at HDD
              rw [hg.1] at HC
              have hg2 := hg.2
              clear e2 hd' HBAD HGOOD hg
              by_cases h3 : k = 3
              · have hv1 : v.k ≤ 1 := by
                  rcases Int.lt_or_le 1 v.k with h | h
                  · exact absurd ⟨h3, h⟩ hg2
                  · exact h
                have q3 : (k != 3) = false := by simpa using h3
                clear h3 hg2
                go_wp2_with (first
                  | (go_at_call 17; go_loud (refine (HC.out _).mono ?_; rintro en w2 ⟨rfl, hb⟩; have HV2 := Lib.hid ((hb.block _ (by simp)).trans (World.alloc_heap_new _ _)); have hb := hop1 ((Below.refl wr.heap.size wr).alloc (Nat.le_refl _) _) hb; have HO2 := Lib.hid (HO4.out.below hb); have HB2 := Lib.hid (hop1 HB.out hb); clear a0 a1 a2 a3 a4 a5 fa0 fa1 fa2 fa3 fa4 fa5 b0 b1 b2 b3 b4 b5 fb0 fb1 fb2 fb3 fb4 fb5 c0 c1 c2 c3 c4 c5 fc0 fc1 fc2 fc3 fc4 fc5 d0 d1 d2 d3 d4 d5 fd0 fd1 fd2 fd3 fd4 fd5 hla; obtain ⟨⟨a0, a1, a2, a3, a4, a5⟩, fa0, fa1, fa2, fa3, fa4, fa5⟩ := blk6 HO2.out.a; obtain ⟨⟨b0, b1, b2, b3, b4, b5⟩, fb0, fb1, fb2, fb3, fb4, fb5⟩ := blk6 HO2.out.b; obtain ⟨⟨c0, c1, c2, c3, c4, c5⟩, fc0, fc1, fc2, fc3, fc4, fc5⟩ := blk6 HO2.out.c; obtain ⟨⟨d0, d1, d2, d3, d4, d5⟩, fd0, fd1, fd2, fd3, fd4, fd5⟩ := blk6 HO2.out.d; have hla := heap_lt HO2.out.d; obtain ⟨v0, v1, v2⟩ := blk3 HV2.out; have hvl := heap_lt HV2.out; clear hb))
                  | (go_at_call 11; go_loud (refine (HDD.out _).mono ?_; rintro en w3 ⟨rfl, hb⟩; have HO3 := Lib.hid (HO2.out.below hb); have HB3 := Lib.hid (hop1 HB2.out hb); clear a0 a1 a2 a3 a4 a5 fa0 fa1 fa2 fa3 fa4 fa5 b0 b1 b2 b3 b4 b5 fb0 fb1 fb2 fb3 fb4 fb5 c0 c1 c2 c3 c4 c5 fc0 fc1 fc2 fc3 fc4 fc5 d0 d1 d2 d3 d4 d5 fd0 fd1 fd2 fd3 fd4 fd5 hla; obtain ⟨⟨a0, a1, a2, a3, a4, a5⟩, fa0, fa1, fa2, fa3, fa4, fa5⟩ := blk6 HO3.out.a; obtain ⟨⟨b0, b1, b2, b3, b4, b5⟩, fb0, fb1, fb2, fb3, fb4, fb5⟩ := blk6 HO3.out.b; obtain ⟨⟨c0, c1, c2, c3, c4, c5⟩, fc0, fc1, fc2, fc3, fc4, fc5⟩ := blk6 HO3.out.c; obtain ⟨⟨d0, d1, d2, d3, d4, d5⟩, fd0, fd1, fd2, fd3, fd4, fd5⟩ := blk6 HO3.out.d; have hla := heap_lt HO3.out.d; clear v0 v1 v2 hvl hb)))
                go_roundw
                case rel => exact ⟨j, d', by go_num, Lib.hid (by have := HJI.out; omega), HGO, Lib.hid (HO3.out.setD d'), Lib.hid (put6_below HB3.out (by have := HQW.out; omega) _)⟩
                case measure => simp [intOf]
              · have q3 : (k != 3) = true := by simpa using h3
                clear h3 hg2
                go_wp2_with (first
                  | (go_at_call 17; go_loud (refine (HC.out _).mono ?_; rintro en w2 ⟨rfl, hb⟩; have HV2 := Lib.hid ((hb.block _ (by simp)).trans (World.alloc_heap_new _ _)); have hb := hop1 ((Below.refl wr.heap.size wr).alloc (Nat.le_refl _) _) hb; have HO2 := Lib.hid (HO4.out.below hb); have HB2 := Lib.hid (hop1 HB.out hb); clear a0 a1 a2 a3 a4 a5 fa0 fa1 fa2 fa3 fa4 fa5 b0 b1 b2 b3 b4 b5 fb0 fb1 fb2 fb3 fb4 fb5 c0 c1 c2 c3 c4 c5 fc0 fc1 fc2 fc3 fc4 fc5 d0 d1 d2 d3 d4 d5 fd0 fd1 fd2 fd3 fd4 fd5 hla; obtain ⟨⟨a0, a1, a2, a3, a4, a5⟩, fa0, fa1, fa2, fa3, fa4, fa5⟩ := blk6 HO2.out.a; obtain ⟨⟨b0, b1, b2, b3, b4, b5⟩, fb0, fb1, fb2, fb3, fb4, fb5⟩ := blk6 HO2.out.b; obtain ⟨⟨c0, c1, c2, c3, c4, c5⟩, fc0, fc1, fc2, fc3, fc4, fc5⟩ := blk6 HO2.out.c; obtain ⟨⟨d0, d1, d2, d3, d4, d5⟩, fd0, fd1, fd2, fd3, fd4, fd5⟩ := blk6 HO2.out.d; have hla := heap_lt HO2.out.d; obtain ⟨v0, v1, v2⟩ := blk3 HV2.out; have hvl := heap_lt HV2.out; clear hb))
                  | (go_at_call 11; go_loud (refine (HDD.out _).mono ?_; rintro en w3 ⟨rfl, hb⟩; have HO3 := Lib.hid (HO2.out.below hb); have HB3 := Lib.hid (hop1 HB2.out hb); clear a0 a1 a2 a3 a4 a5 fa0 fa1 fa2 fa3 fa4 fa5 b0 b1 b2 b3 b4 b5 fb0 fb1 fb2 fb3 fb4 fb5 c0 c1 c2 c3 c4 c5 fc0 fc1 fc2 fc3 fc4 fc5 d0 d1 d2 d3 d4 d5 fd0 fd1 fd2 fd3 fd4 fd5 hla; obtain ⟨⟨a0, a1, a2, a3, a4, a5⟩, fa0, fa1, fa2, fa3, fa4, fa5⟩ := blk6 HO3.out.a; obtain ⟨⟨b0, b1, b2, b3, b4, b5⟩, fb0, fb1, fb2, fb3, fb4, fb5⟩ := blk6 HO3.out.b; obtain ⟨⟨c0, c1, c2, c3, c4, c5⟩, fc0, fc1, fc2, fc3, fc4, fc5⟩ := blk6 HO3.out.c; obtain ⟨⟨d0, d1, d2, d3, d4, d5⟩, fd0, fd1, fd2, fd3, fd4, fd5⟩ := blk6 HO3.out.d; have hla := heap_lt HO3.out.d; clear v0 v1 v2 hvl hb)))
                go_roundw
                case rel => exact ⟨j, d', by go_num, Lib.hid (by have := HJI.out; omega), HGO, Lib.hid (HO3.out.setD d'), Lib.hid (put6_below HB3.out (by have := HQW.out; omega) _)⟩
                case measure => simp [intOf]
            · have HBA := Lib.hid (HBAD.out hg)
              obtain ⟨ch, hch⟩ : ∃ x, chk v = x := ⟨_, rfl⟩
              rw [hch] at HC
              unfold goodV at hg
              rw [hch] at hg
              clear HBAD HGOOD hch
              by_cases h0 : ch = 0
              · have h3 : k = 3 ∧ 1 < v.k := Classical.byContradiction fun h => hg ⟨h0, h⟩
                have hv1 := h3.2
                have q3 : (k != 3) = false := by simpa using h3.1
                subst h0
                clear h3 hg
                go_wp2_with (go_at_call 17; go_loud (refine (HC.out _).mono ?_; rintro en w2 ⟨rfl, hb⟩; have HV2 := Lib.hid ((hb.block _ (by simp)).trans (World.alloc_heap_new _ _)); have hb := hop1 ((Below.refl wr.heap.size wr).alloc (Nat.le_refl _) _) hb; have HO2 := Lib.hid (HO4.out.below hb); have HB2 := Lib.hid (hop1 HB.out hb); clear a0 a1 a2 a3 a4 a5 fa0 fa1 fa2 fa3 fa4 fa5 b0 b1 b2 b3 b4 b5 fb0 fb1 fb2 fb3 fb4 fb5 c0 c1 c2 c3 c4 c5 fc0 fc1 fc2 fc3 fc4 fc5 d0 d1 d2 d3 d4 d5 fd0 fd1 fd2 fd3 fd4 fd5 hla; obtain ⟨v0, v1, v2⟩ := blk3 HV2.out; have hvl := heap_lt HV2.out; clear hb))
                go_roundw
                case rel => exact ⟨j, dc, by go_num, Lib.hid (by have := HJI.out; omega), HBA, HO2, HB2⟩
                case measure => simp [intOf]
              · have q0 : (ch == 0) = false := by simpa using h0
                clear h0 hg
                go_wp2_with (go_at_call 17; go_loud (refine (HC.out _).mono ?_; rintro en w2 ⟨rfl, hb⟩; have HV2 := Lib.hid ((hb.block _ (by simp)).trans (World.alloc_heap_new _ _)); have hb := hop1 ((Below.refl wr.heap.size wr).alloc (Nat.le_refl _) _) hb; have HO2 := Lib.hid (HO4.out.below hb); have HB2 := Lib.hid (hop1 HB.out hb); clear a0 a1 a2 a3 a4 a5 fa0 fa1 fa2 fa3 fa4 fa5 b0 b1 b2 b3 b4 b5 fb0 fb1 fb2 fb3 fb4 fb5 c0 c1 c2 c3 c4 c5 fc0 fc1 fc2 fc3 fc4 fc5 d0 d1 d2 d3 d4 d5 fd0 fd1 fd2 fd3 fd4 fd5 hla; obtain ⟨v0, v1, v2⟩ := blk3 HV2.out; have hvl := heap_lt HV2.out; clear hb))
                go_roundw
                case rel => exact ⟨j, dc, by go_num, Lib.hid (by have := HJI.out; omega), HBA, HO2, HB2⟩
                case measure => simp [intOf]
end Go.Proofs.Ytihgcfokenabgaa
