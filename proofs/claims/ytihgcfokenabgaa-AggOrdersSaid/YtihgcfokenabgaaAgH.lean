/- Layer 15: the laws AggKinds, AggAdds, AggBoth, walked. -/
import Derived.Test.YtihgcfokenabgaaAgG
namespace Go.Proofs.Ytihgcfokenabgaa
open Go Go.ChangeShapes Go.WideShapes Go.ChangeAt Go.RowKit
set_option linter.unusedVariables false
set_option linter.unusedSimpArgs false
theorem kinds_walk (kind col : Int) (w : World) :
    Calls Try.prog 3 #[.int .i64 kind, .int .i64 col] w fun e w' => e = .returned (.bool true) ∧ Below w.heap.size w w' := by
  have HA := Lib.hid (fun W => akind_any kind col W)
  have HR := Lib.hid (fun W => rkind_any kind col W)
  obtain ⟨p, hp⟩ : ∃ p, ofA kind col = p := ⟨_, rfl⟩
  obtain ⟨k, e⟩ := p
  simp only [hp] at HA HR
  clear hp
  go_enter Try.func3, Try.ntmps3
  go_wp2_with (first
    | (go_at_call 8; go_loud (refine (alive_any _).mono ?_; rintro en w1 ⟨rfl, hb1⟩; have HB1 := Lib.hid hb1; clear hb1))
    | (go_at_call 9; go_loud (refine (HA.out _).mono ?_; rintro en w2 ⟨rfl, hb2⟩; have HB2 := Lib.hid (hop1 HB1.out hb2); clear hb2))
    | (go_at_call 10; go_loud (refine (HR.out _).mono ?_; rintro en w3 ⟨rfl, rfl⟩)))
  go_ret
  exact ⟨by simp, HB2.out⟩
set_option maxRecDepth 100000 in
theorem adds_walk (kind : Int) (a : Ac) (v : V) (ha : a.wf) (hv : v.wf) (w : World) :
    Calls Try.prog 4 #[.int .i64 kind, a.V, v.val] w fun e w' => e = .returned (.bool true) ∧ Below w.heap.size w w' := by
  have HA := Lib.hid (fun W => aadd_any kind a v ha.2.2 hv W)
  have HR := Lib.hid (fun W => radd_any kind a v ha.2.2 hv W)
  obtain ⟨p, hp⟩ : ∃ p, addA kind a v = p := ⟨_, rfl⟩
  obtain ⟨r, e⟩ := p
  simp only [hp] at HA HR
  obtain ⟨W1, hW1⟩ : ∃ W1, (w.alloc (.cells #[.int .i64 a.n, .int .i64 (hiZ a.x), .int .u64 (loZ a.x), .int .i64 a.b.k, .int .i64 a.b.n, .string a.b.s] 35)).alloc (.cells #[.int .i64 v.k, .int .i64 v.n, .string v.s] 33) = W1 := ⟨_, rfl⟩
  have HB0 : Hid (Below w.heap.size w W1) := Lib.hid (by rw [← hW1]; exact ((Below.refl _ _).alloc (Nat.le_refl _) _).alloc (by simp) _)
  have HQ : Hid (W1.heap[w.heap.size]? = some (.cells #[.int .i64 a.n, .int .i64 (hiZ a.x), .int .u64 (loZ a.x), .int .i64 a.b.k, .int .i64 a.b.n, .string a.b.s] 35)) := Lib.hid (by rw [← hW1]; exact (Below.heap_alloc _ _ _ (by simp)).trans (World.alloc_heap_new w _))
  have HV : Hid (W1.heap[w.heap.size + 1]? = some (.cells #[.int .i64 v.k, .int .i64 v.n, .string v.s] 33)) := Lib.hid (by
    rw [← hW1]
    have := World.alloc_heap_new (w.alloc (.cells #[.int .i64 a.n, .int .i64 (hiZ a.x), .int .u64 (loZ a.x), .int .i64 a.b.k, .int .i64 a.b.n, .string a.b.s] 35)) (.cells #[.int .i64 v.k, .int .i64 v.n, .string v.s] 33)
    rwa [World.size_alloc] at this)
  unfold Ac.V V.val at HA HR ⊢
  clear hp ha hv
  go_enter Try.func4, Try.ntmps4
  go_wp2_with (first
    | (go_at_call 8; go_loud (refine (alive_any _).mono ?_; rintro en w1 ⟨rfl, hb1⟩; have HB1 := Lib.hid (hop1 HB0.out hb1); have HQ1 := Lib.hid ((hb1.block _ (heap_lt HQ.out)).trans HQ.out); have HV1 := Lib.hid ((hb1.block _ (heap_lt HV.out)).trans HV.out); obtain ⟨⟨a0, a1, a2, a3, a4, a5⟩, _⟩ := blk6 HQ1.out; obtain ⟨v0, v1, v2⟩ := blk3 HV1.out; clear hb1))
    | (go_at_call 11; go_loud (refine (HA.out _).mono ?_; rintro en w2 ⟨rfl, hb2⟩; have HB2 := Lib.hid (hop1 HB1.out hb2); have HQ2 := Lib.hid ((hb2.block _ (heap_lt HQ1.out)).trans HQ1.out); have HV2 := Lib.hid ((hb2.block _ (heap_lt HV1.out)).trans HV1.out); clear a0 a1 a2 a3 a4 a5 v0 v1 v2; obtain ⟨⟨a0, a1, a2, a3, a4, a5⟩, _⟩ := blk6 HQ2.out; obtain ⟨v0, v1, v2⟩ := blk3 HV2.out; have l0 := heap_lt HQ2.out; have l1 := heap_lt HV2.out; clear hb2))
    | (go_at_call 12; go_loud (refine (HR.out _).mono ?_; rintro en w3 ⟨rfl, hb3⟩; have HB3 := Lib.hid (hop1 HB2.out (hop1 ((Below.refl _ _).alloc (Nat.le_refl _) _) hb3)); have HO3 := Lib.hid ((hb3.block _ (by simp)).trans (World.alloc_heap_new _ _)); obtain ⟨⟨o0, o1, o2, o3, o4, o5⟩, _⟩ := blk6 HO3.out; have l2 := heap_lt HO3.out; clear hb3)))
  go_ret
  exact ⟨by simp, HB3.out.alloc HB3.out.size _⟩
set_option maxRecDepth 100000 in
theorem aggboth_walk (kind : Int) (a c : Ac) (ha : a.wf) (hc : c.wf) (w : World) :
    Calls Try.prog 5 #[.int .i64 kind, a.V, c.V] w fun e w' => e = .returned (.bool true) ∧ Below w.heap.size w w' := by
  have HA := Lib.hid (fun W => aboth_any kind a c ha.2.2 hc.2.2 W)
  have HR := Lib.hid (fun W => rboth_any kind a c ha.2.2 hc.2.2 W)
  have HW := Lib.hid (fun W => aworth_any kind a ha.2.1 W)
  have HRW := Lib.hid (fun W => rworth_any kind a ha.2.1 W)
  obtain ⟨p, hp⟩ : ∃ p, bothA kind a c = p := ⟨_, rfl⟩
  obtain ⟨r, e⟩ := p
  simp only [hp] at HA HR
  obtain ⟨p, hq⟩ : ∃ p, worthA kind a = p := ⟨_, rfl⟩
  obtain ⟨x, g⟩ := p
  simp only [hq] at HW HRW
  obtain ⟨W1, hW1⟩ : ∃ W1, (w.alloc (.cells #[.int .i64 a.n, .int .i64 (hiZ a.x), .int .u64 (loZ a.x), .int .i64 a.b.k, .int .i64 a.b.n, .string a.b.s] 35)).alloc (.cells #[.int .i64 c.n, .int .i64 (hiZ c.x), .int .u64 (loZ c.x), .int .i64 c.b.k, .int .i64 c.b.n, .string c.b.s] 35) = W1 := ⟨_, rfl⟩
  have HB0 : Hid (Below w.heap.size w W1) := Lib.hid (by rw [← hW1]; exact ((Below.refl _ _).alloc (Nat.le_refl _) _).alloc (by simp) _)
  have HQ : Hid (W1.heap[w.heap.size]? = some (.cells #[.int .i64 a.n, .int .i64 (hiZ a.x), .int .u64 (loZ a.x), .int .i64 a.b.k, .int .i64 a.b.n, .string a.b.s] 35)) := Lib.hid (by rw [← hW1]; exact (Below.heap_alloc _ _ _ (by simp)).trans (World.alloc_heap_new w _))
  have HV : Hid (W1.heap[w.heap.size + 1]? = some (.cells #[.int .i64 c.n, .int .i64 (hiZ c.x), .int .u64 (loZ c.x), .int .i64 c.b.k, .int .i64 c.b.n, .string c.b.s] 35)) := Lib.hid (by
    rw [← hW1]
    have := World.alloc_heap_new (w.alloc (.cells #[.int .i64 a.n, .int .i64 (hiZ a.x), .int .u64 (loZ a.x), .int .i64 a.b.k, .int .i64 a.b.n, .string a.b.s] 35)) (.cells #[.int .i64 c.n, .int .i64 (hiZ c.x), .int .u64 (loZ c.x), .int .i64 c.b.k, .int .i64 c.b.n, .string c.b.s] 35)
    rwa [World.size_alloc] at this)
  unfold Ac.V at HA HR HW HRW ⊢
  unfold V.val at HW HRW
  clear hp hq ha hc
  go_enter Try.func5, Try.ntmps5
  go_wp2_with (first
    | (go_at_call 8; go_loud (refine (alive_any _).mono ?_; rintro en w1 ⟨rfl, hb1⟩; have HB1 := Lib.hid (hop1 HB0.out hb1); have HQ1 := Lib.hid ((hb1.block _ (heap_lt HQ.out)).trans HQ.out); have HV1 := Lib.hid ((hb1.block _ (heap_lt HV.out)).trans HV.out); obtain ⟨⟨a0, a1, a2, a3, a4, a5⟩, _⟩ := blk6 HQ1.out; obtain ⟨⟨v0, v1, v2, v3, v4, v5⟩, _⟩ := blk6 HV1.out; clear hb1))
    | (go_at_call 13; go_loud (refine (HA.out _).mono ?_; rintro en w2 ⟨rfl, hb2⟩; have HB2 := Lib.hid (hop1 HB1.out hb2); have HQ2 := Lib.hid ((hb2.block _ (heap_lt HQ1.out)).trans HQ1.out); have HV2 := Lib.hid ((hb2.block _ (heap_lt HV1.out)).trans HV1.out); clear a0 a1 a2 a3 a4 a5 v0 v1 v2 v3 v4 v5; obtain ⟨⟨a0, a1, a2, a3, a4, a5⟩, _⟩ := blk6 HQ2.out; obtain ⟨⟨v0, v1, v2, v3, v4, v5⟩, _⟩ := blk6 HV2.out; have l0 := heap_lt HQ2.out; have l1 := heap_lt HV2.out; clear hb2))
    | (go_at_call 14; go_loud (refine (HR.out _).mono ?_; rintro en w3 ⟨rfl, hb3⟩; have HO3 := Lib.hid ((hb3.block _ (by simp)).trans (World.alloc_heap_new _ _)); have hc3 := hop1 ((Below.refl _ _).alloc (Nat.le_refl _) _) hb3; have HB3 := Lib.hid (hop1 HB2.out hc3); have HQ3 := Lib.hid ((hc3.block _ (heap_lt HQ2.out)).trans HQ2.out); clear a0 a1 a2 a3 a4 a5 v0 v1 v2 v3 v4 v5 l1 l0 hb3 hc3; obtain ⟨⟨a0, a1, a2, a3, a4, a5⟩, _⟩ := blk6 HQ3.out; have l0 := heap_lt HQ3.out))
    | (go_at_call 15; go_loud (refine (HW.out _).mono ?_; rintro en w4 ⟨rfl, hb4⟩; have HD4 := Lib.hid ((hb4.block _ (by simp)).trans (World.alloc_heap_new _ _)); have hc4 := hop1 ((Below.refl _ _).alloc (Nat.le_refl _) _) hb4; have HB4 := Lib.hid (hop1 HB3.out hc4); have HQ4 := Lib.hid ((hc4.block _ (heap_lt HQ3.out)).trans HQ3.out); have HO4 := Lib.hid ((hc4.block _ (heap_lt HO3.out)).trans HO3.out); clear a0 a1 a2 a3 a4 a5 l0 hb4 hc4; obtain ⟨⟨a0, a1, a2, a3, a4, a5⟩, _⟩ := blk6 HQ4.out; have l0 := heap_lt HQ4.out))
    | (go_at_call 16; go_loud (refine (HRW.out _).mono ?_; rintro en w5 ⟨rfl, hb5⟩; have HV5 := Lib.hid ((hb5.block _ (by simp)).trans (World.alloc_heap_new _ _)); have hc5 := hop1 ((Below.refl _ _).alloc (Nat.le_refl _) _) hb5; have HB5 := Lib.hid (hop1 HB4.out hc5); have HO5 := Lib.hid ((hc5.block _ (heap_lt HO4.out)).trans HO4.out); have HD5 := Lib.hid ((hc5.block _ (heap_lt HD4.out)).trans HD4.out); clear a0 a1 a2 a3 a4 a5 l0 hb5 hc5; obtain ⟨⟨o0, o1, o2, o3, o4, o5⟩, _⟩ := blk6 HO5.out; obtain ⟨⟨d0, d1, d2, d3, d4, d5⟩, _⟩ := blk6 HD5.out; obtain ⟨v0, v1, v2⟩ := blk3 HV5.out; have l0 := heap_lt HO5.out; have l1 := heap_lt HD5.out; have l2 := heap_lt HV5.out)))
  go_ret
  exact ⟨by simp, HB5.out.alloc HB5.out.size _⟩
end Go.Proofs.Ytihgcfokenabgaa
