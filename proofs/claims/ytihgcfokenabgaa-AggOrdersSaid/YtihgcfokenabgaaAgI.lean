/- Layer 15: the law AggPacks, walked. -/
import Derived.Test.YtihgcfokenabgaaAgH
namespace Go.Proofs.Ytihgcfokenabgaa
open Go Go.ChangeShapes Go.WideShapes Go.ChangeAt Go.RowKit
set_option linter.unusedVariables false
set_option linter.unusedSimpArgs false
theorem in64_of {n : Int} (h : In64 n) : in64 n := h
theorem pack_wf {a : Ac} (ha : a.wf) : ∀ v ∈ packA a, v.wf := by
  intro v hv
  simp only [packA, List.mem_cons, List.not_mem_nil, or_false] at hv
  have he : ((⟨#[]⟩ : ByteArray).size : Nat) ≤ 9223372036854775807 := by decide
  rcases hv with rfl | rfl | rfl | rfl
  · exact ⟨by unfold intA in64; dsimp only; omega, ha.1, he⟩
  · exact ⟨by unfold intA in64; dsimp only; omega, hiZ_in a.x, he⟩
  · exact ⟨by unfold intA in64; dsimp only; omega, wrap_lo_in a.x, he⟩
  · exact ha.2.2
theorem okI_int (n : Int) : okI (intA n) := ⟨rfl, rfl⟩
theorem wrap_lo (x : Int) : IntKind.u64.wrap (wrap64 (loZ x)) = loZ x := by
  unfold wrap64 loZ; rw [IntKind.wrap_u64]; omega
theorem unpack_pack (a : Ac) : unpackA (packA a) = if chk a.b = 0 then (⟨a.n, ofParts (hiZ a.x) (loZ a.x), a.b⟩, true) else (zeroA, false) := by
  unfold packA
  rw [unpackA_4]
  by_cases h : chk a.b = 0
  · rw [if_pos ⟨h, okI_int _, okI_int _, okI_int _⟩, if_pos h]
    show (_, _) = (_, _)
    unfold intA
    dsimp only
    rw [wrap_lo]
  · rw [if_neg (fun h2 => h h2.1), if_neg h]
theorem parts_V (a : Ac) : Ac.V ⟨a.n, ofParts (hiZ a.x) (loZ a.x), a.b⟩ = a.V := by
  unfold Ac.V
  dsimp only
  rw [hi_parts (hiZ_in a.x) (loZ_nonneg a.x) (loZ_le a.x), lo_parts (loZ_nonneg a.x) (loZ_le a.x)]
theorem errU_t : errU true = 0 := rfl
theorem errU_f : errU false = 151 := rfl
set_option maxHeartbeats 4000000 in
set_option maxRecDepth 100000 in
theorem packs_walk (a : Ac) (ha : a.wf) (l : List V) (hw : ∀ v ∈ l, v.wf) (n c : Nat) (A : Option Addr) (w : World) (hl : n = l.length) (hn : n ≤ maxLen) (hA : Row3 w w.heap.size A l) :
    Calls Try.prog 7 #[a.V, .slice A n c] w fun e w' => e = .returned (.bool true) ∧ Below w.heap.size w w' := by
  obtain ⟨W1, hW1⟩ : ∃ W1, w.alloc (.cells #[.int .i64 a.n, .int .i64 (hiZ a.x), .int .u64 (loZ a.x), .int .i64 a.b.k, .int .i64 a.b.n, .string a.b.s] 35) = W1 := ⟨_, rfl⟩
  have HB0 : Hid (Below w.heap.size w W1) := Lib.hid (by rw [← hW1]; exact (Below.refl _ _).alloc (Nat.le_refl _) _)
  have HQ : Hid (W1.heap[w.heap.size]? = some (.cells #[.int .i64 a.n, .int .i64 (hiZ a.x), .int .u64 (loZ a.x), .int .i64 a.b.k, .int .i64 a.b.n, .string a.b.s] 35)) := Lib.hid (by rw [← hW1]; exact World.alloc_heap_new w _)
  have HBG := Lib.hid (fun (W : World) (hb : Below w.heap.size w W) => big_any l hw n c A W hl hn ((hA.below hb).more hb.size))
  obtain ⟨bg, hbg⟩ : ∃ b, bigB l = b := ⟨_, rfl⟩
  simp only [hbg] at HBG
  have HUP := Lib.hid (fun (W : World) (hb : Below w.heap.size w W) => aunpack_any l hw n c A W hl ((hA.below hb).more hb.size))
  have HRU := Lib.hid (fun (W : World) (hb : Below w.heap.size w W) => runpack_any l hw n c A W hl ((hA.below hb).more hb.size))
  obtain ⟨u, hu⟩ : ∃ u, unpackA l = u := ⟨_, rfl⟩
  obtain ⟨r, ok⟩ := u
  simp only [hu] at HUP HRU
  have HP := Lib.hid (fun W => apack_any a W)
  have HRP := Lib.hid (fun W => rpack_any a W)
  have HSM := Lib.hid (fun (c1 : Nat) (A1 A2 : Option Addr) (W : World) (h1 : Row3 W W.heap.size A1 (packA a)) (h2 : Row3 W W.heap.size A2 (packA a)) => same_any (packA a) (packA a) (pack_wf ha) (pack_wf ha) 4 c1 4 4 A1 A2 W rfl rfl (by unfold maxLen; omega) (by unfold maxLen; omega) h1 h2)
  rw [sameB_self] at HSM
  have HU2 := Lib.hid (fun (c1 : Nat) (A1 : Option Addr) (W : World) (h1 : Row3 W W.heap.size A1 (packA a)) => aunpack_any (packA a) (pack_wf ha) 4 c1 A1 W rfl h1)
  have HC := Lib.hid (fun W => rcheck_any a.b ha.2.2 W)
  obtain ⟨ch, hch⟩ : ∃ b, chk a.b = b := ⟨_, rfl⟩
  have hup := unpack_pack a
  rw [hch] at hup HC
  unfold Ac.V at HUP HRU HP HRP ⊢
  unfold V.val at HC
  clear ha hw hl hn hA hu hbg hch
  obtain ⟨⟨a0, a1, a2, a3, a4, a5⟩, _⟩ := blk6 HQ.out; have l0 := heap_lt HQ.out
  cases bg with
  | true =>
    clear hup
    go_enter Try.func7, Try.ntmps7
    go_wp2_with (first
      | (go_at_call 8; go_loud (refine (alive_any _).mono ?_; rintro en w1 ⟨rfl, hb1⟩; have HB1 := Lib.hid (hop1 HB0.out hb1); clear hb1))
      | (go_at_call 18; go_loud (refine (HBG.out _ HB1.out).mono ?_; rintro en w2 ⟨rfl, rfl⟩)))
    go_ret
    exact ⟨by simp, HB1.out⟩
  | false =>
    by_cases h0 : ch = 0
    · subst h0
      rw [if_pos rfl] at hup
      simp only [hup] at HU2
      rw [parts_V] at HU2
      unfold Ac.V at HU2
      simp only [errU_t] at HU2
      clear hup
      cases ok with
      | true =>
        simp only [errU_t] at HUP
        go_enter Try.func7, Try.ntmps7
        go_wp2_with (first
          | (go_at_call 8; go_loud (refine (alive_any _).mono ?_; rintro en w1 ⟨rfl, hb⟩; have HB1 := Lib.hid (hop1 HB0.out hb); have HQ1 := Lib.hid ((hb.block _ (heap_lt HQ.out)).trans HQ.out); clear a0 a1 a2 a3 a4 a5 l0; obtain ⟨⟨a0, a1, a2, a3, a4, a5⟩, _⟩ := blk6 HQ1.out; have l0 := heap_lt HQ1.out; clear hb))
          | (go_at_call 18; go_loud (refine (HBG.out _ HB1.out).mono ?_; rintro en w2 ⟨rfl, rfl⟩))
          | (go_at_call 19; go_loud (refine (HP.out _).mono ?_; rintro en w3 ⟨A3, c3, rfl, hr3, hb⟩; have HB3 := Lib.hid (hop1 HB1.out hb); have HR3 := Lib.hid hr3; have HQ3 := Lib.hid ((hb.block _ (heap_lt HQ1.out)).trans HQ1.out); clear a0 a1 a2 a3 a4 a5 l0; obtain ⟨⟨a0, a1, a2, a3, a4, a5⟩, _⟩ := blk6 HQ3.out; have l0 := heap_lt HQ3.out; clear hb hr3))
          | (go_at_call 21; go_loud (refine (HRP.out _).mono ?_; rintro en w4 ⟨q4, rfl, hr4, hb⟩; have HB4 := Lib.hid (hop1 HB3.out hb); have HR4 := Lib.hid hr4; have HS4 := Lib.hid ((HR3.out.below hb).more hb.size); have HQ4 := Lib.hid ((hb.block _ (heap_lt HQ3.out)).trans HQ3.out); clear a0 a1 a2 a3 a4 a5 l0; obtain ⟨⟨a0, a1, a2, a3, a4, a5⟩, _⟩ := blk6 HQ4.out; have l0 := heap_lt HQ4.out; clear hb hr4))
          | (go_at_call 20; go_loud (refine (HSM.out _ _ _ _ HS4.out HR4.out).mono ?_; rintro en w5 ⟨rfl, hb⟩; have HB5 := Lib.hid (hop1 HB4.out hb); have HS5 := Lib.hid ((HS4.out.below hb).more hb.size); have HQ5 := Lib.hid ((hb.block _ (heap_lt HQ4.out)).trans HQ4.out); clear a0 a1 a2 a3 a4 a5 l0; obtain ⟨⟨a0, a1, a2, a3, a4, a5⟩, _⟩ := blk6 HQ5.out; have l0 := heap_lt HQ5.out; clear hb))
          | (go_at_call 17; go_loud (refine (HC.out _).mono ?_; rintro en w7 ⟨rfl, hb7⟩; have hb := hop1 ((Below.refl w6.heap.size w6).alloc (Nat.le_refl _) _) hb7; have HO7 := Lib.hid ((hb7.block _ (by simp)).trans (World.alloc_heap_new _ _)); have HB7 := Lib.hid (hop1 HB6.out hb); have HQ7 := Lib.hid ((hb.block _ (heap_lt HQ6.out)).trans HQ6.out); clear a0 a1 a2 a3 a4 a5 l0; obtain ⟨⟨a0, a1, a2, a3, a4, a5⟩, _⟩ := blk6 HQ7.out; have l0 := heap_lt HQ7.out; obtain ⟨⟨o0, o1, o2, o3, o4, o5⟩, _⟩ := blk6 HO7.out; have l1 := heap_lt HO7.out; clear hb hb7))
          | (go_at_call 22; have HSEC := HO7; go_loud (refine (HUP.out _ HB7.out).mono ?_; rintro en w8 ⟨rfl, hb⟩; have HB8 := Lib.hid (hop1 HB7.out hb); clear a0 a1 a2 a3 a4 a5 l0 o0 o1 o2 o3 o4 o5 l1 hb))
          | (go_at_call 22; go_loud (refine (HU2.out _ _ _ HS5.out).mono ?_; rintro en w6 ⟨rfl, hb⟩; have HB6 := Lib.hid (hop1 HB5.out hb); have HQ6 := Lib.hid ((hb.block _ (heap_lt HQ5.out)).trans HQ5.out); clear a0 a1 a2 a3 a4 a5 l0; obtain ⟨⟨a0, a1, a2, a3, a4, a5⟩, _⟩ := blk6 HQ6.out; have l0 := heap_lt HQ6.out; clear hb))
          | (go_at_call 23; go_loud (refine (HRU.out _ (hop1 HB8.out ((Below.refl _ _).alloc (Nat.le_refl _) _))).mono ?_; rintro en w9 ⟨rfl, hb9⟩; have hb := hop1 ((Below.refl w8.heap.size w8).alloc (Nat.le_refl _) _) hb9; have HO9 := Lib.hid ((hb9.block _ (by simp)).trans (World.alloc_heap_new _ _)); have HB9 := Lib.hid (hop1 HB8.out hb); obtain ⟨⟨o0, o1, o2, o3, o4, o5⟩, _⟩ := blk6 HO9.out; have l1 := heap_lt HO9.out; clear hb hb9)))
        go_ret
        exact ⟨by simp, HB9.out.alloc HB9.out.size _⟩
      | false =>
        simp only [errU_f] at HUP
        go_enter Try.func7, Try.ntmps7
        go_wp2_with (first
          | (go_at_call 8; go_loud (refine (alive_any _).mono ?_; rintro en w1 ⟨rfl, hb⟩; have HB1 := Lib.hid (hop1 HB0.out hb); have HQ1 := Lib.hid ((hb.block _ (heap_lt HQ.out)).trans HQ.out); clear a0 a1 a2 a3 a4 a5 l0; obtain ⟨⟨a0, a1, a2, a3, a4, a5⟩, _⟩ := blk6 HQ1.out; have l0 := heap_lt HQ1.out; clear hb))
          | (go_at_call 18; go_loud (refine (HBG.out _ HB1.out).mono ?_; rintro en w2 ⟨rfl, rfl⟩))
          | (go_at_call 19; go_loud (refine (HP.out _).mono ?_; rintro en w3 ⟨A3, c3, rfl, hr3, hb⟩; have HB3 := Lib.hid (hop1 HB1.out hb); have HR3 := Lib.hid hr3; have HQ3 := Lib.hid ((hb.block _ (heap_lt HQ1.out)).trans HQ1.out); clear a0 a1 a2 a3 a4 a5 l0; obtain ⟨⟨a0, a1, a2, a3, a4, a5⟩, _⟩ := blk6 HQ3.out; have l0 := heap_lt HQ3.out; clear hb hr3))
          | (go_at_call 21; go_loud (refine (HRP.out _).mono ?_; rintro en w4 ⟨q4, rfl, hr4, hb⟩; have HB4 := Lib.hid (hop1 HB3.out hb); have HR4 := Lib.hid hr4; have HS4 := Lib.hid ((HR3.out.below hb).more hb.size); have HQ4 := Lib.hid ((hb.block _ (heap_lt HQ3.out)).trans HQ3.out); clear a0 a1 a2 a3 a4 a5 l0; obtain ⟨⟨a0, a1, a2, a3, a4, a5⟩, _⟩ := blk6 HQ4.out; have l0 := heap_lt HQ4.out; clear hb hr4))
          | (go_at_call 20; go_loud (refine (HSM.out _ _ _ _ HS4.out HR4.out).mono ?_; rintro en w5 ⟨rfl, hb⟩; have HB5 := Lib.hid (hop1 HB4.out hb); have HS5 := Lib.hid ((HS4.out.below hb).more hb.size); have HQ5 := Lib.hid ((hb.block _ (heap_lt HQ4.out)).trans HQ4.out); clear a0 a1 a2 a3 a4 a5 l0; obtain ⟨⟨a0, a1, a2, a3, a4, a5⟩, _⟩ := blk6 HQ5.out; have l0 := heap_lt HQ5.out; clear hb))
          | (go_at_call 17; go_loud (refine (HC.out _).mono ?_; rintro en w7 ⟨rfl, hb7⟩; have hb := hop1 ((Below.refl w6.heap.size w6).alloc (Nat.le_refl _) _) hb7; have HO7 := Lib.hid ((hb7.block _ (by simp)).trans (World.alloc_heap_new _ _)); have HB7 := Lib.hid (hop1 HB6.out hb); have HQ7 := Lib.hid ((hb.block _ (heap_lt HQ6.out)).trans HQ6.out); clear a0 a1 a2 a3 a4 a5 l0; obtain ⟨⟨a0, a1, a2, a3, a4, a5⟩, _⟩ := blk6 HQ7.out; have l0 := heap_lt HQ7.out; obtain ⟨⟨o0, o1, o2, o3, o4, o5⟩, _⟩ := blk6 HO7.out; have l1 := heap_lt HO7.out; clear hb hb7))
          | (go_at_call 22; have HSEC := HO7; go_loud (refine (HUP.out _ HB7.out).mono ?_; rintro en w8 ⟨rfl, hb⟩; have HB8 := Lib.hid (hop1 HB7.out hb); clear a0 a1 a2 a3 a4 a5 l0 o0 o1 o2 o3 o4 o5 l1 hb))
          | (go_at_call 22; go_loud (refine (HU2.out _ _ _ HS5.out).mono ?_; rintro en w6 ⟨rfl, hb⟩; have HB6 := Lib.hid (hop1 HB5.out hb); have HQ6 := Lib.hid ((hb.block _ (heap_lt HQ5.out)).trans HQ5.out); clear a0 a1 a2 a3 a4 a5 l0; obtain ⟨⟨a0, a1, a2, a3, a4, a5⟩, _⟩ := blk6 HQ6.out; have l0 := heap_lt HQ6.out; clear hb))
          | (go_at_call 23; go_loud (refine (HRU.out _ (hop1 HB8.out ((Below.refl _ _).alloc (Nat.le_refl _) _))).mono ?_; rintro en w9 ⟨rfl, hb9⟩; have hb := hop1 ((Below.refl w8.heap.size w8).alloc (Nat.le_refl _) _) hb9; have HO9 := Lib.hid ((hb9.block _ (by simp)).trans (World.alloc_heap_new _ _)); have HB9 := Lib.hid (hop1 HB8.out hb); obtain ⟨⟨o0, o1, o2, o3, o4, o5⟩, _⟩ := blk6 HO9.out; have l1 := heap_lt HO9.out; clear hb hb9)))
        go_ret
        exact ⟨by simp, HB9.out.alloc HB9.out.size _⟩
    · rw [if_neg h0] at hup
      simp only [hup] at HU2
      unfold Ac.V at HU2
      simp only [errU_f] at HU2
      have q0 : (ch == 0) = false := by simpa using h0
      clear hup h0
      cases ok with
      | true =>
        simp only [errU_t] at HUP
        go_enter Try.func7, Try.ntmps7
        go_wp2_with (first
          | (go_at_call 8; go_loud (refine (alive_any _).mono ?_; rintro en w1 ⟨rfl, hb⟩; have HB1 := Lib.hid (hop1 HB0.out hb); have HQ1 := Lib.hid ((hb.block _ (heap_lt HQ.out)).trans HQ.out); clear a0 a1 a2 a3 a4 a5 l0; obtain ⟨⟨a0, a1, a2, a3, a4, a5⟩, _⟩ := blk6 HQ1.out; have l0 := heap_lt HQ1.out; clear hb))
          | (go_at_call 18; go_loud (refine (HBG.out _ HB1.out).mono ?_; rintro en w2 ⟨rfl, rfl⟩))
          | (go_at_call 19; go_loud (refine (HP.out _).mono ?_; rintro en w3 ⟨A3, c3, rfl, hr3, hb⟩; have HB3 := Lib.hid (hop1 HB1.out hb); have HR3 := Lib.hid hr3; have HQ3 := Lib.hid ((hb.block _ (heap_lt HQ1.out)).trans HQ1.out); clear a0 a1 a2 a3 a4 a5 l0; obtain ⟨⟨a0, a1, a2, a3, a4, a5⟩, _⟩ := blk6 HQ3.out; have l0 := heap_lt HQ3.out; clear hb hr3))
          | (go_at_call 21; go_loud (refine (HRP.out _).mono ?_; rintro en w4 ⟨q4, rfl, hr4, hb⟩; have HB4 := Lib.hid (hop1 HB3.out hb); have HR4 := Lib.hid hr4; have HS4 := Lib.hid ((HR3.out.below hb).more hb.size); have HQ4 := Lib.hid ((hb.block _ (heap_lt HQ3.out)).trans HQ3.out); clear a0 a1 a2 a3 a4 a5 l0; obtain ⟨⟨a0, a1, a2, a3, a4, a5⟩, _⟩ := blk6 HQ4.out; have l0 := heap_lt HQ4.out; clear hb hr4))
          | (go_at_call 20; go_loud (refine (HSM.out _ _ _ _ HS4.out HR4.out).mono ?_; rintro en w5 ⟨rfl, hb⟩; have HB5 := Lib.hid (hop1 HB4.out hb); have HS5 := Lib.hid ((HS4.out.below hb).more hb.size); have HQ5 := Lib.hid ((hb.block _ (heap_lt HQ4.out)).trans HQ4.out); clear a0 a1 a2 a3 a4 a5 l0; obtain ⟨⟨a0, a1, a2, a3, a4, a5⟩, _⟩ := blk6 HQ5.out; have l0 := heap_lt HQ5.out; clear hb))
          | (go_at_call 17; go_loud (refine (HC.out _).mono ?_; rintro en w7 ⟨rfl, hb7⟩; have hb := hop1 ((Below.refl w6.heap.size w6).alloc (Nat.le_refl _) _) hb7; have HO7 := Lib.hid ((hb7.block _ (by simp)).trans (World.alloc_heap_new _ _)); have HB7 := Lib.hid (hop1 HB6.out hb); have HQ7 := Lib.hid ((hb.block _ (heap_lt HQ6.out)).trans HQ6.out); clear a0 a1 a2 a3 a4 a5 l0; obtain ⟨⟨a0, a1, a2, a3, a4, a5⟩, _⟩ := blk6 HQ7.out; have l0 := heap_lt HQ7.out; obtain ⟨⟨o0, o1, o2, o3, o4, o5⟩, _⟩ := blk6 HO7.out; have l1 := heap_lt HO7.out; clear hb hb7))
          | (go_at_call 22; have HSEC := HO7; go_loud (refine (HUP.out _ HB7.out).mono ?_; rintro en w8 ⟨rfl, hb⟩; have HB8 := Lib.hid (hop1 HB7.out hb); clear a0 a1 a2 a3 a4 a5 l0 o0 o1 o2 o3 o4 o5 l1 hb))
          | (go_at_call 22; go_loud (refine (HU2.out _ _ _ HS5.out).mono ?_; rintro en w6 ⟨rfl, hb⟩; have HB6 := Lib.hid (hop1 HB5.out hb); have HQ6 := Lib.hid ((hb.block _ (heap_lt HQ5.out)).trans HQ5.out); clear a0 a1 a2 a3 a4 a5 l0; obtain ⟨⟨a0, a1, a2, a3, a4, a5⟩, _⟩ := blk6 HQ6.out; have l0 := heap_lt HQ6.out; clear hb))
          | (go_at_call 23; go_loud (refine (HRU.out _ (hop1 HB8.out ((Below.refl _ _).alloc (Nat.le_refl _) _))).mono ?_; rintro en w9 ⟨rfl, hb9⟩; have hb := hop1 ((Below.refl w8.heap.size w8).alloc (Nat.le_refl _) _) hb9; have HO9 := Lib.hid ((hb9.block _ (by simp)).trans (World.alloc_heap_new _ _)); have HB9 := Lib.hid (hop1 HB8.out hb); obtain ⟨⟨o0, o1, o2, o3, o4, o5⟩, _⟩ := blk6 HO9.out; have l1 := heap_lt HO9.out; clear hb hb9)))
        go_ret
        exact ⟨by simp, HB9.out.alloc HB9.out.size _⟩
      | false =>
        simp only [errU_f] at HUP
        go_enter Try.func7, Try.ntmps7
        go_wp2_with (first
          | (go_at_call 8; go_loud (refine (alive_any _).mono ?_; rintro en w1 ⟨rfl, hb⟩; have HB1 := Lib.hid (hop1 HB0.out hb); have HQ1 := Lib.hid ((hb.block _ (heap_lt HQ.out)).trans HQ.out); clear a0 a1 a2 a3 a4 a5 l0; obtain ⟨⟨a0, a1, a2, a3, a4, a5⟩, _⟩ := blk6 HQ1.out; have l0 := heap_lt HQ1.out; clear hb))
          | (go_at_call 18; go_loud (refine (HBG.out _ HB1.out).mono ?_; rintro en w2 ⟨rfl, rfl⟩))
          | (go_at_call 19; go_loud (refine (HP.out _).mono ?_; rintro en w3 ⟨A3, c3, rfl, hr3, hb⟩; have HB3 := Lib.hid (hop1 HB1.out hb); have HR3 := Lib.hid hr3; have HQ3 := Lib.hid ((hb.block _ (heap_lt HQ1.out)).trans HQ1.out); clear a0 a1 a2 a3 a4 a5 l0; obtain ⟨⟨a0, a1, a2, a3, a4, a5⟩, _⟩ := blk6 HQ3.out; have l0 := heap_lt HQ3.out; clear hb hr3))
          | (go_at_call 21; go_loud (refine (HRP.out _).mono ?_; rintro en w4 ⟨q4, rfl, hr4, hb⟩; have HB4 := Lib.hid (hop1 HB3.out hb); have HR4 := Lib.hid hr4; have HS4 := Lib.hid ((HR3.out.below hb).more hb.size); have HQ4 := Lib.hid ((hb.block _ (heap_lt HQ3.out)).trans HQ3.out); clear a0 a1 a2 a3 a4 a5 l0; obtain ⟨⟨a0, a1, a2, a3, a4, a5⟩, _⟩ := blk6 HQ4.out; have l0 := heap_lt HQ4.out; clear hb hr4))
          | (go_at_call 20; go_loud (refine (HSM.out _ _ _ _ HS4.out HR4.out).mono ?_; rintro en w5 ⟨rfl, hb⟩; have HB5 := Lib.hid (hop1 HB4.out hb); have HS5 := Lib.hid ((HS4.out.below hb).more hb.size); have HQ5 := Lib.hid ((hb.block _ (heap_lt HQ4.out)).trans HQ4.out); clear a0 a1 a2 a3 a4 a5 l0; obtain ⟨⟨a0, a1, a2, a3, a4, a5⟩, _⟩ := blk6 HQ5.out; have l0 := heap_lt HQ5.out; clear hb))
          | (go_at_call 17; go_loud (refine (HC.out _).mono ?_; rintro en w7 ⟨rfl, hb7⟩; have hb := hop1 ((Below.refl w6.heap.size w6).alloc (Nat.le_refl _) _) hb7; have HO7 := Lib.hid ((hb7.block _ (by simp)).trans (World.alloc_heap_new _ _)); have HB7 := Lib.hid (hop1 HB6.out hb); have HQ7 := Lib.hid ((hb.block _ (heap_lt HQ6.out)).trans HQ6.out); clear a0 a1 a2 a3 a4 a5 l0; obtain ⟨⟨a0, a1, a2, a3, a4, a5⟩, _⟩ := blk6 HQ7.out; have l0 := heap_lt HQ7.out; obtain ⟨⟨o0, o1, o2, o3, o4, o5⟩, _⟩ := blk6 HO7.out; have l1 := heap_lt HO7.out; clear hb hb7))
          | (go_at_call 22; have HSEC := HO7; go_loud (refine (HUP.out _ HB7.out).mono ?_; rintro en w8 ⟨rfl, hb⟩; have HB8 := Lib.hid (hop1 HB7.out hb); clear a0 a1 a2 a3 a4 a5 l0 o0 o1 o2 o3 o4 o5 l1 hb))
          | (go_at_call 22; go_loud (refine (HU2.out _ _ _ HS5.out).mono ?_; rintro en w6 ⟨rfl, hb⟩; have HB6 := Lib.hid (hop1 HB5.out hb); have HQ6 := Lib.hid ((hb.block _ (heap_lt HQ5.out)).trans HQ5.out); clear a0 a1 a2 a3 a4 a5 l0; obtain ⟨⟨a0, a1, a2, a3, a4, a5⟩, _⟩ := blk6 HQ6.out; have l0 := heap_lt HQ6.out; clear hb))
          | (go_at_call 23; go_loud (refine (HRU.out _ (hop1 HB8.out ((Below.refl _ _).alloc (Nat.le_refl _) _))).mono ?_; rintro en w9 ⟨rfl, hb9⟩; have hb := hop1 ((Below.refl w8.heap.size w8).alloc (Nat.le_refl _) _) hb9; have HO9 := Lib.hid ((hb9.block _ (by simp)).trans (World.alloc_heap_new _ _)); have HB9 := Lib.hid (hop1 HB8.out hb); obtain ⟨⟨o0, o1, o2, o3, o4, o5⟩, _⟩ := blk6 HO9.out; have l1 := heap_lt HO9.out; clear hb hb9)))
        go_ret
        exact ⟨by simp, HB9.out.alloc HB9.out.size _⟩
end Go.Proofs.Ytihgcfokenabgaa
