/- The walks of the code that writes: columns, pairs, values. -/
import Derived.Test.YtkpajmgbiepmbaaCodW
import Derived.Deep.RegionLaw
namespace Go.Proofs.Ytkpajmgbiepmbaa
open Go.ChangeShapes Go.WideShapes Go.ChangeAt Go.RowKit
open Go.Lib (byteCells byteCells_length byteCells_append strCells)
set_option linter.unusedVariables false

theorem hop {w W w2 : World} (h : Below w.heap.size w W) (hb : Below W.heap.size W w2) : Below w.heap.size w w2 := h.trans (hb.mono h.size)
theorem hop2 {w W w2 : World} {A : Option Addr} {n c : Nat} {bs : List UInt8} (h : Below w.heap.size w W) (hb : Below W.heap.size W w2) (hbuf : Buf W.heap.size A n c bs w2) : Below w.heap.size w w2 ∧ Buf w.heap.size A n c bs w2 := ⟨hop h hb, hbuf.more h.size⟩
theorem Buf.new1 (w : World) (o : Obj) (v : Value) (c : UInt8) (h : v = .int .u8 (c.toNat : Int)) : Buf w.heap.size (some ⟨w.heap.size + 1, 0, none⟩) 1 1 [c] ((w.alloc o).alloc (.cells #[v] 5)) := by
  have := Buf.new (w.alloc o) v c h w.heap.size (by simp)
  simpa using this
/-- 'append' of bytes of the call's own, as one step of a region that draws. -/
theorem step_append_buf {ops : Array Oper} {o : Oper} {a : Act} {w : World} {K : Act → World → Prop} {Q : Exit → Act → World → Prop} {E : Prop}
    (hg : o.guard = none) (s x : Operand) (hop : o.op = Op.call { callee := Callee.builtin Builtin.append, args := #[s, x], argTypes := #[27, 27] })
    (B : Nat) (A : Option Addr) (n c : Nat) (bs : List UInt8) (hs : a.eval s = .slice A n c) (hb : Buf B A n c bs w)
    (B2 : Nat) (A2 : Option Addr) (n2 c2 : Nat) (news : List UInt8) (hx : a.eval x = .slice A2 n2 c2) (hb2 : Buf B2 A2 n2 c2 news w) (hpos : 0 < news.length) (hlen : bs.length + news.length ≤ 1099511627776)
    (hK : ∀ A' n' c' w', Buf B A' n' c' (bs ++ news) w' → Keep B w w' → K (a.put o.dst (.slice A' n' c')) w') :
    if Region.wanted o (yielded ops a.tmps) = true then Oper.wp Try.prog o a w K Q else E := by
  have hw : Region.wanted o (yielded ops a.tmps) = true := by simp [Region.wanted, hg]
  rw [if_pos hw]
  obtain ⟨i0, hi, hz0, hz1, hz2⟩ := info_parts infoByte
  obtain ⟨g, cap, rfl, hg, hlt, rfl, hcs⟩ := hb2.cells hpos
  have hn2 := hb2.1
  subst hn2
  obtain ⟨v', w', hrun, r1, r2, _⟩ := run_append_own (P := Try.prog) w B 27 o.type 5 i0 _ 1 1 Try.underlying27 hi hz0 hz1 hz2 rfl (by decide) (.slice A n c) n (byteCells bs) hb.2.2 ⟨g, 0, none⟩ news.length c2 (byteCells news)
    (by rw [byteCells_length, Nat.mul_one]) hcs (byte_one _) (by have := hb.1; unfold maxLen; omega) (by have := hb.1; omega) hb.2.1
  obtain ⟨A', c', rfl⟩ := own_slice r1
  have hk : Keep B w w' := Keep.grown hb r2
  unfold Oper.wp
  simp [execOp, hop, resolve, invoke, builtin, hs, hx, hrun, Result.andThen]
  exact hK A' (n + news.length) c' w' ⟨by rw [hb.1]; simp, Nat.le_trans hb.2.1 hk.size, by rw [byteCells_append]; exact r1⟩ hk

set_option maxHeartbeats 1000000 in
theorem pair_walk (p : Pa) (hs : p.s.size ≤ 274877906944) (ht : p.t.size ≤ 274877906944) (w : World) : Calls Try.prog 46 #[.agg #[.string p.s, .string p.t]] w (BufPost (pairL p) w) := by
  obtain ⟨s, t⟩ := p
  simp only at hs ht ⊢
  have hs2 : s.size ≤ 549755813888 := by omega
  have ht2 : t.size ≤ 549755813888 := by omega
  have hl : Hid ((wordL s).length + (wordL t).length ≤ 1099511627776) := Lib.hid (by
    unfold wordL
    have := numL_len64 (show s.size < 18446744073709551616 by omega)
    have := numL_len64 (show t.size < 18446744073709551616 by omega)
    rw [List.length_append, List.length_append, ← size_eq, ← size_eq]
    omega)
  have hp : Hid (0 < (wordL t).length) := Lib.hid (word_codec.pos t (by omega))
  clear hs ht
  go_enter Try.func46, Try.ntmps46
  go_wp2
  go_region_law (first | (refine step_append_buf rfl _ _ rfl w.heap.size _ _ _ (wordL s) rfl (by assumption) w.heap.size _ _ _ (wordL t) rfl (by assumption) hp.out hl.out ?_; intro A' n' c' w4 hb4 hk4) | (go_simp; go_at_call 68; refine (text_walk _ (by assumption) _).mono ?_; rintro e w2 ⟨A, k, c, rfl, hb, hbel⟩; obtain ⟨hB2, hb'⟩ := hop2 (w := w) (by first | assumption | exact ((Below.refl _ w).alloc (Nat.le_refl _) _).drew | exact ((Below.refl _ w).alloc (Nat.le_refl _) _)) hbel hb; have c0 := later_cell (a := ⟨w.heap.size, 0, none⟩) (v := .string s) hbel (by first | assumption | simp [go_sem]); have c1 := later_cell (a := ⟨w.heap.size, 1, none⟩) (v := .string t) hbel (by first | assumption | simp [go_sem]); try (have hbo := Buf.below (B := w.heap.size) (by assumption) hbel)))
  all_goals
    clear c0 c1
    go_wp2
    go_ret
    exact ⟨_, _, _, rfl, hb4, hB2.trans hk4.below⟩

set_option maxHeartbeats 1000000 in
theorem col_walk (p : Co) (hs : p.s.size ≤ 274877906944) (hk0 : 0 ≤ p.k) (hk1 : p.k ≤ 255) (w : World) : Calls Try.prog 43 #[.agg #[.string p.s, .int .i64 p.k]] w (BufPost (colL p) w) := by
  obtain ⟨s, t⟩ := p
  simp only at hs hk0 hk1 ⊢
  obtain ⟨x, rfl⟩ : ∃ x : UInt8, t = (x.toNat : Int) := ⟨UInt8.ofNat t.toNat, by rw [ofNat_toNat (by omega)]; omega⟩
  have hs2 : s.size ≤ 549755813888 := by omega
  have hl : Hid ((wordL s).length + [x].length ≤ 1099511627776) := Lib.hid (by
    unfold wordL
    have := numL_len64 (show s.size < 18446744073709551616 by omega)
    rw [List.length_append, ← size_eq, List.length_singleton]
    omega)
  have he : Hid (colL ⟨s, (x.toNat : Int)⟩ = wordL s ++ [x]) := Lib.hid (by unfold colL; simp)
  have h3 : IntKind.u8.wrap (x.toNat : Int) = (x.toNat : Int) := by have := x.toNat_lt; rw [IntKind.wrap_u8]; omega
  rw [he.out]
  clear hs hk0 hk1 he
  go_enter Try.func43, Try.ntmps43
  go_wp2
  go_region_law (first | (refine step_append_buf rfl _ _ rfl w.heap.size _ _ _ (wordL s) rfl (by first | assumption | exact Buf.alloc (by assumption) _) w.heap.size _ _ _ [x] rfl (by first | assumption | exact Buf.new _ _ x rfl _ (Below.size (by assumption))) (by simp) hl.out ?_; intro A' n' c' w4 hb4 hk4) | (go_simp; go_at_call 68; refine (text_walk _ (by assumption) _).mono ?_; rintro e w2 ⟨A, k, c, rfl, hb, hbel⟩; obtain ⟨hB2, hb'⟩ := hop2 (w := w) (by first | exact ((Below.refl _ w).alloc (Nat.le_refl _) _).drew | exact (((Below.refl _ w).alloc (Nat.le_refl _) _).alloc (by simp) _).drew) hbel hb; have c0 := later_cell (a := ⟨w.heap.size, 0, none⟩) (v := .string s) hbel (by simp [go_sem]); have c1 := later_cell (a := ⟨w.heap.size, 1, none⟩) (v := .int .i64 (x.toNat : Int)) hbel (by simp [go_sem]); try (have hx2 := Buf.below (Buf.drew (Buf.new1 w _ _ x rfl)) hbel)))
  all_goals
    clear c0 c1
    go_wp2
    go_ret
    first | exact ⟨_, _, _, rfl, hb4, hB2.trans hk4.below⟩ | exact ⟨_, _, _, rfl, hb4, (hB2.alloc hB2.size _).trans hk4.below⟩

theorem Hid.keep {p : Prop} (h : p) : Hid p := h
set_option maxHeartbeats 2000000 in
theorem value_walk (v : V) (hv : okV v) (w : World) : Calls Try.prog 66 #[.agg #[.int .i64 v.k, .int .i64 v.n, .string v.s]] w (BufPost (valL v) w) := by
  obtain ⟨k, n, s⟩ := v
  obtain ⟨hc, wk, wn, ws⟩ := hv
  simp only at wk wn ws
  rcases chk_kinds hc with ⟨h1, h2, h3⟩ | ⟨h1, h3⟩ | ⟨h1, h2, h3⟩ | ⟨h1, h2, h3⟩
  · simp only at h1 h2 h3
    subst h1 h2
    have he : Hid (valL ⟨0, 0, s⟩ = [0]) := Lib.hid (by simp [valL])
    dsimp only
    rw [he.out]
    clear he hc wk wn ws h3
    go_enter Try.func66, Try.ntmps66
    go_wp2
    go_ret
    exact ⟨_, _, _, rfl, Buf.new1 w _ _ 0 rfl, ((Below.refl _ w).alloc (Nat.le_refl _) _).alloc (by simp) _⟩
  · simp only at h1 h3
    subst h1
    have he : Hid (valL ⟨1, n, s⟩ = [1] ++ intL n) := Lib.hid (by simp [valL])
    have hl : Hid ([(1 : UInt8)].length + (intL n).length ≤ 1099511627776) := Lib.hid (by have := numL_len64 (zig_lt wn); unfold intL; rw [List.length_singleton]; omega)
    have hp : Hid (0 < (intL n).length) := Lib.hid (numL_pos _)
    have HC := Lib.hid (fun w => int_walk n wn w)
    dsimp only
    rw [he.out]
    clear he hc wk wn ws h3
    go_enter Try.func66, Try.ntmps66
    go_wp2_with (first | (go_at_call 48; refine (HC.out _).mono ?_; rintro e w2 ⟨A, k, c, rfl, hb, hbel⟩; have HB := Lib.hid hb; have HO := Lib.hid ((Buf.new1 w _ _ 1 rfl).below hbel); have HBel := Lib.hid (hop (((Below.refl _ w).alloc (Nat.le_refl _) _).alloc (by simp) _) hbel); clear hb hbel) | (at_builtin; go_loud (refine append_buf rfl _ _ rfl w.heap.size _ _ _ [1] rfl _ HO.out _ _ _ _ _ rfl HB.out hp.out hl.out ?_); intro A1 n1 c1 w1 hb1 hk1 hg1; have H1 := Lib.hid hb1; have K1 := Lib.hid (HBel.out.trans hk1.below); clear hb1 hk1 hg1))
    go_ret
    exact ⟨A1, _, c1, rfl, H1.out, K1.out⟩
  · simp only at h1 h2 h3
    subst h1
    obtain ⟨x, hx, hxn⟩ : ∃ x : UInt8, n = (x.toNat : Int) ∧ x.toNat ≤ 1 := by
      rcases h2 with h | h
      · exact ⟨0, by rw [h]; rfl, by decide⟩
      · exact ⟨1, by rw [h]; rfl, by decide⟩
    subst hx
    have he : Hid (valL ⟨2, (x.toNat : Int), s⟩ = [2] ++ [x]) := Lib.hid (by simp [valL])
    have h4 : IntKind.u8.wrap (x.toNat : Int) = (x.toNat : Int) := by rw [IntKind.wrap_u8]; omega
    dsimp only
    rw [he.out]
    clear he hc wk wn ws h3 h2
    go_enter Try.func66, Try.ntmps66
    go_wp2_with (at_builtin; go_loud (refine append_bytes rfl _ _ rfl w.heap.size _ _ _ [2] rfl _ [x] 1 (Buf.new1 w _ _ 2 rfl) _ rfl (by simp) rfl [_] rfl (by simp) ?_); intro A1 n1 c1 w1 hn1 hb1 hk1; have H1 := Lib.hid hb1; have K1 := Lib.hid ((((Below.refl _ w).alloc (Nat.le_refl _) _).alloc (by simp) _).trans hk1.below); clear hb1 hk1; subst hn1)
    go_ret
    exact ⟨A1, _, c1, rfl, H1.out, K1.out⟩
  · simp only at h1 h2 h3
    subst h1 h2
    have he : Hid (valL ⟨3, 0, s⟩ = [3] ++ wordL s) := Lib.hid (by simp [valL])
    have hl : Hid ([(1 : UInt8)].length + (wordL s).length ≤ 1099511627776) := Lib.hid (by have := numL_len64 (show s.size < 18446744073709551616 by omega); unfold wordL; rw [List.length_singleton, List.length_append, ← size_eq]; omega)
    have hp : Hid (0 < (wordL s).length) := Lib.hid (word_codec.pos s (by omega))
    have HC := Lib.hid (fun w => text_walk s (by omega) w)
    dsimp only
    rw [he.out]
    clear he hc wk wn ws
    go_enter Try.func66, Try.ntmps66
    go_wp2_with (first | (go_at_call 68; refine (HC.out _).mono ?_; rintro e w2 ⟨A, k, c, rfl, hb, hbel⟩; have HB := Lib.hid hb; have HO := Lib.hid ((Buf.new1 w _ _ 3 rfl).below hbel); have HBel := Lib.hid (hop (((Below.refl _ w).alloc (Nat.le_refl _) _).alloc (by simp) _) hbel); clear hb hbel) | (at_builtin; go_loud (refine append_buf rfl _ _ rfl w.heap.size _ _ _ [3] rfl _ HO.out _ _ _ _ _ rfl HB.out hp.out hl.out ?_); intro A1 n1 c1 w1 hb1 hk1 hg1; have H1 := Lib.hid hb1; have K1 := Lib.hid (HBel.out.trans hk1.below); clear hb1 hk1 hg1))
    go_ret
    exact ⟨A1, _, c1, rfl, H1.out, K1.out⟩
end Go.Proofs.Ytkpajmgbiepmbaa
