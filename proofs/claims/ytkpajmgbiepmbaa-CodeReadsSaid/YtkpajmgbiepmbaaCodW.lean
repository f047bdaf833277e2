/- The walks of the code that writes: ints, texts, columns, pairs, values. -/
import Derived.Test.YtkpajmgbiepmbaaCodRnum
import Derived.Test.YtkpajmgbiepmbaaCodUn
namespace Go.Proofs.Ytkpajmgbiepmbaa
open Go.ChangeShapes Go.WideShapes Go.ChangeAt Go.RowKit
open Go.Lib (byteCells byteCells_length byteCells_append strCells)
set_option linter.unusedVariables false

theorem Buf.new (w : World) (v : Value) (c : UInt8) (h : v = .int .u8 (c.toNat : Int)) (B : Nat) (hB : B ≤ w.heap.size) : Buf B (some ⟨w.heap.size, 0, none⟩) 1 1 [c] (w.alloc (.cells #[v] 5)) := by
  subst h
  refine ⟨rfl, Nat.le_trans hB (by simp), rfl, .inr ⟨w.heap.size, 1, #[.int .u8 (c.toNat : Int)], rfl, hB, World.alloc_heap_new _ _, Nat.le_refl _, by decide, rfl, rfl⟩⟩
theorem Buf.cells {B : Nat} {A : Option Addr} {n c : Nat} {bs : List UInt8} {w : World} (h : Buf B A n c bs w) (hp : 0 < bs.length) : ∃ g cap, A = some ⟨g, 0, none⟩ ∧ B ≤ g ∧ g < w.heap.size ∧ c = cap ∧ ∀ j u, (byteCells bs)[j]? = some u → w.cell? ((⟨g, 0, none⟩ : Addr).add j) = some u := by
  obtain ⟨g, cap, hv, hg, hlt⟩ := h.2.2.form (by have := h.1; omega)
  have hcs := h.2.2.cells (g := g) (by rw [hv]; rfl)
  injection hv with h1 h2 h3
  exact ⟨g, cap, h1, hg, hlt, h3, hcs⟩
theorem BytesAt.buf {B : Nat} {A : Option Addr} {n c : Nat} {bs : List UInt8} {w : World} (h : Buf B A n c bs w) : BytesAt w w.heap.size A bs := by
  intro j hj
  obtain ⟨g, cap, rfl, hg, hlt, _, hcs⟩ := h.cells (by omega)
  have := hcs j (.int .u8 (bs[j].toNat : Int)) (by simp [byteCells, List.getElem?_eq_getElem hj])
  rw [add_at] at this
  exact ⟨g, 0, rfl, hlt, this⟩

/-- 'b = append(b, x...)' of other bytes of the call's own. -/
theorem append_buf {ops : Array Oper} {rest : List Oper} {o : Oper} {a : Act} {Q : Exit → Act → World → Prop} (hgd : o.guard = none) (s x : Operand)
    (ho : o.op = .call { callee := .builtin .append, args := #[s, x], argTypes := #[27, 27] })
    (B : Nat) (A : Option Addr) (n c : Nat) (bs : List UInt8) (hs : a.eval s = .slice A n c) (w0 : World) (hb : Buf B A n c bs w0)
    (B2 : Nat) (A2 : Option Addr) (n2 c2 : Nat) (news : List UInt8) (hx : a.eval x = .slice A2 n2 c2) (hb2 : Buf B2 A2 n2 c2 news w0) (hpos : 0 < news.length) (hlen : bs.length + news.length ≤ 1099511627776)
    (h : ∀ A' n' c' w', Buf B A' n' c' (bs ++ news) w' → Keep B w0 w' → w0.grownBy w' (Value.ownBlock (.slice A n c)) → wpList Try.prog ops Q rest (a.put o.dst (.slice A' n' c')) w') :
    wpList Try.prog ops Q (o :: rest) a w0 := by
  obtain ⟨i0, hi, hz0, hz1, hz2⟩ := info_parts infoByte
  obtain ⟨g, cap, rfl, hg, hlt, rfl, hcs⟩ := hb2.cells hpos
  have hn2 := hb2.1
  subst hn2
  refine wpList_append_own_at _ hgd s x 27 ho B 5 i0 _ 1 1 Try.underlying27 hi hz0 hz1 hz2 rfl (by decide) (.slice A n c) n (byteCells bs) hs hb.2.2 ⟨g, 0, none⟩ news.length c2 (byteCells news) hx (by rw [byteCells_length, Nat.mul_one])
    hcs (byte_one _) (by have := hb.1; unfold maxLen; omega) (by have := hb.1; omega) hb.2.1 ?_
  intro v' w' hown hg _ _
  obtain ⟨A', c', rfl⟩ := own_slice hown
  have hk : Keep B w0 w' := Keep.grown hb hg
  exact h A' (n + news.length) c' w' ⟨by rw [hb.1]; simp, Nat.le_trans hb.2.1 hk.size, by rw [byteCells_append]; exact hown⟩ hk hg

theorem xor_max (x : Nat) (h : x < 18446744073709551616) : bits .xor .u64 (x : Int) 18446744073709551615 = ((18446744073709551615 - x : Nat) : Int) := by
  show IntKind.u64.wrap ((BitVec.ofInt 64 (x : Int) ^^^ BitVec.ofInt 64 18446744073709551615).toNat : Int) = _
  have h1 : BitVec.ofInt 64 18446744073709551615 = BitVec.allOnes 64 := by decide
  rw [h1, BitVec.xor_allOnes, BitVec.toNat_not, BitVec.toNat_ofInt, IntKind.wrap_u64]
  omega
theorem xor_none (x : Nat) (h : x < 18446744073709551616) : bits .xor .u64 (x : Int) 0 = (x : Int) := by
  have := u64_xor (x : Int) 0 (by omega) (by omega) (by omega) (by omega)
  rw [this]
  simp
theorem zig_code (n : Int) (h : in64 n) : bits .xor .u64 (IntKind.u64.wrap (IntKind.u64.wrap n * 2)) (IntKind.u64.wrap (n / 9223372036854775808)) = (zig n : Int) := by
  unfold in64 at h
  unfold zig
  by_cases hn : n < 0
  · rw [if_pos hn, show n / 9223372036854775808 = -1 by omega, show IntKind.u64.wrap (-1) = 18446744073709551615 by rw [IntKind.wrap_u64]; rfl]
    rw [show IntKind.u64.wrap (IntKind.u64.wrap n * 2) = (((2 * n + 18446744073709551616).toNat : Nat) : Int) by rw [IntKind.wrap_u64, IntKind.wrap_u64]; omega]
    rw [xor_max _ (by omega)]
    omega
  · rw [if_neg hn, show n / 9223372036854775808 = 0 by omega, show IntKind.u64.wrap 0 = 0 by rfl]
    rw [show IntKind.u64.wrap (IntKind.u64.wrap n * 2) = (((2 * n).toNat : Nat) : Int) by rw [IntKind.wrap_u64, IntKind.wrap_u64]; omega]
    rw [xor_none _ (by omega)]

theorem int_walk (n : Int) (hn : in64 n) (w : World) : Calls Try.prog 48 #[.int .i64 n] w (BufPost (intL n) w) := by
  have HZ := zig_code n hn
  have hz := zig_lt hn
  unfold intL
  obtain ⟨z, hzz⟩ : ∃ z, zig n = z := ⟨_, rfl⟩
  rw [hzz] at HZ hz ⊢
  have HC := Lib.hid (num_walk z hz w)
  clear hzz
  go_enter Try.func48, Try.ntmps48
  go_wp2_with (go_at_call 12; refine HC.out.mono ?_; rintro e w2 ⟨A, k, c, rfl, hb⟩)
  go_ret
  exact ⟨A, k, c, rfl, hb⟩

set_option maxHeartbeats 1000000 in
theorem text_walk (s : ByteArray) (hs : s.size ≤ 549755813888) (w : World) : Calls Try.prog 68 #[.string s] w (BufPost (wordL s) w) := by
  have HC := Lib.hid (num_walk s.size (by omega) w)
  have hl := Lib.hid (numL_len64 (show s.size < 18446744073709551616 by omega))
  have hW : IntKind.u64.wrap (s.size : Int) = (s.size : Int) := u64_in _ (by omega)
  go_enter Try.func68, Try.ntmps68
  go_wp2_with (first | (go_at_call 12; refine HC.out.mono ?_; rintro e w2 ⟨A, k, c, rfl, hb, hbel⟩; have HB := Lib.hid hb; have HBel := Lib.hid hbel; clear hb hbel) | (at_builtin; go_loud (refine append_text rfl _ _ rfl w.heap.size A k c (numL s.size) rfl _ s HB.out rfl (by have := hl.out; omega) ?_); intro A1 n1 c1 w1 hn1 hb1 hk1; have H1 := Lib.hid hb1; have K1 := Lib.hid (HBel.out.trans hk1.below); clear hb1 hk1; subst hn1))
  go_ret
  exact ⟨A1, _, c1, rfl, H1.out, K1.out⟩
end Go.Proofs.Ytkpajmgbiepmbaa
