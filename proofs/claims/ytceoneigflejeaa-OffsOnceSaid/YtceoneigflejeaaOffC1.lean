/- What a seat needs of several texts. -/
import Derived.Test.YtceoneigflejeaaOffC0
import Derived.Scope
import Derived.WalkMore
import Derived.Test.YtceoneigflejeaaRows
import Derived.WalkKit
import Derived.WalkLawsBesides
import Derived.WalkSpells
import Derived.ProofKit
import Derived.Below
import Derived.Outline
import Derived.Lib.Hide
import Derived.BigQuiet
import Derived.Deep.QuietTactic
import Derived.Deep.RegionWith
import Derived.Deep.RegionHeld3
import Derived.LoopTactic
import Derived.Lib.BufferMore
import Derived.Deep.AppendLies
import Derived.Maps.AppendAt
import Derived.Deep.Onto
import Derived.Lib.AppendStr
import Derived.OwnWalk
import Derived.Laws.IdiomStrings
import Derived.RangeFuncBox
/- From Scope. -/
namespace Go.Proofs.Ytceoneigflejeaa
open Go
end Go.Proofs.Ytceoneigflejeaa
/- From CodVals. -/
namespace Go.Proofs.Ytceoneigflejeaa
open Go.ChangeShapes Go.WideShapes Go.ChangeAt Go.RowKit
set_option linter.unusedVariables false
theorem add_at (b off j : Nat) : (⟨b, off, none⟩ : Addr).add j = ⟨b, off + j, none⟩ := by unfold Addr.add; split <;> simp_all
end Go.Proofs.Ytceoneigflejeaa
/- From CodBuf. -/
namespace Go.Proofs.Ytceoneigflejeaa
open Go.ChangeShapes Go.WideShapes Go.ChangeAt Go.RowKit
open Go.Lib (byteCells byteCells_length byteCells_append strCells)
set_option linter.unusedVariables false
theorem infoByte : (Try.prog.info? 5).map (fun i => (i.zero, i.size, i.bytes)) = some (some (Value.int .u8 0), 1, 1) := by kernel_rfl
/-- The slice owns the bytes bs, in a block from B on. -/
def Buf (B : Nat) (A : Option Addr) (n c : Nat) (bs : List UInt8) (w : World) : Prop := n = bs.length ∧ B ≤ w.heap.size ∧ w.ownsRow B 5 1 (.slice A n c) n (byteCells bs)
/-- Below B nothing has turned; nor has any block but rows of bytes. -/
structure Keep (B : Nat) (w w' : World) : Prop where
  below : Below B w w'
  block : ∀ (k : Nat) (o : Obj), w.heap[k]? = some o → (∀ cur f, o ≠ Obj.cells cur 5 f) → w'.heap[k]? = some o
theorem Keep.refl (B : Nat) (w : World) : Keep B w w := ⟨Below.refl _ _, fun _ _ h _ => h⟩
theorem Keep.trans {B : Nat} {a b c : World} (h : Keep B a b) (k : Keep B b c) : Keep B a c := ⟨h.below.trans k.below, fun i o h1 h2 => k.block i o (h.block i o h1 h2) h2⟩
theorem Keep.alloc {B : Nat} {a w : World} (h : Keep B a w) (hB : B ≤ w.heap.size) (o : Obj) : Keep B a (w.alloc o) :=
  ⟨h.below.alloc hB o, fun i x h1 h2 => by
    have h3 := h.block i x h1 h2
    exact (Below.heap_alloc w o i (Array.getElem?_eq_some_iff.1 h3).1).trans h3⟩
theorem Keep.drew {B : Nat} {a w : World} (h : Keep B a w) : Keep B a w.drew := ⟨h.below.drew, h.block⟩
theorem Keep.mono {B B' : Nat} {w w' : World} (h : Keep B w w') (hB : B' ≤ B) : Keep B' w w' := ⟨h.below.mono hB, h.block⟩
theorem Keep.size {B : Nat} {w w' : World} (h : Keep B w w') : w.heap.size ≤ w'.heap.size := h.below.size
theorem Buf.nil (B : Nat) (w : World) (h : B ≤ w.heap.size) : Buf B none 0 0 [] w := ⟨rfl, h, World.ownsRow_nil w B _ 1⟩
theorem Buf.alloc {B : Nat} {A : Option Addr} {n c : Nat} {bs : List UInt8} {w : World} (h : Buf B A n c bs w) (o : Obj) : Buf B A n c bs (w.alloc o) :=
  ⟨h.1, Nat.le_trans h.2.1 (by simp), h.2.2.alloc o⟩
theorem Buf.drew {B : Nat} {A : Option Addr} {n c : Nat} {bs : List UInt8} {w : World} (h : Buf B A n c bs w) : Buf B A n c bs w.drew := h
theorem Buf.more {B B' : Nat} {A : Option Addr} {n c : Nat} {bs : List UInt8} {w : World} (h : Buf B A n c bs w) (hB : B' ≤ B) : Buf B' A n c bs w := ⟨h.1, Nat.le_trans hB h.2.1, h.2.2.mono hB⟩
theorem own_below {w w' : World} {base : Nat} {e : TypeId} {size : Nat} {v : Value} {n : Nat} {xs : List Value} (h : w.ownsRow base e size v n xs) (hb : Below w.heap.size w w') : w'.ownsRow base e size v n xs := by
  refine ⟨h.1, ?_⟩
  rcases h.2 with ⟨rfl, h0⟩ | ⟨g, cap, cur, rfl, hg, hh, rest⟩
  · exact .inl ⟨rfl, h0⟩
  · exact .inr ⟨g, cap, cur, rfl, hg, (hb.block g (Array.getElem?_eq_some_iff.1 hh).1).trans hh, rest⟩
theorem Buf.below {B : Nat} {A : Option Addr} {n c : Nat} {bs : List UInt8} {w w' : World} (h : Buf B A n c bs w) (hb : Below w.heap.size w w') : Buf B A n c bs w' :=
  ⟨h.1, Nat.le_trans h.2.1 hb.size, own_below h.2.2 hb⟩
theorem own_slice {w : World} {base : Nat} {e : TypeId} {size : Nat} {v : Value} {n : Nat} {xs : List Value} (h : w.ownsRow base e size v n xs) : ∃ A c, v = .slice A n c := by
  rcases h.2 with ⟨rfl, rfl⟩ | ⟨g, cap, cur, rfl, _⟩
  · exact ⟨none, 0, rfl⟩
  · exact ⟨_, cap, rfl⟩
theorem Keep.grown {B : Nat} {w w' : World} {A : Option Addr} {n c : Nat} {bs : List UInt8} (h : Buf B A n c bs w) (hg : w.grownBy w' (Value.ownBlock (.slice A n c))) : Keep B w w' := by
  refine ⟨(Below.refl B w).grown hg h.2.1 (fun k hk => (h.2.2.lt k hk).1), fun i o h1 h2 => ?_⟩
  refine (hg.block i (Array.getElem?_eq_some_iff.1 h1).1 (fun e => ?_)).trans h1
  rcases h.2.2.2 with ⟨hv, _⟩ | ⟨g, cap, cur, hv, _, hh, _⟩
  · rw [hv] at e; simp [Value.ownBlock] at e
  · rw [hv] at e
    simp only [Value.ownBlock, Option.some.injEq] at e
    subst e
    exact h2 cur (0, 0) (by rw [h1] at hh; exact Option.some.inj hh)
theorem byte_one (bs : List UInt8) : ∀ u ∈ byteCells bs, u.oneCell' = true := by
  intro u hu
  simp only [byteCells, List.mem_map] at hu
  obtain ⟨b, _, rfl⟩ := hu
  rfl
theorem new_cells (w : World) (l : List Value) (t : TypeId) : ∀ j u, l[j]? = some u → (w.alloc (.cells l.toArray t)).cell? ((⟨w.heap.size, 0, none⟩ : Addr).add j) = some u := by
  intro j u hj
  have e : (⟨w.heap.size, 0, none⟩ : Addr).add j = ⟨w.heap.size, j, none⟩ := by unfold Addr.add; split <;> simp_all
  rw [e, World.cell?_alloc_mark]
  simpa using hj
/-- 'b = append(b, x..)' of bytes that have just been laid. -/
theorem append_bytes {ops : Array Oper} {rest : List Oper} {o : Oper} {a : Act} {Q : Exit → Act → World → Prop} (hgd : o.guard = none) (s x : Operand)
    (ho : o.op = .call { callee := .builtin .append, args := #[s, x], argTypes := #[37, 37] })
    (B : Nat) (A : Option Addr) (n c : Nat) (bs : List UInt8) (hs : a.eval s = .slice A n c) (w0 : World) (news : List UInt8) (m : Nat) (hb : Buf B A n c bs w0)
    (L : Nat) (hx : a.eval x = .slice (some ⟨L, 0, none⟩) m m) (hL : L = w0.heap.size) (hm : m = news.length) (cells : List Value) (hcells : cells = byteCells news) (hlen : bs.length + news.length ≤ 1099511627776)
    (h : ∀ A' n' c' w', n' = n + m → Buf B A' n' c' (bs ++ news) w' → Keep B w0 w' → wpList Try.prog ops Q rest (a.put o.dst (.slice A' n' c')) w') :
    wpList Try.prog ops Q (o :: rest) a (w0.alloc (.cells cells.toArray 5)) := by
  subst hm
  subst hcells
  subst hL
  obtain ⟨i0, hi, hz0, hz1, hz2⟩ := info_parts infoByte
  have hb1 := hb.alloc (.cells (byteCells news).toArray 5)
  refine wpList_append_own_at _ hgd s x 37 ho B 5 i0 _ 1 1 Try.underlying37 hi hz0 hz1 hz2 rfl (by decide) (.slice A n c) n (byteCells bs) hs hb1.2.2 ⟨w0.heap.size, 0, none⟩ news.length news.length (byteCells news) hx (by rw [byteCells_length, Nat.mul_one])
    (new_cells w0 _ _) (byte_one _) (by have := hb.1; unfold maxLen; omega) (by have := hb.1; omega) hb1.2.1 ?_
  intro v' w' hown hg _ _
  obtain ⟨A', c', rfl⟩ := own_slice hown
  have hk : Keep B w0 w' := ((Keep.refl B w0).alloc hb.2.1 _).trans (Keep.grown hb1 hg)
  refine h A' (n + news.length) c' w' rfl ⟨by rw [hb.1]; simp, Nat.le_trans hb.2.1 hk.size, by rw [byteCells_append]; exact hown⟩ hk
set_option maxRecDepth 100000 in
/-- 'string(b)'. -/
theorem string_of_buf {B : Nat} {A : Option Addr} {n c : Nat} {bs : List UInt8} {w : World} (h : Buf B A n c bs w) :
    (convert 37 9 (.slice A n c)).run Try.prog w = .ok (.string (txt bs)) w := by
  rcases h.2.2.2 with ⟨hv, h0⟩ | ⟨g, cap, cur, hv, _⟩
  · injection hv with h1 h2 h3
    subst h1 h2 h3
    have hb : bs = [] := List.eq_nil_of_length_eq_zero h.1.symm
    subst hb
    rw [run_convert_bytes_string w 37 9 5 none 0 0 Try.underlying37 Try.underlying5 Try.underlying9]
    simp [Conv.bytesToString, txt]
    rfl
  · injection hv with h1 h2 h3
    subst h1 h3
    have hn := h.1
    subst hn
    refine run_convert_bytes_back (P := Try.prog) w 37 9 5 ⟨g, 0, none⟩ c bs Try.underlying37 Try.underlying5 Try.underlying9 (fun j hj => ?_)
    refine h.2.2.cells (g := g) rfl j _ ?_
    simp [byteCells, List.getElem?_eq_getElem hj]
end Go.Proofs.Ytceoneigflejeaa
/- From CodNum. -/
namespace Go.Proofs.Ytceoneigflejeaa
open Go.ChangeShapes Go.WideShapes Go.ChangeAt Go.RowKit
open Go.Lib (byteCells byteCells_length byteCells_append strCells)
set_option linter.unusedVariables false
/-- Bytes in new memory. -/
def BufPost (bs : List UInt8) (w : World) (e : Ending) (w' : World) : Prop :=
  ∃ A n c, e = .returned (.slice A n c) ∧ Buf w.heap.size A n c bs w' ∧ Below w.heap.size w w'
set_option maxRecDepth 10000 in
theorem or128_nat : ∀ x, x < 256 → x ||| 128 = x % 128 + 128 := by decide
theorem or128 (m : Nat) : bits .or .u8 ((m : Int) % 256) 128 = ((m % 128 + 128 : Nat) : Int) := by
  rw [show (m : Int) % 256 = ((m % 256 : Nat) : Int) by omega, show (128 : Int) = ((128 : Nat) : Int) from rfl, u8_or_nat _ _ (by omega) (by omega), or128_nat _ (by omega)]
  omega
theorem digit_cell (m : Nat) : [Value.int .u8 ((m % 128 + 128 : Nat) : Int)] = byteCells [UInt8.ofNat (m % 128 + 128)] := by
  simp only [byteCells, List.map_cons, List.map_nil]
  rw [ofNat_toNat (by omega)]
theorem last_cell (m : Nat) (h : m < 256) : [Value.int .u8 (m : Int)] = byteCells [UInt8.ofNat m] := by
  simp only [byteCells, List.map_cons, List.map_nil]
  rw [ofNat_toNat h]
set_option maxHeartbeats 1000000 in
theorem num_walk (n : Nat) (hn : n < 18446744073709551616) (w : World) :
    Calls Try.prog 38 #[.int .u64 (n : Int)] w (BufPost (numL n) w) := by
  have HL := Lib.hid (numL_len64 hn)
  go_enter Try.func38, Try.ntmps38
  go_wp2
  go_loopw [0, 3] (fun nv bv wr => ∃ (m : Nat) (L : List UInt8) (A : Option Addr) (k c : Nat), m ≤ n ∧ nv = .int .u64 (m : Int) ∧ bv = .slice A k c ∧ Hid (numL n = L ++ numL m) ∧ Hid (Buf w.heap.size A k c L wr) ∧ Hid (Keep w.heap.size w wr)) (fun nv _ _ => (intOf nv).toNat)
  case atStart => exact ⟨n, [], none, 0, 0, Nat.le_refl _, rfl, rfl, Lib.hid rfl, Lib.hid (Buf.nil _ _ (Nat.le_refl _)), Lib.hid (Keep.refl _ _)⟩
  case round =>
    obtain ⟨m, L, A, k, c, hm, rfl, rfl, HN, HB, HK⟩ := hrel
    have hLl : L.length ≤ 10 := by have h1 := HL.out; rw [HN.out, List.length_append] at h1; omega
    by_cases hlt : 128 ≤ m
    · have ho := or128 m
      have HN2 := Lib.hid (show numL n = (L ++ [UInt8.ofNat (m % 128 + 128)]) ++ numL (m / 128) by rw [HN.out, numL_big hlt]; simp)
      have hg : decide ((128 : Int) ≤ (m : Int)) = true := decide_eq_true (by omega)
      go_wp2_with (at_builtin; go_loud (refine append_bytes rfl _ _ rfl w.heap.size A k c L rfl _ [UInt8.ofNat (m % 128 + 128)] 1 HB.out _ rfl (by simp) rfl [_] (digit_cell m) (by simp; omega) ?_); intro A1 n1 c1 w1 hn1 hb1 hk1; have H1 := Lib.hid hb1; have K1 := Lib.hid (HK.out.trans hk1); clear hb1 hk1; subst hn1)
      go_roundw
      case rel => exact ⟨m / 128, _, A1, _, c1, by omega, by go_num, rfl, HN2, H1, K1⟩
      case measure => simp [intOf]; omega
    · have HN2 := Lib.hid (show numL n = L ++ [UInt8.ofNat m] by rw [HN.out, numL_small (by omega)])
      have hg : decide ((128 : Int) ≤ (m : Int)) = false := decide_eq_false (by omega)
      go_wp2_with (at_builtin; go_loud (refine append_bytes rfl _ _ rfl w.heap.size A k c L rfl _ [UInt8.ofNat m] 1 HB.out _ rfl (by simp) rfl [_] (last_cell m (by omega)) (by simp; omega) ?_); intro A1 n1 c1 w1 hn1 hb1 hk1; have H1 := Lib.hid hb1; have K1 := Lib.hid (HK.out.trans hk1); clear hb1 hk1; subst hn1)
      go_ret
      exact ⟨A1, _, c1, rfl, by rw [HN2.out]; exact H1.out, K1.out.below⟩
end Go.Proofs.Ytceoneigflejeaa
/- From CodUn. -/
namespace Go.Proofs.Ytceoneigflejeaa
open Go.ChangeShapes Go.WideShapes Go.ChangeAt Go.RowKit
open Go.Lib (byteCells byteCells_length byteCells_append strCells)
set_option linter.unusedVariables false
/-- The bytes l lie side by side from A on, below block B. -/
def BytesAt (w : World) (B : Nat) (A : Option Addr) (l : List UInt8) : Prop :=
  ∀ (j : Nat) (h : j < l.length), ∃ b off, A = some ⟨b, off, none⟩ ∧ b < B ∧ w.cell? ⟨b, off + j, none⟩ = some (.int .u8 (l[j].toNat : Int))
theorem BytesAt.below {w w' : World} {B : Nat} {A : Option Addr} {l : List UInt8} (h : BytesAt w B A l) (hb : Below B w w') : BytesAt w' B A l := by
  intro j hj
  obtain ⟨b, off, e, hlt, h0⟩ := h j hj
  exact ⟨b, off, e, hlt, (hb.cell (p := ⟨b, _, none⟩) hlt).trans h0⟩
theorem BytesAt.more {w : World} {B B' : Nat} {A : Option Addr} {l : List UInt8} (h : BytesAt w B A l) (hb : B ≤ B') : BytesAt w B' A l := by
  intro j hj
  obtain ⟨b, off, e, hlt, h0⟩ := h j hj
  exact ⟨b, off, e, by omega, h0⟩
theorem BytesAt.drop {w : World} {B : Nat} {A : Option Addr} {l : List UInt8} (h : BytesAt w B A l) (n c : Nat) (hn : n ≤ l.length) (hc : l.length ≤ c) : BytesAt w B (if c = n then A else A.map (·.add n)) (l.drop n) := by
  intro j hj
  rw [List.length_drop] at hj
  obtain ⟨b, off, rfl, hlt, h0⟩ := h (n + j) (by omega)
  rw [if_neg (by omega)]
  refine ⟨b, off + n, by simp [add_at], hlt, ?_⟩
  rw [List.getElem_drop, Nat.add_assoc]
  exact h0
theorem BytesAt.take {w : World} {B : Nat} {A : Option Addr} {l : List UInt8} (h : BytesAt w B A l) (n : Nat) : BytesAt w B A (l.take n) := by
  intro j hj
  rw [List.length_take] at hj
  obtain ⟨b, off, rfl, hlt, h0⟩ := h j (by omega)
  exact ⟨b, off, rfl, hlt, by rw [List.getElem_take]; exact h0⟩
def unOut (t : Nat) : Option (Nat × List UInt8) → Value
  | none => .tuple #[.int .u64 0, .int .i64 0, .int .i64 41]
  | some p => .tuple #[.int .u64 (p.1 : Int), .int .i64 ((t - p.2.length : Nat) : Int), .int .i64 0]
/-- k digits have been read: they come to a. -/
def ReadK (l : List UInt8) (k a : Nat) : Prop := unL l = (unG (10 - k) (l.drop k)).map fun p => (a + 128 ^ k * p.1, p.2)
theorem ReadK.start (l : List UInt8) : ReadK l 0 0 := by
  unfold ReadK unL
  simp only [Nat.sub_zero, List.drop_zero, Nat.pow_zero, Nat.one_mul, Nat.zero_add]
  cases unG 10 l <;> rfl
section
variable {l : List UInt8} {k a : Nat} {x : UInt8}
theorem ReadK.step (h : ReadK l k a) (hk : k < 10) (hd : l.drop k = x :: l.drop (k + 1)) (h9 : ¬ (k = 9 ∧ 1 < x.toNat)) (hx : 128 ≤ x.toNat) : ReadK l (k + 1) (a + 128 ^ k * (x.toNat % 128)) := by
  have := x.toNat_lt
  unfold ReadK at *
  rw [h, hd, show 10 - k = (9 - k) + 1 by omega, unG, if_neg (by omega), if_neg (by omega), show 10 - (k + 1) = 9 - k by omega]
  cases unG (9 - k) (l.drop (k + 1)) with
  | none => rfl
  | some p =>
    simp only [Option.map_some, Option.some.injEq, Prod.mk.injEq, and_true]
    rw [Nat.pow_succ, Nat.mul_add, Nat.add_assoc, Nat.mul_assoc, show x.toNat - 128 = x.toNat % 128 by omega]
theorem ReadK.last (h : ReadK l k a) (hk : k < 10) (hd : l.drop k = x :: l.drop (k + 1)) (h9 : ¬ (k = 9 ∧ 1 < x.toNat)) (hx : x.toNat < 128) (h0 : ¬ (x.toNat = 0 ∧ 0 < k)) : unL l = some (a + 128 ^ k * (x.toNat % 128), l.drop (k + 1)) := by
  unfold ReadK at *
  rw [h, hd, show 10 - k = (9 - k) + 1 by omega, unG, if_neg (by omega), if_pos hx, if_neg (by omega)]
  simp only [Option.map_some, Option.some.injEq, Prod.mk.injEq, and_true]
  rw [show x.toNat % 128 = x.toNat by omega]
theorem ReadK.far (h : ReadK l k a) (hk : k < 10) (hd : l.drop k = x :: l.drop (k + 1)) (h9 : k = 9 ∧ 1 < x.toNat) : unL l = none := by
  unfold ReadK at *
  rw [h, hd, show 10 - k = (9 - k) + 1 by omega, unG, if_pos (by omega)]
  rfl
theorem ReadK.zero (h : ReadK l k a) (hk : k < 10) (hd : l.drop k = x :: l.drop (k + 1)) (h0 : x.toNat = 0 ∧ 0 < k) : unL l = none := by
  unfold ReadK at *
  rw [h, hd, show 10 - k = (9 - k) + 1 by omega, unG, if_neg (by omega), if_pos (by omega), if_pos (by omega)]
  rfl
theorem ReadK.end_ (h : ReadK l k a) (he : l.length ≤ k ∨ k = 10) : unL l = none := by
  unfold ReadK at *
  rw [h]
  rcases he with he | rfl
  · rw [List.drop_of_length_le he]
    cases 10 - k <;> rfl
  · rfl
end
theorem drop_at (l : List UInt8) (k : Nat) (h : k < l.length) : l.drop k = l[k] :: l.drop (k + 1) := List.drop_eq_getElem_cons h
theorem u64_in (n : Nat) (h : n < 18446744073709551616) : IntKind.u64.wrap (n : Int) = (n : Int) := by
  rw [IntKind.wrap_u64]
  omega
theorem digit_le (k y : Nat) (hk : k ≤ 9) (hy : y < 128) (h9 : k = 9 → y ≤ 1) : 128 ^ k * y + 128 ^ k ≤ 18446744073709551616 := by
  have e9 : (128 : Nat) ^ 9 = 9223372036854775808 := by decide
  have e8 : (128 : Nat) ^ 8 = 72057594037927936 := by decide
  by_cases h : k = 9
  · have := h9 h
    subst h
    rw [e9]
    omega
  · have h1 : (128 : Nat) ^ k ≤ 128 ^ 8 := Nat.pow_le_pow_right (by omega) (by omega)
    have h2 : 128 ^ k * y ≤ 128 ^ 8 * 127 := Nat.mul_le_mul h1 (by omega)
    rw [e8] at h1 h2
    omega
theorem shl_digit (k y : Nat) : (y : Int) * 2 ^ (7 * k) = ((128 ^ k * y : Nat) : Int) := by
  have e : (2 : Int) ^ (7 * k) = ((128 ^ k : Nat) : Int) := by rw [show (128 : Nat) = 2 ^ 7 from rfl, ← Nat.pow_mul, Int.natCast_pow]; rfl
  rw [e, Nat.mul_comm, Int.natCast_mul]
theorem or_digit (a k y : Nat) (ha : a < 128 ^ k) (hb : 128 ^ k * y + 128 ^ k ≤ 18446744073709551616) : bits .or .u64 (a : Int) ((128 ^ k * y : Nat) : Int) = ((a + 128 ^ k * y : Nat) : Int) := by
  have hp : 0 < 128 ^ k := Nat.pow_pos (by omega)
  rw [u64_or_nat _ _ (by omega) (by omega)]
  congr 1
  rw [show (128 : Nat) ^ k = 2 ^ (7 * k) by rw [Nat.pow_mul]] at *
  rw [Nat.or_comm, ← Nat.two_pow_add_eq_or_of_lt ha, Nat.add_comm]
theorem andnot_digit (x : Nat) (h : x < 256) : bits .andNot .u8 (x : Int) 128 = ((x % 128 : Nat) : Int) := by
  rw [show (128 : Int) = ((128 : Nat) : Int) from rfl, u8_andNot_nat _ _ h (by omega)]
  congr 1
  exact Nat.and_two_pow_sub_one_eq_mod x 7
theorem next_lt {a k y : Nat} (ha : a < 128 ^ k) (hy : y < 128) : a + 128 ^ k * y < 128 ^ (k + 1) := by
  have h1 : 128 ^ k * y ≤ 128 ^ k * 127 := Nat.mul_le_mul_left _ (by omega)
  rw [Nat.pow_succ]
  omega
/-- What 'n |= uint64(c&^128) << (7*i)' comes to. -/
theorem code_digit (a k x : Nat) (ha : a < 128 ^ k) (hk : k ≤ 9) (hx : x < 256) (h9 : ¬ (k = 9 ∧ 1 < x)) :
    bits .or .u64 (a : Int) (IntKind.u64.wrap (IntKind.u64.wrap (bits .andNot .u8 (x : Int) 128) * 2 ^ (7 * k))) = ((a + 128 ^ k * (x % 128) : Nat) : Int) := by
  have hb := digit_le k (x % 128) hk (by omega) (fun e => by omega)
  have hp : 0 < 128 ^ k := Nat.pow_pos (by omega)
  rw [andnot_digit x hx, u64_in _ (by omega), shl_digit, u64_in _ (by omega), or_digit a k _ ha hb]
theorem unOut_eq (t : Nat) {o : Option (Nat × List UInt8)} {p : Nat × List UInt8} (h : o = some p) : unOut t o = .tuple #[.int .u64 (p.1 : Int), .int .i64 ((t - p.2.length : Nat) : Int), .int .i64 0] := by rw [h]; rfl
set_option maxRecDepth 4000 in
set_option maxHeartbeats 1000000 in
theorem unnum_walk (l : List UInt8) (A : Option Addr) (n c : Nat) (w : World) (hn : n = l.length) (hc : n ≤ c) (hcm : c ≤ maxLen) (hb : BytesAt w w.heap.size A l) :
    Calls Try.prog 43 #[.slice A n c] w fun e w' => e = .returned (unOut n (unL l)) ∧ w = w' := by
  have HN := Lib.hid hn
  have HB := Lib.hid hb
  clear hn hb
  have hcm2 : c ≤ 9223372036854775807 := by unfold maxLen at hcm; omega
  clear hcm
  have hmin : (if (10 : Int) < (n : Int) then (10 : Int) else (n : Int)) = ((min n 10 : Nat) : Int) := by split <;> omega
  go_enter Try.func43, Try.ntmps43
  go_wp2
  go_loop [5, 14] (fun av iv => ∃ (k a : Nat), k ≤ min n 10 ∧ iv = .int .i64 (k : Int) ∧ av = .int .u64 (a : Int) ∧ Hid (a < 128 ^ k) ∧ Hid (ReadK l k a)) (fun _ iv => 10 - (intOf iv).toNat)
  case atStart => exact ⟨0, 0, by omega, rfl, rfl, Lib.hid (by decide), Lib.hid (ReadK.start l)⟩
  case round =>
    obtain ⟨k, a, hk, rfl, rfl, HA, HR⟩ := hrel
    by_cases hlt : k < min n 10
    · have hkl : k < l.length := by rw [← HN.out]; omega
      obtain ⟨b, off, rfl, hB, c0⟩ := HB.out k hkl
      have hd := drop_at l k hkl
      obtain ⟨x, hX⟩ : ∃ x, l[k] = x := ⟨_, rfl⟩
      rw [hX] at c0 hd
      have HD := Lib.hid hd
      clear hd hX
      have hx8 : x.toNat < 256 := x.toNat_lt
      by_cases h9 : k = 9 ∧ 1 < x.toNat
      · have HF := Lib.hid (HR.out.far (by omega) HD.out h9)
        obtain ⟨rfl, h9⟩ := h9
        clear HD HR
        go_wp2
        go_ret3
        exact ⟨by rw [HF.out]; rfl, rfl⟩
      · have HC := Lib.hid (code_digit a k x.toNat HA.out (by omega) hx8 h9)
        have HA2 := Lib.hid (next_lt (y := x.toNat % 128) HA.out (by omega))
        have s0 : (0 : Int) ≤ 7 * (k : Int) := by omega
        have hkk : k < 10 := by omega
        by_cases h128 : 128 ≤ x.toNat
        · have HR2 := Lib.hid (HR.out.step hkk HD.out h9 h128)
          have H9 := Lib.hid h9
          clear h9
          by_cases k9 : k = 9
          · have := H9.out
            omega
          · have e9 : ((k : Int) == 9) = false := by rw [beq_eq_false_iff_ne]; omega
            go_wp2
            go_round
            case rel => exact ⟨k + 1, a + 128 ^ k * (x.toNat % 128), by omega, by go_num, by rw [HC.out], HA2, HR2⟩
            case measure => simp [intOf]; omega
        · by_cases h0 : x.toNat = 0 ∧ 0 < k
          · have HF := Lib.hid (HR.out.zero hkk HD.out h0)
            obtain ⟨h0, hk0⟩ := h0
            clear HD HR h9
            have e9 : decide ((1 : Int) < (x.toNat : Int)) = false := decide_eq_false (by omega)
            have e0 : ((x.toNat : Int) == 0) = true := by rw [beq_iff_eq]; omega
            clear h0
            by_cases k9 : k = 9
            · subst k9
              go_wp2
              go_ret3
              exact ⟨by rw [HF.out]; rfl, rfl⟩
            · have e9 : ((k : Int) == 9) = false := by rw [beq_eq_false_iff_ne]; omega
              go_wp2
              go_ret3
              exact ⟨by rw [HF.out]; rfl, rfl⟩
          · have HF := Lib.hid (unOut_eq n (HR.out.last hkk HD.out h9 (by omega) h0))
            have HL := Lib.hid (show n - (l.drop (k + 1)).length = k + 1 by rw [List.length_drop, ← HN.out]; omega)
            have H9 := Lib.hid h9
            have H0 := Lib.hid h0
            clear HD HR h9 h0
            have fin : ∀ (e : Int), e = ((a + 128 ^ k * (x.toNat % 128) : Nat) : Int) → (Ending.returned (.tuple #[.int .u64 e, .int .i64 ((k : Int) + 1), .int .i64 0])) = .returned (unOut n (unL l)) := by
              intro e he
              rw [HF.out, he]
              dsimp only
              rw [HL.out]
              rfl
            have FIN := Lib.hid fin
            clear fin
            by_cases k9 : k = 9
            · have e9 : decide ((1 : Int) < (x.toNat : Int)) = false := decide_eq_false (by have := H9.out; omega)
              have ez : ((x.toNat : Int) == 0) = false := by rw [beq_eq_false_iff_ne]; have := H0.out; omega
              subst k9
              go_wp2
              go_ret3
              exact ⟨FIN.out _ HC.out, rfl⟩
            · have e9 : ((k : Int) == 9) = false := by rw [beq_eq_false_iff_ne]; omega
              by_cases hz : x.toNat = 0
              · have hk0 : k = 0 := by have := H0.out; omega
                subst hk0
                rw [Nat.add_zero] at c0
                have ez : ((x.toNat : Int) == 0) = true := by rw [beq_iff_eq]; omega
                go_wp2
                go_ret3
                exact ⟨FIN.out _ (by have h := HC.out; simp only [hz] at h ⊢; simpa using h), rfl⟩
              · have ez : ((x.toNat : Int) == 0) = false := by rw [beq_eq_false_iff_ne]; omega
                go_wp2
                go_ret3
                exact ⟨FIN.out _ HC.out, rfl⟩
    · have HF := Lib.hid (HR.out.end_ (by rw [← HN.out]; omega))
      go_wp2
      go_ret3
      exact ⟨by rw [HF.out]; rfl, rfl⟩
/-- What the plain text's Unnum answers. -/
def rOut (t : Nat) : Option (Nat × List UInt8) → Value
  | none => .tuple #[.int .u64 0, .int .i64 (-1)]
  | some p => .tuple #[.int .u64 (p.1 : Int), .int .i64 ((t - p.2.length : Nat) : Int)]
theorem rOut_eq (t : Nat) {o : Option (Nat × List UInt8)} {p : Nat × List UInt8} (h : o = some p) : rOut t o = .tuple #[.int .u64 (p.1 : Int), .int .i64 ((t - p.2.length : Nat) : Int)] := by rw [h]; rfl
/-- What 'n = n + c%128<<uint(7*i)' comes to. -/
theorem ref_digit (a k x : Nat) (ha : a < 128 ^ k) (hk : k ≤ 9) (hx : x < 256) (h9 : ¬ (k = 9 ∧ 1 < x)) :
    IntKind.u64.wrap ((a : Int) + IntKind.u64.wrap (((x : Int).tmod 128) * 2 ^ (7 * k))) = ((a + 128 ^ k * (x % 128) : Nat) : Int) := by
  have hb := digit_le k (x % 128) hk (by omega) (fun e => by omega)
  have hp : 0 < 128 ^ k := Nat.pow_pos (by omega)
  rw [Int.tmod_eq_emod_of_nonneg (by omega), show (x : Int) % 128 = ((x % 128 : Nat) : Int) by omega, shl_digit, u64_in _ (by omega), show (a : Int) + ((128 ^ k * (x % 128) : Nat) : Int) = ((a + 128 ^ k * (x % 128) : Nat) : Int) by omega, u64_in _ (by omega)]
set_option maxRecDepth 4000 in
set_option maxHeartbeats 1000000 in
theorem runnum_walk (s : ByteArray) (o : Nat) (w : World) (hs : s.size ≤ 1099511627776) (ho : o ≤ s.size) :
    Calls Try.prog 36 #[.string s, .int .i64 (o : Int)] w fun e w' => e = .returned (rOut s.size (unL (s.data.toList.drop o))) ∧ w = w' := by
  obtain ⟨l, HL⟩ : ∃ l, Hid (s.data.toList.drop o = l) := ⟨_, Lib.hid rfl⟩
  rw [HL.out]
  have HN := Lib.hid (show s.size - o = l.length by rw [← HL.out, List.length_drop, size_eq])
  have hon : ¬ (o : Int) < 0 := by omega
  go_enter Try.func36, Try.ntmps36
  go_wp2
  go_loop [6, 7] (fun av iv => ∃ (k a : Nat), k ≤ 10 ∧ k ≤ s.size - o ∧ iv = .int .i64 (k : Int) ∧ av = .int .u64 (a : Int) ∧ Hid (a < 128 ^ k) ∧ Hid (ReadK l k a)) (fun _ iv => 10 - (intOf iv).toNat)
  case atStart => exact ⟨0, 0, by omega, by omega, rfl, rfl, Lib.hid (by decide), Lib.hid (ReadK.start l)⟩
  case round =>
    obtain ⟨k, a, hk, hko, rfl, rfl, HA, HR⟩ := hrel
    by_cases hk10 : k = 10
    · subst hk10
      have HF := Lib.hid (HR.out.end_ (.inr rfl))
      go_wp2
      go_ret2
      exact ⟨by rw [HF.out]; rfl, rfl⟩
    · have hkk : k < 10 := by omega
      by_cases hlt : o + k < s.size
      · have hkl : k < l.length := by rw [← HN.out]; omega
        have hd := drop_at l k hkl
        have hidx : s[o + k] = l[k] := by
          have : (s.data.toList.drop o)[k]'(by rw [List.length_drop, ← size_eq]; omega) = s[o + k] := by
            rw [List.getElem_drop]; rfl
          rw [← this]
          simp only [HL.out]
        obtain ⟨x, hX⟩ : ∃ x, l[k] = x := ⟨_, rfl⟩
        rw [hX] at hidx hd
        have HD := Lib.hid hd
        clear hX hd
        have hx8 : x.toNat < 256 := x.toNat_lt
        have hW : IntKind.u64.wrap (x.toNat : Int) = (x.toNat : Int) := u64_in _ (by omega)
        by_cases h9 : k = 9 ∧ 1 < x.toNat
        · have HF := Lib.hid (HR.out.far (by omega) HD.out h9)
          obtain ⟨rfl, h9⟩ := h9
          clear HD HR
          go_wp2
          go_ret2
          exact ⟨by rw [HF.out]; rfl, rfl⟩
        · have HC := Lib.hid (ref_digit a k x.toNat HA.out (by omega) hx8 h9)
          have HA2 := Lib.hid (next_lt (y := x.toNat % 128) HA.out (by omega))
          have s0 : (0 : Int) ≤ 7 * (k : Int) := by omega
          by_cases h128 : 128 ≤ x.toNat
          · have HR2 := Lib.hid (HR.out.step hkk HD.out h9 h128)
            have H9 := Lib.hid h9
            clear h9
            by_cases k9 : k = 9
            · have := H9.out
              omega
            · have e9 : ((k : Int) == 9) = false := by rw [beq_eq_false_iff_ne]; omega
              go_wp2
              go_round
              case rel => exact ⟨k + 1, a + 128 ^ k * (x.toNat % 128), by omega, by omega, by go_num, by rw [← HC.out, Int.tmod_eq_emod_of_nonneg (by omega)], HA2, HR2⟩
              case measure => simp [intOf]; omega
          · by_cases h0 : x.toNat = 0 ∧ 0 < k
            · have HF := Lib.hid (HR.out.zero hkk HD.out h0)
              obtain ⟨h0, hk0⟩ := h0
              clear HD HR h9
              have e9 : decide ((1 : Int) < (x.toNat : Int)) = false := decide_eq_false (by omega)
              have e0 : ((x.toNat : Int) == 0) = true := by rw [beq_iff_eq]; omega
              clear h0
              by_cases k9 : k = 9
              · subst k9
                go_wp2
                go_ret2
                exact ⟨by rw [HF.out]; rfl, rfl⟩
              · have e9 : ((k : Int) == 9) = false := by rw [beq_eq_false_iff_ne]; omega
                go_wp2
                go_ret2
                exact ⟨by rw [HF.out]; rfl, rfl⟩
            · have HF := Lib.hid (rOut_eq s.size (HR.out.last hkk HD.out h9 (by omega) h0))
              have HLn := Lib.hid (show s.size - (l.drop (k + 1)).length = o + k + 1 by rw [List.length_drop, ← HN.out]; omega)
              have H9 := Lib.hid h9
              have H0 := Lib.hid h0
              clear HD HR h9 h0
              have fin : ∀ (e f : Int), e = ((a + 128 ^ k * (x.toNat % 128) : Nat) : Int) → f = (o : Int) + k + 1 → (Ending.returned (.tuple #[.int .u64 e, .int .i64 f])) = .returned (rOut s.size (unL l)) := by
                intro e f he hf
                rw [HF.out, he, hf]
                dsimp only
                rw [HLn.out]
                rfl
              have FIN := Lib.hid fin
              clear fin
              by_cases k9 : k = 9
              · have e9 : decide ((1 : Int) < (x.toNat : Int)) = false := decide_eq_false (by have := H9.out; omega)
                have ez : ((x.toNat : Int) == 0) = false := by rw [beq_eq_false_iff_ne]; have := H0.out; omega
                subst k9
                go_wp2
                go_ret2
                exact ⟨FIN.out _ _ HC.out (by omega), rfl⟩
              · have e9 : ((k : Int) == 9) = false := by rw [beq_eq_false_iff_ne]; omega
                by_cases hk0 : k = 0
                · subst hk0
                  simp only [Nat.add_zero] at hidx
                  go_wp2
                  go_ret2
                  exact ⟨FIN.out _ _ (by have h := HA.out; rw [Nat.pow_zero] at h ⊢; simp; rw [IntKind.wrap_u64]; omega) (by omega), rfl⟩
                · have ez : ((x.toNat : Int) == 0) = false := by rw [beq_eq_false_iff_ne]; have := H0.out; omega
                  go_wp2
                  go_ret2
                  exact ⟨FIN.out _ _ HC.out (by omega), rfl⟩
      · have HF := Lib.hid (HR.out.end_ (.inl (by rw [← HN.out]; omega)))
        go_wp2
        go_ret2
        exact ⟨by rw [HF.out]; rfl, rfl⟩
end Go.Proofs.Ytceoneigflejeaa
