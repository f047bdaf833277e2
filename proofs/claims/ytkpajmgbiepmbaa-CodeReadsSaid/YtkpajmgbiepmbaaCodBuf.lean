/- A buffer of bytes of the call's own, and what an append onto it leaves. -/
import Derived.Test.YtkpajmgbiepmbaaCodVals
import Derived.Maps.AppendAt
import Derived.Deep.AppendLies
import Derived.Deep.Onto
import Derived.Lib.AppendStr
import Derived.Lib.UnsafeStr
import Derived.OwnWalk
import Derived.Laws.IdiomStrings
import Derived.RangeFuncBox
namespace Go.Proofs.Ytkpajmgbiepmbaa
open Go.ChangeShapes Go.WideShapes Go.ChangeAt Go.RowKit
open Go.Lib (byteCells byteCells_length byteCells_append strCells)
set_option linter.unusedVariables false

theorem infoByte : (Try.prog.info? 5).map (fun i => (i.zero, i.size, i.bytes)) = some (some (Value.int .u8 0), 1, 1) := by kernel_rfl

/-- The slice owns the bytes bs, in a block from B on. -/
def Buf (B : Nat) (A : Option Addr) (n c : Nat) (bs : List UInt8) (w : World) : Prop := n = bs.length ∧ B ≤ w.heap.size ∧ w.ownsRow B 5 1 (.slice A n c) n (byteCells bs)
/-- Below B nothing has turned; nor has any block but rows of bytes. -/
structure Keep (B : Nat) (w w' : World) : Prop where
  below : Below B w w'
  block : ∀ (k : Nat) (o : Obj), w.heap[k]? = some o → (∀ cur f, o ≠ Obj.cells cur 5 f) → w'.heap[k]? = some o
theorem Keep.refl (B : Nat) (w : World) : Keep B w w := ⟨Below.refl _ _, fun _ _ h _ => h⟩
theorem Keep.trans {B : Nat} {a b c : World} (h : Keep B a b) (k : Keep B b c) : Keep B a c := ⟨h.below.trans k.below, fun i o h1 h2 => k.block i o (h.block i o h1 h2) h2⟩
theorem Keep.alloc {B : Nat} {a w : World} (h : Keep B a w) (hB : B ≤ w.heap.size) (o : Obj) : Keep B a (w.alloc o) :=
  ⟨h.below.alloc hB o, fun i x h1 h2 => by
    have h3 := h.block i x h1 h2
    exact (Below.heap_alloc w o i (Array.getElem?_eq_some_iff.1 h3).1).trans h3⟩
theorem Keep.drew {B : Nat} {a w : World} (h : Keep B a w) : Keep B a w.drew := ⟨h.below.drew, h.block⟩
theorem Keep.of_below {B : Nat} {w w' : World} (h : Below w.heap.size w w') (hB : B ≤ w.heap.size) : Keep B w w' :=
  ⟨h.mono hB, fun i x h1 _ => (h.block i (Array.getElem?_eq_some_iff.1 h1).1).trans h1⟩
theorem Keep.mono {B B' : Nat} {w w' : World} (h : Keep B w w') (hB : B' ≤ B) : Keep B' w w' := ⟨h.below.mono hB, h.block⟩
theorem Keep.size {B : Nat} {w w' : World} (h : Keep B w w') : w.heap.size ≤ w'.heap.size := h.below.size

theorem Buf.nil (B : Nat) (w : World) (h : B ≤ w.heap.size) : Buf B none 0 0 [] w := ⟨rfl, h, World.ownsRow_nil w B _ 1⟩
theorem Buf.alloc {B : Nat} {A : Option Addr} {n c : Nat} {bs : List UInt8} {w : World} (h : Buf B A n c bs w) (o : Obj) : Buf B A n c bs (w.alloc o) :=
  ⟨h.1, Nat.le_trans h.2.1 (by simp), h.2.2.alloc o⟩
theorem Buf.drew {B : Nat} {A : Option Addr} {n c : Nat} {bs : List UInt8} {w : World} (h : Buf B A n c bs w) : Buf B A n c bs w.drew := h
theorem Buf.more {B B' : Nat} {A : Option Addr} {n c : Nat} {bs : List UInt8} {w : World} (h : Buf B A n c bs w) (hB : B' ≤ B) : Buf B' A n c bs w := ⟨h.1, Nat.le_trans hB h.2.1, h.2.2.mono hB⟩
theorem own_below {w w' : World} {base : Nat} {e : TypeId} {size : Nat} {v : Value} {n : Nat} {xs : List Value} (h : w.ownsRow base e size v n xs) (hb : Below w.heap.size w w') : w'.ownsRow base e size v n xs := by
  refine ⟨h.1, ?_⟩
  rcases h.2 with ⟨rfl, h0⟩ | ⟨g, cap, cur, rfl, hg, hh, rest⟩
  · exact .inl ⟨rfl, h0⟩
  · exact .inr ⟨g, cap, cur, rfl, hg, (hb.block g (Array.getElem?_eq_some_iff.1 hh).1).trans hh, rest⟩
theorem Buf.below {B : Nat} {A : Option Addr} {n c : Nat} {bs : List UInt8} {w w' : World} (h : Buf B A n c bs w) (hb : Below w.heap.size w w') : Buf B A n c bs w' :=
  ⟨h.1, Nat.le_trans h.2.1 hb.size, own_below h.2.2 hb⟩
theorem own_slice {w : World} {base : Nat} {e : TypeId} {size : Nat} {v : Value} {n : Nat} {xs : List Value} (h : w.ownsRow base e size v n xs) : ∃ A c, v = .slice A n c := by
  rcases h.2 with ⟨rfl, rfl⟩ | ⟨g, cap, cur, rfl, _⟩
  · exact ⟨none, 0, rfl⟩
  · exact ⟨_, cap, rfl⟩
theorem Keep.grown {B : Nat} {w w' : World} {A : Option Addr} {n c : Nat} {bs : List UInt8} (h : Buf B A n c bs w) (hg : w.grownBy w' (Value.ownBlock (.slice A n c))) : Keep B w w' := by
  refine ⟨(Below.refl B w).grown hg h.2.1 (fun k hk => (h.2.2.lt k hk).1), fun i o h1 h2 => ?_⟩
  refine (hg.block i (Array.getElem?_eq_some_iff.1 h1).1 (fun e => ?_)).trans h1
  rcases h.2.2.2 with ⟨hv, _⟩ | ⟨g, cap, cur, hv, _, hh, _⟩
  · rw [hv] at e; simp [Value.ownBlock] at e
  · rw [hv] at e
    simp only [Value.ownBlock, Option.some.injEq] at e
    subst e
    exact h2 cur (0, 0) (by rw [h1] at hh; exact Option.some.inj hh)

/-- Block g holds just one value. -/
def Box (w : World) (g : Nat) (v : V) : Prop := w.heap[g]? = some (.cells #[.int .i64 v.k, .int .i64 v.n, .string v.s] 85 (0, 0))
theorem Box.new (w : World) (v : V) : Box (w.alloc (.cells #[.int .i64 v.k, .int .i64 v.n, .string v.s] 85)) w.heap.size v := World.alloc_heap_new w _
theorem Box.lt {w : World} {g : Nat} {v : V} (h : Box w g v) : g < w.heap.size := (Array.getElem?_eq_some_iff.1 h).1
theorem Box.keep {B : Nat} {w w' : World} {g : Nat} {v : V} (h : Box w g v) (hk : Keep B w w') : Box w' g v := hk.block _ _ h (fun cur f e => by injection e with _ e2; exact absurd e2 (by decide))
theorem Box.alloc {w : World} {g : Nat} {v : V} (h : Box w g v) (o : Obj) : Box (w.alloc o) g v := (Below.heap_alloc w o g h.lt).trans h
theorem Box.below {w w' : World} {g : Nat} {v : V} (h : Box w g v) (hb : Below w.heap.size w w') : Box w' g v := (hb.block g h.lt).trans h
theorem Box.k {w : World} {g : Nat} {v : V} (h : Box w g v) : w.cell? ⟨g, 0, none⟩ = some (.int .i64 v.k) := by simp [World.cell?, show w.heap[g]? = _ from h]
theorem Box.n {w : World} {g : Nat} {v : V} (h : Box w g v) : w.cell? ⟨g, 1, none⟩ = some (.int .i64 v.n) := by simp [World.cell?, show w.heap[g]? = _ from h]
theorem Box.s {w : World} {g : Nat} {v : V} (h : Box w g v) : w.cell? ⟨g, 2, none⟩ = some (.string v.s) := by simp [World.cell?, show w.heap[g]? = _ from h]
theorem Box.frozen {w : World} {g : Nat} {v : V} (h : Box w g v) (i : Nat) : w.frozen? ⟨g, i, none⟩ = false := by simp [World.frozen?, show w.heap[g]? = _ from h]

theorem byte_one (bs : List UInt8) : ∀ u ∈ byteCells bs, u.oneCell' = true := by
  intro u hu
  simp only [byteCells, List.mem_map] at hu
  obtain ⟨b, _, rfl⟩ := hu
  rfl
theorem new_cells (w : World) (l : List Value) (t : TypeId) : ∀ j u, l[j]? = some u → (w.alloc (.cells l.toArray t)).cell? ((⟨w.heap.size, 0, none⟩ : Addr).add j) = some u := by
  intro j u hj
  have e : (⟨w.heap.size, 0, none⟩ : Addr).add j = ⟨w.heap.size, j, none⟩ := by unfold Addr.add; split <;> simp_all
  rw [e, World.cell?_alloc_mark]
  simpa using hj

/-- 'b = append(b, x..)' of bytes that have just been laid. -/
theorem append_bytes {ops : Array Oper} {rest : List Oper} {o : Oper} {a : Act} {Q : Exit → Act → World → Prop} (hgd : o.guard = none) (s x : Operand)
    (ho : o.op = .call { callee := .builtin .append, args := #[s, x], argTypes := #[27, 27] })
    (B : Nat) (A : Option Addr) (n c : Nat) (bs : List UInt8) (hs : a.eval s = .slice A n c) (w0 : World) (news : List UInt8) (m : Nat) (hb : Buf B A n c bs w0)
    (L : Nat) (hx : a.eval x = .slice (some ⟨L, 0, none⟩) m m) (hL : L = w0.heap.size) (hm : m = news.length) (cells : List Value) (hcells : cells = byteCells news) (hlen : bs.length + news.length ≤ 1099511627776)
    (h : ∀ A' n' c' w', n' = n + m → Buf B A' n' c' (bs ++ news) w' → Keep B w0 w' → wpList Try.prog ops Q rest (a.put o.dst (.slice A' n' c')) w') :
    wpList Try.prog ops Q (o :: rest) a (w0.alloc (.cells cells.toArray 5)) := by
  subst hm
  subst hcells
  subst hL
  obtain ⟨i0, hi, hz0, hz1, hz2⟩ := info_parts infoByte
  have hb1 := hb.alloc (.cells (byteCells news).toArray 5)
  refine wpList_append_own_at _ hgd s x 27 ho B 5 i0 _ 1 1 Try.underlying27 hi hz0 hz1 hz2 rfl (by decide) (.slice A n c) n (byteCells bs) hs hb1.2.2 ⟨w0.heap.size, 0, none⟩ news.length news.length (byteCells news) hx (by rw [byteCells_length, Nat.mul_one])
    (new_cells w0 _ _) (byte_one _) (by have := hb.1; unfold maxLen; omega) (by have := hb.1; omega) hb1.2.1 ?_
  intro v' w' hown hg _ _
  obtain ⟨A', c', rfl⟩ := own_slice hown
  have hk : Keep B w0 w' := ((Keep.refl B w0).alloc hb.2.1 _).trans (Keep.grown hb1 hg)
  refine h A' (n + news.length) c' w' rfl ⟨by rw [hb.1]; simp, Nat.le_trans hb.2.1 hk.size, by rw [byteCells_append]; exact hown⟩ hk

/-- 'b = append(b, s...)' of a text. -/
theorem append_text {ops : Array Oper} {rest : List Oper} {o : Oper} {a : Act} {Q : Exit → Act → World → Prop} (hgd : o.guard = none) (sl x : Operand)
    (ho : o.op = .call { callee := .builtin .append, args := #[sl, x], argTypes := #[27, 9] })
    (B : Nat) (A : Option Addr) (n c : Nat) (bs : List UInt8) (hs : a.eval sl = .slice A n c) (w0 : World) (t : ByteArray) (hb : Buf B A n c bs w0)
    (hx : a.eval x = .string t) (hlen : bs.length + t.size ≤ 1099511627776)
    (h : ∀ A' n' c' w', n' = n + t.size → Buf B A' n' c' (bs ++ t.data.toList) w' → Keep B w0 w' → wpList Try.prog ops Q rest (a.put o.dst (.slice A' n' c')) w') :
    wpList Try.prog ops Q (o :: rest) a w0 := by
  obtain ⟨i0, hi, hz0, hz1, hz2⟩ := info_parts infoByte
  refine Lib.wpList_append_own_string _ hgd sl x 27 9 ho B 5 i0 Try.underlying27 Try.underlying9 hi hz0 hz1 hz2 (.slice A n c) n (byteCells bs) hs hb.2.2 t hx (by have := hb.1; unfold maxLen; omega) (by have := hb.1; omega) hb.2.1 ?_
  intro v' w' hown hg _
  obtain ⟨A', c', rfl⟩ := own_slice hown
  have hk : Keep B w0 w' := Keep.grown hb hg
  refine h A' (n + t.size) c' w' rfl ⟨by rw [hb.1]; simp, Nat.le_trans hb.2.1 hk.size, by rw [byteCells_append]; exact hown⟩ hk

set_option maxRecDepth 100000 in
/-- 'string(b)'. -/
theorem string_of_buf {B : Nat} {A : Option Addr} {n c : Nat} {bs : List UInt8} {w : World} (h : Buf B A n c bs w) :
    (convert 27 9 (.slice A n c)).run Try.prog w = .ok (.string (txt bs)) w := by
  rcases h.2.2.2 with ⟨hv, h0⟩ | ⟨g, cap, cur, hv, _⟩
  · injection hv with h1 h2 h3
    subst h1 h2 h3
    have hb : bs = [] := List.eq_nil_of_length_eq_zero h.1.symm
    subst hb
    rw [run_convert_bytes_string w 27 9 5 none 0 0 Try.underlying27 Try.underlying5 Try.underlying9]
    simp [Conv.bytesToString, txt]
    rfl
  · injection hv with h1 h2 h3
    subst h1 h3
    have hn := h.1
    subst hn
    refine run_convert_bytes_back (P := Try.prog) w 27 9 5 ⟨g, 0, none⟩ c bs Try.underlying27 Try.underlying5 Try.underlying9 (fun j hj => ?_)
    refine h.2.2.cells (g := g) rfl j _ ?_
    simp [byteCells, List.getElem?_eq_getElem hj]
end Go.Proofs.Ytkpajmgbiepmbaa
