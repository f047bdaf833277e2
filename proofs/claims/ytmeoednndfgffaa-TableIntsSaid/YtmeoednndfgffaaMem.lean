/- What a seat needs of several texts. -/
import Derived.Test.YtmeoednndfgffaaRows
import Derived.WalkKit
import Derived.WalkLawsBesides
import Derived.WalkSpells
import Derived.ProofKit
import Derived.Below
import Derived.Outline
import Derived.Lib.Hide
import Derived.BigQuiet
import Derived.Deep.QuietTactic
import Derived.Deep.RegionWith
import Derived.Deep.RegionHeld3
import Derived.LoopTactic
import Derived.Lib.BufferMore
import Derived.Lib.Bytealg
import Derived.Lib.Small
import Derived.Lib.Replace
import Derived.Maps.AppendAt
import Derived.Deep.AppendLies
import Derived.Deep.Onto
import Derived.Lib.AppendStr
import Derived.Lib.UnsafeStr
import Derived.OwnWalk
import Derived.Laws.IdiomStrings
import Derived.RangeFuncBox
/- From Mem. -/
namespace Go.Proofs.Ytmeoednndfgffaa
open Go.ChangeShapes Go.WideShapes Go.ChangeAt Go.RowKit
open Go.Lib (byteCells byteCells_length byteCells_append strCells)
set_option linter.unusedVariables false
def in64 (x : Int) : Prop := -9223372036854775808 ≤ x ∧ x ≤ 9223372036854775807
def txt (l : List UInt8) : ByteArray := ⟨l.toArray⟩
theorem txt_list (l : List UInt8) : (txt l).data.toList = l := rfl
theorem txt_data (s : ByteArray) : txt s.data.toList = s := by cases s; simp [txt]
theorem txt_size (l : List UInt8) : (txt l).size = l.length := by simp [txt, ByteArray.size]
theorem size_eq (s : ByteArray) : s.size = s.data.toList.length := by simp
theorem str_ext {a b : ByteArray} (h : a.data.toList = b.data.toList) : a = b := by
  rw [← txt_data a, ← txt_data b, h]
theorem str_beq (a b : ByteArray) : (a.toList == b.toList) = decide (a = b) := by
  rw [Lib.toList_data, Lib.toList_data]
  by_cases h : a = b
  · subst h; simp
  · rw [decide_eq_false h, beq_eq_false_iff_ne]
    exact fun e => h (str_ext e)
theorem str_eq {a b : ByteArray} (h : a = b) : (a.toList == b.toList) = true := by rw [str_beq, decide_eq_true h]
theorem str_ne {a b : ByteArray} (h : a ≠ b) : (a.toList == b.toList) = false := by rw [str_beq, decide_eq_false h]
theorem ret_int {k : IntKind} {a b : Int} (h : a = b) : Ending.returned (.int k a) = .returned (.int k b) := by rw [h]
theorem ret_bool {a b : Bool} (h : a = b) : Ending.returned (.bool a) = .returned (.bool b) := by rw [h]
theorem add_at (b off j : Nat) : (⟨b, off, none⟩ : Addr).add j = ⟨b, off + j, none⟩ := by unfold Addr.add; split <;> simp_all
theorem infoByte : (Try.prog.info? 5).map (fun i => (i.zero, i.size, i.bytes)) = some (some (Value.int .u8 0), 1, 1) := by kernel_rfl
/-- The slice owns the bytes bs, in a block from B on. -/
def Buf (B : Nat) (A : Option Addr) (n c : Nat) (bs : List UInt8) (w : World) : Prop := n = bs.length ∧ B ≤ w.heap.size ∧ w.ownsRow B 5 1 (.slice A n c) n (byteCells bs)
/-- Below B nothing has turned; nor has any block but rows of bytes. -/
structure Keep (B : Nat) (w w' : World) : Prop where
  below : Below B w w'
  block : ∀ (k : Nat) (o : Obj), w.heap[k]? = some o → (∀ cur f, o ≠ Obj.cells cur 5 f) → w'.heap[k]? = some o
theorem Keep.refl (B : Nat) (w : World) : Keep B w w := ⟨Below.refl _ _, fun _ _ h _ => h⟩
theorem Keep.trans {B : Nat} {a b c : World} (h : Keep B a b) (k : Keep B b c) : Keep B a c := ⟨h.below.trans k.below, fun i o h1 h2 => k.block i o (h.block i o h1 h2) h2⟩
theorem Keep.alloc {B : Nat} {a w : World} (h : Keep B a w) (hB : B ≤ w.heap.size) (o : Obj) : Keep B a (w.alloc o) :=
  ⟨h.below.alloc hB o, fun i x h1 h2 => by
    have h3 := h.block i x h1 h2
    exact (Below.heap_alloc w o i (Array.getElem?_eq_some_iff.1 h3).1).trans h3⟩
theorem Keep.drew {B : Nat} {a w : World} (h : Keep B a w) : Keep B a w.drew := ⟨h.below.drew, h.block⟩
theorem Keep.of_below {B : Nat} {w w' : World} (h : Below w.heap.size w w') (hB : B ≤ w.heap.size) : Keep B w w' :=
  ⟨h.mono hB, fun i x h1 _ => (h.block i (Array.getElem?_eq_some_iff.1 h1).1).trans h1⟩
theorem Keep.mono {B B' : Nat} {w w' : World} (h : Keep B w w') (hB : B' ≤ B) : Keep B' w w' := ⟨h.below.mono hB, h.block⟩
theorem Keep.size {B : Nat} {w w' : World} (h : Keep B w w') : w.heap.size ≤ w'.heap.size := h.below.size
theorem Buf.nil (B : Nat) (w : World) (h : B ≤ w.heap.size) : Buf B none 0 0 [] w := ⟨rfl, h, World.ownsRow_nil w B _ 1⟩
theorem Buf.alloc {B : Nat} {A : Option Addr} {n c : Nat} {bs : List UInt8} {w : World} (h : Buf B A n c bs w) (o : Obj) : Buf B A n c bs (w.alloc o) :=
  ⟨h.1, Nat.le_trans h.2.1 (by simp), h.2.2.alloc o⟩
theorem Buf.drew {B : Nat} {A : Option Addr} {n c : Nat} {bs : List UInt8} {w : World} (h : Buf B A n c bs w) : Buf B A n c bs w.drew := h
theorem Buf.more {B B' : Nat} {A : Option Addr} {n c : Nat} {bs : List UInt8} {w : World} (h : Buf B A n c bs w) (hB : B' ≤ B) : Buf B' A n c bs w := ⟨h.1, Nat.le_trans hB h.2.1, h.2.2.mono hB⟩
theorem own_below {w w' : World} {base : Nat} {e : TypeId} {size : Nat} {v : Value} {n : Nat} {xs : List Value} (h : w.ownsRow base e size v n xs) (hb : Below w.heap.size w w') : w'.ownsRow base e size v n xs := by
  refine ⟨h.1, ?_⟩
  rcases h.2 with ⟨rfl, h0⟩ | ⟨g, cap, cur, rfl, hg, hh, rest⟩
  · exact .inl ⟨rfl, h0⟩
  · exact .inr ⟨g, cap, cur, rfl, hg, (hb.block g (Array.getElem?_eq_some_iff.1 hh).1).trans hh, rest⟩
theorem Buf.below {B : Nat} {A : Option Addr} {n c : Nat} {bs : List UInt8} {w w' : World} (h : Buf B A n c bs w) (hb : Below w.heap.size w w') : Buf B A n c bs w' :=
  ⟨h.1, Nat.le_trans h.2.1 hb.size, own_below h.2.2 hb⟩
theorem own_slice {w : World} {base : Nat} {e : TypeId} {size : Nat} {v : Value} {n : Nat} {xs : List Value} (h : w.ownsRow base e size v n xs) : ∃ A c, v = .slice A n c := by
  rcases h.2 with ⟨rfl, rfl⟩ | ⟨g, cap, cur, rfl, _⟩
  · exact ⟨none, 0, rfl⟩
  · exact ⟨_, cap, rfl⟩
theorem Keep.grown {B : Nat} {w w' : World} {A : Option Addr} {n c : Nat} {bs : List UInt8} (h : Buf B A n c bs w) (hg : w.grownBy w' (Value.ownBlock (.slice A n c))) : Keep B w w' := by
  refine ⟨(Below.refl B w).grown hg h.2.1 (fun k hk => (h.2.2.lt k hk).1), fun i o h1 h2 => ?_⟩
  refine (hg.block i (Array.getElem?_eq_some_iff.1 h1).1 (fun e => ?_)).trans h1
  rcases h.2.2.2 with ⟨hv, _⟩ | ⟨g, cap, cur, hv, _, hh, _⟩
  · rw [hv] at e; simp [Value.ownBlock] at e
  · rw [hv] at e
    simp only [Value.ownBlock, Option.some.injEq] at e
    subst e
    exact h2 cur (0, 0) (by rw [h1] at hh; exact Option.some.inj hh)
theorem byte_one (bs : List UInt8) : ∀ u ∈ byteCells bs, u.oneCell' = true := by
  intro u hu
  simp only [byteCells, List.mem_map] at hu
  obtain ⟨b, _, rfl⟩ := hu
  rfl
theorem new_cells (w : World) (l : List Value) (t : TypeId) : ∀ j u, l[j]? = some u → (w.alloc (.cells l.toArray t)).cell? ((⟨w.heap.size, 0, none⟩ : Addr).add j) = some u := by
  intro j u hj
  have e : (⟨w.heap.size, 0, none⟩ : Addr).add j = ⟨w.heap.size, j, none⟩ := by unfold Addr.add; split <;> simp_all
  rw [e, World.cell?_alloc_mark]
  simpa using hj
/-- 'b = append(b, x..)' of bytes that have just been laid. -/
theorem append_bytes {ops : Array Oper} {rest : List Oper} {o : Oper} {a : Act} {Q : Exit → Act → World → Prop} (hgd : o.guard = none) (s x : Operand)
    (ho : o.op = .call { callee := .builtin .append, args := #[s, x], argTypes := #[60, 60] })
    (B : Nat) (A : Option Addr) (n c : Nat) (bs : List UInt8) (hs : a.eval s = .slice A n c) (w0 : World) (news : List UInt8) (m : Nat) (hb : Buf B A n c bs w0)
    (L : Nat) (hx : a.eval x = .slice (some ⟨L, 0, none⟩) m m) (hL : L = w0.heap.size) (hm : m = news.length) (cells : List Value) (hcells : cells = byteCells news) (hlen : bs.length + news.length ≤ 1099511627776)
    (h : ∀ A' n' c' w', n' = n + m → Buf B A' n' c' (bs ++ news) w' → Keep B w0 w' → wpList Try.prog ops Q rest (a.put o.dst (.slice A' n' c')) w') :
    wpList Try.prog ops Q (o :: rest) a (w0.alloc (.cells cells.toArray 5)) := by
  subst hm
  subst hcells
  subst hL
  obtain ⟨i0, hi, hz0, hz1, hz2⟩ := info_parts infoByte
  have hb1 := hb.alloc (.cells (byteCells news).toArray 5)
  refine wpList_append_own_at _ hgd s x 60 ho B 5 i0 _ 1 1 Try.underlying60 hi hz0 hz1 hz2 rfl (by decide) (.slice A n c) n (byteCells bs) hs hb1.2.2 ⟨w0.heap.size, 0, none⟩ news.length news.length (byteCells news) hx (by rw [byteCells_length, Nat.mul_one])
    (new_cells w0 _ _) (byte_one _) (by have := hb.1; unfold maxLen; omega) (by have := hb.1; omega) hb1.2.1 ?_
  intro v' w' hown hg _ _
  obtain ⟨A', c', rfl⟩ := own_slice hown
  have hk : Keep B w0 w' := ((Keep.refl B w0).alloc hb.2.1 _).trans (Keep.grown hb1 hg)
  refine h A' (n + news.length) c' w' rfl ⟨by rw [hb.1]; simp, Nat.le_trans hb.2.1 hk.size, by rw [byteCells_append]; exact hown⟩ hk
/-- 'b = append(b, s...)' of a text. -/
theorem append_text {ops : Array Oper} {rest : List Oper} {o : Oper} {a : Act} {Q : Exit → Act → World → Prop} (hgd : o.guard = none) (sl x : Operand)
    (ho : o.op = .call { callee := .builtin .append, args := #[sl, x], argTypes := #[60, 9] })
    (B : Nat) (A : Option Addr) (n c : Nat) (bs : List UInt8) (hs : a.eval sl = .slice A n c) (w0 : World) (t : ByteArray) (hb : Buf B A n c bs w0)
    (hx : a.eval x = .string t) (hlen : bs.length + t.size ≤ 1099511627776)
    (h : ∀ A' n' c' w', n' = n + t.size → Buf B A' n' c' (bs ++ t.data.toList) w' → Keep B w0 w' → wpList Try.prog ops Q rest (a.put o.dst (.slice A' n' c')) w') :
    wpList Try.prog ops Q (o :: rest) a w0 := by
  obtain ⟨i0, hi, hz0, hz1, hz2⟩ := info_parts infoByte
  refine Lib.wpList_append_own_string _ hgd sl x 60 9 ho B 5 i0 Try.underlying60 Try.underlying9 hi hz0 hz1 hz2 (.slice A n c) n (byteCells bs) hs hb.2.2 t hx (by have := hb.1; unfold maxLen; omega) (by have := hb.1; omega) hb.2.1 ?_
  intro v' w' hown hg _
  obtain ⟨A', c', rfl⟩ := own_slice hown
  have hk : Keep B w0 w' := Keep.grown hb hg
  refine h A' (n + t.size) c' w' rfl ⟨by rw [hb.1]; simp, Nat.le_trans hb.2.1 hk.size, by rw [byteCells_append]; exact hown⟩ hk
set_option maxRecDepth 100000 in
/-- 'string(b)'. -/
theorem string_of_buf {B : Nat} {A : Option Addr} {n c : Nat} {bs : List UInt8} {w : World} (h : Buf B A n c bs w) :
    (convert 60 9 (.slice A n c)).run Try.prog w = .ok (.string (txt bs)) w := by
  rcases h.2.2.2 with ⟨hv, h0⟩ | ⟨g, cap, cur, hv, _⟩
  · injection hv with h1 h2 h3
    subst h1 h2 h3
    have hb : bs = [] := List.eq_nil_of_length_eq_zero h.1.symm
    subst hb
    rw [run_convert_bytes_string w 60 9 5 none 0 0 Try.underlying60 Try.underlying5 Try.underlying9]
    simp [Conv.bytesToString, txt]
    rfl
  · injection hv with h1 h2 h3
    subst h1 h3
    have hn := h.1
    subst hn
    refine run_convert_bytes_back (P := Try.prog) w 60 9 5 ⟨g, 0, none⟩ c bs Try.underlying60 Try.underlying5 Try.underlying9 (fun j hj => ?_)
    refine h.2.2.cells (g := g) rfl j _ ?_
    simp [byteCells, List.getElem?_eq_getElem hj]
/-- The bytes l lie side by side from A on, below block B. -/
def BytesAt (w : World) (B : Nat) (A : Option Addr) (l : List UInt8) : Prop :=
  ∀ (j : Nat) (h : j < l.length), ∃ b off, A = some ⟨b, off, none⟩ ∧ b < B ∧ w.cell? ⟨b, off + j, none⟩ = some (.int .u8 (l[j].toNat : Int))
theorem BytesAt.below {w w' : World} {B : Nat} {A : Option Addr} {l : List UInt8} (h : BytesAt w B A l) (hb : Below B w w') : BytesAt w' B A l := by
  intro j hj
  obtain ⟨b, off, e, hlt, h0⟩ := h j hj
  exact ⟨b, off, e, hlt, (hb.cell (p := ⟨b, _, none⟩) hlt).trans h0⟩
theorem BytesAt.more {w : World} {B B' : Nat} {A : Option Addr} {l : List UInt8} (h : BytesAt w B A l) (hb : B ≤ B') : BytesAt w B' A l := by
  intro j hj
  obtain ⟨b, off, e, hlt, h0⟩ := h j hj
  exact ⟨b, off, e, by omega, h0⟩
theorem BytesAt.drop {w : World} {B : Nat} {A : Option Addr} {l : List UInt8} (h : BytesAt w B A l) (n c : Nat) (hn : n ≤ l.length) (hc : l.length ≤ c) : BytesAt w B (if c = n then A else A.map (·.add n)) (l.drop n) := by
  intro j hj
  rw [List.length_drop] at hj
  obtain ⟨b, off, rfl, hlt, h0⟩ := h (n + j) (by omega)
  rw [if_neg (by omega)]
  refine ⟨b, off + n, by simp [add_at], hlt, ?_⟩
  rw [List.getElem_drop, Nat.add_assoc]
  exact h0
theorem BytesAt.take {w : World} {B : Nat} {A : Option Addr} {l : List UInt8} (h : BytesAt w B A l) (n : Nat) : BytesAt w B A (l.take n) := by
  intro j hj
  rw [List.length_take] at hj
  obtain ⟨b, off, rfl, hlt, h0⟩ := h j (by omega)
  exact ⟨b, off, rfl, hlt, by rw [List.getElem_take]; exact h0⟩
set_option maxRecDepth 100000 in
/-- 'string(b)' of bytes that lie somewhere. -/
theorem string_of_bytes {B : Nat} (A : Option Addr) (n c : Nat) (bs : List UInt8) (w : World) (hn : n = bs.length) (h : BytesAt w B A bs) :
    (convert 60 9 (.slice A n c)).run Try.prog w = .ok (.string (txt bs)) w := by
  subst hn
  cases A with
  | none =>
    have hb : bs = [] := by
      cases bs with
      | nil => rfl
      | cons x t => obtain ⟨b, off, e, _⟩ := h 0 (by simp); cases e
    subst hb
    rw [List.length_nil, run_convert_bytes_string w 60 9 5 none 0 c Try.underlying60 Try.underlying5 Try.underlying9]
    simp [Conv.bytesToString, txt]
    rfl
  | some a =>
    refine run_convert_bytes_back (P := Try.prog) w 60 9 5 a c bs Try.underlying60 Try.underlying5 Try.underlying9 (fun j hj => ?_)
    obtain ⟨b, off, e, _, hc⟩ := h j hj
    injection e with e
    subst e
    rw [add_at]
    exact hc
theorem laid_bytes (s : ByteArray) (w : World) (cap : Nat) (t : TypeId) (fr : Nat × Nat) : BytesAt (w.alloc (.cells (bytesRow s cap) t fr)).drew (w.alloc (.cells (bytesRow s cap) t fr)).drew.heap.size (some ⟨w.heap.size, 0, none⟩) s.data.toList := by
  intro j hj
  have hj' : j < s.data.size := by simpa using hj
  refine ⟨w.heap.size, 0, rfl, ?_, ?_⟩
  · show w.heap.size < (w.alloc (.cells (bytesRow s cap) t fr)).heap.size
    simp
  rw [Nat.zero_add]
  show (w.alloc (.cells (bytesRow s cap) t fr)).cell? _ = _
  rw [World.cell?_alloc_mark]
  unfold bytesRow
  rw [Array.getElem?_append_left (by simpa using hj')]
  have e : s.data[j]? = some s.data[j] := Array.getElem?_eq_getElem hj'
  simp [e]
theorem Buf.bytes {B : Nat} {A : Option Addr} {n c : Nat} {bs : List UInt8} {w : World} (h : Buf B A n c bs w) : BytesAt w w.heap.size A bs := by
  intro j hj
  have hn := h.1
  obtain ⟨g, cap, hv, _, hlt⟩ := h.2.2.form (by omega)
  injection hv with h1 h2 h3
  subst h1
  have := h.2.2.cells (g := g) rfl j (.int .u8 (bs[j].toNat : Int)) (by simp [byteCells, List.getElem?_eq_getElem hj])
  rw [add_at] at this
  exact ⟨g, 0, rfl, hlt, this⟩
theorem below_drewN (w : World) (k : Nat) : Below w.heap.size w (w.drewN k) := ⟨rfl, rfl, rfl, Nat.le_refl _, fun _ _ => rfl⟩
theorem below_more {B : Nat} {w w1 : World} (h : Below B w w1) (k : Nat) : Below B w (w1.drewN k) := ⟨h.os, h.tape, h.output, h.size, h.block⟩
/-- Bytes in new memory. -/
def BufPost (bs : List UInt8) (w : World) (e : Ending) (w' : World) : Prop :=
  ∃ A n c, e = .returned (.slice A n c) ∧ Buf w.heap.size A n c bs w' ∧ Below w.heap.size w w'
section
variable {α : Type} {f : α → List Value} {sz : Nat}
/-- The items l lie side by side from A on, below block B. -/
def RowC (f : α → List Value) (sz : Nat) (w : World) (B : Nat) (A : Option Addr) (l : List α) : Prop :=
  ∀ (j : Nat) (h : j < l.length), ∃ b off, A = some ⟨b, off, none⟩ ∧ b < B ∧ ∀ i v, (f l[j])[i]? = some v → w.cell? ⟨b, off + j * sz + i, none⟩ = some v
theorem RowC.below {w w' : World} {B : Nat} {A : Option Addr} {l : List α} (h : RowC f sz w B A l) (hb : Below B w w') : RowC f sz w' B A l := by
  intro j hj
  obtain ⟨b, off, e, hlt, h0⟩ := h j hj
  exact ⟨b, off, e, hlt, fun i v hv => (hb.cell (p := ⟨b, _, none⟩) hlt).trans (h0 i v hv)⟩
theorem RowC.more {w : World} {B B' : Nat} {A : Option Addr} {l : List α} (h : RowC f sz w B A l) (hb : B ≤ B') : RowC f sz w B' A l := by
  intro j hj
  obtain ⟨b, off, e, hlt, h0⟩ := h j hj
  exact ⟨b, off, e, by omega, h0⟩
theorem flat_at (hl : ∀ a, (f a).length = sz) : ∀ (l : List α) (q : Nat) (h : q < l.length) (i : Nat) (u : Value), (f l[q])[i]? = some u → (l.flatMap f)[q * sz + i]? = some u
  | [], q, h, i, u, hu => by simp at h
  | a :: l, 0, h, i, u, hu => by
    rw [List.flatMap_cons, Nat.zero_mul, Nat.zero_add]
    have hu' : (f a)[i]? = some u := hu
    have hi : i < (f a).length := (List.getElem?_eq_some_iff.1 hu').1
    rw [List.getElem?_append_left hi]
    exact hu'
  | a :: l, q + 1, h, i, u, hu => by
    have ih := flat_at hl l q (by simpa using h) i u (by simpa using hu)
    rw [List.flatMap_cons, List.getElem?_append_right (by rw [hl, Nat.add_mul, Nat.one_mul]; omega), hl]
    rw [show (q + 1) * sz + i - sz = q * sz + i by rw [Nat.add_mul, Nat.one_mul]; omega]
    exact ih
theorem flat_length (hl : ∀ a, (f a).length = sz) (l : List α) : (l.flatMap f).length = l.length * sz := by
  induction l with
  | nil => simp
  | cons a l ih => rw [List.flatMap_cons, List.length_append, hl, ih, List.length_cons, Nat.add_mul, Nat.one_mul, Nat.add_comm]
theorem RowC.own {w : World} {base : Nat} {E : TypeId} {A : Option Addr} {n c : Nat} {l : List α} (hl : ∀ a, (f a).length = sz) (hs : 0 < sz) (h : w.ownsRow base E sz (.slice A n c) n (l.flatMap f)) : n = l.length ∧ RowC f sz w w.heap.size A l := by
  have h1 := h.1
  rw [flat_length hl] at h1
  have hn : n = l.length := (Nat.eq_of_mul_eq_mul_right hs h1).symm
  refine ⟨hn, fun j hj => ?_⟩
  obtain ⟨g, cap, hv, _, hlt⟩ := h.form (by omega)
  have hc := h.cells (g := g) (by rw [hv]; rfl)
  injection hv with h1 _ _
  subst h1
  refine ⟨g, 0, rfl, hlt, fun i v hv => ?_⟩
  have := hc _ _ (flat_at hl l j hj i v hv)
  rw [add_at] at this
  rw [Nat.add_assoc]
  exact this
theorem RowC.nil (w : World) (B : Nat) (A : Option Addr) : RowC f sz w B A [] := fun j hj => by simp at hj
theorem flat_one (h1 : ∀ a, ∀ u ∈ f a, u.oneCell' = true) (l : List α) : ∀ u ∈ l.flatMap f, u.oneCell' = true := by
  intro u hu
  rw [List.mem_flatMap] at hu
  obtain ⟨a, _, ha⟩ := hu
  exact h1 a u ha
end
/-- 'l = append(l, v)' of one item that has just been laid. -/
theorem append_item {α : Type} {f : α → List Value} {sz bytes : Nat} {T E : TypeId} {z : Value} (hT : Try.prog.underlying T = some (.slice E)) (hinfo : (Try.prog.info? E).map (fun i => (i.zero, i.size, i.bytes)) = some (some z, sz, bytes)) (hz : z.cells.size = sz) (hsz : 0 < sz)
    (hl : ∀ a, (f a).length = sz) (h1 : ∀ a, ∀ u ∈ f a, u.oneCell' = true)
    {ops : Array Oper} {rest : List Oper} {o : Oper} {a : Act} {Q : Exit → Act → World → Prop} (hgd : o.guard = none) (s x : Operand)
    (ho : o.op = .call { callee := .builtin .append, args := #[s, x], argTypes := #[T, T] })
    (B : Nat) (A : Option Addr) (n c : Nat) (l : List α) (hs : a.eval s = .slice A n c) (w0 : World) (v : α) (hb : w0.ownsRow B E sz (.slice A n c) n (l.flatMap f)) (hB : B ≤ w0.heap.size)
    (L : Nat) (hx : a.eval x = .slice (some ⟨L, 0, none⟩) 1 1) (hL : L = w0.heap.size) (hlen : (n + 1) * bytes ≤ 140737488355328) (hn : n + 1 ≤ maxLen) (cells : List Value) (hcells : cells = f v)
    (h : ∀ A' n' c' w', n' = n + 1 → w'.ownsRow B E sz (.slice A' n' c') n' ((l ++ [v]).flatMap f) → Below B w0 w' → (w0.alloc (.cells cells.toArray E)).grownBy w' (Value.ownBlock (.slice A n c)) → wpList Try.prog ops Q rest (a.put o.dst (.slice A' n' c')) w') :
    wpList Try.prog ops Q (o :: rest) a (w0.alloc (.cells cells.toArray E)) := by
  subst hL
  subst hcells
  obtain ⟨i0, hi, hz0, hz1, hz2⟩ := info_parts hinfo
  have hb1 := hb.alloc (.cells (f v).toArray E)
  refine wpList_append_own_at _ hgd s x T ho B E i0 _ sz bytes hT hi hz0 hz1 hz2 hz hsz (.slice A n c) n (l.flatMap f) hs hb1 ⟨w0.heap.size, 0, none⟩ 1 1 (f v) hx (by rw [hl, Nat.one_mul])
    (new_cells w0 _ _) (h1 v) hn hlen (by simp; omega) ?_
  intro v' w' hown hg _ _
  obtain ⟨A', c', rfl⟩ := own_slice hown
  refine h A' (n + 1) c' w' rfl (by rw [List.flatMap_append]; simpa using hown) ?_ hg
  exact ((Below.refl B w0).alloc hB _).grown hg (by simp; omega) (fun k e => (hb.lt k e).1)
def sCells (s : ByteArray) : List Value := [.string s]
theorem sCells_length (n : ByteArray) : (sCells n).length = 1 := rfl
theorem sCells_one (n : ByteArray) : ∀ u ∈ sCells n, u.oneCell' = true := by simp [sCells, Value.oneCell']
end Go.Proofs.Ytmeoednndfgffaa
