/- What a seat needs of several texts. -/
import Derived.Test.YtceoneigflejeaaOffC3
import Derived.OrdersHeld
import Derived.KernelRfl
import Derived.Laws.IdiomCopy
import Derived.Lib.EndianMore
/- From Region. -/
namespace Go.Proofs.Ytceoneigflejeaa
open Go
end Go.Proofs.Ytceoneigflejeaa
/- From CodNums. -/
namespace Go.Proofs.Ytceoneigflejeaa
open Go.ChangeShapes Go.WideShapes Go.ChangeAt Go.RowKit
open Go.Lib (byteCells byteCells_length byteCells_append strCells)
set_option linter.unusedVariables false
theorem laid_bytes (s : ByteArray) (w : World) (cap : Nat) (t : TypeId) (fr : Nat × Nat) : BytesAt (w.alloc (.cells (bytesRow s cap) t fr)).drew (w.alloc (.cells (bytesRow s cap) t fr)).drew.heap.size (some ⟨w.heap.size, 0, none⟩) s.data.toList := by
  intro j hj
  have hj' : j < s.data.size := by simpa using hj
  refine ⟨w.heap.size, 0, rfl, ?_, ?_⟩
  · show w.heap.size < (w.alloc (.cells (bytesRow s cap) t fr)).heap.size
    simp
  rw [Nat.zero_add]
  show (w.alloc (.cells (bytesRow s cap) t fr)).cell? _ = _
  rw [World.cell?_alloc_mark]
  unfold bytesRow
  rw [Array.getElem?_append_left (by simpa using hj')]
  have e : s.data[j]? = some s.data[j] := Array.getElem?_eq_getElem hj'
  simp [e]
end Go.Proofs.Ytceoneigflejeaa
/- From CodRtell. -/
namespace Go.Proofs.Ytceoneigflejeaa
open Go.ChangeShapes Go.WideShapes Go.ChangeAt Go.RowKit
open Go.Lib (byteCells byteCells_length byteCells_append strCells)
set_option linter.unusedVariables false
theorem pnum_walk (n : Nat) (hn : n < 18446744073709551616) (w : World) :
    Calls Try.prog 32 #[.int .u64 (n : Int)] w fun e w' => e = .returned (.string (txt (numL n))) ∧ Below w.heap.size w w' :=
  rnum_walk 10 n (by have e : (128 : Nat) ^ 10 = 1180591620717411303424 := by decide
                     omega) hn w
theorem pint_walk (n : Int) (h : in64 n) (w : World) :
    Calls Try.prog 33 #[.int .i64 n] w fun e w' => e = .returned (.int .u64 (zig n : Int)) ∧ w = w' := by
  unfold in64 at h
  by_cases hn : n < 0
  · have h1 : IntKind.i64.wrap (n + 1) = n + 1 := by rw [IntKind.wrap_i64]; omega
    have h2 : IntKind.i64.wrap (-(n + 1)) = -(n + 1) := by rw [IntKind.wrap_i64]; omega
    have h3 : IntKind.u64.wrap (-(n + 1)) = -(n + 1) := by rw [IntKind.wrap_u64]; omega
    have h4 : IntKind.u64.wrap (-(n + 1) * 2) = -(n + 1) * 2 := by rw [IntKind.wrap_u64]; omega
    have h5 : IntKind.u64.wrap (-(n + 1) * 2 + 1) = -(n + 1) * 2 + 1 := by rw [IntKind.wrap_u64]; omega
    have HZ := Lib.hid (show -(n + 1) * 2 + 1 = (zig n : Int) by unfold zig; rw [if_pos hn]; omega)
    clear h
    go_enter Try.func33, Try.ntmps33
    go_wp2
    go_ret
    exact ⟨by rw [HZ.out]; rfl, rfl⟩
  · have h3 : IntKind.u64.wrap n = n := by rw [IntKind.wrap_u64]; omega
    have h4 : IntKind.u64.wrap (n * 2) = n * 2 := by rw [IntKind.wrap_u64]; omega
    have HZ := Lib.hid (show n * 2 = (zig n : Int) by unfold zig; rw [if_neg hn]; omega)
    clear h
    go_enter Try.func33, Try.ntmps33
    go_wp2
    go_ret
    exact ⟨by rw [HZ.out]; rfl, rfl⟩
end Go.Proofs.Ytceoneigflejeaa
/- From CodBufZ. -/
namespace Go.Proofs.Ytceoneigflejeaa
open Go.ChangeShapes Go.WideShapes Go.ChangeAt Go.RowKit
open Go.Lib (byteCells byteCells_length byteCells_append strCells strCells_length strCells_oneCell)
set_option linter.unusedVariables false
/-- Bytes of the call's own, in a block g from B on, with room up to c. -/
structure BufZ (B : Nat) (A : Option Addr) (n c : Nat) (bs : List UInt8) (w : World) : Prop where
  len : n = bs.length
  base : B ≤ w.heap.size
  cap : n ≤ c ∧ c ≤ maxLen
  lies : ∃ g, A = some ⟨g, 0, none⟩ ∧ B ≤ g ∧ g < w.heap.size ∧ (∀ j, j < c → (w.cell? ⟨g, j, none⟩).isSome = true ∧ w.frozen? ⟨g, j, none⟩ = false) ∧ ∀ j (h : j < bs.length), w.cell? ⟨g, j, none⟩ = some (.int .u8 (bs[j].toNat : Int))
theorem BufZ.below {B : Nat} {A : Option Addr} {n c : Nat} {bs : List UInt8} {w w' : World} (h : BufZ B A n c bs w) (hb : Below w.heap.size w w') : BufZ B A n c bs w' := by
  obtain ⟨g, e, hg, hlt, h1, h2⟩ := h.lies
  refine ⟨h.len, Nat.le_trans h.base hb.size, h.cap, g, e, hg, Nat.lt_of_lt_of_le hlt hb.size, fun j hj => ⟨?_, ?_⟩, fun j hj => ?_⟩
  · rw [hb.cell (p := ⟨g, j, none⟩) hlt]; exact (h1 j hj).1
  · rw [hb.frozen (p := ⟨g, j, none⟩) hlt]; exact (h1 j hj).2
  · rw [hb.cell (p := ⟨g, j, none⟩) hlt]; exact h2 j hj
theorem BufZ.bytes {B : Nat} {A : Option Addr} {n c : Nat} {bs : List UInt8} {w : World} (h : BufZ B A n c bs w) : BytesAt w w.heap.size A bs := by
  obtain ⟨g, e, hg, hlt, h1, h2⟩ := h.lies
  intro j hj
  exact ⟨g, 0, e, hlt, by rw [Nat.zero_add]; exact h2 j hj⟩
theorem BufZ.str {B : Nat} {A : Option Addr} {n c : Nat} {bs : List UInt8} {w : World} (h : BufZ B A n c bs w) : (convert 37 9 (.slice A n c)).run Try.prog w = .ok (.string (txt bs)) w :=
  string_of_bytes A n c bs w h.len h.bytes
theorem bytesRow_size (s : ByteArray) (cap : Nat) (h : s.size ≤ cap) : (bytesRow s cap).size = cap := by
  unfold bytesRow
  have : s.data.size = s.size := rfl
  simp
  omega
/-- '[]byte(s)'. -/
theorem BufZ.laid (s : ByteArray) (w : World) (cap : Nat) (h : s.size ≤ cap) (hm : cap ≤ maxLen) : BufZ w.heap.size (some ⟨w.heap.size, 0, none⟩) s.size cap s.data.toList (w.alloc (.cells (bytesRow s cap) 5 ((bytesRow s cap).size, (bytesRow s cap).size + 1))).drew := by
  have hsz := bytesRow_size s cap h
  refine ⟨size_eq s, ?_, ⟨h, hm⟩, w.heap.size, rfl, Nat.le_refl _, ?_, fun j hj => ⟨?_, ?_⟩, fun j hj => ?_⟩
  · show w.heap.size ≤ (w.alloc _).heap.size
    simp
  · show w.heap.size < (w.alloc _).heap.size
    simp
  · show ((w.alloc _).cell? _).isSome = true
    rw [World.cell?_alloc_mark]
    rw [Array.getElem?_eq_getElem (by rw [hsz]; exact hj)]
    rfl
  · show (w.alloc _).frozen? _ = false
    rw [World.frozen?_alloc_mark, hsz, decide_eq_false (by omega)]
    rfl
  · obtain ⟨b, off, e, _, hc⟩ := laid_bytes s w cap 5 ((bytesRow s cap).size, (bytesRow s cap).size + 1) j hj
    obtain ⟨rfl, rfl⟩ : w.heap.size = b ∧ 0 = off := by simpa using e
    rw [Nat.zero_add] at hc
    exact hc
theorem str_cells (s : ByteArray) : strCells s = byteCells s.data.toList := rfl
theorem byteCells_at (bs : List UInt8) (j : Nat) (h : j < bs.length) : (byteCells bs)[j]? = some (.int .u8 (bs[j].toNat : Int)) := by
  simp [byteCells, List.getElem?_eq_getElem h]
theorem size_setCells (g : Nat) : ∀ (vs : List Value) (o : Nat) (w : World), (w.setCells g o vs).heap.size = w.heap.size
  | [], _, _ => rfl
  | v :: r, o, w => by
    rw [World.setCells, size_setCells g r (o + 1) _]
    simp [World.setCell]
set_option maxRecDepth 100000 in
set_option maxHeartbeats 1000000 in
/-- 'append(b, s...)', as an equation. -/
theorem run_textZ (B : Nat) (A : Option Addr) (n c : Nat) (bs : List UInt8) (w : World) (t : ByteArray) (ty : TypeId) (hb : BufZ B A n c bs w) (hlen : bs.length + t.size ≤ 1099511627776) :
    ∃ A' c' w', (Builtin.append_ #[37, 9] ty #[.slice A n c, .string t]).run Try.prog w = .ok (.slice A' (n + t.size) c') w' ∧ BufZ B A' (n + t.size) c' (bs ++ t.data.toList) w' ∧ Below B w w' := by
  obtain ⟨i0, hi, hz0, hz1, hz2⟩ := info_parts infoByte
  obtain ⟨g, rfl, hg, hlt, h1, h2⟩ := hb.lies
  have hn := hb.len
  have hc := hb.cap
  have hts : (strCells t).length = t.size := strCells_length t
  by_cases hroom : n + t.size ≤ c
  · have hf := Lib.run_firstCells_string (P := Try.prog) w 1 t
    have hst := run_storeCells_cells (P := Try.prog) g n (strCells t) 0 w (fun j hj => by rw [Nat.add_zero]; exact (h1 (n + j) (by omega)).1) (fun j hj => by rw [Nat.add_zero]; exact (h1 (n + j) (by omega)).2) (strCells_oneCell t)
    rw [Nat.add_zero] at hst
    refine ⟨some ⟨g, 0, none⟩, c, w.setCells g n (strCells t), ?_, ?_, Lib.below_setCells_w hg _ _ _⟩
    · simp [Builtin.append_, run_underlying Try.underlying37, run_underlying Try.underlying9, sizeOf, typeInfo, hi, hz1, Builtin.lenOf, hroom, hf, Addr.add_lit, hst]
    · have hsz := size_setCells g (strCells t) n w
      refine ⟨by rw [List.length_append, ← size_eq]; omega, by rw [hsz]; exact hb.base, ⟨hroom, hc.2⟩, g, rfl, hg, by rw [hsz]; exact hlt, fun j hj => ⟨?_, ?_⟩, fun j hj => ?_⟩
      · by_cases hin : n ≤ j ∧ j < n + t.size
        · have := World.cell?_setCells_in g (strCells t) n w (fun k hk => (h1 (n + k) (by omega)).1) (j - n) (by omega)
          rw [show n + (j - n) = j by omega] at this
          rw [this]
          rfl
        · rw [World.cell?_setCells_out g (strCells t) n w ⟨g, j, none⟩ (fun _ _ => by simp only; omega)]
          exact (h1 j hj).1
      · rw [World.frozen?_setCells]
        exact (h1 j hj).2
      · by_cases hin : n ≤ j
        · have hjt : j - n < t.data.toList.length := by rw [List.length_append] at hj; omega
          have := World.cell?_setCells_in g (strCells t) n w (fun k hk => (h1 (n + k) (by omega)).1) (j - n) (by rw [hts, size_eq]; exact hjt)
          rw [show n + (j - n) = j by omega] at this
          rw [this]
          have e := byteCells_at t.data.toList (j - n) hjt
          rw [← str_cells, List.getElem?_eq_getElem (by rw [hts, size_eq]; exact hjt)] at e
          rw [e, List.getElem_append_right (by omega)]
          simp only [hn]
        · rw [World.cell?_setCells_out g (strCells t) n w ⟨g, j, none⟩ (fun _ _ => by simp only; omega)]
          rw [List.getElem_append_left (by omega)]
          exact h2 j (by omega)
  · have hgr := Lib.run_append_grow_string (P := Try.prog) w 37 9 ty 5 i0 _ Try.underlying37 Try.underlying9 hi hz0 ⟨g, 0, none⟩ n c (byteCells bs) (by rw [byteCells_length, hz1]; omega) (fun j v hj => by
      have hjl : j < bs.length := by rw [← byteCells_length bs]; exact (List.getElem?_eq_some_iff.1 hj).1
      rw [byteCells_at bs j hjl] at hj
      injection hj with hj
      rw [add_at, Nat.zero_add, ← hj]
      exact h2 j hjl) t (by omega) (by omega) (by rw [hz2]; exact growslice_fits (by omega) (by omega))
    have hge := grownCap_ge w (n + t.size) c 5
    have hle := grownCap_le_maxLen w (n + t.size) c 5 (by unfold maxLen; omega)
    obtain ⟨cap, hcap⟩ : ∃ cap, grownCap w (n + t.size) c 5 = cap := ⟨_, rfl⟩
    rw [hcap] at hgr hge hle
    obtain ⟨cs, hcs⟩ : ∃ cs, (byteCells bs).toArray ++ (strCells t).toArray ++ Builtin.zeroCells (Value.int .u8 0).cells (cap - (n + t.size)) = cs := ⟨_, rfl⟩
    rw [hcs] at hgr
    have hsz : cs.size = cap := by
      rw [← hcs]
      have hz1' : (Value.int IntKind.u8 0).cells.size = 1 := rfl
      simp only [Array.size_append, List.size_toArray, size_zeroCells, hz1', byteCells_length, hts]
      omega
    have hat : ∀ j (h : j < (bs ++ t.data.toList).length), cs[j]? = some (.int .u8 ((bs ++ t.data.toList)[j].toNat : Int)) := fun j h => by
      rw [← hcs, Array.getElem?_append_left (by rw [List.length_append] at h; simp only [Array.size_append, List.size_toArray, byteCells_length, hts]; rw [← size_eq] at h; omega)]
      rw [str_cells, List.append_toArray, ← byteCells_append, List.getElem?_toArray]
      exact byteCells_at _ j h
    have hB := hb.base
    refine ⟨some ⟨w.heap.size, 0, none⟩, cap, w.drew.alloc (.cells cs 5), hgr, ?_, (Below.refl B w).drew.alloc hB _⟩
    refine ⟨by rw [List.length_append, ← size_eq]; omega, ?_, ⟨hge, hle⟩, w.heap.size, rfl, hB, ?_, fun j hj => ⟨?_, ?_⟩, fun j hj => ?_⟩
    · show B ≤ (w.heap.push _).size
      simp
      omega
    · show w.heap.size < (w.heap.push _).size
      simp
    · show ((w.drew.alloc _).cell? ⟨w.drew.heap.size, j, none⟩).isSome = true
      rw [World.cell?_alloc_mark, Array.getElem?_eq_getElem (by rw [hsz]; exact hj)]
      rfl
    · show (w.drew.alloc _).frozen? ⟨w.drew.heap.size, j, none⟩ = false
      rw [World.frozen?_alloc_mark]
      simp
    · show (w.drew.alloc _).cell? ⟨w.drew.heap.size, j, none⟩ = _
      rw [World.cell?_alloc_mark]
      exact hat j hj
/-- 'b = append(b, s...)' of a text, for the walk. -/
theorem append_textZ {ops : Array Oper} {rest : List Oper} {o : Oper} {a : Act} {Q : Exit → Act → World → Prop} (hgd : o.guard = none) (sl x : Operand)
    (ho : o.op = .call { callee := .builtin .append, args := #[sl, x], argTypes := #[37, 9] })
    (B : Nat) (A : Option Addr) (n c : Nat) (bs : List UInt8) (hs : a.eval sl = .slice A n c) (w0 : World) (t : ByteArray) (hb : BufZ B A n c bs w0)
    (hx : a.eval x = .string t) (hlen : bs.length + t.size ≤ 1099511627776)
    (h : ∀ A' n' c' w', n' = n + t.size → BufZ B A' n' c' (bs ++ t.data.toList) w' → Below B w0 w' → wpList Try.prog ops Q rest (a.put o.dst (.slice A' n' c')) w') :
    wpList Try.prog ops Q (o :: rest) a w0 := by
  refine wpList_plain hgd fun K hK => ?_
  obtain ⟨A', c', w', hr, h2, h3⟩ := run_textZ B A n c bs w0 t o.type hb hlen
  unfold Oper.wp execOp
  simp only [ho, resolve, invoke, builtin, Sem.run_bind, Sem.run_pure, Result.andThen_ok, List.map_toArray, List.map_cons, List.map_nil, hs, hx, hr]
  exact hK _ _ (h A' _ c' w' rfl h2 h3)
end Go.Proofs.Ytceoneigflejeaa
/- From CodRtold. -/
namespace Go.Proofs.Ytceoneigflejeaa
open Go.ChangeShapes Go.WideShapes Go.ChangeAt Go.RowKit
open Go.Lib (byteCells byteCells_length byteCells_append strCells)
set_option linter.unusedVariables false
def RTellPost (o : Option (List UInt8)) (w : World) (e : Ending) (w' : World) : Prop :=
  match o with
  | none => e = .returned (.tuple #[.string ⟨#[]⟩, .int .i64 41]) ∧ Below w.heap.size w w'
  | some bs => e = .returned (.tuple #[.string (txt bs), .int .i64 0]) ∧ Below w.heap.size w w'
theorem BufZ.mono {B B' : Nat} {A : Option Addr} {n c : Nat} {bs : List UInt8} {w : World} (h : BufZ B A n c bs w) (hB : B' ≤ B) : BufZ B' A n c bs w := by
  obtain ⟨g, e, hg, hlt, h1, h2⟩ := h.lies
  exact ⟨h.len, Nat.le_trans hB h.base, h.cap, g, e, Nat.le_trans hB hg, hlt, h1, h2⟩
theorem BufZ.is {B : Nat} {A : Option Addr} {n c : Nat} {bs cs : List UInt8} {w : World} (h : BufZ B A n c bs w) (e : bs = cs) : BufZ B A n c cs w := e ▸ h
/-- What '[]byte(Num(n))' leaves. -/
theorem BufZ.head {n : Nat} {T : ByteArray} {w w1 : World} (hT : txt (numL n) = T) (hb : Below w.heap.size w w1) (hs : T.size ≤ 10) {α : Type} (enc : α → List UInt8) (l : List α) (hn : n = l.length) :
    BufZ w.heap.size (some ⟨w1.heap.size, 0, none⟩) T.size (grownCap w1 T.size 0 5) (upTo enc l 0) (w1.alloc (.cells (bytesRow T (grownCap w1 T.size 0 5)) 5 ((bytesRow T (grownCap w1 T.size 0 5)).size, (bytesRow T (grownCap w1 T.size 0 5)).size + 1))).drew := by
  refine BufZ.is (BufZ.mono (BufZ.laid T w1 _ (grownCap_ge _ _ _ _) (grownCap_le_maxLen _ _ _ _ (by unfold maxLen; omega))) hb.size) ?_
  rw [← hT, txt_list, upTo_zero, hn]
theorem numT {n : Nat} (h : n < 18446744073709551616) : (txt (numL n)).size ≤ 10 := by rw [txt_size]; exact numL_len64 h
set_option maxRecDepth 4000 in
set_option maxHeartbeats 1000000 in
theorem pnums_walk (l : List Int) (hw : ∀ n ∈ l, in64 n) (htot : (listL intL l).length ≤ 16777216) (A : Option Addr) (n c : Nat) (w : World) (hn : n = l.length) (hm : n ≤ 1048576) (hat : RowC iCells 1 w w.heap.size A l) :
    Calls Try.prog 25 #[.slice A n c] w (RTellPost (some (listL intL l)) w) := by
  have HN := Lib.hid hn
  have HA := Lib.hid hat
  have HW := Lib.hid hw
  have HT := Lib.hid htot
  have HC := Lib.hid (pnum_walk n (by omega))
  have hW : IntKind.u64.wrap (n : Int) = (n : Int) := u64_in _ (by omega)
  have hTs := numT (n := n) (by omega)
  obtain ⟨T, hT⟩ : ∃ T, txt (numL n) = T := ⟨_, rfl⟩
  rw [hT] at HC hTs
  have hcv := fun W => run_bytes_of_string (P := Try.prog) W 9 37 5 T Try.underlying9 Try.underlying37 Try.underlying5
  have HTT := Lib.hid hT
  clear hn hat hw hT htot
  go_enter Try.func25, Try.ntmps25
  go_wp2_with (go_at_call 32; refine (HC.out _).mono ?_; rintro e w1 ⟨rfl, hb1⟩; have HB1 := Lib.hid hb1; clear hb1)
  have HZ0 := Lib.hid (BufZ.head HTT.out HB1.out hTs intL l HN.out)
  clear hcv
  go_loopw [4, 5] (fun bv iv wr => ∃ (k m : Nat) (bs : List UInt8) (A2 : Option Addr) (c2 : Nat), k ≤ n ∧ bv = .slice A2 m c2 ∧ iv = .int .i64 (k : Int) ∧ Hid (bs = upTo intL l k) ∧ Hid (BufZ w.heap.size A2 m c2 bs wr) ∧ Hid (Below w.heap.size w wr)) (fun _ iv _ => n - (intOf iv).toNat)
  case atStart => exact ⟨0, _, _, _, _, Nat.zero_le _, rfl, rfl, Lib.hid rfl, HZ0, Lib.hid ((HB1.out.alloc HB1.out.size _).drew)⟩
  case round =>
    obtain ⟨k, m, bs, A2, c2, hk, rfl, rfl, HL, HB, HBel⟩ := hrel
    have hbl : bs.length ≤ 16777216 := by have h1 := upTo_le (enc := intL) (l := l) k; have h2 := HT.out; rw [HL.out]; omega
    by_cases hlt : k < n
    · have hkl : k < l.length := by rw [← HN.out]; exact hlt
      obtain ⟨b, off, rfl, hB, hc⟩ := (HA.out.below HBel.out) k hkl
      have c0 := hc 0 _ rfl
      rw [Nat.mul_one, Nat.add_zero] at c0
      have hx64 := HW.out _ (List.getElem_mem hkl)
      have HL2 := Lib.hid (upTo_next (enc := intL) hkl)
      obtain ⟨x, hx⟩ : ∃ x, l[k] = x := ⟨_, rfl⟩
      rw [hx] at hx64 HL2
      simp only [hx] at c0
      have HI := Lib.hid (fun w => pint_walk x hx64 w)
      have HC2 := Lib.hid (pnum_walk (zig x) (zig_lt hx64))
      have hS := numT (zig_lt hx64)
      have HL2 := Lib.hid (show upTo intL l (k + 1) = upTo intL l k ++ numL (zig x) from HL2.out)
      obtain ⟨z, hz⟩ : ∃ z, zig x = z := ⟨_, rfl⟩
      rw [hz] at HI HC2 hS HL2
      have hbs := HBel.out.size
      clear hx hc hz hx64
      go_wp2_with (first | (go_at_call 33; refine (HI.out _).mono ?_; rintro e w2 ⟨rfl, rfl⟩) | (go_at_call 32; refine (HC2.out _).mono ?_; rintro e w3 ⟨rfl, hb3⟩; have HB3 := Lib.hid (HB.out.below hb3); have HBel3 := Lib.hid (hop HBel.out hb3); clear hb3) | (at_builtin; go_loud (refine append_textZ rfl _ _ rfl w.heap.size A2 m c2 bs rfl _ (txt (numL z)) HB3.out rfl (by omega) ?_); intro A4 n4 c4 w4 hn4 hb4 hbel4; have HB4 := Lib.hid hb4; have HBel4 := Lib.hid (HBel3.out.trans hbel4); clear hb4 hbel4; subst hn4))
      go_roundw
      case rel => exact ⟨k + 1, _, _, A4, c4, by omega, rfl, by go_num, Lib.hid (by rw [HL2.out, HL.out, txt_list]), HB4, HBel4⟩
      case measure => simp [intOf]; omega
    · have HE := Lib.hid (HL.out.trans (upTo_all (by rw [← HN.out]; omega)))
      have hcs := HB.out.str
      have hml := HB.out.len
      have hm24 : decide ((16777216 : Int) < (m : Int)) = false := decide_eq_false (by omega)
      clear hml
      go_wp2
      go_ret2
      exact ⟨by rw [HE.out]; rfl, HBel.out⟩
end Go.Proofs.Ytceoneigflejeaa
/- From CodRread. -/
namespace Go.Proofs.Ytceoneigflejeaa
open Go.ChangeShapes Go.WideShapes Go.ChangeAt Go.RowKit
open Go.Lib (byteCells byteCells_length byteCells_append strCells)
set_option linter.unusedVariables false
/-- q is what is left of the text s. -/
def Suf (s : ByteArray) (q : List UInt8) : Prop := ∃ p, s.data.toList = p ++ q
theorem Suf.all (s : ByteArray) : Suf s s.data.toList := ⟨[], rfl⟩
theorem Suf.next {α : Type} {enc : α → List UInt8} {dec : List UInt8 → Option (α × List UInt8)} {ok : α → Prop} (hc : Codec enc dec ok) {s : ByteArray} {q r : List UInt8} {a : α} (h : Suf s q) (hd : dec q = some (a, r)) : Suf s r := by
  obtain ⟨p, hp⟩ := h
  obtain ⟨h1, _⟩ := hc.only _ _ _ hd
  exact ⟨p ++ enc a, by rw [hp, h1, List.append_assoc]⟩
theorem Suf.le {s : ByteArray} {q : List UInt8} (h : Suf s q) : q.length ≤ s.size := by
  obtain ⟨p, hp⟩ := h
  have := size_eq s
  rw [hp, List.length_append] at this
  omega
theorem Suf.at_ {s : ByteArray} {q : List UInt8} (h : Suf s q) : ∃ o, o + q.length = s.size := ⟨s.size - q.length, by have := h.le; omega⟩
theorem Suf.drop {s : ByteArray} {q : List UInt8} (h : Suf s q) {o : Nat} (ho : o + q.length = s.size) : s.data.toList.drop o = q := by
  obtain ⟨p, hp⟩ := h
  have h1 := size_eq s
  rw [hp, List.length_append] at h1
  rw [hp, show o = p.length by omega, List.drop_left]
theorem punnum_walk (s : ByteArray) (q : List UInt8) (o : Nat) (ho : o + q.length = s.size) (hq : Suf s q) (hs : s.size ≤ 1099511627776) (w : World) :
    Calls Try.prog 36 #[.string s, .int .i64 (o : Int)] w fun e w' => e = .returned (rOut s.size (unL q)) ∧ w = w' := by
  have h := runnum_walk s o w hs (by omega)
  rw [hq.drop ho] at h
  exact h
/-- A value and the place behind it. -/
def rdOut {α : Type} (t : Nat) (f : α → Value) (z : Value) : Option (α × List UInt8) → Value
  | none => .tuple #[z, .int .i64 (-1)]
  | some p => .tuple #[f p.1, .int .i64 ((t - p.2.length : Nat) : Int)]
def iVal (x : Int) : Value := .int .i64 x
set_option maxRecDepth 4000 in
set_option maxHeartbeats 1000000 in
theorem punint_walk (s : ByteArray) (q : List UInt8) (o : Nat) (ho : o + q.length = s.size) (hq : Suf s q) (hs : s.size ≤ 1099511627776) (w : World) :
    Calls Try.prog 37 #[.string s, .int .i64 (o : Int)] w fun e w' => e = .returned (rdOut s.size iVal (.int .i64 0) (rInt q)) ∧ w = w' := by
  have H := Lib.hid (punnum_walk s q o ho hq hs)
  have HR := Lib.hid (show rInt q = (unL q).map fun p => (unzig p.1, p.2) from rfl)
  rw [HR.out]
  rcases hu : unL q with _ | ⟨n, r⟩
  · rw [hu] at H
    clear ho hq hs
    go_enter Try.func37, Try.ntmps37
    go_wp2_with (go_at_call 36; refine (H.out _).mono ?_; unfold rOut; rintro e w2 ⟨rfl, rfl⟩)
    go_ret2
    exact ⟨rfl, rfl⟩
  · rw [hu] at H
    have hn := (unL_only hu).2
    obtain ⟨m, hm⟩ : ∃ m, n / 2 = m := ⟨_, rfl⟩
    have h5 : ((n : Int) / 2) = (m : Int) := by omega
    have h6 : (n : Int).tdiv 2 = (m : Int) := by rw [Int.tdiv_eq_ediv_of_nonneg (by omega)]; exact h5
    have h7 : IntKind.u64.wrap (m : Int) = (m : Int) := u64_in _ (by omega)
    have h8 : IntKind.i64.wrap (m : Int) = (m : Int) := by rw [IntKind.wrap_i64]; omega
    clear ho hq hs
    by_cases h1 : n % 2 = 1
    · have HZ := Lib.hid (show unzig n = -(m : Int) - 1 by unfold unzig; rw [if_pos h1, hm])
      have h2 : (n : Int) % 2 = 1 := by omega
      have h3 : (n : Int).tmod 2 = 1 := by rw [Int.tmod_eq_emod_of_nonneg (by omega)]; exact h2
      have h9 : IntKind.i64.wrap (-(m : Int)) = -(m : Int) := by rw [IntKind.wrap_i64]; omega
      have h10 : IntKind.i64.wrap (-(m : Int) - 1) = -(m : Int) - 1 := by rw [IntKind.wrap_i64]; omega
      go_enter Try.func37, Try.ntmps37
      go_wp2_with (go_at_call 36; refine (H.out _).mono ?_; unfold rOut; rintro e w2 ⟨rfl, rfl⟩)
      go_ret2
      exact ⟨by simp only [Option.map_some, rdOut, iVal]; rw [HZ.out]; rfl, rfl⟩
    · have HZ := Lib.hid (show unzig n = (m : Int) by unfold unzig; rw [if_neg h1, hm])
      have h2 : (n : Int) % 2 = 0 := by omega
      have h3 : (n : Int).tmod 2 = 0 := by rw [Int.tmod_eq_emod_of_nonneg (by omega)]; exact h2
      go_enter Try.func37, Try.ntmps37
      go_wp2_with (go_at_call 36; refine (H.out _).mono ?_; unfold rOut; rintro e w2 ⟨rfl, rfl⟩)
      go_ret2
      exact ⟨by simp only [Option.map_some, rdOut, iVal]; rw [HZ.out]; rfl, rfl⟩
end Go.Proofs.Ytceoneigflejeaa
/- From CodRval. -/
namespace Go.Proofs.Ytceoneigflejeaa
open Go.ChangeShapes Go.WideShapes Go.ChangeAt Go.RowKit
open Go.Lib (byteCells byteCells_length byteCells_append strCells)
set_option linter.unusedVariables false
end Go.Proofs.Ytceoneigflejeaa
/- From CodRun. -/
namespace Go.Proofs.Ytceoneigflejeaa
open Go.ChangeShapes Go.WideShapes Go.ChangeAt Go.RowKit
open Go.Lib (byteCells byteCells_length byteCells_append strCells)
set_option linter.unusedVariables false
section
variable {α : Type} {enc : α → List UInt8} {dec : List UInt8 → Option (α × List UInt8)} {ok : α → Prop} {l m q : List UInt8} {n : Nat} {xs : List α}
theorem whole_bad (hu : unL l = some (n, m)) (hm : rMany dec n m = none) : whole dec l = none := by
  by_cases h : n ≤ 16777216
  · exact whole_none (by rw [rList_some hu h, hm])
  · exact whole_none (rList_many hu (by omega))
theorem whole_left (hu : unL l = some (n, m)) (hm : rMany dec n m = some (xs, q)) (hq : 0 < q.length) : whole dec l = none := by
  by_cases h : n ≤ 16777216
  · exact whole_rest (by rw [rList_some hu h, hm]) hq
  · exact whole_none (rList_many hu (by omega))
theorem whole_all (hc : Codec enc dec ok) (hl : l.length ≤ 16777216) (hu : unL l = some (n, m)) (hm : rMany dec n m = some (xs, q)) (hq : q.length = 0) : whole dec l = some xs := by
  have h1 := rMany_le hc hm
  have h2 := num_codec.less hu
  have h3 : q = [] := List.eq_nil_of_length_eq_zero hq
  subst h3
  exact whole_some (by rw [rList_some hu (by omega), hm])
end
theorem punnum0_walk (s : ByteArray) (hs : s.size ≤ 1099511627776) (w : World) :
    Calls Try.prog 36 #[.string s, .int .i64 0] w fun e w' => e = .returned (rOut s.size (unL s.data.toList)) ∧ w = w' :=
  punnum_walk s s.data.toList 0 (by rw [← size_eq]; omega) (Suf.all s) hs w
/-- What the plain text's reading of a list leaves. -/
def RWhole {α : Type} (E : TypeId) (sz : Nat) (f : α → List Value) (o : Option (List α)) (w : World) (e : Ending) (w' : World) : Prop :=
  match o with
  | none => e = .returned (.tuple #[.slice none 0 0, .bool false]) ∧ Below w.heap.size w w'
  | some xs => ∃ A c, e = .returned (.tuple #[.slice A xs.length c, .bool true]) ∧ w'.ownsRow w.heap.size E sz (.slice A xs.length c) xs.length (xs.flatMap f) ∧ Below w.heap.size w w'
set_option maxRecDepth 4000 in
set_option maxHeartbeats 4000000 in
theorem punnums_walk (s : ByteArray) (hs : s.size ≤ 16777216) (w : World) :
    Calls Try.prog 27 #[.string s] w (RWhole 2 1 iCells (whole rInt s.data.toList) w) := by
  have HN := Lib.hid (punnum0_walk s (by omega))
  have HSZ := Lib.hid (show s.data.toList.length ≤ 16777216 by rw [← size_eq]; exact hs)
  have hs16 : decide ((16777216 : Int) < (s.size : Int)) = false := decide_eq_false (by omega)
  have ebad : ((-1 : Int) != (s.size : Int)) = true := by rw [bne_iff_ne]; omega
  have ebad2 : ((-1 : Int) == (s.size : Int)) = false := by rw [beq_eq_false_iff_ne]; omega
  rcases hu : unL s.data.toList with _ | ⟨n, m⟩
  · rw [hu] at HN
    rw [whole_none (rList_none hu)]
    clear hu
    go_enter Try.func27, Try.ntmps27
    go_wp2_with (go_at_call 36; refine (HN.out _).mono ?_; unfold rOut; rintro e w2 ⟨rfl, rfl⟩)
    refine wp_loop_rounds 1 ?_
    rw [rounds_succ]
    go_wp2
    go_ret2
    exact ⟨rfl, Below.refl _ _⟩
  · rw [hu] at HN
    have hn := (unL_only hu).2
    have hq0 := (Suf.all s).next num_codec hu
    have HQ0 := Lib.hid hq0
    obtain ⟨o0, ho0⟩ := hq0.at_
    have HO0 := Lib.hid (show s.size - m.length = o0 by omega)
    have HU := Lib.hid hu
    clear hu hq0
    go_enter Try.func27, Try.ntmps27
    go_wp2_with (go_at_call 36; refine (HN.out _).mono ?_; unfold rOut; dsimp only; rw [HO0.out]; rintro e w2 ⟨rfl, rfl⟩)
    go_loopw [5, 6, 7] (fun av ov iv wr => (∃ (k o : Nat) (xs : List Int) (q : List UInt8) (A : Option Addr) (c : Nat), k ≤ n ∧ k + q.length ≤ s.size ∧ o + q.length = s.size ∧ iv = .int .u64 (k : Int) ∧ av = .int .i64 (o : Int) ∧ ov = .slice A k c ∧ Hid (ManyK rInt n m k xs q) ∧ Hid (Suf s q) ∧ Hid (wr.ownsRow w.heap.size 2 1 (.slice A k c) k (xs.flatMap iCells)) ∧ Hid (Below w.heap.size w wr)) ∨ (∃ k : Nat, k ≤ n ∧ iv = .int .u64 (k : Int) ∧ av = .int .i64 (-1) ∧ Hid (rMany rInt n m = none) ∧ Hid (Below w.heap.size w wr))) (fun _ _ iv _ => n - (intOf iv).toNat)
    case atStart => exact .inl ⟨0, o0, [], m, none, 0, Nat.zero_le _, by omega, ho0, rfl, rfl, rfl, Lib.hid ManyK.start, HQ0, Lib.hid (World.ownsRow_nil _ _ _ _), Lib.hid (Below.refl _ _)⟩
    case round =>
      rcases hrel with ⟨k, o, xs, q, A, c, hk, hkq, ho, rfl, rfl, rfl, HM, HQ, HO, HBel⟩ | ⟨k, hk, rfl, rfl, HF, HBel⟩
      · by_cases hlt : k < n
        · have hbs := HBel.out.size
          have HS := Lib.hid hbs
          have hg0 : decide ((0 : Int) ≤ (o : Int)) = true := decide_eq_true (by omega)
          have HW := punint_walk s q o ho HQ.out (by omega)
          rcases hd : rInt q with _ | ⟨x, q2⟩
          · rw [hd] at HW
            have HT := Lib.hid HW
            have HF := Lib.hid (HM.out.bad hlt hd)
            clear HW hd
            go_wp2_with (first | (go_at_call 37; refine (HT.out _).mono ?_; unfold rdOut iVal; rintro e w2 ⟨rfl, rfl⟩) | (at_builtin; go_loud (refine append_item Try.underlying54 info_int rfl (by decide) iCells_length iCells_one rfl _ _ rfl w.heap.size A k c xs rfl _ (0 : Int) HO.out HS.out _ rfl (by first | rfl | simp) (by omega) (by unfold maxLen; omega) [_] rfl ?_); intro A3 n3 c3 w3 hn3 ho3 hb3 hg3; have HO3 := Lib.hid ho3; have HP3 := Lib.hid (HBel.out.trans hb3); clear ho3 hb3 hg3; subst hn3))
            go_roundw
            case rel => exact .inr ⟨k + 1, by omega, by go_num, rfl, HF, HP3⟩
            case measure => simp [intOf]; omega
          · rw [hd] at HW
            have HT := Lib.hid HW
            have HF := Lib.hid (HM.out.next hlt hd)
            have HQ2 := Lib.hid (HQ.out.next int_codec hd)
            have hlq := int_codec.less hd
            obtain ⟨o2, ho2⟩ := HQ2.out.at_
            have HO2 := Lib.hid (show s.size - q2.length = o2 by omega)
            clear HW hd
            go_wp2_with (first | (go_at_call 37; refine (HT.out _).mono ?_; unfold rdOut iVal; dsimp only; rw [HO2.out]; rintro e w2 ⟨rfl, rfl⟩) | (at_builtin; go_loud (refine append_item Try.underlying54 info_int rfl (by decide) iCells_length iCells_one rfl _ _ rfl w.heap.size A k c xs rfl _ x HO.out HS.out _ rfl (by first | rfl | simp) (by omega) (by unfold maxLen; omega) [_] rfl ?_); intro A3 n3 c3 w3 hn3 ho3 hb3 hg3; have HO3 := Lib.hid ho3; have HP3 := Lib.hid (HBel.out.trans hb3); clear ho3 hb3 hg3; subst hn3))
            go_roundw
            case rel => exact .inl ⟨k + 1, o2, _, q2, A3, c3, by omega, by omega, ho2, by go_num, rfl, rfl, HF, HQ2, HO3, HP3⟩
            case measure => simp [intOf]; omega
        · have hkn : k = n := by omega
          subst hkn
          have HD := Lib.hid (HM.out.done (Nat.le_refl _))
          have HL := Lib.hid HM.out.1
          by_cases hql : q.length = 0
          · have HF := Lib.hid (whole_all int_codec HSZ.out HU.out HD.out hql)
            have hos : o = s.size := by omega
            subst hos
            clear ho hkq hql
            go_wp2
            go_ret2
            rw [HF.out]
            refine ⟨A, c, ?_, ?_, HBel.out⟩
            · rw [HL.out]; rfl
            · rw [HL.out]; exact HO.out
          · have HF := Lib.hid (whole_left HU.out HD.out (by omega))
            have e0 : ((o : Int) != (s.size : Int)) = true := by rw [bne_iff_ne]; omega
            have e1 : ((o : Int) == (s.size : Int)) = false := by rw [beq_eq_false_iff_ne]; omega
            clear ho hkq hql
            go_wp2
            go_ret2
            rw [HF.out]
            exact ⟨rfl, HBel.out⟩
      · have HF2 := Lib.hid (whole_bad HU.out HF.out)
        by_cases hlt : k < n
        · go_wp2
          go_ret2
          rw [HF2.out]
          exact ⟨rfl, HBel.out⟩
        · go_wp2
          go_ret2
          rw [HF2.out]
          exact ⟨rfl, HBel.out⟩
end Go.Proofs.Ytceoneigflejeaa
