/- Bytes made of a text, and texts appended to them: the cells themselves, whatever the block's mark. -/
import Derived.Test.YtkpajmgbiepmbaaCodNums
import Derived.Laws.IdiomCopy
import Derived.Lib.EndianMore
namespace Go.Proofs.Ytkpajmgbiepmbaa
open Go.ChangeShapes Go.WideShapes Go.ChangeAt Go.RowKit
open Go.Lib (byteCells byteCells_length byteCells_append strCells strCells_length strCells_oneCell)
set_option linter.unusedVariables false

/-- Bytes of the call's own, in a block g from B on, with room up to c. -/
structure BufZ (B : Nat) (A : Option Addr) (n c : Nat) (bs : List UInt8) (w : World) : Prop where
  len : n = bs.length
  base : B ≤ w.heap.size
  cap : n ≤ c ∧ c ≤ maxLen
  lies : ∃ g, A = some ⟨g, 0, none⟩ ∧ B ≤ g ∧ g < w.heap.size ∧ (∀ j, j < c → (w.cell? ⟨g, j, none⟩).isSome = true ∧ w.frozen? ⟨g, j, none⟩ = false) ∧ ∀ j (h : j < bs.length), w.cell? ⟨g, j, none⟩ = some (.int .u8 (bs[j].toNat : Int))
theorem BufZ.below {B : Nat} {A : Option Addr} {n c : Nat} {bs : List UInt8} {w w' : World} (h : BufZ B A n c bs w) (hb : Below w.heap.size w w') : BufZ B A n c bs w' := by
  obtain ⟨g, e, hg, hlt, h1, h2⟩ := h.lies
  refine ⟨h.len, Nat.le_trans h.base hb.size, h.cap, g, e, hg, Nat.lt_of_lt_of_le hlt hb.size, fun j hj => ⟨?_, ?_⟩, fun j hj => ?_⟩
  · rw [hb.cell (p := ⟨g, j, none⟩) hlt]; exact (h1 j hj).1
  · rw [hb.frozen (p := ⟨g, j, none⟩) hlt]; exact (h1 j hj).2
  · rw [hb.cell (p := ⟨g, j, none⟩) hlt]; exact h2 j hj
theorem BufZ.bytes {B : Nat} {A : Option Addr} {n c : Nat} {bs : List UInt8} {w : World} (h : BufZ B A n c bs w) : BytesAt w w.heap.size A bs := by
  obtain ⟨g, e, hg, hlt, h1, h2⟩ := h.lies
  intro j hj
  exact ⟨g, 0, e, hlt, by rw [Nat.zero_add]; exact h2 j hj⟩
theorem BufZ.str {B : Nat} {A : Option Addr} {n c : Nat} {bs : List UInt8} {w : World} (h : BufZ B A n c bs w) : (convert 27 9 (.slice A n c)).run Try.prog w = .ok (.string (txt bs)) w :=
  string_of_bytes A n c bs w h.len h.bytes
theorem bytesRow_size (s : ByteArray) (cap : Nat) (h : s.size ≤ cap) : (bytesRow s cap).size = cap := by
  unfold bytesRow
  have : s.data.size = s.size := rfl
  simp
  omega
/-- '[]byte(s)'. -/
theorem BufZ.laid (s : ByteArray) (w : World) (cap : Nat) (h : s.size ≤ cap) (hm : cap ≤ maxLen) : BufZ w.heap.size (some ⟨w.heap.size, 0, none⟩) s.size cap s.data.toList (w.alloc (.cells (bytesRow s cap) 5 ((bytesRow s cap).size, (bytesRow s cap).size + 1))).drew := by
  have hsz := bytesRow_size s cap h
  refine ⟨size_eq s, ?_, ⟨h, hm⟩, w.heap.size, rfl, Nat.le_refl _, ?_, fun j hj => ⟨?_, ?_⟩, fun j hj => ?_⟩
  · show w.heap.size ≤ (w.alloc _).heap.size
    simp
  · show w.heap.size < (w.alloc _).heap.size
    simp
  · show ((w.alloc _).cell? _).isSome = true
    rw [World.cell?_alloc_mark]
    rw [Array.getElem?_eq_getElem (by rw [hsz]; exact hj)]
    rfl
  · show (w.alloc _).frozen? _ = false
    rw [World.frozen?_alloc_mark, hsz, decide_eq_false (by omega)]
    rfl
  · obtain ⟨b, off, e, _, hc⟩ := laid_bytes s w cap 5 ((bytesRow s cap).size, (bytesRow s cap).size + 1) j hj
    obtain ⟨rfl, rfl⟩ : w.heap.size = b ∧ 0 = off := by simpa using e
    rw [Nat.zero_add] at hc
    exact hc
theorem str_cells (s : ByteArray) : strCells s = byteCells s.data.toList := rfl
theorem byteCells_at (bs : List UInt8) (j : Nat) (h : j < bs.length) : (byteCells bs)[j]? = some (.int .u8 (bs[j].toNat : Int)) := by
  simp [byteCells, List.getElem?_eq_getElem h]
theorem size_setCells (g : Nat) : ∀ (vs : List Value) (o : Nat) (w : World), (w.setCells g o vs).heap.size = w.heap.size
  | [], _, _ => rfl
  | v :: r, o, w => by
    rw [World.setCells, size_setCells g r (o + 1) _]
    simp [World.setCell]
set_option maxRecDepth 100000 in
set_option maxHeartbeats 1000000 in
/-- 'append(b, s...)', as an equation. -/
theorem run_textZ (B : Nat) (A : Option Addr) (n c : Nat) (bs : List UInt8) (w : World) (t : ByteArray) (ty : TypeId) (hb : BufZ B A n c bs w) (hlen : bs.length + t.size ≤ 1099511627776) :
    ∃ A' c' w', (Builtin.append_ #[27, 9] ty #[.slice A n c, .string t]).run Try.prog w = .ok (.slice A' (n + t.size) c') w' ∧ BufZ B A' (n + t.size) c' (bs ++ t.data.toList) w' ∧ Below B w w' := by
  obtain ⟨i0, hi, hz0, hz1, hz2⟩ := info_parts infoByte
  obtain ⟨g, rfl, hg, hlt, h1, h2⟩ := hb.lies
  have hn := hb.len
  have hc := hb.cap
  have hts : (strCells t).length = t.size := strCells_length t
  by_cases hroom : n + t.size ≤ c
  · have hf := Lib.run_firstCells_string (P := Try.prog) w 1 t
    have hst := run_storeCells_cells (P := Try.prog) g n (strCells t) 0 w (fun j hj => by rw [Nat.add_zero]; exact (h1 (n + j) (by omega)).1) (fun j hj => by rw [Nat.add_zero]; exact (h1 (n + j) (by omega)).2) (strCells_oneCell t)
    rw [Nat.add_zero] at hst
    refine ⟨some ⟨g, 0, none⟩, c, w.setCells g n (strCells t), ?_, ?_, Lib.below_setCells_w hg _ _ _⟩
    · simp [Builtin.append_, run_underlying Try.underlying27, run_underlying Try.underlying9, sizeOf, typeInfo, hi, hz1, Builtin.lenOf, hroom, hf, Addr.add_lit, hst]
    · have hsz := size_setCells g (strCells t) n w
      refine ⟨by rw [List.length_append, ← size_eq]; omega, by rw [hsz]; exact hb.base, ⟨hroom, hc.2⟩, g, rfl, hg, by rw [hsz]; exact hlt, fun j hj => ⟨?_, ?_⟩, fun j hj => ?_⟩
      · by_cases hin : n ≤ j ∧ j < n + t.size
        · have := World.cell?_setCells_in g (strCells t) n w (fun k hk => (h1 (n + k) (by omega)).1) (j - n) (by omega)
          rw [show n + (j - n) = j by omega] at this
          rw [this]
          rfl
        · rw [World.cell?_setCells_out g (strCells t) n w ⟨g, j, none⟩ (fun _ _ => by simp only; omega)]
          exact (h1 j hj).1
      · rw [World.frozen?_setCells]
        exact (h1 j hj).2
      · by_cases hin : n ≤ j
        · have hjt : j - n < t.data.toList.length := by rw [List.length_append] at hj; omega
          have := World.cell?_setCells_in g (strCells t) n w (fun k hk => (h1 (n + k) (by omega)).1) (j - n) (by rw [hts, size_eq]; exact hjt)
          rw [show n + (j - n) = j by omega] at this
          rw [this]
          have e := byteCells_at t.data.toList (j - n) hjt
          rw [← str_cells, List.getElem?_eq_getElem (by rw [hts, size_eq]; exact hjt)] at e
          rw [e, List.getElem_append_right (by omega)]
          simp only [hn]
        · rw [World.cell?_setCells_out g (strCells t) n w ⟨g, j, none⟩ (fun _ _ => by simp only; omega)]
          rw [List.getElem_append_left (by omega)]
          exact h2 j (by omega)
  · have hgr := Lib.run_append_grow_string (P := Try.prog) w 27 9 ty 5 i0 _ Try.underlying27 Try.underlying9 hi hz0 ⟨g, 0, none⟩ n c (byteCells bs) (by rw [byteCells_length, hz1]; omega) (fun j v hj => by
      have hjl : j < bs.length := by rw [← byteCells_length bs]; exact (List.getElem?_eq_some_iff.1 hj).1
      rw [byteCells_at bs j hjl] at hj
      injection hj with hj
      rw [add_at, Nat.zero_add, ← hj]
      exact h2 j hjl) t (by omega) (by omega) (by rw [hz2]; exact growslice_fits (by omega) (by omega))
    have hge := grownCap_ge w (n + t.size) c 5
    have hle := grownCap_le_maxLen w (n + t.size) c 5 (by unfold maxLen; omega)
    obtain ⟨cap, hcap⟩ : ∃ cap, grownCap w (n + t.size) c 5 = cap := ⟨_, rfl⟩
    rw [hcap] at hgr hge hle
    obtain ⟨cs, hcs⟩ : ∃ cs, (byteCells bs).toArray ++ (strCells t).toArray ++ Builtin.zeroCells (Value.int .u8 0).cells (cap - (n + t.size)) = cs := ⟨_, rfl⟩
    rw [hcs] at hgr
    have hsz : cs.size = cap := by
      rw [← hcs]
      have hz1' : (Value.int IntKind.u8 0).cells.size = 1 := rfl
      simp only [Array.size_append, List.size_toArray, size_zeroCells, hz1', byteCells_length, hts]
      omega
    have hat : ∀ j (h : j < (bs ++ t.data.toList).length), cs[j]? = some (.int .u8 ((bs ++ t.data.toList)[j].toNat : Int)) := fun j h => by
      rw [← hcs, Array.getElem?_append_left (by rw [List.length_append] at h; simp only [Array.size_append, List.size_toArray, byteCells_length, hts]; rw [← size_eq] at h; omega)]
      rw [str_cells, List.append_toArray, ← byteCells_append, List.getElem?_toArray]
      exact byteCells_at _ j h
    have hB := hb.base
    refine ⟨some ⟨w.heap.size, 0, none⟩, cap, w.drew.alloc (.cells cs 5), hgr, ?_, (Below.refl B w).drew.alloc hB _⟩
    refine ⟨by rw [List.length_append, ← size_eq]; omega, ?_, ⟨hge, hle⟩, w.heap.size, rfl, hB, ?_, fun j hj => ⟨?_, ?_⟩, fun j hj => ?_⟩
    · show B ≤ (w.heap.push _).size
      simp
      omega
    · show w.heap.size < (w.heap.push _).size
      simp
    · show ((w.drew.alloc _).cell? ⟨w.drew.heap.size, j, none⟩).isSome = true
      rw [World.cell?_alloc_mark, Array.getElem?_eq_getElem (by rw [hsz]; exact hj)]
      rfl
    · show (w.drew.alloc _).frozen? ⟨w.drew.heap.size, j, none⟩ = false
      rw [World.frozen?_alloc_mark]
      simp
    · show (w.drew.alloc _).cell? ⟨w.drew.heap.size, j, none⟩ = _
      rw [World.cell?_alloc_mark]
      exact hat j hj
/-- 'b = append(b, s...)' of a text, for the walk. -/
theorem append_textZ {ops : Array Oper} {rest : List Oper} {o : Oper} {a : Act} {Q : Exit → Act → World → Prop} (hgd : o.guard = none) (sl x : Operand)
    (ho : o.op = .call { callee := .builtin .append, args := #[sl, x], argTypes := #[27, 9] })
    (B : Nat) (A : Option Addr) (n c : Nat) (bs : List UInt8) (hs : a.eval sl = .slice A n c) (w0 : World) (t : ByteArray) (hb : BufZ B A n c bs w0)
    (hx : a.eval x = .string t) (hlen : bs.length + t.size ≤ 1099511627776)
    (h : ∀ A' n' c' w', n' = n + t.size → BufZ B A' n' c' (bs ++ t.data.toList) w' → Below B w0 w' → wpList Try.prog ops Q rest (a.put o.dst (.slice A' n' c')) w') :
    wpList Try.prog ops Q (o :: rest) a w0 := by
  refine wpList_plain hgd fun K hK => ?_
  obtain ⟨A', c', w', hr, h2, h3⟩ := run_textZ B A n c bs w0 t o.type hb hlen
  unfold Oper.wp execOp
  simp only [ho, resolve, invoke, builtin, Sem.run_bind, Sem.run_pure, Result.andThen_ok, List.map_toArray, List.map_cons, List.map_nil, hs, hx, hr]
  exact hK _ _ (h A' _ c' w' rfl h2 h3)
end Go.Proofs.Ytkpajmgbiepmbaa
