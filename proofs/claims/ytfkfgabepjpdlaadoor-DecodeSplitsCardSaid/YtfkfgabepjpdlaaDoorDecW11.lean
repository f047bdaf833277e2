/- Layer 12, walked: the fields of bytes, each in new memory. -/
import Derived.Test.YtfkfgabepjpdlaaDoorDecW10
namespace Go.Proofs.YtfkfgabepjpdlaaDoor
open Go.ChangeShapes Go.WideShapes Go.ChangeAt Go.RowKit
set_option linter.unusedVariables false

theorem infoBys : (Tryd.prog.info? 35).map (fun i => (i.zero, i.size, i.bytes)) = some (some (.slice none 0 0), 1, 24) := by kernel_rfl
/-- Bytes in memory. -/
structure Bx where
  a : Option Addr
  c : Nat
  l : List UInt8
def bxCells (r : Bx) : List Value := [.slice r.a r.l.length r.c]
theorem bxCells_length (r : Bx) : (bxCells r).length = 1 := rfl
theorem bxCells_one (r : Bx) : ∀ u ∈ bxCells r, u.oneCell' = true := by simp [bxCells, Value.oneCell']
/-- A block of its own has them. -/
def EB (w : World) (x : Bx) : Prop := ∃ (g : Nat) (cells : Array Value) (fr : Nat × Nat), x.a = some ⟨g, 0, none⟩ ∧ w.heap[g]? = some (.cells cells 5 fr) ∧ ∀ (j : Nat) (h : j < x.l.length), cells[j]? = some (.int .u8 (x.l[j].toNat : Int))
theorem EB.bytes {w : World} {x : Bx} (h : EB w x) : BytesAt w w.heap.size x.a x.l := by
  obtain ⟨g, cells, fr, e, hh, hc⟩ := h
  intro j hj
  refine ⟨g, 0, e, lt_of_block hh, ?_⟩
  simp [World.cell?, hh, hc j hj]
/-- All blocks of bytes are as they were. -/
def U8 (w w' : World) : Prop := ∀ (k : Nat) (cells : Array Value) (fr : Nat × Nat), w.heap[k]? = some (.cells cells 5 fr) → w'.heap[k]? = some (.cells cells 5 fr)
theorem EB.keep {w w' : World} {x : Bx} (h : EB w x) (hk : U8 w w') : EB w' x := by
  obtain ⟨g, cells, fr, e, hh, hc⟩ := h
  exact ⟨g, cells, fr, e, hk _ _ _ hh, hc⟩
theorem U8.alloc (w : World) (o : Obj) : U8 w (w.alloc o) := fun k _ _ h => (Below.heap_alloc w o k (lt_of_block h)).trans h
theorem U8.trans {a b c : World} (h : U8 a b) (k : U8 b c) : U8 a c := fun i x f h2 => k i x f (h i x f h2)
theorem U8.set {w : World} {g i : Nat} {v : Value} {cur : Array Value} {t : TypeId} {fr : Nat × Nat} (h : w.heap[g]? = some (.cells cur t fr)) (ht : t ≠ 5) : U8 w (w.setCell ⟨g, i, none⟩ v) := by
  intro k cells f hk
  refine (Below.heap_setCell _ _ _ _ (fun e => ?_)).trans hk
  simp only at e
  subst e
  rw [h] at hk
  simp only [Option.some.injEq, Obj.cells.injEq] at hk
  exact ht hk.2.1
theorem U8.grown {w w' : World} {base : Nat} {e : TypeId} {size : Nat} {v : Value} {n : Nat} {xs : List Value} (ho : w.ownsRow base e size v n xs) (he : e ≠ 5) (hg : w.grownBy w' v.ownBlock) : U8 w w' := by
  intro k cells f hk
  refine (hg.block k (lt_of_block hk) (fun e2 => ?_)).trans hk
  rcases ho.2 with ⟨rfl, _⟩ | ⟨g, cap, cur, rfl, hb, hh, r⟩
  · simp [Value.ownBlock] at e2
  · simp only [Value.ownBlock, Option.some.injEq] at e2
    subst e2
    rw [hh] at hk
    simp only [Option.some.injEq, Obj.cells.injEq] at hk
    exact he hk.2.1
theorem new_bytes (w : World) (l : List UInt8) (cap : Nat) (fr : Nat × Nat) (c : Nat) : EB (w.alloc (.cells (bytesRow (txt l) cap) 5 fr)).drew ⟨some ⟨w.heap.size, 0, none⟩, c, l⟩ := by
  refine ⟨w.heap.size, bytesRow (txt l) cap, fr, rfl, World.alloc_heap_new _ _, fun j hj => ?_⟩
  have hj2 : j < l.length := hj
  have hj' : j < (txt l).data.size := by simp [txt, hj2]
  unfold bytesRow
  rw [Array.getElem?_append_left (by simpa using hj')]
  have e : (txt l).data[j]? = some l[j] := by (simp [txt, List.getElem?_eq_getElem hj2]; rfl)
  have e2 : ((txt l).data.map fun b => Value.int .u8 (b.toNat : Int))[j]? = some (.int .u8 (l[j].toNat : Int)) := by rw [Array.getElem?_map, e]; rfl
  exact e2
/-- What is between two fields. -/
structure UbS (A0 : Option Addr) (n0 c0 : Nat) (w : World) (A : Option Addr) (n c : Nat) (done : List Bx) (p : Nat) (wr : World) : Prop where
  below : Below w.heap.size w wr
  size : w.heap.size + 2 ≤ wr.heap.size
  from_ : wr.heap[w.heap.size + 1]? = some (.cells #[.int .i64 (p : Int)] 3 (0, 0))
  text : wr.heap[w.heap.size]? = some (.cells #[.slice A0 n0 c0] 35 (0, 0))
  own : wr.ownsRow (w.heap.size + 2) 35 1 (.slice A n c) n (done.flatMap bxCells)
  each : ∀ x ∈ done, EB wr x
section
variable {A0 A : Option Addr} {n0 c0 n c p : Nat} {w wr : World} {done : List Bx}
theorem UbS.start (A0 : Option Addr) (n0 c0 : Nat) (w : World) (q : Nat) : UbS A0 n0 c0 w none 0 0 [] q ((w.alloc (.cells #[.slice A0 n0 c0] 35)).alloc (.cells #[.int .i64 (q : Int)] 3)) :=
  ⟨((Below.refl _ _).alloc (Nat.le_refl _) _).alloc (by simp) _, by simp, by
    have := World.alloc_heap_new (w.alloc (.cells #[.slice A0 n0 c0] 35)) (.cells #[.int .i64 (q : Int)] 3)
    simpa using this, by
    exact (Below.heap_alloc _ _ _ (by simp)).trans (World.alloc_heap_new _ _), World.ownsRow_nil _ _ _ 1, by simp⟩
theorem UbS.set (h : UbS A0 n0 c0 w A n c done p wr) (q : Nat) : UbS A0 n0 c0 w A n c done q (wr.setCell ⟨w.heap.size + 1, 0, none⟩ (.int .i64 (q : Int))) :=
  ⟨h.below.setCell (by simp) _, by simpa using h.size, one_setCell h.from_, (Below.heap_setCell _ _ _ _ (by simp)).trans h.text,
    ownsRow_setCell_other h.own (fun e => by have := (h.own.lt _ e).1; simp at this) _, fun x hx => (h.each x hx).keep (U8.set h.from_ (by decide))⟩
theorem UbS.fresh (h : UbS A0 n0 c0 w A n c done p wr) (o : Obj) : UbS A0 n0 c0 w A n c done p (wr.alloc o).drew :=
  ⟨(h.below.alloc (by have := h.size; omega) o).drew, by have := h.size; show w.heap.size + 2 ≤ (wr.alloc o).heap.size; simp; omega, (Below.heap_alloc _ _ _ (by have := h.size; omega)).trans h.from_, (Below.heap_alloc _ _ _ (by have := h.size; omega)).trans h.text, h.own.alloc o, fun x hx => (h.each x hx).keep (U8.alloc wr o)⟩
theorem UbS.more {A2 : Option Addr} {n2 c2 : Nat} {x : Bx} {w2 : World} {o : Obj} (h : UbS A0 n0 c0 w A n c done p wr) (hx : EB wr x) (hb : Below (w.heap.size + 2) wr w2) (hg : (wr.alloc o).grownBy w2 (Value.ownBlock (.slice A n c))) (ho : w2.ownsRow (w.heap.size + 2) 35 1 (.slice A2 n2 c2) n2 ((done ++ [x]).flatMap bxCells)) : UbS A0 n0 c0 w A2 n2 c2 (done ++ [x]) p w2 := by
  have hu : U8 wr w2 := (U8.alloc wr o).trans (U8.grown (h.own.alloc o) (by decide) hg)
  refine ⟨h.below.trans (hb.mono (by omega)), Nat.le_trans h.size hb.size, (hb.block _ (by omega)).trans h.from_, (hb.block _ (by omega)).trans h.text, ho, fun y hy => ?_⟩
  rcases List.mem_append.1 hy with hy | hy
  · exact (h.each y hy).keep hu
  · simp at hy; subst hy; exact hx.keep hu
end
/-- The bytes' rows, in new memory. -/
def BxsPost (fs : List (List UInt8)) (w : World) (e : Ending) (w' : World) : Prop :=
  ∃ A n c, ∃ xs : List Bx, e = .returned (.slice A n c) ∧ n = fs.length ∧ xs.map Bx.l = fs ∧ w'.ownsRow w.heap.size 35 1 (.slice A n c) n (xs.flatMap bxCells) ∧ (∀ x ∈ xs, EB w' x) ∧ Below w.heap.size w w'
def fieldsOf (done : List Bx) : List ByteArray := done.map fun x => txt x.l
theorem fieldsOf_snoc (done : List Bx) (x : Bx) : fieldsOf (done ++ [x]) = fieldsOf done ++ [txt x.l] := by simp [fieldsOf]
theorem txt_inj {a b : List (List UInt8)} (h : a.map txt = b.map txt) : a = b := by
  have : ∀ x : List (List UInt8), (x.map txt).map (fun s => s.data.toList) = x := by
    intro x
    induction x with
    | nil => rfl
    | cons a r ih => simp only [List.map_cons, ih]; rfl
  rw [← this a, h, this b]
theorem fieldsOf_eq (done : List Bx) : fieldsOf done = (done.map Bx.l).map txt := by simp [fieldsOf]
set_option maxHeartbeats 4000000 in
set_option maxRecDepth 20000 in
theorem upToB_any (m : Nat) (l : List UInt8) (A0 : Option Addr) (n0 c0 : Nat) (hn : n0 = l.length) (hs : n0 ≤ 16777216) (hm : n0 < m) (hc : n0 ≤ c0) (hcm : c0 ≤ maxLen) (w : World) (hb : BytesAt w w.heap.size A0 l) :
    Calls Tryd.prog 31 #[.int .i64 (m : Int), .slice A0 n0 c0] w (BxsPost (splitL l) w) := by
  have HSZ := Lib.hid hn
  have HNX0 := Lib.hid (fun (p : Nat) (hp : p ≤ n0) (w2 : World) (h : Below w.heap.size w w2) (hF : w2.heap[w.heap.size + 1]? = some (.cells #[.int .i64 (p : Int)] 3 (0, 0))) (hG : w2.heap[w.heap.size]? = some (.cells #[.slice A0 n0 c0] 35 (0, 0))) =>
    nextB_any l A0 n0 c0 (w.heap.size + 1) w.heap.size p w2 hn (by omega) hc hcm ((hb.below h).more h.size) hp hF hG (by omega))
  have HCUT := Lib.hid (fun (p : Nat) (hp : p ≤ n0) => show fl (l.drop p) = ((l.drop p).take (fl (l.drop p))).length ∧ BytesAt w w.heap.size (cutA A0 c0 p) ((l.drop p).take (fl (l.drop p))) from ⟨by rw [List.length_take]; have := fl_le (l.drop p); omega, (hb.drop p c0 (by omega) (by omega)).take _⟩)
  have HEND := Lib.hid (fun (p : Nat) (hp : n0 < p) (hp2 : p ≤ n0 + 1) (w2 : World) (hF : w2.heap[w.heap.size + 1]? = some (.cells #[.int .i64 (p : Int)] 3 (0, 0))) (hG : w2.heap[w.heap.size]? = some (.cells #[.slice A0 n0 c0] 35 (0, 0))) =>
    nextB_end A0 n0 c0 (w.heap.size + 1) w.heap.size p w2 (by omega) hp (by omega) hF hG)
  have HN16 := Lib.hid hs
  clear hb hn hcm hs
  go_enter Tryd.func31, Tryd.ntmps31
  have HU := Lib.hid (UbS.start A0 n0 c0 w 0)
  have HFI := Lib.hid (HNX0.out 0 (Nat.zero_le _) _ HU.out.below HU.out.from_ HU.out.text)
  have HU1 := Lib.hid (show UbS A0 n0 c0 w none 0 0 [] (fl l + 1) ((w.alloc (.cells #[.slice A0 n0 c0] 35)).alloc (.cells #[.int .i64 ((fl l : Int) + 1)] 3)) from UbS.start A0 n0 c0 w (fl l + 1))
  have HN1 := Lib.hid (NextIs.start l)
  have HC1 := Lib.hid (HCUT.out 0 (Nat.zero_le _))
  rw [List.drop_zero] at HC1
  go_wp2_with (first | (go_at_call 44; refine (fieldsB_any A0 n0 c0 _).mono ?_; rintro e w1 ⟨rfl, rfl⟩) | (go_at_call 52; refine HFI.out.mono ?_; rintro e w2 ⟨rfl, rfl⟩))
  go_loopw [5, 7, 8] (fun lv fv ov wr => ∃ A n c done p ok fA fn fc field, lv = .slice A n c ∧ fv = .slice fA fn fc ∧ ov = .bool ok ∧ Hid (n = done.length) ∧ Hid (UbS A0 n0 c0 w A n c done p wr) ∧ Hid (NextIs l (fieldsOf done) p ok (txt field)) ∧ Hid (ok = true → fn = field.length ∧ BytesAt w w.heap.size fA field)) (fun lv _ _ _ => n0 + 3 - sliceLen lv)
  case atStart => exact ⟨none, 0, 0, [], fl l + 1, true, cutA A0 c0 0, fl l, c0, l.take (fl l), rfl, by simp, rfl, Lib.hid rfl, HU1, HN1, Lib.hid (fun _ => HC1.out)⟩
  case round =>
    obtain ⟨A, n, c, done, p, ok, fA, fn, fc, field, rfl, rfl, rfl, HND, HUP, HNX, HFB⟩ := hrel
    cases ok
    · have HE := Lib.hid (show done.map Bx.l = splitL l by
        rcases HNX.out with ⟨h, _⟩ | ⟨_, _, _, h⟩
        · cases h
        · rw [fieldsOf_eq] at h; exact (txt_inj h).symm)
      go_wp2
      go_ret
      have h1 := HUP.out
      exact ⟨A, n, c, done, rfl, by rw [← HE.out, List.length_map]; exact HND.out, HE.out, h1.own.mono (by omega), h1.each, h1.below⟩
    · have HLN := Lib.hid HNX.out.len
      have hn1 : n ≤ n0 := by have := HLN.out.1; have := HND.out; have := HSZ.out; simp [fieldsOf] at *; omega
      have hq : decide ((n : Int) < (m : Int)) = true := decide_eq_true (by omega)
      have hcv := string_of_bytes fA fn fc field wr (HFB.out rfl).1 (((HFB.out rfl).2.below HUP.out.below).more HUP.out.below.size)
      have hcv2 := fun W => run_bytes_of_string (P := Tryd.prog) W 9 35 5 (txt field) Tryd.underlying9 Tryd.underlying35 Tryd.underlying5
      obtain ⟨cap, hcap⟩ : ∃ cap, grownCap wr (txt field).size 0 5 = cap := ⟨_, rfl⟩
      have HUP0 := Lib.hid (HUP.out.fresh (.cells (bytesRow (txt field) cap) 5 ((bytesRow (txt field) cap).size, (bytesRow (txt field) cap).size + 1)))
      have HEB := Lib.hid (new_bytes wr field cap ((bytesRow (txt field) cap).size, (bytesRow (txt field) cap).size + 1) cap)
      have hcv3 := hcv2 wr
      rw [hcap] at hcv3
      have HCV := Lib.hid hcap
      clear hcv2 hcap
      have hsz : (txt field).size = field.length := txt_size field
      have HLE := Lib.hid (show n + 1 = (done ++ [(⟨some ⟨wr.heap.size, 0, none⟩, cap, field⟩ : Bx)]).length by rw [List.length_append, ← HND.out]; rfl)
      have hlenB : 24 * (n + 1) ≤ 140737488355328 := by have := HN16.out; omega
      by_cases hp : p ≤ n0
      · have HGO := Lib.hid (HNX.out.go (by rw [← HSZ.out]; exact hp))
        have HFB2 := Lib.hid (HCUT.out p hp)
        have HNEXT := Lib.hid (fun (A2 : Option Addr) (n2 c2 : Nat) (d2 : List Bx) (w2 : World) (h : UbS A0 n0 c0 w A2 n2 c2 d2 p w2) => HNX0.out p hp w2 h.below h.from_ h.text)
        go_wp2_with (first
          | (at_builtin; go_loud (refine append_item (w0 := (wr.alloc (.cells (bytesRow (txt field) cap) 5 ((bytesRow (txt field) cap).size, (bytesRow (txt field) cap).size + 1))).drew) Tryd.underlying41 infoBys rfl (by decide) bxCells_length bxCells_one rfl _ _ rfl (w.heap.size + 2) A n c done rfl (⟨some ⟨wr.heap.size, 0, none⟩, cap, field⟩ : Bx) HUP0.out.own HUP0.out.size _ rfl (by simp) (by omega) (by have := HN16.out; unfold maxLen; omega) [_] rfl ?_); intro A2 n2 c2 w2 hn2 ho2 hb2 hg2; have HUP2 := Lib.hid (HUP0.out.more HEB.out hb2 hg2 ho2); clear ho2 hb2 hg2; subst hn2)
          | (go_at_call 52; refine (HNEXT.out _ _ _ _ _ HUP2.out).mono ?_; rintro e w3 ⟨rfl, rfl⟩))
        have HUP3 := Lib.hid (HUP2.out.set (p + fl (l.drop p) + 1))
        have HFS := Lib.hid (fieldsOf_snoc done (⟨some ⟨wr.heap.size, 0, none⟩, cap, field⟩ : Bx))
        rw [← HFS.out] at HGO
        go_roundw
        case rel => exact ⟨_, _, _, _, _, true, _, _, _, _, rfl, rfl, rfl, HLE, HUP3, HGO, Lib.hid (fun _ => HFB2.out)⟩
        case measure => simp [sliceLen]; omega
      · have HGO := Lib.hid (HNX.out.end_ (by rw [← HSZ.out]; omega) (txt []))
        have HNEXT := Lib.hid (fun (A2 : Option Addr) (n2 c2 : Nat) (d2 : List Bx) (w2 : World) (h : UbS A0 n0 c0 w A2 n2 c2 d2 p w2) => HEND.out p (by omega) (by have := HLN.out.2; have := HSZ.out; omega) w2 h.from_ h.text)
        go_wp2_with (first
          | (at_builtin; go_loud (refine append_item (w0 := (wr.alloc (.cells (bytesRow (txt field) cap) 5 ((bytesRow (txt field) cap).size, (bytesRow (txt field) cap).size + 1))).drew) Tryd.underlying41 infoBys rfl (by decide) bxCells_length bxCells_one rfl _ _ rfl (w.heap.size + 2) A n c done rfl (⟨some ⟨wr.heap.size, 0, none⟩, cap, field⟩ : Bx) HUP0.out.own HUP0.out.size _ rfl (by simp) (by omega) (by have := HN16.out; unfold maxLen; omega) [_] rfl ?_); intro A2 n2 c2 w2 hn2 ho2 hb2 hg2; have HUP2 := Lib.hid (HUP0.out.more HEB.out hb2 hg2 ho2); clear ho2 hb2 hg2; subst hn2)
          | (go_at_call 52; refine (HNEXT.out _ _ _ _ _ HUP2.out).mono ?_; rintro e w3 ⟨rfl, rfl⟩))
        have HFS := Lib.hid (fieldsOf_snoc done (⟨some ⟨wr.heap.size, 0, none⟩, cap, field⟩ : Bx))
        rw [← HFS.out] at HGO
        go_roundw
        case rel => exact ⟨_, _, _, _, _, false, _, _, _, [], rfl, rfl, rfl, HLE, HUP2, HGO, Lib.hid (fun h => by cases h)⟩
        case measure => simp [sliceLen]; omega
end Go.Proofs.YtfkfgabepjpdlaaDoor
