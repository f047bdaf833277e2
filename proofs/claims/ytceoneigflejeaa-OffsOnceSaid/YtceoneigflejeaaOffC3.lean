/- What a seat needs of several texts. -/
import Derived.Test.YtceoneigflejeaaOffC2
import Derived.Recover
/- From CodRead. -/
namespace Go.Proofs.Ytceoneigflejeaa
open Go.ChangeShapes Go.WideShapes Go.ChangeAt Go.RowKit
open Go.Lib (byteCells byteCells_length byteCells_append strCells)
set_option linter.unusedVariables false
/-- Of what was there nothing has turned but block r. -/
def Past (r : Nat) (w w' : World) : Prop := w.grownBy w' (some r)
theorem Past.refl (r : Nat) (w : World) : Past r w w := ⟨rfl, rfl, rfl, Nat.le_refl _, fun _ _ _ => rfl⟩
theorem Past.trans {r : Nat} {a b c : World} (h : Past r a b) (k : Past r b c) : Past r a c :=
  ⟨k.os.trans h.os, k.tape.trans h.tape, k.output.trans h.output, Nat.le_trans h.size k.size, fun i hi hne => (k.block i (Nat.lt_of_lt_of_le hi h.size) hne).trans (h.block i hi hne)⟩
theorem Past.of {r : Nat} {w w' : World} (h : Below w.heap.size w w') : Past r w w' := ⟨h.os, h.tape, h.output, h.size, fun k hk _ => h.block k hk⟩
theorem Past.alloc {r : Nat} {a w : World} (h : Past r a w) (o : Obj) : Past r a (w.alloc o) := h.trans (Past.of ((Below.refl _ w).alloc (Nat.le_refl _) o))
theorem Past.drew {r : Nat} {a w : World} (h : Past r a w) : Past r a w.drew := ⟨h.os, h.tape, h.output, h.size, h.block⟩
theorem Past.set (r i : Nat) (w : World) (v : Value) : Past r w (w.setCell ⟨r, i, none⟩ v) :=
  ⟨rfl, rfl, rfl, by simp [World.setCell], fun k _ hne => Below.heap_setCell _ _ _ _ (by intro e; exact hne (by rw [e]))⟩
theorem Past.below {r B : Nat} {w w' : World} (h : Past r w w') (hB : B ≤ r) (hs : B ≤ w.heap.size) : Below B w w' :=
  ⟨h.os, h.tape, h.output, h.size, fun k hk => h.block k (by omega) (by intro e; injection e with e; omega)⟩
theorem Past.cell {r : Nat} {w w' : World} (h : Past r w w') {p : Addr} (hp : p.block ≠ r) (hlt : p.block < w.heap.size) : w'.cell? p = w.cell? p :=
  World.cell?_of_block (w := w) (h.block p.block hlt (by intro e; injection e with e; exact hp e))
/-- The reader in block r has l still to be read. -/
def Rd (w : World) (r : Nat) (l : List UInt8) : Prop :=
  ∃ A c, w.cell? ⟨r, 0, none⟩ = some (.slice A l.length c) ∧ w.frozen? ⟨r, 0, none⟩ = false ∧ l.length ≤ c ∧ c ≤ maxLen ∧ BytesAt w r A l
theorem Rd.lt {w : World} {r : Nat} {l : List UInt8} (h : Rd w r l) : r < w.heap.size := by
  obtain ⟨A, c, h0, _⟩ := h
  exact World.block_lt_of_cell? w _ h0
theorem Rd.below {w w' : World} {r : Nat} {l : List UInt8} (h : Rd w r l) (hb : Below w.heap.size w w') : Rd w' r l := by
  have hlt := h.lt
  obtain ⟨A, c, h0, h1, h2, h3, h4⟩ := h
  exact ⟨A, c, (hb.cell (p := ⟨r, 0, none⟩) hlt).trans h0, (hb.frozen (p := ⟨r, 0, none⟩) hlt).trans h1, h2, h3, h4.below (hb.mono (by omega))⟩
def gaveUp : PanicEntry := { v := .iface 27 (.int .i64 41), recovered := false }
theorem must_ok (p : Value) (w : World) : Calls Try.prog 40 #[p, .bool true] w fun e w' => e = .returned (.tuple #[]) ∧ w = w' := by
  go_enter Try.func40, Try.ntmps40
  go_wp2
  go_end0
  exact ⟨rfl, rfl⟩
theorem must_no (p : Value) (w : World) : Calls Try.prog 40 #[p, .bool false] w fun e w' => e = .panicked [gaveUp] ∧ w = w' := by
  go_enter Try.func40, Try.ntmps40
  go_wp2
  exact ⟨rfl, rfl, rfl⟩
theorem Rd.step {w : World} {r n m c : Nat} {l : List UInt8} {A : Option Addr} (h0 : w.cell? ⟨r, 0, none⟩ = some (.slice A m c)) (h1 : w.frozen? ⟨r, 0, none⟩ = false) (hm : l.length = m) (hn : n ≤ m) (hc : m ≤ c) (hcm : c ≤ maxLen) (hb : BytesAt w r A l) :
    Rd (w.setCell ⟨r, 0, none⟩ (.slice (if c = n then A else A.map (·.add n)) (m - n) (c - n))) r (l.drop n) := by
  refine ⟨if c = n then A else A.map (·.add n), c - n, ?_, ?_, ?_, ?_, ?_⟩
  · rw [World.cell?_setCell_same _ _ _ h0, List.length_drop, hm]
  · rw [World.frozen?_setCell]
    exact h1
  · rw [List.length_drop]; omega
  · omega
  · exact (hb.drop n c (by omega) (by omega)).below ((Below.refl r w).setCell (Nat.le_refl _) _)
def NextPost (r n : Nat) (l : List UInt8) (w : World) (e : Ending) (w' : World) : Prop :=
  ∃ A c, e = .returned (.slice A n c) ∧ n ≤ c ∧ c ≤ maxLen ∧ BytesAt w' r A (l.take n) ∧ Rd w' r (l.drop n) ∧ Past r w w'
theorem next_ok (r : Nat) (n : Nat) (l : List UInt8) (w : World) (h : Rd w r l) (hn : n ≤ l.length) :
    Calls Try.prog 44 #[.pointer (some ⟨r, 0, none⟩), .int .u64 (n : Int)] w (NextPost r n l w) := by
  obtain ⟨A, c, h0, h1, h2, h3, h4⟩ := h
  obtain ⟨m, hm⟩ : ∃ m, l.length = m := ⟨_, rfl⟩
  have hc : c ≤ 9223372036854775807 := by unfold maxLen at h3; omega
  rw [hm] at h0 h2 hn
  have HS := Lib.hid (Rd.step h0 h1 hm hn h2 h3 h4)
  have HB := Lib.hid ((h4.take n).below ((Below.refl r w).setCell (p := ⟨r, 0, none⟩) (Nat.le_refl _) (.slice (if c = n then A else A.map (·.add n)) (m - n) (c - n))))
  have H3 := Lib.hid (show n ≤ c by omega)
  have H4 := Lib.hid h3
  clear hm h4 h3
  have hW : IntKind.u64.wrap (m : Int) = (m : Int) := u64_in _ (by omega)
  by_cases hcn : c = n
  · subst hcn
    rw [if_pos rfl, show m - c = 0 by omega, Nat.sub_self] at HS HB
    go_enter Try.func44, Try.ntmps44
    go_wp2_with (go_at_call 40; refine (must_ok _ _).mono ?_; rintro e w' ⟨rfl, rfl⟩)
    go_ret
    exact ⟨A, c, rfl, H3.out, H4.out, HB.out, HS.out, Past.set _ _ _ _⟩
  · rw [if_neg hcn] at HS HB
    go_enter Try.func44, Try.ntmps44
    go_wp2_with (go_at_call 40; refine (must_ok _ _).mono ?_; rintro e w' ⟨rfl, rfl⟩)
    go_ret
    exact ⟨A, c, rfl, H3.out, H4.out, HB.out, HS.out, Past.set _ _ _ _⟩
theorem and_one (n : Nat) (h : n < 18446744073709551616) : bits .and .u64 (n : Int) 1 = ((n % 2 : Nat) : Int) := by
  have := u64_and (n : Int) 1 (by omega) (by omega) (by omega) (by omega)
  rw [this]
  simp
theorem unzig_code (n : Nat) (h : n < 18446744073709551616) : wrap64 (bits .xor .u64 ((n : Int) / 2) (IntKind.u64.wrap (-bits .and .u64 (n : Int) 1))) = unzig n := by
  rw [and_one n h, show (n : Int) / 2 = ((n / 2 : Nat) : Int) by omega]
  unfold unzig
  by_cases h2 : n % 2 = 1
  · rw [if_pos h2, h2, show IntKind.u64.wrap (-((1 : Nat) : Int)) = 18446744073709551615 by rw [IntKind.wrap_u64]; rfl, xor_max _ (by omega)]
    unfold wrap64
    omega
  · rw [if_neg h2, show n % 2 = 0 by omega, show IntKind.u64.wrap (-((0 : Nat) : Int)) = 0 by rw [IntKind.wrap_u64]; rfl, xor_none _ (by omega)]
    unfold wrap64
    omega
set_option maxRecDepth 100000 in
/-- 'string(b)' of bytes that lie somewhere. -/
theorem string_of_bytes {B : Nat} (A : Option Addr) (n c : Nat) (bs : List UInt8) (w : World) (hn : n = bs.length) (h : BytesAt w B A bs) :
    (convert 37 9 (.slice A n c)).run Try.prog w = .ok (.string (txt bs)) w := by
  subst hn
  cases A with
  | none =>
    have hb : bs = [] := by
      cases bs with
      | nil => rfl
      | cons x t => obtain ⟨b, off, e, _⟩ := h 0 (by simp); cases e
    subst hb
    rw [List.length_nil, run_convert_bytes_string w 37 9 5 none 0 c Try.underlying37 Try.underlying5 Try.underlying9]
    simp [Conv.bytesToString, txt]
    rfl
  | some a =>
    refine run_convert_bytes_back (P := Try.prog) w 37 9 5 a c bs Try.underlying37 Try.underlying5 Try.underlying9 (fun j hj => ?_)
    obtain ⟨b, off, e, _, hc⟩ := h j hj
    injection e with e
    subst e
    rw [add_at]
    exact hc
/-- What a reader of one item leaves. -/
def RdPost {α : Type} (r : Nat) (val : α → Value) (o : Option (α × List UInt8)) (w : World) (e : Ending) (w' : World) : Prop :=
  match o with
  | none => e = .panicked [gaveUp] ∧ Past r w w'
  | some p => e = .returned (val p.1) ∧ Rd w' r p.2 ∧ Past r w w'
set_option maxHeartbeats 1000000 in
theorem number_walk (r : Nat) (l : List UInt8) (w : World) (h : Rd w r l) (hl : l.length ≤ 16777216) :
    Calls Try.prog 42 #[.pointer (some ⟨r, 0, none⟩)] w (RdPost r (fun n : Nat => .int .u64 (n : Int)) (unL l) w) := by
  have HR := Lib.hid h
  obtain ⟨A, c, h0, h1, h2, h3, h4⟩ := h
  have hU := unnum_walk l A l.length c w rfl h2 h3 (h4.more (by have := HR.out.lt; omega))
  rcases hu : unL l with _ | ⟨n, rest⟩
  · rw [hu] at hU
    unfold unOut at hU
    have HU := Lib.hid hU
    clear hU h4 h2 h3
    go_enter Try.func42, Try.ntmps42
    go_wp2_with (first | (go_at_call 43; refine HU.out.mono ?_; rintro e w' ⟨rfl, rfl⟩) | (go_at_call 40; refine (must_no _ _).mono ?_; rintro e w' ⟨rfl, rfl⟩))
    exact ⟨rfl, rfl, Past.refl _ _⟩
  · rw [hu] at hU
    unfold unOut at hU
    have hlt := num_codec.less hu
    have HS := Lib.hid (num_codec.suffix hu)
    simp only at hU
    obtain ⟨k, hk⟩ : ∃ k, l.length - rest.length = k := ⟨_, rfl⟩
    have hk2 : Hid (k ≤ l.length) := Lib.hid (by omega)
    have hW : IntKind.u64.wrap (k : Int) = (k : Int) := u64_in _ (by omega)
    rw [hk] at hU HS
    have HU := Lib.hid hU
    clear hU h4 h2 h3 hk hlt
    go_enter Try.func42, Try.ntmps42
    go_wp2_with (first | (go_at_call 43; refine HU.out.mono ?_; rintro e w' ⟨rfl, rfl⟩) | (go_at_call 40; refine (must_ok _ _).mono ?_; rintro e w' ⟨rfl, rfl⟩) | (go_at_call 44; refine (next_ok r k l _ HR.out hk2.out).mono ?_; rintro e w1 ⟨A1, c1, rfl, _, _, _, hr1, hp1⟩; have HR1 := Lib.hid hr1; have HP1 := Lib.hid hp1; clear hr1 hp1))
    go_ret
    exact ⟨rfl, by rw [HS.out]; exact HR1.out, HP1.out⟩
set_option maxHeartbeats 1000000 in
theorem integer_walk (r : Nat) (l : List UInt8) (w : World) (h : Rd w r l) (hl : l.length ≤ 16777216) :
    Calls Try.prog 35 #[.pointer (some ⟨r, 0, none⟩)] w (RdPost r (fun n => .int .i64 n) (rInt l) w) := by
  have hN := number_walk r l w h hl
  unfold rInt
  rcases hu : unL l with _ | ⟨n, rest⟩
  · rw [hu] at hN
    have HN := Lib.hid hN
    clear hN h
    go_enter Try.func35, Try.ntmps35
    go_wp2_with (go_at_call 42; refine HN.out.mono ?_; rintro e w1 ⟨rfl, hp1⟩; have HP1 := Lib.hid hp1; clear hp1)
    exact ⟨rfl, rfl, HP1.out⟩
  · rw [hu] at hN
    have HN := Lib.hid hN
    have hn := (unL_only hu).2
    clear hN h
    go_enter Try.func35, Try.ntmps35
    go_wp2_with (go_at_call 42; refine HN.out.mono ?_; rintro e w1 ⟨rfl, hr1, hp1⟩; have HR1 := Lib.hid hr1; have HP1 := Lib.hid hp1; clear hp1 hr1)
    go_ret
    refine ⟨?_, HR1.out, HP1.out⟩
    rw [show wrap64 (bits .xor .u64 ((n : Int) / 2) (IntKind.u64.wrap (-bits .and .u64 (n : Int) 1))) = unzig n from unzig_code n hn]
    rfl
end Go.Proofs.Ytceoneigflejeaa
/- From CodItem. -/
namespace Go.Proofs.Ytceoneigflejeaa
open Go.ChangeShapes Go.WideShapes Go.ChangeAt Go.RowKit
open Go.Lib (byteCells byteCells_length byteCells_append strCells)
set_option linter.unusedVariables false
theorem Past.frozen {r : Nat} {w w' : World} (h : Past r w w') {p : Addr} (hp : p.block ≠ r) (hlt : p.block < w.heap.size) : w'.frozen? p = w.frozen? p :=
  World.frozen?_of_block (w := w) (h.block p.block hlt (by intro e; injection e with e; exact hp e))
theorem Rd.alloc {w : World} {r : Nat} {l : List UInt8} (h : Rd w r l) (o : Obj) : Rd (w.alloc o) r l := h.below ((Below.refl _ w).alloc (Nat.le_refl _) o)
end Go.Proofs.Ytceoneigflejeaa
/- From CodVal. -/
namespace Go.Proofs.Ytceoneigflejeaa
open Go.ChangeShapes Go.WideShapes Go.ChangeAt Go.RowKit
open Go.Lib (byteCells byteCells_length byteCells_append strCells)
set_option linter.unusedVariables false
end Go.Proofs.Ytceoneigflejeaa
/- From CodItems. -/
namespace Go.Proofs.Ytceoneigflejeaa
open Go.ChangeShapes Go.WideShapes Go.ChangeAt Go.RowKit
open Go.Lib (byteCells byteCells_length byteCells_append strCells)
set_option linter.unusedVariables false
/-- 'l = append(l, v)' of one item that has just been laid. -/
theorem append_item {α : Type} {f : α → List Value} {sz bytes : Nat} {T E : TypeId} {z : Value} (hT : Try.prog.underlying T = some (.slice E)) (hinfo : (Try.prog.info? E).map (fun i => (i.zero, i.size, i.bytes)) = some (some z, sz, bytes)) (hz : z.cells.size = sz) (hsz : 0 < sz)
    (hl : ∀ a, (f a).length = sz) (h1 : ∀ a, ∀ u ∈ f a, u.oneCell' = true)
    {ops : Array Oper} {rest : List Oper} {o : Oper} {a : Act} {Q : Exit → Act → World → Prop} (hgd : o.guard = none) (s x : Operand)
    (ho : o.op = .call { callee := .builtin .append, args := #[s, x], argTypes := #[T, T] })
    (B : Nat) (A : Option Addr) (n c : Nat) (l : List α) (hs : a.eval s = .slice A n c) (w0 : World) (v : α) (hb : w0.ownsRow B E sz (.slice A n c) n (l.flatMap f)) (hB : B ≤ w0.heap.size)
    (L : Nat) (hx : a.eval x = .slice (some ⟨L, 0, none⟩) 1 1) (hL : L = w0.heap.size) (hlen : (n + 1) * bytes ≤ 140737488355328) (hn : n + 1 ≤ maxLen) (cells : List Value) (hcells : cells = f v)
    (h : ∀ A' n' c' w', n' = n + 1 → w'.ownsRow B E sz (.slice A' n' c') n' ((l ++ [v]).flatMap f) → Below B w0 w' → (w0.alloc (.cells cells.toArray E)).grownBy w' (Value.ownBlock (.slice A n c)) → wpList Try.prog ops Q rest (a.put o.dst (.slice A' n' c')) w') :
    wpList Try.prog ops Q (o :: rest) a (w0.alloc (.cells cells.toArray E)) := by
  subst hL
  subst hcells
  obtain ⟨i0, hi, hz0, hz1, hz2⟩ := info_parts hinfo
  have hb1 := hb.alloc (.cells (f v).toArray E)
  refine wpList_append_own_at _ hgd s x T ho B E i0 _ sz bytes hT hi hz0 hz1 hz2 hz hsz (.slice A n c) n (l.flatMap f) hs hb1 ⟨w0.heap.size, 0, none⟩ 1 1 (f v) hx (by rw [hl, Nat.one_mul])
    (new_cells w0 _ _) (h1 v) hn hlen (by simp; omega) ?_
  intro v' w' hown hg _ _
  obtain ⟨A', c', rfl⟩ := own_slice hown
  refine h A' (n + 1) c' w' rfl (by rw [List.flatMap_append]; simpa using hown) ?_ hg
  exact ((Below.refl B w0).alloc hB _).grown hg (by simp; omega) (fun k e => (hb.lt k e).1)
theorem own_past {r : Nat} {w w' : World} {base : Nat} {e : TypeId} {size : Nat} {v : Value} {n : Nat} {xs : List Value} (h : w.ownsRow base e size v n xs) (hp : Past r w w') (hr : r < base) : w'.ownsRow base e size v n xs := by
  refine ⟨h.1, ?_⟩
  rcases h.2 with ⟨rfl, h0⟩ | ⟨g, cap, cur, rfl, hg, hh, rest⟩
  · exact .inl ⟨rfl, h0⟩
  · exact .inr ⟨g, cap, cur, rfl, hg, (hp.block g (Array.getElem?_eq_some_iff.1 hh).1 (by intro e; injection e with e; omega)).trans hh, rest⟩
theorem Rd.grown {r B : Nat} {w w' : World} {l : List UInt8} (h : Rd w r l) (hb : Below B w w') (hr : r < B) : Rd w' r l := by
  obtain ⟨A, c, h0, h1, h2, h3, h4⟩ := h
  exact ⟨A, c, (hb.cell (p := ⟨r, 0, none⟩) hr).trans h0, (hb.frozen (p := ⟨r, 0, none⟩) hr).trans h1, h2, h3, h4.below (hb.mono (by omega))⟩
/-- Below B nothing has turned but block r. -/
def PastB (r B : Nat) (w w' : World) : Prop := w'.os = w.os ∧ w'.tape = w.tape ∧ w'.output = w.output ∧ w.heap.size ≤ w'.heap.size ∧ ∀ k, k < B → k ≠ r → w'.heap[k]? = w.heap[k]?
theorem PastB.refl (r B : Nat) (w : World) : PastB r B w w := ⟨rfl, rfl, rfl, Nat.le_refl _, fun _ _ _ => rfl⟩
theorem PastB.past {r B : Nat} {a b c : World} (h : PastB r B a b) (k : Past r b c) (hB : B ≤ b.heap.size) : PastB r B a c :=
  ⟨k.os.trans h.1, k.tape.trans h.2.1, k.output.trans h.2.2.1, Nat.le_trans h.2.2.2.1 k.size, fun i hi hne => (k.block i (by omega) (by intro e; injection e with e; exact hne e)).trans (h.2.2.2.2 i hi hne)⟩
theorem PastB.below {r B : Nat} {a b c : World} (h : PastB r B a b) (k : Below B b c) : PastB r B a c :=
  ⟨k.os.trans h.1, k.tape.trans h.2.1, k.output.trans h.2.2.1, Nat.le_trans h.2.2.2.1 k.size, fun i hi hne => (k.block i hi).trans (h.2.2.2.2 i hi hne)⟩
theorem PastB.whole {r : Nat} {a b : World} (h : PastB r a.heap.size a b) : Past r a b := ⟨h.1, h.2.1, h.2.2.1, h.2.2.2.1, fun k hk hne => h.2.2.2.2 k hk (by intro e; exact hne (by rw [e]))⟩
/-- k items have been read: they are xs; m is left. -/
def ManyK {α : Type} (dec : List UInt8 → Option (α × List UInt8)) (n : Nat) (l : List UInt8) (k : Nat) (xs : List α) (m : List UInt8) : Prop := xs.length = k ∧ rMany dec n l = (rMany dec (n - k) m).map fun q => (xs ++ q.1, q.2)
section
variable {α : Type} {dec : List UInt8 → Option (α × List UInt8)} {n k : Nat} {l m : List UInt8} {xs : List α}
theorem ManyK.start : ManyK dec n l 0 [] l := ⟨rfl, by rw [Nat.sub_zero]; cases rMany dec n l <;> simp⟩
theorem ManyK.bad (h : ManyK dec n l k xs m) (hk : k < n) (hd : dec m = none) : rMany dec n l = none := by
  rw [h.2, show n - k = (n - k - 1) + 1 by omega, rMany_none hd]
  rfl
theorem ManyK.next {a : α} {q : List UInt8} (h : ManyK dec n l k xs m) (hk : k < n) (hd : dec m = some (a, q)) : ManyK dec n l (k + 1) (xs ++ [a]) q := by
  refine ⟨by simp [h.1], ?_⟩
  rw [h.2, show n - k = (n - (k + 1)) + 1 by omega, rMany_some hd]
  cases rMany dec (n - (k + 1)) q <;> simp
theorem ManyK.done (h : ManyK dec n l k xs m) (hk : n ≤ k) : rMany dec n l = some (xs, m) := by
  rw [h.2, show n - k = 0 by omega, rMany_zero]
  simp
end
/-- What items leaves. -/
def ItemsPost {α : Type} (r : Nat) (E : TypeId) (sz : Nat) (f : α → List Value) (o : Option (List α × List UInt8)) (w : World) (e : Ending) (w' : World) : Prop :=
  match o with
  | none => e = .panicked [gaveUp] ∧ Past r w w'
  | some p => ∃ A c, e = .returned (.slice A p.1.length c) ∧ w'.ownsRow w.heap.size E sz (.slice A p.1.length c) p.1.length (p.1.flatMap f) ∧ Rd w' r p.2 ∧ Past r w w'
theorem info_int : (Try.prog.info? 2).map (fun i => (i.zero, i.size, i.bytes)) = some (some (Value.int .i64 0), 1, 8) := by kernel_rfl
set_option maxHeartbeats 2000000 in
theorem items_int (r : Nat) (l : List UInt8) (w : World) (h : Rd w r l) (hl : l.length ≤ 16777216) :
    Calls Try.prog 41 #[.pointer (some ⟨r, 0, none⟩), .int .u64 16777216, .func (.func 35) #[] #[]] w (ItemsPost r 2 1 iCells (rList rInt 16777216 l) w) := by
  have HR := Lib.hid h
  have HNE := Lib.hid h.lt
  have hN := number_walk r l w h hl
  rcases hu : unL l with _ | ⟨n, m⟩
  · rw [hu] at hN
    rw [rList_none hu]
    have HN := Lib.hid hN
    clear hN h
    go_enter Try.func41, Try.ntmps41
    go_wp2_with (go_at_call 42; refine HN.out.mono ?_; rintro e w1 ⟨rfl, hp1⟩; have HP1 := Lib.hid hp1; clear hp1)
    exact ⟨rfl, rfl, HP1.out⟩
  · rw [hu] at hN
    have HN := Lib.hid hN
    have HML := Lib.hid (num_codec.less hu)
    by_cases hm : n ≤ 16777216
    · rw [rList_some hu hm]
      have hg1 : decide ((n : Int) ≤ 16777216) = true := decide_eq_true (by omega)
      clear hN h
      go_enter Try.func41, Try.ntmps41
      go_wp2_with (first | (go_at_call 42; refine HN.out.mono ?_; rintro e w1 ⟨rfl, hr1, hp1⟩; have HR1 := Lib.hid hr1; have HP1 := Lib.hid hp1; clear hp1 hr1) | (go_at_call 40; refine (must_ok _ _).mono ?_; rintro e w2 ⟨rfl, rfl⟩))
      clear hg1
      go_loopw [8, 17] (fun lv iv wr => ∃ (k : Nat) (xs : List Int) (q : List UInt8) (A : Option Addr) (c : Nat), k ≤ n ∧ iv = .int .u64 (k : Int) ∧ lv = .slice A k c ∧ Hid (ManyK rInt n m k xs q) ∧ Hid (q.length ≤ m.length) ∧ Hid (wr.ownsRow w.heap.size 2 1 (.slice A k c) k (xs.flatMap iCells)) ∧ Hid (Rd wr r q) ∧ Hid (PastB r w.heap.size w wr)) (fun _ iv _ => n - (intOf iv).toNat)
      case atStart => exact ⟨0, [], m, none, 0, Nat.zero_le _, rfl, rfl, Lib.hid ManyK.start, Lib.hid (Nat.le_refl _), Lib.hid (World.ownsRow_nil _ _ _ _), HR1, Lib.hid ((PastB.refl r _ w).past HP1.out (Nat.le_refl _))⟩
      case round =>
        obtain ⟨k, xs, q, A, c, hk, rfl, rfl, HM, HQ, HO, HRr, HPr⟩ := hrel
        by_cases hlt : k < n
        · have HW := integer_walk r q wr HRr.out (by have := HQ.out; have := HML.out; omega)
          have HWS := Lib.hid HPr.out.2.2.2.1
          rcases hd : rInt q with _ | ⟨a, q2⟩
          · rw [hd] at HW
            have HC := Lib.hid HW
            have HF := Lib.hid (HM.out.bad hlt hd)
            clear HW
            go_wp2_with (go_at_call 35; refine HC.out.mono ?_; rintro e w2 ⟨rfl, hp2⟩; have HP2 := Lib.hid (HPr.out.past hp2 HWS.out).whole; clear hp2)
            rw [HF.out]
            exact ⟨rfl, rfl, HP2.out⟩
          · rw [hd] at HW
            have HC := Lib.hid HW
            have HF := Lib.hid (HM.out.next hlt hd)
            have HQ2 := Lib.hid (show q2.length ≤ m.length by have h1 := int_codec.less hd; have := HQ.out; omega)
            clear HW
            go_wp2_with (first | (go_at_call 35; refine HC.out.mono ?_; rintro e w2 ⟨rfl, hr2, hp2⟩; have HR2 := Lib.hid hr2; have HO2 := Lib.hid (own_past HO.out hp2 HNE.out); have HS2 := Lib.hid (Nat.le_trans HWS.out hp2.size); have HP2 := Lib.hid (HPr.out.past hp2 HWS.out); clear hp2 hr2) | (at_builtin; go_loud (refine append_item Try.underlying54 info_int rfl (by decide) iCells_length iCells_one rfl _ _ rfl w.heap.size A k c xs rfl _ a HO2.out HS2.out _ rfl rfl (by omega) (by unfold maxLen; omega) [_] rfl ?_); intro A3 n3 c3 w3 hn3 ho3 hb3 hg3; have HO3 := Lib.hid ho3; have HR3 := Lib.hid (HR2.out.grown hb3 HNE.out); have HP3 := Lib.hid (HP2.out.below hb3); clear ho3 hb3 hg3; subst hn3))
            go_roundw
            case rel => exact ⟨k + 1, xs ++ [a], q2, A3, c3, by omega, by go_num, rfl, HF, HQ2, HO3, HR3, HP3⟩
            case measure => simp [intOf]; omega
        · have HF := Lib.hid (HM.out.done (by omega))
          have HL := Lib.hid HM.out.1
          have hkn : k = n := by omega
          subst hkn
          go_wp2
          go_ret
          rw [HF.out]
          refine ⟨A, c, ?_, ?_, HRr.out, HPr.out.whole⟩
          · rw [HL.out]; rfl
          · rw [HL.out]; exact HO.out
    · rw [rList_many hu (by omega)]
      have hg1 : decide ((n : Int) ≤ 16777216) = false := decide_eq_false (by omega)
      have hg2 : decide (n ≤ 16777216) = false := decide_eq_false hm
      clear hN h hm
      go_enter Try.func41, Try.ntmps41
      go_wp2_with (first | (go_at_call 42; refine HN.out.mono ?_; rintro e w1 ⟨rfl, hr1, hp1⟩; have HR1 := Lib.hid hr1; have HP1 := Lib.hid hp1; clear hp1 hr1) | (go_at_call 40; refine (must_no _ _).mono ?_; rintro e w2 ⟨rfl, rfl⟩))
      exact ⟨rfl, rfl, HP1.out⟩
end Go.Proofs.Ytceoneigflejeaa
/- From CodRows. -/
namespace Go.Proofs.Ytceoneigflejeaa
open Go.ChangeShapes Go.WideShapes Go.ChangeAt Go.RowKit
open Go.Lib (byteCells byteCells_length byteCells_append strCells)
set_option linter.unusedVariables false
end Go.Proofs.Ytceoneigflejeaa
/- From CodWhole. -/
namespace Go.Proofs.Ytceoneigflejeaa
open Go.ChangeShapes Go.WideShapes Go.ChangeAt Go.RowKit
open Go.Lib (byteCells byteCells_length byteCells_append strCells)
set_option linter.unusedVariables false
def saved : PanicEntry := { v := .iface 27 (.int .i64 41), recovered := true }
theorem must_b (p : Value) (b : Bool) (w : World) : Calls Try.prog 40 #[p, .bool b] w fun e w' => (b = true → e = .returned (.tuple #[]) ∧ w = w') ∧ (b = false → e = .panicked [gaveUp] ∧ w = w') := by
  cases b
  · exact (must_no p w).mono fun e w' h => ⟨fun h => (by cases h), fun _ => h⟩
  · exact (must_ok p w).mono fun e w' h => ⟨fun _ => h, fun h => (by cases h)⟩
theorem past3 {r B : Nat} {w W w2 : World} (h : Below B w W) (hp : Past r W w2) (hr : B ≤ r) (hB : B ≤ W.heap.size) : Below B w w2 := h.trans (hp.below hr hB)
/-- What whole leaves, of items of one kind. -/
def WholePost {α : Type} (E : TypeId) (sz : Nat) (f : α → List Value) (o : Option (List α)) (w : World) (e : Ending) (w' : World) : Prop :=
  match o with
  | none => e = .returned (.tuple #[.slice none 0 0, .int .i64 41]) ∧ Below w.heap.size w w'
  | some xs => ∃ A c, e = .returned (.tuple #[.slice A xs.length c, .int .i64 0]) ∧ w'.ownsRow w.heap.size E sz (.slice A xs.length c) xs.length (xs.flatMap f) ∧ Below w.heap.size w w'
/-- One cell of a block. -/
structure OneC (w : World) (g : Nat) (x : Value) : Prop where
  c0 : w.cell? ⟨g, 0, none⟩ = some x
  f0 : w.frozen? ⟨g, 0, none⟩ = false
theorem OneC.past {r : Nat} {w w' : World} {g : Nat} {x : Value} (h : OneC w g x) (hp : Past r w w') (hne : g ≠ r) : OneC w' g x := by
  have hlt := World.block_lt_of_cell? w _ h.c0
  exact ⟨(hp.cell (p := ⟨g, 0, none⟩) hne hlt).trans h.c0, (hp.frozen (p := ⟨g, 0, none⟩) hne hlt).trans h.f0⟩
theorem catch_panicking_int (p q : Addr) (x : Value) (y : Value) (w : World) (hc : w.cell? p = some x) (hz : w.frozen? p = false) (hc2 : w.cell? q = some y) (hz2 : w.frozen? q = false) (hne : p ≠ q) :
    CallsD Try.prog 39 #[.pointer (some p), .pointer (some q)] (.panicking [gaveUp]) w fun e u' w' =>
      e = .returned (.tuple #[]) ∧ u' = .panicking [saved] ∧ w' = (w.setCell p (.slice none 0 0)).setCell q (.int .i64 41) := by
  refine callsD_of_wpS Try.func39 rfl fun c₀ cs hu => ?_
  apply wpS_seq
  apply wpS_region
  simp [wpOpsS, go_sem, recoverD, hu, Try.ntmps39, Exit.thenS, gaveUp]
  refine wpS_cond (t := true) (by simp [Act.eval, Array.replicate]) ?_
  simp only [if_true]
  apply wpS_region
  have hc3 : (w.setCell p (.slice none 0 0)).cell? q = some y := by rw [World.cell?_setCell_other _ _ _ _ hne]; exact hc2
  have hz3 : (w.setCell p (.slice none 0 0)).frozen? q = false := by rw [World.frozen?_setCell]; exact hz2
  simp [wpOpsS, go_sem, hc, hz, hc3, hz3, bodyPostS, results, Try.results39, saved]
theorem catch_idle_int (p q : Addr) (w : World) :
    CallsD Try.prog 39 #[.pointer (some p), .pointer (some q)] .returning w fun e u' w' => e = .returned (.tuple #[]) ∧ u' = .returning ∧ w' = w := by
  refine callsD_of_wpS Try.func39 rfl fun c₀ cs hu => ?_
  apply wpS_seq
  apply wpS_region
  simp [wpOpsS, go_sem, recoverD, hu, Try.ntmps39, Exit.thenS]
  refine wpS_cond (t := false) (by simp [Act.eval, Array.replicate]) ?_
  simp only [Bool.false_eq_true, if_false]
  refine wpS_of_wp (wp_skip ?_)
  cases c₀
  simp_all [bodyPostS, results, Try.results39]
set_option maxRecDepth 4000 in
set_option maxHeartbeats 2000000 in
theorem whole_int (l : List UInt8) (A : Option Addr) (n c : Nat) (w : World) (hn : n = l.length) (hc : n ≤ c) (hcm : c ≤ maxLen) (hl : n ≤ 16777216) (hb : BytesAt w w.heap.size A l) :
    Calls Try.prog 34 #[.slice A n c, .func (.func 35) #[] #[]] w (WholePost 2 1 iCells (whole rInt l) w) := by
  have hmf : ∀ (fn : Fn) (first cap : Array Value) (w : World), (Instr.makeFunc fn first cap).run Try.prog w = .ok (.func fn first cap) w := fun _ _ _ _ => rfl
  have HRD := Lib.hid (show Rd (((w.alloc (.cells #[.slice none 0 0] 54)).alloc (.cells #[.int .i64 0] 27)).alloc (.cells #[.slice A n c] 78)) (w.heap.size + 1 + 1) l from by
    refine ⟨A, c, ?_, ?_, by omega, hcm, (hb.below ((((Below.refl _ w).alloc (Nat.le_refl _) _).alloc (by simp) _).alloc (by simp; omega) _)).more (by omega)⟩
    · rw [← hn]; simp [go_sem]
    · simp [go_sem])
  have HB := Lib.hid (((((Below.refl _ w).alloc (Nat.le_refl _) (.cells #[.slice none 0 0] 54)).alloc (by simp) (.cells #[.int .i64 0] 27)).alloc (by simp; omega) (.cells #[.slice A n c] 78)))
  have HX := Lib.hid (show OneC (((w.alloc (.cells #[.slice none 0 0] 54)).alloc (.cells #[.int .i64 0] 27)).alloc (.cells #[.slice A n c] 78)) w.heap.size (.slice none 0 0) from ⟨by simp [go_sem], by simp [go_sem]⟩)
  have HY := Lib.hid (show OneC (((w.alloc (.cells #[.slice none 0 0] 54)).alloc (.cells #[.int .i64 0] 27)).alloc (.cells #[.slice A n c] 78)) (w.heap.size + 1) (.int .i64 0) from ⟨by simp [go_sem], by simp [go_sem]⟩)
  have HI := items_int (w.heap.size + 1 + 1) l _ HRD.out (by omega)
  have hl2 : ¬ (16777216 : Int) < (n : Int) := by omega
  have hl3 : decide (n ≤ 16777216) = true := decide_eq_true hl
  have hl4 : decide ((n : Int) ≤ 16777216) = true := decide_eq_true (by omega)
  clear hb hcm hn
  rcases hu : rList rInt 16777216 l with _ | ⟨xs, m⟩
  · rw [hu] at HI
    rw [whole_none hu]
    have HIT := Lib.hid HI
    clear HI
    go_enter_defers Try.func34, Try.ntmps34
    go_wp2_with (first | (go_at_call 40; refine (must_b _ _ _).mono ?_; intro e w' hh; first | (obtain ⟨rfl, rfl⟩ := hh.1 rfl) | (obtain ⟨rfl, rfl⟩ := hh.2 rfl)) | (go_at_call 41; refine HIT.out.mono ?_; rintro e w2 ⟨rfl, hp2⟩; have HP2 := Lib.hid hp2; have HX2 := Lib.hid (HX.out.past hp2 (by omega)); have HY2 := Lib.hid (HY.out.past hp2 (by omega)); clear hp2))
    have x0 := HX2.out.c0
    have y0 := HY2.out.c0
    refine leaves_cons (f := 39) (args := #[.pointer (some ⟨w.heap.size, 0, none⟩), .pointer (some ⟨w.heap.size + 1, 0, none⟩)]) (by simp) (by simp [go_sem]) ?_
    refine (catch_panicking_int ⟨w.heap.size, 0, none⟩ ⟨w.heap.size + 1, 0, none⟩ (.slice none 0 0) (.int .i64 0) _ (by simp [go_sem, x0]) (by simp [go_sem, HX2.out.f0]) (by simp [go_sem, y0]) (by simp [go_sem, HY2.out.f0]) (by simp)).mono ?_
    rintro e u' w'' ⟨rfl, rfl, rfl⟩
    refine ⟨.tuple #[.slice none 0 0, .int .i64 41], by simp [results, Try.results34, go_sem, x0, y0], rfl, ?_⟩
    exact ((past3 HB.out HP2.out (by omega) (by first | (simp; done) | (simp; omega))).setCell (p := ⟨w.heap.size, 0, none⟩) (Nat.le_refl _) _).setCell (p := ⟨w.heap.size + 1, 0, none⟩) (by simp) _
  · rw [hu] at HI
    match m, hu with
    | [], hu =>
      rw [whole_some hu]
      have HIT := Lib.hid HI
      clear HI
      go_enter_defers Try.func34, Try.ntmps34
      go_wp2_with (first | (go_at_call 40; refine (must_b _ _ _).mono ?_; intro e w' hh; first | (obtain ⟨rfl, rfl⟩ := hh.1 rfl) | (obtain ⟨rfl, rfl⟩ := hh.2 rfl)) | (go_at_call 41; refine HIT.out.mono ?_; rintro e w2 ⟨A2, c2, rfl, ho2, hr2, hp2⟩; have HO2 := Lib.hid ho2; have HR2 := Lib.hid hr2; have HP2 := Lib.hid hp2; have HX2 := Lib.hid (HX.out.past hp2 (by omega)); have HY2 := Lib.hid (HY.out.past hp2 (by omega)); obtain ⟨A3, c3, h30, h31, _, _, _⟩ := hr2; have x0 := HX2.out.c0; have x1 := HX2.out.f0; have y0 := HY2.out.c0; have y1 := HY2.out.f0; clear hp2 ho2))
      refine leaves_cons (f := 39) (args := #[.pointer (some ⟨w.heap.size, 0, none⟩), .pointer (some ⟨w.heap.size + 1, 0, none⟩)]) (by simp) (by simp [go_sem]) ?_
      refine (catch_idle_int ⟨w.heap.size, 0, none⟩ ⟨w.heap.size + 1, 0, none⟩ _).mono ?_
      rintro e u' w'' ⟨rfl, rfl, rfl⟩
      refine ⟨.tuple #[.slice A2 xs.length c2, .int .i64 0], by simp [results, Try.results34, go_sem, x0, y0], A2, c2, rfl, ?_, ?_⟩
      · exact (ownsRow_setCell_below (ownsRow_setCell_below (ownsRow_setCell_below (HO2.out) (by first | (simp; done) | (simp; omega)) _) (by first | (simp; done) | (simp; omega)) _) (by first | (simp; done) | (simp; omega)) _).mono (by first | (simp; done) | (simp; omega))
      · exact (((past3 HB.out HP2.out (by omega) (by first | (simp; done) | (simp; omega))).setCell (p := ⟨w.heap.size, 0, none⟩) (Nat.le_refl _) _).setCell (p := ⟨w.heap.size, 0, none⟩) (Nat.le_refl _) _).setCell (p := ⟨w.heap.size + 1, 0, none⟩) (by simp) _
    | c1 :: t1, hu =>
      rw [whole_rest hu (by simp)]
      obtain ⟨k, hk⟩ : ∃ k, (c1 :: t1).length = k := ⟨_, rfl⟩
      have HK := Lib.hid hk
      have e0 : ((k : Int) == 0) = false := by simp at hk; rw [beq_eq_false_iff_ne]; omega
      have e1 : (k == 0) = false := by simp at hk; rw [beq_eq_false_iff_ne]; omega
      clear hk
      have HIT := Lib.hid HI
      clear HI
      go_enter_defers Try.func34, Try.ntmps34
      go_wp2_with (first | (go_at_call 40; refine (must_b _ _ _).mono ?_; intro e w' hh; first | (obtain ⟨rfl, rfl⟩ := hh.1 rfl) | (obtain ⟨rfl, rfl⟩ := hh.2 rfl)) | (go_at_call 41; refine HIT.out.mono ?_; rintro e w2 ⟨A2, c2, rfl, ho2, hr2, hp2⟩; have HP2 := Lib.hid hp2; have HX2 := Lib.hid (HX.out.past hp2 (by omega)); have HY2 := Lib.hid (HY.out.past hp2 (by omega)); obtain ⟨A3, c3, h30, h31, _, _, _⟩ := hr2; rw [HK.out] at h30; have x0 := HX2.out.c0; have x1 := HX2.out.f0; have y0 := HY2.out.c0; have y1 := HY2.out.f0; clear hp2 ho2))
      have x0 := HX2.out.c0
      have y0 := HY2.out.c0
      refine leaves_cons (f := 39) (args := #[.pointer (some ⟨w.heap.size, 0, none⟩), .pointer (some ⟨w.heap.size + 1, 0, none⟩)]) (by simp) (by simp [go_sem]) ?_
      refine (catch_panicking_int ⟨w.heap.size, 0, none⟩ ⟨w.heap.size + 1, 0, none⟩ (.slice A2 xs.length c2) (.int .i64 0) _ (by simp [go_sem, x0]) (by simp [go_sem, HX2.out.f0]) (by simp [go_sem, y0]) (by simp [go_sem, HY2.out.f0]) (by simp)).mono ?_
      rintro e u' w'' ⟨rfl, rfl, rfl⟩
      refine ⟨.tuple #[.slice none 0 0, .int .i64 41], by simp [results, Try.results34, go_sem, x0, y0], rfl, ?_⟩
      exact (((past3 HB.out HP2.out (by omega) (by first | (simp; done) | (simp; omega))).setCell (p := ⟨w.heap.size, 0, none⟩) (Nat.le_refl _) _).setCell (p := ⟨w.heap.size, 0, none⟩) (Nat.le_refl _) _).setCell (p := ⟨w.heap.size + 1, 0, none⟩) (by simp) _
end Go.Proofs.Ytceoneigflejeaa
/- From CodAlive. -/
namespace Go.Proofs.Ytceoneigflejeaa
open Go.ChangeShapes Go.WideShapes Go.ChangeAt Go.RowKit
open Go.Lib (byteCells byteCells_length byteCells_append strCells)
set_option linter.unusedVariables false
theorem unnums_walk (l : List UInt8) (A : Option Addr) (n c : Nat) (w : World) (hn : n = l.length) (hc : n ≤ c) (hcm : c ≤ maxLen) (hl : n ≤ 16777216) (hb : BytesAt w w.heap.size A l) :
    Calls Try.prog 26 #[.slice A n c] w (WholePost 2 1 iCells (whole rInt l) w) := by
  have H := whole_int l A n c w hn hc hcm hl hb
  cases hu : whole rInt l with
  | none =>
    rw [hu] at H
    have HH := Lib.hid H
    clear H hb hn hc hcm hl
    go_enter Try.func26, Try.ntmps26
    go_wp2_with (go_at_call 34; refine HH.out.mono ?_; rintro e w1 ⟨rfl, hb1⟩; have HB1 := Lib.hid hb1; clear hb1)
    go_ret2
    exact ⟨rfl, HB1.out⟩
  | some xs =>
    rw [hu] at H
    have HH := Lib.hid H
    clear H hb hn hc hcm hl
    go_enter Try.func26, Try.ntmps26
    go_wp2_with (go_at_call 34; refine HH.out.mono ?_; rintro e w1 ⟨A1, c1, rfl, ho1, hb1⟩; have HO1 := Lib.hid ho1; have HB1 := Lib.hid hb1; clear hb1 ho1)
    go_ret2
    exact ⟨A1, c1, rfl, HO1.out, HB1.out⟩
theorem RowC.new {α : Type} {f : α → List Value} {sz : Nat} (hl : ∀ a, (f a).length = sz) (w : World) (l : List α) (E : TypeId) (cs : Array Value) (hc : cs = (l.flatMap f).toArray) : RowC f sz (w.alloc (.cells cs E)) (w.alloc (.cells cs E)).heap.size (some ⟨w.heap.size, 0, none⟩) l := by
  subst hc
  intro j hj
  refine ⟨w.heap.size, 0, rfl, by simp, fun i v hv => ?_⟩
  have := new_cells w (l.flatMap f) E _ _ (flat_at hl l j hj i v hv)
  rw [add_at] at this
  rw [Nat.add_assoc]
  exact this
theorem BytesAt.new (w : World) (l : List UInt8) (cs : Array Value) (hc : cs = (byteCells l).toArray) : BytesAt (w.alloc (.cells cs 5)) (w.alloc (.cells cs 5)).heap.size (some ⟨w.heap.size, 0, none⟩) l := by
  subst hc
  intro j hj
  have := new_cells w (byteCells l) 5 j (.int .u8 (l[j].toNat : Int)) (by simp [byteCells, List.getElem?_eq_getElem hj])
  rw [add_at] at this
  exact ⟨w.heap.size, 0, rfl, by simp, this⟩
end Go.Proofs.Ytceoneigflejeaa
