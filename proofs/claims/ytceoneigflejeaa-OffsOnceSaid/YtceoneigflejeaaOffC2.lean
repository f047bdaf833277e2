/- What a seat needs of several texts. -/
import Derived.Test.YtceoneigflejeaaOffC1
import Derived.Deep.RegionLaw
/- From CodRnum. -/
namespace Go.Proofs.Ytceoneigflejeaa
open Go.ChangeShapes Go.WideShapes Go.ChangeAt Go.RowKit
open Go.Lib (byteCells byteCells_length byteCells_append strCells)
set_option linter.unusedVariables false
theorem later_cell {w w' : World} {a : Addr} {v : Value} (hb : Below w.heap.size w w') (h : w.cell? a = some v) : w'.cell? a = some v := (hb.cell (World.block_lt_of_cell? w a h)).trans h
theorem bytes_string (w : World) (g : Nat) (c : UInt8) (v : Value) (hc : w.cell? ⟨g, 0, none⟩ = some v) (h : v = .int .u8 (c.toNat : Int)) :
    (convert 37 9 (.slice (some ⟨g, 0, none⟩) 1 1)).run Try.prog w = .ok (.string ⟨#[c]⟩) w := by
  subst h
  refine run_convert_bytes_back (P := Try.prog) _ 37 9 5 ⟨g, 0, none⟩ 1 [c] Try.underlying37 Try.underlying5 Try.underlying9 (fun j hj => ?_)
  have hj0 : j = 0 := by simpa using hj
  subst hj0
  rw [add_at]
  exact hc
set_option maxRecDepth 4000 in
set_option maxHeartbeats 1000000 in
theorem rnum_walk : ∀ (k n : Nat) (hk : n < 128 ^ k) (hn : n < 18446744073709551616) (w : World),
    Calls Try.prog 32 #[.int .u64 (n : Int)] w fun e w' => e = .returned (.string (txt (numL n))) ∧ Below w.heap.size w w'
  | k, n, hk, hn, w => by
    by_cases hs : n < 128
    · have hcv := bytes_string (w.alloc (.cells #[.int .u8 (n : Int)] 5)) w.heap.size (UInt8.ofNat n) (.int .u8 (n : Int)) (by simp [go_sem]) (by rw [ofNat_toNat (by omega)])
      have HN := Lib.hid (show txt (numL n) = ⟨#[UInt8.ofNat n]⟩ by rw [numL_small hs]; rfl)
      go_enter Try.func32, Try.ntmps32
      go_wp2
      go_ret
      exact ⟨by rw [HN.out]; rfl, (Below.refl _ _).alloc (Nat.le_refl _) _⟩
    · match k with
      | 0 => simp at hk; omega
      | k + 1 =>
        obtain ⟨y, hy⟩ : ∃ y, n % 128 + 128 = y := ⟨_, rfl⟩
        obtain ⟨q, hq⟩ : ∃ q, n / 128 = q := ⟨_, rfl⟩
        have IH := Lib.hid (rnum_walk k q (by rw [Nat.pow_succ] at hk; omega) (by omega))
        clear hk
        have HN := Lib.hid (show txt (numL n) = ⟨#[UInt8.ofNat y]⟩ ++ txt (numL q) by rw [numL_big (by omega), hy, hq]; apply str_ext; simp [txt])
        have h1 : IntKind.u64.wrap ((n : Int) % 128 + 128) = (y : Int) := by rw [IntKind.wrap_u64]; omega
        have h1' : IntKind.u64.wrap ((n : Int).tmod 128 + 128) = (y : Int) := by rw [Int.tmod_eq_emod_of_nonneg (by omega), h1]
        have h2 : IntKind.u64.wrap ((n : Int) / 128) = (q : Int) := by rw [IntKind.wrap_u64]; omega
        have h3 : IntKind.u8.wrap (y : Int) = (y : Int) := by rw [IntKind.wrap_u8]; omega
        have hcv : ∀ (w : World) (g : Nat), w.cell? ⟨g, 0, none⟩ = some (.int .u8 (y : Int)) → (convert 37 9 (.slice (some ⟨g, 0, none⟩) 1 1)).run Try.prog w = .ok (.string ⟨#[UInt8.ofNat y]⟩) w := fun w g h => bytes_string w g _ _ h (by rw [ofNat_toNat (by omega)])
        have hsz : (txt (numL q)).size ≤ 10 := by rw [txt_size]; exact numL_len64 (by omega)
        obtain ⟨T, hT⟩ : ∃ T, txt (numL q) = T := ⟨_, rfl⟩
        rw [hT] at IH HN hsz
        clear hy hq hT
        go_enter Try.func32, Try.ntmps32
        go_wp2
        go_region_with (go_at_call 32; refine (IH.out _).mono ?_; rintro e w2 ⟨rfl, hb⟩; have hc2 := fun h => later_cell (a := ⟨w.heap.size, 0, none⟩) (v := .int .u8 (y : Int)) hb h; simp [go_sem] at hc2; have HBB : Hid (Below w.heap.size w w2) := (by first | exact Lib.hid (((Below.refl _ w).drew).trans (hb.mono (Nat.le_refl _))) | exact Lib.hid ((((Below.refl _ w).alloc (Nat.le_refl _) _).drew).trans (hb.mono (by simp)))); clear hb)
        all_goals
          go_wp2
          go_ret
          first | exact ⟨by rw [HN.out]; rfl, HBB.out⟩ | exact ⟨by rw [HN.out]; rfl, HBB.out.alloc HBB.out.size _⟩
end Go.Proofs.Ytceoneigflejeaa
/- From CodW. -/
namespace Go.Proofs.Ytceoneigflejeaa
open Go.ChangeShapes Go.WideShapes Go.ChangeAt Go.RowKit
open Go.Lib (byteCells byteCells_length byteCells_append strCells)
set_option linter.unusedVariables false
theorem Buf.new (w : World) (v : Value) (c : UInt8) (h : v = .int .u8 (c.toNat : Int)) (B : Nat) (hB : B ≤ w.heap.size) : Buf B (some ⟨w.heap.size, 0, none⟩) 1 1 [c] (w.alloc (.cells #[v] 5)) := by
  subst h
  refine ⟨rfl, Nat.le_trans hB (by simp), rfl, .inr ⟨w.heap.size, 1, #[.int .u8 (c.toNat : Int)], rfl, hB, World.alloc_heap_new _ _, Nat.le_refl _, by decide, rfl, rfl⟩⟩
theorem Buf.cells {B : Nat} {A : Option Addr} {n c : Nat} {bs : List UInt8} {w : World} (h : Buf B A n c bs w) (hp : 0 < bs.length) : ∃ g cap, A = some ⟨g, 0, none⟩ ∧ B ≤ g ∧ g < w.heap.size ∧ c = cap ∧ ∀ j u, (byteCells bs)[j]? = some u → w.cell? ((⟨g, 0, none⟩ : Addr).add j) = some u := by
  obtain ⟨g, cap, hv, hg, hlt⟩ := h.2.2.form (by have := h.1; omega)
  have hcs := h.2.2.cells (g := g) (by rw [hv]; rfl)
  injection hv with h1 h2 h3
  exact ⟨g, cap, h1, hg, hlt, h3, hcs⟩
theorem BytesAt.buf {B : Nat} {A : Option Addr} {n c : Nat} {bs : List UInt8} {w : World} (h : Buf B A n c bs w) : BytesAt w w.heap.size A bs := by
  intro j hj
  obtain ⟨g, cap, rfl, hg, hlt, _, hcs⟩ := h.cells (by omega)
  have := hcs j (.int .u8 (bs[j].toNat : Int)) (by simp [byteCells, List.getElem?_eq_getElem hj])
  rw [add_at] at this
  exact ⟨g, 0, rfl, hlt, this⟩
/-- 'b = append(b, x...)' of other bytes of the call's own. -/
theorem append_buf {ops : Array Oper} {rest : List Oper} {o : Oper} {a : Act} {Q : Exit → Act → World → Prop} (hgd : o.guard = none) (s x : Operand)
    (ho : o.op = .call { callee := .builtin .append, args := #[s, x], argTypes := #[37, 37] })
    (B : Nat) (A : Option Addr) (n c : Nat) (bs : List UInt8) (hs : a.eval s = .slice A n c) (w0 : World) (hb : Buf B A n c bs w0)
    (B2 : Nat) (A2 : Option Addr) (n2 c2 : Nat) (news : List UInt8) (hx : a.eval x = .slice A2 n2 c2) (hb2 : Buf B2 A2 n2 c2 news w0) (hpos : 0 < news.length) (hlen : bs.length + news.length ≤ 1099511627776)
    (h : ∀ A' n' c' w', Buf B A' n' c' (bs ++ news) w' → Keep B w0 w' → w0.grownBy w' (Value.ownBlock (.slice A n c)) → wpList Try.prog ops Q rest (a.put o.dst (.slice A' n' c')) w') :
    wpList Try.prog ops Q (o :: rest) a w0 := by
  obtain ⟨i0, hi, hz0, hz1, hz2⟩ := info_parts infoByte
  obtain ⟨g, cap, rfl, hg, hlt, rfl, hcs⟩ := hb2.cells hpos
  have hn2 := hb2.1
  subst hn2
  refine wpList_append_own_at _ hgd s x 37 ho B 5 i0 _ 1 1 Try.underlying37 hi hz0 hz1 hz2 rfl (by decide) (.slice A n c) n (byteCells bs) hs hb.2.2 ⟨g, 0, none⟩ news.length c2 (byteCells news) hx (by rw [byteCells_length, Nat.mul_one])
    hcs (byte_one _) (by have := hb.1; unfold maxLen; omega) (by have := hb.1; omega) hb.2.1 ?_
  intro v' w' hown hg _ _
  obtain ⟨A', c', rfl⟩ := own_slice hown
  have hk : Keep B w0 w' := Keep.grown hb hg
  exact h A' (n + news.length) c' w' ⟨by rw [hb.1]; simp, Nat.le_trans hb.2.1 hk.size, by rw [byteCells_append]; exact hown⟩ hk hg
theorem xor_max (x : Nat) (h : x < 18446744073709551616) : bits .xor .u64 (x : Int) 18446744073709551615 = ((18446744073709551615 - x : Nat) : Int) := by
  show IntKind.u64.wrap ((BitVec.ofInt 64 (x : Int) ^^^ BitVec.ofInt 64 18446744073709551615).toNat : Int) = _
  have h1 : BitVec.ofInt 64 18446744073709551615 = BitVec.allOnes 64 := by decide
  rw [h1, BitVec.xor_allOnes, BitVec.toNat_not, BitVec.toNat_ofInt, IntKind.wrap_u64]
  omega
theorem xor_none (x : Nat) (h : x < 18446744073709551616) : bits .xor .u64 (x : Int) 0 = (x : Int) := by
  have := u64_xor (x : Int) 0 (by omega) (by omega) (by omega) (by omega)
  rw [this]
  simp
theorem zig_code (n : Int) (h : in64 n) : bits .xor .u64 (IntKind.u64.wrap (IntKind.u64.wrap n * 2)) (IntKind.u64.wrap (n / 9223372036854775808)) = (zig n : Int) := by
  unfold in64 at h
  unfold zig
  by_cases hn : n < 0
  · rw [if_pos hn, show n / 9223372036854775808 = -1 by omega, show IntKind.u64.wrap (-1) = 18446744073709551615 by rw [IntKind.wrap_u64]; rfl]
    rw [show IntKind.u64.wrap (IntKind.u64.wrap n * 2) = (((2 * n + 18446744073709551616).toNat : Nat) : Int) by rw [IntKind.wrap_u64, IntKind.wrap_u64]; omega]
    rw [xor_max _ (by omega)]
    omega
  · rw [if_neg hn, show n / 9223372036854775808 = 0 by omega, show IntKind.u64.wrap 0 = 0 by rfl]
    rw [show IntKind.u64.wrap (IntKind.u64.wrap n * 2) = (((2 * n).toNat : Nat) : Int) by rw [IntKind.wrap_u64, IntKind.wrap_u64]; omega]
    rw [xor_none _ (by omega)]
theorem int_walk (n : Int) (hn : in64 n) (w : World) : Calls Try.prog 31 #[.int .i64 n] w (BufPost (intL n) w) := by
  have HZ := zig_code n hn
  have hz := zig_lt hn
  unfold intL
  obtain ⟨z, hzz⟩ : ∃ z, zig n = z := ⟨_, rfl⟩
  rw [hzz] at HZ hz ⊢
  have HC := Lib.hid (num_walk z hz w)
  clear hzz
  go_enter Try.func31, Try.ntmps31
  go_wp2_with (go_at_call 38; refine HC.out.mono ?_; rintro e w2 ⟨A, k, c, rfl, hb⟩)
  go_ret
  exact ⟨A, k, c, rfl, hb⟩
end Go.Proofs.Ytceoneigflejeaa
/- From CodW2. -/
namespace Go.Proofs.Ytceoneigflejeaa
open Go.ChangeShapes Go.WideShapes Go.ChangeAt Go.RowKit
open Go.Lib (byteCells byteCells_length byteCells_append strCells)
set_option linter.unusedVariables false
theorem hop {w W w2 : World} (h : Below w.heap.size w W) (hb : Below W.heap.size W w2) : Below w.heap.size w w2 := h.trans (hb.mono h.size)
end Go.Proofs.Ytceoneigflejeaa
/- From CodRow. -/
namespace Go.Proofs.Ytceoneigflejeaa
open Go.ChangeShapes Go.WideShapes Go.ChangeAt Go.RowKit
open Go.Lib (byteCells byteCells_length byteCells_append strCells)
set_option linter.unusedVariables false
section
variable {α : Type} {f : α → List Value} {sz : Nat}
/-- The items l lie side by side from A on, below block B. -/
def RowC (f : α → List Value) (sz : Nat) (w : World) (B : Nat) (A : Option Addr) (l : List α) : Prop :=
  ∀ (j : Nat) (h : j < l.length), ∃ b off, A = some ⟨b, off, none⟩ ∧ b < B ∧ ∀ i v, (f l[j])[i]? = some v → w.cell? ⟨b, off + j * sz + i, none⟩ = some v
theorem RowC.below {w w' : World} {B : Nat} {A : Option Addr} {l : List α} (h : RowC f sz w B A l) (hb : Below B w w') : RowC f sz w' B A l := by
  intro j hj
  obtain ⟨b, off, e, hlt, h0⟩ := h j hj
  exact ⟨b, off, e, hlt, fun i v hv => (hb.cell (p := ⟨b, _, none⟩) hlt).trans (h0 i v hv)⟩
theorem RowC.more {w : World} {B B' : Nat} {A : Option Addr} {l : List α} (h : RowC f sz w B A l) (hb : B ≤ B') : RowC f sz w B' A l := by
  intro j hj
  obtain ⟨b, off, e, hlt, h0⟩ := h j hj
  exact ⟨b, off, e, by omega, h0⟩
theorem flat_at (hl : ∀ a, (f a).length = sz) : ∀ (l : List α) (q : Nat) (h : q < l.length) (i : Nat) (u : Value), (f l[q])[i]? = some u → (l.flatMap f)[q * sz + i]? = some u
  | [], q, h, i, u, hu => by simp at h
  | a :: l, 0, h, i, u, hu => by
    rw [List.flatMap_cons, Nat.zero_mul, Nat.zero_add]
    have hu' : (f a)[i]? = some u := hu
    have hi : i < (f a).length := (List.getElem?_eq_some_iff.1 hu').1
    rw [List.getElem?_append_left hi]
    exact hu'
  | a :: l, q + 1, h, i, u, hu => by
    have ih := flat_at hl l q (by simpa using h) i u (by simpa using hu)
    rw [List.flatMap_cons, List.getElem?_append_right (by rw [hl, Nat.add_mul, Nat.one_mul]; omega), hl]
    rw [show (q + 1) * sz + i - sz = q * sz + i by rw [Nat.add_mul, Nat.one_mul]; omega]
    exact ih
theorem flat_length (hl : ∀ a, (f a).length = sz) (l : List α) : (l.flatMap f).length = l.length * sz := by
  induction l with
  | nil => simp
  | cons a l ih => rw [List.flatMap_cons, List.length_append, hl, ih, List.length_cons, Nat.add_mul, Nat.one_mul, Nat.add_comm]
theorem RowC.own {w : World} {base : Nat} {E : TypeId} {A : Option Addr} {n c : Nat} {l : List α} (hl : ∀ a, (f a).length = sz) (hs : 0 < sz) (h : w.ownsRow base E sz (.slice A n c) n (l.flatMap f)) : n = l.length ∧ RowC f sz w w.heap.size A l := by
  have h1 := h.1
  rw [flat_length hl] at h1
  have hn : n = l.length := (Nat.eq_of_mul_eq_mul_right hs h1).symm
  refine ⟨hn, fun j hj => ?_⟩
  obtain ⟨g, cap, hv, _, hlt⟩ := h.form (by omega)
  have hc := h.cells (g := g) (by rw [hv]; rfl)
  injection hv with h1 _ _
  subst h1
  refine ⟨g, 0, rfl, hlt, fun i v hv => ?_⟩
  have := hc _ _ (flat_at hl l j hj i v hv)
  rw [add_at] at this
  rw [Nat.add_assoc]
  exact this
theorem RowC.nil (w : World) (B : Nat) (A : Option Addr) : RowC f sz w B A [] := fun j hj => by simp at hj
end
def iCells (n : Int) : List Value := [.int .i64 n]
theorem iCells_length (n : Int) : (iCells n).length = 1 := rfl
theorem iCells_one (n : Int) : ∀ u ∈ iCells n, u.oneCell' = true := by simp [iCells, Value.oneCell']
/-- What the list's bytes come to, up to place k. -/
def upTo {α : Type} (enc : α → List UInt8) (l : List α) (k : Nat) : List UInt8 := numL l.length ++ (l.take k).flatMap enc
section
variable {α : Type} {enc : α → List UInt8} {l : List α} {k : Nat}
theorem upTo_zero : upTo enc l 0 = numL l.length := by simp [upTo]
theorem upTo_next (h : k < l.length) : upTo enc l (k + 1) = upTo enc l k ++ enc l[k] := by
  unfold upTo
  rw [List.take_succ_eq_append_getElem h, List.flatMap_append]
  simp only [List.flatMap_cons, List.flatMap_nil, List.append_nil, List.append_assoc]
theorem upTo_all (h : l.length ≤ k) : upTo enc l k = listL enc l := by
  unfold upTo listL
  rw [List.take_of_length_le h]
theorem upTo_le (k : Nat) : (upTo enc l k).length ≤ (listL enc l).length := by
  have h : l.flatMap enc = (l.take k).flatMap enc ++ (l.drop k).flatMap enc := by rw [← List.flatMap_append, List.take_append_drop]
  unfold upTo listL
  rw [h]
  simp only [List.length_append]
  omega
end
end Go.Proofs.Ytceoneigflejeaa
/- From CodWithin. -/
namespace Go.Proofs.Ytceoneigflejeaa
open Go.ChangeShapes Go.WideShapes Go.ChangeAt Go.RowKit
open Go.Lib (byteCells byteCells_length byteCells_append strCells)
set_option linter.unusedVariables false
set_option maxHeartbeats 2000000 in
theorem within_int (l : List Int) (A : Option Addr) (n c : Nat) (w : World) (hn : n = l.length) (hm : n ≤ 1099511627776) (hat : RowC iCells 1 w w.heap.size A l)
    (hone : ∀ (j : Nat) (h : j < l.length) (W : World), Below w.heap.size w W → Calls Try.prog 31 #[.int .i64 l[j]] W (BufPost (intL l[j]) W)) (hpos : ∀ a ∈ l, 0 < (intL a).length) (htot : (listL intL l).length ≤ 16777216) :
    Calls Try.prog 30 #[.int .i64 16777216, .slice A n c, .func (.func 31) #[] #[]] w fun e w' => ∃ A' n' c', e = .returned (.tuple #[.slice A' n' c', .int .i64 0]) ∧ Buf w.heap.size A' n' c' (listL intL l) w' ∧ Below w.heap.size w w' := by
  have HN := Lib.hid hn
  have HA := Lib.hid hat
  have HO := Lib.hid hone
  have HP := Lib.hid hpos
  have HT := Lib.hid htot
  have HC := Lib.hid (num_walk n (by omega) w)
  have hW : IntKind.u64.wrap (n : Int) = (n : Int) := u64_in _ (by omega)
  clear hn hat hone hpos htot
  go_enter Try.func30, Try.ntmps30
  go_wp2_with (go_at_call 38; refine HC.out.mono ?_; rintro e w1 ⟨A1, n1, c1, rfl, hb1, hbel1⟩; have HB1 := Lib.hid hb1; have HBel1 := Lib.hid hbel1; clear hb1 hbel1)
  go_loopw [8, 17] (fun bv iv wr => ∃ (k : Nat) (A' : Option Addr) (n' c' : Nat), k ≤ n ∧ iv = .int .i64 (k : Int) ∧ bv = .slice A' n' c' ∧ Hid (Buf w.heap.size A' n' c' (upTo intL l k) wr) ∧ Hid (Below w.heap.size w wr)) (fun _ iv _ => n - (intOf iv).toNat)
  case atStart => exact ⟨0, A1, n1, c1, Nat.zero_le _, rfl, rfl, Lib.hid (by rw [upTo_zero, ← HN.out]; exact HB1.out), HBel1⟩
  case round =>
    obtain ⟨k, A', n', c', hk, rfl, rfl, HB, HBel⟩ := hrel
    by_cases hlt : k < n
    · have hkl : k < l.length := by rw [← HN.out]; exact hlt
      obtain ⟨b, off, rfl, hB, hc⟩ := (HA.out.below HBel.out) k hkl
      have c0 := hc 0 _ rfl
      rw [Nat.mul_one, Nat.add_zero] at c0
      obtain ⟨x, hx⟩ : ∃ x, l[k] = x := ⟨_, rfl⟩
      have HX := Lib.hid hx
      have HC2 := Lib.hid (fun W => HO.out k hkl W)
      rw [hx] at HC2
      simp only [hx] at c0
      have hbs := HBel.out.size
      have HPX := Lib.hid (HP.out x (by rw [← hx]; exact List.getElem_mem hkl))
      have HUN := Lib.hid (upTo_next (enc := intL) hkl)
      rw [hx] at HUN
      have hle := upTo_le (enc := intL) (l := l) (k + 1)
      have hle2 : Hid ((upTo intL l k).length + (intL x).length ≤ 1099511627776) := Lib.hid (by have h1 := HT.out; rw [HUN.out, List.length_append] at hle; omega)
      have HLE := Lib.hid (Nat.le_trans hle HT.out)
      clear hx hle hc
      go_wp2_with (first | (go_at_call 31; refine (HC2.out _ HBel.out).mono ?_; rintro e w2 ⟨A2, n2, c2, rfl, hb2, hbel2⟩; have HB2 := Lib.hid hb2; have HBb := Lib.hid ((HB.out).below hbel2); have HBel2 := Lib.hid (Below.trans HBel.out (hbel2.mono hbs)); clear hb2 hbel2) | (at_builtin; go_loud (refine append_buf rfl _ _ rfl w.heap.size _ _ _ (upTo intL l k) rfl _ HBb.out _ _ _ _ _ rfl HB2.out HPX.out hle2.out ?_); intro A3 n3 c3 w3 hb3 hk3 hg3; have H3 := Lib.hid hb3; have K3 := Lib.hid (HBel2.out.trans hk3.below); have hn3 : ¬ (16777216 : Int) < (n3 : Int) := (by have h1 := hb3.1; have h2 := HLE.out; rw [HUN.out] at h2; omega); clear hb3 hk3 hg3))
      go_roundw
      case rel => exact ⟨k + 1, A3, n3, c3, by omega, by go_num, rfl, Lib.hid (by rw [HUN.out]; exact H3.out), K3⟩
      case measure => simp [intOf]; omega
    · have HF := Lib.hid (upTo_all (enc := intL) (l := l) (k := k) (by rw [← HN.out]; omega))
      go_wp2
      go_ret2
      exact ⟨A', n', c', rfl, by rw [← HF.out]; exact HB.out, HBel.out⟩
end Go.Proofs.Ytceoneigflejeaa
/- From CodTell. -/
namespace Go.Proofs.Ytceoneigflejeaa
open Go.ChangeShapes Go.WideShapes Go.ChangeAt Go.RowKit
open Go.Lib (byteCells byteCells_length byteCells_append strCells)
set_option linter.unusedVariables false
def TellPost (o : Option (List UInt8)) (w : World) (e : Ending) (w' : World) : Prop :=
  match o with
  | none => e = .returned (.tuple #[.slice none 0 0, .int .i64 41]) ∧ Below w.heap.size w w'
  | some bs => ∃ A n c, e = .returned (.tuple #[.slice A n c, .int .i64 0]) ∧ Buf w.heap.size A n c bs w' ∧ Below w.heap.size w w'
theorem intL_len {n : Int} (h : in64 n) : (intL n).length ≤ 10 := numL_len64 (zig_lt h)
theorem flat_le {α : Type} {enc : α → List UInt8} {m : Nat} : ∀ (l : List α), (∀ a ∈ l, (enc a).length ≤ m) → (l.flatMap enc).length ≤ m * l.length
  | [], _ => by simp
  | a :: l, h => by
    have h1 := flat_le l (fun x hx => h x (by simp [hx]))
    have h2 := h a (by simp)
    simp only [List.flatMap_cons, List.length_append, List.length_cons, Nat.mul_add, Nat.mul_one]
    omega
theorem listL_le {α : Type} {enc : α → List UInt8} {m : Nat} {l : List α} (hl : l.length < 18446744073709551616) (h : ∀ a ∈ l, (enc a).length ≤ m) : (listL enc l).length ≤ 10 + m * l.length := by
  have h1 := numL_len64 hl
  have h2 := flat_le l h
  unfold listL
  rw [List.length_append]
  omega
set_option maxRecDepth 4000 in
theorem nums_walk (l : List Int) (hw : ∀ n ∈ l, in64 n) (A : Option Addr) (n c : Nat) (w : World) (hn : n = l.length) (hm : n ≤ 1048576) (hat : RowC iCells 1 w w.heap.size A l) :
    Calls Try.prog 24 #[.slice A n c] w (TellPost (some (listL intL l)) w) := by
  have H := Lib.hid (within_int l A n c w hn (by omega) hat (fun j hj W _ => int_walk l[j] (hw _ (List.getElem_mem hj)) W) (fun a _ => numL_pos _) (by have := listL_le (enc := intL) (m := 10) (l := l) (by omega) (fun a ha => intL_len (hw a ha)); omega))
  clear hn hat
  go_enter Try.func24, Try.ntmps24
  go_wp2_with (go_at_call 30; refine H.out.mono ?_; rintro e w1 ⟨A1, n1, c1, rfl, hb1, hbel1⟩; have HB1 := Lib.hid hb1; have HBel1 := Lib.hid hbel1; clear hb1 hbel1)
  go_ret2
  exact ⟨A1, n1, c1, rfl, HB1.out, HBel1.out⟩
end Go.Proofs.Ytceoneigflejeaa
