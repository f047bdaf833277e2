/- The walks of the reader: bytes, numbers, texts, ints. -/
import Derived.Test.YtkpajmgbiepmbaaCodTell
namespace Go.Proofs.Ytkpajmgbiepmbaa
open Go.ChangeShapes Go.WideShapes Go.ChangeAt Go.RowKit
open Go.Lib (byteCells byteCells_length byteCells_append strCells)
set_option linter.unusedVariables false

/-- Of what was there nothing has turned but block r. -/
def Past (r : Nat) (w w' : World) : Prop := w.grownBy w' (some r)
theorem Past.refl (r : Nat) (w : World) : Past r w w := ⟨rfl, rfl, rfl, Nat.le_refl _, fun _ _ _ => rfl⟩
theorem Past.trans {r : Nat} {a b c : World} (h : Past r a b) (k : Past r b c) : Past r a c :=
  ⟨k.os.trans h.os, k.tape.trans h.tape, k.output.trans h.output, Nat.le_trans h.size k.size, fun i hi hne => (k.block i (Nat.lt_of_lt_of_le hi h.size) hne).trans (h.block i hi hne)⟩
theorem Past.of {r : Nat} {w w' : World} (h : Below w.heap.size w w') : Past r w w' := ⟨h.os, h.tape, h.output, h.size, fun k hk _ => h.block k hk⟩
theorem Past.alloc {r : Nat} {a w : World} (h : Past r a w) (o : Obj) : Past r a (w.alloc o) := h.trans (Past.of ((Below.refl _ w).alloc (Nat.le_refl _) o))
theorem Past.drew {r : Nat} {a w : World} (h : Past r a w) : Past r a w.drew := ⟨h.os, h.tape, h.output, h.size, h.block⟩
theorem Past.set (r i : Nat) (w : World) (v : Value) : Past r w (w.setCell ⟨r, i, none⟩ v) :=
  ⟨rfl, rfl, rfl, by simp [World.setCell], fun k _ hne => Below.heap_setCell _ _ _ _ (by intro e; exact hne (by rw [e]))⟩
theorem Past.below {r B : Nat} {w w' : World} (h : Past r w w') (hB : B ≤ r) (hs : B ≤ w.heap.size) : Below B w w' :=
  ⟨h.os, h.tape, h.output, h.size, fun k hk => h.block k (by omega) (by intro e; injection e with e; omega)⟩
theorem Past.cell {r : Nat} {w w' : World} (h : Past r w w') {p : Addr} (hp : p.block ≠ r) (hlt : p.block < w.heap.size) : w'.cell? p = w.cell? p :=
  World.cell?_of_block (w := w) (h.block p.block hlt (by intro e; injection e with e; exact hp e))

/-- The reader in block r has l still to be read. -/
def Rd (w : World) (r : Nat) (l : List UInt8) : Prop :=
  ∃ A c, w.cell? ⟨r, 0, none⟩ = some (.slice A l.length c) ∧ w.frozen? ⟨r, 0, none⟩ = false ∧ l.length ≤ c ∧ c ≤ maxLen ∧ BytesAt w r A l
theorem Rd.lt {w : World} {r : Nat} {l : List UInt8} (h : Rd w r l) : r < w.heap.size := by
  obtain ⟨A, c, h0, _⟩ := h
  exact World.block_lt_of_cell? w _ h0
theorem Rd.below {w w' : World} {r : Nat} {l : List UInt8} (h : Rd w r l) (hb : Below w.heap.size w w') : Rd w' r l := by
  have hlt := h.lt
  obtain ⟨A, c, h0, h1, h2, h3, h4⟩ := h
  exact ⟨A, c, (hb.cell (p := ⟨r, 0, none⟩) hlt).trans h0, (hb.frozen (p := ⟨r, 0, none⟩) hlt).trans h1, h2, h3, h4.below (hb.mono (by omega))⟩

def gaveUp : PanicEntry := { v := .iface 24 (.int .i64 41), recovered := false }
theorem must_ok (p : Value) (w : World) : Calls Try.prog 70 #[p, .bool true] w fun e w' => e = .returned (.tuple #[]) ∧ w = w' := by
  go_enter Try.func70, Try.ntmps70
  go_wp2
  go_end0
  exact ⟨rfl, rfl⟩
theorem must_no (p : Value) (w : World) : Calls Try.prog 70 #[p, .bool false] w fun e w' => e = .panicked [gaveUp] ∧ w = w' := by
  go_enter Try.func70, Try.ntmps70
  go_wp2
  exact ⟨rfl, rfl, rfl⟩

theorem Rd.step {w : World} {r n m c : Nat} {l : List UInt8} {A : Option Addr} (h0 : w.cell? ⟨r, 0, none⟩ = some (.slice A m c)) (h1 : w.frozen? ⟨r, 0, none⟩ = false) (hm : l.length = m) (hn : n ≤ m) (hc : m ≤ c) (hcm : c ≤ maxLen) (hb : BytesAt w r A l) :
    Rd (w.setCell ⟨r, 0, none⟩ (.slice (if c = n then A else A.map (·.add n)) (m - n) (c - n))) r (l.drop n) := by
  refine ⟨if c = n then A else A.map (·.add n), c - n, ?_, ?_, ?_, ?_, ?_⟩
  · rw [World.cell?_setCell_same _ _ _ h0, List.length_drop, hm]
  · rw [World.frozen?_setCell]
    exact h1
  · rw [List.length_drop]; omega
  · omega
  · exact (hb.drop n c (by omega) (by omega)).below ((Below.refl r w).setCell (Nat.le_refl _) _)

def NextPost (r n : Nat) (l : List UInt8) (w : World) (e : Ending) (w' : World) : Prop :=
  ∃ A c, e = .returned (.slice A n c) ∧ n ≤ c ∧ c ≤ maxLen ∧ BytesAt w' r A (l.take n) ∧ Rd w' r (l.drop n) ∧ Past r w w'
theorem next_ok (r : Nat) (n : Nat) (l : List UInt8) (w : World) (h : Rd w r l) (hn : n ≤ l.length) :
    Calls Try.prog 86 #[.pointer (some ⟨r, 0, none⟩), .int .u64 (n : Int)] w (NextPost r n l w) := by
  obtain ⟨A, c, h0, h1, h2, h3, h4⟩ := h
  obtain ⟨m, hm⟩ : ∃ m, l.length = m := ⟨_, rfl⟩
  have hc : c ≤ 9223372036854775807 := by unfold maxLen at h3; omega
  rw [hm] at h0 h2 hn
  have HS := Lib.hid (Rd.step h0 h1 hm hn h2 h3 h4)
  have HB := Lib.hid ((h4.take n).below ((Below.refl r w).setCell (p := ⟨r, 0, none⟩) (Nat.le_refl _) (.slice (if c = n then A else A.map (·.add n)) (m - n) (c - n))))
  have H3 := Lib.hid (show n ≤ c by omega)
  have H4 := Lib.hid h3
  clear hm h4 h3
  have hW : IntKind.u64.wrap (m : Int) = (m : Int) := u64_in _ (by omega)
  by_cases hcn : c = n
  · subst hcn
    rw [if_pos rfl, show m - c = 0 by omega, Nat.sub_self] at HS HB
    go_enter Try.func86, Try.ntmps86
    go_wp2_with (go_at_call 70; refine (must_ok _ _).mono ?_; rintro e w' ⟨rfl, rfl⟩)
    go_ret
    exact ⟨A, c, rfl, H3.out, H4.out, HB.out, HS.out, Past.set _ _ _ _⟩
  · rw [if_neg hcn] at HS HB
    go_enter Try.func86, Try.ntmps86
    go_wp2_with (go_at_call 70; refine (must_ok _ _).mono ?_; rintro e w' ⟨rfl, rfl⟩)
    go_ret
    exact ⟨A, c, rfl, H3.out, H4.out, HB.out, HS.out, Past.set _ _ _ _⟩
set_option maxHeartbeats 1000000 in
theorem next_no (r : Nat) (n : Nat) (l : List UInt8) (w : World) (h : Rd w r l) (hn : l.length < n) :
    Calls Try.prog 86 #[.pointer (some ⟨r, 0, none⟩), .int .u64 (n : Int)] w fun e w' => e = .panicked [gaveUp] ∧ w = w' := by
  obtain ⟨A, c, h0, h1, h2, h3, h4⟩ := h
  obtain ⟨m, hm⟩ : ∃ m, l.length = m := ⟨_, rfl⟩
  have hc : c ≤ 9223372036854775807 := by unfold maxLen at h3; omega
  rw [hm] at h0 h2 hn
  clear hm h4 h3
  have hW : IntKind.u64.wrap (m : Int) = (m : Int) := u64_in _ (by omega)
  have hg : decide (n ≤ m) = false := decide_eq_false (by omega)
  clear hn
  go_enter Try.func86, Try.ntmps86
  go_wp2_with (go_at_call 70; refine (must_no _ _).mono ?_; rintro e w' ⟨rfl, rfl⟩)
  exact ⟨rfl, rfl, rfl⟩

theorem and_one (n : Nat) (h : n < 18446744073709551616) : bits .and .u64 (n : Int) 1 = ((n % 2 : Nat) : Int) := by
  have := u64_and (n : Int) 1 (by omega) (by omega) (by omega) (by omega)
  rw [this]
  simp
theorem unzig_code (n : Nat) (h : n < 18446744073709551616) : wrap64 (bits .xor .u64 ((n : Int) / 2) (IntKind.u64.wrap (-bits .and .u64 (n : Int) 1))) = unzig n := by
  rw [and_one n h, show (n : Int) / 2 = ((n / 2 : Nat) : Int) by omega]
  unfold unzig
  by_cases h2 : n % 2 = 1
  · rw [if_pos h2, h2, show IntKind.u64.wrap (-((1 : Nat) : Int)) = 18446744073709551615 by rw [IntKind.wrap_u64]; rfl, xor_max _ (by omega)]
    unfold wrap64
    omega
  · rw [if_neg h2, show n % 2 = 0 by omega, show IntKind.u64.wrap (-((0 : Nat) : Int)) = 0 by rw [IntKind.wrap_u64]; rfl, xor_none _ (by omega)]
    unfold wrap64
    omega
set_option maxRecDepth 100000 in
/-- 'string(b)' of bytes that lie somewhere. -/
theorem string_of_bytes {B : Nat} (A : Option Addr) (n c : Nat) (bs : List UInt8) (w : World) (hn : n = bs.length) (h : BytesAt w B A bs) :
    (convert 27 9 (.slice A n c)).run Try.prog w = .ok (.string (txt bs)) w := by
  subst hn
  cases A with
  | none =>
    have hb : bs = [] := by
      cases bs with
      | nil => rfl
      | cons x t => obtain ⟨b, off, e, _⟩ := h 0 (by simp); cases e
    subst hb
    rw [List.length_nil, run_convert_bytes_string w 27 9 5 none 0 c Try.underlying27 Try.underlying5 Try.underlying9]
    simp [Conv.bytesToString, txt]
    rfl
  | some a =>
    refine run_convert_bytes_back (P := Try.prog) w 27 9 5 a c bs Try.underlying27 Try.underlying5 Try.underlying9 (fun j hj => ?_)
    obtain ⟨b, off, e, _, hc⟩ := h j hj
    injection e with e
    subst e
    rw [add_at]
    exact hc

/-- What a reader of one item leaves. -/
def RdPost {α : Type} (r : Nat) (val : α → Value) (o : Option (α × List UInt8)) (w : World) (e : Ending) (w' : World) : Prop :=
  match o with
  | none => e = .panicked [gaveUp] ∧ Past r w w'
  | some p => e = .returned (val p.1) ∧ Rd w' r p.2 ∧ Past r w w'

set_option maxHeartbeats 1000000 in
theorem number_walk (r : Nat) (l : List UInt8) (w : World) (h : Rd w r l) (hl : l.length ≤ 16777216) :
    Calls Try.prog 82 #[.pointer (some ⟨r, 0, none⟩)] w (RdPost r (fun n : Nat => .int .u64 (n : Int)) (unL l) w) := by
  have HR := Lib.hid h
  obtain ⟨A, c, h0, h1, h2, h3, h4⟩ := h
  have hU := unnum_walk l A l.length c w rfl h2 h3 (h4.more (by have := HR.out.lt; omega))
  rcases hu : unL l with _ | ⟨n, rest⟩
  · rw [hu] at hU
    unfold unOut at hU
    have HU := Lib.hid hU
    clear hU h4 h2 h3
    go_enter Try.func82, Try.ntmps82
    go_wp2_with (first | (go_at_call 10; refine HU.out.mono ?_; rintro e w' ⟨rfl, rfl⟩) | (go_at_call 70; refine (must_no _ _).mono ?_; rintro e w' ⟨rfl, rfl⟩))
    exact ⟨rfl, rfl, Past.refl _ _⟩
  · rw [hu] at hU
    unfold unOut at hU
    have hlt := num_codec.less hu
    have HS := Lib.hid (num_codec.suffix hu)
    simp only at hU
    obtain ⟨k, hk⟩ : ∃ k, l.length - rest.length = k := ⟨_, rfl⟩
    have hk2 : Hid (k ≤ l.length) := Lib.hid (by omega)
    have hW : IntKind.u64.wrap (k : Int) = (k : Int) := u64_in _ (by omega)
    rw [hk] at hU HS
    have HU := Lib.hid hU
    clear hU h4 h2 h3 hk hlt
    go_enter Try.func82, Try.ntmps82
    go_wp2_with (first | (go_at_call 10; refine HU.out.mono ?_; rintro e w' ⟨rfl, rfl⟩) | (go_at_call 70; refine (must_ok _ _).mono ?_; rintro e w' ⟨rfl, rfl⟩) | (go_at_call 86; refine (next_ok r k l _ HR.out hk2.out).mono ?_; rintro e w1 ⟨A1, c1, rfl, _, _, _, hr1, hp1⟩; have HR1 := Lib.hid hr1; have HP1 := Lib.hid hp1; clear hr1 hp1))
    go_ret
    exact ⟨rfl, by rw [HS.out]; exact HR1.out, HP1.out⟩

def rByte : List UInt8 → Option (UInt8 × List UInt8)
  | [] => none
  | c :: r => some (c, r)
set_option maxHeartbeats 1000000 in
theorem single_walk (r : Nat) (l : List UInt8) (w : World) (h : Rd w r l) :
    Calls Try.prog 77 #[.pointer (some ⟨r, 0, none⟩)] w (RdPost r (fun c => .int .u8 (c.toNat : Int)) (rByte l) w) := by
  match l with
  | [] =>
    have HN := Lib.hid (next_no r 1 [] w h (by simp))
    clear h
    go_enter Try.func77, Try.ntmps77
    go_wp2_with (go_at_call 86; refine HN.out.mono ?_; rintro e w' ⟨rfl, rfl⟩)
    exact ⟨rfl, rfl, Past.refl _ _⟩
  | c :: t =>
    have HN := Lib.hid (next_ok r 1 (c :: t) w h (by simp))
    clear h
    go_enter Try.func77, Try.ntmps77
    go_wp2_with (go_at_call 86; refine HN.out.mono ?_; rintro e w1 ⟨A1, c1, rfl, hc1, hm1, hb1, hr1, hp1⟩; obtain ⟨b, off, rfl, hlt, hcell⟩ := hb1 0 (by simp); simp at hcell; have HR1 := Lib.hid hr1; have HP1 := Lib.hid hp1; clear hr1 hp1 hb1 hm1)
    go_ret
    exact ⟨rfl, HR1.out, HP1.out⟩

set_option maxHeartbeats 1000000 in
theorem integer_walk (r : Nat) (l : List UInt8) (w : World) (h : Rd w r l) (hl : l.length ≤ 16777216) :
    Calls Try.prog 57 #[.pointer (some ⟨r, 0, none⟩)] w (RdPost r (fun n => .int .i64 n) (rInt l) w) := by
  have hN := number_walk r l w h hl
  unfold rInt
  rcases hu : unL l with _ | ⟨n, rest⟩
  · rw [hu] at hN
    have HN := Lib.hid hN
    clear hN h
    go_enter Try.func57, Try.ntmps57
    go_wp2_with (go_at_call 82; refine HN.out.mono ?_; rintro e w1 ⟨rfl, hp1⟩; have HP1 := Lib.hid hp1; clear hp1)
    exact ⟨rfl, rfl, HP1.out⟩
  · rw [hu] at hN
    have HN := Lib.hid hN
    have hn := (unL_only hu).2
    clear hN h
    go_enter Try.func57, Try.ntmps57
    go_wp2_with (go_at_call 82; refine HN.out.mono ?_; rintro e w1 ⟨rfl, hr1, hp1⟩; have HR1 := Lib.hid hr1; have HP1 := Lib.hid hp1; clear hp1 hr1)
    go_ret
    refine ⟨?_, HR1.out, HP1.out⟩
    rw [show wrap64 (bits .xor .u64 ((n : Int) / 2) (IntKind.u64.wrap (-bits .and .u64 (n : Int) 1))) = unzig n from unzig_code n hn]
    rfl

set_option maxHeartbeats 1000000 in
theorem rtext_walk (r : Nat) (l : List UInt8) (w : World) (h : Rd w r l) (hl : l.length ≤ 16777216) :
    Calls Try.prog 76 #[.pointer (some ⟨r, 0, none⟩)] w (RdPost r (fun s => .string s) (rWord l) w) := by
  have hN := number_walk r l w h hl
  rcases hu : unL l with _ | ⟨n, rest⟩
  · rw [hu] at hN
    rw [rWord_none hu]
    have HN := Lib.hid hN
    clear hN h
    go_enter Try.func76, Try.ntmps76
    go_wp2_with (go_at_call 82; refine HN.out.mono ?_; rintro e w1 ⟨rfl, hp1⟩; have HP1 := Lib.hid hp1; clear hp1)
    exact ⟨rfl, rfl, HP1.out⟩
  · rw [hu] at hN
    rw [rWord_some hu]
    have HN := Lib.hid hN
    have hn := (unL_only hu).2
    unfold takeL
    by_cases hle : n ≤ rest.length
    · rw [if_pos hle]
      have HLE := Lib.hid hle
      clear hN h hle
      go_enter Try.func76, Try.ntmps76
      go_wp2_with (first | (go_at_call 82; refine HN.out.mono ?_; rintro e w1 ⟨rfl, hr1, hp1⟩; have HR1 := Lib.hid hr1; have HP1 := Lib.hid hp1; clear hp1 hr1) | (go_at_call 86; refine (next_ok r n rest _ HR1.out HLE.out).mono ?_; rintro e w2 ⟨A2, c2, rfl, hc2, hm2, hb2, hr2, hp2⟩; have HR2 := Lib.hid hr2; have HP2 := Lib.hid (HP1.out.trans hp2); have hcv := string_of_bytes A2 n c2 (rest.take n) w2 (by rw [List.length_take]; have := HLE.out; omega) hb2; clear hr2 hp2 hb2))
      go_ret
      exact ⟨rfl, HR2.out, HP2.out⟩
    · rw [if_neg hle]
      have HLE := Lib.hid (show rest.length < n by omega)
      clear hN h hle
      go_enter Try.func76, Try.ntmps76
      go_wp2_with (first | (go_at_call 82; refine HN.out.mono ?_; rintro e w1 ⟨rfl, hr1, hp1⟩; have HR1 := Lib.hid hr1; have HP1 := Lib.hid hp1; clear hp1 hr1) | (go_at_call 86; refine (next_no r n rest _ HR1.out HLE.out).mono ?_; rintro e w2 ⟨rfl, rfl⟩))
      exact ⟨rfl, rfl, HP1.out⟩
end Go.Proofs.Ytkpajmgbiepmbaa
