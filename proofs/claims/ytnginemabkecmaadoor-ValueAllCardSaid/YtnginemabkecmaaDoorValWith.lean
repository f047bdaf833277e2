/- The walk of with: a value's key behind what was there. -/
import Derived.Test.YtnginemabkecmaaDoorValBuf
namespace Go.Proofs.YtnginemabkecmaaDoor
open Go.ChangeShapes Go.WideShapes Go.ChangeAt Go.RowKit
open Go.Lib (byteCells byteCells_length byteCells_append strCells)
set_option linter.unusedVariables false

/-- The library's own variable holds some number. -/
def MaxAt (w : World) : Prop := ∃ m, w.cell? ⟨0, 0, none⟩ = some (.int .i64 m)
theorem MaxAt.later {w w' : World} (h : MaxAt w) (hb : Below w.heap.size w w') : MaxAt w' := by
  obtain ⟨m, hm⟩ := h
  exact ⟨m, (hb.cell (p := ⟨_, 0, none⟩) (World.block_lt_of_cell? w _ hm)).trans hm⟩
theorem xor_top (m : Nat) (h : m < 9223372036854775808) : m ^^^ 9223372036854775808 = m + 9223372036854775808 ∧ (m + 9223372036854775808) ^^^ 9223372036854775808 = m := by
  have d : ∀ a b : Nat, a ^^^ b = (a / 2 ^ 63 ^^^ b / 2 ^ 63) * 2 ^ 63 + (a % 2 ^ 63 ^^^ b % 2 ^ 63) := fun a b => by
    rw [← Nat.xor_div_two_pow, ← Nat.xor_mod_two_pow]
    omega
  constructor
  · rw [d]
    rw [show m / 2 ^ 63 = 0 by omega, show m % 2 ^ 63 = m by omega]
    simp
    omega
  · rw [d]
    rw [show (m + 9223372036854775808) / 2 ^ 63 = 1 by omega, show (m + 9223372036854775808) % 2 ^ 63 = m by omega]
    simp
theorem turned (x : Int) (h : in64 x) : bits .xor .u64 (IntKind.u64.wrap x) 9223372036854775808 = ((x + 9223372036854775808).toNat : Int) := by
  unfold in64 at h
  rw [IntKind.wrap_u64]
  rw [u64_xor _ _ (by omega) (by omega) (by omega) (by omega)]
  congr 1
  rw [show (9223372036854775808 : Int).toNat = 9223372036854775808 from rfl]
  by_cases h0 : 0 ≤ x
  · obtain ⟨k, rfl⟩ := Int.eq_ofNat_of_zero_le h0
    rw [show ((k : Int) % 18446744073709551616).toNat = k by omega, (xor_top k (by omega)).1]
    omega
  · obtain ⟨k, hk⟩ : ∃ k : Nat, x = (k : Int) - 9223372036854775808 := ⟨(x + 9223372036854775808).toNat, by omega⟩
    subst hk
    rw [show (((k : Int) - 9223372036854775808) % 18446744073709551616).toNat = k + 9223372036854775808 by omega, (xor_top k (by omega)).2]
    omega

/-- The number's bytes so far: what is there, with what is to come, is the whole. -/
def Numbered (B : Nat) (w : World) (N : Nat) (all : List UInt8) (j : Nat) (A : Option Addr) (n c : Nat) (wr : World) : Prop :=
  ∃ L, Buf B A n c L wr ∧ Keep B w wr ∧ L ++ be N j = all

theorem byte_eq (N i : Nat) : [Value.int .u8 ((N : Int) / 2 ^ (8 * i) % 256)] = byteCells [UInt8.ofNat (N / 256 ^ i % 256)] := by
  simp only [byteCells, List.map_cons, List.map_nil, UInt8.toNat_ofNat']
  have e : (N : Int) / 2 ^ (8 * i) % 256 = ((N / 256 ^ i % 256 : Nat) : Int) := by
    rw [Int.natCast_emod, Int.natCast_ediv, Int.natCast_pow, Int.pow_mul]
    rfl
  rw [show (2 : Nat) ^ 8 = 256 from rfl, Nat.mod_mod, e]
theorem Numbered.next {B : Nat} {w : World} {N : Nat} {all : List UInt8} {i : Nat} {A : Option Addr} {n c : Nat} {L : List UInt8} {wr w' : World}
    (hb : Buf B A n c (L ++ [UInt8.ofNat (N / 256 ^ i % 256)]) w') (hk : Keep B wr w') (hk0 : Keep B w wr) (he : L ++ be N (i + 1) = all) : Numbered B w N all i A n c w' :=
  ⟨_, hb, hk0.trans hk, by rw [← he, be]; simp⟩
theorem num_short {L all : List UInt8} {N j : Nat} (he : L ++ be N j = all) : L.length ≤ all.length := by rw [← he]; simp

/-- What with leaves. -/
def WithPost (B : Nat) (bs : List UInt8) (w : World) (e : Ending) (w' : World) : Prop :=
  ∃ A n c, e = .returned (.slice A n c) ∧ Buf B A n c bs w' ∧ Keep B w w'

set_option maxHeartbeats 1000000 in
theorem with_null (B : Nat) (A : Option Addr) (n c : Nat) (bs : List UInt8) (w : World) (hb : Buf B A n c bs w) (hl : bs.length ≤ 549755813888) :
    Calls Tryd.prog 35 #[.slice A n c, V.val ⟨0, 0, mt⟩] w (WithPost B (bs ++ keyV ⟨0, 0, mt⟩) w) := by
  have H := Lib.hid hb
  have hB := hb.2.1
  clear hb
  unfold V.val
  dsimp only
  go_enter Tryd.func35, Tryd.ntmps35
  go_wp2
  refine wp_scope_land 2 ?_
  go_wp2_with (at_builtin; go_loud (refine append_bytes rfl _ _ rfl B A n c bs rfl _ [1] 1 (H.out.alloc _) _ rfl (by simp) rfl [.int .u8 1] rfl (by simp; omega) ?_); intro A1 n1 c1 w1 hn1 hb1 hk1; have H1 := Lib.hid hb1; have K1 := Lib.hid hk1; have hs1 := hk1.size; have X := (Box.new w ⟨0, 0, mt⟩).keep hk1; have x0 := X.k; have x1 := X.n; have x2 := X.s; clear hb1 hk1 X; subst hn1)
  go_ret
  exact ⟨A1, n + 1, c1, rfl, H1.out, ((Keep.refl B w).alloc hB _).trans K1.out⟩

set_option maxHeartbeats 1000000 in
theorem with_int (B : Nat) (A : Option Addr) (n c : Nat) (bs : List UInt8) (x : Int) (hx : in64 x) (w : World) (hb : Buf B A n c bs w) (hl : bs.length ≤ 549755813888) :
    Calls Tryd.prog 35 #[.slice A n c, V.val ⟨1, x, mt⟩] w (WithPost B (bs ++ keyV ⟨1, x, mt⟩) w) := by
  have H := Lib.hid hb
  have hB := hb.2.1
  clear hb
  have HX := turned x hx
  generalize hN : (x + 9223372036854775808).toNat = N at HX
  have hN2 : N < 18446744073709551616 := by simp only [in64] at hx; omega
  have HN := Lib.hid hN
  clear hN
  unfold V.val
  dsimp only
  go_enter Tryd.func35, Tryd.ntmps35
  go_wp2
  refine wp_scope_land 2 ?_
  go_wp2_with (at_builtin; refine append_bytes rfl _ _ rfl B A n c bs rfl _ [2] 1 (H.out.alloc _) _ rfl (by simp) rfl [.int .u8 2] rfl (by simp; omega) ?_; intro A1 n1 c1 w1 hn1 hb1 hk1; have H1 := Lib.hid hb1; have K1 := Lib.hid hk1; have hs1 := hk1.size; have X := (Box.new w ⟨1, x, mt⟩).keep hk1; have x0 := X.k; have x1 := X.n; have x2 := X.s; clear hb1 hk1 X; subst hn1)
  refine wp_goto ?_
  refine land_goto rfl ?_
  go_wp2
  clear HX
  go_loopw [0, 6] (fun v0 v6 wr => ∃ (j : Nat) (A' : Option Addr) (n' c' : Nat), j ≤ 8 ∧ v6 = .int .i64 (j : Int) ∧ v0 = .slice A' n' c' ∧ Hid (Numbered B w N (bs ++ [2] ++ be N 8) j A' n' c' wr)) (fun _ v6 _ => (intOf v6).toNat)
  case atStart => exact ⟨8, A1, _, c1, Nat.le_refl _, rfl, rfl, Lib.hid ⟨_, H1.out, ((Keep.refl B w).alloc hB _).trans K1.out, rfl⟩⟩
  case round =>
    obtain ⟨j, A', n', c', hj, rfl, rfl, HR⟩ := hrel
    by_cases h0 : j = 0
    · subst h0
      obtain ⟨L, hL1, hL2, hL3⟩ := HR.out
      have HF := Lib.hid (show WithPost B (bs ++ keyV ⟨1, x, mt⟩) w (.returned (.slice A' n' c')) wr from by
        refine ⟨A', n', c', rfl, ?_, hL2⟩
        have e : bs ++ keyV ⟨1, x, mt⟩ = L := by
          rw [← List.append_nil L, show ([] : List UInt8) = be N 0 from rfl, hL3, ← HN.out]
          simp [keyV]
        rw [e]
        exact hL1)
      clear hL1 hL2 hL3 HR
      go_wp2
      rw [land_ret]
      go_ret
      exact HF.out
    · obtain ⟨i, rfl⟩ : ∃ i, j = i + 1 := ⟨j - 1, by omega⟩
      obtain ⟨L, hL1, hL2, hL3⟩ := HR.out
      have hLl : L.length ≤ 549755813888 + 9 := by have := num_short hL3; simp [be_length] at this; omega
      have HL1 := Lib.hid hL1
      have HL2 := Lib.hid hL2
      have HL3 := Lib.hid hL3
      clear hL1 hL2 hL3 HR
      go_wp2_with (at_builtin; refine append_bytes rfl _ _ rfl B A' n' c' L rfl _ [UInt8.ofNat (N / 256 ^ i % 256)] 1 HL1.out _ rfl (by simp) rfl [_] (byte_eq N i) (by simp; omega) ?_; intro A2 n2 c2 w2 hn2 hb2 hk2; have H2 := Lib.hid (Numbered.next hb2 hk2 HL2.out HL3.out); clear hb2 hk2; subst hn2)
      go_roundw
      case rel => exact ⟨i, A2, _, c2, by omega, by go_num, rfl, H2⟩
      case measure => simp [intOf]

set_option maxHeartbeats 1000000 in
theorem with_bool (B : Nat) (A : Option Addr) (n c : Nat) (bs : List UInt8) (x : Int) (hx : x = 0 ∨ x = 1) (w : World) (hb : Buf B A n c bs w) (hl : bs.length ≤ 549755813888) :
    Calls Tryd.prog 35 #[.slice A n c, V.val ⟨2, x, mt⟩] w (WithPost B (bs ++ keyV ⟨2, x, mt⟩) w) := by
  have H := Lib.hid hb
  have hB := hb.2.1
  clear hb
  unfold V.val
  dsimp only
  rcases hx with rfl | rfl
  · go_enter Tryd.func35, Tryd.ntmps35
    go_wp2
    refine wp_scope_land 2 ?_
    go_wp2_with (at_builtin; refine append_bytes rfl _ _ rfl B A n c bs rfl _ [3] 1 (H.out.alloc _) _ rfl (by simp) rfl [.int .u8 3] rfl (by simp; omega) ?_; intro A1 n1 c1 w1 hn1 hb1 hk1; have H1 := Lib.hid hb1; have K1 := Lib.hid hk1; have hs1 := hk1.size; have X := (Box.new w ⟨2, 0, mt⟩).keep hk1; have x0 := X.k; have x1 := X.n; have x2 := X.s; clear hb1 hk1 X; subst hn1)
    refine wp_goto ?_
    refine land_goto rfl ?_
    go_wp2
    refine wp_loop_rounds 2 ?_
    rw [rounds_succ]
    go_wp2_with (at_builtin; refine append_bytes rfl _ _ rfl B A1 (n + 1) c1 _ rfl _ [0] 1 H1.out _ rfl (by simp) rfl [.int .u8 0] rfl (by simp; omega) ?_; intro A2 n2 c2 w2 hn2 hb2 hk2; have H2 := Lib.hid hb2; have K2 := Lib.hid hk2; clear hb2 hk2; subst hn2)
    rw [rounds_succ]
    go_wp2
    rw [land_ret]
    go_ret
    exact ⟨A2, _, c2, rfl, by have := H2.out; rw [List.append_assoc] at this; exact this, (((Keep.refl B w).alloc hB _).trans K1.out).trans K2.out⟩
  · go_enter Tryd.func35, Tryd.ntmps35
    go_wp2
    refine wp_scope_land 2 ?_
    go_wp2_with (at_builtin; refine append_bytes rfl _ _ rfl B A n c bs rfl _ [3] 1 (H.out.alloc _) _ rfl (by simp) rfl [.int .u8 3] rfl (by simp; omega) ?_; intro A1 n1 c1 w1 hn1 hb1 hk1; have H1 := Lib.hid hb1; have K1 := Lib.hid hk1; have hs1 := hk1.size; have X := (Box.new w ⟨2, 1, mt⟩).keep hk1; have x0 := X.k; have x1 := X.n; have x2 := X.s; clear hb1 hk1 X; subst hn1)
    refine wp_goto ?_
    refine land_goto rfl ?_
    go_wp2
    refine wp_loop_rounds 2 ?_
    rw [rounds_succ]
    go_wp2_with (at_builtin; refine append_bytes rfl _ _ rfl B A1 (n + 1) c1 _ rfl _ [1] 1 H1.out _ rfl (by simp) rfl [.int .u8 1] rfl (by simp; omega) ?_; intro A2 n2 c2 w2 hn2 hb2 hk2; have H2 := Lib.hid hb2; have K2 := Lib.hid hk2; clear hb2 hk2; subst hn2)
    rw [rounds_succ]
    go_wp2
    rw [land_ret]
    go_ret
    exact ⟨A2, _, c2, rfl, by have := H2.out; rw [List.append_assoc] at this; exact this, (((Keep.refl B w).alloc hB _).trans K1.out).trans K2.out⟩

theorem esc_any (s : ByteArray) (hs : s.size ≤ 200) (m : Int) (w : World) (hm : w.cell? ⟨0, 0, none⟩ = some (.int .i64 m)) :
    Calls Tryd.prog 42 #[.string s, .string ⟨#[0]⟩, .string ⟨#[0, 255]⟩] w fun e w' => e = .returned (.string (txt (esc s.data.toList))) ∧ Below w.heap.size w w' := by
  have hc := countB_zero_le s
  refine (Tryd.strings_ReplaceAll s ⟨#[0]⟩ ⟨#[0, 255]⟩ m w (by omega) hm (by decide) (by rw [show (ByteArray.mk #[0, 255]).size = 2 from rfl]; omega)).mono ?_
  rintro e w' ⟨rfl, hb⟩
  refine ⟨?_, hb⟩
  rw [show (ByteArray.mk #[0]).data.toList = [0] from rfl, show (ByteArray.mk #[0, 255]).data.toList = [0, 255] from rfl, replaceAll_esc]
  rfl

set_option maxHeartbeats 1000000 in
theorem with_text (B : Nat) (A : Option Addr) (n c : Nat) (bs : List UInt8) (s : ByteArray) (hs : s.size ≤ 200) (w : World) (hb : Buf B A n c bs w) (hl : bs.length ≤ 549755813888) (hB0 : 0 < B) (hM : MaxAt w) :
    Calls Tryd.prog 35 #[.slice A n c, V.val ⟨3, 0, s⟩] w (WithPost B (bs ++ keyV ⟨3, 0, s⟩) w) := by
  have H := Lib.hid hb
  have hB := hb.2.1
  have hE := esc_length s.data.toList
  have hS := size_eq s
  obtain ⟨m, hm⟩ := hM
  have HM := Lib.hid hm
  have HS := Lib.hid (show (esc s.data.toList).length ≤ 400 by omega)
  clear hb hE hS hm
  unfold V.val
  dsimp only
  go_enter Tryd.func35, Tryd.ntmps35
  go_wp2
  refine wp_scope_land 2 ?_
  go_wp2_with (at_builtin; refine append_bytes rfl _ _ rfl B A n c bs rfl _ [4] 1 (H.out.alloc _) _ rfl (by simp) rfl [.int .u8 4] rfl (by simp; omega) ?_; intro A1 n1 c1 w1 hn1 hb1 hk1; have H1 := Lib.hid hb1; have K1 := Lib.hid (((Keep.refl B w).alloc hB _).trans hk1); have hs1 := hk1.size; have X := (Box.new w ⟨3, 0, s⟩).keep hk1; have x0 := X.k; have x1 := X.n; have x2 := X.s; clear hb1 hk1 X; subst hn1)
  refine wp_goto ?_
  refine land_goto rfl ?_
  go_wp2_with (first | (go_at_call 42; refine (esc_any s hs m _ ((K1.out.below.cell (p := ⟨_, 0, none⟩) hB0).trans HM.out)).mono ?_; rintro e w2 ⟨rfl, hb⟩; have H2 := Lib.hid (H1.out.below hb); have K2 := Lib.hid (K1.out.trans (Keep.of_below hb H1.out.2.1)); clear hb) | (at_builtin; refine append_text rfl _ _ rfl B A1 _ c1 _ rfl _ (txt (esc s.data.toList)) H2.out rfl (by have := HS.out; rw [txt_size]; simp; omega) ?_; intro A3 n3 c3 w3 hn3 hb3 hk3; have H3 := Lib.hid hb3; have K3 := Lib.hid (K2.out.trans hk3); clear hb3 hk3; subst hn3) | (at_builtin; refine append_bytes rfl _ _ rfl B A3 _ c3 _ rfl _ [0, 0] 2 H3.out _ rfl (by simp) rfl [.int .u8 0, .int .u8 0] rfl (by have := HS.out; rw [txt_list]; simp; omega) ?_; intro A4 n4 c4 w4 hn4 hb4 hk4; have H4 := Lib.hid hb4; have K4 := Lib.hid (K3.out.trans hk4); clear hb4 hk4; subst hn4))
  rw [land_ret]
  go_ret
  exact ⟨A4, _, c4, rfl, by have := H4.out; rw [txt_list] at this; simpa [keyV] using this, K4.out⟩

theorem with_any (B : Nat) (A : Option Addr) (n c : Nat) (bs : List UInt8) (v : V) (hv : chk v = 0) (hw : v.wf) (w : World) (hb : Buf B A n c bs w) (hl : bs.length ≤ 549755813888) (hB0 : 0 < B) (hM : MaxAt w) :
    Calls Tryd.prog 35 #[.slice A n c, v.val] w (WithPost B (bs ++ keyV v) w) := by
  obtain ⟨k, x, s⟩ := v
  rcases chk_kinds hv with h | h | h | h <;> dsimp only at h
  · obtain ⟨rfl, rfl, hs⟩ := h
    obtain rfl := empty_of_size hs
    exact with_null B A n c bs w hb hl
  · obtain ⟨rfl, hs⟩ := h
    obtain rfl := empty_of_size hs
    exact with_int B A n c bs x hw.2.1 w hb hl
  · obtain ⟨rfl, hx, hs⟩ := h
    obtain rfl := empty_of_size hs
    exact with_bool B A n c bs x hx w hb hl
  · obtain ⟨rfl, rfl, hs⟩ := h
    exact with_text B A n c bs s hs w hb hl hB0 hM
end Go.Proofs.YtnginemabkecmaaDoor
