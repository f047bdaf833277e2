/- The walks of numbers as bytes: both texts. -/
import Derived.Test.YtkpajmgbiepmbaaCodPlain
import Derived.Test.YtkpajmgbiepmbaaCodBuf
namespace Go.Proofs.Ytkpajmgbiepmbaa
open Go.ChangeShapes Go.WideShapes Go.ChangeAt Go.RowKit
open Go.Lib (byteCells byteCells_length byteCells_append strCells)
set_option linter.unusedVariables false

/-- Bytes in new memory. -/
def BufPost (bs : List UInt8) (w : World) (e : Ending) (w' : World) : Prop :=
  ∃ A n c, e = .returned (.slice A n c) ∧ Buf w.heap.size A n c bs w' ∧ Below w.heap.size w w'

set_option maxRecDepth 10000 in
theorem or128_nat : ∀ x, x < 256 → x ||| 128 = x % 128 + 128 := by decide
theorem or128 (m : Nat) : bits .or .u8 ((m : Int) % 256) 128 = ((m % 128 + 128 : Nat) : Int) := by
  rw [show (m : Int) % 256 = ((m % 256 : Nat) : Int) by omega, show (128 : Int) = ((128 : Nat) : Int) from rfl, u8_or_nat _ _ (by omega) (by omega), or128_nat _ (by omega)]
  omega
theorem digit_cell (m : Nat) : [Value.int .u8 ((m % 128 + 128 : Nat) : Int)] = byteCells [UInt8.ofNat (m % 128 + 128)] := by
  simp only [byteCells, List.map_cons, List.map_nil]
  rw [ofNat_toNat (by omega)]
theorem last_cell (m : Nat) (h : m < 256) : [Value.int .u8 (m : Int)] = byteCells [UInt8.ofNat m] := by
  simp only [byteCells, List.map_cons, List.map_nil]
  rw [ofNat_toNat h]

set_option maxHeartbeats 1000000 in
theorem num_walk (n : Nat) (hn : n < 18446744073709551616) (w : World) :
    Calls Try.prog 12 #[.int .u64 (n : Int)] w (BufPost (numL n) w) := by
  have HL := Lib.hid (numL_len64 hn)
  go_enter Try.func12, Try.ntmps12
  go_wp2
  go_loopw [0, 3] (fun nv bv wr => ∃ (m : Nat) (L : List UInt8) (A : Option Addr) (k c : Nat), m ≤ n ∧ nv = .int .u64 (m : Int) ∧ bv = .slice A k c ∧ Hid (numL n = L ++ numL m) ∧ Hid (Buf w.heap.size A k c L wr) ∧ Hid (Keep w.heap.size w wr)) (fun nv _ _ => (intOf nv).toNat)
  case atStart => exact ⟨n, [], none, 0, 0, Nat.le_refl _, rfl, rfl, Lib.hid rfl, Lib.hid (Buf.nil _ _ (Nat.le_refl _)), Lib.hid (Keep.refl _ _)⟩
  case round =>
    obtain ⟨m, L, A, k, c, hm, rfl, rfl, HN, HB, HK⟩ := hrel
    have hLl : L.length ≤ 10 := by have h1 := HL.out; rw [HN.out, List.length_append] at h1; omega
    by_cases hlt : 128 ≤ m
    · have ho := or128 m
      have HN2 := Lib.hid (show numL n = (L ++ [UInt8.ofNat (m % 128 + 128)]) ++ numL (m / 128) by rw [HN.out, numL_big hlt]; simp)
      have hg : decide ((128 : Int) ≤ (m : Int)) = true := decide_eq_true (by omega)
      go_wp2_with (at_builtin; go_loud (refine append_bytes rfl _ _ rfl w.heap.size A k c L rfl _ [UInt8.ofNat (m % 128 + 128)] 1 HB.out _ rfl (by simp) rfl [_] (digit_cell m) (by simp; omega) ?_); intro A1 n1 c1 w1 hn1 hb1 hk1; have H1 := Lib.hid hb1; have K1 := Lib.hid (HK.out.trans hk1); clear hb1 hk1; subst hn1)
      go_roundw
      case rel => exact ⟨m / 128, _, A1, _, c1, by omega, by go_num, rfl, HN2, H1, K1⟩
      case measure => simp [intOf]; omega
    · have HN2 := Lib.hid (show numL n = L ++ [UInt8.ofNat m] by rw [HN.out, numL_small (by omega)])
      have hg : decide ((128 : Int) ≤ (m : Int)) = false := decide_eq_false (by omega)
      go_wp2_with (at_builtin; go_loud (refine append_bytes rfl _ _ rfl w.heap.size A k c L rfl _ [UInt8.ofNat m] 1 HB.out _ rfl (by simp) rfl [_] (last_cell m (by omega)) (by simp; omega) ?_); intro A1 n1 c1 w1 hn1 hb1 hk1; have H1 := Lib.hid hb1; have K1 := Lib.hid (HK.out.trans hk1); clear hb1 hk1; subst hn1)
      go_ret
      exact ⟨A1, _, c1, rfl, by rw [HN2.out]; exact H1.out, K1.out.below⟩
end Go.Proofs.Ytkpajmgbiepmbaa
