/- The walk of the document's own sum of bytes. -/
import Derived.Test.YtdinnkkgpimgdaaCrcWalks
import Derived.Deep.LoopGhost
namespace Go.Proofs.Ytdinnkkgpimgdaa
open Go.ChangeShapes Go.WideShapes Go.ChangeAt Go.RowKit

theorem stp_odd {m : Nat} (h : (m : Int) % 2 = 1) : ((stp m : Nat) : Int) = ((m / 2 ^^^ 2197175160 : Nat) : Int) := by
  unfold stp; rw [if_pos (by omega)]
theorem stp_even {m : Nat} (h : (m : Int) % 2 = 0) : ((stp m : Nat) : Int) = (m : Int) / 2 := by
  unfold stp; rw [if_neg (by omega), Nat.xor_zero]; omega
theorem u64_turn (m : Nat) (h : m < 4294967296) : bits .xor .u64 ((m : Int) / 2) 2197175160 = ((m / 2 ^^^ 2197175160 : Nat) : Int) := by
  have := u64_xor_nat (m / 2) 2197175160 (by omega) (by omega)
  rw [show ((m : Int) / 2) = ((m / 2 : Nat) : Int) by omega]
  exact this
theorem u64_byte (a b : Nat) (ha : a < 4294967296) (hb : b < 256) : bits .xor .u64 (a : Int) (b : Int) = ((a ^^^ b : Nat) : Int) := u64_xor_nat a b (by omega) (by omega)
theorem u64_not (a : Nat) (ha : a < 4294967296) : bits .xor .u64 (a : Int) 4294967295 = ((not32 a : Nat) : Int) := by
  have := u64_xor_nat a 4294967295 (by omega) (by omega)
  rw [Nat.xor_comm, xor_ones32 a ha] at this
  exact this

theorem ref_of (s : ByteArray) (hs : s.size ≤ maxLen) (w : World) :
    Calls Try.prog 8 #[.string s] w fun e w' => e = .returned (.int .u32 (moreN 0 s.data.toList)) ∧ w = w' := by
  unfold maxLen at hs
  have hn := not32_lt 0
  go_enter Try.func8, Try.ntmps8
  go_wp2
  go_loop [3, 4] (fun c' i => ∃ k : Nat, k ≤ s.size ∧ i = .int .i64 k ∧ c' = .int .u64 (crcS (not32 0) (s.data.toList.take k))) (fun _ i => s.size - (intOf i).toNat)
  case atStart => exact ⟨0, Nat.zero_le _, rfl, rfl⟩
  case round =>
    obtain ⟨k, hk, rfl, rfl⟩ := hrel
    have hm := crcS_lt (not32 0) (s.data.toList.take k) hn
    by_cases hlt : k < s.size
    · have HS := Lib.hid (show crcS (not32 0) (s.data.toList.take (k + 1)) = stpN 8 (crcS (not32 0) (s.data.toList.take k) ^^^ s[k].toNat) by rw [take_snoc8 s k hlt, crcS_snoc])
      have hb : s[k].toNat < 256 := s[k].toNat_lt
      have hx := xor32_lt hm hb
      have HX := u64_byte _ _ hm hb
      go_wp2
      generalize crcS (not32 0) (s.data.toList.take k) ^^^ s[k].toNat = x at *
      go_loop [3, 5] (fun c' i => ∃ j : Nat, j ≤ 8 ∧ i = .int .i64 j ∧ c' = .int .u64 (stpN j x)) (fun _ i => 8 - (intOf i).toNat)
      case atStart => exact ⟨0, by omega, rfl, rfl⟩
      case round =>
        obtain ⟨j, hj, rfl, rfl⟩ := hrel
        have hy := stpN_lt j hx
        by_cases hl8 : j < 8
        · have hp : ((stpN j x : Nat) : Int) % 2 = 1 ∨ ((stpN j x : Nat) : Int) % 2 = 0 := by omega
          rcases hp with hp | hp
          · have HT := u64_turn _ hy
            have HO := Lib.hid (stp_odd hp)
            go_wp2
            go_round
            case rel => exact ⟨j + 1, by omega, by go_num, by rw [← HO.out]; rfl⟩
            case measure => simp [intOf]; omega
          · have HO := Lib.hid (stp_even hp)
            go_wp2
            go_round
            case rel => exact ⟨j + 1, by omega, by go_num, by rw [← HO.out]; rfl⟩
            case measure => simp [intOf]; omega
        · obtain rfl : j = 8 := by omega
          go_wp2
          go_round
          case rel => exact ⟨k + 1, by omega, by go_num, by rw [HS.out]⟩
          case measure => simp [intOf]; omega
    · have hz := Lib.hid (List.take_of_length_le (l := s.data.toList) (i := k) (by simp; omega))
      have HM := u64_not _ hm
      have hlt := not32_lt (crcS (not32 0) (s.data.toList.take k))
      go_wp2
      rw [hz.out]
      go_ret
      exact ⟨rfl, rfl⟩
end Go.Proofs.Ytdinnkkgpimgdaa
