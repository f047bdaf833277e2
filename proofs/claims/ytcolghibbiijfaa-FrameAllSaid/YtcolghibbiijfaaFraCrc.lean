/- The walks of the sum of bytes that lie in memory, and of the document's own. -/
import Derived.Test.YtcolghibbiijfaaMem
import Derived.Test.YtcolghibbiijfaaFraPlain
namespace Go.Proofs.Ytcolghibbiijfaa
open Go.ChangeShapes Go.WideShapes Go.ChangeAt Go.RowKit

theorem shifted_any (n : Nat) (hn : n < 4294967296) (w : World) :
    Calls Try.prog 28 #[.int .u32 n] w fun e w' => e = .returned (.int .u32 (stpN 8 n)) ∧ w = w' := by
  go_enter Try.func28, Try.ntmps28
  go_wp2
  go_loop [0, 3] (fun c i => ∃ k : Nat, k ≤ 8 ∧ i = .int .i64 k ∧ c = .int .u32 (stpN k n)) (fun _ i => 8 - (intOf i).toNat)
  case atStart => exact ⟨0, by omega, rfl, rfl⟩
  case round =>
    obtain ⟨k, hk, rfl, rfl⟩ := hrel
    have hm := stpN_lt k hn
    by_cases hlt : k < 8
    · go_wp2
      go_round
      case rel => exact ⟨k + 1, by omega, by go_num, by rw [u32_stp _ hm]; rfl⟩
      case measure => simp [intOf]; omega
    · obtain rfl : k = 8 := by omega
      go_wp2
      go_ret
      exact ⟨rfl, rfl⟩

theorem take_snocB (l : List UInt8) (k : Nat) (h : k < l.length) : l.take (k + 1) = l.take k ++ [l[k]] := List.take_succ_eq_append_getElem h

theorem more_bytes (c : Nat) (hc : c < 4294967296) (l : List UInt8) (len : Nat) (hl : len = l.length) (hs : len ≤ maxLen) (B : Nat) (A : Option Addr) (cap : Nat) (w : World) (hb : BytesAt w B A l) :
    Calls Try.prog 25 #[.int .u32 c, .slice A len cap] w fun e w' => e = .returned (.int .u32 (moreN c l)) ∧ w = w' := by
  unfold maxLen at hs
  have hn := not32_lt c
  have HN := u32_not c hc
  have s1 : IntKind.u32.signed = false := rfl
  have HB := Lib.hid hb
  have HL := Lib.hid hl
  clear hb hl
  go_enter Try.func25, Try.ntmps25
  go_wp2
  clear HN
  go_loop [5, 11] (fun c' i => ∃ k : Nat, k ≤ len ∧ i = .int .i64 k ∧ c' = .int .u32 (crcS (not32 c) (l.take k))) (fun _ i => len - (intOf i).toNat)
  case atStart => exact ⟨0, Nat.zero_le _, rfl, rfl⟩
  case round =>
    obtain ⟨k, hk, rfl, rfl⟩ := hrel
    have hm := crcS_lt (not32 c) (l.take k) hn
    by_cases hlt : k < len
    · have hkl : k < l.length := by rw [← HL.out]; exact hlt
      have HS := Lib.hid (show crcS (not32 c) (l.take (k + 1)) = stpN 8 (crcS (not32 c) (l.take k) ^^^ l[k].toNat) by rw [take_snocB l k hkl, crcS_snoc])
      obtain ⟨b, off, rfl, _, hcell⟩ := HB.out k hkl
      obtain ⟨x, HX0⟩ : ∃ x, Hid (l[k] = x) := ⟨_, Lib.hid rfl⟩
      rw [HX0.out] at hcell HS
      have hb : x.toNat < 256 := x.toNat_lt
      have hx := xor32_lt hm hb
      have HX := u32_byte _ _ hm hb
      go_wp2_with (go_at_call 28; refine (shifted_any _ hx _).mono ?_; rintro e w' ⟨rfl, rfl⟩)
      go_round
      case rel => exact ⟨k + 1, by omega, by go_num, by rw [HS.out]⟩
      case measure => simp [intOf]; omega
    · have hz := Lib.hid (List.take_of_length_le (l := l) (i := k) (by have := HL.out; omega))
      have HM := u32_not _ hm
      go_wp2
      rw [hz.out]
      go_ret
      exact ⟨rfl, rfl⟩

theorem of_bytes (l : List UInt8) (len : Nat) (hl : len = l.length) (hs : len ≤ maxLen) (B : Nat) (A : Option Addr) (cap : Nat) (w : World) (hb : BytesAt w B A l) :
    Calls Try.prog 26 #[.slice A len cap] w fun e w' => e = .returned (.int .u32 (moreN 0 l)) ∧ w = w' := by
  have HB := Lib.hid hb
  have HL := Lib.hid hl
  clear hb hl
  go_enter Try.func26, Try.ntmps26
  go_wp2_with (go_at_call 25; refine (more_bytes 0 (by omega) l _ HL.out hs B A cap _ HB.out).mono ?_; rintro e w' ⟨rfl, rfl⟩)
  go_ret
  exact ⟨rfl, rfl⟩

/-- The sum of a frame's length and bytes. -/
theorem sum_any (a b : List UInt8) (n m : Nat) (hn : n = a.length) (hm : m = b.length) (hs : n ≤ maxLen) (ht : m ≤ maxLen) (B D : Nat) (A C : Option Addr) (c d : Nat) (w : World) (ha : BytesAt w B A a) (hb : BytesAt w D C b) :
    Calls Try.prog 19 #[.slice A n c, .slice C m d] w fun e w' => e = .returned (.int .u32 (moreN 0 (a ++ b))) ∧ w = w' := by
  have HA := Lib.hid ha
  have HB := Lib.hid hb
  have HN := Lib.hid hn
  have HM := Lib.hid hm
  have HE := Lib.hid (moreN_append 0 a b)
  have hlt := moreN_lt 0 a
  clear ha hb hn hm
  go_enter Try.func19, Try.ntmps19
  go_wp2_with (first | (go_at_call 26; refine (of_bytes a _ HN.out hs B A c _ HA.out).mono ?_; rintro e w' ⟨rfl, rfl⟩) | (go_at_call 25; refine (more_bytes _ hlt b _ HM.out ht D C d _ HB.out).mono ?_; rintro e w' ⟨rfl, rfl⟩))
  rw [HE.out]
  go_ret
  exact ⟨rfl, rfl⟩
end Go.Proofs.Ytcolghibbiijfaa
