/- The walks of package crc. -/
import Derived.Test.YtdinnkkgpimgdaaRows
import Derived.Test.YtdinnkkgpimgdaaCrcPlain
import Derived.WalkKit
import Derived.WalkLawsBesides
import Derived.WalkSpells
import Derived.ProofKit
import Derived.Below
import Derived.Outline
import Derived.Lib.Hide
import Derived.BigQuiet
import Derived.Deep.QuietTactic
import Derived.Deep.RegionWith
import Derived.Deep.RegionHeld3
import Derived.LoopTactic
namespace Go.Proofs.Ytdinnkkgpimgdaa
open Go.ChangeShapes Go.WideShapes Go.ChangeAt Go.RowKit

theorem shifted_any (n : Nat) (hn : n < 4294967296) (w : World) :
    Calls Try.prog 13 #[.int .u32 n] w fun e w' => e = .returned (.int .u32 (stpN 8 n)) ∧ w = w' := by
  go_enter Try.func13, Try.ntmps13
  go_wp2
  go_loop [0, 3] (fun c i => ∃ k : Nat, k ≤ 8 ∧ i = .int .i64 k ∧ c = .int .u32 (stpN k n)) (fun _ i => 8 - (intOf i).toNat)
  case atStart => exact ⟨0, by omega, rfl, rfl⟩
  case round =>
    obtain ⟨k, hk, rfl, rfl⟩ := hrel
    have hm := stpN_lt k hn
    by_cases hlt : k < 8
    · go_wp2
      go_round
      case rel => exact ⟨k + 1, by omega, by go_num, by rw [u32_stp _ hm]; rfl⟩
      case measure => simp [intOf]; omega
    · obtain rfl : k = 8 := by omega
      go_wp2
      go_ret
      exact ⟨rfl, rfl⟩

theorem more_str (c : Nat) (hc : c < 4294967296) (s : ByteArray) (hs : s.size ≤ maxLen) (w : World) :
    Calls Try.prog 11 #[.int .u32 c, .string s] w fun e w' => e = .returned (.int .u32 (moreN c s.data.toList)) ∧ w = w' := by
  unfold maxLen at hs
  have hn := not32_lt c
  have HN := u32_not c hc
  have s1 : IntKind.u32.signed = false := rfl
  go_enter Try.func11, Try.ntmps11
  go_wp2
  clear HN
  go_loop [5, 11] (fun c' i => ∃ k : Nat, k ≤ s.size ∧ i = .int .i64 k ∧ c' = .int .u32 (crcS (not32 c) (s.data.toList.take k))) (fun _ i => s.size - (intOf i).toNat)
  case atStart => exact ⟨0, Nat.zero_le _, rfl, rfl⟩
  case round =>
    obtain ⟨k, hk, rfl, rfl⟩ := hrel
    have hm := crcS_lt (not32 c) (s.data.toList.take k) hn
    by_cases hlt : k < s.size
    · have HS := Lib.hid (show crcS (not32 c) (s.data.toList.take (k + 1)) = stpN 8 (crcS (not32 c) (s.data.toList.take k) ^^^ s[k].toNat) by rw [take_snoc8 s k hlt, crcS_snoc])
      have hb : s[k].toNat < 256 := s[k].toNat_lt
      have hx := xor32_lt hm hb
      have HX := u32_byte _ _ hm hb
      go_wp2_with (go_at_call 13; refine (shifted_any _ hx _).mono ?_; rintro e w' ⟨rfl, rfl⟩)
      go_round
      case rel => exact ⟨k + 1, by omega, by go_num, by rw [HS.out]⟩
      case measure => simp [intOf]; omega
    · have hz := Lib.hid (List.take_of_length_le (l := s.data.toList) (i := k) (by simp; omega))
      have HM := u32_not _ hm
      go_wp2
      rw [hz.out]
      go_ret
      exact ⟨rfl, rfl⟩

/-- The bytes l lie at b, from off on. -/
def BytesAt (w : World) (b off : Nat) (l : List UInt8) : Prop := ∀ j, j < l.length → w.cell? ⟨b, off + j, none⟩ = some (.int .u8 (l.getD j 0).toNat)
theorem take_snocB (l : List UInt8) (k : Nat) (h : k < l.length) : l.take (k + 1) = l.take k ++ [l.getD k 0] := by
  rw [List.take_succ_eq_append_getElem h]
  simp [List.getD, List.getElem?_eq_getElem h]

theorem more_bytes (c : Nat) (hc : c < 4294967296) (l : List UInt8) (len : Nat) (hl : len = l.length) (hs : len ≤ maxLen) (b off cap : Nat) (w : World) (hb : BytesAt w b off l) :
    Calls Try.prog 12 #[.int .u32 c, .slice (some ⟨b, off, none⟩) len cap] w fun e w' => e = .returned (.int .u32 (moreN c l)) ∧ w = w' := by
  unfold maxLen at hs
  have hn := not32_lt c
  have HN := u32_not c hc
  have s1 : IntKind.u32.signed = false := rfl
  have HB := Lib.hid hb
  have HL := Lib.hid hl
  clear hb hl
  go_enter Try.func12, Try.ntmps12
  go_wp2
  clear HN
  go_loop [5, 11] (fun c' i => ∃ k : Nat, k ≤ len ∧ i = .int .i64 k ∧ c' = .int .u32 (crcS (not32 c) (l.take k))) (fun _ i => len - (intOf i).toNat)
  case atStart => exact ⟨0, Nat.zero_le _, rfl, rfl⟩
  case round =>
    obtain ⟨k, hk, rfl, rfl⟩ := hrel
    have hm := crcS_lt (not32 c) (l.take k) hn
    by_cases hlt : k < len
    · have HS := Lib.hid (show crcS (not32 c) (l.take (k + 1)) = stpN 8 (crcS (not32 c) (l.take k) ^^^ (l.getD k 0).toNat) by rw [take_snocB l k (by rw [← HL.out]; exact hlt), crcS_snoc])
      have hcell := HB.out k (by rw [← HL.out]; exact hlt)
      generalize l.getD k 0 = x at *
      have hb : x.toNat < 256 := x.toNat_lt
      have hx := xor32_lt hm hb
      have HX := u32_byte _ _ hm hb
      go_wp2_with (go_at_call 13; refine (shifted_any _ hx _).mono ?_; rintro e w' ⟨rfl, rfl⟩)
      go_round
      case rel => exact ⟨k + 1, by omega, by go_num, by rw [HS.out]⟩
      case measure => simp [intOf]; omega
    · have hz := Lib.hid (List.take_of_length_le (l := l) (i := k) (by have := HL.out; omega))
      have HM := u32_not _ hm
      go_wp2
      rw [hz.out]
      go_ret
      exact ⟨rfl, rfl⟩

theorem of_str (s : ByteArray) (hs : s.size ≤ maxLen) (w : World) :
    Calls Try.prog 9 #[.string s] w fun e w' => e = .returned (.int .u32 (moreN 0 s.data.toList)) ∧ w = w' := by
  go_enter Try.func9, Try.ntmps9
  go_wp2_with (go_at_call 11; refine (more_str 0 (by omega) s hs _).mono ?_; rintro e w' ⟨rfl, rfl⟩)
  go_ret
  exact ⟨rfl, rfl⟩

theorem of_bytes (l : List UInt8) (len : Nat) (hl : len = l.length) (hs : len ≤ maxLen) (b off cap : Nat) (w : World) (hb : BytesAt w b off l) :
    Calls Try.prog 10 #[.slice (some ⟨b, off, none⟩) len cap] w fun e w' => e = .returned (.int .u32 (moreN 0 l)) ∧ w = w' := by
  have HB := Lib.hid hb
  have HL := Lib.hid hl
  clear hb hl
  go_enter Try.func10, Try.ntmps10
  go_wp2_with (go_at_call 12; refine (more_bytes 0 (by omega) l _ HL.out hs b off cap _ HB.out).mono ?_; rintro e w' ⟨rfl, rfl⟩)
  go_ret
  exact ⟨rfl, rfl⟩

theorem nine_sum : moreN 0 [49, 50, 51, 52, 53, 54, 55, 56, 57] = 3808858755 := by decide +kernel

theorem alive_any (w : World) :
    Calls Try.prog 7 #[] w fun e w' => e = .returned (.bool true) ∧ w = w' := by
  have h9 := nine_sum
  go_enter Try.func7, Try.ntmps7
  go_wp2_with (go_at_call 9; refine (of_str _ (by unfold maxLen; decide) _).mono ?_; rintro e w' ⟨rfl, rfl⟩)
  go_ret
  exact ⟨rfl, rfl⟩
end Go.Proofs.Ytdinnkkgpimgdaa
