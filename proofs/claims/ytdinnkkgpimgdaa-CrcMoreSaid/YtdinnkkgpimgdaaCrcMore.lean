/- The statement CrcMore: the walk. -/
import Derived.Test.YtdinnkkgpimgdaaCrcLaws
import Derived.Lib.IndexBytes
namespace Go.Proofs.Ytdinnkkgpimgdaa
open Go.ChangeShapes Go.WideShapes Go.ChangeAt Go.RowKit
set_option linter.unusedVariables false

/-- What is left of a text, with the sum of what is behind. -/
def LeftOf (s : ByteArray) (c : Nat) (r : ByteArray) : Prop := c < 4294967296 ∧ r.size ≤ s.size ∧ moreN c r.data.toList = moreN 0 s.data.toList
theorem left_start (s : ByteArray) : LeftOf s 0 s := ⟨by omega, Nat.le_refl _, rfl⟩
theorem left_next {s : ByteArray} {c : Nat} {r : ByteArray} (n : Nat) (h : LeftOf s c r) (hn : n ≤ r.size) :
    LeftOf s (moreN c (r.extract 0 n).data.toList) (r.extract n r.size) := by
  obtain ⟨_, h2, h3⟩ := h
  refine ⟨moreN_lt _ _, by rw [ByteArray.size_extract]; omega, ?_⟩
  rw [moreN_append, Lib.extract_data, Lib.extract_to_end, Nat.sub_zero, List.drop_zero, List.take_append_drop, h3]

theorem crcmore_zero (s : ByteArray) (hs : s.size ≤ maxLen) (a : Option Addr) (cap : Nat) (w : World) :
    Calls Try.prog 4 #[.string s, .slice a 0 cap] w fun e w' => e = .returned (.bool true) ∧ Below w.heap.size w w' := by
  have hcv := fun W => run_bytes_of_string (P := Try.prog) W 9 26 5 s Try.underlying9 Try.underlying26 Try.underlying5
  unfold maxLen at hs
  go_enter Try.func4, Try.ntmps4
  by_cases hbig : 4000 < s.size
  · go_wp2_with (go_at_call 7; refine (alive_any _).mono ?_; rintro e w' ⟨rfl, rfl⟩)
    go_ret
    exact ⟨rfl, Below.refl _ _⟩
  · go_wp2_with (go_at_call 7; refine (alive_any _).mono ?_; rintro e w' ⟨rfl, rfl⟩)
    go_loop [5, 6, 7] (fun c r i => c = .int .u32 0 ∧ r = .string s ∧ i = .int .i64 0) (fun _ _ _ => 0)
    case atStart => exact ⟨rfl, rfl, rfl⟩
    case round =>
      obtain ⟨rfl, rfl, rfl⟩ := hrel
      go_wp2_with ((first | (go_at_call 12; refine (more_bytes 0 (by omega) s.data.toList _ (size_list s) hs _ 0 _ _ ?c1).mono ?_; (case c1 => exact bytes_laid s _ _ _ _ _ rfl); rintro e w' ⟨rfl, rfl⟩) | (go_at_call 8; refine (ref_of s hs _).mono ?_; rintro e w' ⟨rfl, rfl⟩)))
      go_ret
      exact ⟨by simp, (Below.refl _ _).drew.alloc (Nat.le_refl _) _⟩

theorem crcmore_some (s : ByteArray) (hs : s.size ≤ maxLen) (b off len cap : Nat) (zs : List Int) (w : World) (hm : len ≤ 9223372036854775807)
    (hc : ∀ k, k < len → w.cell? ⟨b, off + k, none⟩ = some (.int .u8 (zs.getD k 0)) ∧ 0 ≤ zs.getD k 0 ∧ zs.getD k 0 ≤ 255) :
    Calls Try.prog 4 #[.string s, .slice (some ⟨b, off, none⟩) len cap] w fun e w' => e = .returned (.bool true) ∧ Below w.heap.size w w' := by
  have hcv := fun W (r : ByteArray) => run_bytes_of_string (P := Try.prog) W 9 26 5 r Try.underlying9 Try.underlying26 Try.underlying5
  unfold maxLen at hs
  have HC := Lib.hid hc
  clear hc
  go_enter Try.func4, Try.ntmps4
  by_cases hbig : 4000 < s.size
  · go_wp2_with (go_at_call 7; refine (alive_any _).mono ?_; rintro e w' ⟨rfl, rfl⟩)
    go_ret
    exact ⟨rfl, Below.refl _ _⟩
  · go_wp2_with (go_at_call 7; refine (alive_any _).mono ?_; rintro e w' ⟨rfl, rfl⟩)
    go_loop [5, 6, 7] (fun c r i => ∃ k cn rs, k ≤ len ∧ i = .int .i64 ((k : Nat) : Int) ∧ c = .int .u32 ((cn : Nat) : Int) ∧ r = .string rs ∧ Hid (LeftOf s cn rs)) (fun _ _ i => len - (intOf i).toNat)
    case atStart => exact ⟨0, 0, s, Nat.zero_le _, rfl, rfl, rfl, Lib.hid (left_start s)⟩
    case round =>
      obtain ⟨k, cn, rs, hk, rfl, rfl, rfl, HL⟩ := hrel
      have hcn := HL.out.1
      have hrs := HL.out.2.1
      by_cases hlt : k < len ∧ k < 100
      · obtain ⟨hlt, h100⟩ := hlt
        obtain ⟨hcell, hz0, hz1⟩ := HC.out k hlt
        generalize zs.getD k 0 = z at *
        by_cases hzr : z % 32 ≤ rs.size
        · obtain ⟨n, hn⟩ : ∃ n : Nat, z % 32 = n := ⟨(z % 32).toNat, by omega⟩
          have HN := Lib.hid (left_next n HL.out (by omega))
          have hsz : (rs.extract 0 n).size ≤ 140737488355328 := by rw [ByteArray.size_extract]; omega
          go_wp2_with (go_at_call 11; refine (more_str cn hcn _ (by unfold maxLen; omega) _).mono ?_; rintro e w' ⟨rfl, rfl⟩)
          go_round
          case rel => exact ⟨k + 1, _, _, by omega, by go_num, rfl, rfl, Lib.hid (by have := HN.out; simpa using this)⟩
          case measure => simp [intOf]; omega
        · have HN := Lib.hid (left_next rs.size HL.out (by omega))
          have hsz : (rs.extract 0 rs.size).size ≤ 140737488355328 := by rw [ByteArray.size_extract]; omega
          go_wp2_with (go_at_call 11; refine (more_str cn hcn _ (by unfold maxLen; omega) _).mono ?_; rintro e w' ⟨rfl, rfl⟩)
          go_round
          case rel => exact ⟨k + 1, _, _, by omega, by go_num, rfl, rfl, Lib.hid (by have := HN.out; simpa using this)⟩
          case measure => simp [intOf]; omega
      · have HE := Lib.hid HL.out.2.2
        by_cases hlt : k < len
        · have h100 : ¬ k < 100 := fun h => by have := ‹¬ (k < len ∧ k < 100)›; omega
          clear HC
          go_wp2_with ((first | (go_at_call 12; refine (more_bytes cn hcn rs.data.toList _ (size_list rs) (by unfold maxLen; omega) _ 0 _ _ ?c1).mono ?_; (case c1 => exact bytes_laid rs _ _ _ _ _ rfl); rw [HE.out]; rintro e w' ⟨rfl, rfl⟩) | (go_at_call 8; refine (ref_of s hs _).mono ?_; rintro e w' ⟨rfl, rfl⟩)))
          go_ret
          exact ⟨by simp, (Below.refl _ _).drew.alloc (Nat.le_refl _) _⟩
        · clear HC
          go_wp2_with ((first | (go_at_call 12; refine (more_bytes cn hcn rs.data.toList _ (size_list rs) (by unfold maxLen; omega) _ 0 _ _ ?c2).mono ?_; (case c2 => exact bytes_laid rs _ _ _ _ _ rfl); rw [HE.out]; rintro e w' ⟨rfl, rfl⟩) | (go_at_call 8; refine (ref_of s hs _).mono ?_; rintro e w' ⟨rfl, rfl⟩)))
          go_ret
          exact ⟨by simp, (Below.refl _ _).drew.alloc (Nat.le_refl _) _⟩
end Go.Proofs.Ytdinnkkgpimgdaa
