/- The walks of the plain text that writes: numbers, ints, texts. -/
import Derived.Test.YtkpajmgbiepmbaaCodNum
namespace Go.Proofs.Ytkpajmgbiepmbaa
open Go.ChangeShapes Go.WideShapes Go.ChangeAt Go.RowKit
open Go.Lib (byteCells byteCells_length byteCells_append strCells)
set_option linter.unusedVariables false

theorem later_cell {w w' : World} {a : Addr} {v : Value} (hb : Below w.heap.size w w') (h : w.cell? a = some v) : w'.cell? a = some v := (hb.cell (World.block_lt_of_cell? w a h)).trans h
theorem bytes_string (w : World) (g : Nat) (c : UInt8) (v : Value) (hc : w.cell? ⟨g, 0, none⟩ = some v) (h : v = .int .u8 (c.toNat : Int)) :
    (convert 27 9 (.slice (some ⟨g, 0, none⟩) 1 1)).run Try.prog w = .ok (.string ⟨#[c]⟩) w := by
  subst h
  refine run_convert_bytes_back (P := Try.prog) _ 27 9 5 ⟨g, 0, none⟩ 1 [c] Try.underlying27 Try.underlying5 Try.underlying9 (fun j hj => ?_)
  have hj0 : j = 0 := by simpa using hj
  subst hj0
  rw [add_at]
  exact hc
set_option maxRecDepth 4000 in
set_option maxHeartbeats 1000000 in
theorem rnum_walk : ∀ (k n : Nat) (hk : n < 128 ^ k) (hn : n < 18446744073709551616) (w : World),
    Calls Try.prog 13 #[.int .u64 (n : Int)] w fun e w' => e = .returned (.string (txt (numL n))) ∧ Below w.heap.size w w'
  | k, n, hk, hn, w => by
    by_cases hs : n < 128
    · have hcv := bytes_string (w.alloc (.cells #[.int .u8 (n : Int)] 5)) w.heap.size (UInt8.ofNat n) (.int .u8 (n : Int)) (by simp [go_sem]) (by rw [ofNat_toNat (by omega)])
      have HN := Lib.hid (show txt (numL n) = ⟨#[UInt8.ofNat n]⟩ by rw [numL_small hs]; rfl)
      go_enter Try.func13, Try.ntmps13
      go_wp2
      go_ret
      exact ⟨by rw [HN.out]; rfl, (Below.refl _ _).alloc (Nat.le_refl _) _⟩
    · match k with
      | 0 => simp at hk; omega
      | k + 1 =>
        obtain ⟨y, hy⟩ : ∃ y, n % 128 + 128 = y := ⟨_, rfl⟩
        obtain ⟨q, hq⟩ : ∃ q, n / 128 = q := ⟨_, rfl⟩
        have IH := Lib.hid (rnum_walk k q (by rw [Nat.pow_succ] at hk; omega) (by omega))
        clear hk
        have HN := Lib.hid (show txt (numL n) = ⟨#[UInt8.ofNat y]⟩ ++ txt (numL q) by rw [numL_big (by omega), hy, hq]; apply str_ext; simp [txt])
        have h1 : IntKind.u64.wrap ((n : Int) % 128 + 128) = (y : Int) := by rw [IntKind.wrap_u64]; omega
        have h1' : IntKind.u64.wrap ((n : Int).tmod 128 + 128) = (y : Int) := by rw [Int.tmod_eq_emod_of_nonneg (by omega), h1]
        have h2 : IntKind.u64.wrap ((n : Int) / 128) = (q : Int) := by rw [IntKind.wrap_u64]; omega
        have h3 : IntKind.u8.wrap (y : Int) = (y : Int) := by rw [IntKind.wrap_u8]; omega
        have hcv : ∀ (w : World) (g : Nat), w.cell? ⟨g, 0, none⟩ = some (.int .u8 (y : Int)) → (convert 27 9 (.slice (some ⟨g, 0, none⟩) 1 1)).run Try.prog w = .ok (.string ⟨#[UInt8.ofNat y]⟩) w := fun w g h => bytes_string w g _ _ h (by rw [ofNat_toNat (by omega)])
        have hsz : (txt (numL q)).size ≤ 10 := by rw [txt_size]; exact numL_len64 (by omega)
        obtain ⟨T, hT⟩ : ∃ T, txt (numL q) = T := ⟨_, rfl⟩
        rw [hT] at IH HN hsz
        clear hy hq hT
        go_enter Try.func13, Try.ntmps13
        go_wp2
        go_region_with (go_at_call 13; refine (IH.out _).mono ?_; rintro e w2 ⟨rfl, hb⟩; have hc2 := fun h => later_cell (a := ⟨w.heap.size, 0, none⟩) (v := .int .u8 (y : Int)) hb h; simp [go_sem] at hc2; have HBB : Hid (Below w.heap.size w w2) := (by first | exact Lib.hid (((Below.refl _ w).drew).trans (hb.mono (Nat.le_refl _))) | exact Lib.hid ((((Below.refl _ w).alloc (Nat.le_refl _) _).drew).trans (hb.mono (by simp)))); clear hb)
        all_goals
          go_wp2
          go_ret
          first | exact ⟨by rw [HN.out]; rfl, HBB.out⟩ | exact ⟨by rw [HN.out]; rfl, HBB.out.alloc HBB.out.size _⟩
end Go.Proofs.Ytkpajmgbiepmbaa
