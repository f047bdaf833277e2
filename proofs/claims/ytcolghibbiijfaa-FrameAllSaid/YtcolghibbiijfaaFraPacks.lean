/- The statement FramePacks: the walk. -/
import Derived.Test.YtcolghibbiijfaaFraAlive
namespace Go.Proofs.Ytcolghibbiijfaa
open Go.ChangeShapes Go.WideShapes Go.ChangeAt Go.RowKit
open Go.Lib (byteCells byteCells_length byteCells_append strCells)
set_option linter.unusedVariables false

section
variable (s : ByteArray) (w : World) (cap cap' : Nat) (f : Nat × Nat)
theorem laid_below : Below w.heap.size w (w.alloc (.cells (bytesRow s cap') 5 f)).drew := ((Below.refl _ w).alloc (Nat.le_refl _) _).drew
theorem laid_size : w.heap.size ≤ (w.alloc (.cells (bytesRow s cap') 5 f)).drew.heap.size := (laid_below s w cap' f).size
theorem pack_laid (hs : s.size ≤ 16777208) : Calls Try.prog 10 #[.slice (some ⟨w.heap.size, 0, none⟩) s.size cap] (w.alloc (.cells (bytesRow s cap') 5 f)).drew fun e w' =>
    ∃ A n c, e = .returned (.tuple #[.slice A n c, .int .i64 0]) ∧ Buf w.heap.size A n c (fr s.data.toList) w' ∧ Below w.heap.size w w' :=
  (pack_any s.data.toList _ _ ⟨w.heap.size, 0, none⟩ _ (size_eq s) hs (laid_bytes s w cap' _ f)).mono fun e w' ⟨A, n, c, h1, h2, h3⟩ => ⟨A, n, c, h1, h2.more (laid_size s w cap' f), (laid_below s w cap' f).trans (h3.mono (laid_size s w cap' f))⟩
theorem one_laid (hs : s.size ≤ 1099511627776) (hc : s.size ≤ cap) (hm : cap ≤ maxLen) : Calls Try.prog 12 #[.slice (some ⟨w.heap.size, 0, none⟩) s.size cap] (w.alloc (.cells (bytesRow s cap') 5 f)).drew fun e w' =>
    Below w.heap.size w w' ∧ ((∃ x A c, fst s.data.toList = some x ∧ 8 + x.length = s.data.toList.length ∧ e = .returned (.tuple #[.slice A x.length c, .int .i64 0]) ∧ Buf w.heap.size A x.length c x w') ∨
      ((∀ x, fst s.data.toList = some x → 8 + x.length ≠ s.data.toList.length) ∧ e = .returned (.tuple #[.slice none 0 0, .int .i64 52]))) :=
  (one_any s.data.toList _ cap (size_eq s) hc hm hs _ _ (laid_bytes s w cap' _ f)).mono fun e w' ⟨h1, h2⟩ => ⟨(laid_below s w cap' f).trans (h1.mono (laid_size s w cap' f)), h2.elim (fun ⟨x, A, c, a1, a2, a3, a4⟩ => .inl ⟨x, A, c, a1, a2, a3, a4.more (laid_size s w cap' f)⟩) .inr⟩
theorem scan_laid (hs : s.size ≤ 1099511627776) : Calls Try.prog 14 #[.slice (some ⟨w.heap.size, 0, none⟩) s.size cap] (w.alloc (.cells (bytesRow s cap') 5 f)).drew (ScanPost s.data.toList w) :=
  (scan_any s.data.toList _ cap _ _ (size_eq s) hs (laid_bytes s w cap' _ f)).mono fun e w' ⟨v, xs, h1, h2, h3, h4, h5⟩ => ⟨v, xs, h1, h2, h3.mono (laid_size s w cap' f), fun x hx => (h4 x hx).more (laid_size s w cap' f), (laid_below s w cap' f).trans (h5.mono (laid_size s w cap' f))⟩
end
theorem txt_nil : txt [] = ⟨#[]⟩ := rfl
theorem packs_big (s t : ByteArray) (hs : s.size ≤ maxLen) (ht : t.size ≤ maxLen) (hb : 4000 < s.size ∨ 4000 < t.size) (w : World) :
    Calls Try.prog 3 #[.string s, .string t] w fun e w' => e = .returned (.bool true) ∧ Below w.heap.size w w' := by
  unfold maxLen at hs ht
  by_cases h1 : 4000 < s.size
  · clear hb
    go_enter Try.func3, Try.ntmps3
    go_wp2_with (go_at_call 9; refine (alive_any _).mono ?_; rintro e w1 ⟨rfl, hb1⟩; have HB1 := Lib.hid hb1; clear hb1)
    go_ret
    exact ⟨rfl, HB1.out⟩
  · have h2 : 4000 < t.size := by omega
    clear hb
    go_enter Try.func3, Try.ntmps3
    go_wp2_with (go_at_call 9; refine (alive_any _).mono ?_; rintro e w1 ⟨rfl, hb1⟩; have HB1 := Lib.hid hb1; clear hb1)
    go_ret
    exact ⟨rfl, HB1.out⟩

set_option maxHeartbeats 4000000 in
theorem packs_small (s t : ByteArray) (hs : s.size ≤ 4000) (ht : t.size ≤ 4000) (w : World) :
    Calls Try.prog 3 #[.string s, .string t] w fun e w' => e = .returned (.bool true) ∧ Below w.heap.size w w' := by
  have hcs := fun W => run_bytes_of_string (P := Try.prog) W 9 23 5 s Try.underlying9 Try.underlying23 Try.underlying5
  have hct := fun W => run_bytes_of_string (P := Try.prog) W 9 23 5 t Try.underlying9 Try.underlying23 Try.underlying5
  have hds : decide ((4000 : Int) < (s.size : Int)) = false := decide_eq_false (by omega)
  have hdt : decide ((4000 : Int) < (t.size : Int)) = false := decide_eq_false (by omega)
  rcases hf : fst t.data.toList with _ | x
  · have HX := Lib.hid hf
    have HNO := Lib.hid (show ∀ x, fst t.data.toList = some x → 8 + x.length ≠ t.data.toList.length by rw [hf]; intro x h; cases h)
    clear hf
    go_enter Try.func3, Try.ntmps3
    go_wp2_with (first
      | (go_at_call 9; refine (alive_any _).mono ?_; rintro e w1 ⟨rfl, hb1⟩; have HB1 := Lib.hid hb1; clear hb1)
      | (go_at_call 10; refine (pack_laid s w1 _ _ _ (by omega)).mono ?_; rintro e w2 ⟨A2, n2, c2, rfl, hp2, hb2⟩; have hst := string_of_buf hp2; have HP2 := Lib.hid hp2; have HB2 := Lib.hid (HB1.out.trans (hb2.mono HB1.out.size)); clear hp2 hb2)
      | (go_at_call 11; refine (rpack_any s (by omega) _).mono ?_; rintro e w3 ⟨rfl, hb3⟩; have hst3 := string_of_buf (HP2.out.below hb3); have HB3 := Lib.hid (HB2.out.trans (hb3.mono HB2.out.size)); have HP3 := Lib.hid (HP2.out.below hb3); clear hb3)
      | (go_at_call 12; refine (one_laid t w3 _ _ _ (by omega) (grownCap_ge _ _ _ _) (grownCap_le_maxLen _ _ _ _ (by unfold maxLen; omega))).mono ?_; rintro e w4 ⟨hb4, h4⟩; have hb34 := hb4; have HP4 := Lib.hid (HP3.out.below hb4); have HB4 := Lib.hid (HB3.out.trans (hb4.mono HB3.out.size)); clear hb4; rcases h4 with ⟨x, A4, c4, hx, h8, rfl, hp4⟩ | ⟨_, rfl⟩; (· exact absurd h8 (HNO.out x hx)); clear hb34)
      | (go_at_call 13; rw [show (0 : Int) = ((0 : Nat) : Int) from rfl]; refine (rat_any t 0 (by omega) (Nat.zero_le _) _).mono ?_; rw [List.drop_zero]; intro e w5 h; obtain ⟨tt, hb5, rfl⟩ := h.none_ HX.out; have HB5 := Lib.hid (HB4.out.trans (hb5.mono HB4.out.size)); have hst5 := string_of_buf (HP4.out.below hb5); clear h))
    go_ret
    exact ⟨rfl, HB5.out⟩
  · have hx8 := (fst_back hf).1
    have hxl : x.length ≤ 4000 := by rw [← size_eq] at hx8; omega
    have htx := txt_size x
    by_cases h8 : 8 + x.length = t.data.toList.length
    · have HX := Lib.hid hf
      have HX8 := Lib.hid h8
      have hd : (((x.length : Int) + 8) != (t.size : Int)) = false := by rw [bne_eq_false_iff_eq, size_eq]; omega
      clear hf h8 hx8
      go_enter Try.func3, Try.ntmps3
      go_wp2_with (first
      | (go_at_call 9; refine (alive_any _).mono ?_; rintro e w1 ⟨rfl, hb1⟩; have HB1 := Lib.hid hb1; clear hb1)
      | (go_at_call 10; refine (pack_laid s w1 _ _ _ (by omega)).mono ?_; rintro e w2 ⟨A2, n2, c2, rfl, hp2, hb2⟩; have hst := string_of_buf hp2; have HP2 := Lib.hid hp2; have HB2 := Lib.hid (HB1.out.trans (hb2.mono HB1.out.size)); clear hp2 hb2)
      | (go_at_call 11; refine (rpack_any s (by omega) _).mono ?_; rintro e w3 ⟨rfl, hb3⟩; have hst3 := string_of_buf (HP2.out.below hb3); have HB3 := Lib.hid (HB2.out.trans (hb3.mono HB2.out.size)); have HP3 := Lib.hid (HP2.out.below hb3); clear hb3)
      | (go_at_call 12; refine (one_laid t w3 _ _ _ (by omega) (grownCap_ge _ _ _ _) (grownCap_le_maxLen _ _ _ _ (by unfold maxLen; omega))).mono ?_; rintro e w4 ⟨hb4, h4⟩; have hb34 := hb4; have HP4 := Lib.hid (HP3.out.below hb4); have HB4 := Lib.hid (HB3.out.trans (hb4.mono HB3.out.size)); clear hb4; rcases h4 with ⟨y, A4, c4, hy, _, rfl, hp4⟩ | ⟨hno, _⟩; rotate_left; (· exact absurd HX8.out (hno x HX.out)); (obtain rfl : x = y := by rw [HX.out] at hy; injection hy); have HQ4 := Lib.hid hp4; clear hp4 hb34)
      | (go_at_call 13; rw [show (0 : Int) = ((0 : Nat) : Int) from rfl]; refine (rat_any t 0 (by omega) (Nat.zero_le _) _).mono ?_; rw [List.drop_zero]; intro e w5 h; obtain ⟨hb5, rfl⟩ := h.some_ HX.out; have hst6 := string_of_buf (HQ4.out.below hb5); have HB5 := Lib.hid (HB4.out.trans (hb5.mono HB4.out.size)); have hst5 := string_of_buf (HP4.out.below hb5); clear h))
      go_ret
      exact ⟨rfl, HB5.out⟩
    · have HX := Lib.hid hf
      have HNO := Lib.hid (show ∀ y, fst t.data.toList = some y → 8 + y.length ≠ t.data.toList.length by rw [hf]; intro y h; injection h with h; subst h; exact h8)
      have hd : (((x.length : Int) + 8) != (t.size : Int)) = true := by rw [bne_iff_ne, size_eq]; omega
      clear hf h8 hx8
      go_enter Try.func3, Try.ntmps3
      go_wp2_with (first
      | (go_at_call 9; refine (alive_any _).mono ?_; rintro e w1 ⟨rfl, hb1⟩; have HB1 := Lib.hid hb1; clear hb1)
      | (go_at_call 10; refine (pack_laid s w1 _ _ _ (by omega)).mono ?_; rintro e w2 ⟨A2, n2, c2, rfl, hp2, hb2⟩; have hst := string_of_buf hp2; have HP2 := Lib.hid hp2; have HB2 := Lib.hid (HB1.out.trans (hb2.mono HB1.out.size)); clear hp2 hb2)
      | (go_at_call 11; refine (rpack_any s (by omega) _).mono ?_; rintro e w3 ⟨rfl, hb3⟩; have hst3 := string_of_buf (HP2.out.below hb3); have HB3 := Lib.hid (HB2.out.trans (hb3.mono HB2.out.size)); have HP3 := Lib.hid (HP2.out.below hb3); clear hb3)
      | (go_at_call 12; refine (one_laid t w3 _ _ _ (by omega) (grownCap_ge _ _ _ _) (grownCap_le_maxLen _ _ _ _ (by unfold maxLen; omega))).mono ?_; rintro e w4 ⟨hb4, h4⟩; have hb34 := hb4; have HP4 := Lib.hid (HP3.out.below hb4); have HB4 := Lib.hid (HB3.out.trans (hb4.mono HB3.out.size)); clear hb4; rcases h4 with ⟨x, A4, c4, hx, h8, rfl, hp4⟩ | ⟨_, rfl⟩; (· exact absurd h8 (HNO.out x hx)); clear hb34)
      | (go_at_call 13; rw [show (0 : Int) = ((0 : Nat) : Int) from rfl]; refine (rat_any t 0 (by omega) (Nat.zero_le _) _).mono ?_; rw [List.drop_zero]; intro e w5 h; obtain ⟨hb5, rfl⟩ := h.some_ HX.out; have HB5 := Lib.hid (HB4.out.trans (hb5.mono HB4.out.size)); have hst5 := string_of_buf (HP4.out.below hb5); clear h))
      go_ret
      exact ⟨rfl, HB5.out⟩
theorem packs_walk (s t : ByteArray) (hs : s.size ≤ maxLen) (ht : t.size ≤ maxLen) (w : World) :
    Calls Try.prog 3 #[.string s, .string t] w fun e w' => e = .returned (.bool true) ∧ Below w.heap.size w w' := by
  by_cases h : 4000 < s.size ∨ 4000 < t.size
  · exact packs_big s t hs ht h w
  · exact packs_small s t (by omega) (by omega) w
end Go.Proofs.Ytcolghibbiijfaa
