/- The walk of the chapter's example. -/
import Derived.Test.YtcolghibbiijfaaFraScan
import Derived.Test.YtcolghibbiijfaaFraScanRef
import Derived.Lib.SlBytesConst
namespace Go.Proofs.Ytcolghibbiijfaa
open Go.ChangeShapes Go.WideShapes Go.ChangeAt Go.RowKit
open Go.Lib (byteCells byteCells_length byteCells_append strCells)
set_option linter.unusedVariables false

theorem frs_ab : frs (fr [97, 98] ++ [7]) = [[97, 98]] := by
  have h := frs_cat [[97, 98]] (by simp) [7]
  rw [frs_none (fst_none_short (l := [7]) (by simp))] at h
  simpa [cat] using h
set_option maxHeartbeats 4000000 in
theorem alive_any (w : World) :
    Calls Try.prog 9 #[] w fun e w' => e = .returned (.bool true) ∧ Below w.heap.size w w' := by
  obtain ⟨i0, hi, hz0, hz1, hz2⟩ := info_parts infoByte
  have HI := Lib.hid hi
  have HZ0 := Lib.hid hz0
  have HZ1 := Lib.hid hz1
  have HZ2 := Lib.hid hz2
  clear hi hz0 hz1 hz2
  have htab : ((txt [97, 98]).toList == [97, 98]) = true := by rw [Lib.toList_data]; rfl
  have HAB := Lib.hid (show [Value.int .u8 97, .int .u8 98] = byteCells [97, 98] from rfl)
  have HFO := Lib.hid (fst_own (x := [97, 98]) (by simp))
  have HFL := Lib.hid (fr_length [97, 98])
  have kc := fun (w : World) (C : Array Value) (n c : Nat) => Lib.run_convert_bytes_const (P := Try.prog) w 23 5 C n c Try.underlying23 Try.underlying5
  go_enter Try.func9, Try.ntmps9
  go_wp2_with (first
    | (go_at_call 10; refine (pack_any [97, 98] 2 2 ⟨w.heap.size, 0, none⟩ _ rfl (by omega) ?pk).mono ?_; (case pk => exact laid_four w [97, 98] [.int .u8 97, .int .u8 98] rfl _ _); rintro e w1 ⟨A1, n1, c1, rfl, hb1, hk1⟩; have hbA := (Below.refl w.heap.size w).alloc (Nat.le_refl _) (.cells #[.int .u8 97, .int .u8 98] 5 (2, 3)); have hB0 := hbA.size; have hn1 : n1 = 10 := by rw [hb1.1, fr_length]; rfl
       subst hn1; have HB1 := Lib.hid hb1; have HK1 := Lib.hid (hbA.trans (hk1.mono hB0)); have HB0 := Lib.hid hB0; clear hb1 hk1 hbA hB0)
    | (go_at_call 12; refine (one_any (fr [97, 98]) 10 c1 HB1.out.1 HB1.out.caps.1 HB1.out.caps.2.1 (by omega) A1 w1 HB1.out.bytes).mono ?_; intro e w2 hp; obtain ⟨A2, c2, rfl, hb2, hk2⟩ := hp.some_ HFO.out rfl; have HB2 := Lib.hid hb2; have HBP := Lib.hid (HB1.out.below hk2); have HK2 := Lib.hid (HK1.out.trans (hk2.mono HK1.out.size)); clear hb2 hk2 hp)
    | (at_builtin; go_loud (refine wpList_append_own_at _ rfl _ _ 23 rfl w.heap.size 5 i0 _ 1 1 Try.underlying23 HI.out HZ0.out HZ1.out HZ2.out rfl (by decide) _ 10 (byteCells (fr [97, 98])) rfl ((HBP.out.more HB0.out).alloc _).2.2 ⟨w2.heap.size, 0, none⟩ 1 1 (byteCells [7]) rfl rfl (new_cells w2 (byteCells [7]) 5) (byte_one _) (by decide) (by decide) ((HBP.out.more HB0.out).alloc _).2.1 ?_); intro v3 w3 hown hg _ _; have hbl := fun r e => (HB1.out.2.2.lt r e).2
       have HB2c := Lib.hid ((HB2.out.alloc (.cells #[.int .u8 7] 5)).apart hg hbl); have hb3 := Keep.grown ((HBP.out.more HB0.out).alloc (.cells #[.int .u8 7] 5)) hg; have HK3 := Lib.hid ((HK2.out.alloc HK2.out.size _).trans hb3.below); obtain ⟨A3, c3, rfl⟩ := own_slice hown; have HB3 := Lib.hid (show Buf w.heap.size A3 11 c3 (fr [97, 98] ++ [7]) w3 from ⟨by rw [List.length_append, HFL.out]; rfl, HK3.out.size, by rw [byteCells_append]; exact hown⟩); clear hown hg hbl hb3)
    | (go_at_call 14; refine (scan_any (fr [97, 98] ++ [7]) 11 c3 A3 w3 HB3.out.1 (by omega) HB3.out.bytes).mono ?_; rintro e w4 ⟨v, xs, rfl, hxs, hown, hit, hb4⟩; have hx1 : xs.length = 1 := by rw [← bss_length, hxs, frs_ab]; rfl
       have htt : tot (frs (fr [97, 98] ++ [7])) = 10 := by rw [frs_ab]; rfl
       rw [htt]; rw [hx1] at hown; obtain ⟨g5, c5, rfl⟩ := ownsRow_succ hown; have hst4 : (convert 23 9 (.slice A2 2 c2)).run Try.prog w4 = .ok (.string (txt [97, 98])) w4 := string_of_buf (HB2c.out.below hb4); have HK4 := Lib.hid (HK3.out.trans (hb4.mono HK3.out.size)); clear hxs hown hit hb4 hx1 htt))
  go_ret
  exact ⟨rfl, HK4.out⟩
end Go.Proofs.Ytcolghibbiijfaa
