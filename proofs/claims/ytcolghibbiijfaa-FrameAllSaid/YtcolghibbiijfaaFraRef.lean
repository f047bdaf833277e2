/- The walks of the document's own answers: sums, words, frames. -/
import Derived.Test.YtcolghibbiijfaaFraPack
import Derived.Deep.LoopGhost
namespace Go.Proofs.Ytcolghibbiijfaa
open Go.ChangeShapes Go.WideShapes Go.ChangeAt Go.RowKit
open Go.Lib (byteCells byteCells_length byteCells_append strCells)
set_option linter.unusedVariables false

theorem stp_odd {m : Nat} (h : (m : Int) % 2 = 1) : ((stp m : Nat) : Int) = ((m / 2 ^^^ 2197175160 : Nat) : Int) := by
  unfold stp; rw [if_pos (by omega)]
theorem stp_even {m : Nat} (h : (m : Int) % 2 = 0) : ((stp m : Nat) : Int) = (m : Int) / 2 := by
  unfold stp; rw [if_neg (by omega), Nat.xor_zero]; omega
theorem u64_turn (m : Nat) (h : m < 4294967296) : bits .xor .u64 ((m : Int) / 2) 2197175160 = ((m / 2 ^^^ 2197175160 : Nat) : Int) := by
  have := u64_xor_nat (m / 2) 2197175160 (by omega) (by omega)
  rw [show ((m : Int) / 2) = ((m / 2 : Nat) : Int) by omega]
  exact this
theorem u64_byte (a b : Nat) (ha : a < 4294967296) (hb : b < 256) : bits .xor .u64 (a : Int) (b : Int) = ((a ^^^ b : Nat) : Int) := u64_xor_nat a b (by omega) (by omega)
theorem u64_not (a : Nat) (ha : a < 4294967296) : bits .xor .u64 (a : Int) 4294967295 = ((not32 a : Nat) : Int) := by
  have := u64_xor_nat a 4294967295 (by omega) (by omega)
  rw [Nat.xor_comm, xor_ones32 a ha] at this
  exact this

theorem ref_of (s : ByteArray) (hs : s.size ≤ maxLen) (w : World) :
    Calls Try.prog 21 #[.string s] w fun e w' => e = .returned (.int .u32 (moreN 0 s.data.toList)) ∧ w = w' := by
  unfold maxLen at hs
  have hn := not32_lt 0
  go_enter Try.func21, Try.ntmps21
  go_wp2
  go_loop [3, 4] (fun c' i => ∃ k : Nat, k ≤ s.size ∧ i = .int .i64 k ∧ c' = .int .u64 (crcS (not32 0) (s.data.toList.take k))) (fun _ i => s.size - (intOf i).toNat)
  case atStart => exact ⟨0, Nat.zero_le _, rfl, rfl⟩
  case round =>
    obtain ⟨k, hk, rfl, rfl⟩ := hrel
    have hm := crcS_lt (not32 0) (s.data.toList.take k) hn
    by_cases hlt : k < s.size
    · have HS := Lib.hid (show crcS (not32 0) (s.data.toList.take (k + 1)) = stpN 8 (crcS (not32 0) (s.data.toList.take k) ^^^ s[k].toNat) by rw [take_snoc8 s k hlt, crcS_snoc])
      have hb : s[k].toNat < 256 := s[k].toNat_lt
      have hx := xor32_lt hm hb
      have HX := u64_byte _ _ hm hb
      go_wp2
      generalize crcS (not32 0) (s.data.toList.take k) ^^^ s[k].toNat = x at *
      go_loop [3, 5] (fun c' i => ∃ j : Nat, j ≤ 8 ∧ i = .int .i64 j ∧ c' = .int .u64 (stpN j x)) (fun _ i => 8 - (intOf i).toNat)
      case atStart => exact ⟨0, by omega, rfl, rfl⟩
      case round =>
        obtain ⟨j, hj, rfl, rfl⟩ := hrel
        have hy := stpN_lt j hx
        by_cases hl8 : j < 8
        · have hp : ((stpN j x : Nat) : Int) % 2 = 1 ∨ ((stpN j x : Nat) : Int) % 2 = 0 := by omega
          rcases hp with hp | hp
          · have HT := u64_turn _ hy
            have HO := Lib.hid (stp_odd hp)
            go_wp2
            go_round
            case rel => exact ⟨j + 1, by omega, by go_num, by rw [← HO.out]; rfl⟩
            case measure => simp [intOf]; omega
          · have HO := Lib.hid (stp_even hp)
            go_wp2
            go_round
            case rel => exact ⟨j + 1, by omega, by go_num, by rw [← HO.out]; rfl⟩
            case measure => simp [intOf]; omega
        · obtain rfl : j = 8 := by omega
          go_wp2
          go_round
          case rel => exact ⟨k + 1, by omega, by go_num, by rw [HS.out]⟩
          case measure => simp [intOf]; omega
    · have hz := Lib.hid (List.take_of_length_le (l := s.data.toList) (i := k) (by simp; omega))
      have HM := u64_not _ hm
      have hlt := not32_lt (crcS (not32 0) (s.data.toList.take k))
      go_wp2
      rw [hz.out]
      go_ret
      exact ⟨rfl, rfl⟩

theorem four_cells (n : Nat) (h : n < 4294967296) : [Value.int .u8 ((n : Int) / 16777216), .int .u8 ((n : Int) / 65536 % 256), .int .u8 ((n : Int) / 256 % 256), .int .u8 ((n : Int) % 256)] = byteCells (be4 n) := by
  simp only [byteCells, be4, List.map_cons, List.map_nil, u8n, List.cons.injEq, Value.int.injEq, true_and, and_true]
  omega
theorem laid_four (w : World) (l : List UInt8) (cells : List Value) (h : cells = byteCells l) (t : TypeId) (f : Nat × Nat) : BytesAt (w.alloc (.cells cells.toArray t f)) (w.alloc (.cells cells.toArray t f)).heap.size (some ⟨w.heap.size, 0, none⟩) l := by
  subst h
  intro j hj
  refine ⟨w.heap.size, 0, rfl, by simp, ?_⟩
  rw [Nat.zero_add, World.cell?_alloc_mark]
  simp [byteCells, List.getElem?_eq_getElem hj]
theorem four_any (n : Nat) (hn : n < 4294967296) (w : World) :
    Calls Try.prog 20 #[.int .u32 (n : Int)] w fun e w' => e = .returned (.string (txt (be4 n))) ∧ Below w.heap.size w w' := by
  have HS := Lib.hid (string_of_bytes (some ⟨w.heap.size, 0, none⟩) 4 4 (be4 n) _ rfl (laid_four w (be4 n) _ (four_cells n hn) 5 (0, 0)))
  go_enter Try.func20, Try.ntmps20
  have hst := HS.out
  go_wp2
  go_ret
  exact ⟨rfl, (Below.refl _ w).alloc (Nat.le_refl _) _⟩

theorem txt_append (a b : List UInt8) : txt a ++ txt b = txt (a ++ b) := by
  apply str_ext
  rw [txt_list, ByteArray.data_append, Array.toList_append, txt_list, txt_list]
set_option maxHeartbeats 1000000 in
theorem rpack_any (s : ByteArray) (hs : s.size ≤ 16777208) (w : World) :
    Calls Try.prog 11 #[.string s] w fun e w' => e = .returned (.tuple #[.string (txt (fr s.data.toList)), .int .i64 0]) ∧ Below w.heap.size w w' := by
  obtain ⟨F, hF⟩ : ∃ F, txt (be4 s.size) = F := ⟨_, rfl⟩
  obtain ⟨S, hS⟩ : ∃ S, moreN 0 (F ++ s).data.toList = S := ⟨_, rfl⟩
  obtain ⟨G, hG⟩ : ∃ G, txt (be4 S) = G := ⟨_, rfl⟩
  have hSl : S < 4294967296 := by rw [← hS]; exact moreN_lt _ _
  have zF : F.size = 4 := by rw [← hF, txt_size]; rfl
  have zG : G.size = 4 := by rw [← hG, txt_size]; rfl
  have HE := Lib.hid (show F ++ G ++ s = txt (fr s.data.toList) by
    apply str_ext
    rw [txt_list, ByteArray.data_append, Array.toList_append, ByteArray.data_append, Array.toList_append, ← hF, ← hG, ← hS, ← hF]
    unfold fr
    rw [txt_list, txt_list, ByteArray.data_append, Array.toList_append, txt_list, ← size_eq, List.append_assoc])
  have HF := Lib.hid hF
  have HG := Lib.hid hG
  have HS := Lib.hid hS
  have hz : (F ++ s).size = 4 + s.size := by rw [ByteArray.size_append, zF]
  have h1 : ¬ 9223372036854775807 < F.size + s.size := by omega
  have h2 : ¬ 9223372036854775807 < F.size + G.size := by omega
  have h3 : ¬ 9223372036854775807 < (F ++ G).size + s.size := by rw [ByteArray.size_append]; omega
  have HO := fun W => ref_of (F ++ s) (by rw [hz]; unfold maxLen; omega) W
  rw [hS] at HO
  have HOF := Lib.hid HO
  have hn : s.size < 4294967296 := by omega
  clear hF hG hS zF zG hz HO
  have hd : decide ((16777208 : Int) < (s.size : Int)) = false := decide_eq_false (by omega)
  go_enter Try.func11, Try.ntmps11
  go_wp2_with (first
    | (go_at_call 20; have HT := HB1; refine (four_any S hSl _).mono ?_; rw [HG.out]; rintro e w2 ⟨rfl, hb2⟩; have HB2 := Lib.hid (HB1.out.trans (hb2.mono HB1.out.size)); clear hb2)
    | (go_at_call 20; refine (four_any s.size hn _).mono ?_; rw [HF.out]; rintro e w1 ⟨rfl, hb1⟩; have HB1 := Lib.hid hb1; clear hb1)
    | (go_at_call 21; refine (HOF.out _).mono ?_; rintro e w' ⟨rfl, rfl⟩))
  rw [HE.out]
  go_ret2
  exact ⟨rfl, HB2.out⟩

/-- What stands at a place of a text. -/
def AtPost (l : List UInt8) (w : World) (e : Ending) (w' : World) : Prop :=
  Below w.heap.size w w' ∧ ((∃ x, fst l = some x ∧ e = .returned (.tuple #[.string (txt x), .bool true])) ∨ (fst l = none ∧ ∃ t, e = .returned (.tuple #[.string t, .bool false])))
theorem AtPost.none_ {l : List UInt8} {w w' : World} {e : Ending} (h : AtPost l w e w') (hf : fst l = none) : ∃ t, Below w.heap.size w w' ∧ e = .returned (.tuple #[.string t, .bool false]) := by
  obtain ⟨hb, (⟨x, h, _⟩ | ⟨_, t, h⟩)⟩ := h
  · rw [hf] at h; cases h
  · exact ⟨t, hb, h⟩
theorem AtPost.some_ {l x : List UInt8} {w w' : World} {e : Ending} (h : AtPost l w e w') (hf : fst l = some x) : Below w.heap.size w w' ∧ e = .returned (.tuple #[.string (txt x), .bool true]) := by
  obtain ⟨hb, (⟨y, h, h2⟩ | ⟨h, _⟩)⟩ := h
  · rw [hf] at h; injection h with h; subst h
    exact ⟨hb, h2⟩
  · rw [hf] at h; cases h
theorem rat_short (s : ByteArray) (o : Nat) (hs : s.size ≤ 16777208) (ho : o ≤ s.size) (h8 : s.size - o < 8) (w : World) :
    Calls Try.prog 13 #[.string s, .int .i64 (o : Int)] w (AtPost (s.data.toList.drop o) w) := by
  have HF := Lib.hid (fst_none_short (l := s.data.toList.drop o) (by rw [List.length_drop, ← size_eq]; omega))
  have h1 : decide ((o : Int) < 0) = false := decide_eq_false (by omega)
  have h2 : decide ((s.size : Int) - (o : Int) < 8) = true := decide_eq_true (by omega)
  go_enter Try.func13, Try.ntmps13
  go_wp2
  go_ret2
  exact ⟨Below.refl _ _, .inr ⟨HF.out, _, rfl⟩⟩
set_option maxHeartbeats 4000000 in
theorem rat_long (s : ByteArray) (o : Nat) (hs : s.size ≤ 16777208) (ho : o ≤ s.size) (h8 : ¬ s.size - o < 8) (w : World) :
    Calls Try.prog 13 #[.string s, .int .i64 (o : Int)] w (AtPost (s.data.toList.drop o) w) := by
  have h1 : decide ((o : Int) < 0) = false := decide_eq_false (by omega)
  have h2 : decide ((s.size : Int) - (o : Int) < 8) = false := decide_eq_false (by omega)
  have i0 : o < s.size := by omega
  have i1 : o + 1 < s.size := by omega
  have i2 : o + 2 < s.size := by omega
  have i3 : o + 3 < s.size := by omega
  have j0 : (o : Int) < (s.size : Int) := by omega
  have j1 : (o : Int) + 1 < (s.size : Int) := by omega
  have j2 : (o : Int) + 2 < (s.size : Int) := by omega
  have j3 : (o : Int) + 3 < (s.size : Int) := by omega
  have p1 : (0 : Int) ≤ (o : Int) + 1 := by omega
  have p2 : (0 : Int) ≤ (o : Int) + 2 := by omega
  have p3 : (0 : Int) ≤ (o : Int) + 3 := by omega
  have w1 : IntKind.i64.wrap ((o : Int) + 1) = (o : Int) + 1 := by rw [IntKind.wrap_i64]; omega
  have w2 : IntKind.i64.wrap ((o : Int) + 2) = (o : Int) + 2 := by rw [IntKind.wrap_i64]; omega
  have w3 : IntKind.i64.wrap ((o : Int) + 3) = (o : Int) + 3 := by rw [IntKind.wrap_i64]; omega
  have t1 : ((o : Int) + 1).toNat = o + 1 := by omega
  have t2 : ((o : Int) + 2).toNat = o + 2 := by omega
  have t3 : ((o : Int) + 3).toNat = o + 3 := by omega
  obtain ⟨n, hn⟩ : ∃ n, nb (s.data.toList.drop o) = n := ⟨_, rfl⟩
  have hnl : n < 4294967296 := by rw [← hn]; exact nb_lt _
  have HN := Lib.hid (show IntKind.u64.wrap (IntKind.u64.wrap (IntKind.u64.wrap (IntKind.u64.wrap (IntKind.u64.wrap (s[o].toNat : Int) * 16777216) + IntKind.u64.wrap (IntKind.u64.wrap (s[o + 1].toNat : Int) * 65536)) + IntKind.u64.wrap (IntKind.u64.wrap (s[o + 2].toNat : Int) * 256)) + IntKind.u64.wrap (s[o + 3].toNat : Int)) = (n : Int) by
    have b0 := s[o].toNat_lt
    have b1 := s[o + 1].toNat_lt
    have b2 := s[o + 2].toNat_lt
    have b3 := s[o + 3].toNat_lt
    have hl : ∀ j (h : o + j < s.size), (s.data.toList.drop o).getD j 0 = s[o + j] := fun j h => by
      have h' : o + j < s.data.toList.length := by rw [← size_eq]; exact h
      rw [List.getD, List.getElem?_drop, List.getElem?_eq_getElem h']
      rfl
    have hnn : n = s[o].toNat * 16777216 + s[o + 1].toNat * 65536 + s[o + 2].toNat * 256 + s[o + 3].toNat := by
      rw [← hn]
      unfold nb
      rw [hl 0 i0, hl 1 i1, hl 2 i2, hl 3 i3]
      rfl
    simp only [IntKind.wrap_u64]
    omega)
  have HNN := Lib.hid hn
  clear hn
  go_enter Try.func13, Try.ntmps13
  go_wp2
  go_quiet (fail)
  rw [HN.out]
  clear HN
  generalize s[o].toNat = x0
  generalize s[o + 1].toNat = x1
  generalize s[o + 2].toNat = x2
  generalize s[o + 3].toNat = x3
  clear p1 p2 p3 w1 w2 w3 t1 t2 t3 j0 j1 j2 j3 i0 i1 i2 i3
  have hW : IntKind.u64.wrap ((s.size : Int) - (o : Int) - 8) = ((s.size - o - 8 : Nat) : Int) := by rw [IntKind.wrap_u64]; omega
  have hll : (s.data.toList.drop o).length = s.size - o := by rw [List.length_drop, ← size_eq]
  by_cases hf : s.size - o - 8 < n
  · have HF := Lib.hid (fst_none_far (l := s.data.toList.drop o) (by omega) (by rw [HNN.out]; omega))
    go_wp2
    go_ret2
    exact ⟨below_drewN _ _, .inr ⟨HF.out, _, rfl⟩⟩
  · have hsum : o + 8 + n ≤ s.size := by omega
    have hmin : min (o + 8 + n) s.size = o + 8 + n := Nat.min_eq_left hsum
    obtain ⟨E, hE⟩ : ∃ E, s.extract (o + 8) (o + 8 + n) = E := ⟨_, rfl⟩
    obtain ⟨T, hT⟩ : ∃ T, s.extract o (o + 8 + n) = T := ⟨_, rfl⟩
    have hEl : E.data.toList = ((s.data.toList.drop o).drop 8).take n := by
      rw [← hE, Lib.extract_data, List.drop_drop, show o + 8 + n - (o + 8) = n by omega]
    have hTl : T.data.toList = (s.data.toList.drop o).take (8 + n) := by
      rw [← hT, Lib.extract_data, show o + 8 + n - o = 8 + n by omega]
    have hEs : E.size = n := by rw [size_eq, hEl, List.length_take, List.length_drop, hll]; omega
    have HFT := Lib.hid (show txt (fr E.data.toList) = T → fst (s.data.toList.drop o) = some E.data.toList from fun h => by
      have h1 : fr E.data.toList = (s.data.toList.drop o).take (8 + n) := by rw [← hTl, ← h, txt_list]
      have h2 := fst_fr (x := E.data.toList) (by rw [← size_eq]; omega) ((s.data.toList.drop o).drop (8 + n))
      rwa [h1, List.take_append_drop] at h2)
    have HFN := Lib.hid (show txt (fr E.data.toList) ≠ T → fst (s.data.toList.drop o) = none from fun h => by
      cases hx : fst (s.data.toList.drop o) with
      | none => rfl
      | some x =>
        exfalso
        have hb := fst_back hx
        rw [HNN.out] at hb
        obtain ⟨_, _, hx2, hx3, hx4⟩ := hb
        apply h
        apply str_ext
        rw [txt_list, hTl, hEl, hx3, ← hx2]
        conv => rhs; rw [hx4]
        rw [← fr_length]
        simp)
    have HE := Lib.hid hE
    have HT := Lib.hid hT
    have hE16 : E.size ≤ 16777208 := by omega
    clear hEl hTl hE hT hll
    go_wp2_with (go_at_call 11; rw [HE.out]; go_loud (refine (rpack_any E hE16 _).mono ?_); rintro e w1 ⟨rfl, hb1⟩; have HB1 := Lib.hid ((below_drewN w nq).trans hb1); clear hb1)
    go_quiet (fail)
    rw [HT.out]
    by_cases heq : txt (fr E.data.toList) = T
    · have HOK := Lib.hid (HFT.out heq)
      rw [str_eq heq]
      go_wp2
      go_ret2
      exact ⟨below_more HB1.out nq, .inl ⟨_, HOK.out, by rw [txt_data]; rfl⟩⟩
    · have HNO := Lib.hid (HFN.out heq)
      rw [str_ne heq]
      go_wp2
      go_ret2
      exact ⟨below_more HB1.out nq, .inr ⟨HNO.out, _, rfl⟩⟩
theorem rat_any (s : ByteArray) (o : Nat) (hs : s.size ≤ 16777208) (ho : o ≤ s.size) (w : World) :
    Calls Try.prog 13 #[.string s, .int .i64 (o : Int)] w (AtPost (s.data.toList.drop o) w) := by
  by_cases h8 : s.size - o < 8
  · exact rat_short s o hs ho h8 w
  · exact rat_long s o hs ho h8 w
end Go.Proofs.Ytcolghibbiijfaa
