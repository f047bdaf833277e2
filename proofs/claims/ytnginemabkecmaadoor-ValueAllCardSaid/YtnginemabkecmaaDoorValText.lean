/- The walks of reading keys: numbers and texts. -/
import Derived.Test.YtnginemabkecmaaDoorValKey
import Derived.Lib.IndexBytes
import Derived.IntWalk
namespace Go.Proofs.YtnginemabkecmaaDoor
open Go.ChangeShapes Go.WideShapes Go.ChangeAt Go.RowKit
open Go.Lib (byteCells byteCells_length byteCells_append strCells)
set_option linter.unusedVariables false

theorem take_one (s : ByteArray) (k : Nat) (h : k < s.size) : s.data.toList.take (k + 1) = s.data.toList.take k ++ [s[k]] := by
  rw [List.take_succ_eq_append_getElem (by simpa using h)]; rfl
theorem drop_one (s : ByteArray) (k : Nat) (h : k < s.size) : s.data.toList.drop k = s[k] :: s.data.toList.drop (k + 1) := by
  rw [List.drop_eq_getElem_cons (by simpa using h)]; rfl
theorem shl_or (n b : Nat) (hn : n < 72057594037927936) (hb : b < 256) : n * 256 ||| b = n * 256 + b := by
  rw [Nat.mul_comm]
  exact (Nat.two_pow_add_eq_or_of_lt (i := 8) (b := b) (by omega) n).symm

theorem extract_drop (s : ByteArray) (k : Nat) : s.extract k s.size = txt (s.data.toList.drop k) := by
  apply str_ext
  rw [Lib.extract_to_end, txt_list]
set_option maxHeartbeats 400000 in
theorem highest_any (s : ByteArray) (hs : s.size ≤ 8) (w : World) :
    Calls Tryd.prog 44 #[.string s] w fun e w' => e = .returned (.int .u64 (num s.data.toList)) ∧ w = w' := by
  go_enter Tryd.func44, Tryd.ntmps44
  go_wp2
  go_loop [3, 7] (fun v i => ∃ k : Nat, k ≤ s.size ∧ i = .int .i64 k ∧ v = .int .u64 (num (s.data.toList.take k))) (fun _ i => s.size - (intOf i).toNat)
  case atStart => exact ⟨0, Nat.zero_le _, rfl, rfl⟩
  case round =>
    obtain ⟨k, hk, rfl, rfl⟩ := hrel
    by_cases hlt : k < s.size
    · have hb : s[k].toNat < 256 := s[k].toNat_lt
      have hn : num (s.data.toList.take k) < 72057594037927936 := by
        have h1 := num_lt (s.data.toList.take k)
        have h2 : (s.data.toList.take k).length ≤ 7 := by rw [List.length_take]; omega
        have h3 : 256 ^ (s.data.toList.take k).length ≤ 256 ^ 7 := Nat.pow_le_pow_right (by omega) h2
        omega
      have HS := Lib.hid (show num (s.data.toList.take (k + 1)) = num (s.data.toList.take k) * 256 + s[k].toNat by rw [take_one s k hlt, num_snoc])
      obtain ⟨m, hm⟩ : ∃ m, num (s.data.toList.take k) = m := ⟨_, rfl⟩
      rw [hm] at hn HS ⊢
      clear hm
      have HO := Lib.hid (show bits .or .u64 ((m : Int) * 256) (s[k].toNat : Int) = ((m * 256 + s[k].toNat : Nat) : Int) by
        rw [show (m : Int) * 256 = ((m * 256 : Nat) : Int) by omega, u64_or_nat _ _ (by omega) (by omega), shl_or _ _ hn hb])
      go_wp2
      go_round
      case rel => exact ⟨k + 1, by omega, by go_num, by rw [HS.out, HO.out]⟩
      case measure => simp [intOf]; omega
    · have hz := Lib.hid (List.take_of_length_le (l := s.data.toList) (i := k) (by simp; omega))
      go_wp2
      rw [hz.out]
      go_ret
      exact ⟨rfl, rfl⟩

/-- The text whose key, less its first byte, l begins with, and what is behind. -/
def textL (l : List UInt8) : Option (V × List UInt8) :=
  match unesc l with
  | none => none
  | some p => if p.1.length ≤ 200 then some (⟨3, 0, txt p.1⟩, p.2) else none
def outV : Option (V × List UInt8) → Value
  | none => .tuple #[noV.val, .string ⟨#[]⟩, .bool false]
  | some p => .tuple #[p.1.val, .string (txt p.2), .bool true]
/-- What has been read: L, up to i. -/
def ReadTo (l : List UInt8) (i : Nat) (L : List UInt8) : Prop := unesc l = (unesc (l.drop i)).map fun p => (L ++ p.1, p.2)
theorem ReadTo.plain {l : List UInt8} {i : Nat} {L : List UInt8} {c : UInt8} (h : ReadTo l i L) (hd : l.drop i = c :: l.drop (i + 1)) (hc : c ≠ 0) : ReadTo l (i + 1) (L ++ [c]) := by
  unfold ReadTo at *
  rw [h, hd, unesc_ne hc]
  cases unesc (l.drop (i + 1)) <;> simp
theorem ReadTo.zero {l : List UInt8} {i : Nat} {L : List UInt8} (h : ReadTo l i L) (hd : l.drop i = 0 :: 255 :: l.drop (i + 2)) : ReadTo l (i + 2) (L ++ [0]) := by
  unfold ReadTo at *
  rw [h, hd, unesc_zero]
  cases unesc (l.drop (i + 2)) <;> simp
theorem ReadTo.end_ {l : List UInt8} {i : Nat} {L : List UInt8} (h : ReadTo l i L) (hd : l.drop i = 0 :: 0 :: l.drop (i + 2)) (hl : L.length ≤ 200) : textL l = some (⟨3, 0, txt L⟩, l.drop (i + 2)) := by
  unfold ReadTo at h
  rw [hd, unesc_end] at h
  simp only [Option.map_some, List.append_nil] at h
  unfold textL
  rw [h]
  simp [hl]
theorem ReadTo.bad {l : List UInt8} {i : Nat} {L : List UInt8} {d : UInt8} {r : List UInt8} (h : ReadTo l i L) (hd : l.drop i = 0 :: d :: r) (h0 : d ≠ 0) (h1 : d ≠ 255) : textL l = none := by
  unfold ReadTo at h
  rw [hd, unesc_bad h0 h1] at h
  unfold textL
  rw [h]
  rfl
theorem ReadTo.short {l : List UInt8} {i : Nat} {L : List UInt8} (h : ReadTo l i L) (hd : l.length ≤ i + 1) : textL l = none := by
  unfold ReadTo at h
  rw [unesc_short (l := l.drop i) (by rw [List.length_drop]; omega)] at h
  unfold textL
  rw [h]
  rfl
theorem ReadTo.long {l : List UInt8} {i : Nat} {L : List UInt8} (h : ReadTo l i L) (hl : 200 < L.length) : textL l = none := by
  unfold ReadTo at h
  unfold textL
  cases hu : unesc (l.drop i) with
  | none => rw [hu] at h; rw [h]; rfl
  | some p =>
    rw [hu] at h
    rw [h]
    simp only [Option.map_some]
    rw [if_neg (by rw [List.length_append]; omega)]

/-- Between two rounds. -/
def Reading (l : List UInt8) (w : World) (i : Nat) (L : List UInt8) (A : Option Addr) (n c : Nat) (wr : World) : Prop :=
  ReadTo l i L ∧ Buf (w.heap.size + 1) A n c L wr ∧ Keep (w.heap.size + 1) (w.alloc (.cells #[.int .i64 0, .int .i64 0, .string mt] 23)) wr

theorem text_agg (s : ByteArray) (w : World) :
    Calls Tryd.prog 17 #[.string s] w fun e w' => e = .returned (.agg #[.int .i64 3, .int .i64 0, .string s]) ∧ Below w.heap.size w w' := text_any s w
set_option maxHeartbeats 4000000 in
theorem text_walk (s : ByteArray) (hs : s.size ≤ 1099511627776) (w : World) :
    Calls Tryd.prog 43 #[.string s] w fun e w' => e = .returned (outV (textL s.data.toList)) ∧ Below w.heap.size w w' := by
  obtain ⟨R, hR⟩ : ∃ R, textL s.data.toList = R := ⟨_, rfl⟩
  rw [hR]
  have HR := Lib.hid hR
  clear hR
  go_enter Tryd.func43, Tryd.ntmps43
  go_wp2
  go_loopw [5, 6] (fun b i wr => ∃ (k : Nat) (L : List UInt8) (A : Option Addr) (n c : Nat), k ≤ s.size ∧ L.length ≤ k ∧ n = L.length ∧ i = .int .i64 k ∧ b = .slice A n c ∧ Hid (Reading s.data.toList w k L A n c wr)) (fun _ i _ => s.size - (intOf i).toNat)
  case atStart =>
    refine ⟨0, [], none, 0, 0, Nat.zero_le _, Nat.zero_le _, rfl, rfl, rfl, Lib.hid ⟨?_, Buf.nil _ _ (by simp), Keep.refl _ _⟩⟩
    unfold ReadTo
    simp
  case round =>
    obtain ⟨k, L, A, n, c, hk, hLk, hnL, rfl, rfl, HRd⟩ := hrel
    have HNL := Lib.hid hnL
    have hnk : n ≤ k := by omega
    clear hnL
    by_cases hlt : k + 1 < s.size
    · by_cases h2 : n ≤ 200
      · have d1 := drop_one s k (by omega)
        have d2 := drop_one s (k + 1) hlt
        have b1 : s[k].toNat < 256 := s[k].toNat_lt
        have b2 : s[k + 1].toNat < 256 := s[k + 1].toNat_lt
        by_cases hz : s[k] = 0
        · by_cases hz2 : s[k + 1] = 0
          · have e1 : ((s[k].toNat : Int) != 0) = false := by rw [hz]; rfl
            have e2 : ((s[k].toNat : Int) == 0) = true := by rw [hz]; rfl
            have e3 : ((s[k + 1].toNat : Int) == 0) = true := by rw [hz2]; rfl
            have HN := Lib.hid (HRd.out.1.end_ (by rw [d1, d2, hz, hz2]) (by rw [← HNL.out]; exact h2))
            have hcv := string_of_buf HRd.out.2.1
            have hcd := string_of_buf HRd.out.2.1.drew
            have hX : Box wr w.heap.size noV := (Box.new w noV).keep HRd.out.2.2
            have x0 := hX.k
            have x1 := hX.n
            have x2 := hX.s
            have f0 := hX.frozen 0
            have f1 := hX.frozen 1
            have f2 := hX.frozen 2
            have HBel := Lib.hid (((Below.refl w.heap.size w).alloc (Nat.le_refl _) (.cells #[.int .i64 0, .int .i64 0, .string mt] 23)).trans (HRd.out.2.2.below.mono (by omega)))
            have HX := Lib.hid hX
            have HX := Lib.hid hX
            clear hX
            clear HRd d1 d2 hz hz2
            go_wp2_with fail
            have g0 : (0 : Int) ≤ (k : Int) + 2 := by omega
            have g1 : (k : Int) + 2 ≤ (s.size : Int) := by omega
            have g2 : ((k : Int) + 2).toNat = k + 2 := by omega
            have g3 : IntKind.i64.wrap ((k : Int) + 2) = (k : Int) + 2 := IntWalk.i64_in _ (by omega)
            go_region_with (go_at_call 17; refine (text_agg (txt L) _).mono ?_; rintro e w2 ⟨rfl, hb⟩; have hX2 : Box w2 w.heap.size noV := Box.below (w := wr.drew) HX.out hb; have y0 := hX2.k; have y1 := hX2.n; have y2 := hX2.s; have z0 := hX2.frozen 0; have z1 := hX2.frozen 1; have z2 := hX2.frozen 2; have HBel2 := Lib.hid (HBel.out.drew.trans (hb.mono (Nat.le_of_lt HX.out.lt))); clear hb hX2)
            all_goals
              clear g0 g1 g2 g3
              go_wp2
              refine bodyPost_ret (v := outV (some (⟨3, 0, txt L⟩, s.data.toList.drop (k + 2)))) (by simp [results, Tryd.results43, go_sem, outV, V.val, y0, y1, y2, extract_drop]) rfl ⟨by rw [← HR.out, HN.out], ((HBel2.out.setCell (p := ⟨w.heap.size, 0, none⟩) (Nat.le_refl _) _).setCell (p := ⟨w.heap.size, 1, none⟩) (Nat.le_refl _) _).setCell (p := ⟨w.heap.size, 2, none⟩) (Nat.le_refl _) _⟩
          · have q2 : s[k + 1].toNat ≠ 0 := fun e => hz2 (UInt8.toNat_inj.1 e)
            have e1 : ((s[k].toNat : Int) != 0) = false := by rw [hz]; rfl
            have e2 : ((s[k].toNat : Int) == 0) = true := by rw [hz]; rfl
            have e3 : ((s[k + 1].toNat : Int) == 0) = false := by simpa using q2
            by_cases hz3 : s[k + 1] = 255
            · have e4 : ((s[k + 1].toNat : Int) == 255) = true := by rw [hz3]; rfl
              have HN := Lib.hid (HRd.out.1.zero (by rw [d1, d2, hz, hz3]))
              have HB := Lib.hid HRd.out.2.1
              have HK := Lib.hid HRd.out.2.2
              clear HRd d1 d2 hz hz2 hz3
              go_wp2_with (at_builtin; go_loud (refine append_bytes rfl _ _ rfl (w.heap.size + 1) A n c L rfl _ [0] 1 HB.out _ rfl (by simp) rfl [.int .u8 0] rfl (by simp; omega) ?_); intro A1 n1 c1 w1 hn1 hb1 hk1; have H1 := Lib.hid hb1; have K1 := Lib.hid (HK.out.trans hk1); clear hb1 hk1; subst hn1)
              go_roundw
              case rel => exact ⟨k + 2, L ++ [0], A1, _, c1, by omega, by simp; omega, by simp [HNL.out], by go_num, rfl, Lib.hid ⟨HN.out, H1.out, K1.out⟩⟩
              case measure => simp [intOf]; omega
            · have q3 : s[k + 1].toNat ≠ 255 := fun e => hz3 (UInt8.toNat_inj.1 e)
              have e4 : ((s[k + 1].toNat : Int) == 255) = false := by
                rw [beq_eq_false_iff_ne]
                omega
              have HN := Lib.hid (HRd.out.1.bad (by rw [d1, d2, hz]) hz2 hz3)
              have hX : Box wr w.heap.size noV := (Box.new w noV).keep HRd.out.2.2
              have x0 := hX.k
              have x1 := hX.n
              have x2 := hX.s
              have f0 := hX.frozen 0
              have f1 := hX.frozen 1
              have f2 := hX.frozen 2
              have HBel := Lib.hid (((Below.refl w.heap.size w).alloc (Nat.le_refl _) (.cells #[.int .i64 0, .int .i64 0, .string mt] 23)).trans (HRd.out.2.2.below.mono (by omega)))
              clear hX
              clear HRd d1 d2 hz hz2 hz3
              go_wp2
              exact bodyPost_ret (v := outV none) (by simp [results, Tryd.results43, go_sem, outV, noV, V.val, mt, x0, x1, x2]) rfl ⟨by rw [← HR.out, HN.out], ((HBel.out.setCell (p := ⟨w.heap.size, 0, none⟩) (Nat.le_refl _) _).setCell (p := ⟨w.heap.size, 1, none⟩) (Nat.le_refl _) _).setCell (p := ⟨w.heap.size, 2, none⟩) (Nat.le_refl _) _⟩
        · have e1 : ((s[k].toNat : Int) != 0) = true := by
            have : s[k].toNat ≠ 0 := fun e => hz (UInt8.toNat_inj.1 e)
            simpa using this
          have e2 : ((s[k].toNat : Int) == 0) = false := by
            have : s[k].toNat ≠ 0 := fun e => hz (UInt8.toNat_inj.1 e)
            simpa using this
          have HN := Lib.hid (HRd.out.1.plain d1 hz)
          have HB := Lib.hid HRd.out.2.1
          have HK := Lib.hid HRd.out.2.2
          clear HRd d1 d2
          go_wp2_with (at_builtin; go_loud (refine append_bytes rfl _ _ rfl (w.heap.size + 1) A n c L rfl _ [s[k]] 1 HB.out _ rfl (by simp) rfl [.int .u8 (s[k].toNat : Int)] rfl (by simp; omega) ?_); intro A1 n1 c1 w1 hn1 hb1 hk1; have H1 := Lib.hid hb1; have K1 := Lib.hid (HK.out.trans hk1); clear hb1 hk1; subst hn1)
          go_roundw
          case rel => exact ⟨k + 1, L ++ [s[k]], A1, _, c1, by omega, by simp; omega, by simp [HNL.out], by go_num, rfl, Lib.hid ⟨HN.out, H1.out, K1.out⟩⟩
          case measure => simp [intOf]; omega
      · have HN := Lib.hid (HRd.out.1.long (by rw [← HNL.out]; omega))
        have hX : Box wr w.heap.size noV := (Box.new w noV).keep HRd.out.2.2
        have x0 := hX.k
        have x1 := hX.n
        have x2 := hX.s
        have f0 := hX.frozen 0
        have f1 := hX.frozen 1
        have f2 := hX.frozen 2
        have HBel := Lib.hid (((Below.refl w.heap.size w).alloc (Nat.le_refl _) (.cells #[.int .i64 0, .int .i64 0, .string mt] 23)).trans (HRd.out.2.2.below.mono (by omega)))
        clear hX
        clear HRd
        go_wp2
        exact bodyPost_ret (v := outV none) (by simp [results, Tryd.results43, go_sem, outV, noV, V.val, mt, x0, x1, x2]) rfl ⟨by rw [← HR.out, HN.out], ((HBel.out.setCell (p := ⟨w.heap.size, 0, none⟩) (Nat.le_refl _) _).setCell (p := ⟨w.heap.size, 1, none⟩) (Nat.le_refl _) _).setCell (p := ⟨w.heap.size, 2, none⟩) (Nat.le_refl _) _⟩
    · have HN := Lib.hid (HRd.out.1.short (by rw [← size_eq]; omega))
      have hX : Box wr w.heap.size noV := (Box.new w noV).keep HRd.out.2.2
      have x0 := hX.k
      have x1 := hX.n
      have x2 := hX.s
      have f0 := hX.frozen 0
      have f1 := hX.frozen 1
      have f2 := hX.frozen 2
      have HBel := Lib.hid (((Below.refl w.heap.size w).alloc (Nat.le_refl _) (.cells #[.int .i64 0, .int .i64 0, .string mt] 23)).trans (HRd.out.2.2.below.mono (by omega)))
      clear hX
      clear HRd
      go_wp2
      exact bodyPost_ret (v := outV none) (by simp [results, Tryd.results43, go_sem, outV, noV, V.val, mt, x0, x1, x2]) rfl ⟨by rw [← HR.out, HN.out], ((HBel.out.setCell (p := ⟨w.heap.size, 0, none⟩) (Nat.le_refl _) _).setCell (p := ⟨w.heap.size, 1, none⟩) (Nat.le_refl _) _).setCell (p := ⟨w.heap.size, 2, none⟩) (Nat.le_refl _) _⟩
end Go.Proofs.YtnginemabkecmaaDoor
