/- The statement CrcBursts: the walk. -/
import Derived.Test.YtdinnkkgpimgdaaCrcLaws
namespace Go.Proofs.Ytdinnkkgpimgdaa
open Go.ChangeShapes Go.WideShapes Go.ChangeAt Go.RowKit
set_option linter.unusedVariables false

theorem bursts_none (s : ByteArray) (hs : s.size ≤ maxLen) (at_ bit turn : Int) (h : 4000 < s.size ∨ s.size = 0 ∨ turn = 0) (w : World) :
    Calls Try.prog 5 #[.string s, .int .u16 at_, .int .u8 bit, .int .u32 turn] w fun e w' => e = .returned (.bool true) ∧ Below w.heap.size w w' := by
  have h0 : moreN 0 [] = 0 := rfl
  unfold maxLen at hs
  by_cases h1 : 4000 < s.size
  · clear h
    go_enter Try.func5, Try.ntmps5
    go_wp2_with ((first | (go_at_call 7; refine (alive_any _).mono ?_; rintro e w' ⟨rfl, rfl⟩) | (go_at_call 9; refine (of_str _ (by unfold maxLen; decide) _).mono ?_; rintro e w' ⟨rfl, rfl⟩)))
    go_ret
    exact ⟨rfl, Below.refl _ _⟩
  · by_cases h2 : s.size = 0
    · clear h
      have H2 := Lib.hid h2
      have h3 : (s.size : Int) = 0 := by omega
      clear h2
      go_enter Try.func5, Try.ntmps5
      go_wp2_with ((first | (go_at_call 7; refine (alive_any _).mono ?_; rintro e w' ⟨rfl, rfl⟩) | (go_at_call 9; refine (of_str _ (by unfold maxLen; decide) _).mono ?_; rintro e w' ⟨rfl, rfl⟩)))
      go_ret
      exact ⟨rfl, Below.refl _ _⟩
    · obtain rfl : turn = 0 := by omega
      clear h
      go_enter Try.func5, Try.ntmps5
      go_wp2_with ((first | (go_at_call 7; refine (alive_any _).mono ?_; rintro e w' ⟨rfl, rfl⟩) | (go_at_call 9; refine (of_str _ (by unfold maxLen; decide) _).mono ?_; rintro e w' ⟨rfl, rfl⟩)))
      go_ret
      exact ⟨rfl, Below.refl _ _⟩

/-- What the loop has reached behind k rounds: the bytes L lie at B, and they differ from the text's by the word's first k bytes. -/
structure Turned (s : ByteArray) (first word k : Nat) (L : List UInt8) (T : Bool) (B : Nat) (w0 wr : World) : Prop where
  len : L.length = s.size
  diff : leN L ^^^ leN s.data.toList = 2 ^ (8 * first) * (word % 2 ^ (8 * k))
  turned : T = decide (word % 2 ^ (8 * k) ≠ 0)
  cells : BytesAt wr B 0 L
  free : ∀ j, j < L.length → wr.frozen? ⟨B, j, none⟩ = false
  below : Below B w0 wr

theorem word_cast (turn bit : Nat) : ((turn * 2 ^ (bit % 8) : Nat) : Int) = (turn : Int) * 2 ^ (bit % 8) := by
  rw [Int.natCast_mul, Int.natCast_pow]; rfl
theorem word_lt (turn bit : Nat) (h : turn < 4294967296) : turn * 2 ^ (bit % 8) < 549755813888 := by
  have hp : 2 ^ (bit % 8) ≤ 2 ^ 7 := Nat.pow_le_pow_right (by omega) (by omega)
  calc turn * 2 ^ (bit % 8) ≤ turn * 2 ^ 7 := Nat.mul_le_mul_left turn hp
    _ < 549755813888 := by omega
theorem bytesRow_size (s : ByteArray) (cap : Nat) : s.size ≤ (bytesRow s cap).size := by unfold bytesRow; simp
theorem turned_start (s : ByteArray) (first word : Nat) (w : World) (cap : Nat) (t : TypeId) (fr : Nat × Nat) (h : s.size ≤ fr.1) :
    Turned s first word 0 s.data.toList false w.heap.size w (w.alloc (.cells (bytesRow s cap) t fr)).drew where
  len := (size_list s).symm
  diff := by rw [Nat.xor_self]; simp [Nat.mod_one]
  turned := by simp [Nat.mod_one]
  cells := fun j hj => (bytes_laid s w cap t fr w.heap.size rfl j hj)
  free := fun j hj => by
    have hf : (w.alloc (.cells (bytesRow s cap) t fr)).frozen? ⟨w.heap.size, j, none⟩ = false := by
      obtain ⟨lo, hi⟩ := fr
      rw [World.frozen?_alloc_mark]
      have : ¬ lo ≤ j := by rw [← size_list] at hj; simp at h; omega
      simp [this]
    exact hf
  below := ((Below.refl _ _).alloc (Nat.le_refl _) _).drew
theorem diff_next (f k a z : Nat) (ha : a < 2 ^ (8 * k)) : 2 ^ (8 * (f + k)) * z ^^^ 2 ^ (8 * f) * a = 2 ^ (8 * f) * (a + 2 ^ (8 * k) * z) := by
  have e : 2 ^ (8 * (f + k)) * z = 2 ^ (8 * f) * (2 ^ (8 * k) * z) := by rw [Nat.mul_add, Nat.pow_add, Nat.mul_assoc]
  have hl : 2 ^ (8 * f) * a < 2 ^ (8 * (f + k)) := by rw [Nat.mul_add 8, Nat.pow_add]; exact Nat.mul_lt_mul_of_pos_left ha (Nat.two_pow_pos _)
  have h := add_xor _ z _ hl
  rw [Nat.mul_add (2 ^ (8 * f)), ← e, h, Nat.xor_comm]
theorem turned_next {s : ByteArray} {first word k : Nat} {L : List UInt8} {T : Bool} {B : Nat} {w0 wr : World} (h : Turned s first word k L T B w0 wr) (x : UInt8) (hx : x.toNat = word / 2 ^ (8 * k) % 256) (hf : first + k < s.size) :
    Turned s first word (k + 1) (L.set (first + k) (L.getD (first + k) 0 ^^^ x)) (T || !(x == 0)) B w0 (wr.setCell ⟨B, first + k, none⟩ (.int .u8 (L.getD (first + k) 0 ^^^ x).toNat)) where
  len := by rw [List.length_set]; exact h.len
  diff := by
    have h1 := leN_set L (first + k) x (by rw [h.len]; exact hf)
    have h2 : leN (L.set (first + k) (L.getD (first + k) 0 ^^^ x)) ^^^ leN s.data.toList = (leN (L.set (first + k) (L.getD (first + k) 0 ^^^ x)) ^^^ leN L) ^^^ (leN L ^^^ leN s.data.toList) := by
      rw [Nat.xor_assoc, ← Nat.xor_assoc (leN L), Nat.xor_self, Nat.zero_xor]
    rw [h2, h1, h.diff, word_next, hx]
    exact diff_next first k _ _ (Nat.mod_lt _ (Nat.two_pow_pos _))
  turned := by
    rw [h.turned, word_next, ← hx]
    have a : 0 < 2 ^ (8 * k) := Nat.two_pow_pos _
    have e : (x == 0) = decide (x.toNat = 0) := by
      by_cases hx0 : x = 0
      · subst hx0; rfl
      · have : x.toNat ≠ 0 := fun c => hx0 (UInt8.toNat_inj.1 c)
        simp [hx0, this]
    rw [e]
    by_cases p : word % 2 ^ (8 * k) = 0 <;> by_cases q : x.toNat = 0
    · simp [p, q]
    · have : 2 ^ (8 * k) * x.toNat ≠ 0 := Nat.mul_ne_zero (by omega) q
      simp [p, q, this]
    · simp [p, q]
    · simp [p]
  cells := by
    intro j hj
    rw [List.length_set] at hj
    rw [Nat.zero_add]
    have hold := h.cells j hj
    rw [Nat.zero_add] at hold
    by_cases e : first + k = j
    · subst e
      rw [World.cell?_setCell_same _ _ _ hold]
      simp [List.getD, hj]
    · rw [World.cell?_setCell_other _ _ _ _ (by simp), hold]
      simp [List.getD, e]
  free := by
    intro j hj
    rw [List.length_set] at hj
    rw [World.frozen?_setCell]
    exact h.free j hj
  below := h.below.setCell (Nat.le_refl _) _

theorem byte_of_word (word k : Nat) (x : UInt8) (hx : x.toNat = word / 2 ^ (8 * k) % 256) : (word : Int) / 2 ^ (8 * k) % 256 = (x.toNat : Int) := by
  rw [hx, Int.natCast_emod, Int.natCast_ediv, Int.natCast_pow]; rfl
theorem byte_xor (y x : UInt8) : bits .xor .u8 (y.toNat : Int) (x.toNat : Int) = ((y ^^^ x).toNat : Int) := by
  rw [u8_xor_nat _ _ y.toNat_lt x.toNat_lt, UInt8.toNat_xor]
theorem byte_nought (x : UInt8) : ((x.toNat : Int) != 0) = !(x == 0) := by
  by_cases h : x = 0
  · subst h; rfl
  · have : x.toNat ≠ 0 := fun c => h (UInt8.toNat_inj.1 c)
    have h2 : (x.toNat : Int) ≠ 0 := by omega
    rw [show ((x.toNat : Int) != 0) = true from bne_iff_ne.2 h2, show (x == 0) = false from beq_eq_false_iff_ne.2 h]; rfl
theorem turned_end (turn bit : Nat) (hb : bit < 8) (ht : turn < 4294967296) (h0 : 0 < turn) {s : ByteArray} {first word k : Nat} {L : List UInt8} {T : Bool} {B : Nat} {w0 wr : World} (hw : word = turn * 2 ^ bit)
    (h : Turned s first word k L T B w0 wr) (hk : k ≤ 5) (hf : first + k ≤ s.size) : (((moreN 0 L : Nat) : Int) != ((moreN 0 s.data.toList : Nat) : Int)) = T := by
  have h1 := moreN_same 0 L s.data.toList (by rw [h.len, size_list])
  rw [h.diff, hw, burst_zero _ _ _ _ _ hb ht (by omega) (by rw [← size_list]; exact hf) hk] at h1
  rw [h.turned, hw]
  by_cases e : turn * 2 ^ bit % 2 ^ (8 * k) = 0
  · rw [h1.2 e]; simp [e]
  · have : moreN 0 L ≠ moreN 0 s.data.toList := fun c => e (h1.1 c)
    have h2 : ((moreN 0 L : Nat) : Int) ≠ ((moreN 0 s.data.toList : Nat) : Int) := by omega
    simp [e, h2]
theorem bursts_some (s : ByteArray) (hs : s.size ≤ maxLen) (at_ bit turn : Nat) (hat : at_ < 65536) (hbit : bit < 256) (hturn : turn < 4294967296) (h1 : s.size ≤ 4000) (h2 : 0 < s.size) (h3 : 0 < turn) (w : World) :
    Calls Try.prog 5 #[.string s, .int .u16 at_, .int .u8 bit, .int .u32 turn] w fun e w' => e = .returned (.bool true) ∧ Below w.heap.size w w' := by
  have hcv := fun W => run_bytes_of_string (P := Try.prog) W 9 26 5 s Try.underlying9 Try.underlying26 Try.underlying5
  unfold maxLen at hs
  obtain ⟨word, hword⟩ : ∃ word : Nat, word = turn * 2 ^ (bit % 8) := ⟨_, rfl⟩
  obtain ⟨first, hfirst⟩ : ∃ first : Nat, first = at_ % s.size := ⟨_, rfl⟩
  have hwl : word < 549755813888 := by rw [hword]; exact word_lt turn bit hturn
  have hfl : first < s.size := by rw [hfirst]; exact Nat.mod_lt _ h2
  have HW := Lib.hid (show IntKind.u64.wrap ((turn : Int) * 2 ^ (bit % 8)) = (word : Int) by
    rw [hword, ← word_cast, IntWalk.u64_in _ (by rw [← hword]; omega)])
  have HF := Lib.hid (show (at_ : Int) % (s.size : Int) = (first : Int) by rw [hfirst]; omega)
  have HWd := Lib.hid hword
  have HFd := Lib.hid hfirst
  clear hword hfirst
  go_enter Try.func5, Try.ntmps5
  have g1 : decide (4000 < (s.size : Int)) = false := by simp; omega
  have g2 : ((s.size : Int) == 0) = false := beq_eq_false_iff_ne.2 (by omega)
  have g3 : ((turn : Int) == 0) = false := beq_eq_false_iff_ne.2 (by omega)
  go_wp2_with (go_at_call 7; refine (alive_any _).mono ?_; rintro e w' ⟨rfl, rfl⟩)
  rw [HW.out, HF.out]
  clear hcv g1 g2 g3
  go_loopw [12, 13] (fun T i wr => ∃ (k : Nat) (Tb : Bool) (L : List UInt8), k ≤ 5 ∧ first + k ≤ s.size ∧ i = .int .i64 (k : Int) ∧ T = .bool Tb ∧ Hid (Turned s first word k L Tb w.heap.size w wr)) (fun _ i _ => 5 - (intOf i).toNat)
  case atStart => exact ⟨0, false, s.data.toList, by omega, by omega, rfl, rfl, Lib.hid (turned_start s first word w _ _ _ (bytesRow_size s _))⟩
  case round =>
    obtain ⟨k, Tb, L, hk, hf, rfl, rfl, HT⟩ := hrel
    have hlen := HT.out.len
    by_cases hlt : k < 5 ∧ first + k < s.size
    · obtain ⟨hk5, hfk⟩ := hlt
      have hcell := HT.out.cells (first + k) (by omega)
      have hfree := HT.out.free (first + k) (by omega)
      rw [Nat.zero_add] at hcell
      obtain ⟨x, hx⟩ : ∃ x : UInt8, x.toNat = word / 2 ^ (8 * k) % 256 := ⟨UInt8.ofNat (word / 2 ^ (8 * k)), by simp⟩
      have HN := Lib.hid (turned_next HT.out x hx hfk)
      have HX := Lib.hid (byte_of_word word k x hx)
      have HY := Lib.hid (byte_xor (L.getD (first + k) 0) x)
      have HZ := Lib.hid (byte_nought x)
      clear hx
      generalize L.getD (first + k) 0 = y at *
      cases Tb
      all_goals
        go_wp2
        first | rw [HX.out, HY.out, HZ.out] | rw [HX.out, HY.out]
        go_roundw
        case rel => exact ⟨k + 1, _, _, by omega, by omega, by go_num, rfl, HN⟩
        case measure => simp [intOf]; omega
    · have HE := Lib.hid (turned_end turn (bit % 8) (by omega) hturn h3 HWd.out HT.out hk hf)
      have HB := Lib.hid HT.out.cells
      have HL := Lib.hid HT.out.len
      have hbel := HT.out.below
      clear HT
      by_cases hk5 : k < 5
      · have hno : ¬ first + k < s.size := fun h => hlt ⟨hk5, h⟩
        clear hlt
        go_wp2_with ((first | (go_at_call 10; refine (of_bytes L _ HL.out.symm (by unfold maxLen; omega) _ 0 _ _ HB.out).mono ?_; rintro e w' ⟨rfl, rfl⟩) | (go_at_call 9; refine (of_str s hs _).mono ?_; rintro e w' ⟨rfl, rfl⟩)))
        rw [HE.out]
        go_ret
        exact ⟨by simp, hbel⟩
      · clear hlt
        go_wp2_with ((first | (go_at_call 10; refine (of_bytes L _ HL.out.symm (by unfold maxLen; omega) _ 0 _ _ HB.out).mono ?_; rintro e w' ⟨rfl, rfl⟩) | (go_at_call 9; refine (of_str s hs _).mono ?_; rintro e w' ⟨rfl, rfl⟩)))
        rw [HE.out]
        go_ret
        exact ⟨by simp, hbel⟩
end Go.Proofs.Ytdinnkkgpimgdaa
