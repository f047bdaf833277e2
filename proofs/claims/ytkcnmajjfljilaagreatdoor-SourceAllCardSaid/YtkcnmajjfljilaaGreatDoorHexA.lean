/- What a seat needs of several texts. -/
import Derived.Test.YtkcnmajjfljilaaGreatDoorMem
import Derived.Laws.BitsAllLaws
import Derived.Test.YtkcnmajjfljilaaGreatDoorPlShelf
/- From HexA. -/
namespace Go.Proofs.YtkcnmajjfljilaaGreatDoor
set_option linter.unusedVariables false
/-- A digit's letter. -/
def hd (d : Nat) : UInt8 := UInt8.ofNat (if d < 10 then 48 + d else 87 + d)
/-- The k low digits of u. -/
def lowd : Nat → Nat → List UInt8
  | 0, _ => []
  | k + 1, u => hd (u / 16 ^ k % 16) :: lowd k u
theorem lowd_length (k u : Nat) : (lowd k u).length = k := by
  induction k with
  | zero => rfl
  | succ k ih => simp [lowd, ih]
theorem hd_nat (d : Nat) (h : d < 16) : (hd d).toNat = if d < 10 then 48 + d else 87 + d := by
  unfold hd
  split <;> (simp; omega)
/-- As many of them as one likes: those above are noughts. -/
theorem lowd_pad (m u : Nat) (h : u < 16 ^ m) (n : Nat) : lowd (n + m) u = List.replicate n 48 ++ lowd m u := by
  induction n with
  | zero => simp
  | succ n ih =>
    have hp : 16 ^ m ≤ 16 ^ (n + m) := Nat.pow_le_pow_right (by omega) (by omega)
    have h0 : u / 16 ^ (n + m) = 0 := Nat.div_eq_of_lt (by omega)
    rw [show n + 1 + m = (n + m) + 1 by omega, lowd, ih, h0, List.replicate_succ]
    rfl
/-- The digits of an integer of 64 bits. -/
def hexN (n : Int) : Nat := (n % 18446744073709551616).toNat
def hexL (n : Int) : List UInt8 := lowd 16 (hexN n)
theorem hexN_lt (n : Int) : hexN n < 18446744073709551616 := by unfold hexN; omega
theorem hexN_int (n : Int) : IntKind.u64.wrap n = ((hexN n : Nat) : Int) := by rw [IntKind.wrap_u64]; unfold hexN; omega
theorem hexL_length (n : Int) : (hexL n).length = 16 := lowd_length _ _
theorem u64_and15 (u : Nat) (h : u < 18446744073709551616) : bits .and .u64 (u : Int) 15 = ((u % 16 : Nat) : Int) := by
  have e : (u &&& 15) = u % 16 := Nat.and_two_pow_sub_one_eq_mod u 4
  have := Go.u64_and_nat u 15 h (by omega)
  rw [e] at this
  exact this
/-- The letters of the digits, as the library has them. -/
abbrev letters : ByteArray := ⟨#[48, 49, 50, 51, 52, 53, 54, 55, 56, 57, 97, 98, 99, 100, 101, 102, 103, 104, 105, 106, 107, 108, 109, 110, 111, 112, 113, 114, 115, 116, 117, 118, 119, 120, 121, 122]⟩
theorem letters_at (d : Nat) (h : d < 16) : letters.data.toList[d]? = some (hd d) := by
  have : ∀ d : Fin 16, letters.data.toList[d.1]? = some (hd d.1) := by decide
  exact this ⟨d, h⟩
theorem letters_get (d : Nat) (h : d < 16) (h2 : d < letters.size := by (show _ < 36; omega)) : letters[d] = hd d := by
  have := letters_at d h
  have e : letters.data.toList[d]? = some letters[d] := by
    rw [List.getElem?_eq_getElem (show d < 36 from h2)]
    simp
    rfl
  rw [e] at this
  exact Option.some.inj this
end Go.Proofs.YtkcnmajjfljilaaGreatDoor
namespace Go.Proofs.YtkcnmajjfljilaaGreatDoor
open Go.ChangeShapes Go.WideShapes Go.ChangeAt Go.RowKit
open Go.Lib (byteCells byteCells_length byteCells_append strCells)
set_option linter.unusedVariables false
/-- The table of the library's lowest set bits has what the one call asks of it. -/
def Tab (B : Nat) (w : World) : Prop := 4 < B ∧ w.cell? ⟨4, 15, none⟩ = some (.int .u8 4)
theorem Tab.below {B : Nat} {w w' : World} (h : Tab B w) (hb : Below B w w') : Tab B w' := ⟨h.1, (hb.cell (p := ⟨4, 15, none⟩) h.1).trans h.2⟩
set_option maxHeartbeats 1000000 in
theorem zeros_any (w : World) {B : Nat} (h : Tab B w) : Calls Tryz.prog 150 #[.int .u64 16] w fun e w' => e = .returned (.int .i64 4) ∧ w = w' := by
  have h5 := h.2
  have e1 : IntKind.u64.wrap (-16) = 18446744073709551600 := rfl
  have e2 : bits .and .u64 16 18446744073709551600 = 16 := by decide
  have e3 : IntKind.u64.wrap (16 * 285870213051353865) = 4573923408821661840 := rfl
  clear h
  go_enter Tryz.func150, Tryz.ntmps150
  go_wp2
  go_ret
  exact ⟨rfl, rfl⟩
set_option maxHeartbeats 1000000 in
theorem two_any (w : World) : Calls Tryz.prog 149 #[.int .i64 16] w fun e w' => e = .returned (.bool true) ∧ w = w' := by
  have e1 : bits .and .i64 16 15 = 0 := by decide
  go_enter Tryz.func149, Tryz.ntmps149
  go_wp2
  go_ret
  exact ⟨rfl, rfl⟩
/-- The digits that lie in the array's end; nothing else of what there was has turned. -/
structure Digs (q k u : Nat) (w wr : World) : Prop where
  cells : ∀ j, j < 65 → ∃ c : Int, wr.cell? ⟨q, j, none⟩ = some (.int .u8 c)
  digs : ∀ j, (h : j < k) → wr.cell? ⟨q, 65 - k + j, none⟩ = some (.int .u8 (((lowd k u)[j]'(by rw [lowd_length]; exact h)).toNat : Int))
  free : ∀ j, wr.frozen? ⟨q, j, none⟩ = false
  below : Below w.heap.size w wr
  size : q < wr.heap.size
theorem Digs.next {q k u : Nat} {w wr : World} (h : Digs q k u w wr) (hq : w.heap.size ≤ q) (hk : k < 65) : Digs q (k + 1) u w (wr.setCell ⟨q, 64 - k, none⟩ (.int .u8 ((hd (u / 16 ^ k % 16)).toNat : Int))) where
  cells := fun j hj => by
    obtain ⟨c, hc⟩ := h.cells j hj
    by_cases e : 64 - k = j
    · subst e; exact ⟨_, World.cell?_setCell_same _ _ _ hc⟩
    · exact ⟨c, by rw [World.cell?_setCell_other _ _ _ _ (by intro e2; injection e2; omega), hc]⟩
  digs := fun j hj => by
    obtain ⟨c, hc⟩ := h.cells (64 - k) (by omega)
    cases j with
    | zero =>
      rw [show 65 - (k + 1) + 0 = 64 - k by omega]
      exact World.cell?_setCell_same _ _ _ hc
    | succ j =>
      rw [show 65 - (k + 1) + (j + 1) = 65 - k + j by omega, World.cell?_setCell_other _ _ _ _ (by intro e; injection e; omega)]
      exact h.digs j (by omega)
  free := fun j => by rw [World.frozen?_setCell]; exact h.free j
  below := h.below.setCell (p := ⟨q, 64 - k, none⟩) hq _
  size := by simpa using h.size
theorem digs_new (w : World) (u : Nat) (t : TypeId) : Digs w.heap.size 0 u w (w.alloc (.cells (Array.replicate 65 (.int .u8 0)) t)) where
  cells := fun j hj => ⟨0, by
    have := World.cell?_alloc_mark w (Array.replicate 65 (.int .u8 0)) t (0, 0) j
    rw [this]; simp [hj]⟩
  digs := fun j hj => absurd hj (by omega)
  free := fun j => World.frozen?_alloc_at _ _ _ j rfl
  below := (Below.refl _ w).alloc (Nat.le_refl _) _
  size := by simp
set_option maxHeartbeats 2000000 in
set_option maxRecDepth 20000 in
theorem bits_any (u : Nat) (hu : u < 18446744073709551616) (w : World) {B : Nat} (hT : Tab B w) (hB : B ≤ w.heap.size) :
    Calls Tryz.prog 95 #[.slice none 0 0, .int .u64 (u : Int), .int .i64 16, .bool false, .bool false] w fun e w' =>
      ∃ m, 1 ≤ m ∧ m ≤ 16 ∧ u < 16 ^ m ∧ e = .returned (.tuple #[.slice none 0 0, .string (txt (lowd m u))]) ∧ Below w.heap.size w w' := by
  have HT := Lib.hid (fun o => zeros_any (w.alloc o) (hT.below ((Below.refl w.heap.size w).alloc (Nat.le_refl _) o |>.mono hB)))
  go_enter Tryz.func95, Tryz.ntmps95
  go_wp2_with (first
    | (go_at_call 149; refine (two_any _).mono ?_; rintro e w1 ⟨rfl, rfl⟩)
    | (go_at_call 150; refine (HT.out _).mono ?_; rintro e w1 ⟨rfl, rfl⟩))
  go_loopw [1, 13] (fun uv i wr => ∃ k : Nat, k ≤ 15 ∧ uv = .int .u64 ((u / 16 ^ k : Nat) : Int) ∧ i = .int .i64 ((65 - k : Nat) : Int) ∧ Hid (Digs w.heap.size k u w wr)) (fun uv _ _ => (intOf uv).toNat)
  case atStart => exact ⟨0, by omega, by simp, rfl, Lib.hid (digs_new w u _)⟩
  case round =>
    obtain ⟨k, hk, rfl, rfl, HD⟩ := hrel
    obtain ⟨v, hv⟩ : ∃ v, u / 16 ^ k = v := ⟨_, rfl⟩
    have hv64 : v < 18446744073709551616 := by rw [← hv]; exact Nat.lt_of_le_of_lt (Nat.div_le_self _ _) hu
    obtain ⟨p, hp⟩ : ∃ p, 65 - k = p + 1 := ⟨64 - k, by omega⟩
    have HN := Lib.hid (HD.out.next (Nat.le_refl _) (by omega))
    rw [show 64 - k = p by omega, hv] at HN
    obtain ⟨c, hc⟩ := HD.out.cells p (by omega)
    have hf := HD.out.free p
    have HS := Lib.hid (show u / 16 ^ (k + 1) = v / 16 by rw [Nat.pow_succ, ← Nat.div_div_eq_div_mul, hv])
    have ha := u64_and15 v hv64
    have HK := Lib.hid hk
    have hp65 : p < 65 := by omega
    rw [hv, hp]
    have HV := Lib.hid hv
    have HP := Lib.hid hp
    clear hv hp hk
    by_cases hge : 16 ≤ v
    · have HG := Lib.hid hge
      go_wp2
      refine ⟨⟨k + 1, ?_, ?_, ?_, Lib.hid ?_⟩, ?_⟩
      · have h1 := HV.out
        have := HK.out
        have h2 : ¬ k = 15 := fun e => by
          subst e
          have h3 : u / 16 ^ 15 < 16 := Nat.div_lt_of_lt_mul (by omega)
          omega
        omega
      · rw [HS.out]; congr 1
      · have := HP.out; congr 1; omega
      · have := letters_get (v % 16) (Nat.mod_lt _ (by omega))
        exact this ▸ HN.out
      · simp [intOf]; omega
    · have HG := Lib.hid hge
      have hv16 : v < 36 := by omega
      have hsl : ∀ W, (Instr.sliceAt 202 (.pointer (some ⟨w.heap.size, 0, none⟩)) (some (.int .i64 (p : Int))) none none).run Tryz.prog W = .ok (.slice (some ⟨w.heap.size, p, none⟩) (65 - p) (65 - p)) W := fun W => by
        have h := run_sliceAt_array_l (P := Tryz.prog) W 202 ⟨w.heap.size, 0, none⟩ (by kernel_rfl) .i64 (p : Int) (by omega) (by rw [show Tryz.prog.arrayLen 202 = 65 by kernel_rfl]; omega)
        rw [h, show Tryz.prog.arrayLen 202 = 65 by kernel_rfl, show Tryz.prog.elem 202 = 5 by kernel_rfl]
        have hs : (sizeOf 5).run Tryz.prog W = .ok 1 W := Tryz.sizeOf5 W
        rw [hs]
        simp only [Result.andThen, slicedAt, Int.toNat_natCast]
        rw [if_neg (by omega), add_at]
        simp
      have hN := HN.out
      rw [Nat.mod_eq_of_lt (show v < 16 by omega), ← letters_get v (by omega) hv16] at hN
      have HEND := Lib.hid hN.below
      have hst : (convert 30 9 (.slice (some ⟨w.heap.size, p, none⟩) (65 - p) (65 - p))).run Tryz.prog (wr.setCell ⟨w.heap.size, p, none⟩ (.int .u8 ((letters[v]'hv16).toNat : Int))) = .ok (.string (txt (lowd (k + 1) u))) (wr.setCell ⟨w.heap.size, p, none⟩ (.int .u8 ((letters[v]'hv16).toNat : Int))) :=
        string_of_bytes (B := w.heap.size + 1) _ _ _ _ _ (by rw [lowd_length]; have := HP.out; have := HK.out; omega) (fun j hj => ⟨w.heap.size, p, rfl, Nat.lt_succ_self _, by
          have := hN.digs j (by rw [lowd_length] at hj; exact hj)
          rw [show 65 - (k + 1) = p by have := HP.out; omega] at this
          exact this⟩)
      have HM := Lib.hid (show u < 16 ^ (k + 1) by
        have h1 := HV.out
        have h3 : u < 16 * 16 ^ k := Nat.lt_mul_of_div_lt (by omega) (Nat.pow_pos (by omega))
        rw [Nat.pow_succ]; omega)
      clear hN
      go_wp2
      go_ret2
      exact ⟨k + 1, by omega, by have := HK.out; omega, HM.out, rfl, HEND.out⟩
end Go.Proofs.YtkcnmajjfljilaaGreatDoor
namespace Go.Proofs.YtkcnmajjfljilaaGreatDoor
open Go.ChangeShapes Go.WideShapes Go.ChangeAt Go.RowKit
open Go.Lib (byteCells byteCells_length byteCells_append strCells)
set_option linter.unusedVariables false
theorem Below.al0 {B : Nat} {a w : World} (h : Below B a w) (hB : B ≤ a.heap.size) (o : Obj) : Below B a (w.alloc o) := h.alloc (Nat.le_trans hB h.size) o
def FmtPost (u : Nat) (w : World) (e : Ending) (w' : World) : Prop := ∃ m, 1 ≤ m ∧ m ≤ 16 ∧ u < 16 ^ m ∧ e = .returned (.string (txt (lowd m u))) ∧ Below w.heap.size w w'
theorem iformat_any (u : Nat) (hu : u < 18446744073709551616) (w : World) {B : Nat} (hT : Tab B w) (hB : B ≤ w.heap.size) :
    Calls Tryz.prog 153 #[.int .u64 (u : Int), .int .i64 16] w (FmtPost u w) := by
  have H := Lib.hid (bits_any u hu w hT hB)
  go_enter Tryz.func153, Tryz.ntmps153
  go_wp2_with (go_at_call 95; refine H.out.mono ?_; rintro e w1 ⟨m, h1, h2, h3, rfl, h4⟩; have HM := Lib.hid (And.intro h1 (And.intro h2 h3)); have HB := Lib.hid h4; clear h1 h2 h3 h4)
  go_ret
  exact ⟨m, HM.out.1, HM.out.2.1, HM.out.2.2, rfl, HB.out⟩
theorem format_any (u : Nat) (hu : u < 18446744073709551616) (w : World) {B : Nat} (hT : Tab B w) (hB : B ≤ w.heap.size) :
    Calls Tryz.prog 104 #[.int .u64 (u : Int), .int .i64 16] w (FmtPost u w) := by
  have H := Lib.hid (iformat_any u hu w hT hB)
  go_enter Tryz.func104, Tryz.ntmps104
  go_wp2_with (go_at_call 153; refine H.out.mono ?_; rintro e w1 ⟨m, h1, h2, h3, rfl, h4⟩; have HM := Lib.hid (And.intro h1 (And.intro h2 h3)); have HB := Lib.hid h4; clear h1 h2 h3 h4)
  go_ret
  exact ⟨m, HM.out.1, HM.out.2.1, HM.out.2.2, rfl, HB.out⟩
theorem repeat_one (n : Nat) : Lib.repeatL [48] n = List.replicate n (48 : UInt8) := by
  induction n with
  | zero => rfl
  | succ n ih => rw [Lib.repeatL, ih, List.replicate_succ]; rfl
theorem repeat_nought (n : Nat) (c : Int) (hc : c = (n : Int)) (w : World) (hn : n ≤ 16) : Calls Tryz.prog 105 #[.string ⟨#[48]⟩, .int .i64 c] w fun e w' => e = .returned (.string (txt (List.replicate n 48))) ∧ Below w.heap.size w w' := by
  subst hc
  have h := Tryz.strings_Repeat ⟨#[48]⟩ n w (by omega) (by show 1 * n ≤ _; omega)
  rw [show (⟨#[48]⟩ : ByteArray).data.toList = [48] from rfl, repeat_one] at h
  exact h
theorem txt_append (a b : List UInt8) : txt a ++ txt b = txt (a ++ b) := by
  apply str_ext
  rw [ByteArray.data_append]
  simp [txt]
set_option maxHeartbeats 1000000 in
theorem hex_any (n : Int) (hn : in64 n) (w : World) {B : Nat} (hT : Tab B w) (hB : B ≤ w.heap.size) :
    Calls Tryz.prog 72 #[.int .i64 n] w fun e w' => e = .returned (.string (txt (hexL n))) ∧ Below w.heap.size w w' := by
  have H := Lib.hid (format_any (hexN n) (hexN_lt n) w hT hB)
  have hw := hexN_int n
  have HP := Lib.hid (fun m (h1 : m ≤ 16) (h2 : hexN n < 16 ^ m) => lowd_pad m (hexN n) h2 (16 - m))
  obtain ⟨u, hu⟩ : ∃ u, hexN n = u := ⟨_, rfl⟩
  rw [hu] at H hw HP
  have HU := Lib.hid hu
  clear hu hT
  go_enter Tryz.func72, Tryz.ntmps72
  go_wp2_with (first
    | (go_at_call 104; refine H.out.mono ?_; rintro e w1 ⟨m, h1, h2, h3, rfl, h4⟩; have HM := Lib.hid (And.intro h1 (And.intro h2 h3)); have HB := Lib.hid h4; have hsz := txt_size (lowd m u); rw [lowd_length] at hsz; clear h1 h3 h4)
    | (go_at_call 105; refine (repeat_nought (16 - m) _ (by omega) w1 (by omega)).mono ?_; rintro e w2 ⟨rfl, h5⟩; have HB2 := Lib.hid (HB.out.trans (h5.mono HB.out.size)); have hsum : ¬ 9223372036854775807 < (txt (List.replicate (16 - m) 48)).size + (txt (lowd m u)).size := (by rw [txt_size, txt_size, List.length_replicate, lowd_length]; omega); clear h5))
  go_ret
  refine ⟨?_, HB2.out⟩
  rw [txt_append, ← HP.out m HM.out.2.1 HM.out.2.2, show 16 - m + m = 16 by have := HM.out.2.1; omega]
  unfold hexL
  rw [HU.out]
  rfl
theorem string_one (W : World) (c : UInt8) (X : Int) (hX : X = (c.toNat : Int)) : (convert 30 9 (.slice (some ⟨W.heap.size, 0, none⟩) 1 1)).run Tryz.prog (W.alloc (.cells #[.int .u8 X] 5)) = .ok (.string (txt [c])) (W.alloc (.cells #[.int .u8 X] 5)) := by
  refine string_of_bytes (B := W.heap.size + 1) _ _ _ _ _ rfl (fun j hj => ⟨W.heap.size, 0, rfl, Nat.lt_succ_self _, ?_⟩)
  obtain rfl : j = 0 := by simp at hj; exact hj
  rw [Nat.zero_add, World.cell?_alloc_mark, hX]
  simp
end Go.Proofs.YtkcnmajjfljilaaGreatDoor
