/- The statement FrameTurned: the walk. -/
import Derived.Test.YtcolghibbiijfaaFraPacks
import Derived.Laws.OwnMore
namespace Go.Proofs.Ytcolghibbiijfaa
open Go.ChangeShapes Go.WideShapes Go.ChangeAt Go.RowKit
open Go.Lib (byteCells byteCells_length byteCells_append strCells)
set_option linter.unusedVariables false

theorem byteCells_set (l : List UInt8) (j : Nat) (y : UInt8) : (byteCells l).set j (.int .u8 (y.toNat : Int)) = byteCells (l.set j y) := by
  simp [byteCells, List.map_set]
/-- A byte of the call's own is stored. -/
theorem Buf.stored {B g n c : Nat} {bs : List UInt8} {w : World} (h : Buf B (some ⟨g, 0, none⟩) n c bs w) (j : Nat) (y : UInt8) : Buf B (some ⟨g, 0, none⟩) n c (bs.set j y) (w.setCell ⟨g, j, none⟩ (.int .u8 (y.toNat : Int))) := by
  refine ⟨by rw [List.length_set]; exact h.1, by have := h.2.1; simpa [World.setCell] using this, ?_⟩
  have := (h.2.2.stored j (.int .u8 (y.toNat : Int))).1
  rwa [byteCells_set] at this
theorem Buf.cellAt {B g n c : Nat} {bs : List UInt8} {w : World} (h : Buf B (some ⟨g, 0, none⟩) n c bs w) (j : Nat) (hj : j < bs.length) : w.cell? ⟨g, j, none⟩ = some (.int .u8 ((bs.getD j 0).toNat : Int)) := by
  have := h.2.2.cellAt j (by have := h.1; omega)
  rw [this]
  simp [byteCells, List.getD, List.getElem?_eq_getElem hj]
theorem Buf.frozenAt {B g n c : Nat} {bs : List UInt8} {w : World} (h : Buf B (some ⟨g, 0, none⟩) n c bs w) (j : Nat) : w.frozen? ⟨g, j, none⟩ = false := h.2.2.frozenAt j
theorem Buf.some_ {B : Nat} {A : Option Addr} {n c : Nat} {bs : List UInt8} {w : World} (h : Buf B A n c bs w) (hn : 0 < n) : ∃ g, A = some ⟨g, 0, none⟩ ∧ B ≤ g ∧ g < w.heap.size := by
  obtain ⟨g, cap, hv, hg, hlt⟩ := h.2.2.form hn
  injection hv with h1 h2 h3
  exact ⟨g, h1, hg, hlt⟩

/-- k bytes from first on have been turned. -/
structure Turned (s : List UInt8) (first turn k : Nat) (L : List UInt8) (T : Bool) (B g c : Nat) (w0 wr : World) : Prop where
  len : L.length = 8 + s.length
  diff : leN L ^^^ leN (fr s) = 2 ^ (8 * first) * (turn % 2 ^ (8 * k))
  turned : T = !decide (turn % 2 ^ (8 * k) = 0)
  buf : Buf B (some ⟨g, 0, none⟩) (8 + s.length) c L wr
  below : Below B w0 wr
theorem diff_next (f k a z : Nat) (ha : a < 2 ^ (8 * k)) : 2 ^ (8 * (f + k)) * z ^^^ 2 ^ (8 * f) * a = 2 ^ (8 * f) * (a + 2 ^ (8 * k) * z) := by
  have e : 2 ^ (8 * (f + k)) * z = 2 ^ (8 * f) * (2 ^ (8 * k) * z) := by rw [Nat.mul_add, Nat.pow_add, Nat.mul_assoc]
  have hl : 2 ^ (8 * f) * a < 2 ^ (8 * (f + k)) := by rw [Nat.mul_add 8, Nat.pow_add]; exact Nat.mul_lt_mul_of_pos_left ha (Nat.two_pow_pos _)
  have h := add_xor _ z _ hl
  rw [Nat.mul_add (2 ^ (8 * f)), ← e, h, Nat.xor_comm]
theorem byte_of_word (word k : Nat) (x : UInt8) (hx : x.toNat = word / 2 ^ (8 * k) % 256) : (word : Int) / 2 ^ (8 * k) % 256 = (x.toNat : Int) := by
  rw [hx, Int.natCast_emod, Int.natCast_ediv, Int.natCast_pow]; rfl
theorem byte_xor (y x : UInt8) : bits .xor .u8 (y.toNat : Int) (x.toNat : Int) = ((y ^^^ x).toNat : Int) := by
  rw [u8_xor_nat _ _ y.toNat_lt x.toNat_lt, UInt8.toNat_xor]
theorem byte_nought (x : UInt8) : ((x.toNat : Int) != 0) = !(x == 0) := by
  by_cases h : x = 0
  · subst h; rfl
  · have : x.toNat ≠ 0 := fun c => h (UInt8.toNat_inj.1 c)
    have h2 : (x.toNat : Int) ≠ 0 := by omega
    rw [show ((x.toNat : Int) != 0) = true from bne_iff_ne.2 h2, show (x == 0) = false from beq_eq_false_iff_ne.2 h]; rfl
theorem Turned.next {s : List UInt8} {first turn k : Nat} {L : List UInt8} {T : Bool} {B g c : Nat} {w0 wr : World} (h : Turned s first turn k L T B g c w0 wr) (hg : B ≤ g) (x : UInt8) (hx : x.toNat = turn / 2 ^ (8 * k) % 256) (hf : first + k < 8 + s.length) :
    Turned s first turn (k + 1) (L.set (first + k) (L.getD (first + k) 0 ^^^ x)) (T || !(x == 0)) B g c w0 (wr.setCell ⟨g, first + k, none⟩ (.int .u8 ((L.getD (first + k) 0 ^^^ x).toNat : Int))) where
  len := by rw [List.length_set]; exact h.len
  diff := by
    have h1 := leN_set L (first + k) x (by rw [h.len]; exact hf)
    have h2 : leN (L.set (first + k) (L.getD (first + k) 0 ^^^ x)) ^^^ leN (fr s) = (leN (L.set (first + k) (L.getD (first + k) 0 ^^^ x)) ^^^ leN L) ^^^ (leN L ^^^ leN (fr s)) := by
      rw [Nat.xor_assoc, ← Nat.xor_assoc (leN L), Nat.xor_self, Nat.zero_xor]
    rw [h2, h1, h.diff, word_next, hx]
    exact diff_next first k _ _ (Nat.mod_lt _ (Nat.two_pow_pos _))
  turned := by
    rw [h.turned, word_next, ← hx]
    have a : 0 < 2 ^ (8 * k) := Nat.two_pow_pos _
    have e : (x == 0) = decide (x.toNat = 0) := by
      by_cases hx0 : x = 0
      · subst hx0; rfl
      · have : x.toNat ≠ 0 := fun c => hx0 (UInt8.toNat_inj.1 c)
        simp [hx0, this]
    rw [e]
    by_cases p : turn % 2 ^ (8 * k) = 0 <;> by_cases q : x.toNat = 0
    · simp [p, q]
    · have : 2 ^ (8 * k) * x.toNat ≠ 0 := Nat.mul_ne_zero (by omega) q
      simp [p, q, this]
    · simp [p, q]
    · simp [p]
  buf := h.buf.stored _ _
  below := h.below.setCell (p := ⟨g, first + k, none⟩) hg _
theorem Turned.start (s : List UInt8) (first turn : Nat) {B g c : Nat} {w0 wr : World} (h : Buf B (some ⟨g, 0, none⟩) (8 + s.length) c (fr s) wr) (hb : Below B w0 wr) : Turned s first turn 0 (fr s) false B g c w0 wr where
  len := fr_length s
  diff := by rw [Nat.xor_self]; simp [Nat.mod_one]
  turned := by simp [Nat.mod_one]
  buf := h
  below := hb
theorem Turned.end_ {s : List UInt8} {first turn k : Nat} {L : List UInt8} {T : Bool} {B g c : Nat} {w0 wr : World} (h : Turned s first turn k L T B g c w0 wr) (hs : s.length < 4294967296) (hk : k ≤ 4) (hf4 : 4 ≤ first) (hfk : first + k ≤ 8 + s.length) (h8 : first < 8 → first + k ≤ 8) :
    (T = false ∧ fst L = some s) ∨ (T = true ∧ ∀ y, fst L = some y → 8 + y.length ≠ L.length) := by
  have ht := fst_turned hs (by rw [h.len, fr_length]) hk hf4 (by rw [fr_length]; exact hfk) h8 h.diff
  by_cases e : turn % 2 ^ (8 * k) = 0
  · exact .inl ⟨by rw [h.turned]; simp [e], ht.1 e⟩
  · exact .inr ⟨by rw [h.turned]; simp [e], ht.2 e⟩

theorem turned_none (s : ByteArray) (hs : s.size ≤ maxLen) (at_ turn : Int) (h : 4000 < s.size ∨ turn = 0) (w : World) :
    Calls Try.prog 7 #[.string s, .int .u16 at_, .int .u32 turn] w fun e w' => e = .returned (.bool true) ∧ Below w.heap.size w w' := by
  unfold maxLen at hs
  by_cases h1 : 4000 < s.size
  · clear h
    go_enter Try.func7, Try.ntmps7
    go_wp2_with (go_at_call 9; refine (alive_any _).mono ?_; rintro e w1 ⟨rfl, hb1⟩; have HB1 := Lib.hid hb1; clear hb1)
    go_ret
    exact ⟨rfl, HB1.out⟩
  · obtain rfl : turn = 0 := by omega
    clear h
    go_enter Try.func7, Try.ntmps7
    go_wp2_with (go_at_call 9; refine (alive_any _).mono ?_; rintro e w1 ⟨rfl, hb1⟩; have HB1 := Lib.hid hb1; clear hb1)
    go_ret
    exact ⟨rfl, HB1.out⟩
set_option maxHeartbeats 8000000 in
theorem turned_some (s : ByteArray) (hs : s.size ≤ 4000) (at_ turn : Nat) (hat : at_ < 65536) (hturn : turn < 4294967296) (h3 : 0 < turn) (w : World) :
    Calls Try.prog 7 #[.string s, .int .u16 at_, .int .u32 turn] w fun e w' => e = .returned (.bool true) ∧ Below w.heap.size w w' := by
  have hcs := fun W => run_bytes_of_string (P := Try.prog) W 9 23 5 s Try.underlying9 Try.underlying23 Try.underlying5
  have hsz := size_eq s
  obtain ⟨l, hl⟩ : ∃ l, s.data.toList = l := ⟨_, rfl⟩
  rw [hl] at hsz
  obtain ⟨N, hN⟩ : ∃ N, N = 8 + l.length := ⟨_, rfl⟩
  obtain ⟨m, hm⟩ : ∃ m, m = at_ % (N - 4) := ⟨_, rfl⟩
  have hmN : 4 + m < N := by have := Nat.mod_lt at_ (show 0 < N - 4 by omega); omega
  have hN4 : N ≤ 4008 := by omega
  have hN8 : 8 ≤ N := by omega
  have hmod : (at_ : Int) % ((N : Int) - 4) = (m : Int) := by rw [hm, show ((N : Int) - 4) = ((N - 4 : Nat) : Int) by omega]; rfl
  have HLL := Lib.hid hl
  have HNL := Lib.hid hN
  have HSS := Lib.hid hsz
  clear hl hsz hN hm
  have g1 : decide ((4000 : Int) < (s.size : Int)) = false := decide_eq_false (by omega)
  have g3 : ((turn : Int) == 0) = false := beq_eq_false_iff_ne.2 (by omega)
  by_cases hm4 : m < 4
  · have hd : decide ((4 : Int) + (m : Int) < 8) = true := decide_eq_true (by omega)
    go_enter Try.func7, Try.ntmps7
    go_wp2_with (first
      | (go_at_call 9; refine (alive_any _).mono ?_; rintro e w1 ⟨rfl, hb1⟩; have HB1 := Lib.hid hb1; clear hb1)
      | (go_at_call 10; refine (pack_laid s w1 _ _ _ (by omega)).mono ?_; rw [HLL.out]; rintro e w2 ⟨A2, n2, c2, rfl, hp2, hb2⟩; obtain rfl : n2 = N := by rw [hp2.1, fr_length, HNL.out]
         obtain ⟨g, rfl, hgb, hgl⟩ := hp2.some_ (by omega)
         have HGB := Lib.hid (Nat.le_trans HB1.out.size hgb); have HT0 := Lib.hid (Turned.start l (4 + m) turn (by rw [← HNL.out]; exact hp2.more HB1.out.size) (HB1.out.trans (hb2.mono HB1.out.size))); clear hp2 hb2 hgb hgl))
    clear hcs g1 g3 hd hmod
    go_loopw [11, 12] (fun Tv iv wr => ∃ (k : Nat) (Tb : Bool) (L : List UInt8), k ≤ 4 ∧ 4 + m + k ≤ 8 ∧ iv = .int .i64 (k : Int) ∧ Tv = .bool Tb ∧ Hid (Turned l (4 + m) turn k L Tb w.heap.size g c2 w wr)) (fun _ iv _ => 4 - (intOf iv).toNat)
    case atStart => exact ⟨0, false, fr l, by omega, by omega, rfl, rfl, HT0⟩
    case round =>
      obtain ⟨k, Tb, L, hk, hf, rfl, rfl, HT⟩ := hrel
      have hlen : L.length = n2 := by rw [HT.out.len, HNL.out]
      by_cases hlt : k < 4 ∧ 4 + m + k < 8
      · obtain ⟨hk5, hfk⟩ := hlt
        have hcell := HT.out.buf.cellAt (4 + m + k) (by omega)
        have hfree := HT.out.buf.frozenAt (4 + m + k)
        obtain ⟨x, hx⟩ : ∃ x : UInt8, x.toNat = turn / 2 ^ (8 * k) % 256 := ⟨UInt8.ofNat (turn / 2 ^ (8 * k)), by simp⟩
        have HN := Lib.hid (HT.out.next HGB.out x hx (by have := HNL.out; omega))
        have HX := Lib.hid (byte_of_word turn k x hx)
        have HY := Lib.hid (byte_xor (L.getD (4 + m + k) 0) x)
        have HZ := Lib.hid (byte_nought x)
        clear hx hlen
        generalize L.getD (4 + m + k) 0 = y at *
        cases Tb
        all_goals
          go_wp2
          first | rw [HX.out, HY.out, HZ.out] | rw [HX.out, HY.out]
          go_roundw
          case rel => exact ⟨k + 1, _, _, by omega, by omega, by go_num, rfl, HN⟩
          case measure => simp [intOf]; omega
      · have HE := Lib.hid (HT.out.end_ (by have := HNL.out; omega) hk (by omega) (by have := HNL.out; omega) (by omega))
        have HB := Lib.hid HT.out.buf
        have hbel := HT.out.below
        have HL := Lib.hid hlen
        have HO := Lib.hid (fun W hW => one_any L n2 c2 hlen.symm (by rw [HNL.out]; exact HB.out.caps.1) HB.out.caps.2.1 (by omega) (some ⟨g, 0, none⟩) W hW)
        have HBEL := Lib.hid hbel
        clear HT hlen hbel
        rcases HE.out with ⟨rfl, hfst⟩ | ⟨rfl, hno⟩
        · have HFS := Lib.hid hfst
          have HH := Lib.hid hlt
          clear hfst
          by_cases hk5 : k < 4
          · have hno : ¬ 4 + m + k < 8 := fun h => hlt ⟨hk5, h⟩
            clear hlt
            go_wp2_with (go_at_call 12; refine (HO.out _ HB.out.bytes).mono ?_; intro e w3 hp; obtain ⟨A3, c3, rfl, _, hb3⟩ := hp.some_ HFS.out (by rw [HL.out, HNL.out]); have HB3 := Lib.hid (HBEL.out.trans (hb3.mono HBEL.out.size)); clear hp hb3)
            go_ret
            exact ⟨rfl, HB3.out⟩
          · clear hlt
            go_wp2_with (go_at_call 12; refine (HO.out _ HB.out.bytes).mono ?_; intro e w3 hp; obtain ⟨A3, c3, rfl, _, hb3⟩ := hp.some_ HFS.out (by rw [HL.out, HNL.out]); have HB3 := Lib.hid (HBEL.out.trans (hb3.mono HBEL.out.size)); clear hp hb3)
            go_ret
            exact ⟨rfl, HB3.out⟩
        · have HNO := Lib.hid hno
          clear hno
          by_cases hk5 : k < 4
          · have hno : ¬ 4 + m + k < 8 := fun h => hlt ⟨hk5, h⟩
            clear hlt
            go_wp2_with (go_at_call 12; refine (HO.out _ HB.out.bytes).mono ?_; intro e w3 hp; obtain ⟨rfl, hb3⟩ := hp.none_ HNO.out; have HB3 := Lib.hid (HBEL.out.trans (hb3.mono HBEL.out.size)); clear hp hb3)
            go_ret
            exact ⟨rfl, HB3.out⟩
          · clear hlt
            go_wp2_with (go_at_call 12; refine (HO.out _ HB.out.bytes).mono ?_; intro e w3 hp; obtain ⟨rfl, hb3⟩ := hp.none_ HNO.out; have HB3 := Lib.hid (HBEL.out.trans (hb3.mono HBEL.out.size)); clear hp hb3)
            go_ret
            exact ⟨rfl, HB3.out⟩
  · have hd : decide ((4 : Int) + (m : Int) < 8) = false := decide_eq_false (by omega)
    go_enter Try.func7, Try.ntmps7
    go_wp2_with (first
      | (go_at_call 9; refine (alive_any _).mono ?_; rintro e w1 ⟨rfl, hb1⟩; have HB1 := Lib.hid hb1; clear hb1)
      | (go_at_call 10; refine (pack_laid s w1 _ _ _ (by omega)).mono ?_; rw [HLL.out]; rintro e w2 ⟨A2, n2, c2, rfl, hp2, hb2⟩; obtain rfl : n2 = N := by rw [hp2.1, fr_length, HNL.out]
         obtain ⟨g, rfl, hgb, hgl⟩ := hp2.some_ (by omega)
         have HGB := Lib.hid (Nat.le_trans HB1.out.size hgb); have HT0 := Lib.hid (Turned.start l (4 + m) turn (by rw [← HNL.out]; exact hp2.more HB1.out.size) (HB1.out.trans (hb2.mono HB1.out.size))); clear hp2 hb2 hgb hgl))
    clear hcs g1 g3 hd hmod
    go_loopw [11, 12] (fun Tv iv wr => ∃ (k : Nat) (Tb : Bool) (L : List UInt8), k ≤ 4 ∧ 4 + m + k ≤ n2 ∧ iv = .int .i64 (k : Int) ∧ Tv = .bool Tb ∧ Hid (Turned l (4 + m) turn k L Tb w.heap.size g c2 w wr)) (fun _ iv _ => 4 - (intOf iv).toNat)
    case atStart => exact ⟨0, false, fr l, by omega, by omega, rfl, rfl, HT0⟩
    case round =>
      obtain ⟨k, Tb, L, hk, hf, rfl, rfl, HT⟩ := hrel
      have hlen : L.length = n2 := by rw [HT.out.len, HNL.out]
      by_cases hlt : k < 4 ∧ 4 + m + k < n2
      · obtain ⟨hk5, hfk⟩ := hlt
        have hcell := HT.out.buf.cellAt (4 + m + k) (by omega)
        have hfree := HT.out.buf.frozenAt (4 + m + k)
        obtain ⟨x, hx⟩ : ∃ x : UInt8, x.toNat = turn / 2 ^ (8 * k) % 256 := ⟨UInt8.ofNat (turn / 2 ^ (8 * k)), by simp⟩
        have HN := Lib.hid (HT.out.next HGB.out x hx (by have := HNL.out; omega))
        have HX := Lib.hid (byte_of_word turn k x hx)
        have HY := Lib.hid (byte_xor (L.getD (4 + m + k) 0) x)
        have HZ := Lib.hid (byte_nought x)
        clear hx hlen
        generalize L.getD (4 + m + k) 0 = y at *
        cases Tb
        all_goals
          go_wp2
          first | rw [HX.out, HY.out, HZ.out] | rw [HX.out, HY.out]
          go_roundw
          case rel => exact ⟨k + 1, _, _, by omega, by omega, by go_num, rfl, HN⟩
          case measure => simp [intOf]; omega
      · have HE := Lib.hid (HT.out.end_ (by have := HNL.out; omega) hk (by omega) (by have := HNL.out; omega) (by omega))
        have HB := Lib.hid HT.out.buf
        have hbel := HT.out.below
        have HL := Lib.hid hlen
        have HO := Lib.hid (fun W hW => one_any L n2 c2 hlen.symm (by rw [HNL.out]; exact HB.out.caps.1) HB.out.caps.2.1 (by omega) (some ⟨g, 0, none⟩) W hW)
        have HBEL := Lib.hid hbel
        clear HT hlen hbel
        rcases HE.out with ⟨rfl, hfst⟩ | ⟨rfl, hno⟩
        · have HFS := Lib.hid hfst
          have HH := Lib.hid hlt
          clear hfst
          by_cases hk5 : k < 4
          · have hno : ¬ 4 + m + k < n2 := fun h => hlt ⟨hk5, h⟩
            clear hlt
            go_wp2_with (go_at_call 12; refine (HO.out _ HB.out.bytes).mono ?_; intro e w3 hp; obtain ⟨A3, c3, rfl, _, hb3⟩ := hp.some_ HFS.out (by rw [HL.out, HNL.out]); have HB3 := Lib.hid (HBEL.out.trans (hb3.mono HBEL.out.size)); clear hp hb3)
            go_ret
            exact ⟨rfl, HB3.out⟩
          · clear hlt
            go_wp2_with (go_at_call 12; refine (HO.out _ HB.out.bytes).mono ?_; intro e w3 hp; obtain ⟨A3, c3, rfl, _, hb3⟩ := hp.some_ HFS.out (by rw [HL.out, HNL.out]); have HB3 := Lib.hid (HBEL.out.trans (hb3.mono HBEL.out.size)); clear hp hb3)
            go_ret
            exact ⟨rfl, HB3.out⟩
        · have HNO := Lib.hid hno
          clear hno
          by_cases hk5 : k < 4
          · have hno : ¬ 4 + m + k < n2 := fun h => hlt ⟨hk5, h⟩
            clear hlt
            go_wp2_with (go_at_call 12; refine (HO.out _ HB.out.bytes).mono ?_; intro e w3 hp; obtain ⟨rfl, hb3⟩ := hp.none_ HNO.out; have HB3 := Lib.hid (HBEL.out.trans (hb3.mono HBEL.out.size)); clear hp hb3)
            go_ret
            exact ⟨rfl, HB3.out⟩
          · clear hlt
            go_wp2_with (go_at_call 12; refine (HO.out _ HB.out.bytes).mono ?_; intro e w3 hp; obtain ⟨rfl, hb3⟩ := hp.none_ HNO.out; have HB3 := Lib.hid (HBEL.out.trans (hb3.mono HBEL.out.size)); clear hp hb3)
            go_ret
            exact ⟨rfl, HB3.out⟩
theorem turned_walk (s : ByteArray) (hs : s.size ≤ maxLen) (at_ turn : Nat) (hat : at_ < 65536) (hturn : turn < 4294967296) (w : World) :
    Calls Try.prog 7 #[.string s, .int .u16 at_, .int .u32 turn] w fun e w' => e = .returned (.bool true) ∧ Below w.heap.size w w' := by
  by_cases h : 4000 < s.size ∨ (turn : Int) = 0
  · exact turned_none s hs at_ turn h w
  · exact turned_some s (by omega) at_ turn hat hturn (by omega) w
end Go.Proofs.Ytcolghibbiijfaa
