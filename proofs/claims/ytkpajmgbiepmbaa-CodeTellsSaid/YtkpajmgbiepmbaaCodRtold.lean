/- The walks of the plain text that writes: ints, pairs. -/
import Derived.Test.YtkpajmgbiepmbaaCodRtell
import Derived.Test.YtkpajmgbiepmbaaCodBufZ
namespace Go.Proofs.Ytkpajmgbiepmbaa
open Go.ChangeShapes Go.WideShapes Go.ChangeAt Go.RowKit
open Go.Lib (byteCells byteCells_length byteCells_append strCells)
set_option linter.unusedVariables false

def RTellPost (o : Option (List UInt8)) (w : World) (e : Ending) (w' : World) : Prop :=
  match o with
  | none => e = .returned (.tuple #[.string ⟨#[]⟩, .int .i64 41]) ∧ Below w.heap.size w w'
  | some bs => e = .returned (.tuple #[.string (txt bs), .int .i64 0]) ∧ Below w.heap.size w w'
theorem BufZ.mono {B B' : Nat} {A : Option Addr} {n c : Nat} {bs : List UInt8} {w : World} (h : BufZ B A n c bs w) (hB : B' ≤ B) : BufZ B' A n c bs w := by
  obtain ⟨g, e, hg, hlt, h1, h2⟩ := h.lies
  exact ⟨h.len, Nat.le_trans hB h.base, h.cap, g, e, Nat.le_trans hB hg, hlt, h1, h2⟩
theorem BufZ.is {B : Nat} {A : Option Addr} {n c : Nat} {bs cs : List UInt8} {w : World} (h : BufZ B A n c bs w) (e : bs = cs) : BufZ B A n c cs w := e ▸ h
/-- What '[]byte(Num(n))' leaves. -/
theorem BufZ.head {n : Nat} {T : ByteArray} {w w1 : World} (hT : txt (numL n) = T) (hb : Below w.heap.size w w1) (hs : T.size ≤ 10) {α : Type} (enc : α → List UInt8) (l : List α) (hn : n = l.length) :
    BufZ w.heap.size (some ⟨w1.heap.size, 0, none⟩) T.size (grownCap w1 T.size 0 5) (upTo enc l 0) (w1.alloc (.cells (bytesRow T (grownCap w1 T.size 0 5)) 5 ((bytesRow T (grownCap w1 T.size 0 5)).size, (bytesRow T (grownCap w1 T.size 0 5)).size + 1))).drew := by
  refine BufZ.is (BufZ.mono (BufZ.laid T w1 _ (grownCap_ge _ _ _ _) (grownCap_le_maxLen _ _ _ _ (by unfold maxLen; omega))) hb.size) ?_
  rw [← hT, txt_list, upTo_zero, hn]

theorem numT {n : Nat} (h : n < 18446744073709551616) : (txt (numL n)).size ≤ 10 := by rw [txt_size]; exact numL_len64 h
set_option maxRecDepth 4000 in
set_option maxHeartbeats 1000000 in
theorem pnums_walk (l : List Int) (hw : ∀ n ∈ l, in64 n) (htot : (listL intL l).length ≤ 16777216) (A : Option Addr) (n c : Nat) (w : World) (hn : n = l.length) (hm : n ≤ 1048576) (hat : RowC iCells 1 w w.heap.size A l) :
    Calls Try.prog 23 #[.slice A n c] w (RTellPost (some (listL intL l)) w) := by
  have HN := Lib.hid hn
  have HA := Lib.hid hat
  have HW := Lib.hid hw
  have HT := Lib.hid htot
  have HC := Lib.hid (pnum_walk n (by omega))
  have hW : IntKind.u64.wrap (n : Int) = (n : Int) := u64_in _ (by omega)
  have hTs := numT (n := n) (by omega)
  obtain ⟨T, hT⟩ : ∃ T, txt (numL n) = T := ⟨_, rfl⟩
  rw [hT] at HC hTs
  have hcv := fun W => run_bytes_of_string (P := Try.prog) W 9 27 5 T Try.underlying9 Try.underlying27 Try.underlying5
  have HTT := Lib.hid hT
  clear hn hat hw hT htot
  go_enter Try.func23, Try.ntmps23
  go_wp2_with (go_at_call 13; refine (HC.out _).mono ?_; rintro e w1 ⟨rfl, hb1⟩; have HB1 := Lib.hid hb1; clear hb1)
  have HZ0 := Lib.hid (BufZ.head HTT.out HB1.out hTs intL l HN.out)
  clear hcv
  go_loopw [4, 5] (fun bv iv wr => ∃ (k m : Nat) (bs : List UInt8) (A2 : Option Addr) (c2 : Nat), k ≤ n ∧ bv = .slice A2 m c2 ∧ iv = .int .i64 (k : Int) ∧ Hid (bs = upTo intL l k) ∧ Hid (BufZ w.heap.size A2 m c2 bs wr) ∧ Hid (Below w.heap.size w wr)) (fun _ iv _ => n - (intOf iv).toNat)
  case atStart => exact ⟨0, _, _, _, _, Nat.zero_le _, rfl, rfl, Lib.hid rfl, HZ0, Lib.hid ((HB1.out.alloc HB1.out.size _).drew)⟩
  case round =>
    obtain ⟨k, m, bs, A2, c2, hk, rfl, rfl, HL, HB, HBel⟩ := hrel
    have hbl : bs.length ≤ 16777216 := by have h1 := upTo_le (enc := intL) (l := l) k; have h2 := HT.out; rw [HL.out]; omega
    by_cases hlt : k < n
    · have hkl : k < l.length := by rw [← HN.out]; exact hlt
      obtain ⟨b, off, rfl, hB, hc⟩ := (HA.out.below HBel.out) k hkl
      have c0 := hc 0 _ rfl
      rw [Nat.mul_one, Nat.add_zero] at c0
      have hx64 := HW.out _ (List.getElem_mem hkl)
      have HL2 := Lib.hid (upTo_next (enc := intL) hkl)
      obtain ⟨x, hx⟩ : ∃ x, l[k] = x := ⟨_, rfl⟩
      rw [hx] at hx64 HL2
      simp only [hx] at c0
      have HI := Lib.hid (fun w => pint_walk x hx64 w)
      have HC2 := Lib.hid (pnum_walk (zig x) (zig_lt hx64))
      have hS := numT (zig_lt hx64)
      have HL2 := Lib.hid (show upTo intL l (k + 1) = upTo intL l k ++ numL (zig x) from HL2.out)
      obtain ⟨z, hz⟩ : ∃ z, zig x = z := ⟨_, rfl⟩
      rw [hz] at HI HC2 hS HL2
      have hbs := HBel.out.size
      clear hx hc hz hx64
      go_wp2_with (first | (go_at_call 49; refine (HI.out _).mono ?_; rintro e w2 ⟨rfl, rfl⟩) | (go_at_call 13; refine (HC2.out _).mono ?_; rintro e w3 ⟨rfl, hb3⟩; have HB3 := Lib.hid (HB.out.below hb3); have HBel3 := Lib.hid (hop HBel.out hb3); clear hb3) | (at_builtin; go_loud (refine append_textZ rfl _ _ rfl w.heap.size A2 m c2 bs rfl _ (txt (numL z)) HB3.out rfl (by omega) ?_); intro A4 n4 c4 w4 hn4 hb4 hbel4; have HB4 := Lib.hid hb4; have HBel4 := Lib.hid (HBel3.out.trans hbel4); clear hb4 hbel4; subst hn4))
      go_roundw
      case rel => exact ⟨k + 1, _, _, A4, c4, by omega, rfl, by go_num, Lib.hid (by rw [HL2.out, HL.out, txt_list]), HB4, HBel4⟩
      case measure => simp [intOf]; omega
    · have HE := Lib.hid (HL.out.trans (upTo_all (by rw [← HN.out]; omega)))
      have hcs := HB.out.str
      have hml := HB.out.len
      have hm24 : decide ((16777216 : Int) < (m : Int)) = false := decide_eq_false (by omega)
      clear hml
      go_wp2
      go_ret2
      exact ⟨by rw [HE.out]; rfl, HBel.out⟩
theorem wordT {s : ByteArray} (h : s.size ≤ 274877906944) : (txt (wordL s)).size ≤ 274877906954 := by
  have := wordL_len (s := s) (by omega)
  rw [txt_size]
  omega
theorem txt_app (s : ByteArray) (bs : List UInt8) : (bs ++ s.data.toList).length = bs.length + s.size := by rw [List.length_append, ← size_eq]
end Go.Proofs.Ytkpajmgbiepmbaa
