/- The walk of the document's own list of frames. -/
import Derived.Test.YtcolghibbiijfaaFraRef
namespace Go.Proofs.Ytcolghibbiijfaa
open Go.ChangeShapes Go.WideShapes Go.ChangeAt Go.RowKit
open Go.Lib (byteCells byteCells_length byteCells_append strCells)
set_option linter.unusedVariables false

theorem infoStr : (Try.prog.info? 9).map (fun i => (i.zero, i.size, i.bytes)) = some (some (Value.string ⟨#[]⟩), 1, 16) := by kernel_rfl
/-- Texts side by side in memory of the call's own. -/
def OwnT (w : World) (B : Nat) (A : Option Addr) (n c : Nat) (xs : List (List UInt8)) : Prop :=
  n = xs.length ∧ B ≤ w.heap.size ∧ w.ownsRow B 9 1 (.slice A n c) n ((xs.map txt).flatMap sCells)
theorem OwnT.nil (w : World) (B : Nat) (h : B ≤ w.heap.size) : OwnT w B none 0 0 [] := ⟨rfl, h, World.ownsRow_nil w B _ 1⟩
theorem OwnT.below {w w' : World} {B : Nat} {A : Option Addr} {n c : Nat} {xs : List (List UInt8)} (h : OwnT w B A n c xs) (hb : Below w.heap.size w w') : OwnT w' B A n c xs :=
  ⟨h.1, Nat.le_trans h.2.1 hb.size, own_below h.2.2 hb⟩
theorem OwnT.at_ {w : World} {B : Nat} {A : Option Addr} {n c : Nat} {xs : List (List UInt8)} (h : OwnT w B A n c xs) (k : Nat) (hk : k < xs.length) :
    ∃ b off, A = some ⟨b, off, none⟩ ∧ b < w.heap.size ∧ w.cell? ⟨b, off + k, none⟩ = some (.string (txt xs[k])) := by
  have hr := (RowC.own sCells_length (by decide) h.2.2).2
  obtain ⟨b, off, e, hlt, h0⟩ := hr k (by simpa using hk)
  refine ⟨b, off, e, hlt, ?_⟩
  have := h0 0 (.string (txt xs[k])) (by simp [sCells])
  simpa using this

/-- The list of frames as texts, and how many bytes they have. -/
def RScanPost (l : List UInt8) (w : World) (e : Ending) (w' : World) : Prop :=
  ∃ A n c, e = .returned (.tuple #[.slice A n c, .int .i64 ((tot (frs l) : Nat) : Int)]) ∧ OwnT w' w.heap.size A n c (frs l) ∧ Below w.heap.size w w'
set_option maxHeartbeats 2000000 in
theorem rscan_any (s : ByteArray) (hs : s.size ≤ 16777208) (w : World) :
    Calls Try.prog 15 #[.string s] w (RScanPost s.data.toList w) := by
  go_enter Try.func15, Try.ntmps15
  go_wp2
  go_loopw [4, 5, 6] (fun lv av iv wr => ∃ (pre : List (List UInt8)) (A : Option Addr) (n c : Nat), Hid (Sofar s.data.toList pre) ∧ lv = .slice A n c ∧ av = .int .i64 ((tot pre : Nat) : Int) ∧ iv = .int .i64 ((pre.length : Nat) : Int) ∧
    OwnT wr w.heap.size A n c pre ∧ Below w.heap.size w wr) (fun _ _ iv _ => s.size + 1 - (intOf iv).toNat)
  case atStart => exact ⟨[], none, 0, 0, Lib.hid (Sofar.start _), rfl, rfl, rfl, OwnT.nil _ _ (Nat.le_refl _), Below.refl _ _⟩
  case round =>
    obtain ⟨pre, A, n, c, HSO, rfl, rfl, rfl, hown, hbel⟩ := hrel
    have HOWN := Lib.hid hown
    have HBEL := Lib.hid hbel
    have hpl : pre.length ≤ s.size := by have := HSO.out.le; rw [← size_eq] at this; omega
    have hto : tot pre ≤ s.size := by have := HSO.out.1; rwa [← size_eq] at this
    have HAT := Lib.hid (fun W => rat_any s (tot pre) hs hto W)
    clear hown hbel
    rcases hx : fst (s.data.toList.drop (tot pre)) with _ | x
    · have HX := Lib.hid hx
      clear hx
      go_wp2_with (go_at_call 13; refine (HAT.out _).mono ?_; intro e w1 h; obtain ⟨t, hb1, rfl⟩ := h.none_ HX.out; have HB1 := Lib.hid (HBEL.out.trans (hb1.mono HBEL.out.size)); have HO1 := Lib.hid (HOWN.out.below hb1); clear hb1 h)
      go_ret2
      have hall := HSO.out.all HX.out
      exact ⟨A, n, c, by rw [hall]; rfl, by rw [hall]; exact HO1.out, HB1.out⟩
    · have HX := Lib.hid hx
      have HX8 := Lib.hid (fst_back hx).1
      have HN := Lib.hid (HSO.out.next hx)
      have hxl : x.length ≤ s.size := by have := (fst_back hx).1; rw [List.length_drop, ← size_eq] at this; omega
      have hxs := txt_size x
      obtain rfl := HOWN.out.1
      have hto2 : tot pre + 8 + x.length ≤ s.size := by have := HN.out.1; rw [tot_snoc, ← size_eq] at this; omega
      have htx : (txt x).size = x.length := txt_size x
      clear hx
      go_wp2_with (first
        | (go_at_call 13; refine (HAT.out _).mono ?_; intro e w1 h; obtain ⟨hb1, rfl⟩ := h.some_ HX.out; have HB1 := Lib.hid (HBEL.out.trans (hb1.mono HBEL.out.size)); have HO1 := Lib.hid (HOWN.out.below hb1); clear hb1 h)
        | (at_builtin; go_loud (refine append_item Try.underlying35 infoStr rfl (by decide) sCells_length sCells_one rfl _ _ rfl w.heap.size A pre.length c (pre.map txt) rfl _ (txt x) HO1.out.2.2 HO1.out.2.1 _ rfl rfl (by omega) (by unfold maxLen; omega) [_] rfl ?_); intro A3 n3 c3 w3 hn3 ho3 hb3 hg3; have HO3 := Lib.hid ho3; have HB3 := Lib.hid (HB1.out.trans hb3); clear ho3 hb3 hg3; subst hn3))
      go_roundw
      case rel =>
        refine ⟨pre ++ [x], A3, pre.length + 1, c3, HN, rfl, ?_, ?_, ⟨by simp, HB3.out.size, by rw [List.map_append]; exact HO3.out⟩, HB3.out⟩
        · rw [tot_snoc]; go_num
        · rw [List.length_append]; go_num
      case measure => simp [intOf]; omega
end Go.Proofs.Ytcolghibbiijfaa
