/- Layer 12, walked: records of rows. -/
import Derived.Test.YtfkfgabepjpdlaaDoorDecR4
import Derived.Lib.ItoaLen
namespace Go.Proofs.YtfkfgabepjpdlaaDoor
open Go.ChangeShapes Go.WideShapes Go.ChangeAt Go.RowKit
set_option linter.unusedVariables false

/-- .. and how long a text may be. -/
structure Env2 (B : Nat) (w : World) : Prop where
  env : Env B w
  max : 3 < B ∧ ∃ m : Int, w.cell? ⟨3, 0, none⟩ = some (.int .i64 m)
theorem Env2.below {B : Nat} {w w' : World} (h : Env2 B w) (hb : Below B w w') : Env2 B w' := by
  obtain ⟨h0, h1, m, hm⟩ := h
  exact ⟨h0.below hb, h1, m, (hb.cell (p := ⟨3, 0, none⟩) h1).trans hm⟩
theorem count_le (o : UInt8) (s : ByteArray) : Lib.countB s ⟨#[o]⟩ ≤ s.size := Lib.countB_le ⟨#[o]⟩ (by show 1 ≤ 1; decide) s.size s (Nat.le_refl _)
theorem rep_any (o : UInt8) (s : ByteArray) (hs : s.size ≤ 100000) (w : World) {B : Nat} (hE : Env2 B w) :
    Calls Tryd.prog 45 #[.string s, .string ⟨#[o]⟩, .string ⟨#[92, o]⟩] w fun e w' => e = .returned (.string (txt (rep1 o s.data.toList))) ∧ Below w.heap.size w w' := by
  have hc := count_le o s
  obtain ⟨m, hm⟩ := hE.max.2
  refine (Tryd.strings_ReplaceAll s ⟨#[o]⟩ ⟨#[92, o]⟩ m w (by omega) hm (by show 1 ≤ 1; decide) (by rw [show (ByteArray.mk #[92, o]).size = 2 from rfl]; omega)).mono ?_
  rintro e w' ⟨rfl, hb⟩
  refine ⟨?_, hb⟩
  rw [show (ByteArray.mk #[o]).data.toList = [o] from rfl, show (ByteArray.mk #[92, o]).data.toList = [92, o] from rfl, replaceAll_rep]
  rfl
theorem wr_len {v : V} (hw : v.wf) (h : chk v = 0) : (wr v).length ≤ 400 := by
  obtain ⟨k, n, s⟩ := v
  rcases chk_kinds h with ⟨e1, _, _⟩ | ⟨e1, _⟩ | ⟨e1, _, _⟩ | ⟨e1, _, e3⟩
  · simp only at e1; subst e1; show nul.length ≤ 400; decide
  · simp only at e1; subst e1
    have := Lib.itoa_length_le n hw.2.1.1 hw.2.1.2
    show (Lib.itoa n).length ≤ 400
    omega
  · simp only at e1; subst e1
    show (if n = 1 then tru else fls).length ≤ 400
    split <;> decide
  · simp only at e1 e3; subst e1
    have := escT_length s.data.toList
    have h2 := size_eq s
    show (escT s.data.toList).length ≤ 400
    omega
set_option maxHeartbeats 1000000 in
theorem written_any (v : V) (hw : v.wf) (hc : chk v = 0) (w : World) {B : Nat} (hE : Env2 B w) (hB : B ≤ w.heap.size) :
    Calls Tryd.prog 33 #[v.val] w fun e w' => e = .returned (.string (txt (wr v))) ∧ Below w.heap.size w w' := by
  obtain ⟨k, n, s⟩ := v
  have hb0 : Below w.heap.size w (w.alloc (.cells #[.int .i64 k, .int .i64 n, .string s] 53)) := (Below.refl _ _).alloc (Nat.le_refl _) _
  have HB0 := Lib.hid hb0
  unfold V.val
  dsimp only
  rcases chk_kinds hc with ⟨e1, e2, _⟩ | ⟨e1, _⟩ | ⟨e1, e2, _⟩ | ⟨e1, _, e3⟩
  · simp only at e1 e2; subst e1 e2
    clear hw hc hE hB hb0
    go_enter Tryd.func33, Tryd.ntmps33
    go_wp2
    go_ret
    exact ⟨rfl, HB0.out⟩
  · simp only at e1; subst e1
    have HF := Lib.hid (fun W (h : Below w.heap.size w W) => format_any n hw.2.1 W (hE.env.below (h.mono hB)))
    clear hw hc hE hB hb0
    go_enter Tryd.func33, Tryd.ntmps33
    go_wp2_with (go_at_call 39; refine (HF.out _ HB0.out).mono ?_; rintro e w1 ⟨rfl, hb1⟩; have HB1 := Lib.hid hb1; clear hb1)
    go_ret
    exact ⟨rfl, hop0 HB0.out HB1.out⟩
  · simp only at e1 e2; subst e1
    clear hw hc hE hB hb0
    rcases e2 with rfl | rfl
    · go_enter Tryd.func33, Tryd.ntmps33
      go_wp2
      go_ret
      exact ⟨rfl, HB0.out⟩
    · go_enter Tryd.func33, Tryd.ntmps33
      go_wp2
      go_ret
      exact ⟨rfl, HB0.out⟩
  · simp only at e1 e3; subst e1
    have HR1 := Lib.hid (fun W (h : Below w.heap.size w W) => rep_any 92 s (by omega) W (hE.below (h.mono hB)))
    have HR2 := Lib.hid (fun W (h : Below w.heap.size w W) => rep_any 44 (txt (rep1 92 s.data.toList)) (by rw [txt_size]; have := rep1_length 92 s.data.toList; have := size_eq s; omega) W (hE.below (h.mono hB)))
    rw [txt_list, rep_rep] at HR2
    clear hw hc hE hB hb0
    go_enter Tryd.func33, Tryd.ntmps33
    go_wp2_with (first
      | (have HSEC := HFIRST; go_at_call 45; refine (HR2.out _ (hop0 HB0.out HB1.out)).mono ?_; rintro e w2 ⟨rfl, hb2⟩; have HB2 := Lib.hid hb2; clear hb2)
      | (go_at_call 45; refine (HR1.out _ HB0.out).mono ?_; rintro e w1 ⟨rfl, hb1⟩; have HB1 := Lib.hid hb1; clear hb1; have HFIRST := True.intro))
    go_ret
    exact ⟨rfl, hop0 HB0.out (hop0 HB1.out HB2.out)⟩
end Go.Proofs.YtfkfgabepjpdlaaDoor
