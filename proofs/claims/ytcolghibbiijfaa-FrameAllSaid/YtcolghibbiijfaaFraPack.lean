/- The walks of Pack and One. -/
import Derived.Test.YtcolghibbiijfaaFraFirst
import Derived.Laws.MakeOwn
namespace Go.Proofs.Ytcolghibbiijfaa
open Go.ChangeShapes Go.WideShapes Go.ChangeAt Go.RowKit
open Go.Lib (byteCells byteCells_length byteCells_append strCells)
set_option linter.unusedVariables false

theorem be4_cells (n : Nat) (h : n < 4294967296) : [Value.int .u8 ((n : Int) / 16777216), .int .u8 ((n : Int) / 65536 % 256), .int .u8 ((n : Int) / 256 % 256), .int .u8 ((n : Int) % 256)] = byteCells (be4 n) := by
  simp only [byteCells, be4, List.map_cons, List.map_nil, u8n, List.cons.injEq, Value.int.injEq, true_and, and_true]
  omega

/-- What is put behind bytes of the call's own. -/
def OntoPost (B : Nat) (bs : List UInt8) (w : World) (e : Ending) (w' : World) : Prop :=
  ∃ A n c, e = .returned (.slice A n c) ∧ Buf B A n c bs w' ∧ Keep B w w'
set_option maxHeartbeats 1000000 in
theorem with_any (n : Nat) (hn : n < 4294967296) (bs : List UInt8) (B : Nat) (A : Option Addr) (len c : Nat) (w : World) (hl : bs.length ≤ 1099511627770) (hb : Buf B A len c bs w) :
    Calls Try.prog 18 #[.slice A len c, .int .u32 (n : Int)] w (OntoPost B (bs ++ be4 n) w) := by
  have HB := Lib.hid hb
  have HC := Lib.hid (be4_cells n hn)
  clear hb
  go_enter Try.func18, Try.ntmps18
  go_wp2_with (at_builtin; go_loud (refine append_bytes rfl _ _ rfl B _ _ _ bs rfl w (be4 n) 4 HB.out w.heap.size rfl rfl rfl _ (HC.out) (by rw [be4_length]; omega) ?_); intro A1 n1 c1 w1 hn1 hb1 hk1; have HB1 := Lib.hid hb1; have HK1 := Lib.hid hk1; clear hb1 hk1 hn1)
  go_ret
  exact ⟨_, _, _, rfl, HB1.out, HK1.out⟩

theorem Buf.keepBytes {w w' : World} {B : Nat} {A : Option Addr} {l : List UInt8} (h : BytesAt w B A l) (hk : Keep B w w') : BytesAt w' B A l := h.below hk.below
set_option maxHeartbeats 2000000 in
theorem pack_any (l : List UInt8) (len c : Nat) (a : Addr) (w : World) (hl : len = l.length) (hm : len ≤ 16777208) (hr : BytesAt w w.heap.size (some a) l) :
    Calls Try.prog 10 #[.slice (some a) len c] w fun e w' => ∃ A n c', e = .returned (.tuple #[.slice A n c', .int .i64 0]) ∧ Buf w.heap.size A n c' (fr l) w' ∧ Below w.heap.size w w' := by
  obtain ⟨i0, hi, hz0, hz1, hz2⟩ := info_parts infoByte
  obtain ⟨M, hM⟩ : ∃ M, M = madeCells (Value.int .u8 0).cells ((8 + len) * i0.size) := ⟨_, rfl⟩
  have hMs : M.size = 8 + len := by rw [hM, size_madeCells, hz1, Nat.mul_one]
  have hmk : ∀ W : World, (Instr.makeSlice 23 (.int .i64 0) (.int .i64 (8 + (len : Int)))).run Try.prog W = .ok (.slice (some ⟨W.heap.size, 0, none⟩) 0 (8 + len)) (W.alloc (.cells M 5)) := fun W => by
    have h := run_make (P := Try.prog) W 23 5 i0 (.int .u8 0) Try.underlying23 hi hz0 .i64 .i64 0 (8 + (len : Int)) (by omega) (by omega) (by rw [hz2]; omega) (by omega)
    rw [show (8 + (len : Int)).toNat = 8 + len by omega, ← hM] at h
    simpa using h
  have HI := Lib.hid hi
  have HZ0 := Lib.hid hz0
  have HZ1 := Lib.hid hz1
  have HZ2 := Lib.hid hz2
  have HM := Lib.hid hMs
  have HL := Lib.hid hl
  have HR := Lib.hid hr
  have HB0 := Lib.hid (show Buf w.heap.size (some ⟨w.heap.size, 0, none⟩) 0 (8 + len) [] (w.alloc (.cells M 5)) from
    ⟨rfl, by simp, World.ownsRow_made w M (8 + len) (Nat.le_refl _) (by unfold maxLen; omega) (by rw [hMs, Nat.mul_one])⟩)
  have HK0 := Lib.hid ((Keep.refl w.heap.size w).alloc (Nat.le_refl _) (.cells M 5))
  obtain ⟨S, hS⟩ : ∃ S, moreN 0 (be4 len ++ l) = S := ⟨_, rfl⟩
  have hSl : S < 4294967296 := by rw [← hS]; exact moreN_lt _ _
  have HS := Lib.hid hS
  have HFR := Lib.hid (show fr l = ([] ++ be4 len ++ be4 S) ++ l by unfold fr; rw [← hl, hS]; simp)
  clear hi hz0 hz1 hz2 hM hMs hl hr hS
  have hd : decide ((16777208 : Int) < (len : Int)) = false := decide_eq_false (by omega)
  have hn32 : len < 4294967296 := by omega
  go_enter Try.func10, Try.ntmps10
  go_wp2_with (first
    | (go_at_call 19; go_loud (refine (sum_any ([] ++ be4 len) l _ len HB1.out.1 HL.out (by have := HB1.out.1; simp [be4_length] at this; unfold maxLen; omega) (by unfold maxLen; omega) _ w.heap.size _ (some a) _ c _ HB1.out.bytes (HR.out.below HK1.out.below)).mono ?_); rw [List.nil_append, HS.out]; rintro e w' ⟨rfl, rfl⟩)
    | (go_at_call 18; have HT := HB1; refine (with_any S hSl ([] ++ be4 len) w.heap.size _ _ _ _ (by simp [be4_length]) HB1.out).mono ?_; rintro e w2 ⟨A2, n2, c2, rfl, hb2, hk2⟩; have HB2 := Lib.hid hb2; have HK2 := Lib.hid (HK1.out.trans hk2); clear hb2 hk2)
    | (go_at_call 18; refine (with_any len hn32 [] w.heap.size _ _ _ _ (by simp) HB0.out).mono ?_; rintro e w1 ⟨A1, n1, c1, rfl, hb1, hk1⟩; have HB1 := Lib.hid hb1; have HK1 := Lib.hid (HK0.out.trans hk1); clear hb1 hk1)
    | (at_builtin; go_loud (refine wpList_append_own_at _ rfl _ _ 23 rfl w.heap.size 5 i0 _ 1 1 Try.underlying23 HI.out HZ0.out HZ1.out HZ2.out rfl (by decide) _ n2 (byteCells ([] ++ be4 len ++ be4 S)) rfl HB2.out.2.2 a len c (byteCells l) rfl (by rw [byteCells_length, HL.out, Nat.mul_one]) ((HR.out.below HK2.out.below).some_) (byte_one _) (by have := HB2.out.1; simp [be4_length] at this; unfold maxLen; omega) (by have := HB2.out.1; simp [be4_length] at this; omega) HB2.out.2.1 ?_); intro v3 w3 hown hg _ _; have HO := Lib.hid hown; have HG := Lib.hid (Keep.grown HB2.out hg); clear hown hg))
  go_ret2
  obtain ⟨A3, c3, rfl⟩ := own_slice HO.out
  have hbel := HK2.out.trans HG.out
  refine ⟨A3, n2 + len, c3, rfl, ⟨?_, hbel.size, ?_⟩, hbel.below⟩
  · rw [HFR.out, List.length_append, ← HB2.out.1, HL.out]
  · rw [HFR.out, byteCells_append]; exact HO.out

/-- What One answers. -/
def OnePost (l : List UInt8) (w : World) (e : Ending) (w' : World) : Prop :=
  Below w.heap.size w w' ∧ ((∃ x A c, fst l = some x ∧ 8 + x.length = l.length ∧ e = .returned (.tuple #[.slice A x.length c, .int .i64 0]) ∧ Buf w.heap.size A x.length c x w') ∨
    ((∀ x, fst l = some x → 8 + x.length ≠ l.length) ∧ e = .returned (.tuple #[.slice none 0 0, .int .i64 52])))
theorem OnePost.some_ {l x : List UInt8} {w w' : World} {e : Ending} (h : OnePost l w e w') (hf : fst l = some x) (h8 : 8 + x.length = l.length) : ∃ A c, e = .returned (.tuple #[.slice A x.length c, .int .i64 0]) ∧ Buf w.heap.size A x.length c x w' ∧ Below w.heap.size w w' := by
  obtain ⟨hb, (⟨y, A, c, h1, _, h2, h3⟩ | ⟨h1, _⟩)⟩ := h
  · rw [hf] at h1; injection h1 with h1; subst h1
    exact ⟨A, c, h2, h3, hb⟩
  · exact absurd h8 (h1 x hf)
theorem OnePost.none_ {l : List UInt8} {w w' : World} {e : Ending} (h : OnePost l w e w') (hf : ∀ x, fst l = some x → 8 + x.length ≠ l.length) : e = .returned (.tuple #[.slice none 0 0, .int .i64 52]) ∧ Below w.heap.size w w' := by
  obtain ⟨hb, (⟨y, A, c, h1, h8, _⟩ | ⟨_, h2⟩)⟩ := h
  · exact absurd h8 (hf y h1)
  · exact ⟨h2, hb⟩
set_option maxHeartbeats 2000000 in
theorem one_any (l : List UInt8) (len c : Nat) (hl : len = l.length) (hc : len ≤ c) (hs : c ≤ maxLen) (hm : len ≤ 1099511627776) (A : Option Addr) (w : World) (hr : BytesAt w w.heap.size A l) :
    Calls Try.prog 12 #[.slice A len c] w (OnePost l w) := by
  have HL := Lib.hid hl
  have HR := Lib.hid hr
  have HF := Lib.hid (first_any l len c hl hc hs w.heap.size A w hr)
  clear hl hr hs
  rcases hf : fst l with _ | x
  · have HX := Lib.hid hf
    clear hf
    go_enter Try.func12, Try.ntmps12
    go_wp2_with (go_at_call 22; refine HF.out.mono ?_; intro e w' h; obtain ⟨k, rfl, rfl⟩ := h.none_ HX.out; clear h)
    go_ret2
    exact ⟨below_drewN _ _, .inr ⟨(by rw [HX.out]; intro x h; cases h), rfl⟩⟩
  · have HX := Lib.hid hf
    have HX8 := Lib.hid (fst_back hf).1
    have hxm : x.length ≤ 1099511627776 := by have := (fst_back hf).1; have := HL.out; omega
    clear hf
    by_cases h8 : 8 + x.length = len
    · have hx : ((8 + (x.length : Int)) != (len : Int)) = false := by rw [bne_eq_false_iff_eq]; omega
      have H8 := Lib.hid h8
      clear h8
      obtain ⟨m, HM⟩ : ∃ m, Hid (x.length = m) := ⟨_, Lib.hid rfl⟩
      go_enter Try.func12, Try.ntmps12
      go_wp2_with (first
        | (go_at_call 22; refine HF.out.mono ?_; intro e w' h; obtain ⟨k, a, c1, rfl, rfl, hy1, hy2, hy3⟩ := h.some_ HX.out; clear h; have HY := Lib.hid hy3; clear hy3)
        | (go_at_call 23; go_loud (refine (clone_any x x.length c1 (some a) (w.drewN k) rfl hxm w.heap.size (below_drewN w k).size (HY.out.drewN k)).mono ?_); rintro e w2 ⟨A2, c2, rfl, hb2, hk2⟩; have HB2 := Lib.hid hb2; have HK2 := Lib.hid ((below_drewN w k).trans hk2); clear hb2 hk2))
      go_ret2
      exact ⟨HK2.out, .inl ⟨x, _, _, HX.out, by rw [H8.out, HL.out], rfl, HB2.out⟩⟩
    · have hx : ((8 + (x.length : Int)) != (len : Int)) = true := by rw [bne_iff_ne]; omega
      have H8 := Lib.hid h8
      clear h8
      go_enter Try.func12, Try.ntmps12
      go_wp2_with (go_at_call 22; refine HF.out.mono ?_; intro e w' h; obtain ⟨k, a, c1, rfl, rfl, hy1, hy2, hy3⟩ := h.some_ HX.out; clear h hy3)
      go_ret2
      exact ⟨below_drewN _ _, .inr ⟨(by rw [HX.out]; intro y h; injection h with h; subst h; rw [← HL.out]; exact H8.out), rfl⟩⟩
end Go.Proofs.Ytcolghibbiijfaa
