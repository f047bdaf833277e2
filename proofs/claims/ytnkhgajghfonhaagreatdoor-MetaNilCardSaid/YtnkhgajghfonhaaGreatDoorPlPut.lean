/- place.Put, place.Get. -/
import Derived.Test.YtnkhgajghfonhaaGreatDoorPlB
namespace Go.Proofs.YtnkhgajghfonhaaGreatDoor
open Go.ChangeShapes Go.WideShapes Go.ChangeAt Go.RowKit Go.ChangeMaps Go.MapKept
open Go.Lib (byteCells byteCells_length byteCells_append strCells)
set_option linter.unusedVariables false

theorem own_caps {w : World} {B n c sz : Nat} {t : TypeId} {A : Option Addr} {xs : List Value} (h : w.ownsRow B t sz (.slice A n c) n xs) : n ≤ c ∧ c ≤ maxLen := by
  rcases h.2 with ⟨hx, hy⟩ | ⟨g, cap, cur, hx, _, _, h1, h2, _⟩
  · injection hx with _ h1 h2
    subst h1; subst h2
    exact ⟨Nat.le_refl _, by decide⟩
  · injection hx with _ _ h3
    subst h3
    exact ⟨h1, h2⟩
/-- Bytes in new memory, which is kept from now on. -/
theorem Buf.turn {Kp : Nat → Prop} {B B0 n c : Nat} {A : Option Addr} {bs : List UInt8} {w W : World} (h : Buf B0 A n c bs w) (k : Turn (With Kp B0 w.heap.size) B w W) : Buf B0 A n c bs W :=
  ⟨h.1, Nat.le_trans h.2.1 k.size, own_ch h.2.2 k.ch fun b hb hn => by
    obtain ⟨d, hd, hB⟩ := own_cells h.2.2 hb
    exact hn (.inr ⟨hB, hd.lt⟩)⟩
section
variable {Kp : Nat → Prop} {B f : Nat} {s : Fs} {w : World}
set_option maxHeartbeats 1000000 in
theorem put_any {K : Nat} (h : Rep Kp B f s w) (wf : WfK K s) (hK : K + 6 ≤ 1000000) (hBw : B ≤ w.heap.size) (dir name : Nm) (n c : Nat) (a : Addr) (b : List UInt8) (hn : n = b.length) (hnm : n ≤ 16777208)
    (hsrc : BytesAt w w.heap.size (some a) b) :
    Calls Tryz.prog 40 #[.pointer (some ⟨f, 0, none⟩), .string (txt dir), .string (txt name), .slice (some a) n c] w (RawPost Kp B f s dir name (fr b) w) := by
  have HP := Lib.hid (pack_any b n c a w hn hnm hsrc)
  have HR := Lib.hid (show ∀ (w1 : World) (A : Option Addr) (m c' : Nat), Buf w.heap.size A m c' (fr b) w1 → Below w.heap.size w w1 → Calls Tryz.prog 71 #[.pointer (some ⟨f, 0, none⟩), .string (txt dir), .string (txt name), .slice A m c'] w1 (RawPost Kp B f s dir name (fr b) w) from fun w1 A m c' hb hk => by
    have hm : m = 8 + b.length := by rw [hb.1, fr_length]
    obtain ⟨g, off, rfl, _⟩ := hb.bytes 0 (by rw [fr_length]; omega)
    have ht0 : Turn Kp B w w1 := Turn.of hk hBw
    refine (raw_any (h.keep hk) wf hK (Nat.le_trans hBw hk.size) dir name m c' ⟨g, off, none⟩ (fr b) hb.1 (by omega) (fun W ht => (hb.turn ht).bytes)).mono fun e w' ⟨x, hx, he, hr, ht⟩ => ?_
    exact ⟨x, hx, he, hr.kept_, ht0.trans ht.kept⟩)
  clear h wf hsrc hn
  go_enter Tryz.func40, Tryz.ntmps40
  go_wp2_with (first
    | (go_at_call 70; refine HP.out.mono ?_; rintro e w1 ⟨A, m, c', rfl, h1, h2⟩; have H1 := Lib.hid h1; have H2 := Lib.hid h2; clear h1 h2)
    | (go_at_call 71; refine (HR.out w1 A m c' H1.out H2.out).mono ?_; rintro e w2 ⟨x, hx, rfl, hr, ht⟩; have HX := Lib.hid (And.intro hx (And.intro hr ht)); clear hx hr ht))
  go_ret
  exact ⟨x, HX.out.1, rfl, HX.out.2⟩

/-! ### Get -/
def oneB (l : List UInt8) : Option (List UInt8) := match fst l with | some x => if 8 + x.length = l.length then some x else none | none => none
def oneE : Option (List UInt8) → Int
  | some _ => 0
  | none => 70
def oneL : Option (List UInt8) → List UInt8
  | some x => x
  | none => []
def getE (s : Fs) (dir name : Nm) : Int := if lfE s dir name [] = 0 then oneE (oneB (readB s dir name)) else lfE s dir name []
def getB (s : Fs) (dir name : Nm) : List UInt8 := if lfE s dir name [] = 0 then oneL (oneB (readB s dir name)) else []
theorem readB_len {K : Nat} (wf : WfK K s) (dir name : Nm) : (readB s dir name).length ≤ 16777216 := by
  unfold readB
  split
  · exact (wf.bytes _).1
  · simp
theorem OnePost.ways {l : List UInt8} {w w' : World} {e : Ending} (h : OnePost l w e w') : Below w.heap.size w w' ∧ ((∃ x A c, oneB l = some x ∧ e = .returned (.tuple #[.slice A x.length c, .int .i64 0]) ∧ Buf w.heap.size A x.length c x w') ∨ (oneB l = none ∧ e = .returned (.tuple #[.slice none 0 0, .int .i64 52]))) := by
  obtain ⟨hb, ⟨x, A, c, h1, h2, h3, h4⟩ | ⟨h1, h2⟩⟩ := h
  · exact ⟨hb, .inl ⟨x, A, c, by unfold oneB; rw [h1]; simp [h2], h3, h4⟩⟩
  · refine ⟨hb, .inr ⟨?_, h2⟩⟩
    unfold oneB
    cases hf : fst l with
    | none => rfl
    | some x => simp [h1 x hf]
set_option maxHeartbeats 1000000 in
theorem get_any {K : Nat} (h : Rep Kp B f s w) (wf : WfK K s) (hK : K ≤ 1000000) (dir name : Nm) :
    Calls Tryz.prog 62 #[.pointer (some ⟨f, 0, none⟩), .string (txt dir), .string (txt name)] w (ReadPost (getE s dir name) (getB s dir name) w) := by
  have HR := Lib.hid (read_any h (wf.wf hK) dir name)
  have hlen := readB_len wf dir name
  unfold getE getB
  obtain ⟨l, hl⟩ : ∃ l, readB s dir name = l := ⟨_, rfl⟩
  rw [hl] at HR hlen ⊢
  obtain ⟨E, hE⟩ : ∃ E, lfE s dir name [] = E := ⟨_, rfl⟩
  rw [hE] at HR ⊢
  have HO := Lib.hid (show ∀ (w1 : World) (A : Option Addr) (n c : Nat), Buf w.heap.size A n c l w1 → Calls Tryz.prog 89 #[.slice A n c] w1 fun e w' => Below w1.heap.size w1 w' ∧ ((∃ x A c, oneB l = some x ∧ e = .returned (.tuple #[.slice A x.length c, .int .i64 0]) ∧ Buf w1.heap.size A x.length c x w') ∨ (oneB l = none ∧ e = .returned (.tuple #[.slice none 0 0, .int .i64 52]))) from fun w1 A n c hb =>
    (one_any l n c hb.1 (own_caps hb.2.2).1 (own_caps hb.2.2).2 (by rw [hb.1]; omega) A w1 hb.bytes).mono fun e w' h => h.ways)
  clear h wf hl hE hlen
  by_cases h0 : E = 0
  · subst h0
    rw [if_pos rfl, if_pos rfl]
    go_enter Tryz.func62, Tryz.ntmps62
    go_wp2_with (first
      | (go_at_call 88; refine HR.out.mono ?_; rintro e w1 ⟨A, n, c, rfl, h1, h2⟩; have H1 := Lib.hid h1; have H2 := Lib.hid h2; clear h1 h2)
      | (go_at_call 89; refine (HO.out w1 A n c H1.out).mono ?_; rintro e w2 ⟨h3, (⟨x, A2, c2, h4, rfl, h5⟩ | ⟨h4, rfl⟩)⟩; all_goals (have H3 := Lib.hid h3; have H4 := Lib.hid h4; try have H5 := Lib.hid h5; clear h3 h4; try clear h5)))
    · go_ret2
      rw [H4.out]
      exact ⟨_, _, _, rfl, H5.out.more H2.out.size, H2.out.trans (H3.out.mono H2.out.size)⟩
    · go_ret2
      rw [H4.out]
      exact ⟨none, 0, 0, rfl, Buf.nil _ _ (Nat.le_trans H2.out.size H3.out.size), H2.out.trans (H3.out.mono H2.out.size)⟩
  · rw [if_neg h0, if_neg h0]
    have hne : (E != 0) = true := by rw [bne_iff_ne]; exact h0
    go_enter Tryz.func62, Tryz.ntmps62
    go_wp2_with (first
      | (go_at_call 88; refine HR.out.mono ?_; rintro e w1 ⟨A, n, c, rfl, h1, h2⟩; have H1 := Lib.hid h1; have H2 := Lib.hid h2; clear h1 h2))
    go_ret2
    exact ⟨none, 0, 0, rfl, Buf.nil _ _ H2.out.size, H2.out⟩
end
end Go.Proofs.YtnkhgajghfonhaaGreatDoor
