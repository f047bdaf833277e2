/- segment: the chapter's example; calls of no log; the walk of SegmentNil. -/
import Derived.Test.YtcdgiplgkffomaaGreatDoorSgO
/- From FsNils. -/
namespace Go.Proofs.YtcdgiplgkffomaaGreatDoor
open Go.ChangeShapes Go.WideShapes Go.ChangeAt Go.RowKit Go.ChangeMaps Go.MapKept
set_option linter.unusedVariables false
theorem list_nil (d : ByteArray) (w : World) : Calls Tryz.prog 26 #[.pointer none, .string d] w fun e w' => e = .returned (.tuple #[.slice none 0 0, .int .i64 1]) ∧ w = w' := by
  go_enter Tryz.func26, Tryz.ntmps26
  go_wp2_with (go_at_call 46; refine (live_nil _ _ _).mono ?_; rintro e w1 ⟨rfl, rfl⟩)
  go_ret2
  exact ⟨rfl, rfl⟩
end Go.Proofs.YtcdgiplgkffomaaGreatDoor
/- From PlNil. -/
namespace Go.Proofs.YtcdgiplgkffomaaGreatDoor
open Go Go.ChangeShapes Go.WideShapes Go.ChangeAt Go.RowKit Go.ChangeMaps Go.MapKept
set_option linter.unusedVariables false
theorem clean_nil (d : ByteArray) (w : World) : Calls Tryz.prog 28 #[.pointer none, .string d] w fun e w' => e = .returned (.tuple #[.int .i64 0, .int .i64 1]) ∧ Below w.heap.size w w' := by
  go_enter Tryz.func28, Tryz.ntmps28
  go_wp2_with (go_at_call 26; refine (list_nil _ _).mono ?_; rintro e w1 ⟨rfl, rfl⟩)
  refine bodyPost_ret (v := .tuple #[.int .i64 0, .int .i64 1]) (by simp [results, Tryz.results28, go_sem]) rfl ?_
  exact ⟨rfl, Below.al (Below.al (Below.al (Below.al (Below.refl _ w) (Nat.le_refl _) _) (Nat.le_refl _) _) (Nat.le_refl _) _) (Nat.le_refl _) _⟩
theorem ready_nil (d : ByteArray) (w : World) : Calls Tryz.prog 15 #[.pointer none, .string d] w fun e w' => e = .returned (.tuple #[.slice none 0 0, .int .i64 1]) ∧ Below w.heap.size w w' := by
  go_enter Tryz.func15, Tryz.ntmps15
  go_wp2_with (first
    | (go_at_call 26; refine (list_nil _ _).mono ?_; rintro e w1 ⟨rfl, rfl⟩)
    | (go_at_call 28; refine (clean_nil _ _).mono ?_; rintro e w1 ⟨rfl, hb⟩; have HB := Lib.hid hb; clear hb))
  go_ret2
  exact ⟨rfl, HB.out⟩
end Go.Proofs.YtcdgiplgkffomaaGreatDoor

/- The chapter's example. -/
namespace Go.Proofs.YtcdgiplgkffomaaGreatDoor
open Go Go.ChangeShapes Go.WideShapes Go.ChangeAt Go.RowKit Go.ChangeMaps Go.MapKept
set_option linter.unusedVariables false
set_option linter.unusedSimpArgs false

def np : Nm := [112]
theorem np_right : right np = true := by decide
theorem lit2_at (w : World) (c d : UInt8) (u v : Int) (hu : u = (c.toNat : Int)) (hv : v = (d.toNat : Int)) : BytesAt (w.alloc (.cells #[.int .u8 u, .int .u8 v] 5 (2, 3))) (w.alloc (.cells #[.int .u8 u, .int .u8 v] 5 (2, 3))).heap.size (some ⟨w.heap.size, 0, none⟩) [c, d] := by
  subst hu hv
  intro j hj
  refine ⟨w.heap.size, 0, rfl, by simp, ?_⟩
  rw [Nat.zero_add, World.cell?_alloc_mark]
  have h2 : j = 0 ∨ j = 1 := by simp at hj; omega
  rcases h2 with rfl | rfl <;> rfl
/-- What lies at a place of an answer. -/
theorem recs_at {W : World} {B n c : Nat} {A : Option Addr} {vs : List Value} {bs : List (List UInt8)} (h : W.ownsRow B 33 1 (.slice A n c) n vs) (k : RecsAt W vs bs) (j : Nat) (hj : j < bs.length) :
    ∃ g A' c', A = some ⟨g, 0, none⟩ ∧ W.cell? ⟨g, j, none⟩ = some (.slice A' bs[j].length c') ∧ (convert 33 9 (.slice A' bs[j].length c')).run Tryz.prog W = .ok (.string (txt bs[j])) W := by
  obtain ⟨A', c', h1, h2, _⟩ := k.2 j hj
  have hn : n = vs.length := by have := h.1; omega
  have hl := k.1
  obtain ⟨g, cap, hv, _, _⟩ := h.form (by omega)
  have hc := h.cells (g := g) (by rw [hv]; rfl) j _ h1
  injection hv with e1 _ _
  rw [add_at, Nat.zero_add] at hc
  exact ⟨g, A', c', e1, hc, string_of_bytes A' _ c' _ W rfl h2⟩
section
variable {Q : Nat → Prop} {B l f cnt M : Nat} {dir : Nm} {room used size dur : Int} {fs : List Nat} {rs : List (List UInt8)} {s : Fs} {w w' : World}
theorem append_lit (h : Sg Q B l f dir room used cnt M size fs rs dur s w) (hsz : 1 ≤ size ∧ size ≤ 16777216) (hc : cnt < 4095) (hfl : fs.length ≤ 999980) (hM : M + 4 ≤ 1000000) (hBw : B ≤ w.heap.size) (hT : Tab B w) (hrs : rs.length < 16000) (c d : UInt8) (u v : Int) (hu' : u = (c.toNat : Int)) (hv : v = (d.toNat : Int)) (hu : used + 10 ≤ room) {fs2 : List Nat} {d2 : Int} (e1 : apF size fs rs = fs2) (e2 : apD size fs rs dur = d2) :
    Calls Tryz.prog 8 #[.pointer (some ⟨l, 0, none⟩), .slice (some ⟨w.heap.size, 0, none⟩) 2 2] (w.alloc (.cells #[.int .u8 u, .int .u8 v] 5 (2, 3))) fun e w' => e = .returned (.tuple #[.int .i64 (rs.length : Int), .int .i64 0]) ∧ ∃ s', Sg Q B l f dir room (used + 10) (cnt + 1) (M + 4) size fs2 (rs ++ [[c, d]]) d2 s' w' ∧ Turn Q B w w' ∧ OnlyD dir s s' := by
  have hb : Below w.heap.size w (w.alloc (.cells #[.int .u8 u, .int .u8 v] 5 (2, 3))) := (Below.refl _ w).alloc (Nat.le_refl _) _
  subst e1 e2
  refine (append_sg (h.below hb) hsz hc hfl hM (Nat.le_trans hBw hb.size) (hT.below (hb.mono hBw)) ⟨w.heap.size, 0, none⟩ 2 2 [c, d] rfl (by simp) (lit2_at w c d u v hu' hv) hrs (by simpa using hu)).mono ?_
  rintro e w' ⟨he, s', h1, h2, h3⟩
  exact ⟨he, s', by simpa using h1, (Turn.of hb hBw).trans h2, h3⟩
end
set_option maxHeartbeats 4000000 in
set_option maxRecDepth 20000 in
theorem alive_sg (w : World) (hT : Tab w.heap.size w) : Calls Tryz.prog 5 #[] w fun e w' => e = .returned (.bool true) ∧ Below w.heap.size w w' := by
  have HTAB := Lib.hid (fun (w1 : World) (hb : Below w.heap.size w w1) => (hT.below hb : Tab w.heap.size w1))
  clear hT
  have kc := fun (w : World) (C : Array Value) (n c : Nat) => Lib.run_convert_bytes_const (P := Tryz.prog) w 33 5 C n c Tryz.underlying33 Tryz.underlying5
  go_enter Tryz.func5, Tryz.ntmps5
  go_wp2_with (first
    | (go_at_call 6; go_loud (refine (new_any (Kp := fun _ => False) 1000 rfl w (fun _ h => h.elim)).mono ?_); rintro e w1 ⟨f, rfl, h1, h2⟩; have HR1 := Lib.hid h1; have HB1 := Lib.hid h2; clear h1 h2)
    | (go_at_call 7; go_loud (refine (open_sg (dir := np) HR1.out (WfK.new (room := 1000) rfl) gl_new np_right (by simp [newFs]) (by simp [newFs]) (by decide) HB1.out.size (HTAB.out _ HB1.out) ⟨by decide, by decide⟩).mono ?_; rintro e w2 ⟨l, s2, rfl, hm, ht, _, _⟩; have HM2 := Lib.hid hm; have HB2 := Lib.hid (HB1.out.trans ht.below); clear hm ht))
    | (go_at_call 8; have HSEC := HM3; go_loud (refine (append_lit HM3.out ⟨by decide, by decide⟩ (by decide) (by decide) (by decide) HB3.out.size (HTAB.out _ HB3.out) (by decide) 99 100 99 100 rfl rfl (by decide) (fs2 := [0, 1]) (d2 := 1) rfl rfl).mono ?_; rintro e w4 ⟨rfl, s4, hm, ht, _⟩; have HM4 := Lib.hid hm; have HB4 := Lib.hid (HB3.out.trans ht.below); clear hm ht))
    | (go_at_call 8; go_loud (refine (append_lit HM2.out ⟨by decide, by decide⟩ (by decide) (by decide) (by decide) HB2.out.size (HTAB.out _ HB2.out) (by decide) 97 98 97 98 rfl rfl (by decide) (fs2 := [0]) (d2 := 0) rfl rfl).mono ?_; rintro e w3 ⟨rfl, s3, hm, ht, _⟩; have HM3 := Lib.hid hm; have HB3 := Lib.hid (HB2.out.trans ht.below); clear hm ht))
    | (go_at_call 9; go_loud (refine (read_sg HM4.out (by decide) HB4.out.size (HTAB.out _ HB4.out) 1 2 (by decide) (by decide)).mono ?_; rintro e w5 ⟨A, c, vs, rfl, p1, p2, p3⟩; obtain ⟨g, A', c', rfl, k1, k2⟩ := recs_at p1 p2 0 (by decide); have HM5 := Lib.hid (HM4.out.below p3); have HB5 := Lib.hid (HB4.out.trans (p3.mono HB4.out.size)); clear p1 p2 p3; replace k1 : w5.cell? ⟨g, 0, none⟩ = some (.slice A' 2 c') := k1; replace k2 : (convert 33 9 (.slice A' 2 c')).run Tryz.prog w5 = .ok (.string ⟨#[99, 100]⟩) w5 := k2))
    | (go_at_call 13; go_loud (refine (segments_sg HM5.out).mono ?_; rintro e w6 ⟨rfl, rfl⟩))
    | (go_at_call 12; go_loud (refine (durable_sg HM5.out).mono ?_; rintro e w6 ⟨rfl, rfl⟩)))
  go_ret
  exact ⟨rfl, HB5.out⟩
end Go.Proofs.YtcdgiplgkffomaaGreatDoor
