/- Layer 13, walked: Check (the reference); the law Forms. -/
import Derived.Test.YtclcabdekeegdaaGreatExQ7
namespace Go.Proofs.YtclcabdekeegdaaGreat
open Go.ChangeShapes Go.WideShapes Go.ChangeAt Go.RowKit
set_option linter.unusedVariables false
set_option linter.unusedSimpArgs false
/-- Check, where the size was counted till a thousand. -/
def rcheckX (e : X) : Int := if 256 < (szX e 0 0).1 ∨ 16 < (szX e 0 0).2 then 131 else if formX e = false then 130 else 0
theorem rcheck_eq {e : X} (h : hugeX e = false) : rcheckX e = checkX e := by
  obtain ⟨h1, h2, _, _⟩ := huge_not h
  unfold rcheckX checkX
  rw [h1, h2]
set_option maxRecDepth 40000 in
theorem rchk_any (e : X) (hw : e.wf) (A : Option Addr) (c : Nat) (w : World) (hk : KidsAt w w.heap.size e A c) :
    Calls Tryz.prog 13 #[e.val A c] w fun en w' => en = .returned (.int .i64 (rcheckX e)) ∧ Below w.heap.size w w' := by
  obtain ⟨W1, hW1⟩ : ∃ W1, w.alloc (e.obj A c) = W1 := ⟨_, rfl⟩
  have hb1 : Below w.heap.size w W1 := by rw [← hW1]; exact (Below.refl _ _).alloc (Nat.le_refl _) _
  have hq1 : W1.heap[w.heap.size]? = some (e.obj A c) := by rw [← hW1]; exact obj_box _ _ _ _
  have HB1 := Lib.hid hb1
  have HQ1 := Lib.hid hq1
  have HS := Lib.hid (rsize_any e A c 0 0 W1 (by decide) (by decide) (KidsAt.more hb1.size (hk.below hb1)))
  have HF := Lib.hid (fun (W : World) (h : Below w.heap.size w W) => rform_any e hw A c W (KidsAt.more h.size (hk.below h)))
  obtain ⟨p0, p1, p2, p3, p4, p5⟩ := obj_cells hq1
  unfold rcheckX
  obtain ⟨⟨n2, m2⟩, hz⟩ : ∃ z, szX e 0 0 = z := ⟨_, rfl⟩
  obtain ⟨l, hl⟩ : ∃ l, formX e = l := ⟨_, rfl⟩
  rw [hz] at HS ⊢
  rw [hl] at HF ⊢
  dsimp only at HS ⊢
  clear hz hl hk hb1 hq1
  unfold X.obj at hW1
  unfold X.val at HS HF ⊢
  simp only [Int.natCast_zero] at HS
  by_cases h1 : 256 < n2
  · rw [if_pos (.inl h1)]
    have q1 : (256 : Int) < (n2 : Int) := by omega
    go_enter Tryz.func13, Tryz.ntmps13
    go_wp2_with (go_at_call 36; refine HS.out.mono ?_; rintro e w2 ⟨rfl, hb2⟩; have HB2 := Lib.hid (hop0 HB1.out hb2); clear hb2)
    go_ret
    exact ⟨rfl, HB2.out⟩
  · have q1 : ¬ (256 : Int) < (n2 : Int) := by omega
    by_cases h2 : 16 < m2
    · rw [if_pos (.inr h2)]
      have q2 : (16 : Int) < (m2 : Int) := by omega
      go_enter Tryz.func13, Tryz.ntmps13
      go_wp2_with (go_at_call 36; refine HS.out.mono ?_; rintro e w2 ⟨rfl, hb2⟩; have HB2 := Lib.hid (hop0 HB1.out hb2); clear hb2)
      go_ret
      exact ⟨rfl, HB2.out⟩
    · rw [if_neg (by omega)]
      have q2 : ¬ (16 : Int) < (m2 : Int) := by omega
      cases l with
      | false =>
        rw [if_pos rfl]
        go_enter Tryz.func13, Tryz.ntmps13
        go_wp2_with (first
          | (go_at_call 36; refine HS.out.mono ?_; rintro e w2 ⟨rfl, hb2⟩; obtain ⟨p0, p1, p2, p3, p4, p5⟩ := obj_cells ((hb2.block _ (Array.getElem?_eq_some_iff.1 HQ1.out).1).trans HQ1.out); have HB2 := Lib.hid (hop0 HB1.out hb2); clear hb2)
          | (go_at_call 37; refine (HF.out _ HB2.out).mono ?_; rintro e w3 ⟨rfl, hb3⟩; have HB3 := Lib.hid (hop0 HB2.out hb3); clear hb3))
        go_ret
        exact ⟨rfl, HB3.out⟩
      | true =>
        rw [if_neg (by decide)]
        go_enter Tryz.func13, Tryz.ntmps13
        go_wp2_with (first
          | (go_at_call 36; refine HS.out.mono ?_; rintro e w2 ⟨rfl, hb2⟩; obtain ⟨p0, p1, p2, p3, p4, p5⟩ := obj_cells ((hb2.block _ (Array.getElem?_eq_some_iff.1 HQ1.out).1).trans HQ1.out); have HB2 := Lib.hid (hop0 HB1.out hb2); clear hb2)
          | (go_at_call 37; refine (HF.out _ HB2.out).mono ?_; rintro e w3 ⟨rfl, hb3⟩; have HB3 := Lib.hid (hop0 HB2.out hb3); clear hb3))
        go_ret
        exact ⟨rfl, HB3.out⟩
end Go.Proofs.YtclcabdekeegdaaGreat
