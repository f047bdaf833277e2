/- Layer 13, walked: Kind (the reference); the law Kinds. -/
import Derived.Test.YtclcabdekeegdaaGreatExQ9W
import Derived.Test.YtclcabdekeegdaaGreatExIW
namespace Go.Proofs.YtclcabdekeegdaaGreat
open Go.ChangeShapes Go.WideShapes Go.ChangeAt Go.RowKit
set_option linter.unusedVariables false
set_option linter.unusedSimpArgs false
def rkindX (e : X) (cs : List C) : Int × Int := if rightB cs = false then (0, 120) else if rcheckX e ≠ 0 then (0, rcheckX e) else kindX cs e
theorem rkind_eq {e : X} {cs : List C} (h : hugeX e = false) : rkindX e cs = kindE e cs := by
 unfold rkindX kindE
 rw [rcheck_eq h]
theorem rcheck_form {e : X} (h : rcheckX e = 0) : formX e = true := by
 unfold rcheckX at h
 split at h
 ·cases h
 ·split at h
  ·cases h
  ·rename_i hf; simpa using hf
set_option maxHeartbeats 4000000 in
set_option maxRecDepth 40000 in
theorem rkind_any (e : X) (hwe : e.wf) (cs : List C) (hwc : ∀ c ∈ cs, c.wf) (A : Option Addr) (c : Nat) (cA : Option Addr) (cc : Nat) (w : World) (hcl : cs.length ≤ maxLen) (hk : KidsAt w w.heap.size e A c) (hc : Row2 w w.heap.size cA cs) :
  Calls Tryz.prog 17 #[e.val A c, .slice cA cs.length cc] w fun en w' => en = endI (rkindX e cs) ∧ Below w.heap.size w w' := by
 obtain ⟨W1, hW1⟩ : ∃ W1, w.alloc (e.obj A c) = W1 := ⟨_, rfl⟩
 have hb1 : Below w.heap.size w W1 := by rw [← hW1]; exact (Below.refl _ _).alloc (Nat.le_refl _) _
 have hq1 : W1.heap[w.heap.size]? = some (e.obj A c) := by rw [← hW1]; exact obj_box _ _ _ _
 have HCK := Lib.hid (rright_any cs hwc cs.length cc cA W1 rfl hcl ((hc.below hb1).more hb1.size))
 have HQ1 := Lib.hid hq1
 have HB1 := Lib.hid hb1
 have HX := Lib.hid (fun (W : World) (hb : Below w.heap.size w W) => rchk_any e hwe A c W (KidsAt.more hb.size (hk.below hb)))
 obtain ⟨p0, p1, p2, p3, p4, p5⟩ := obj_cells hq1
 obtain ⟨E, hE⟩ : ∃ E, endI (rkindX e cs) = E := ⟨_, rfl⟩
 rw [hE]
 have HE := Lib.hid hE
 by_cases hr : rightB cs = true
 ·rw [hr] at HCK
  obtain ⟨x, hx⟩ : ∃ x, rcheckX e = x := ⟨_, rfl⟩
  rw [hx] at HX
  by_cases h0 : x = 0
  ·have hf := rcheck_form (hx.trans h0)
   have HO := Lib.hid (fun (W : World) (hb : Below w.heap.size w W) => rof_any cs cA cc hcl e hf A c W (KidsAt.more hb.size (hk.below hb)) ((hc.below hb).more hb.size))
   subst h0
   have HE2 := Lib.hid (show E = endI (kindX cs e) by rw [← HE.out]; unfold rkindX; rw [if_neg (by simp [hr]), if_neg (by simp [hx])])
   unfold endI at HO HE2
   clear hx hr hk hc hb1 hq1 hE
   unfold X.obj at hW1
   unfold X.val at HX HO ⊢
   go_enter Tryz.func17, Tryz.ntmps17
   go_wp2_with (first
    | (go_at_call 26; refine HCK.out.mono ?_; rintro en w2 ⟨rfl, rfl⟩)
    | (go_at_call 13; refine (HX.out _ HB1.out).mono ?_; rintro en w3 ⟨rfl, hb3⟩; have HB3 := Lib.hid (hop0 HB1.out hb3); obtain ⟨p0, p1, p2, p3, p4, p5⟩ := obj_cells ((hb3.block _ (lt_of_heap HQ1.out)).trans HQ1.out); clear hb3)
    | (go_at_call 42; refine (HO.out _ HB3.out).mono ?_; rintro en w4 ⟨rfl, hb4⟩; have HB4 := Lib.hid (hop0 HB3.out hb4); clear hb4))
   refine bodyPost_ret (by simp [results, Tryz.results17, go_sem]) rfl ⟨HE2.out.symm, HB4.out⟩
  ·have HX2 := Lib.hid (show E = .returned (.tuple #[.int .i64 0, .int .i64 x]) by rw [← HE.out]; unfold rkindX; rw [if_neg (by simp [hr]), if_pos (by rw [hx]; exact h0), hx]; rfl)
   have q0 : (x != 0) = true := by simpa using h0
   clear hx hr h0 hk hc hb1 hq1 hE
   unfold X.obj at hW1
   unfold X.val at HX ⊢
   go_enter Tryz.func17, Tryz.ntmps17
   go_wp2_with (first
    | (go_at_call 26; refine HCK.out.mono ?_; rintro en w2 ⟨rfl, rfl⟩)
    | (go_at_call 13; refine (HX.out _ HB1.out).mono ?_; rintro en w3 ⟨rfl, hb3⟩; have HB3 := Lib.hid (hop0 HB1.out hb3); clear hb3))
   refine bodyPost_ret (by simp [results, Tryz.results17, go_sem]) rfl ⟨HX2.out.symm, HB3.out⟩
 ·have hr2 : rightB cs = false := by simpa using hr
  rw [hr2] at HCK
  have HX2 := Lib.hid (show E = .returned (.tuple #[.int .i64 0, .int .i64 120]) by rw [← HE.out]; unfold rkindX; rw [if_pos hr2]; rfl)
  clear hr hr2 hk hc hb1 hq1 hE
  unfold X.obj at hW1
  unfold X.val
  go_enter Tryz.func17, Tryz.ntmps17
  go_wp2_with (go_at_call 26; refine HCK.out.mono ?_; rintro en w2 ⟨rfl, rfl⟩)
  refine bodyPost_ret (by simp [results, Tryz.results17, go_sem]) rfl ⟨HX2.out.symm, HB1.out⟩
end Go.Proofs.YtclcabdekeegdaaGreat
