/- Layer 13, walked: Eval (the reference). -/
import Derived.Test.YtclcabdekeegdaaGreatExExW
import Derived.Test.YtclcabdekeegdaaGreatExEyW
namespace Go.Proofs.YtclcabdekeegdaaGreat
open Go.ChangeShapes Go.WideShapes Go.ChangeAt Go.RowKit
set_option linter.unusedVariables false
set_option linter.unusedSimpArgs false
theorem three_of_good {r : V × Int} (h : GoodW 2 r) (he : r.2 = 0) : r = (nulV, 0) ∨ r = (boolW true, 0) ∨ r = (boolW false, 0) := by
 rcases good_bool h with rfl | rfl | rfl | rfl | rfl
 ·exact .inl rfl
 ·exact .inr (.inl rfl)
 ·exact .inr (.inr rfl)
 ·cases he
 ·cases he
theorem four_of_good {r : V × Int} (h : GoodW 2 r) : r = (nulV, 0) ∨ r = (boolW true, 0) ∨ r = (boolW false, 0) ∨ (r.2 ≠ 0 ∧ r.1 = nulV) := by
 by_cases he : r.2 = 0
 ·rcases three_of_good h he with h | h | h
  ·exact .inl h
  ·exact .inr (.inl h)
  ·exact .inr (.inr (.inl h))
 ·exact .inr (.inr (.inr ⟨he, good_nul h he⟩))
set_option maxHeartbeats 4000000 in
theorem reval_any (cs : List C) (row : List V) (cA : Option Addr) (cc : Nat) (rA : Option Addr) (rc : Nat) (hfit : fitsR cs row = true) (hrw : ∀ v ∈ row, v.wf) (hcl : cs.length ≤ maxLen) : ∀ (e : X), formX e = true → (kindX cs e).2 = 0 → e.wf → ∀ (A : Option Addr) (c : Nat) (w : World), KidsAt w w.heap.size e A c → Row2 w w.heap.size cA cs → Row3 w w.heap.size rA row →
  Calls Tryz.prog 47 #[e.val A c, .slice cA cs.length cc, .slice rA row.length rc] w fun en w' => en = endV (evalX cs row e) ∧ Below w.heap.size w w' := by
 refine X.ind ?_
 intro o n v ks ih hform hkind hwf A c w hk hc hr
 simp only [formX, Bool.and_eq_true, decide_eq_true_eq] at hform
 obtain ⟨⟨hl, hh⟩, hks⟩ := hform
 have hall := formL_iff.1 hks
 simp only [X.wf] at hwf
 have hwfk : ∀ k ∈ ks, k.wf := fun k hk => X.wfL_mem hwf.2.2.2 k hk
 have hgood : ∀ k ∈ ks, GoodW (kindX cs k).1 (evalX cs row k) := fun k hk => evalX_good hfit k (hall k hk) (kids_kind hkind k hk)
 have hwfe : ∀ k ∈ ks, (evalX cs row k).1.wf := fun k hk => evalX_wf hrw k (hwfk k hk)
 have hlen := (by simpa [fitsR] using hfit : row.length = cs.length ∧ fitsL cs row = true).1
 have hih : ∀ k (hk' : k < ks.length), ∀ A2 c2, KidsAt w w.heap.size ks[k] A2 c2 → EK cs row cA cc rA rc w ks[k] A2 c2 (evalX cs row ks[k]) := fun k hk' A2 c2 hk2 V hb =>
  ih ks[k] (List.getElem_mem hk') (hall _ (List.getElem_mem hk')) (kids_kind hkind _ (List.getElem_mem hk')) (hwfk _ (List.getElem_mem hk')) A2 c2 V (KidsAt.more hb.size (hk2.below hb)) ((hc.below hb).more hb.size) ((hr.below hb).more hb.size)
 show Calls Tryz.prog 47 #[eV o n v ks.length A c, .slice cA cs.length cc, .slice rA row.length rc] w _
 rcases op_cases hl with ⟨ho, h0⟩ | ⟨ho, h0⟩ | ⟨ho, h0⟩ | ⟨ho, h0⟩
 ·obtain rfl := List.eq_nil_of_length_eq_zero h0
  rcases ho with rfl | rfl | rfl
  ·have hf : findI n cs < cs.length := by
    simp only [kindX, kindsX, if_true] at hkind
    split at hkind
    ·assumption
    ·exact absurd hkind (by decide)
   exact ev_col cs row cA cc rA rc n v [] A c w hf hlen hcl hc hr
  ·exact ev_lit cs row cA cc rA rc n v [] A c w
  ·exact ev_nulx cs row cA cc rA rc n v [] A c w
 ·obtain ⟨x, rfl⟩ := List.length_eq_one_iff.1 h0
  have hx : ∀ A2 c2, KidsAt w w.heap.size ([x][0]) A2 c2 → EK cs row cA cc rA rc w ([x][0]) A2 c2 (evalX cs row x) := hih 0 (by simp)
  have hg := hgood x (by simp)
  have hw := hwfe x (by simp)
  rw [eval1 (by omega)]
  by_cases he : (evalX cs row x).2 = 0
  ·rcases ho with rfl | rfl | rfl | rfl
   ·have hX : evOp 9 (evalX cs row x) (nulV, 0) (nulV, 0) = reckonX 5 (intW 0) (evalX cs row x).1 := by unfold evOp; rw [if_neg (by simp [he]), if_pos rfl]
    rw [hX]
    exact ev_neg cs row cA cc rA rc 9 n v [x] (by simp) A c w hk _ hx rfl he hw
   ·have hX : evOp 16 (evalX cs row x) (nulV, 0) (nulV, 0) = ((if (evalX cs row x).1.k = 0 then (evalX cs row x).1 else boolW (decide ((evalX cs row x).1.n = 0))), 0) := by unfold evOp; rw [if_neg (by simp [he]), if_neg (by decide), if_pos rfl]; split <;> rfl
    rw [hX]
    exact ev_not cs row cA cc rA rc 16 n v [x] (by simp) A c w hk _ hx rfl he hw
   ·have hX : evOp 17 (evalX cs row x) (nulV, 0) (nulV, 0) = (boolW (decide ((evalX cs row x).1.k = 0)), 0) := by unfold evOp; rw [if_neg (by simp [he]), if_neg (by decide), if_neg (by decide), if_pos rfl]
    rw [hX]
    exact ev_nul cs row cA cc rA rc 17 n v [x] (by simp) A c w hk _ hx rfl he hw
   ·have hX : evOp 20 (evalX cs row x) (nulV, 0) (nulV, 0) = ((if (evalX cs row x).1.k = 0 then (evalX cs row x).1 else intW (evalX cs row x).1.s.size), 0) := by unfold evOp; rw [if_neg (by simp [he]), if_neg (by decide), if_neg (by decide), if_neg (by decide), if_pos rfl]; split <;> rfl
    rw [hX]
    exact ev_len cs row cA cc rA rc 20 n v [x] (by simp) A c w hk _ hx rfl he hw
  ·have hX : evOp o (evalX cs row x) (nulV, 0) (nulV, 0) = (nulV, (evalX cs row x).2) := by unfold evOp; rw [if_pos he]
   rw [hX]
   exact ev_err cs row cA cc rA rc o n v [x] (by simp) A c w hk _ hx (by omega) he (good_nul hg he)
 ·obtain ⟨x, y, rfl⟩ := two_of h0
  have hx : ∀ A2 c2, KidsAt w w.heap.size ([x, y][0]) A2 c2 → EK cs row cA cc rA rc w ([x, y][0]) A2 c2 (evalX cs row x) := hih 0 (by simp)
  have hy : ∀ A2 c2, KidsAt w w.heap.size ([x, y][1]) A2 c2 → EK cs row cA cc rA rc w ([x, y][1]) A2 c2 (evalX cs row y) := hih 1 (by simp)
  have hg := hgood x (by simp)
  have hg1 := hgood y (by simp)
  have hw := hwfe x (by simp)
  have hw1 := hwfe y (by simp)
  have hk0 := kids_kind hkind x (by simp)
  have hk1 := kids_kind hkind y (by simp)
  rw [kind2 (by omega), if_neg (by simp [hk0]), if_neg (by simp [hk1])] at hkind
  rw [eval2 (by omega)]
  by_cases he : (evalX cs row x).2 = 0
  ·by_cases h8 : o ≤ 8
   ·have h4 : 4 ≤ o := by omega
    rw [ev8 h4 h8]
    unfold twoR
    rw [if_neg (by simp [he])]
    by_cases he1 : (evalX cs row y).2 = 0
    ·rw [if_neg (by simp [he1])]
     have hX : (if (evalX cs row x).1.k = 0 ∨ (evalX cs row y).1.k = 0 then (nulV, 0) else reck o (evalX cs row x).1.n (evalX cs row y).1.n) = reckonX o (evalX cs row x).1 (evalX cs row y).1 := by unfold reckonX reck; rfl
     rw [hX]
     exact ev_reck cs row cA cc rA rc o n v [x, y] (by simp) A c w hk _ hx _ hy ⟨h4, h8⟩ he he1 hw hw1
    ·rw [if_pos he1]
     exact ev_err2 cs row cA cc rA rc o n v [x, y] (by simp) A c w hk _ hx _ hy (.inl ⟨h4, h8⟩) he he1 (good_nul hg1 he1)
   ·by_cases h13 : o ≤ 13
    ·have h10 : 10 ≤ o := by omega
     rw [ev13 h10 h13]
     unfold twoR
     rw [if_neg (by simp [he])]
     by_cases he1 : (evalX cs row y).2 = 0
     ·rw [if_neg (by simp [he1])]
      have hX : (if (evalX cs row x).1.k = 0 ∨ (evalX cs row y).1.k = 0 then (nulV, 0) else (boolW (cmpG o (cmpV (evalX cs row x).1 (evalX cs row y).1)), 0)) = ((if (evalX cs row x).1.k = 0 ∨ (evalX cs row y).1.k = 0 then nulV else boolW (cmpG o (cmpV (evalX cs row x).1 (evalX cs row y).1))), (0 : Int)) := by split <;> rfl
      rw [hX]
      exact ev_cmp cs row cA cc rA rc o n v [x, y] (by simp) A c w hk _ hx _ hy ⟨h10, h13⟩ he he1 hw hw1
     ·rw [if_pos he1]
      exact ev_err2 cs row cA cc rA rc o n v [x, y] (by simp) A c w hk _ hx _ hy (.inr ⟨h10, h13⟩) he he1 (good_nul hg1 he1)
    ·by_cases h15 : o ≤ 15
     ·have h2 : (kindX cs x).1 = 2 ∧ (kindX cs y).1 = 2 := by
       have : o = 14 ∨ o = 15 := by omega
       unfold kindOp at hkind
       rw [if_neg (by omega), if_neg (by omega), if_neg (by omega), if_pos this] at hkind
       split at hkind
       ·assumption
       ·exact absurd hkind (by decide)
      rw [h2.1] at hg
      rw [h2.2] at hg1
      have : o = 14 ∨ o = 15 := by omega
      rcases this with rfl | rfl
      ·exact ev_and cs row cA cc rA rc 14 n v [x, y] (by simp) A c w hk _ hx _ hy rfl (three_of_good hg he) (four_of_good hg1)
      ·exact ev_or cs row cA cc rA rc 15 n v [x, y] (by simp) A c w hk _ hx _ hy rfl (three_of_good hg he) (four_of_good hg1)
     ·obtain rfl : o = 19 := by omega
      have hX : evOp 19 (evalX cs row x) (evalX cs row y) (nulV, 0) = if (evalX cs row x).1.k ≠ 0 then ((evalX cs row x).1, 0) else evalX cs row y := by
       rw [ev19]
       unfold repR
       rw [if_neg (by simp [he])]
       by_cases hz : (evalX cs row x).1.k = 0
       ·rw [if_pos hz, if_neg (by simp [hz])]
       ·rw [if_neg hz, if_pos hz]
      rw [hX]
      exact ev_else cs row cA cc rA rc 19 n v [x, y] (by simp) A c w hk _ hx _ hy rfl he
  ·have hX : evOp o (evalX cs row x) (evalX cs row y) (nulV, 0) = (nulV, (evalX cs row x).2) := by unfold evOp; rw [if_pos he]
   rw [hX]
   exact ev_err cs row cA cc rA rc o n v [x, y] (by simp) A c w hk _ hx (by omega) he (good_nul hg he)
 ·subst ho
  obtain ⟨x, y, z, rfl⟩ := three_of h0
  have hx : ∀ A2 c2, KidsAt w w.heap.size ([x, y, z][0]) A2 c2 → EK cs row cA cc rA rc w ([x, y, z][0]) A2 c2 (evalX cs row x) := hih 0 (by simp)
  have hy : ∀ A2 c2, KidsAt w w.heap.size ([x, y, z][1]) A2 c2 → EK cs row cA cc rA rc w ([x, y, z][1]) A2 c2 (evalX cs row y) := hih 1 (by simp)
  have hz : ∀ A2 c2, KidsAt w w.heap.size ([x, y, z][2]) A2 c2 → EK cs row cA cc rA rc w ([x, y, z][2]) A2 c2 (evalX cs row z) := hih 2 (by simp)
  have hg := hgood x (by simp)
  have hk0 := kids_kind hkind x (by simp)
  have hk1 := kids_kind hkind y (by simp)
  have hk2 := kids_kind hkind z (by simp)
  rw [kind3 (by omega), if_neg (by simp [hk0]), if_neg (by simp [hk1]), if_neg (by simp [hk2])] at hkind
  have h2 : (kindX cs x).1 = 2 := by
   unfold kindOp at hkind
   simp at hkind
   split at hkind <;> simp_all
  rw [h2] at hg
  rw [eval3 (by omega), ev18]
  unfold choR
  by_cases he : (evalX cs row x).2 = 0
  ·rw [if_neg (by simp [he])]
   exact ev_if cs row cA cc rA rc 18 n v [x, y, z] (by simp) A c w hk _ hx _ hy _ hz rfl (three_of_good hg he)
  ·rw [if_pos he]
   exact ev_err cs row cA cc rA rc 18 n v [x, y, z] (by simp) A c w hk _ hx (by omega) he (good_nul hg he)
end Go.Proofs.YtclcabdekeegdaaGreat
