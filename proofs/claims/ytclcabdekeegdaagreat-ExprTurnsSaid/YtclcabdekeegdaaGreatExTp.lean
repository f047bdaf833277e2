/- Layer 13, plainly: not (a and b), (not a) or (not b). -/
import Derived.Test.YtclcabdekeegdaaGreatExH
namespace Go.Proofs.YtclcabdekeegdaaGreat
open Go.RowKit
set_option linter.unusedVariables false
set_option linter.unusedSimpArgs false
def notX (e : X) : X := .mk 16 emp ⟨0, 0, emp⟩ [e]
def andE (a b : X) : X := .mk 14 emp ⟨0, 0, emp⟩ [a, b]
def orE (a b : X) : X := .mk 15 emp ⟨0, 0, emp⟩ [a, b]
theorem not_wf {e : X} (h : e.wf) : (notX e).wf := mk_wf (lit_in _ (by omega)) emp_le (emp_wf (lit_in _ (by omega)) (lit_in _ (by omega))) (by
  intro k hk
  rcases List.mem_cons.1 hk with rfl | hk
  · exact h
  · cases hk)
theorem two_wf {o : Int} {a b : X} (ho : -1000 ≤ o ∧ o ≤ 1000) (ha : a.wf) (hb : b.wf) : (X.mk o emp ⟨0, 0, emp⟩ [a, b]).wf := mk_wf (lit_in _ ho) emp_le (emp_wf (lit_in _ (by omega)) (lit_in _ (by omega))) (by
  intro k hk
  rcases List.mem_cons.1 hk with rfl | hk
  · exact ha
  · rcases List.mem_cons.1 hk with rfl | hk
    · exact hb
    · cases hk)
theorem kind_not {cs : List C} {e : X} (h : kindX cs e = (2, 0)) : kindX cs (notX e) = (2, 0) := by
  unfold notX
  rw [kind1 (by decide), h]
  rfl
theorem kind_and {cs : List C} {a b : X} (ha : kindX cs a = (2, 0)) (hb : kindX cs b = (2, 0)) : kindX cs (andE a b) = (2, 0) := by
  unfold andE
  rw [kind2 (by decide), ha, hb]
  rfl
theorem kind_or {cs : List C} {a b : X} (ha : kindX cs a = (2, 0)) (hb : kindX cs b = (2, 0)) : kindX cs (orE a b) = (2, 0) := by
  unfold orE
  rw [kind2 (by decide), ha, hb]
  rfl
theorem form_not {e : X} (h : formX e = true) : formX (notX e) = true := by
  unfold notX
  simp only [formX, formL, h]
  rfl
theorem worth_of {e : X} {cs : List C} {row : List V} {k : Int} (hr : rightB cs = true) (hc : checkX e = 0) (hk : kindX cs e = (k, 0)) : worthX e cs row = if fitsR cs row = false then (nulV, 122) else evalX cs row e := by
  have : kindE e cs = (k, 0) := by unfold kindE; rw [if_neg (by simp [hr]), if_neg (by simp [hc]), hk]
  unfold worthX
  rw [this, if_neg (by simp)]
theorem turns_plain {a b : X} {cs : List C} {row : List V} (ha : kindE a cs = (2, 0)) (hb : kindE b cs = (2, 0)) (hx : checkX (notX (andE a b)) = 0) (hy : checkX (orE (notX a) (notX b)) = 0) :
    worthX (notX (andE a b)) cs row = worthX (orE (notX a) (notX b)) cs row ∧ ((worthX (notX (notX (notX (andE a b)))) cs row).2 = 131 ∨ worthX (notX (notX (notX (andE a b)))) cs row = worthX (notX (andE a b)) cs row) := by
  obtain ⟨hr, hca, ka⟩ := kindE_ok (e := a) (cs := cs) (by rw [ha])
  obtain ⟨_, hcb, kb⟩ := kindE_ok (e := b) (cs := cs) (by rw [hb])
  rw [ha] at ka
  rw [hb] at kb
  have ka := ka.symm
  have kb := kb.symm
  have kx := kind_not (kind_and ka kb)
  have ky := kind_or (kind_not ka) (kind_not kb)
  rw [worth_of hr hx kx, worth_of hr hy ky]
  have hfx := form_not (form_not (check_form hx))
  by_cases hf : fitsR cs row = true
  · rw [if_neg (by simp [hf]), if_neg (by simp [hf])]
    have gA := evalX_good hf a (check_form hca) (by rw [ka])
    have gB := evalX_good hf b (check_form hcb) (by rw [kb])
    have gx := evalX_good hf _ (check_form hx) (by rw [kx])
    rw [ka] at gA
    rw [kb] at gB
    rw [kx] at gx
    refine ⟨?_, ?_⟩
    · unfold notX andE orE
      rw [eval1 (by decide), eval2 (by decide), eval2 (by decide), eval1 (by decide), eval1 (by decide)]
      exact turn_and gA gB
    · by_cases hz : checkX (notX (notX (notX (andE a b)))) = 0
      · refine .inr ?_
        rw [worth_of hr hz (kind_not (kind_not kx)), if_neg (by simp [hf])]
        unfold notX
        rw [eval1 (by decide), eval1 (by decide)]
        exact not_not_good gx
      · refine .inl ?_
        have h131 : checkX (notX (notX (notX (andE a b)))) = 131 := by
          unfold checkX at hz ⊢
          rw [hfx] at hz ⊢
          split
          · rfl
          · rename_i h; rw [if_neg h] at hz; exact absurd rfl hz
        have hke : kindE (notX (notX (notX (andE a b)))) cs = (0, 131) := by unfold kindE; rw [if_neg (by simp [hr]), if_pos hz, h131]
        unfold worthX
        rw [hke, if_pos (by decide)]
  · have hf : fitsR cs row = false := by simpa using hf
    rw [if_pos hf, if_pos hf]
    refine ⟨rfl, ?_⟩
    by_cases hz : checkX (notX (notX (notX (andE a b)))) = 0
    · refine .inr ?_
      rw [worth_of hr hz (kind_not (kind_not kx)), if_pos hf]
    · refine .inl ?_
      have h131 : checkX (notX (notX (notX (andE a b)))) = 131 := by
        unfold checkX at hz ⊢
        rw [hfx] at hz ⊢
        split
        · rfl
        · rename_i h; rw [if_neg h] at hz; exact absurd rfl hz
      have hke : kindE (notX (notX (notX (andE a b)))) cs = (0, 131) := by unfold kindE; rw [if_neg (by simp [hr]), if_pos hz, h131]
      unfold worthX
      rw [hke, if_pos (by decide)]
end Go.Proofs.YtclcabdekeegdaaGreat
