/- Layer 13, plainly: worths as the program reckons them; of right size. -/
import Derived.Test.YtclcabdekeegdaaGreatExWdf
import Derived.Test.YtclcabdekeegdaaGreatExPV
namespace Go.Proofs.YtclcabdekeegdaaGreat
open Go.RowKit
set_option linter.unusedVariables false

theorem ev9 {x y z : V × Int} {k : Int} (h : GoodW k x) : evOp 9 x y z = oneR x (fun a => reck 5 0 a.n) := by
  unfold evOp oneR
  by_cases he : x.2 ≠ 0
  · rw [if_pos he, if_pos he]
  · rw [if_neg he, if_neg he, if_pos rfl]
    have he : x.2 = 0 := by simpa using he
    unfold reckonX
    by_cases hz : x.1.k = 0
    · rw [if_pos hz, if_pos (.inr hz), chk_zero_kind (h.val he).1 hz]
    · rw [if_neg hz, if_neg (by simp [intW, hz])]
      unfold reck
      rfl
theorem ev16 {x y z : V × Int} : evOp 16 x y z = oneR x (fun a => (boolW (decide (a.n = 0)), 0)) := by
  unfold evOp oneR
  by_cases he : x.2 ≠ 0
  · rw [if_pos he, if_pos he]
  · rw [if_neg he, if_neg he, if_neg (by decide), if_pos rfl]
theorem ev20 {x y z : V × Int} : evOp 20 x y z = oneR x (fun a => (intW a.s.size, 0)) := by
  unfold evOp oneR
  by_cases he : x.2 ≠ 0
  · rw [if_pos he, if_pos he]
  · rw [if_neg he, if_neg he, if_neg (by decide), if_neg (by decide), if_neg (by decide), if_pos rfl]
def askR (x : V × Int) : V × Int := if x.2 ≠ 0 then (nulV, x.2) else (boolW (decide (x.1.k = 0)), 0)
theorem ev17 {x y z : V × Int} : evOp 17 x y z = askR x := by
  unfold evOp askR
  by_cases he : x.2 ≠ 0
  · rw [if_pos he, if_pos he]
  · rw [if_neg he, if_neg he, if_neg (by decide), if_neg (by decide), if_pos rfl]
theorem ev8 {x y z : V × Int} {o : Int} (h4 : 4 ≤ o) (h8 : o ≤ 8) : evOp o x y z = twoR x y (fun a b => reck o a.n b.n) := by
  unfold evOp twoR
  by_cases he : x.2 ≠ 0
  · rw [if_pos he, if_pos he]
  · rw [if_neg he, if_neg he, if_neg (by omega), if_neg (by omega), if_neg (by omega), if_neg (by omega), if_neg (by omega), if_neg (by omega), if_neg (by omega)]
    by_cases he1 : y.2 ≠ 0
    · rw [if_pos he1, if_pos he1]
    · rw [if_neg he1, if_neg he1]
      unfold bothX reckonX reck
      rw [if_pos h8]
def cmpG (o : Int) (c : Int) : Bool := if o = 10 then decide (c = 0) else if o = 11 then decide (c ≠ 0) else if o = 12 then decide (c < 0) else decide (c ≤ 0)
theorem ev13 {x y z : V × Int} {o : Int} (h4 : 10 ≤ o) (h8 : o ≤ 13) : evOp o x y z = twoR x y (fun a b => (boolW (cmpG o (cmpV a b)), 0)) := by
  unfold evOp twoR
  by_cases he : x.2 ≠ 0
  · rw [if_pos he, if_pos he]
  · rw [if_neg he, if_neg he, if_neg (by omega), if_neg (by omega), if_neg (by omega), if_neg (by omega), if_neg (by omega), if_neg (by omega), if_neg (by omega)]
    by_cases he1 : y.2 ≠ 0
    · rw [if_pos he1, if_pos he1]
    · rw [if_neg he1, if_neg he1]
      unfold bothX cmpG
      rw [if_neg (by omega), if_neg (by omega)]
      by_cases hz : x.1.k = 0 ∨ y.1.k = 0
      · rw [if_pos hz, if_pos hz]
      · rw [if_neg hz, if_neg hz]
        have : o = 10 ∨ o = 11 ∨ o = 12 ∨ o = 13 := by omega
        rcases this with rfl | rfl | rfl | rfl <;> simp
def joinR (t : V) (x y : V × Int) : V × Int :=
  if x.2 ≠ 0 then (nulV, x.2) else if x.1 = t then (x.1, 0) else if y.2 ≠ 0 then (nulV, y.2) else if y.1 = t ∨ x.1.k ≠ 0 then (y.1, 0) else (x.1, 0)
theorem ev14 {x y z : V × Int} (hx : GoodW 2 x) (hy : GoodW 2 y) : evOp 14 x y z = joinR (boolW false) x y := by
  rcases good_bool hx with rfl | rfl | rfl | rfl | rfl <;> rcases good_bool hy with rfl | rfl | rfl | rfl | rfl <;> rfl
theorem ev15 {x y z : V × Int} (hx : GoodW 2 x) (hy : GoodW 2 y) : evOp 15 x y z = joinR (boolW true) x y := by
  rcases good_bool hx with rfl | rfl | rfl | rfl | rfl <;> rcases good_bool hy with rfl | rfl | rfl | rfl | rfl <;> rfl
def choR (x y z : V × Int) : V × Int := if x.2 ≠ 0 then (nulV, x.2) else if x.1 = boolW true then y else z
theorem ev18 {x y z : V × Int} : evOp 18 x y z = choR x y z := by
  unfold evOp choR
  by_cases he : x.2 ≠ 0
  · rw [if_pos he, if_pos he]
  · rw [if_neg he, if_neg he, if_neg (by decide), if_neg (by decide), if_neg (by decide), if_neg (by decide), if_neg (by simp), if_pos rfl]
def repR (x y : V × Int) : V × Int := if x.2 ≠ 0 then (nulV, x.2) else if x.1.k = 0 then y else (x.1, 0)
theorem ev19 {x y z : V × Int} : evOp 19 x y z = repR x y := by
  unfold evOp repR
  by_cases he : x.2 ≠ 0
  · rw [if_pos he, if_pos he]
  · rw [if_neg he, if_neg he, if_neg (by decide), if_neg (by decide), if_neg (by decide), if_neg (by decide)]
    by_cases hz : x.1.k = 0
    · rw [if_neg (by simp [hz]), if_neg (by decide), if_pos rfl, if_pos hz]
    · rw [if_pos (by simp [hz]), if_neg hz]

/-! ### Of right size -/
theorem zero_in : in64 0 := by unfold in64; omega
theorem one_in : in64 1 := by unfold in64; omega
theorem two_in : in64 2 := by unfold in64; omega
theorem nul_wf : nulV.wf := ⟨zero_in, zero_in, by decide⟩
theorem bool_wf (b : Bool) : (boolW b).wf := by
  cases b
  · exact ⟨two_in, zero_in, by decide⟩
  · exact ⟨two_in, one_in, by decide⟩
theorem int_wf {n : Int} (h : in64 n) : (intW n).wf := ⟨one_in, h, Nat.zero_le _⟩
theorem whole_in (x : Int) : in64 (wholeN x) := by unfold wholeN in64; split <;> omega
theorem do_in {o a b : Int} (ha : in64 a) : in64 (doN o a b) := by
  unfold doN
  split
  · exact whole_in _
  · split
    · exact whole_in _
    · split
      · exact whole_in _
      · split
        · split
          · unfold in64; omega
          · exact whole_in _
        · split
          · split
            · unfold in64; omega
            · exact tmod_in ha
          · unfold in64; omega
theorem reck_wf {o a b : Int} (ha : in64 a) : (reck o a b).1.wf := by
  unfold reck
  split
  · exact nul_wf
  · exact int_wf (do_in ha)
theorem reckonX_wf {o : Int} {a b : V} (ha : a.wf) : (reckonX o a b).1.wf := by
  unfold reckonX
  split
  · exact nul_wf
  · split
    · exact nul_wf
    · exact int_wf (do_in ha.2.1)
theorem evOp_wf {o : Int} {x y z : V × Int} (hx : x.1.wf) (hy : y.1.wf) (hz : z.1.wf) : (evOp o x y z).1.wf := by
  unfold evOp
  split
  · exact nul_wf
  · split
    · exact reckonX_wf (int_wf (by unfold in64; omega))
    · split
      · split
        · exact hx
        · exact bool_wf _
      · split
        · exact bool_wf _
        · split
          · split
            · exact hx
            · exact int_wf (by have := hx.2.2; unfold in64; omega)
          · split
            · exact hx
            · split
              · split
                · exact hy
                · exact hz
              · split
                · exact hy
                · split
                  · exact nul_wf
                  · unfold bothX
                    split
                    · exact reckonX_wf hx
                    · split
                      · exact hy
                      · split
                        · exact nul_wf
                        · repeat' split
                          all_goals exact bool_wf _
theorem getD_wf {l : List (V × Int)} (h : ∀ r ∈ l, r.1.wf) (i : Nat) : (l.getD i (nulV, 0)).1.wf := by
  rw [List.getD]
  cases hc : l[i]? with
  | none => exact nul_wf
  | some r => exact h r (List.mem_of_getElem? hc)
mutual
theorem evalX_wf {cs : List C} {row : List V} (hr : ∀ v ∈ row, v.wf) : ∀ e : X, e.wf → (evalX cs row e).1.wf
  | .mk o n v ks, h => by
    simp only [X.wf] at h
    simp only [evalX]
    split
    · show (row.getD (findI n cs) nulV).wf
      rw [List.getD]
      cases hc : row[findI n cs]? with
      | none => exact nul_wf
      | some r => exact hr r (List.mem_of_getElem? hc)
    · split
      · exact h.2.2.1
      · split
        · exact nul_wf
        · exact evOp_wf (getD_wf (evalL_wf hr ks h.2.2.2) 0) (getD_wf (evalL_wf hr ks h.2.2.2) 1) (getD_wf (evalL_wf hr ks h.2.2.2) 2)
theorem evalL_wf {cs : List C} {row : List V} (hr : ∀ v ∈ row, v.wf) : ∀ l : List X, X.wfL l → ∀ r ∈ evalL cs row l, r.1.wf
  | [], _, r, h => by simp [evalL] at h
  | k :: ks, hw, r, h => by
    simp only [X.wfL] at hw
    simp only [evalL, List.mem_cons] at h
    rcases h with rfl | h
    · exact evalX_wf hr k hw.1
    · exact evalL_wf hr ks hw.2 r h
end
end Go.Proofs.YtclcabdekeegdaaGreat
