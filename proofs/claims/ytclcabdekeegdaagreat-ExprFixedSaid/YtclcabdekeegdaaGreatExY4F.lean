/- Layer 13: columns that an expression hasn't count for nothing: plainly, and walked. -/
import Derived.Test.YtclcabdekeegdaaGreatExY3F
import Derived.Test.YtclcabdekeegdaaGreatExWrF
import Derived.Test.YtclcabdekeegdaaGreatExHF
namespace Go.Proofs.YtclcabdekeegdaaGreat
open Go Go.ChangeShapes Go.WideShapes Go.ChangeAt Go.RowKit
set_option linter.unusedVariables false
set_option linter.unusedSimpArgs false
/-- Of a where a name stands in nm, else of b. -/
def mixR (nm : List (List UInt8)) : List C → List V → List V → List V
 | c :: cs, x :: a, y :: b => (if c.s.data.toList ∈ nm then x else y) :: mixR nm cs a b
 | _, _, _ => []
theorem mixR_len {nm : List (List UInt8)} : ∀ {cs : List C} {a b : List V}, a.length = cs.length → b.length = cs.length → (mixR nm cs a b).length = cs.length
 | [], _, _, _, _ => rfl
 | c :: cs, x :: a, y :: b, ha, hb => by
  simp only [mixR, List.length_cons]
  rw [mixR_len (by simpa using ha) (by simpa using hb)]
theorem mixR_at {nm : List (List UInt8)} : ∀ {cs : List C} {a b : List V} (ha : a.length = cs.length) (hb : b.length = cs.length) (k : Nat) (hk : k < cs.length), (mixR nm cs a b)[k]'(by rw [mixR_len ha hb]; exact hk) = if cs[k].s.data.toList ∈ nm then a[k] else b[k]
 | c :: cs, x :: a, y :: b, ha, hb, 0, hk => rfl
 | c :: cs, x :: a, y :: b, ha, hb, k + 1, hk => mixR_at (cs := cs) (a := a) (b := b) (by simpa using ha) (by simpa using hb) k (by simpa using hk)
theorem fitsR_len {cs : List C} {a : List V} (h : fitsR cs a = true) : a.length = cs.length := by
 unfold fitsR at h
 rw [Bool.and_eq_true, decide_eq_true_eq] at h
 exact h.1
theorem fitsR_at {cs : List C} {a : List V} (h : fitsR cs a = true) : ∀ i (hi : i < cs.length), fits cs[i] (a[i]'(by rw [fitsR_len h]; exact hi)) = true := by
 have hl := fitsR_len h
 unfold fitsR at h
 rw [Bool.and_eq_true] at h
 exact (fitsL_iff hl).1 h.2
theorem mixR_fits {nm : List (List UInt8)} {cs : List C} {a b : List V} (ha : fitsR cs a = true) (hb : fitsR cs b = true) : fitsR cs (mixR nm cs a b) = true := by
 have hla := fitsR_len ha
 have hlb := fitsR_len hb
 have hl := mixR_len (nm := nm) hla hlb
 unfold fitsR
 rw [decide_eq_true hl, Bool.true_and, fitsL_iff hl]
 intro i hi
 rw [mixR_at hla hlb i hi]
 split
 ·exact fitsR_at ha i hi
 ·exact fitsR_at hb i hi
theorem mixR_wf {nm : List (List UInt8)} : ∀ {cs : List C} {a b : List V}, (∀ v ∈ a, v.wf) → (∀ v ∈ b, v.wf) → ∀ v ∈ mixR nm cs a b, v.wf
 | c :: cs, x :: a, y :: b, ha, hb, v, hv => by
  simp only [mixR, List.mem_cons] at hv
  rcases hv with rfl | hv
  ·split
   ·exact ha _ (by simp)
   ·exact hb _ (by simp)
  ·exact mixR_wf (fun v h => ha v (by simp [h])) (fun v h => hb v (by simp [h])) v hv
 | [], _, _, _, _, v, hv => by simp [mixR] at hv
 | c :: cs, [], _, _, _, v, hv => by simp [mixR] at hv
 | c :: cs, x :: a, [], _, _, v, hv => by simp [mixR] at hv
/-- Columns that an expression hasn't count for nothing. -/
theorem fixed_plain {e : X} {cs : List C} {a b : List V} (ha : fitsR cs a = true) (hb : fitsR cs b = true) : worthX e cs (mixR (colR e) cs a b) = worthX e cs a := by
 have hm := mixR_fits (nm := colR e) ha hb
 unfold worthX
 by_cases h : (kindE e cs).2 = 0
 ·rw [if_neg (by simp [h]), if_neg (by simp [hm]), if_neg (by simp [h]), if_neg (by simp [ha])]
  obtain ⟨h1, h2, h3⟩ := kindE_ok h
  rw [h3] at h
  refine eval_agree e fun x hx ho => ?_
  have hk := kind_cols e h x hx ho
  have hla := fitsR_len ha
  have hlb := fitsR_len hb
  have hl := mixR_len (nm := colR e) hla hlb
  rw [List.getD_eq_getElem?_getD, List.getD_eq_getElem?_getD, List.getElem?_eq_getElem (by rw [hl]; exact hk), List.getElem?_eq_getElem (by rw [hla]; exact hk), Option.getD_some, Option.getD_some, mixR_at hla hlb _ hk]
  rw [if_pos]
  have hn := findI_name (n := x.nm) (l := cs) hk rfl
  rw [hn]
  unfold colR
  rw [if_neg (by simp [h2])]
  exact namesX_mem.2 ⟨x, hx, ho, rfl⟩
 ·rw [if_pos h, if_pos h]
/-- The first j names hold it. -/
def hasN (nm : List (List UInt8)) (j : Nat) (x : ByteArray) : Bool := decide (x.data.toList ∈ nm.take j)
theorem hasN_zero (nm : List (List UInt8)) (x : ByteArray) : hasN nm 0 x = false := by simp [hasN]
theorem hasN_all {nm : List (List UInt8)} {j : Nat} (h : nm.length ≤ j) (x : ByteArray) : hasN nm j x = decide (x.data.toList ∈ nm) := by unfold hasN; rw [List.take_of_length_le h]
theorem hasN_next {nm : List (List UInt8)} {j : Nat} (h : j < nm.length) (x : ByteArray) : hasN nm (j + 1) x = (hasN nm j x || decide (nm[j] = x.data.toList)) := by
 unfold hasN
 rw [List.take_succ_eq_append_getElem h, Bool.eq_iff_iff]
 simp only [decide_eq_true_eq, Bool.or_eq_true, List.mem_append, List.mem_singleton]
 rw [eq_comm (a := x.data.toList)]
end Go.Proofs.YtclcabdekeegdaaGreat
