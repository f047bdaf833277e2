/- Layer 13, plainly: the columns' names within, rising, each once. -/
import Derived.Test.YtclcabdekeegdaaGreatExPV
namespace Go.Proofs.YtclcabdekeegdaaGreat
open Go.RowKit
set_option linter.unusedVariables false

/-- A name among others that rise. -/
def insN (x : List UInt8) : List (List UInt8) → List (List UInt8)
  | [] => [x]
  | y :: ys => if y = x then y :: ys else if x < y then x :: y :: ys else y :: insN x ys
def colsX (e : X) : List (List UInt8) := ((allX e).filter fun x => decide (x.op = 1)).map fun x => x.nm.data.toList
def namesX (e : X) : List (List UInt8) := (colsX e).foldl (fun out n => insN n out) []
theorem lt_of_not {a b : List UInt8} (h1 : ¬ a < b) (h2 : b ≠ a) : b < a :=
  Decidable.byContradiction fun hn => h2 (List.le_antisymm (List.not_lt.1 h1) (List.not_lt.1 hn))
theorem mem_insN {x z : List UInt8} : ∀ {l : List (List UInt8)}, z ∈ insN x l ↔ z = x ∨ z ∈ l
  | [] => by simp [insN]
  | y :: ys => by
    unfold insN
    split
    · rename_i h; subst h; simp
    · split
      · simp
      · simp [mem_insN (l := ys)]
        constructor
        · rintro (h | h | h) <;> simp [h]
        · rintro (h | h | h) <;> simp [h]
theorem insN_rises {x : List UInt8} : ∀ {l : List (List UInt8)}, l.Pairwise (· < ·) → (insN x l).Pairwise (· < ·)
  | [], _ => by simp [insN]
  | y :: ys, h => by
    unfold insN
    split
    · exact h
    · rename_i hne
      rw [List.pairwise_cons] at h
      split
      · rename_i hlt
        refine List.Pairwise.cons ?_ (List.Pairwise.cons h.1 h.2)
        intro z hz
        rcases List.mem_cons.1 hz with rfl | hz
        · exact hlt
        · exact List.lt_trans hlt (h.1 z hz)
      · rename_i hlt
        refine List.Pairwise.cons ?_ (insN_rises h.2)
        intro z hz
        rcases mem_insN.1 hz with rfl | hz
        · exact lt_of_not hlt hne
        · exact h.1 z hz
theorem foldN_rises : ∀ (ns out : List (List UInt8)), out.Pairwise (· < ·) → (ns.foldl (fun out n => insN n out) out).Pairwise (· < ·)
  | [], out, h => h
  | n :: ns, out, h => foldN_rises ns _ (insN_rises h)
theorem foldN_mem {z : List UInt8} : ∀ (ns out : List (List UInt8)), z ∈ ns.foldl (fun out n => insN n out) out ↔ z ∈ ns ∨ z ∈ out
  | [], out => by simp
  | n :: ns, out => by
    rw [List.foldl_cons, foldN_mem ns, mem_insN, List.mem_cons]
    constructor
    · rintro (h | h | h) <;> simp [h]
    · rintro ((h | h) | h) <;> simp [h]
theorem namesX_rises (e : X) : (namesX e).Pairwise (· < ·) := foldN_rises _ _ .nil
theorem namesX_mem {e : X} {z : List UInt8} : z ∈ namesX e ↔ ∃ x ∈ allX e, x.op = 1 ∧ x.nm.data.toList = z := by
  unfold namesX
  rw [foldN_mem]
  simp only [List.not_mem_nil, or_false, colsX, List.mem_map, List.mem_filter, decide_eq_true_eq]
  constructor
  · rintro ⟨x, ⟨h1, h2⟩, h3⟩; exact ⟨x, h1, h2, h3⟩
  · rintro ⟨x, h1, h2, h3⟩; exact ⟨x, ⟨h1, h2⟩, h3⟩
/-- Two that rise and hold the same are the same. -/
theorem rises_unique : ∀ {a b : List (List UInt8)}, a.Pairwise (· < ·) → b.Pairwise (· < ·) → (∀ z, z ∈ a ↔ z ∈ b) → a = b
  | [], [], _, _, _ => rfl
  | [], y :: ys, _, _, h => by have := (h y).2 (by simp); simp at this
  | x :: xs, [], _, _, h => by have := (h x).1 (by simp); simp at this
  | x :: xs, y :: ys, ha, hb, h => by
    rw [List.pairwise_cons] at ha hb
    have hxy : x = y := by
      rcases List.mem_cons.1 ((h x).1 (by simp)) with h1 | h1
      · exact h1
      · rcases List.mem_cons.1 ((h y).2 (by simp)) with h2 | h2
        · exact h2.symm
        · exact absurd (List.lt_trans (hb.1 x h1) (ha.1 y h2)) (List.lt_irrefl _)
    subst hxy
    have : xs = ys := rises_unique ha.2 hb.2 fun z => by
      constructor
      · intro hz
        rcases List.mem_cons.1 ((h z).1 (by simp [hz])) with h1 | h1
        · subst h1; exact absurd (ha.1 _ hz) (List.lt_irrefl _)
        · exact h1
      · intro hz
        rcases List.mem_cons.1 ((h z).2 (by simp [hz])) with h1 | h1
        · subst h1; exact absurd (hb.1 _ hz) (List.lt_irrefl _)
        · exact h1
    rw [this]
end Go.Proofs.YtclcabdekeegdaaGreat
