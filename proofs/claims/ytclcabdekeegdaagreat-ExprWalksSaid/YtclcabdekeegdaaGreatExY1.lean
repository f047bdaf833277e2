/- Layer 13, plainly: names sorted, each once. -/
import Derived.Test.YtclcabdekeegdaaGreatExN
import Derived.Lib.SlicesCompact
import Derived.Shelf.Abstract
namespace Go.Proofs.YtclcabdekeegdaaGreat
open Go.RowKit
set_option linter.unusedVariables false
set_option linter.unusedSimpArgs false
theorem compactTo_sorted {d : Array (List UInt8)} (h : d.toList.Pairwise (· ≤ ·)) : ∀ m, m ≤ d.size → (Lib.compactUpTo d m).Pairwise (· < ·) ∧ ∀ z, z ∈ Lib.compactUpTo d m ↔ ∃ j, j < m ∧ d[j]! = z
  | 0, _ => by simp [Lib.compactUpTo]
  | m + 1, hm => by
    obtain ⟨h1, h2⟩ := compactTo_sorted h m (by omega)
    have hle : ∀ i j, i < j → j < d.size → d[i]! ≤ d[j]! := fun i j hij hj => by
      have hi : i < d.size := by omega
      have := List.pairwise_iff_getElem.1 h i j (by simpa using hi) (by simpa using hj) hij
      simpa [getElem!_pos, hi, hj] using this
    rw [Lib.compactUpTo_succ]
    by_cases h0 : m = 0
    · subst h0
      rw [if_pos (by simp [Lib.keeps])]
      refine ⟨by simp [Lib.compactUpTo], fun z => ?_⟩
      simp only [List.mem_append, h2, List.mem_singleton]
      constructor
      · rintro (⟨j, hj, _⟩ | rfl)
        · omega
        · exact ⟨0, by omega, rfl⟩
      · rintro ⟨j, hj, rfl⟩
        obtain rfl : j = 0 := by omega
        exact .inr rfl
    · by_cases hk : d[m]! = d[m - 1]!
      · rw [if_neg (by rw [Lib.keeps_neg (by omega) hk]; decide), List.append_nil]
        refine ⟨h1, fun z => ?_⟩
        rw [h2]
        constructor
        · rintro ⟨j, hj, rfl⟩; exact ⟨j, by omega, rfl⟩
        · rintro ⟨j, hj, rfl⟩
          by_cases hjm : j = m
          · exact ⟨m - 1, by omega, by rw [hjm, hk]⟩
          · exact ⟨j, by omega, rfl⟩
      · rw [if_pos (Lib.keeps_pos hk)]
        refine ⟨?_, fun z => ?_⟩
        · rw [List.pairwise_append]
          refine ⟨h1, by simp, fun a ha b hb => ?_⟩
          rw [List.mem_singleton] at hb
          subst hb
          obtain ⟨j, hj, rfl⟩ := (h2 a).1 ha
          have hl : d[m - 1]! < d[m]! := lt_of_not (List.not_lt.2 (hle (m - 1) m (by omega) (by omega))) (fun e => hk e.symm)
          by_cases hjm : d[j]! = d[m - 1]!
          · rw [hjm]; exact hl
          · have hj1 : j ≠ m - 1 := fun e => hjm (by rw [e])
            exact List.lt_trans (lt_of_not (List.not_lt.2 (hle j (m - 1) (by omega) (by omega))) hjm) hl
        · simp only [List.mem_append, h2, List.mem_singleton]
          constructor
          · rintro (⟨j, hj, rfl⟩ | rfl)
            · exact ⟨j, by omega, rfl⟩
            · exact ⟨m, by omega, rfl⟩
          · rintro ⟨j, hj, rfl⟩
            by_cases hjm : j = m
            · exact .inr (by rw [hjm])
            · exact .inl ⟨j, by omega, rfl⟩
theorem compact_sorted {zs : List (List UInt8)} (h : zs.Pairwise (· ≤ ·)) : (Lib.compact zs).Pairwise (· < ·) ∧ ∀ z, z ∈ Lib.compact zs ↔ z ∈ zs := by
  obtain ⟨h1, h2⟩ := compactTo_sorted (d := zs.toArray) (by simpa using h) zs.length (by simp)
  refine ⟨h1, fun z => (h2 z).trans ?_⟩
  rw [List.mem_iff_getElem]
  constructor
  · rintro ⟨j, hj, rfl⟩
    exact ⟨j, hj, by simp [getElem!_pos, hj]⟩
  · rintro ⟨j, hj, rfl⟩
    exact ⟨j, hj, by simp [getElem!_pos, hj]⟩
def srtS (l : List (List UInt8)) : List (List UInt8) := l.mergeSort fun x y => decide (x ≤ y)
theorem srtS_pw (l : List (List UInt8)) : (srtS l).Pairwise (· ≤ ·) := by
  have := List.pairwise_mergeSort (le := fun x y : List UInt8 => decide (x ≤ y)) (fun a b c h1 h2 => by simp only [decide_eq_true_eq] at *; exact List.le_trans h1 h2) (fun a b => by simp only [Bool.or_eq_true, decide_eq_true_eq]; exact List.le_total a b) l
  unfold srtS
  simpa using this
theorem srtS_len (l : List (List UInt8)) : (srtS l).length = l.length := List.length_mergeSort l
theorem srtS_mem {l : List (List UInt8)} {z : List UInt8} : z ∈ srtS l ↔ z ∈ l := (List.mergeSort_perm l _).mem_iff
/-- The columns' names, sorted and without the same twice, are those that rise. -/
theorem colN_eq (e : X) : Lib.compact (srtS (colsX e)) = namesX e := by
  obtain ⟨h1, h2⟩ := compact_sorted (srtS_pw (colsX e))
  refine rises_unique h1 (namesX_rises e) fun z => ?_
  rw [h2, srtS_mem]
  unfold namesX
  rw [foldN_mem]
  simp
/-- What Cols answers. -/
def colR (e : X) : List (List UInt8) := if checkX e ≠ 0 then [] else namesX e
end Go.Proofs.YtclcabdekeegdaaGreat
