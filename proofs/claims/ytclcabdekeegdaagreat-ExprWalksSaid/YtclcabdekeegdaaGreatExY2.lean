/- Layer 13, walked: names sorted by the library, each once. -/
import Derived.Test.YtclcabdekeegdaaGreatExY1
import Derived.Test.YtclcabdekeegdaaGreatExSh2
import Derived.Test.YtclcabdekeegdaaGreatMem
import Derived.Sort.OwnSorted
import Derived.Lib.RowBridge
namespace Go.Proofs.YtclcabdekeegdaaGreat
open Go Go.RowKit Go.Sort
set_option linter.unusedVariables false
set_option linter.unusedSimpArgs false
def eC (x : List UInt8) : List Value := [encStr x]
theorem eC_length (x : List UInt8) : (eC x).length = 1 := rfl
theorem eC_one (x : List UInt8) : ∀ u ∈ eC x, u.oneCell' = true := by simp [eC, encStr, Value.oneCell']
theorem eC_map (l : List (List UInt8)) : l.flatMap eC = l.map encStr := by
  induction l with
  | nil => rfl
  | cons a l ih => rw [List.flatMap_cons, ih]; rfl
/-- What is no row of T stays. -/
def Tk (T : Nat) (U V : World) : Prop := ∀ k, k < U.heap.size → (∀ cs fr, U.heap[k]? ≠ some (.cells cs T fr)) → V.heap[k]? = U.heap[k]?
theorem Tk.refl (T : Nat) (U : World) : Tk T U U := fun _ _ _ => rfl
theorem Tk.of_grown {T g : Nat} {U V : World} {cur : Array Value} {fr : Nat × Nat} (hg : U.grownBy V (some g)) (hc : U.heap[g]? = some (.cells cur T fr)) : Tk T U V := fun k hk hn =>
  hg.block k hk (fun e => by cases e; exact hn _ _ hc)
theorem RowC.left {α : Type} {f : α → List Value} {sz : Nat} {w : World} {B : Nat} {A : Option Addr} {a b : List α} (h : RowC f sz w B A (a ++ b)) : RowC f sz w B A a := by
  intro j hj
  obtain ⟨x, off, h1, h2, h3⟩ := h j (by rw [List.length_append]; omega)
  refine ⟨x, off, h1, h2, fun i v hv => h3 i v ?_⟩
  rwa [List.getElem_append_left hj]
theorem sort_s (xs : List (List UInt8)) (A : Option Addr) (c base : Nat) (w : World) (h : w.ownsRow base 9 1 (.slice A xs.length c) xs.length (xs.map encStr)) (hlen : xs.length ≤ 1000000) :
    Calls Tryz.prog 48 #[.slice A xs.length c] w fun e w' => e = .returned (.tuple #[]) ∧ w'.ownsRow base 9 1 (.slice A xs.length c) xs.length ((srtS xs).map encStr) ∧ Below base w w' ∧ Tk 9 w w' := by
  have h0 := h
  rcases h.2 with ⟨hv, hz⟩ | ⟨g, cap, cur, hv, hbase, hgb, r1, r2, r3, r4⟩
  · injection hv with e1 e2 e3
    subst e1 e3
    have hss : xs = [] := List.eq_nil_of_length_eq_zero hz
    subst hss
    refine (Tryz.slices_Sort_string_none none 0 w).mono ?_
    rintro e w' ⟨rfl, rfl⟩
    exact ⟨rfl, by simpa [srtS] using h0, Below.refl _ _, Tk.refl _ _⟩
  · injection hv with e1 e2 e3
    subst e1 e3
    have hH : Holds encStr w g 0 xs.toArray := holds_of_block hgb (by simpa using r4)
    have hgl : g < w.heap.size := (Array.getElem?_eq_some_iff.1 hgb).1
    refine (Tryz.slices_Sort_string g 0 c xs w hH hgl (by omega)).mono ?_
    rintro e w' ⟨rfl, nn, os, rfl⟩
    exact ⟨rfl, ownsRow_sorted (srtS_len xs) hbase hgb r1 r2 r3, (Below.refl base w).grown (grownBy_sorted _) (by omega) (fun j hj => by cases hj; exact hbase), Tk.of_grown (grownBy_sorted _) hgb⟩
theorem grow_none (w : World) : grow w #[] = w := by
  unfold grow
  simp
theorem compact_s (xs : List (List UInt8)) (A : Option Addr) (c base : Nat) (w : World) (h : w.ownsRow base 9 1 (.slice A xs.length c) xs.length (xs.map encStr)) (hlen : xs.length ≤ 1000000) :
    Calls Tryz.prog 49 #[.slice A xs.length c] w fun e w' => e = .returned (.slice A (Lib.compact xs).length c) ∧ RowC eC 1 w' w'.heap.size A (Lib.compact xs) ∧ Below base w w' ∧ Tk 9 w w' := by
  rcases h.2 with ⟨hv, hz⟩ | ⟨g, cap, cur, hv, hbase, hgb, r1, r2, r3, r4⟩
  · injection hv with e1 e2 e3
    subst e1 e3
    have hss : xs = [] := List.eq_nil_of_length_eq_zero hz
    subst hss
    refine (Tryz.slices_Compact_string_empty none 0 w).mono ?_
    rintro e w' ⟨rfl, rfl⟩
    exact ⟨rfl, RowC.nil _ _ _, Below.refl _ _, Tk.refl _ _⟩
  · injection hv with e1 e2 e3
    subst e1 e3
    have hH : Holds encStr w g 0 xs.toArray := holds_of_block hgb (by simpa using r4)
    refine (Tryz.slices_Compact_string g 0 c xs w hH (by omega) r1).mono ?_
    rintro e w' ⟨rfl, q, rfl⟩
    have hle := Lib.compact_length_le xs
    have hw := ownsRow_sorted (n := q) (os := #[]) (ss := xs) (ts := Lib.compact xs ++ List.replicate (xs.length - (Lib.compact xs).length) []) (by simp; omega) hbase hgb r1 r2 r3
    have hg := grownBy_sorted (w := w) (g := g) (n := q) (os := #[]) (Lib.compact xs ++ List.replicate (xs.length - (Lib.compact xs).length) []).toArray
    rw [grow_none] at hw hg
    rw [← eC_map] at hw
    exact ⟨rfl, (RowC.own eC_length (by decide) hw).2.left, (Below.refl base w).grown hg (by have := (Array.getElem?_eq_some_iff.1 hgb).1; omega) (fun j hj => by cases hj; exact hbase), Tk.of_grown hg hgb⟩
end Go.Proofs.YtclcabdekeegdaaGreat
