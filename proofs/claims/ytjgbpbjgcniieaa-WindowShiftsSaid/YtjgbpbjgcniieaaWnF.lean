/- Layer 14, walked: the document's Of. -/
import Derived.Test.YtjgbpbjgcniieaaWnE
import Derived.Laws.AppendOwnNone
import Derived.Laws.OwnMore
namespace Go.Proofs.Ytjgbpbjgcniieaa
open Go Go.ChangeShapes Go.WideShapes Go.ChangeAt Go.RowKit
set_option linter.unusedVariables false
set_option linter.unusedSimpArgs false
/-- Where the j-th ahead of the last one begins. -/
def sB (t slide : Int) (j : Nat) : Int := t / slide * slide - j * slide
/-- The last j. -/
def wsR (t slide : Int) : Nat → List Int
  | 0 => []
  | j + 1 => sB t slide j :: wsR t slide j
section
variable {t size slide : Int}
theorem sB_next (t slide : Int) (j : Nat) : sB t slide (j + 1) = sB t slide j - slide := by
  unfold sB
  rw [show ((j + 1 : Nat) : Int) = (j : Int) + 1 by omega, Int.add_mul, Int.one_mul]; omega
theorem sB_low (h1 : 1 ≤ slide) {i j : Nat} (h : j ≤ i) : sB t slide i ≤ sB t slide j := by
  unfold sB
  have : (j : Int) * slide ≤ (i : Int) * slide := Int.mul_le_mul_of_nonneg_right (by omega) (by omega)
  omega
theorem sB_win {j : Nat} (h : j ≤ winJ t size slide) : sB t slide j = winS t size slide (winJ t size slide - j) := by
  unfold sB winS
  rw [show ((winJ t size slide - j : Nat) : Int) = (winJ t size slide : Int) - j by omega, show t / slide - (winJ t size slide : Int) + ((winJ t size slide : Int) - j) = t / slide - j by omega, Int.sub_mul]
theorem sB_has (h1 : 1 ≤ slide) (h2 : slide ≤ size) {j : Nat} (h : j ≤ winJ t size slide) : t - sB t slide j < size ∧ sB t slide j ≤ t := by
  have := winS_has (t := t) h1 h2 (i := winJ t size slide - j) (by omega)
  rw [← sB_win h] at this
  unfold hasW at this
  rw [Bool.and_eq_true, decide_eq_true_eq, decide_eq_true_eq] at this
  omega
theorem sB_not (h1 : 1 ≤ slide) (h2 : slide ≤ size) : size ≤ t - sB t slide (winJ t size slide + 1) := by
  have := winS_first (t := t) h1 h2
  have e := sB_win (t := t) (size := size) (slide := slide) (Nat.le_refl _)
  rw [Nat.sub_self] at e
  have h3 := sB_has (t := t) h1 h2 (Nat.le_refl _)
  rw [sB_next]
  rw [e] at h3 ⊢
  unfold hasW at this
  rw [Bool.and_eq_false_iff, decide_eq_false_iff_not, decide_eq_false_iff_not] at this
  omega
theorem wsR_is (t size slide : Int) : ∀ j, j ≤ winJ t size slide + 1 → wsR t slide j = (List.range j).map (fun i => winS t size slide (winJ t size slide + 1 - j + i))
  | 0, _ => rfl
  | j + 1, h => by
    rw [wsR, wsR_is t size slide j (by omega), List.range_succ_eq_map, List.map_cons, List.map_map, sB_win (size := size) (by omega), show winJ t size slide - j = winJ t size slide + 1 - (j + 1) + 0 by omega]
    refine congrArg _ (List.map_congr_left fun i _ => ?_)
    show winS t size slide _ = winS t size slide (_ + (i + 1))
    exact congrArg _ (by omega)
theorem wsR_all : wsR t slide (winJ t size slide + 1) = winL t size slide := by
  rw [wsR_is t size slide _ (Nat.le_refl _)]
  unfold winL
  exact List.map_congr_left fun i _ => congrArg _ (by omega)
end
/-- 'l = append([]int64{s}, l...)'. -/
theorem prepend_item {ops : Array Oper} {rest : List Oper} {o : Oper} {a : Act} {Q : Exit → Act → World → Prop} (hgd : o.guard = none) (s x : Operand)
    (ho : o.op = .call { callee := .builtin .append, args := #[s, x], argTypes := #[23, 23] })
    (w0 : World) (v : Int) (hs : a.eval s = .slice (some ⟨w0.heap.size, 0, none⟩) 1 1) (B : Nat) (A : Option Addr) (n c : Nat) (l : List Int) (hx : a.eval x = .slice A n c) (hrow : w0.ownsRow B 2 1 (.slice A n c) n (l.flatMap iC)) (hB : B ≤ w0.heap.size) (hl : l.length = n) (hn : n ≤ 64)
    (h : ∀ A' c' w', w'.ownsRow B 2 1 (.slice A' (n + 1) c') (n + 1) ((v :: l).flatMap iC) → Below B w0 w' → wpList Try.prog ops Q rest (a.put o.dst (.slice A' (n + 1) c')) w') :
    wpList Try.prog ops Q (o :: rest) a (w0.alloc (.cells #[.int .i64 v] 2)) := by
  obtain ⟨i0, hi, hz0, hz1, hz2⟩ := info_parts info_i
  have hnew : (w0.alloc (.cells #[.int .i64 v] 2)).ownsRow w0.heap.size 2 1 (.slice (some ⟨w0.heap.size, 0, none⟩) 1 1) 1 [.int .i64 v] := World.ownsRow_lit w0 #[.int .i64 v] 1 (Nat.le_refl _) (by decide) rfl
  have hb0 : Below B w0 (w0.alloc (.cells #[.int .i64 v] 2)) := (Below.refl _ _).alloc hB _
  have hA := (RowC.own iC_length (by decide) hrow).2
  have hr2 := hrow
  cases A with
  | none =>
    have h0 : n = 0 ∧ c = 0 := by
      rcases hr2.2 with ⟨e, _⟩ | ⟨g, cap, cur, e, _⟩
      · injection e with e1 e2 e3; exact ⟨e2, e3⟩
      · injection e with e1; cases e1
    obtain ⟨rfl, rfl⟩ := h0
    obtain rfl : l = [] := List.eq_nil_of_length_eq_zero hl
    refine wpList_append_own_none hgd s x 23 ho w0.heap.size 2 i0 1 Try.underlying23 hi _ 1 _ hs hnew hx ?_
    exact h _ _ _ (hnew.mono hB) hb0
  | some ad =>
    refine wpList_append_own_at _ hgd s x 23 ho w0.heap.size 2 i0 _ 1 8 Try.underlying23 hi hz0 hz1 hz2 rfl (by decide) _ 1 _ hs hnew ad n c (l.flatMap iC) hx (by rw [flat_length iC_length, hl]) ?_ (flat_one iC_one l) (by unfold maxLen; omega) (by omega) (by simp) ?_
    · intro j u hj
      have hjl : j < l.length := by
        have := (List.getElem?_eq_some_iff.1 hj).1
        rwa [flat_length iC_length, Nat.mul_one] at this
      obtain ⟨b, off, e, hlt, hc⟩ := hA j hjl
      injection e with e
      subst e
      have h3 := flat_at iC_length l j hjl 0 (.int .i64 l[j]) rfl
      rw [Nat.mul_one, Nat.add_zero] at h3
      rw [h3] at hj
      injection hj with hj
      subst hj
      have h4 := hc 0 _ rfl
      rw [Nat.mul_one, Nat.add_zero] at h4
      have e2 : (⟨b, off, none⟩ : Addr).add j = ⟨b, off + j, none⟩ := by unfold Addr.add; split <;> simp_all
      rw [e2]
      exact ((Below.refl w0.heap.size w0).alloc (Nat.le_refl _) _).cell (p := ⟨b, off + j, none⟩) hlt |>.trans h4
    · intro v' w' hown hg _ _
      obtain ⟨A', c', rfl⟩ := own_slice hown
      rw [Nat.add_comm 1 n] at hown ⊢
      refine h A' c' w' (hown.mono hB) (hb0.grown hg (by simp; omega) (fun k e => ?_))
      have : k = w0.heap.size := by simpa [Value.ownBlock] using e.symm
      omega
end Go.Proofs.Ytjgbpbjgcniieaa
