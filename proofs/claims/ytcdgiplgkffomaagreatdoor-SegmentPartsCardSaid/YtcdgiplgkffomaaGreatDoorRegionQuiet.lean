/- In a round of a range over a function, too, a region that only reads is walked once (from the third stage). -/
import Derived.Test.YtcdgiplgkffomaaGreatDoorRangeA
import Derived.RangeFuncCalls
import Derived.RangeFuncLeaves
import Derived.Sort.QuietTacIn
import Derived.LoopNIn
namespace Go.Proofs.YtcdgiplgkffomaaGreatDoor
attribute [local go_sem] Oper.semAt_some
open Go Go.RowKit
set_option linter.unusedVariables false

section
variable {F : Fence} {n : Nat} {P : Program} {ops : Array Oper} {md : Region.Mode} {C : World → Prop}
/-- In a round, too, a region that only reads is walked once. -/
theorem any_of_quiet {Q : Act → Prop} {Q' : Exit → Act → World → Prop} (hnd : ∀ (i : Nat) (o : Oper), ops[i]? = some o → ∀ c, o.op ≠ .defer c) (hQ : ∀ a w, C w → Q a → Q' .normal a w) : ∀ (fuel : Nat) (listed : Array Bool) (a : Act) (w : World), C w →
    wpAnyQIn F n P md ops C Q fuel listed a → wpAnyIn F n P md ops Q' fuel listed a w
  | 0, _, _, _, hw, h => ⟨h.1, hQ _ _ hw h.2⟩
  | fuel + 1, listed, a, w, hw, h => by
    refine ⟨fun h0 => hQ _ _ hw (h.1 h0), fun i hi => ?_⟩
    have h2 := h.2 i hi
    have ih := fun l2 a2 w2 => any_of_quiet hnd hQ fuel l2 a2 w2
    unfold qOpIn at h2
    unfold wpOpIn
    cases ho : ops[i]? with
    | none => rw [ho] at h2; exact ih _ _ _ hw h2
    | some o =>
      rw [ho] at h2
      dsimp only at h2 ⊢
      obtain ⟨hask, h3⟩ := h2
      by_cases hwt : Region.wanted o (yielded ops a.tmps) = true
      · rw [if_pos hwt] at h3 ⊢
        obtain ⟨v, hv, hK⟩ := h3
        have hv1 := hv w hw
        unfold Oper.quietAtIn at hv1
        refine ⟨hask w hw, ?_⟩
        rw [Oper.semAt_eq _ _ _ (hnd i o ho)]
        revert hv1
        generalize (execOp a.eval o).run P w = r
        intro hv1
        cases r with
        | halt x w' => exact hv1.elim
        | ok x w' =>
          cases x <;> try exact hv1.elim
          · obtain ⟨e1, e2⟩ := hv1
            subst e1 e2
            exact ih _ _ _ hw hK
          · obtain ⟨e1, e2⟩ := hv1
            subst e1 e2
            exact ih _ _ _ hw hK
          · obtain ⟨e1, hd, hc⟩ := hv1
            subst e1
            refine ⟨hd, hc.mono ?_⟩
            rintro e w2 ⟨rfl, hw2⟩
            exact ih _ _ _ hw2 hK
      · rw [if_neg hwt] at h3 ⊢
        exact ⟨hask w hw, ih _ _ _ hw h3⟩
theorem region_quiet {id : Nat} {Q : Exit → Act → World → Prop} {a : Act} {w : World} {l : List Oper} (hnd : ∀ o ∈ l, ∀ c, o.op ≠ .defer c) (hm : P.follows .mixedOrders = true) (hB : Region.lexB .any l.toArray = true)
    (h : wpQuietIn F n P l.toArray (fun w' => ∃ n, w' = w.drewN n) (fun a' => ∀ w', (∃ n, w' = w.drewN n) → Q .normal a' w') l a) : (Code.region id l.toArray true).wpIn F n P Q a w := by
  simp only [Region.lexB, Bool.and_eq_true] at hB
  refine wpIn_region_any hm (any_of_quiet (C := fun w' => ∃ n, w' = w.drewN n) (Q := fun a' => ∀ w', (∃ n, w' = w.drewN n) → Q .normal a' w') (fun i o h => hnd o (List.mem_of_getElem? (by simpa using h))) (fun _ w' hw' h => h w' hw') _ _ _ _ ⟨1, rfl⟩ ?_)
  have := wpAnyQIn_lex (F := F) (n := n) (P := P) (C := fun w' => ∃ n, w' = w.drewN n) (Q := fun a' => ∀ w', (∃ n, w' = w.drewN n) → Q .normal a' w') (md := .any) hB.1 l 0 (Array.replicate l.toArray.size false) a (by simp) (by simpa using hB.2) h
  simpa using this
end

end Go.Proofs.YtcdgiplgkffomaaGreatDoor
