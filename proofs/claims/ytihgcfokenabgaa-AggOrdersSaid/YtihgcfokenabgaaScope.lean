/- A scope in which the run may jump forward, to any of its labels, at most n times. -/
import Derived.Scope
import Derived.WalkMore
namespace Go.Proofs.Ytihgcfokenabgaa
open Go

def land (P : Program) (c : Code) (Q : Exit → Act → World → Prop) : Nat → Exit → Act → World → Prop
  | 0, .goto _, _, _ => False
  | n + 1, .goto l, a, w => ∃ rest, findLabel c l = some rest ∧ rest.wp P (land P c Q n) a w
  | _, e, a, w => Q e a w
section
variable {P : Program} {c : Code} {Q : Exit → Act → World → Prop} {a : Act} {w : World} {n : Nat}
theorem land_goto {l : Nat} {rest : Code} (hf : findLabel c l = some rest) (h : rest.wp P (land P c Q n) a w) : land P c Q (n + 1) (.goto l) a w := ⟨rest, hf, h⟩
@[go_sem] theorem land_ret : land P c Q n .ret a w = Q .ret a w := by cases n <;> rfl
@[go_sem] theorem land_normal : land P c Q n .normal a w = Q .normal a w := by cases n <;> rfl
@[go_sem] theorem land_exit (id : Nat) : land P c Q n (.exit id) a w = Q (.exit id) a w := by cases n <;> rfl
@[go_sem] theorem land_panic (ch : List PanicEntry) : land P c Q n (.panic ch) a w = Q (.panic ch) a w := by cases n <;> rfl
@[go_sem] theorem land_outgrown : land P c Q n .outgrown a w = Q .outgrown a w := by cases n <;> rfl

theorem land_runs : ∀ (n : Nat) (r : Code) (a : Act) (w : World), r.wp P (land P c Q n) a w → ∀ (b : Frame) (k : List Item) (cs : List Frame),
    ∃ e a' w', Q e a' w' ∧ Arrives P (lone (b.at a (.code r :: .inScope c :: k)) cs w) b k cs e a' w' := by
  intro n
  induction n with
  | zero =>
    intro r a w hr b k cs
    obtain ⟨e, a₁, w₁, hq, harr⟩ := hr b (.inScope c :: k) cs
    cases e with
    | normal => exact ⟨.normal, a₁, w₁, hq, Steps.trans harr (.one step_inScope)⟩
    | exit id => exact ⟨.exit id, a₁, w₁, hq, fun k' hk => harr k' (by simp [exitTo, hk])⟩
    | goto l' => exact hq.elim
    | ret => exact ⟨_, a₁, w₁, hq, harr⟩
    | panic ch => exact ⟨_, a₁, w₁, hq, harr⟩
    | outgrown => exact ⟨_, a₁, w₁, hq, harr⟩
  | succ n ih =>
    intro r a w hr b k cs
    obtain ⟨e, a₁, w₁, hq, harr⟩ := hr b (.inScope c :: k) cs
    cases e with
    | normal => exact ⟨.normal, a₁, w₁, hq, Steps.trans harr (.one step_inScope)⟩
    | exit id => exact ⟨.exit id, a₁, w₁, hq, fun k' hk => harr k' (by simp [exitTo, hk])⟩
    | goto l' =>
      obtain ⟨rest, hf, hw⟩ := hq
      have hg : gotoIn l' (.inScope c :: k) = some (.code rest :: .inScope c :: k) := by simp [gotoIn, hf]
      obtain ⟨e₂, a₂, w₂, hq₂, harr₂⟩ := ih rest a₁ w₁ hw b k cs
      exact ⟨e₂, a₂, w₂, hq₂, .of_steps (harr _ hg) harr₂⟩
    | ret => exact ⟨_, a₁, w₁, hq, harr⟩
    | panic ch => exact ⟨_, a₁, w₁, hq, harr⟩
    | outgrown => exact ⟨_, a₁, w₁, hq, harr⟩

theorem wp_scope_land (n : Nat) (h : c.wp P (land P c Q n) a w) : (Code.scope c).wp P Q a w := by
  intro b k cs
  obtain ⟨e, a', w', hq, harr⟩ := land_runs n c a w h b k cs
  exact ⟨e, a', w', hq, .of_steps (.one step_scope) harr⟩
end
end Go.Proofs.Ytihgcfokenabgaa
