/- What a seat needs of several texts. -/
import Derived.Test.YtceoneigflejeaaOffC0
import Derived.Lib.Bytealg
import Derived.Lib.Small
import Derived.Lib.Replace
import Derived.Lib.UnsafeStr
/- From ValPlain. -/
namespace Go.Proofs.Ytceoneigflejeaa
set_option linter.unusedVariables false
end Go.Proofs.Ytceoneigflejeaa
/- From ValPlain2. -/
namespace Go.Proofs.Ytceoneigflejeaa
open Go.Lib
set_option linter.unusedVariables false
end Go.Proofs.Ytceoneigflejeaa
/- From CodPlain. -/
namespace Go.Proofs.Ytceoneigflejeaa
set_option linter.unusedVariables false
section
variable {α : Type} {enc : α → List UInt8} {dec : List UInt8 → Option (α × List UInt8)} {ok : α → Prop}
theorem rMany_back (hc : Codec enc dec ok) : ∀ (as : List α) (r : List UInt8), (∀ a ∈ as, ok a) → rMany dec as.length (as.flatMap enc ++ r) = some (as, r)
  | [], r, _ => rfl
  | a :: as, r, h => by
    rw [List.length_cons, List.flatMap_cons, List.append_assoc, rMany_some (hc.back a _ (h a (by simp))), rMany_back hc as r (fun x hx => h x (by simp [hx]))]
    rfl
theorem list_codec (hc : Codec enc dec ok) (most : Nat) (hm : most < 18446744073709551616) : Codec (listL enc) (rList dec most) (fun as => as.length ≤ most ∧ ∀ a ∈ as, ok a) := by
  refine ⟨fun a r h => ?_, fun a l r h => ?_, fun a _ => ?_⟩
  · unfold listL
    rw [List.append_assoc, rList_some (unL_num (by omega) _) h.1, rMany_back hc a r h.2]
  · unfold rList at h
    split at h
    · cases h
    · rename_i p hp
      split at h
      · rename_i hle
        obtain ⟨i1, i2, i3⟩ := rMany_only hc _ _ _ _ h
        obtain ⟨n, r'⟩ := p
        obtain ⟨h4, h5⟩ := unL_only hp
        unfold listL
        simp only at i1 i3 hle
        rw [List.append_assoc, ← i3, i1]
        exact ⟨h4, by omega, i2⟩
      · cases h
  · unfold listL
    have := numL_pos a.length
    rw [List.length_append]
    omega
theorem whole_back (hc : Codec enc dec ok) {as : List α} (hn : as.length ≤ 16777216) (h : ∀ a ∈ as, ok a) : whole dec (listL enc as) = some as := by
  have := (list_codec hc 16777216 (by decide)).back as [] ⟨hn, h⟩
  rw [List.append_nil] at this
  exact whole_some this
theorem whole_only (hc : Codec enc dec ok) {as : List α} {l : List UInt8} (h : whole dec l = some as) : l = listL enc as ∧ as.length ≤ 16777216 ∧ ∀ a ∈ as, ok a := by
  unfold whole at h
  split at h
  · rename_i as' he
    injection h with h
    subst h
    obtain ⟨h1, h2⟩ := (list_codec hc 16777216 (by decide)).only _ _ _ he
    rw [List.append_nil] at h1
    exact ⟨h1, h2⟩
  · cases h
end
end Go.Proofs.Ytceoneigflejeaa
