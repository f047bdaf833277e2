/- Layer 17, plainly: pairs not ahead of a key. -/
import Derived.Test.YtmeoednndfgffaaTaP
namespace Go.Proofs.Ytmeoednndfgffaa
set_option linter.unusedVariables false
set_option linter.unusedSimpArgs false
/-- Those that are not ahead of a key. -/
def fromK {α : Type} (l : List (KV α)) (key : ByteArray) : List (KV α) := l.filter fun c => !decide (ltK c.k key)
theorem fromK_drop {α : Type} {key : ByteArray} : ∀ {l : List (KV α)} {n : Nat}, RiseK l → (∀ (i : Nat) (h : i < l.length), i < n → ltK l[i].k key) → (∀ h : n < l.length, ¬ ltK l[n].k key) → fromK l key = l.drop n
  | [], n, _, _, _ => by simp [fromK]
  | d :: r, 0, hr, _, h2 => by
    have hd : ¬ ltK d.k key := h2 (by simp)
    have hp := List.pairwise_cons.1 hr
    unfold fromK
    rw [List.drop_zero, List.filter_eq_self]
    intro c hc
    have : ¬ ltK c.k key := by
      rcases List.mem_cons.1 hc with rfl | hc
      · exact hd
      · exact fun h => hd (ltK_trans (hp.1 c hc) h)
    simp [this]
  | d :: r, n + 1, hr, h1, h2 => by
    have hd : ltK d.k key := h1 0 (by simp) (by omega)
    have hp := List.pairwise_cons.1 hr
    have ih := fromK_drop (l := r) (n := n) hp.2 (fun i h hi => h1 (i + 1) (by simp; omega) (by omega)) (fun h => h2 (by simp; omega))
    unfold fromK at ih ⊢
    rw [List.filter_cons, if_neg (by simp [hd]), List.drop_succ_cons, ih]
theorem fromK_len {α : Type} (l : List (KV α)) (key : ByteArray) : (fromK l key).length ≤ l.length := List.length_filter_le _ _
end Go.Proofs.Ytmeoednndfgffaa
