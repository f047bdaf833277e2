/- The statements CrcOf and CrcKeeps: the walks. -/
import Derived.Test.YtdinnkkgpimgdaaCrcRef
import Derived.Laws.IdiomStrings
namespace Go.Proofs.Ytdinnkkgpimgdaa
open Go.ChangeShapes Go.WideShapes Go.ChangeAt Go.RowKit

theorem size_list (s : ByteArray) : s.size = s.data.toList.length := by simp
theorem bytes_laid (s : ByteArray) (w : World) (cap : Nat) (t : TypeId) (fr : Nat × Nat) (b : Nat) (hb : b = w.heap.size) : BytesAt (w.alloc (.cells (bytesRow s cap) t fr)) b 0 s.data.toList := by
  subst hb
  intro j hj
  have hj' : j < s.data.size := by simpa using hj
  rw [Nat.zero_add, World.cell?_alloc_mark]
  unfold bytesRow
  rw [Array.getElem?_append_left (by simpa using hj')]
  have e : s.data[j]? = some s.data[j] := Array.getElem?_eq_getElem hj'
  simp [List.getD, e]

theorem addr_add (b j : Nat) : (⟨b, 0, none⟩ : Addr).add j = ⟨b, j, none⟩ := by unfold Addr.add; split <;> simp_all
theorem crcof_walk (s : ByteArray) (hs : s.size ≤ maxLen) (w : World) :
    Calls Try.prog 3 #[.string s] w fun e w' => e = .returned (.bool true) ∧ Below w.heap.size w w' := by
  have hcv := fun W => run_bytes_of_string (P := Try.prog) W 9 26 5 s Try.underlying9 Try.underlying26 Try.underlying5
  unfold maxLen at hs
  go_enter Try.func3, Try.ntmps3
  by_cases hbig : 4000 < s.size
  · go_wp2_with (go_at_call 7; refine (alive_any _).mono ?_; rintro e w' ⟨rfl, rfl⟩)
    go_ret
    exact ⟨rfl, Below.refl _ _⟩
  · go_wp2_with ((first | (go_at_call 7; refine (alive_any _).mono ?_; rintro e w' ⟨rfl, rfl⟩) | (go_at_call 8; refine (ref_of s hs _).mono ?_; rintro e w' ⟨rfl, rfl⟩) | (go_at_call 9; refine (of_str s hs _).mono ?_; rintro e w' ⟨rfl, rfl⟩) | (go_at_call 10; refine (of_bytes s.data.toList _ (size_list s) hs _ 0 _ _ ?c1).mono ?_; (case c1 => exact bytes_laid s _ _ _ _ _ rfl); rintro e w' ⟨rfl, rfl⟩)))
    go_ret
    exact ⟨by simp, (Below.refl _ _).drew.alloc (Nat.le_refl _) _⟩

theorem crckeeps_walk (s : ByteArray) (hs : s.size ≤ maxLen) (w : World) :
    Calls Try.prog 6 #[.string s] w fun e w' => e = .returned (.bool true) ∧ Below w.heap.size w w' := by
  have hcv := fun W => run_bytes_of_string (P := Try.prog) W 9 26 5 s Try.underlying9 Try.underlying26 Try.underlying5
  have hback : ∀ (cap : Nat) (cap' : Nat) (t : TypeId) (fr : Nat × Nat), (convert 26 9 (.slice (some ⟨w.heap.size, 0, none⟩) s.size cap')).run Try.prog (w.alloc (.cells (bytesRow s cap) t fr)).drew = .ok (.string s) (w.alloc (.cells (bytesRow s cap) t fr)).drew := by
    intro cap cap' t fr
    have h := run_convert_bytes_back (P := Try.prog) (w.drew.alloc (.cells (bytesRow s cap) t fr)) 26 9 5 ⟨w.heap.size, 0, none⟩ cap' s.data.toList Try.underlying26 Try.underlying5 Try.underlying9 (fun j hj => by
      have := bytes_laid s w.drew cap t fr w.heap.size rfl j hj
      rw [Nat.zero_add] at this
      rw [addr_add, this]
      rw [show s.data.toList.getD j 0 = s.data.toList[j] by rw [List.getD, List.getElem?_eq_getElem hj]; rfl])
    rw [← size_list s] at h
    exact h
  unfold maxLen at hs
  go_enter Try.func6, Try.ntmps6
  by_cases hbig : 4000 < s.size
  · go_wp2_with (go_at_call 7; refine (alive_any _).mono ?_; rintro e w' ⟨rfl, rfl⟩)
    go_ret
    exact ⟨rfl, Below.refl _ _⟩
  · go_wp2_with ((first | (go_at_call 7; refine (alive_any _).mono ?_; rintro e w' ⟨rfl, rfl⟩) | (go_at_call 10; refine (of_bytes s.data.toList _ (size_list s) hs _ 0 _ _ ?c2).mono ?_; (case c2 => exact bytes_laid s _ _ _ _ _ rfl); rintro e w' ⟨rfl, rfl⟩) | (go_at_call 12; refine (more_bytes 7 (by omega) s.data.toList _ (size_list s) hs _ 0 _ _ ?c3).mono ?_; (case c3 => exact bytes_laid s _ _ _ _ _ rfl); rintro e w' ⟨rfl, rfl⟩)))
    go_ret
    exact ⟨by simp, (Below.refl _ _).drew.alloc (Nat.le_refl _) _⟩
end Go.Proofs.Ytdinnkkgpimgdaa
