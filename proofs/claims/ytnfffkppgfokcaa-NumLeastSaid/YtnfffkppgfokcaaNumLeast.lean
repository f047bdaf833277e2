/- The statement NumLeast: the walks. -/
import Derived.Test.YtnfffkppgfokcaaNumLaws
import Derived.Test.YtnfffkppgfokcaaListPlain
import Derived.LoopTactic
namespace Go.Proofs.Ytnfffkppgfokcaa
open Go.ChangeShapes Go.WideShapes Go.ChangeAt Go.RowKit

theorem least_zero (n : Int) (a : Option Addr) (cap : Nat) (w : World) :
    Calls Try.prog 21 #[.int .i64 n, .slice a 0 cap] w fun e w' => e = .returned (.int .i64 n) ∧ w = w' := by
  go_enter Try.func21, Try.ntmps21
  go_wp2
  go_loop [0, 9] (fun m i => i = .int .i64 0 ∧ m = .int .i64 n) (fun _ _ => 0)
  case atStart => exact ⟨rfl, rfl⟩
  case round =>
    obtain ⟨rfl, rfl⟩ := hrel
    go_wp2
    go_ret
    exact ⟨rfl, rfl⟩

theorem least_some (n : Int) (b off len cap : Nat) (zs : List Int) (w : World) (h : IntsAt .i64 w b off len zs) :
    Calls Try.prog 21 #[.int .i64 n, .slice (some ⟨b, off, none⟩) len cap] w fun e w' => e = .returned (.int .i64 (leastOf n (zs.take len))) ∧ w = w' := by
  obtain ⟨hl, hm, hc⟩ := h
  go_enter Try.func21, Try.ntmps21
  go_wp2
  go_loop [0, 9] (fun m i => ∃ k : Nat, k ≤ len ∧ i = .int .i64 k ∧ m = .int .i64 (leastOf n (zs.take k))) (fun _ i => len - (intOf i).toNat)
  case atStart => exact ⟨0, Nat.zero_le _, rfl, rfl⟩
  case round =>
    obtain ⟨k, hk, rfl, rfl⟩ := hrel
    by_cases hlt : k < len
    · have hcell := hc k (by omega)
      have hs : leastOf n (zs.take (k + 1)) = if zs.getD k 0 < leastOf n (zs.take k) then zs.getD k 0 else leastOf n (zs.take k) := by rw [take_snoc zs k (by omega), leastOf_snoc]
      have HS := Lib.hid hs
      clear hs hc
      generalize zs.getD k 0 = z at *
      generalize leastOf n (zs.take k) = m at *
      by_cases hzm : z < m
      · go_wp2
        go_round
        case rel => exact ⟨k + 1, by omega, by go_num, by rw [HS.out, if_pos hzm]⟩
        case measure => simp [intOf]; omega
      · go_wp2
        go_round
        case rel => exact ⟨k + 1, by omega, by go_num, by rw [HS.out, if_neg hzm]⟩
        case measure => simp [intOf]; omega
    · have : k = len := by omega
      subst this
      go_wp2
      go_ret
      exact ⟨rfl, rfl⟩

/-- What has been found behind the first k numbers. -/
def found (m a : Int) (zs : List Int) (k : Nat) : Bool := (m == a) || among m (zs.take k)
theorem found_zero (m a : Int) (zs : List Int) : found m a zs 0 = (m == a) := by unfold found among; simp
theorem found_succ (m a : Int) (zs : List Int) (k : Nat) (h : k < zs.length) : found m a zs (k + 1) = (found m a zs k || zs.getD k 0 == m) := by
  unfold found; rw [take_snoc zs k h, among_snoc, Bool.or_assoc]
theorem found_all (a : Int) (l : List Int) (zs : List Int) (len : Nat) (hl : l = zs.take len) : found (leastOf a l) a zs len = true := by
  unfold found
  rw [← hl]
  rcases leastOf_mem a l with h | h
  · simp [h]
  · simp [among_mem h]

theorem leastlaw_zero (n : Int) (a : Option Addr) (cap : Nat) (w : World) :
    Calls Try.prog 9 #[.int .i64 n, .slice a 0 cap] w fun e w' => e = .returned (.bool true) ∧ Below w.heap.size w w' := by
  go_enter Try.func9, Try.ntmps9
  go_wp2_with fail
  refine (alive_any _).mono ?_
  rintro e w1 ⟨rfl, hb⟩
  go_wp2_with fail
  refine (least_zero n a cap _).mono ?_
  rintro e w2 ⟨rfl, rfl⟩
  go_wp2
  go_loop [6, 7] (fun t i => i = .int .i64 0 ∧ t = .bool true) (fun _ _ => 0)
  case atStart => exact ⟨rfl, by simp⟩
  case round =>
    obtain ⟨rfl, rfl⟩ := hrel
    go_wp2
    go_ret
    exact ⟨rfl, hb⟩

theorem leastlaw_some (n : Int) (b off len cap : Nat) (zs : List Int) (w : World) (h : IntsAt .i64 w b off len zs) (hB : b < w.heap.size) :
    Calls Try.prog 9 #[.int .i64 n, .slice (some ⟨b, off, none⟩) len cap] w fun e w' => e = .returned (.bool true) ∧ Below w.heap.size w w' := by
  go_enter Try.func9, Try.ntmps9
  go_wp2_with fail
  refine (alive_any _).mono ?_
  rintro e w1 ⟨rfl, hb⟩
  have h1 : IntsAt .i64 w1 b off len zs := ⟨h.le, h.max, fun j hj => (hb.cell (p := ⟨b, off + j, none⟩) hB).trans (h.cell j hj)⟩
  clear h
  go_wp2_with fail
  refine (least_some n b off len cap zs _ h1).mono ?_
  rintro e w2 ⟨rfl, rfl⟩
  obtain ⟨hl, hm, hc⟩ := h1
  have hfin : found (leastOf n (zs.take len)) n zs len = true := found_all n _ zs len rfl
  have hmem : ∀ k, k < len → leastOf n (zs.take len) ≤ zs.getD k 0 := by
    intro k hk
    refine leastOf_le_mem n _ _ ?_
    rw [show zs.getD k 0 = (zs.take len)[k]'(by simp; omega) by simp [List.getD, List.getElem?_eq_getElem (show k < zs.length by omega)]]
    exact List.getElem_mem _
  have hle := leastOf_le n (zs.take len)
  generalize leastOf n (zs.take len) = m at *
  have hstart := Lib.hid (found_zero m n zs)
  have HF := Lib.hid hfin
  clear hfin
  go_wp2
  go_loop [6, 7] (fun t i => ∃ k : Nat, ∃ T : Bool, k ≤ len ∧ i = .int .i64 k ∧ t = .bool T ∧ Hid (T = found m n zs k)) (fun _ i => len - (intOf i).toNat)
  case atStart => exact ⟨0, _, Nat.zero_le _, rfl, rfl, hstart.out.symm⟩
  case round =>
    obtain ⟨k, T, hk, rfl, rfl, hT⟩ := hrel
    by_cases hlt : k < len
    · have hcell := hc k (by omega)
      have hz := hmem k hlt
      have HS := Lib.hid (found_succ m n zs k (by omega))
      clear hc hmem hstart
      generalize zs.getD k 0 = z at *
      have hzm : decide (z < m) = false := by simp; omega
      cases T
      · go_wp2
        go_round
        case rel => exact ⟨k + 1, _, by omega, by go_num, rfl, Lib.hid (by rw [HS.out, ← hT.out]; simp)⟩
        case measure => simp [intOf]; omega
      · go_wp2
        go_round
        case rel => exact ⟨k + 1, _, by omega, by go_num, rfl, Lib.hid (by rw [HS.out, ← hT.out]; simp)⟩
        case measure => simp [intOf]; omega
    · have : k = len := by omega
      subst this
      have hT2 : T = true := by rw [hT.out, HF.out]
      subst hT2
      clear hc hmem hstart
      go_wp2
      go_ret
      exact ⟨by simp, hb⟩
end Go.Proofs.Ytnfffkppgfokcaa
