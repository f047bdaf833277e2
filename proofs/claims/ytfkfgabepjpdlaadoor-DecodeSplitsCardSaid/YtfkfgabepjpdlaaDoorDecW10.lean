/- Layer 12, walked: the fields of bytes. -/
import Derived.Test.YtfkfgabepjpdlaaDoorDecR1
namespace Go.Proofs.YtfkfgabepjpdlaaDoor
open Go.ChangeShapes Go.WideShapes Go.ChangeAt Go.RowKit
set_option linter.unusedVariables false

theorem fieldsB_any (A : Option Addr) (n c : Nat) (w : World) :
    Calls Tryd.prog 44 #[.slice A n c] w fun e w' => e = .returned (.func (.func 52) #[] #[.pointer (some ⟨w.heap.size + 1, 0, none⟩), .pointer (some ⟨w.heap.size, 0, none⟩)]) ∧
      w' = (w.alloc (.cells #[.slice A n c] 35)).alloc (.cells #[.int .i64 0] 3) := by
  go_enter Tryd.func44, Tryd.ntmps44
  go_wp2
  go_ret
  exact ⟨rfl, rfl⟩
/-- Where the bytes from place p on lie. -/
def cutA (A : Option Addr) (c p : Nat) : Option Addr := if c = p then A else A.map (·.add p)
set_option maxHeartbeats 1000000 in
set_option maxRecDepth 20000 in
theorem nextB_any (l : List UInt8) (A : Option Addr) (n c : Nat) (F G p : Nat) (w : World) (hn : n = l.length) (hs : n ≤ 1099511627776) (hc : n ≤ c) (hcm : c ≤ maxLen) (hb : BytesAt w w.heap.size A l) (hp : p ≤ n) (hF : w.heap[F]? = some (.cells #[.int .i64 (p : Int)] 3 (0, 0))) (hG : w.heap[G]? = some (.cells #[.slice A n c] 35 (0, 0))) (hne : F ≠ G) :
    Calls Tryd.prog 52 #[.pointer (some ⟨F, 0, none⟩), .pointer (some ⟨G, 0, none⟩)] w fun e w' =>
      e = .returned (.tuple #[.slice (cutA A c p) (fl (l.drop p)) (c - p), .bool true]) ∧ w' = w.setCell ⟨F, 0, none⟩ (.int .i64 ((p + fl (l.drop p) + 1 : Nat) : Int)) := by
  have HLL := Lib.hid hn
  have HFL := Lib.hid (fl_le (l.drop p))
  have HLE := Lib.hid (List.length_drop (l := l) (i := p))
  obtain ⟨m, hm⟩ : ∃ m, fl (l.drop p) = m := ⟨_, rfl⟩
  have HN := Lib.hid hm
  rw [hm] at HFL ⊢
  have HBY := Lib.hid hb
  clear hm hn hb
  have cF := cell_of_one hF
  have fF := free_of_one hF
  have cG := cell_of_one hG
  clear hF hG
  unfold maxLen at hcm
  go_enter Tryd.func52, Tryd.ntmps52
  go_wp2
  go_loop [5] (fun i => ∃ k : Nat, p ≤ k ∧ k ≤ n + 1 ∧ i = .int .i64 (k : Int) ∧ Hid (min k n - p + fl (l.drop k) = m)) (fun i => n + 1 - (intOf i).toNat)
  case atStart => exact ⟨p, Nat.le_refl _, by omega, rfl, Lib.hid (by rw [HN.out]; omega)⟩
  case round =>
    obtain ⟨k, hpk, hk, rfl, HA⟩ := hrel
    have HP2 := Lib.hid hpk
    have HK2 := Lib.hid hk
    by_cases hlt : k < n
    · have hkl : k < l.length := by rw [← HLL.out]; exact hlt
      obtain ⟨b, off, rfl, hbB, d0⟩ := HBY.out k hkl
      obtain ⟨d, HD⟩ : ∃ d, Hid (l[k] = d) := ⟨_, Lib.hid rfl⟩
      rw [HD.out] at d0
      by_cases h44 : d = 44
      · have HE := Lib.hid (show k = p + m by have h1 := HA.out; rw [fl_next44 hkl (by rw [HD.out]; exact h44)] at h1; have := HP2.out; omega)
        have q1 : ((d.toNat : Int) != 44) = false := by rw [h44]; rfl
        have m1 : min (k : Int) (n : Int) = (k : Int) := by omega
        have i1 : (0 : Int) ≤ (p : Int) := by omega
        have i2 : (p : Int) ≤ (k : Int) := by omega
        have i3 : (k : Int) ≤ (c : Int) := by omega
        clear h44
        go_wp2
        go_ret2
        have h1 := HE.out
        refine ⟨?_, ?_⟩
        · rw [show cutA (some ⟨b, off, none⟩) c p = some ⟨b, off + p, none⟩ by unfold cutA; rw [if_neg (by omega)]; simp [add_at], h1, show p + m - p = m by omega]; rfl
        · rw [h1]; rfl
      · have q1 : ((d.toNat : Int) != 44) = true := bne44 h44
        by_cases h92 : d = 92
        · have q2 : ((d.toNat : Int) == 92) = true := by rw [h92]; rfl
          have HA2 := Lib.hid (show min (k + 2) n - p + fl (l.drop (k + 2)) = m by have h1 := HA.out; rw [fl_next92 hkl (by rw [HD.out]; exact h92)] at h1; have := HP2.out; have := HLL.out; omega)
          clear h44 h92
          go_wp2
          go_round
          case rel => exact ⟨k + 2, by omega, by omega, by go_num, HA2⟩
          case measure => simp [intOf]; omega
        · have q2 : ((d.toNat : Int) == 92) = false := beq92 h92
          have HA2 := Lib.hid (show min (k + 1) n - p + fl (l.drop (k + 1)) = m by have h1 := HA.out; rw [fl_nextgo hkl (by rw [HD.out]; exact h44) (by rw [HD.out]; exact h92)] at h1; have := HP2.out; omega)
          clear h44 h92
          go_wp2
          go_round
          case rel => exact ⟨k + 1, by omega, by omega, by go_num, HA2⟩
          case measure => simp [intOf]; omega
    · have HE := Lib.hid (show n = p + m by have h1 := HA.out; have h2 := HLL.out; rw [List.drop_of_length_le (by omega), fl_nil] at h1; omega)
      have i1 : (0 : Int) ≤ (p : Int) := by omega
      have i2 : (p : Int) ≤ (n : Int) := by omega
      have i3 : (n : Int) ≤ (c : Int) := by omega
      by_cases hcp : c = p
      · have hcut : cutA A c p = A := by unfold cutA; rw [if_pos hcp]
        subst hcp
        by_cases hks : k = n
        · subst hks
          go_wp2
          go_ret2
          have h1 := HE.out
          have hmz : m = 0 := by omega
          refine ⟨?_, ?_⟩
          · rw [hmz]; first | rfl | (rw [hcut]; rfl) | (simp; done)
          · rw [h1]; rfl
        · obtain rfl : k = n + 1 := by omega
          have m1 : min ((n : Int) + 1) (n : Int) = (n : Int) := by omega
          go_wp2
          go_ret2
          have h1 := HE.out
          have hmz : m = 0 := by omega
          refine ⟨?_, ?_⟩
          · rw [hmz]; first | rfl | (rw [hcut]; rfl) | (simp; done)
          · rw [h1]; rfl
      · have hcut : cutA A c p = A.map (·.add p) := by unfold cutA; rw [if_neg hcp]
        by_cases hks : k = n
        · subst hks
          go_wp2
          go_ret2
          have h1 := HE.out
          have hmz : m = k - p := by omega
          refine ⟨?_, ?_⟩
          · rw [hmz]; first | rfl | (rw [hcut]; rfl) | (simp; done)
          · rw [h1]; rfl
        · obtain rfl : k = n + 1 := by omega
          have m1 : min ((n : Int) + 1) (n : Int) = (n : Int) := by omega
          go_wp2
          go_ret2
          have h1 := HE.out
          have hmz : m = n - p := by omega
          refine ⟨?_, ?_⟩
          · rw [hmz]; first | rfl | (rw [hcut]; rfl) | (simp; done)
          · rw [h1]; rfl
theorem nextB_end (A : Option Addr) (n c : Nat) (F G p : Nat) (w : World) (hs : n ≤ 1099511627776) (hp : n < p) (hp2 : p ≤ 1099511627778) (hF : w.heap[F]? = some (.cells #[.int .i64 (p : Int)] 3 (0, 0))) (hG : w.heap[G]? = some (.cells #[.slice A n c] 35 (0, 0))) :
    Calls Tryd.prog 52 #[.pointer (some ⟨F, 0, none⟩), .pointer (some ⟨G, 0, none⟩)] w fun e w' => e = .returned (.tuple #[.slice none 0 0, .bool false]) ∧ w = w' := by
  have cF := cell_of_one hF
  have cG := cell_of_one hG
  clear hF hG
  have q : decide ((n : Int) < (p : Int)) = true := decide_eq_true (by omega)
  go_enter Tryd.func52, Tryd.ntmps52
  go_wp2
  go_ret2
  exact ⟨rfl, rfl⟩
end Go.Proofs.YtfkfgabepjpdlaaDoor
