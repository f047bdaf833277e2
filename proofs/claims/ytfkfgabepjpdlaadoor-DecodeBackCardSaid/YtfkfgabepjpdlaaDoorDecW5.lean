/- Layer 12, walked: the next field. -/
import Derived.Test.YtfkfgabepjpdlaaDoorDecW4
import Derived.OneCell
namespace Go.Proofs.YtfkfgabepjpdlaaDoor
open Go.ChangeShapes Go.WideShapes Go.ChangeAt Go.RowKit
set_option linter.unusedVariables false

theorem nat44 {c : UInt8} (h : c ≠ 44) : c.toNat ≠ 44 := fun e => h (UInt8.toNat_inj.1 e)
theorem nat92 {c : UInt8} (h : c ≠ 92) : c.toNat ≠ 92 := fun e => h (UInt8.toNat_inj.1 e)
theorem bne44 {c : UInt8} (h : c ≠ 44) : ((c.toNat : Int) != 44) = true := by have := nat44 h; rw [bne_iff_ne]; omega
theorem bne92 {c : UInt8} (h : c ≠ 92) : ((c.toNat : Int) != 92) = true := by have := nat92 h; rw [bne_iff_ne]; omega
theorem beq44 {c : UInt8} (h : c ≠ 44) : ((c.toNat : Int) == 44) = false := by have := nat44 h; rw [beq_eq_false_iff_ne]; omega
theorem beq92 {c : UInt8} (h : c ≠ 92) : ((c.toNat : Int) == 92) = false := by have := nat92 h; rw [beq_eq_false_iff_ne]; omega
/-! ### The next field -/
theorem sub_txt (s : ByteArray) (a b : Nat) : s.extract a b = txt ((s.data.toList.drop a).take (b - a)) := str_ext (by rw [Lib.extract_data, txt_list])
theorem fl_next44 {l : List UInt8} {k : Nat} (h : k < l.length) (hc : l[k] = 44) : fl (l.drop k) = 0 := by
  rw [List.drop_eq_getElem_cons h, hc, fl_cut]
theorem fl_next92 {l : List UInt8} {k : Nat} (h : k < l.length) (hc : l[k] = 92) : fl (l.drop k) = min (k + 2) l.length - k + fl (l.drop (k + 2)) := by
  rw [List.drop_eq_getElem_cons h, hc]
  cases hd : l.drop (k + 1) with
  | nil =>
    have : l.length ≤ k + 1 := by
      have := congrArg List.length hd
      simp at this; omega
    rw [fl_last, List.drop_of_length_le (by omega), fl_nil]
    omega
  | cons d r =>
    have hl : k + 1 < l.length := by
      have := congrArg List.length hd
      simp at this; omega
    rw [fl_back, show l.drop (k + 2) = (l.drop (k + 1)).drop 1 by rw [List.drop_drop], hd]
    simp; omega
theorem fl_nextgo {l : List UInt8} {k : Nat} (h : k < l.length) (hc : l[k] ≠ 44) (hc2 : l[k] ≠ 92) : fl (l.drop k) = 1 + fl (l.drop (k + 1)) := by
  rw [List.drop_eq_getElem_cons h, fl_go _ _ hc hc2]
set_option maxHeartbeats 1000000 in
set_option maxRecDepth 20000 in
theorem nextS_any (s : ByteArray) (F G p : Nat) (w : World) (hs : s.size ≤ 1099511627776) (hp : p ≤ s.size) (hF : w.heap[F]? = some (.cells #[.int .i64 (p : Int)] 3 (0, 0))) (hG : w.heap[G]? = some (.cells #[.string s] 9 (0, 0))) (hne : F ≠ G) :
    Calls Tryd.prog 47 #[.pointer (some ⟨F, 0, none⟩), .pointer (some ⟨G, 0, none⟩)] w fun e w' =>
      e = .returned (.tuple #[.string (txt ((s.data.toList.drop p).take (fl (s.data.toList.drop p)))), .bool true]) ∧ w' = w.setCell ⟨F, 0, none⟩ (.int .i64 ((p + fl (s.data.toList.drop p) + 1 : Nat) : Int)) := by
  obtain ⟨l, hl⟩ : ∃ l, s.data.toList = l := ⟨_, rfl⟩
  have hlen : s.size = l.length := by rw [← hl, ← size_eq]
  rw [hl]
  have HLL := Lib.hid hlen
  have HLS := Lib.hid hl
  have HFL := Lib.hid (fl_le (l.drop p))
  have HLE := Lib.hid (List.length_drop (l := l) (i := p))
  obtain ⟨n, hn⟩ : ∃ n, fl (l.drop p) = n := ⟨_, rfl⟩
  have HN := Lib.hid hn
  rw [hn] at HFL ⊢
  clear hn hl hlen
  have cF := cell_of_one hF
  have fF := free_of_one hF
  have cG := cell_of_one hG
  have HF := Lib.hid hF
  clear hF hG
  go_enter Tryd.func47, Tryd.ntmps47
  go_wp2
  go_loop [5] (fun i => ∃ k : Nat, p ≤ k ∧ k ≤ s.size + 1 ∧ i = .int .i64 (k : Int) ∧ Hid (min k s.size - p + fl (l.drop k) = n)) (fun i => s.size + 1 - (intOf i).toNat)
  case atStart => exact ⟨p, Nat.le_refl _, by omega, rfl, Lib.hid (by rw [HN.out]; omega)⟩
  case round =>
    obtain ⟨k, hpk, hk, rfl, HA⟩ := hrel
    have HP2 := Lib.hid hpk
    have HK2 := Lib.hid hk
    by_cases hlt : k < s.size
    · have hkl : k < l.length := by rw [← HLL.out]; exact hlt
      obtain ⟨c, hc⟩ : ∃ c, s[k] = c := ⟨_, rfl⟩
      have HC := Lib.hid (show l[k] = c by rw [← hc, ← list_at hlt]; simp only [HLS.out])
      clear hc
      by_cases h44 : c = 44
      · have HE := Lib.hid (show k = p + n by have h1 := HA.out; rw [fl_next44 hkl (by rw [HC.out]; exact h44)] at h1; have := HP2.out; omega)
        have q1 : ((c.toNat : Int) != 44) = false := by rw [h44]; rfl
        have HC44 := Lib.hid h44
        have m1 : min (k : Int) (s.size : Int) = (k : Int) := by omega
        have i1 : (0 : Int) ≤ (p : Int) := by omega
        have i2 : (p : Int) ≤ (k : Int) := by omega
        have i3 : (k : Int) ≤ (s.size : Int) := by omega
        have hcg : s[k] = c := by rw [← HC.out, ← list_at hlt]; simp only [HLS.out]
        clear h44
        go_wp2
        go_ret2
        have h1 := HE.out
        refine ⟨?_, ?_⟩
        · rw [sub_txt, HLS.out, h1, show p + n - p = n by omega]; rfl
        · rw [h1]; rfl
      · have q1 : ((c.toNat : Int) != 44) = true := bne44 h44
        have hcg : s[k] = c := by rw [← HC.out, ← list_at hlt]; simp only [HLS.out]
        by_cases h92 : c = 92
        · have q2 : ((c.toNat : Int) == 92) = true := by rw [h92]; rfl
          have HA2 := Lib.hid (show min (k + 2) s.size - p + fl (l.drop (k + 2)) = n by have h1 := HA.out; rw [fl_next92 hkl (by rw [HC.out]; exact h92)] at h1; have := HP2.out; have := HLL.out; omega)
          clear h44 h92
          go_wp2
          go_round
          case rel => exact ⟨k + 2, by omega, by omega, by go_num, HA2⟩
          case measure => simp [intOf]; omega
        · have q2 : ((c.toNat : Int) == 92) = false := beq92 h92
          have HA2 := Lib.hid (show min (k + 1) s.size - p + fl (l.drop (k + 1)) = n by have h1 := HA.out; rw [fl_nextgo hkl (by rw [HC.out]; exact h44) (by rw [HC.out]; exact h92)] at h1; have := HP2.out; omega)
          clear h44 h92
          go_wp2
          go_round
          case rel => exact ⟨k + 1, by omega, by omega, by go_num, HA2⟩
          case measure => simp [intOf]; omega
    · have HE := Lib.hid (show s.size = p + n by have h1 := HA.out; have h2 := HLL.out; rw [List.drop_of_length_le (by omega), fl_nil] at h1; omega)
      have i1 : (0 : Int) ≤ (p : Int) := by omega
      have i2 : (p : Int) ≤ (s.size : Int) := by omega
      by_cases hks : k = s.size
      · subst hks
        go_wp2
        go_ret2
        have h1 := HE.out
        refine ⟨?_, ?_⟩
        · rw [sub_txt, HLS.out, h1, show p + n - p = n by omega]; rfl
        · rw [h1]; rfl
      · obtain rfl : k = s.size + 1 := by omega
        have m1 : min ((s.size : Int) + 1) (s.size : Int) = (s.size : Int) := by omega
        go_wp2
        go_ret2
        have h1 := HE.out
        refine ⟨?_, ?_⟩
        · rw [sub_txt, HLS.out, h1, show p + n - p = n by omega]; rfl
        · rw [h1]; rfl
theorem nextS_end (s : ByteArray) (F G p : Nat) (w : World) (hs : s.size ≤ 1099511627776) (hp : s.size < p) (hp2 : p ≤ 1099511627778) (hF : w.heap[F]? = some (.cells #[.int .i64 (p : Int)] 3 (0, 0))) (hG : w.heap[G]? = some (.cells #[.string s] 9 (0, 0))) :
    Calls Tryd.prog 47 #[.pointer (some ⟨F, 0, none⟩), .pointer (some ⟨G, 0, none⟩)] w fun e w' => e = .returned (.tuple #[.string ⟨#[]⟩, .bool false]) ∧ w = w' := by
  have cF := cell_of_one hF
  have cG := cell_of_one hG
  clear hF hG
  have q : decide ((s.size : Int) < (p : Int)) = true := decide_eq_true (by omega)
  go_enter Tryd.func47, Tryd.ntmps47
  go_wp2
  go_ret2
  exact ⟨rfl, rfl⟩
end Go.Proofs.YtfkfgabepjpdlaaDoor
