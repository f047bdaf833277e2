/- simfs: what a name is; what a room is. -/
import Derived.Test.YtlmkhieojgpgcaaFsRep
namespace Go.Proofs.Ytlmkhieojgpgcaa
open Go.ChangeShapes Go.WideShapes Go.ChangeAt Go.RowKit Go.ChangeMaps Go.MapKept
set_option linter.unusedVariables false

def okc (c : UInt8) : Bool := decide ((97 ≤ c.toNat ∧ c.toNat ≤ 122) ∨ (48 ≤ c.toNat ∧ c.toNat ≤ 57) ∨ c.toNat = 46)
def right (l : Nm) : Bool := decide (1 ≤ l.length ∧ l.length ≤ 32) && l.all okc
theorem take_snocS (s : ByteArray) (k : Nat) (h : k < s.size) : s.data.toList.take (k + 1) = s.data.toList.take k ++ [s[k]] := by
  have h' : k < s.data.toList.length := by simpa using h
  rw [take_snoc _ k h']
  simp
  rfl
set_option maxHeartbeats 2000000 in
theorem isName_any (s : ByteArray) (w : World) : Calls Try.prog 59 #[.string s] w fun e w' => e = .returned (.bool (right s.data.toList)) ∧ w = w' := by
  by_cases h0 : s = ByteArray.empty
  · subst h0
    have HR := Lib.hid (show right ByteArray.empty.data.toList = false from rfl)
    go_enter Try.func59, Try.ntmps59
    go_wp2
    rw [HR.out]
    go_ret
    exact ⟨rfl, rfl⟩
  · have hne := str_ne h0
    have he : s.toList.isEmpty = false := by
      rw [Lib.toList_data, List.isEmpty_eq_false_iff]
      exact fun e => h0 (str_ext (by rw [e]; rfl))
    clear hne
    have hsz : 1 ≤ s.size := by
      rcases Nat.eq_zero_or_pos s.size with h | h
      · exact absurd (str_ext (by rw [List.eq_nil_of_length_eq_zero (l := s.data.toList) (by simpa using h)]; rfl)) h0
      · exact h
    by_cases h32 : 32 < s.size
    · have HR := Lib.hid (show right s.data.toList = false by simp [right]; intro h; omega)
      have hg : decide ((32 : Int) < (s.size : Int)) = true := decide_eq_true (by omega)
      go_enter Try.func59, Try.ntmps59
      go_wp2
      rw [HR.out]
      go_ret
      exact ⟨rfl, rfl⟩
    · have hg : decide ((32 : Int) < (s.size : Int)) = false := decide_eq_false (by omega)
      have HB := Lib.hid (show ∀ k (h : k < s.size), okc s[k] = false → right s.data.toList = false from fun k h hk => by
        simp only [right, Bool.and_eq_false_iff]
        refine .inr ?_
        rw [List.all_eq_false]
        exact ⟨s[k], by show s.data[k] ∈ s.data.toList; simp, by simp [hk]⟩)
      have HG := Lib.hid (show s.data.toList.all okc = true → right s.data.toList = true from fun h => by
        simp only [right, h, Bool.and_true, decide_eq_true_eq]
        simp; omega)
      go_enter Try.func59, Try.ntmps59
      go_wp2
      go_loop [14] (fun i => ∃ k : Nat, k ≤ s.size ∧ i = .int .i64 (k : Int) ∧ (s.data.toList.take k).all okc = true) (fun i => s.size - (intOf i).toNat)
      case atStart => exact ⟨0, Nat.zero_le _, rfl, rfl⟩
      case round =>
        obtain ⟨k, hk, rfl, hall⟩ := hrel
        have HA := Lib.hid hall
        clear hall
        by_cases hlt : k < s.size
        · have HT := Lib.hid (take_snocS s k hlt)
          obtain ⟨c, hc⟩ : ∃ c, s[k] = c := ⟨_, rfl⟩
          have HC := Lib.hid hc
          obtain ⟨m, hm⟩ : ∃ m, c.toNat = m := ⟨_, rfl⟩
          have HM := Lib.hid hm
          have HN : Hid (s[k].toNat = m) := Lib.hid (by rw [hc, hm])
          have hm256 : m < 256 := by rw [← hm]; exact c.toNat_lt
          clear hc hm
          have hok : okc c = true → Hid ((s.data.toList.take (k + 1)).all okc = true) := fun h => Lib.hid (by rw [HT.out, HC.out, List.all_append, HA.out]; simp [h])
          have HBC := Lib.hid (fun h => HB.out k hlt (by rw [HC.out]; exact h))
          clear HT HB
          by_cases q1 : m < 97
          · have e1 : decide ((s[k].toNat : Int) < 97) = true := decide_eq_true (by have := HN.out; omega)
            by_cases q2 : m < 48
            · have e2 : decide ((s[k].toNat : Int) < 48) = true := decide_eq_true (by have := HN.out; omega)
              by_cases q3 : m = 46
              · have HO := hok (by unfold okc; rw [HM.out]; exact decide_eq_true (.inr (.inr q3)))
                have e3 : ((s[k].toNat : Int) != 46) = false := by rw [bne_eq_false_iff_eq]; have := HN.out; omega
                clear hok
                go_wp2
                go_round
                case rel => exact ⟨k + 1, by omega, by go_num, HO.out⟩
                case measure => simp [intOf]; omega
              · have HO := Lib.hid (HBC.out (by unfold okc; rw [HM.out]; exact decide_eq_false (by omega)))
                have e3 : ((s[k].toNat : Int) != 46) = true := by rw [bne_iff_ne]; have := HN.out; omega
                clear hok
                go_wp2
                go_ret
                exact ⟨by rw [HO.out]; rfl, rfl⟩
            · have e2 : decide ((s[k].toNat : Int) < 48) = false := decide_eq_false (by have := HN.out; omega)
              by_cases q3 : m ≤ 57
              · have HO := hok (by unfold okc; rw [HM.out]; exact decide_eq_true (.inr (.inl ⟨by omega, q3⟩)))
                have e3 : decide ((57 : Int) < (s[k].toNat : Int)) = false := decide_eq_false (by have := HN.out; omega)
                clear hok
                go_wp2
                go_round
                case rel => exact ⟨k + 1, by omega, by go_num, HO.out⟩
                case measure => simp [intOf]; omega
              · have HO := Lib.hid (HBC.out (by unfold okc; rw [HM.out]; exact decide_eq_false (by omega)))
                have e3 : decide ((57 : Int) < (s[k].toNat : Int)) = true := decide_eq_true (by have := HN.out; omega)
                have e4 : ((s[k].toNat : Int) != 46) = true := by rw [bne_iff_ne]; have := HN.out; omega
                clear hok
                go_wp2
                go_ret
                exact ⟨by rw [HO.out]; rfl, rfl⟩
          · have e1 : decide ((s[k].toNat : Int) < 97) = false := decide_eq_false (by have := HN.out; omega)
            by_cases q2 : m ≤ 122
            · have HO := hok (by unfold okc; rw [HM.out]; exact decide_eq_true (.inl ⟨by omega, q2⟩))
              have e2 : decide ((122 : Int) < (s[k].toNat : Int)) = false := decide_eq_false (by have := HN.out; omega)
              clear hok
              go_wp2
              go_round
              case rel => exact ⟨k + 1, by omega, by go_num, HO.out⟩
              case measure => simp [intOf]; omega
            · have HO := Lib.hid (HBC.out (by unfold okc; rw [HM.out]; exact decide_eq_false (by omega)))
              have e2 : decide ((122 : Int) < (s[k].toNat : Int)) = true := decide_eq_true (by have := HN.out; omega)
              have e3 : decide ((s[k].toNat : Int) < 48) = false := decide_eq_false (by have := HN.out; omega)
              have e4 : decide ((57 : Int) < (s[k].toNat : Int)) = true := decide_eq_true (by have := HN.out; omega)
              have e5 : ((s[k].toNat : Int) != 46) = true := by rw [bne_iff_ne]; have := HN.out; omega
              clear hok
              go_wp2
              go_ret
              exact ⟨by rw [HO.out]; rfl, rfl⟩
        · have hz := Lib.hid (List.take_of_length_le (l := s.data.toList) (i := k) (by simp; omega))
          go_wp2
          go_ret
          rw [hz.out] at HA
          exact ⟨by rw [HG.out HA.out]; rfl, rfl⟩

def isRoom (n : Int) : Bool := decide (0 ≤ n ∧ n ≤ 1073741824)
theorem isRoom_any (n : Int) (w : World) : Calls Try.prog 28 #[.int .i64 n] w fun e w' => e = .returned (.bool (isRoom n)) ∧ w = w' := by
  by_cases h0 : 0 ≤ n
  · by_cases h1 : n ≤ 1073741824
    · have HR := Lib.hid (show isRoom n = true by simp [isRoom, h0, h1])
      go_enter Try.func28, Try.ntmps28
      go_wp2
      rw [HR.out]
      go_ret
      exact ⟨rfl, rfl⟩
    · have HR := Lib.hid (show isRoom n = false by simp [isRoom, h0, h1])
      go_enter Try.func28, Try.ntmps28
      go_wp2
      rw [HR.out]
      go_ret
      exact ⟨rfl, rfl⟩
  · have HR := Lib.hid (show isRoom n = false by simp [isRoom, h0])
    go_enter Try.func28, Try.ntmps28
    go_wp2
    rw [HR.out]
    go_ret
    exact ⟨rfl, rfl⟩
end Go.Proofs.Ytlmkhieojgpgcaa
