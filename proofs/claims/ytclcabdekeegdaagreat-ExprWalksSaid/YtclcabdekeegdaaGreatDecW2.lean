/- What a seat needs of several texts. -/
import Derived.Test.YtclcabdekeegdaaGreatDecW1
/- From DecW2. -/
namespace Go.Proofs.YtclcabdekeegdaaGreat
open Go.ChangeShapes Go.WideShapes Go.ChangeAt Go.RowKit
set_option linter.unusedVariables false
set_option maxHeartbeats 1000000 in
set_option maxRecDepth 20000 in
theorem name_any (s : ByteArray) (hs : s.size ≤ 9223372036854775807) (w : World) :
    Calls Tryz.prog 93 #[.string s] w fun e w' => e = .returned (.bool (nameB s.data.toList)) ∧ w = w' := by
  by_cases h0 : s.size = 0
  · have he : s.toList.isEmpty = true := by rw [isEmpty_size]; exact decide_eq_true h0
    have HX := Lib.hid (nameB_short (l := s.data.toList) (by rw [← size_eq]; exact h0))
    go_enter Tryz.func93, Tryz.ntmps93
    go_wp2
    go_ret
    rw [HX.out]
    exact ⟨rfl, rfl⟩
  · have he : s.toList.isEmpty = false := by rw [isEmpty_size]; exact decide_eq_false h0
    by_cases h16 : 16 < s.size
    · have HX := Lib.hid (nameB_long (l := s.data.toList) (by rw [← size_eq]; exact h16))
      have p1 : decide ((16 : Int) < (s.size : Int)) = true := decide_eq_true (by omega)
      go_enter Tryz.func93, Tryz.ntmps93
      go_wp2
      go_ret
      rw [HX.out]
      exact ⟨rfl, rfl⟩
    · have p1 : decide ((16 : Int) < (s.size : Int)) = false := decide_eq_false (by omega)
      have hpos : 0 < s.size := by omega
      have HH := Lib.hid (hd0_at hpos)
      obtain ⟨c0, hc0⟩ : ∃ c, s[0] = c := ⟨_, rfl⟩
      have HC0 := Lib.hid hc0
      by_cases hd : dgt c0 = true
      · have HX := Lib.hid (nameB_dgt (l := s.data.toList) (by rw [HH.out, hc0]; exact hd))
        go_enter Tryz.func93, Tryz.ntmps93
        go_wp2_with (go_at_call 121; refine (digit_any c0 _).mono ?_; rintro e w' ⟨rfl, rfl⟩)
        go_ret
        rw [HX.out]
        exact ⟨rfl, rfl⟩
      · have hdf : dgt c0 = false := by simpa using hd
        have HD := Lib.hid hdf
        clear hd
        go_enter Tryz.func93, Tryz.ntmps93
        go_wp2_with (go_at_call 121; refine (digit_any c0 _).mono ?_; rintro e w' ⟨rfl, rfl⟩)
        clear hdf hc0
        go_loop [18] (fun i => ∃ k : Nat, k ≤ s.size ∧ i = .int .i64 k ∧ Hid ((s.data.toList.take k).all alnum = true)) (fun i => s.size - (intOf i).toNat)
        case atStart => exact ⟨0, Nat.zero_le _, rfl, Lib.hid rfl⟩
        case round =>
          obtain ⟨k, hk, rfl, HA⟩ := hrel
          by_cases hlt : k < s.size
          · obtain ⟨c, hc⟩ : ∃ c, s[k] = c := ⟨_, rfl⟩
            have HC := Lib.hid hc
            have h256 : c.toNat < 256 := c.toNat_lt
            have HBAD := Lib.hid (show alnum c = false → nameB s.data.toList = false from fun h => nameB_bad (by rw [← hc]; exact mem_at hlt) h)
            have HGO := Lib.hid (show alnum c = true → (s.data.toList.take (k + 1)).all alnum = true from fun h => all_snoc (by rw [← size_eq]; exact hlt) HA.out (by rw [list_at hlt, hc]; exact h))
            by_cases hd2 : dgt c = true
            · have HA2 := Lib.hid (HGO.out (by unfold alnum; rw [hd2, Bool.true_or]))
              go_wp2_with (go_at_call 121; refine (digit_any c _).mono ?_; rintro e w' ⟨rfl, rfl⟩)
              go_round
              case rel => exact ⟨k + 1, by omega, by go_num, HA2⟩
              case measure => simp [intOf]; omega
            · have hd3 : dgt c = false := by simpa using hd2
              clear hd2
              have HAL := Lib.hid (show alnum c = low c by unfold alnum; rw [hd3, Bool.false_or])
              have HLW := Lib.hid (show low c = decide (97 ≤ c.toNat ∧ c.toNat ≤ 122) from rfl)
              by_cases h97 : c.toNat < 97
              · have q1 : decide ((c.toNat : Int) < 97) = true := decide_eq_true (by omega)
                have HX := Lib.hid (HBAD.out (by rw [HAL.out, HLW.out, decide_eq_false (by omega)]))
                go_wp2_with (go_at_call 121; refine (digit_any c _).mono ?_; rintro e w' ⟨rfl, rfl⟩)
                go_ret
                rw [HX.out]
                exact ⟨rfl, rfl⟩
              · have q1 : decide ((c.toNat : Int) < 97) = false := decide_eq_false (by omega)
                by_cases h122 : 122 < c.toNat
                · have q2 : decide ((122 : Int) < (c.toNat : Int)) = true := decide_eq_true (by omega)
                  have HX := Lib.hid (HBAD.out (by rw [HAL.out, HLW.out, decide_eq_false (by omega)]))
                  go_wp2_with (go_at_call 121; refine (digit_any c _).mono ?_; rintro e w' ⟨rfl, rfl⟩)
                  go_ret
                  rw [HX.out]
                  exact ⟨rfl, rfl⟩
                · have q2 : decide ((122 : Int) < (c.toNat : Int)) = false := decide_eq_false (by omega)
                  have HA2 := Lib.hid (HGO.out (by rw [HAL.out, HLW.out]; exact decide_eq_true (by omega)))
                  go_wp2_with (go_at_call 121; refine (digit_any c _).mono ?_; rintro e w' ⟨rfl, rfl⟩)
                  go_round
                  case rel => exact ⟨k + 1, by omega, by go_num, HA2⟩
                  case measure => simp [intOf]; omega
          · have HX := Lib.hid (show nameB s.data.toList = true from nameB_good (by rw [← size_eq]; omega) (by rw [← size_eq]; omega) (by rw [HH.out, HC0.out]; exact HD.out) (by
              have := HA.out
              rwa [List.take_of_length_le (by rw [← size_eq]; omega)] at this))
            go_wp2
            go_ret
            rw [HX.out]
            exact ⟨rfl, rfl⟩
set_option maxHeartbeats 1000000 in
set_option maxRecDepth 20000 in
theorem rname_any (s : ByteArray) (hs : s.size ≤ 9223372036854775807) (w : World) :
    Calls Tryz.prog 53 #[.string s] w fun e w' => e = .returned (.bool (nameB s.data.toList)) ∧ w = w' := by
  by_cases h0 : s.size = 0
  · have he : ((s.size : Int) == 0) = true := by rw [h0]; rfl
    have HX := Lib.hid (nameB_short (l := s.data.toList) (by rw [← size_eq]; exact h0))
    go_enter Tryz.func53, Tryz.ntmps53
    go_wp2
    go_ret
    rw [HX.out]
    exact ⟨rfl, rfl⟩
  · have he : ((s.size : Int) == 0) = false := by rw [beq_eq_false_iff_ne]; omega
    by_cases h16 : 16 < s.size
    · have HX := Lib.hid (nameB_long (l := s.data.toList) (by rw [← size_eq]; exact h16))
      have p1 : decide ((16 : Int) < (s.size : Int)) = true := decide_eq_true (by omega)
      go_enter Tryz.func53, Tryz.ntmps53
      go_wp2
      go_ret
      rw [HX.out]
      exact ⟨rfl, rfl⟩
    · have p1 : decide ((16 : Int) < (s.size : Int)) = false := decide_eq_false (by omega)
      have hpos : 0 < s.size := by omega
      have HH := Lib.hid (hd0_at hpos)
      obtain ⟨c0, hc0⟩ : ∃ c, s[0] = c := ⟨_, rfl⟩
      have HC0 := Lib.hid hc0
      have h256 : c0.toNat < 256 := c0.toNat_lt
      have HBAD0 := Lib.hid (show low c0 = false → nameB s.data.toList = false from fun h => by
        by_cases hd : dgt c0 = true
        · exact nameB_dgt (by rw [HH.out, hc0]; exact hd)
        · exact nameB_bad (c := c0) (by rw [← hc0]; exact mem_at hpos) (by unfold alnum; rw [h]; simpa using hd))
      have HLW0 := Lib.hid (show low c0 = decide (97 ≤ c0.toNat ∧ c0.toNat ≤ 122) from rfl)
      by_cases h97 : c0.toNat < 97
      · have q1 : decide ((c0.toNat : Int) < 97) = true := decide_eq_true (by omega)
        have HX := Lib.hid (HBAD0.out (by rw [HLW0.out, decide_eq_false (by omega)]))
        go_enter Tryz.func53, Tryz.ntmps53
        go_wp2
        go_ret
        rw [HX.out]
        exact ⟨rfl, rfl⟩
      · have q1 : decide ((c0.toNat : Int) < 97) = false := decide_eq_false (by omega)
        by_cases h122 : 122 < c0.toNat
        · have q2 : decide ((122 : Int) < (c0.toNat : Int)) = true := decide_eq_true (by omega)
          have HX := Lib.hid (HBAD0.out (by rw [HLW0.out, decide_eq_false (by omega)]))
          go_enter Tryz.func53, Tryz.ntmps53
          go_wp2
          go_ret
          rw [HX.out]
          exact ⟨rfl, rfl⟩
        · have q2 : decide ((122 : Int) < (c0.toNat : Int)) = false := decide_eq_false (by omega)
          have HL0 := Lib.hid (show low c0 = true by rw [HLW0.out]; exact decide_eq_true (by omega))
          have HD := Lib.hid (low_not_dgt HL0.out)
          have HA1 := Lib.hid (show (s.data.toList.take (0 + 1)).all alnum = true from all_snoc (by rw [← size_eq]; exact hpos) rfl (by rw [list_at hpos, hc0]; unfold alnum; rw [HL0.out, Bool.or_true]))
          go_enter Tryz.func53, Tryz.ntmps53
          go_wp2
          clear hc0 q1 q2 h97 h122
          go_loop [3] (fun i => ∃ k : Nat, k ≤ s.size ∧ i = .int .i64 k ∧ Hid ((s.data.toList.take k).all alnum = true)) (fun i => s.size - (intOf i).toNat)
          case atStart => exact ⟨1, by omega, rfl, HA1⟩
          case round =>
            obtain ⟨k, hk, rfl, HA⟩ := hrel
            by_cases hlt : k < s.size
            · obtain ⟨c, hc⟩ : ∃ c, s[k] = c := ⟨_, rfl⟩
              have h256 : c.toNat < 256 := c.toNat_lt
              have HBAD := Lib.hid (show alnum c = false → nameB s.data.toList = false from fun h => nameB_bad (by rw [← hc]; exact mem_at hlt) h)
              have HGO := Lib.hid (show alnum c = true → (s.data.toList.take (k + 1)).all alnum = true from fun h => all_snoc (by rw [← size_eq]; exact hlt) HA.out (by rw [list_at hlt, hc]; exact h))
              have HAL := Lib.hid (show alnum c = (decide (48 ≤ c.toNat ∧ c.toNat ≤ 57) || decide (97 ≤ c.toNat ∧ c.toNat ≤ 122)) from rfl)
              obtain ⟨m, hm⟩ : ∃ m, c.toNat = m := ⟨_, rfl⟩
              rw [hm] at h256 HAL
              have hmc : (c.toNat : Int) = (m : Int) := by rw [hm]
              by_cases hl : 97 ≤ m ∧ m ≤ 122
              · have q1 : decide ((97 : Int) ≤ (m : Int)) = true := decide_eq_true (by omega)
                have q2 : decide ((m : Int) ≤ 122) = true := decide_eq_true (by omega)
                have HA2 := Lib.hid (HGO.out (by rw [HAL.out, decide_eq_true hl, Bool.or_true]))
                clear hl
                go_wp2
                go_round
                case rel => exact ⟨k + 1, by omega, by go_num, HA2⟩
                case measure => simp [intOf]; omega
              · by_cases hd : 48 ≤ m ∧ m ≤ 57
                · have q1 : decide ((97 : Int) ≤ (m : Int)) = false := decide_eq_false (by omega)
                  have q3 : decide ((48 : Int) ≤ (m : Int)) = true := decide_eq_true (by omega)
                  have q4 : decide ((m : Int) ≤ 57) = true := decide_eq_true (by omega)
                  have HA2 := Lib.hid (HGO.out (by rw [HAL.out, decide_eq_true hd, Bool.true_or]))
                  clear hl hd
                  go_wp2
                  go_round
                  case rel => exact ⟨k + 1, by omega, by go_num, HA2⟩
                  case measure => simp [intOf]; omega
                · have HX := Lib.hid (HBAD.out (by rw [HAL.out, decide_eq_false hl, decide_eq_false hd]; rfl))
                  by_cases a1 : 97 ≤ m
                  · have q1 : decide ((97 : Int) ≤ (m : Int)) = true := decide_eq_true (by omega)
                    have q2 : decide ((m : Int) ≤ 122) = false := decide_eq_false (by omega)
                    have q3 : decide ((48 : Int) ≤ (m : Int)) = true := decide_eq_true (by omega)
                    have q4 : decide ((m : Int) ≤ 57) = false := decide_eq_false (by omega)
                    clear hl hd
                    go_wp2
                    go_ret
                    rw [HX.out]
                    exact ⟨rfl, rfl⟩
                  · have q1 : decide ((97 : Int) ≤ (m : Int)) = false := decide_eq_false (by omega)
                    by_cases a2 : 48 ≤ m
                    · have q3 : decide ((48 : Int) ≤ (m : Int)) = true := decide_eq_true (by omega)
                      have q4 : decide ((m : Int) ≤ 57) = false := decide_eq_false (by omega)
                      clear hl hd
                      go_wp2
                      go_ret
                      rw [HX.out]
                      exact ⟨rfl, rfl⟩
                    · have q3 : decide ((48 : Int) ≤ (m : Int)) = false := decide_eq_false (by omega)
                      clear hl hd
                      go_wp2
                      go_ret
                      rw [HX.out]
                      exact ⟨rfl, rfl⟩
            · have HX := Lib.hid (show nameB s.data.toList = true from nameB_good (by rw [← size_eq]; omega) (by rw [← size_eq]; omega) (by rw [HH.out, HC0.out]; exact HD.out) (by
                have := HA.out
                rwa [List.take_of_length_le (by rw [← size_eq]; omega)] at this))
              go_wp2
              go_ret
              rw [HX.out]
              exact ⟨rfl, rfl⟩
end Go.Proofs.YtclcabdekeegdaaGreat
