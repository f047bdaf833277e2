/- Layer 12, walked: the document's numbers. -/
import Derived.Test.YtfkfgabepjpdlaaDoorDecR1
namespace Go.Proofs.YtfkfgabepjpdlaaDoor
open Go.ChangeShapes Go.WideShapes Go.ChangeAt Go.RowKit
set_option linter.unusedVariables false

/-! ### plainly -/
def numOk (b : List UInt8) (neg : Bool) : Bool := decide (1 ≤ b.length) && decide (b.length ≤ 19) && !((hd0 b == 48) && (neg || decide (1 < b.length))) && b.all dgt
theorem numOk_of {u : Nat} {b : List UInt8} {neg : Bool} (h : Lib.decDigits u = b) (hu : u ≤ 9223372036854775808) (h1 : neg = true → 1 ≤ u) : numOk b neg = true := by
  subst h
  have a1 := dig_pos u
  have a2 := dig_len u 18 (by omega)
  have a3 := dig_all u
  have a4 : ((hd0 (Lib.decDigits u) == 48) && (neg || decide (1 < (Lib.decDigits u).length))) = false := by
    by_cases h0 : u = 0
    · subst h0
      have hn : neg = false := by cases neg with | false => rfl | true => exact absurd (h1 rfl) (by omega)
      rw [dig_small (by omega), hn]; rfl
    · have := dig_head u (by omega)
      have hne : (hd0 (Lib.decDigits u) == 48) = false := by
        rw [beq_eq_false_iff_ne]
        intro e
        apply this
        unfold hd0 at e
        rw [e]; rfl
      rw [hne, Bool.false_and]
  unfold numOk
  rw [decide_eq_true a1, decide_eq_true a2, a3, a4]; rfl
theorem dig_of {b : List UInt8} {neg : Bool} (h : numOk b neg = true) : Lib.decDigits (decN b) = b ∧ decN b < 10000000000000000000 ∧ (neg = true → 1 ≤ decN b) := by
  unfold numOk at h
  simp only [Bool.and_eq_true, decide_eq_true_eq, Bool.not_eq_true', Bool.and_eq_false_iff] at h
  obtain ⟨⟨⟨h1, h2⟩, h3⟩, h4⟩ := h
  have hh : (b.headD 0).toNat ≠ 48 ∨ (neg = false ∧ b.length = 1) := by
    rcases h3 with h3 | h3
    · left
      intro e
      rw [beq_eq_false_iff_ne] at h3
      exact h3 (UInt8.toNat_inj.1 e)
    · right
      simp only [Bool.or_eq_false_iff, decide_eq_false_iff_not] at h3
      exact ⟨h3.1, by omega⟩
  have hlt := decN_lt b h4
  have hp : 10 ^ b.length ≤ 10 ^ 19 := Nat.pow_le_pow_right (by omega) h2
  refine ⟨dig_decN b h4 h1 (hh.imp id And.right), by omega, fun hn => ?_⟩
  rcases hh with hh | hh
  · exact decN_pos b h4 h1 hh
  · rw [hn] at hh; exact absurd hh.1 (by decide)
theorem not_dig45 (u : Nat) (b : List UInt8) (h : Lib.decDigits u = 45 :: b) : False := by
  have := dig_all u
  rw [h, List.all_cons] at this
  have h2 : dgt 45 = false := by decide
  rw [h2, Bool.false_and] at this; cases this
theorem intV_neg (b : List UInt8) : (numOk b true = true → decN b ≤ 9223372036854775808 → intV (45 :: b) = some (-(decN b : Int))) ∧ (numOk b true = false ∨ 9223372036854775808 < decN b → intV (45 :: b) = none) := by
  constructor
  · intro h hu
    obtain ⟨h1, h2, h3⟩ := dig_of h
    refine intV_iff.2 ⟨by unfold in64; omega, ?_⟩
    rw [Lib.itoa_neg _ (h3 rfl), h1]
  · intro h
    cases hi : intV (45 :: b) with
    | none => rfl
    | some m =>
      exfalso
      obtain ⟨h1, h2⟩ := intV_some hi
      unfold in64 at h1
      by_cases hm : m < 0
      · obtain ⟨u, rfl⟩ : ∃ u : Nat, m = -(u : Int) := ⟨m.natAbs, by omega⟩
        rw [Lib.itoa_neg u (by omega)] at h2
        injection h2 with _ h2
        have hk := numOk_of (neg := true) h2 (by omega) (fun _ => by omega)
        rcases h with h | h
        · rw [h] at hk; cases hk
        · have := decN_dig u; rw [h2] at this; omega
      · obtain ⟨u, rfl⟩ : ∃ u : Nat, m = (u : Int) := ⟨m.toNat, by omega⟩
        rw [Lib.itoa_nonneg u] at h2
        exact not_dig45 u b h2
theorem intV_pos {b : List UInt8} (h45 : b.head? ≠ some 45) : (numOk b false = true → decN b < 9223372036854775808 → intV b = some (decN b : Int)) ∧ (numOk b false = false ∨ 9223372036854775808 ≤ decN b → intV b = none) := by
  constructor
  · intro h hu
    obtain ⟨h1, h2, h3⟩ := dig_of h
    refine intV_iff.2 ⟨by unfold in64; omega, ?_⟩
    rw [Lib.itoa_nonneg, h1]
  · intro h
    cases hi : intV b with
    | none => rfl
    | some m =>
      exfalso
      obtain ⟨h1, h2⟩ := intV_some hi
      unfold in64 at h1
      by_cases hm : m < 0
      · obtain ⟨u, rfl⟩ : ∃ u : Nat, m = -(u : Int) := ⟨m.natAbs, by omega⟩
        rw [Lib.itoa_neg u (by omega)] at h2
        rw [← h2] at h45; exact h45 rfl
      · obtain ⟨u, rfl⟩ : ∃ u : Nat, m = (u : Int) := ⟨m.toNat, by omega⟩
        rw [Lib.itoa_nonneg u] at h2
        have hk := numOk_of (neg := false) h2 (by omega) (fun h => by cases h)
        rcases h with h | h
        · rw [h] at hk; cases hk
        · have := decN_dig u; rw [h2] at this; omega
/-! ### walked -/
theorem beq48 {c : UInt8} (h : c ≠ 48) : ((c.toNat : Int) == 48) = false := by
  rw [beq_eq_false_iff_ne]; intro e; apply h; apply UInt8.toNat_inj.1
  have : (48 : UInt8).toNat = 48 := rfl
  omega
theorem beq45 {c : UInt8} (h : c ≠ 45) : ((c.toNat : Int) == 45) = false := by
  rw [beq_eq_false_iff_ne]; intro e; apply h; apply UInt8.toNat_inj.1
  have : (45 : UInt8).toNat = 45 := rfl
  omega
theorem numOk_all {b : List UInt8} {neg : Bool} (h1 : 1 ≤ b.length ∧ b.length ≤ 19) (h2 : ((hd0 b == 48) && (neg || decide (1 < b.length))) = false) : numOk b neg = b.all dgt := by
  unfold numOk
  rw [decide_eq_true h1.1, decide_eq_true h1.2, h2]; rfl
theorem dgt_bad {b : List UInt8} {c : UInt8} (hm : c ∈ b) (h : dgt c = false) : b.all dgt = false := by
  rw [← Bool.not_eq_true, List.all_eq_true]
  intro h2
  rw [h2 c hm] at h; cases h
def NumPost (o : Option Int) (w : World) (e : Ending) (w' : World) : Prop :=
  ∃ (n : Int) (ok : Bool), e = .returned (.tuple #[.int .i64 n, .bool ok]) ∧ (ok = true → o = some n) ∧ (ok = false → o = none) ∧ w = w'
theorem num_no {o : Option Int} {w : World} (n : Int) (h : o = none) : NumPost o w (.returned (.tuple #[.int .i64 n, .bool false])) w := ⟨n, false, rfl, (fun h => by cases h), fun _ => h, rfl⟩
theorem num_yes {o : Option Int} {w : World} {n : Int} (h : o = some n) : NumPost o w (.returned (.tuple #[.int .i64 n, .bool true])) w := ⟨n, true, rfl, fun _ => h, (fun h => by cases h), rfl⟩
theorem head_at {s : ByteArray} (h : 0 < s.size) : s.data.toList.head? = some s[0] := by
  rw [List.head?_eq_getElem?, List.getElem?_eq_getElem (by rw [← size_eq]; exact h)]; simp; rfl
theorem wrap_of_u64 {n : Nat} (h : n < 18446744073709551616) : IntKind.u64.wrap (n : Int) = (n : Int) := by rw [IntKind.wrap_u64]; omega
set_option maxHeartbeats 2000000 in
set_option maxRecDepth 20000 in
theorem rnumber_any (s : ByteArray) (hs : s.size ≤ 68719476736) (w : World) :
    Calls Tryd.prog 42 #[.string s] w (NumPost (intV s.data.toList) w) := by
  have HSZ := Lib.hid (size_eq s)
  by_cases h0 : s.size = 0
  · have q1 : decide ((0 : Int) < (s.size : Int)) = false := decide_eq_false (by omega)
    have q2 : ((s.size : Int) == 0) = true := by rw [h0]; rfl
    have HX := Lib.hid (show intV s.data.toList = none by
      have : s.data.toList = [] := List.eq_nil_of_length_eq_zero (by rw [← size_eq]; exact h0)
      rw [this]; rfl)
    go_enter Tryd.func42, Tryd.ntmps42
    go_wp2
    go_ret2
    exact num_no _ HX.out
  · have q1 : decide ((0 : Int) < (s.size : Int)) = true := decide_eq_true (by omega)
    have hpos : 0 < s.size := by omega
    obtain ⟨c0, hc0⟩ : ∃ c0, s[0] = c0 := ⟨_, rfl⟩
    have HH := Lib.hid (show s.data.toList.head? = some c0 by rw [head_at hpos, hc0])
    by_cases h45 : c0 = 45
    · have q2 : ((c0.toNat : Int) == 45) = true := by rw [h45]; rfl
      obtain ⟨r, hr⟩ : ∃ r, s.extract 1 s.size = r := ⟨_, rfl⟩
      obtain ⟨b, hb⟩ : ∃ b, s.data.toList.drop 1 = b := ⟨_, rfl⟩
      have HRB := Lib.hid (show r.data.toList = b by rw [← hr, Lib.extract_to_end, hb])
      have HRS := Lib.hid (show r.size = b.length by rw [size_eq, HRB.out])
      have hrs : r.size + 1 = s.size := by rw [← hr, ByteArray.size_extract]; omega
      have HL := Lib.hid (show s.data.toList = 45 :: b by
        rw [← hb]
        have h := HH.out
        rw [h45] at h
        cases hd : s.data.toList with
        | nil => rw [hd] at h; cases h
        | cons x t => rw [hd] at h; injection h with h; subst h; rfl)
      have HNO := Lib.hid (show numOk b true = false → intV s.data.toList = none from fun h => by rw [HL.out]; exact (intV_neg b).2 (.inl h))
      clear h45 hb h0
      go_enter Tryd.func42, Tryd.ntmps42
      by_cases z0 : r.size = 0
      · have p1 : ((r.size : Int) == 0) = true := by rw [z0]; rfl
        have HX := Lib.hid (HNO.out (by unfold numOk; rw [decide_eq_false (show ¬ 1 ≤ b.length by rw [← HRS.out]; omega)]; rfl))
        go_wp2
        go_ret2
        exact num_no _ HX.out
      · have p1 : ((r.size : Int) == 0) = false := by rw [beq_eq_false_iff_ne]; omega
        by_cases z19 : 19 < r.size
        · have p2 : decide ((19 : Int) < (r.size : Int)) = true := decide_eq_true (by omega)
          have HX := Lib.hid (HNO.out (by unfold numOk; rw [decide_eq_false (show ¬ b.length ≤ 19 by rw [← HRS.out]; omega), Bool.and_false]; rfl))
          go_wp2
          go_ret2
          exact num_no _ HX.out
        · have p2 : decide ((19 : Int) < (r.size : Int)) = false := decide_eq_false (by omega)
          have rpos : 0 < r.size := by omega
          have HRH := Lib.hid (hd0_at rpos)
          rw [HRB.out] at HRH
          obtain ⟨d0, hd0_⟩ : ∃ d0, r[0] = d0 := ⟨_, rfl⟩
          skip
          have HRD := Lib.hid (show hd0 b = d0 by rw [HRH.out, hd0_])
          have HLZ := Lib.hid (show 1 ≤ b.length ∧ b.length ≤ 19 from by rw [← HRS.out]; omega)
          by_cases hz : d0 = 48 ∧ (true = true ∨ 1 < r.size)
          · have p3 : ((d0.toNat : Int) == 48) = true := by rw [hz.1]; rfl
            have HX := Lib.hid (HNO.out (by
              unfold numOk
              rw [HRD.out, hz.1, show ((48 : UInt8) == 48) = true from rfl, show (true || decide (1 < b.length)) = true by
                rw [← HRS.out]
                rcases hz.2 with h | h
                · first | rfl | (cases h; done)
                · rw [decide_eq_true h, Bool.or_true]]
              rw [Bool.and_self, Bool.not_true, Bool.and_false, Bool.false_and]))
            have p4 : true = true ∨ decide ((1 : Int) < (r.size : Int)) = true := by
              rcases hz.2 with h | h
              · exact .inl h
              · exact .inr (decide_eq_true (by omega))
            clear hz
            first
              | (have p5 : decide ((1 : Int) < (r.size : Int)) = true := by
                  rcases p4 with h | h
                  · cases h
                  · exact h
                 clear p4
                 go_wp2
                 go_ret2
                 exact num_no _ HX.out)
              | (clear p4
                 go_wp2
                 go_ret2
                 exact num_no _ HX.out)
          · have HZ := Lib.hid (show ((hd0 b == 48) && (true || decide (1 < b.length))) = false by
              rw [HRD.out]
              by_cases h48 : d0 = 48
              · have h2 : ¬ (true = true ∨ 1 < r.size) := fun h => hz ⟨h48, h⟩
                have h3 : true = false := by
                  cases hn : true with
                  | false => rfl
                  | true => exact absurd (Or.inl hn) h2
                rw [h3, decide_eq_false (show ¬ 1 < b.length by rw [← HRS.out]; exact fun h => h2 (.inr h))]
                simp
              · rw [show (d0 == 48) = false by simpa using h48, Bool.false_and])
            have HNZ := Lib.hid hz
            have p3 : (((d0.toNat : Int) == 48) = false) ∨ (((d0.toNat : Int) == 48) = true ∧ true = false ∧ decide ((1 : Int) < (r.size : Int)) = false) := by
              by_cases h48 : d0 = 48
              · right
                have h2 : ¬ (true = true ∨ 1 < r.size) := fun h => hz ⟨h48, h⟩
                refine ⟨by rw [h48]; rfl, ?_, decide_eq_false (fun h => h2 (.inr (by omega)))⟩
                cases hn : true with
                | false => rfl
                | true => exact absurd (Or.inl hn) h2
              · left
                exact beq48 h48
            clear hz
            rcases p3 with p3 | ⟨p3, pn, p4⟩
            · clear HNZ
              go_wp2
              go_loop [5, 6] (fun nv i => ∃ k n : Nat, k ≤ r.size ∧ i = .int .i64 (k : Int) ∧ nv = .int .u64 (n : Int) ∧ Hid (decN (b.take k) = n ∧ (b.take k).all dgt = true)) (fun _ i => r.size - (intOf i).toNat)
              case atStart => exact ⟨0, 0, Nat.zero_le _, rfl, rfl, Lib.hid ⟨rfl, rfl⟩⟩
              case round =>
                obtain ⟨k, n, hk, rfl, rfl, HN⟩ := hrel
                by_cases hlt : k < r.size
                · have hkb : k < b.length := by rw [← HRS.out]; exact hlt
                  obtain ⟨c, hc⟩ : ∃ c, r[k] = c := ⟨_, rfl⟩
                  have HC := Lib.hid (show b[k] = c by rw [← hc, ← list_at hlt]; simp only [HRB.out])
                  have HBAD := Lib.hid (show dgt c = false → numOk b true = false from fun h => by
                    rw [numOk_all HLZ.out HZ.out]; exact dgt_bad (by rw [← HC.out]; exact List.getElem_mem hkb) h)
                  have HGO := Lib.hid (show dgt c = true → decN (b.take (k + 1)) = n * 10 + (c.toNat - 48) ∧ (b.take (k + 1)).all dgt = true ∧ n * 10 + (c.toNat - 48) < 10000000000000000000 from fun h => by
                    have a1 := HN.out.1
                    have a2 : (b.take (k + 1)).all dgt = true := all_snoc hkb HN.out.2 (by rw [HC.out]; exact h)
                    have a3 : decN (b.take (k + 1)) = n * 10 + (c.toNat - 48) := by rw [List.take_succ_eq_append_getElem hkb, decN_snoc, a1, HC.out]
                    have a4 := decN_lt _ a2
                    have a5 : 10 ^ (b.take (k + 1)).length ≤ 10 ^ 19 := Nat.pow_le_pow_right (by omega) (by rw [List.length_take]; have := HLZ.out.2; omega)
                    exact ⟨a3, a2, by omega⟩)
                  have HDG := Lib.hid (show dgt c = decide (48 ≤ c.toNat ∧ c.toNat ≤ 57) from rfl)
                  have h256 : c.toNat < 256 := c.toNat_lt
                  obtain ⟨m, hm⟩ : ∃ m, c.toNat = m := ⟨_, rfl⟩
                  rw [hm] at HGO HDG h256
                  have hmc : (c.toNat : Int) = (m : Int) := by rw [hm]
                  clear hm
                  by_cases hl : m < 48
                  · have r1 : decide ((m : Int) < 48) = true := decide_eq_true (by omega)
                    have HX := Lib.hid (HNO.out (HBAD.out (by rw [HDG.out]; exact decide_eq_false (by omega))))
                    go_wp2
                    go_ret2
                    exact num_no _ HX.out
                  · have r1 : decide ((m : Int) < 48) = false := decide_eq_false (by omega)
                    by_cases hu : 57 < m
                    · have r2 : decide ((57 : Int) < (m : Int)) = true := decide_eq_true (by omega)
                      have HX := Lib.hid (HNO.out (HBAD.out (by rw [HDG.out]; exact decide_eq_false (by omega))))
                      go_wp2
                      go_ret2
                      exact num_no _ HX.out
                    · have r2 : decide ((57 : Int) < (m : Int)) = false := decide_eq_false (by omega)
                      obtain ⟨d, hd⟩ : ∃ d, m - 48 = d := ⟨_, rfl⟩
                      rw [hd] at HGO
                      obtain ⟨g1, g2, g3⟩ := HGO.out (by rw [HDG.out]; exact decide_eq_true (by omega))
                      have g4 : (m : Int) - 48 = (d : Int) := by omega
                      have g5 : IntKind.u64.wrap ((n : Int) * 10) = (n : Int) * 10 := by rw [IntKind.wrap_u64]; omega
                      have g6 : IntKind.u64.wrap ((n : Int) * 10 + (d : Int)) = (n : Int) * 10 + (d : Int) := by rw [IntKind.wrap_u64]; omega
                      have g7 : IntKind.u64.wrap (d : Int) = (d : Int) := by rw [IntKind.wrap_u64]; omega
                      have g8 : IntKind.u8.wrap (d : Int) = (d : Int) := by rw [IntKind.wrap_u8]; omega
                      have HN2 := Lib.hid (show decN (b.take (k + 1)) = n * 10 + d ∧ (b.take (k + 1)).all dgt = true from ⟨g1, g2⟩)
                      clear g1 g2 g3 hd
                      go_wp2
                      go_round
                      case rel => exact ⟨k + 1, n * 10 + d, by omega, by go_num, by first | rfl | (congr 1; omega), HN2⟩
                      case measure => simp [intOf]; omega
                · have HE := Lib.hid (show decN b = n ∧ numOk b true = true by
                    have h1 := HN.out
                    rw [List.take_of_length_le (by rw [← HRS.out]; omega)] at h1
                    exact ⟨h1.1, by rw [numOk_all HLZ.out HZ.out]; exact h1.2⟩)
                  have HBN := Lib.hid (show n < 10000000000000000000 by rw [← HE.out.1]; exact (dig_of HE.out.2).2.1)
                  by_cases hbig : n ≤ 9223372036854775808
                  · have r1 : decide ((n : Int) ≤ 9223372036854775808) = true := decide_eq_true (by omega)
                    have HX := Lib.hid (show intV s.data.toList = some (-(n : Int)) by rw [HL.out, ← HE.out.1]; exact (intV_neg b).1 HE.out.2 (by rw [HE.out.1]; exact hbig))
                    have HR2 := Lib.hid (show wrap64 (-wrap64 (n : Int)) = -(n : Int) by unfold wrap64; omega)
                    clear hbig
                    go_wp2
                    go_ret2
                    exact num_yes (by rw [HR2.out]; exact HX.out)
                  · have r1 : decide ((n : Int) ≤ 9223372036854775808) = false := decide_eq_false (by omega)
                    have HX := Lib.hid (show intV s.data.toList = none by rw [HL.out]; exact (intV_neg b).2 (.inr (by rw [HE.out.1]; omega)))
                    clear hbig
                    go_wp2
                    go_ret2
                    exact num_no _ HX.out
            · clear HNZ
              cases pn
    · have q2 : ((c0.toNat : Int) == 45) = false := beq45 h45
      obtain ⟨b, hb⟩ : ∃ b, s.data.toList = b := ⟨_, rfl⟩
      have HRB := Lib.hid hb
      have HRS := Lib.hid (show s.size = b.length by rw [size_eq, HRB.out])
      rw [hb] at HH ⊢
      have HPOS := Lib.hid (intV_pos (b := b) (by rw [HH.out]; intro e; injection e with e; exact h45 e))
      have HNO := Lib.hid (show numOk b false = false → intV b = none from fun h => HPOS.out.2 (.inl h))
      clear h45 hb h0
      go_enter Tryd.func42, Tryd.ntmps42
      by_cases z0 : s.size = 0
      · have p1 : ((s.size : Int) == 0) = true := by rw [z0]; rfl
        have HX := Lib.hid (HNO.out (by unfold numOk; rw [decide_eq_false (show ¬ 1 ≤ b.length by rw [← HRS.out]; omega)]; rfl))
        go_wp2
        go_ret2
        exact num_no _ HX.out
      · have p1 : ((s.size : Int) == 0) = false := by rw [beq_eq_false_iff_ne]; omega
        by_cases z19 : 19 < s.size
        · have p2 : decide ((19 : Int) < (s.size : Int)) = true := decide_eq_true (by omega)
          have HX := Lib.hid (HNO.out (by unfold numOk; rw [decide_eq_false (show ¬ b.length ≤ 19 by rw [← HRS.out]; omega), Bool.and_false]; rfl))
          go_wp2
          go_ret2
          exact num_no _ HX.out
        · have p2 : decide ((19 : Int) < (s.size : Int)) = false := decide_eq_false (by omega)
          have rpos : 0 < s.size := by omega
          have HRH := Lib.hid (hd0_at rpos)
          rw [HRB.out] at HRH
          obtain ⟨d0, hd0_⟩ : ∃ d0, s[0] = d0 := ⟨_, rfl⟩
          obtain rfl : d0 = c0 := hd0_.symm.trans hc0
          have HRD := Lib.hid (show hd0 b = d0 by rw [HRH.out, hd0_])
          have HLZ := Lib.hid (show 1 ≤ b.length ∧ b.length ≤ 19 from by rw [← HRS.out]; omega)
          by_cases hz : d0 = 48 ∧ (false = true ∨ 1 < s.size)
          · have p3 : ((d0.toNat : Int) == 48) = true := by rw [hz.1]; rfl
            have HX := Lib.hid (HNO.out (by
              unfold numOk
              rw [HRD.out, hz.1, show ((48 : UInt8) == 48) = true from rfl, show (false || decide (1 < b.length)) = true by
                rw [← HRS.out]
                rcases hz.2 with h | h
                · first | rfl | (cases h; done)
                · rw [decide_eq_true h, Bool.or_true]]
              rw [Bool.and_self, Bool.not_true, Bool.and_false, Bool.false_and]))
            have p4 : false = true ∨ decide ((1 : Int) < (s.size : Int)) = true := by
              rcases hz.2 with h | h
              · exact .inl h
              · exact .inr (decide_eq_true (by omega))
            clear hz
            first
              | (have p5 : decide ((1 : Int) < (s.size : Int)) = true := by
                  rcases p4 with h | h
                  · cases h
                  · exact h
                 clear p4
                 go_wp2
                 go_ret2
                 exact num_no _ HX.out)
              | (clear p4
                 go_wp2
                 go_ret2
                 exact num_no _ HX.out)
          · have HZ := Lib.hid (show ((hd0 b == 48) && (false || decide (1 < b.length))) = false by
              rw [HRD.out]
              by_cases h48 : d0 = 48
              · have h2 : ¬ (false = true ∨ 1 < s.size) := fun h => hz ⟨h48, h⟩
                have h3 : false = false := by
                  cases hn : false with
                  | false => rfl
                  | true => exact absurd (Or.inl hn) h2
                rw [h3, decide_eq_false (show ¬ 1 < b.length by rw [← HRS.out]; exact fun h => h2 (.inr h))]
                simp
              · rw [show (d0 == 48) = false by simpa using h48, Bool.false_and])
            have HNZ := Lib.hid hz
            have p3 : (((d0.toNat : Int) == 48) = false) ∨ (((d0.toNat : Int) == 48) = true ∧ false = false ∧ decide ((1 : Int) < (s.size : Int)) = false) := by
              by_cases h48 : d0 = 48
              · right
                have h2 : ¬ (false = true ∨ 1 < s.size) := fun h => hz ⟨h48, h⟩
                refine ⟨by rw [h48]; rfl, ?_, decide_eq_false (fun h => h2 (.inr (by omega)))⟩
                cases hn : false with
                | false => rfl
                | true => exact absurd (Or.inl hn) h2
              · left
                exact beq48 h48
            clear hz
            rcases p3 with p3 | ⟨p3, pn, p4⟩
            · clear HNZ
              go_wp2
              go_loop [5, 6] (fun nv i => ∃ k n : Nat, k ≤ s.size ∧ i = .int .i64 (k : Int) ∧ nv = .int .u64 (n : Int) ∧ Hid (decN (b.take k) = n ∧ (b.take k).all dgt = true)) (fun _ i => s.size - (intOf i).toNat)
              case atStart => exact ⟨0, 0, Nat.zero_le _, rfl, rfl, Lib.hid ⟨rfl, rfl⟩⟩
              case round =>
                obtain ⟨k, n, hk, rfl, rfl, HN⟩ := hrel
                by_cases hlt : k < s.size
                · have hkb : k < b.length := by rw [← HRS.out]; exact hlt
                  obtain ⟨c, hc⟩ : ∃ c, s[k] = c := ⟨_, rfl⟩
                  have HC := Lib.hid (show b[k] = c by rw [← hc, ← list_at hlt]; simp only [HRB.out])
                  have HBAD := Lib.hid (show dgt c = false → numOk b false = false from fun h => by
                    rw [numOk_all HLZ.out HZ.out]; exact dgt_bad (by rw [← HC.out]; exact List.getElem_mem hkb) h)
                  have HGO := Lib.hid (show dgt c = true → decN (b.take (k + 1)) = n * 10 + (c.toNat - 48) ∧ (b.take (k + 1)).all dgt = true ∧ n * 10 + (c.toNat - 48) < 10000000000000000000 from fun h => by
                    have a1 := HN.out.1
                    have a2 : (b.take (k + 1)).all dgt = true := all_snoc hkb HN.out.2 (by rw [HC.out]; exact h)
                    have a3 : decN (b.take (k + 1)) = n * 10 + (c.toNat - 48) := by rw [List.take_succ_eq_append_getElem hkb, decN_snoc, a1, HC.out]
                    have a4 := decN_lt _ a2
                    have a5 : 10 ^ (b.take (k + 1)).length ≤ 10 ^ 19 := Nat.pow_le_pow_right (by omega) (by rw [List.length_take]; have := HLZ.out.2; omega)
                    exact ⟨a3, a2, by omega⟩)
                  have HDG := Lib.hid (show dgt c = decide (48 ≤ c.toNat ∧ c.toNat ≤ 57) from rfl)
                  have h256 : c.toNat < 256 := c.toNat_lt
                  obtain ⟨m, hm⟩ : ∃ m, c.toNat = m := ⟨_, rfl⟩
                  rw [hm] at HGO HDG h256
                  have hmc : (c.toNat : Int) = (m : Int) := by rw [hm]
                  clear hm
                  by_cases hl : m < 48
                  · have r1 : decide ((m : Int) < 48) = true := decide_eq_true (by omega)
                    have HX := Lib.hid (HNO.out (HBAD.out (by rw [HDG.out]; exact decide_eq_false (by omega))))
                    go_wp2
                    go_ret2
                    exact num_no _ HX.out
                  · have r1 : decide ((m : Int) < 48) = false := decide_eq_false (by omega)
                    by_cases hu : 57 < m
                    · have r2 : decide ((57 : Int) < (m : Int)) = true := decide_eq_true (by omega)
                      have HX := Lib.hid (HNO.out (HBAD.out (by rw [HDG.out]; exact decide_eq_false (by omega))))
                      go_wp2
                      go_ret2
                      exact num_no _ HX.out
                    · have r2 : decide ((57 : Int) < (m : Int)) = false := decide_eq_false (by omega)
                      obtain ⟨d, hd⟩ : ∃ d, m - 48 = d := ⟨_, rfl⟩
                      rw [hd] at HGO
                      obtain ⟨g1, g2, g3⟩ := HGO.out (by rw [HDG.out]; exact decide_eq_true (by omega))
                      have g4 : (m : Int) - 48 = (d : Int) := by omega
                      have g5 : IntKind.u64.wrap ((n : Int) * 10) = (n : Int) * 10 := by rw [IntKind.wrap_u64]; omega
                      have g6 : IntKind.u64.wrap ((n : Int) * 10 + (d : Int)) = (n : Int) * 10 + (d : Int) := by rw [IntKind.wrap_u64]; omega
                      have g7 : IntKind.u64.wrap (d : Int) = (d : Int) := by rw [IntKind.wrap_u64]; omega
                      have g8 : IntKind.u8.wrap (d : Int) = (d : Int) := by rw [IntKind.wrap_u8]; omega
                      have HN2 := Lib.hid (show decN (b.take (k + 1)) = n * 10 + d ∧ (b.take (k + 1)).all dgt = true from ⟨g1, g2⟩)
                      clear g1 g2 g3 hd
                      go_wp2
                      go_round
                      case rel => exact ⟨k + 1, n * 10 + d, by omega, by go_num, by first | rfl | (congr 1; omega), HN2⟩
                      case measure => simp [intOf]; omega
                · have HE := Lib.hid (show decN b = n ∧ numOk b false = true by
                    have h1 := HN.out
                    rw [List.take_of_length_le (by rw [← HRS.out]; omega)] at h1
                    exact ⟨h1.1, by rw [numOk_all HLZ.out HZ.out]; exact h1.2⟩)
                  have HBN := Lib.hid (show n < 10000000000000000000 by rw [← HE.out.1]; exact (dig_of HE.out.2).2.1)
                  by_cases hbig : n < 9223372036854775808
                  · have r1 : decide ((n : Int) < 9223372036854775808) = true := decide_eq_true (by omega)
                    have HX := Lib.hid (show intV b = some (n : Int) by rw [← HE.out.1]; exact HPOS.out.1 HE.out.2 (by rw [HE.out.1]; exact hbig))
                    have r2 : IntKind.i64.wrap (n : Int) = (n : Int) := by rw [IntKind.wrap_i64]; omega
                    clear hbig
                    go_wp2
                    go_ret2
                    exact num_yes HX.out
                  · have r1 : decide ((n : Int) < 9223372036854775808) = false := decide_eq_false (by omega)
                    have HX := Lib.hid (show intV b = none from HPOS.out.2 (.inr (by rw [HE.out.1]; omega)))
                    clear hbig
                    go_wp2
                    go_ret2
                    exact num_no _ HX.out
            · clear HNZ
              clear pn
              go_wp2
              go_loop [5, 6] (fun nv i => ∃ k n : Nat, k ≤ s.size ∧ i = .int .i64 (k : Int) ∧ nv = .int .u64 (n : Int) ∧ Hid (decN (b.take k) = n ∧ (b.take k).all dgt = true)) (fun _ i => s.size - (intOf i).toNat)
              case atStart => exact ⟨0, 0, Nat.zero_le _, rfl, rfl, Lib.hid ⟨rfl, rfl⟩⟩
              case round =>
                obtain ⟨k, n, hk, rfl, rfl, HN⟩ := hrel
                by_cases hlt : k < s.size
                · have hkb : k < b.length := by rw [← HRS.out]; exact hlt
                  obtain ⟨c, hc⟩ : ∃ c, s[k] = c := ⟨_, rfl⟩
                  have HC := Lib.hid (show b[k] = c by rw [← hc, ← list_at hlt]; simp only [HRB.out])
                  have HBAD := Lib.hid (show dgt c = false → numOk b false = false from fun h => by
                    rw [numOk_all HLZ.out HZ.out]; exact dgt_bad (by rw [← HC.out]; exact List.getElem_mem hkb) h)
                  have HGO := Lib.hid (show dgt c = true → decN (b.take (k + 1)) = n * 10 + (c.toNat - 48) ∧ (b.take (k + 1)).all dgt = true ∧ n * 10 + (c.toNat - 48) < 10000000000000000000 from fun h => by
                    have a1 := HN.out.1
                    have a2 : (b.take (k + 1)).all dgt = true := all_snoc hkb HN.out.2 (by rw [HC.out]; exact h)
                    have a3 : decN (b.take (k + 1)) = n * 10 + (c.toNat - 48) := by rw [List.take_succ_eq_append_getElem hkb, decN_snoc, a1, HC.out]
                    have a4 := decN_lt _ a2
                    have a5 : 10 ^ (b.take (k + 1)).length ≤ 10 ^ 19 := Nat.pow_le_pow_right (by omega) (by rw [List.length_take]; have := HLZ.out.2; omega)
                    exact ⟨a3, a2, by omega⟩)
                  have HDG := Lib.hid (show dgt c = decide (48 ≤ c.toNat ∧ c.toNat ≤ 57) from rfl)
                  have h256 : c.toNat < 256 := c.toNat_lt
                  obtain ⟨m, hm⟩ : ∃ m, c.toNat = m := ⟨_, rfl⟩
                  rw [hm] at HGO HDG h256
                  have hmc : (c.toNat : Int) = (m : Int) := by rw [hm]
                  clear hm
                  by_cases hl : m < 48
                  · have r1 : decide ((m : Int) < 48) = true := decide_eq_true (by omega)
                    have HX := Lib.hid (HNO.out (HBAD.out (by rw [HDG.out]; exact decide_eq_false (by omega))))
                    go_wp2
                    go_ret2
                    exact num_no _ HX.out
                  · have r1 : decide ((m : Int) < 48) = false := decide_eq_false (by omega)
                    by_cases hu : 57 < m
                    · have r2 : decide ((57 : Int) < (m : Int)) = true := decide_eq_true (by omega)
                      have HX := Lib.hid (HNO.out (HBAD.out (by rw [HDG.out]; exact decide_eq_false (by omega))))
                      go_wp2
                      go_ret2
                      exact num_no _ HX.out
                    · have r2 : decide ((57 : Int) < (m : Int)) = false := decide_eq_false (by omega)
                      obtain ⟨d, hd⟩ : ∃ d, m - 48 = d := ⟨_, rfl⟩
                      rw [hd] at HGO
                      obtain ⟨g1, g2, g3⟩ := HGO.out (by rw [HDG.out]; exact decide_eq_true (by omega))
                      have g4 : (m : Int) - 48 = (d : Int) := by omega
                      have g5 : IntKind.u64.wrap ((n : Int) * 10) = (n : Int) * 10 := by rw [IntKind.wrap_u64]; omega
                      have g6 : IntKind.u64.wrap ((n : Int) * 10 + (d : Int)) = (n : Int) * 10 + (d : Int) := by rw [IntKind.wrap_u64]; omega
                      have g7 : IntKind.u64.wrap (d : Int) = (d : Int) := by rw [IntKind.wrap_u64]; omega
                      have g8 : IntKind.u8.wrap (d : Int) = (d : Int) := by rw [IntKind.wrap_u8]; omega
                      have HN2 := Lib.hid (show decN (b.take (k + 1)) = n * 10 + d ∧ (b.take (k + 1)).all dgt = true from ⟨g1, g2⟩)
                      clear g1 g2 g3 hd
                      go_wp2
                      go_round
                      case rel => exact ⟨k + 1, n * 10 + d, by omega, by go_num, by first | rfl | (congr 1; omega), HN2⟩
                      case measure => simp [intOf]; omega
                · have HE := Lib.hid (show decN b = n ∧ numOk b false = true by
                    have h1 := HN.out
                    rw [List.take_of_length_le (by rw [← HRS.out]; omega)] at h1
                    exact ⟨h1.1, by rw [numOk_all HLZ.out HZ.out]; exact h1.2⟩)
                  have HBN := Lib.hid (show n < 10000000000000000000 by rw [← HE.out.1]; exact (dig_of HE.out.2).2.1)
                  by_cases hbig : n < 9223372036854775808
                  · have r1 : decide ((n : Int) < 9223372036854775808) = true := decide_eq_true (by omega)
                    have HX := Lib.hid (show intV b = some (n : Int) by rw [← HE.out.1]; exact HPOS.out.1 HE.out.2 (by rw [HE.out.1]; exact hbig))
                    have r2 : IntKind.i64.wrap (n : Int) = (n : Int) := by rw [IntKind.wrap_i64]; omega
                    clear hbig
                    go_wp2
                    go_ret2
                    exact num_yes HX.out
                  · have r1 : decide ((n : Int) < 9223372036854775808) = false := decide_eq_false (by omega)
                    have HX := Lib.hid (show intV b = none from HPOS.out.2 (.inr (by rw [HE.out.1]; omega)))
                    clear hbig
                    go_wp2
                    go_ret2
                    exact num_no _ HX.out
end Go.Proofs.YtfkfgabepjpdlaaDoor
