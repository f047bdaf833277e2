/- The walk of the plain text that writes columns. -/
import Derived.Test.YtkpajmgbiepmbaaCodRtold
namespace Go.Proofs.Ytkpajmgbiepmbaa
open Go.ChangeShapes Go.WideShapes Go.ChangeAt Go.RowKit
open Go.Lib (byteCells byteCells_length byteCells_append strCells)
set_option linter.unusedVariables false

theorem txt_append (a b : List UInt8) : txt (a ++ b) = txt a ++ txt b := by apply str_ext; simp [txt]
set_option maxRecDepth 4000 in
set_option maxHeartbeats 2000000 in
theorem pcols_walk (l : List Co) (hw : ∀ c ∈ l, c.s.size ≤ 274877906944) (htot : (listL colL l).length ≤ 16777216) (A : Option Addr) (n c : Nat) (w : World) (hn : n = l.length) (hm : n ≤ 1099511627776) (hat : RowC cCells 2 w w.heap.size A l) :
    Calls Try.prog 19 #[.slice A n c] w (RTellPost (colsO l) w) := by
  have HN := Lib.hid hn
  have HA := Lib.hid hat
  have HW := Lib.hid hw
  have HT := Lib.hid htot
  have HC := Lib.hid (pnum_walk n (by omega))
  have hW : IntKind.u64.wrap (n : Int) = (n : Int) := u64_in _ (by omega)
  obtain ⟨T, hT⟩ : ∃ T, txt (numL n) = T := ⟨_, rfl⟩
  have HTT := Lib.hid (show T = txt (upTo colL l 0) by rw [upTo_zero, ← hn, hT])
  rw [hT] at HC
  clear hn hat hw hT htot
  go_enter Try.func19, Try.ntmps19
  go_wp2_with (go_at_call 13; refine (HC.out _).mono ?_; rintro e w1 ⟨rfl, hb1⟩; have HB1 := Lib.hid hb1; clear hb1)
  go_loopw [4, 5] (fun sv iv wr => ∃ (k : Nat) (S : ByteArray), k ≤ n ∧ sv = .string S ∧ iv = .int .i64 (k : Int) ∧ Hid (∀ j (h : j < l.length), j < k → 0 ≤ l[j].k ∧ l[j].k ≤ 255) ∧ Hid (S = txt (upTo colL l k)) ∧ Hid (Below w.heap.size w wr)) (fun _ iv _ => n - (intOf iv).toNat)
  case atStart => exact ⟨0, _, Nat.zero_le _, rfl, rfl, Lib.hid (fun j _ h => by omega), HTT, HB1⟩
  case round =>
    obtain ⟨k, S, hk, rfl, rfl, HK, HL, HBel⟩ := hrel
    have hSs : S.size ≤ 16777216 := by have h1 := upTo_le (enc := colL) (l := l) k; have h2 := HT.out; rw [HL.out, txt_size]; omega
    by_cases hlt : k < n
    · have hkl : k < l.length := by rw [← HN.out]; exact hlt
      have hws := HW.out _ (List.getElem_mem hkl)
      have HL2 := Lib.hid (upTo_next (enc := colL) hkl)
      obtain ⟨b, off, rfl, hB, hc⟩ := HA.out k hkl
      obtain ⟨x, hx⟩ : ∃ x, l[k] = x := ⟨_, rfl⟩
      have HX := Lib.hid hx
      rw [hx] at hws HL2
      obtain ⟨s, kd⟩ := x
      simp only [hx] at hc
      simp only at hws
      have HS := Lib.hid (fun (W : World) (hb : Below w.heap.size w W) => (hb.cell (p := ⟨b, off + k * 2 + 0, none⟩) hB).trans (hc 0 _ rfl))
      have HU := Lib.hid (fun (W : World) (hb : Below w.heap.size w W) => (hb.cell (p := ⟨b, off + k * 2 + 1, none⟩) hB).trans (hc 1 _ rfl))
      have c0 := HS.out _ HBel.out
      have c1 := HU.out _ HBel.out
      rw [Nat.add_zero] at c0
      have hbs := HBel.out.size
      clear hx hc
      by_cases h0 : 0 ≤ kd ∧ kd ≤ 255
      · have HK2 := Lib.hid (show ∀ j (h : j < l.length), j < k + 1 → 0 ≤ l[j].k ∧ l[j].k ≤ 255 by
          intro j hj hjk
          by_cases e : j = k
          · subst e
            rw [HX.out]
            exact h0
          · exact HK.out j hj (by omega))
        have g0 : ¬ kd < 0 := by omega
        have g1 : ¬ (255 : Int) < kd := by omega
        obtain ⟨y, rfl⟩ : ∃ y : UInt8, kd = (y.toNat : Int) := ⟨UInt8.ofNat kd.toNat, by rw [ofNat_toNat (by omega)]; omega⟩
        have h3 : IntKind.u8.wrap (y.toNat : Int) = (y.toNat : Int) := by have := y.toNat_lt; rw [IntKind.wrap_u8]; omega
        have hcv : ∀ (w : World) (g : Nat), w.cell? ⟨g, 0, none⟩ = some (.int .u8 (y.toNat : Int)) → (convert 27 9 (.slice (some ⟨g, 0, none⟩) 1 1)).run Try.prog w = .ok (.string ⟨#[y]⟩) w := fun w g h => bytes_string w g _ _ h rfl
        have HC1 := Lib.hid (pword_walk s (by omega))
        have hs1 := wordT hws
        obtain ⟨U, hU⟩ : ∃ U, txt (wordL s) = U := ⟨_, rfl⟩
        rw [hU] at HC1 hs1
        have HE := Lib.hid (show S ++ U ++ ⟨#[y]⟩ = txt (upTo colL l (k + 1)) by
          rw [HL2.out, txt_append, ← HL.out, ← hU]
          apply str_ext
          simp [txt, colL])
        have hB2 : b < wr.heap.size := by omega
        have z1 : ¬ 9223372036854775807 < S.size + U.size := by omega
        have z2 : ¬ 9223372036854775807 < S.size + U.size + 1 := by omega
        have z3 : ¬ 9223372036854775807 < (S ++ U).size + 1 := by rw [ByteArray.size_append]; omega
        clear h0 hU HL2
        go_wp2_with fail
        go_region_law (go_simp; go_at_call 44; refine (HC1.out _).mono ?_; rintro e w3 ⟨rfl, hb3⟩; have HBel3 : Below w.heap.size w w3 := (by first | exact hop HBel.out.drew hb3 | exact hop (HBel.out.drew.alloc hbs _) hb3 | exact hop (HBel.out.alloc hbs _).drew hb3 | exact hop ((HBel.out.alloc hbs _).drew.alloc (by simp; omega) _) hb3); have e1 := HU.out _ HBel3; have e2 := fun h => later_cell (a := ⟨wr.heap.size, 0, none⟩) (v := .int .u8 (y.toNat : Int)) hb3 h; simp [go_sem] at e2)
        all_goals
          go_wp2
          go_roundw
          case rel => exact ⟨k + 1, _, by omega, rfl, by go_num, HK2, HE, Lib.hid (by first | exact HBel3 | exact HBel3.alloc HBel3.size _)⟩
          case measure => simp [intOf]; omega
      · have HF := Lib.hid (colsO_bad (l := l) (c := ⟨s, kd⟩) (by rw [← HX.out]; exact List.getElem_mem hkl) h0)
        by_cases g0 : kd < 0
        · clear h0
          go_wp2
          go_ret2
          rw [HF.out]
          exact ⟨rfl, HBel.out⟩
        · have g1 : (255 : Int) < kd := by omega
          clear h0
          go_wp2
          go_ret2
          rw [HF.out]
          exact ⟨rfl, HBel.out⟩
    · have hall : ∀ c ∈ l, 0 ≤ c.k ∧ c.k ≤ 255 := by
        intro c hc
        obtain ⟨j, hj, rfl⟩ := List.getElem_of_mem hc
        exact HK.out j hj (by rw [← HN.out] at hj; omega)
      have HF := Lib.hid (colsO_all hall)
      have HE := Lib.hid (show S = txt (listL colL l) by rw [HL.out, upTo_all (by rw [← HN.out]; omega)])
      have hm24 : decide ((16777216 : Int) < (S.size : Int)) = false := decide_eq_false (by omega)
      clear hall
      go_wp2
      go_ret2
      rw [HF.out]
      exact ⟨by rw [HE.out]; rfl, HBel.out⟩
end Go.Proofs.Ytkpajmgbiepmbaa
