/- The walks of the plain text that writes: pairs, rows. -/
import Derived.Test.YtkpajmgbiepmbaaCodRtold
namespace Go.Proofs.Ytkpajmgbiepmbaa
open Go.ChangeShapes Go.WideShapes Go.ChangeAt Go.RowKit
open Go.Lib (byteCells byteCells_length byteCells_append strCells)
set_option linter.unusedVariables false

set_option maxRecDepth 4000 in
set_option maxHeartbeats 1000000 in
theorem ppairs_walk (l : List Pa) (hw : ∀ p ∈ l, p.s.size ≤ 274877906944 ∧ p.t.size ≤ 274877906944) (htot : (listL pairL l).length ≤ 16777216) (A : Option Addr) (n c : Nat) (w : World) (hn : n = l.length) (hm : n ≤ 1099511627776) (hat : RowC pCells 2 w w.heap.size A l) :
    Calls Try.prog 21 #[.slice A n c] w (RTellPost (some (listL pairL l)) w) := by
  have HN := Lib.hid hn
  have HA := Lib.hid hat
  have HW := Lib.hid hw
  have HT := Lib.hid htot
  have HC := Lib.hid (pnum_walk n (by omega))
  have hW : IntKind.u64.wrap (n : Int) = (n : Int) := u64_in _ (by omega)
  have hTs := numT (n := n) (by omega)
  obtain ⟨T, hT⟩ : ∃ T, txt (numL n) = T := ⟨_, rfl⟩
  rw [hT] at HC hTs
  have hcv := fun W => run_bytes_of_string (P := Try.prog) W 9 27 5 T Try.underlying9 Try.underlying27 Try.underlying5
  have HTT := Lib.hid hT
  clear hn hat hw hT htot
  go_enter Try.func21, Try.ntmps21
  go_wp2_with (go_at_call 13; refine (HC.out _).mono ?_; rintro e w1 ⟨rfl, hb1⟩; have HB1 := Lib.hid hb1; clear hb1)
  have HZ0 := Lib.hid (BufZ.head HTT.out HB1.out hTs pairL l HN.out)
  clear hcv
  go_loopw [4, 5] (fun bv iv wr => ∃ (k m : Nat) (bs : List UInt8) (A2 : Option Addr) (c2 : Nat), k ≤ n ∧ bv = .slice A2 m c2 ∧ iv = .int .i64 (k : Int) ∧ Hid (bs = upTo pairL l k) ∧ Hid (BufZ w.heap.size A2 m c2 bs wr) ∧ Hid (Below w.heap.size w wr)) (fun _ iv _ => n - (intOf iv).toNat)
  case atStart => exact ⟨0, _, _, _, _, Nat.zero_le _, rfl, rfl, Lib.hid rfl, HZ0, Lib.hid ((HB1.out.alloc HB1.out.size _).drew)⟩
  case round =>
    obtain ⟨k, m, bs, A2, c2, hk, rfl, rfl, HL, HB, HBel⟩ := hrel
    have hbl : bs.length ≤ 16777216 := by have h1 := upTo_le (enc := pairL) (l := l) k; have h2 := HT.out; rw [HL.out]; omega
    by_cases hlt : k < n
    · have hkl : k < l.length := by rw [← HN.out]; exact hlt
      have hws := HW.out _ (List.getElem_mem hkl)
      have HL2 := Lib.hid (upTo_next (enc := pairL) hkl)
      obtain ⟨b, off, rfl, hB, hc⟩ := HA.out k hkl
      obtain ⟨x, hx⟩ : ∃ x, l[k] = x := ⟨_, rfl⟩
      rw [hx] at hws HL2
      obtain ⟨s, t⟩ := x
      simp only [hx] at hc
      have HS := Lib.hid (fun (W : World) (hb : Below w.heap.size w W) => (hb.cell (p := ⟨b, off + k * 2 + 0, none⟩) hB).trans (hc 0 _ rfl))
      have HU := Lib.hid (fun (W : World) (hb : Below w.heap.size w W) => (hb.cell (p := ⟨b, off + k * 2 + 1, none⟩) hB).trans (hc 1 _ rfl))
      have c0 := HS.out _ HBel.out
      rw [Nat.add_zero] at c0
      have HC1 := Lib.hid (pword_walk s (by have := hws.1; simp only at this; omega))
      have HC2 := Lib.hid (pword_walk t (by have := hws.2; simp only at this; omega))
      have hs1 := wordT hws.1
      have hs2 := wordT hws.2
      simp only at hs1 hs2
      have HL3 := Lib.hid (show upTo pairL l (k + 1) = upTo pairL l k ++ (wordL s ++ wordL t) from HL2.out)
      obtain ⟨S, hS⟩ : ∃ S, txt (wordL s) = S := ⟨_, rfl⟩
      obtain ⟨U, hU⟩ : ∃ U, txt (wordL t) = U := ⟨_, rfl⟩
      rw [hS] at HC1 hs1
      rw [hU] at HC2 hs2
      have HSL := Lib.hid (show S.data.toList = wordL s by rw [← hS, txt_list])
      have HUL := Lib.hid (show U.data.toList = wordL t by rw [← hU, txt_list])
      have hbl2 := txt_app S bs
      clear hx hc hws HL2 hS hU
      go_wp2_with (first | (go_at_call 44; refine (HC1.out _).mono ?_; rintro e w3 ⟨rfl, hb3⟩; have HB3 := Lib.hid (HB.out.below hb3); have HBel3 := Lib.hid (hop HBel.out hb3); clear hb3) | (at_builtin; go_loud (refine append_textZ rfl _ _ rfl w.heap.size A2 m c2 bs rfl _ S HB3.out rfl (by omega) ?_); intro A4 n4 c4 w4 hn4 hb4 hbel4; have HB4 := Lib.hid hb4; have HBel4 := Lib.hid (HBel3.out.trans hbel4); clear hb4 hbel4; subst hn4; have d1 := HU.out _ HBel4.out) | (go_at_call 44; refine (HC2.out _).mono ?_; rintro e w5 ⟨rfl, hb5⟩; have HB5 := Lib.hid (HB4.out.below hb5); have HBel5 := Lib.hid (hop HBel4.out hb5); clear hb5) | (at_builtin; go_loud (refine append_textZ rfl _ _ rfl w.heap.size A4 _ c4 _ rfl _ U HB5.out rfl (by omega) ?_); intro A6 n6 c6 w6 hn6 hb6 hbel6; have HB6 := Lib.hid hb6; have HBel6 := Lib.hid (HBel5.out.trans hbel6); clear hb6 hbel6; subst hn6))
      go_roundw
      case rel => exact ⟨k + 1, _, _, A6, c6, by omega, rfl, by go_num, Lib.hid (by rw [HL3.out, HL.out, HSL.out, HUL.out, List.append_assoc]), HB6, HBel6⟩
      case measure => simp [intOf]; omega
    · have HE := Lib.hid (HL.out.trans (upTo_all (by rw [← HN.out]; omega)))
      have hcs := HB.out.str
      have hml := HB.out.len
      have hm24 : decide ((16777216 : Int) < (m : Int)) = false := decide_eq_false (by omega)
      clear hml
      go_wp2
      go_ret2
      exact ⟨by rw [HE.out]; rfl, HBel.out⟩

/-- How long the bytes of k right rows may be. -/
def limR (k : Nat) : Nat := 10 + 2542 * k
theorem limR_next (k : Nat) : limR k + 2542 ≤ limR (k + 1) := by unfold limR; omega
theorem limR_zero : 10 ≤ limR 0 := by decide
theorem limR_le {k : Nat} (h : k ≤ 4096) : limR k ≤ 16000000 := by unfold limR; omega
set_option maxRecDepth 4000 in
set_option maxHeartbeats 2000000 in
theorem prows_walk (l : List Rw) (A : Option Addr) (n c : Nat) (w : World) (hn : n = l.length) (hm : n ≤ 4096) (hat : RowsIn w w.heap.size A l) :
    Calls Try.prog 16 #[.slice A n c] w (RTellPost (rowsO l) w) := by
  have HN := Lib.hid hn
  have HA := Lib.hid hat
  have HC := Lib.hid (pnum_walk n (by omega))
  have hW : IntKind.u64.wrap (n : Int) = (n : Int) := u64_in _ (by omega)
  have hTs := numT (n := n) (by omega)
  obtain ⟨T, hT⟩ : ∃ T, txt (numL n) = T := ⟨_, rfl⟩
  rw [hT] at HC hTs
  have hcv := fun W => run_bytes_of_string (P := Try.prog) W 9 27 5 T Try.underlying9 Try.underlying27 Try.underlying5
  have HTT := Lib.hid hT
  have HT0 := Lib.hid (show (upTo rwL l 0).length ≤ 10 by rw [upTo_zero]; exact numL_len64 (by omega))
  clear hn hat hT
  go_enter Try.func16, Try.ntmps16
  go_wp2_with (go_at_call 13; refine (HC.out _).mono ?_; rintro e w1 ⟨rfl, hb1⟩; have HB1 := Lib.hid hb1; clear hb1)
  have HZ0 := Lib.hid (BufZ.head HTT.out HB1.out hTs rwL l HN.out)
  clear hcv
  go_loopw [4, 5] (fun bv iv wr => ∃ (k m : Nat) (bs : List UInt8) (A2 : Option Addr) (c2 : Nat), k ≤ n ∧ bv = .slice A2 m c2 ∧ iv = .int .i64 (k : Int) ∧ bs.length ≤ limR k ∧ Hid (∀ j (h : j < l.length), j < k → rowB l[j].l = true) ∧ Hid (bs = upTo rwL l k) ∧ Hid (BufZ w.heap.size A2 m c2 bs wr) ∧ Hid (Below w.heap.size w wr)) (fun _ iv _ => n - (intOf iv).toNat)
  case atStart => exact ⟨0, _, _, _, _, Nat.zero_le _, rfl, rfl, by have := HT0.out; have := limR_zero; omega, Lib.hid (fun j _ h => by omega), Lib.hid rfl, HZ0, Lib.hid ((HB1.out.alloc HB1.out.size _).drew)⟩
  case round =>
    obtain ⟨k, m, bs, A2, c2, hk, rfl, rfl, hbl, HK, HL, HB, HBel⟩ := hrel
    have HLim := Lib.hid (limR_next k)
    have hlim := limR_le (k := k) (by omega)
    by_cases hlt : k < n
    · have hkl : k < l.length := by rw [← HN.out]; exact hlt
      have HL2 := Lib.hid (upTo_next (enc := rwL) hkl)
      obtain ⟨b, off, rfl, hB, hc⟩ := HA.out.1 k hkl
      have HR0 := HA.out.2 _ (List.getElem_mem hkl)
      obtain ⟨x, hx⟩ : ∃ x, l[k] = x := ⟨_, rfl⟩
      have HX := Lib.hid hx
      rw [hx] at HL2 HR0
      obtain ⟨xa, xc, xl⟩ := x
      simp only at HR0
      simp only [hx] at hc
      have HS := Lib.hid (fun (W : World) (hb : Below w.heap.size w W) => (show W.cell? ⟨b, off + k, none⟩ = some (.slice xa xl.length xc) by
        have h1 := (hb.cell (p := ⟨b, off + k * 1 + 0, none⟩) hB).trans (hc 0 _ rfl)
        rw [Nat.mul_one, Nat.add_zero] at h1
        exact h1))
      have HR := Lib.hid HR0
      have c0 := HS.out _ HBel.out
      have HCR := Lib.hid (rrow_any xl HR.out.2.1 xl.length xc xa wr rfl HR.out.2.2 ((HR.out.1.below HBel.out).more HBel.out.size))
      clear hx hc HR0
      cases hb : rowB xl
      · have HF := Lib.hid (rowsO_bad (l := l) (r := ⟨xa, xc, xl⟩) (by rw [← HX.out]; exact List.getElem_mem hkl) hb)
        rw [hb] at HCR
        clear hb
        go_wp2_with (go_at_call 40; refine HCR.out.mono ?_; rintro e w2 ⟨rfl, hb2⟩; have HBel2 := Lib.hid (hop HBel.out hb2); clear hb2)
        go_ret2
        rw [HF.out]
        exact ⟨rfl, HBel2.out⟩
      · have HK2 := Lib.hid (show ∀ j (h : j < l.length), j < k + 1 → rowB l[j].l = true by
          intro j hj hjk
          by_cases e : j = k
          · subst e
            rw [HX.out]
            exact hb
          · exact HK.out j hj (by omega))
        have hok := okR_of hb HR.out.2.1
        have hx12 : xl.length ≤ 12 := hok.1
        have HOK := Lib.hid hok
        have HLen := Lib.hid (rowL_len hok)
        rw [hb] at HCR
        have HC2 := Lib.hid (pnum_walk xl.length (by omega))
        have hs2 := numT (n := xl.length) (by omega)
        obtain ⟨q, hq⟩ : ∃ q, xl.length = q := ⟨_, rfl⟩
        have HQ := Lib.hid hq
        have HUL := Lib.hid (show (txt (numL q)).data.toList = upTo valL xl 0 by rw [txt_list, upTo_zero, hq])
        rw [hq] at c0 HC2 HCR hs2 hx12 HS
        have hWq : IntKind.u64.wrap (q : Int) = (q : Int) := u64_in _ (by omega)
        obtain ⟨U, hU⟩ : ∃ U, txt (numL q) = U := ⟨_, rfl⟩
        rw [hU] at HC2 hs2 HUL
        clear hb hok hq hU
        go_wp2_with (first | (go_at_call 40; refine HCR.out.mono ?_; rintro e w2 ⟨rfl, hb2⟩; have HB2 := Lib.hid (HB.out.below hb2); have HBel2 := Lib.hid (hop HBel.out hb2); clear hb2; have d0 := HS.out _ HBel2.out) | (go_at_call 13; refine (HC2.out _).mono ?_; rintro e w3 ⟨rfl, hb3⟩; have HB3 := Lib.hid (HB2.out.below hb3); have HBel3 := Lib.hid (hop HBel2.out hb3); clear hb3) | (at_builtin; go_loud (refine append_textZ rfl _ _ rfl w.heap.size A2 m c2 bs rfl _ U HB3.out rfl (by omega) ?_); intro A4 n4 c4 w4 hn4 hb4 hbel4; have HB4 := Lib.hid hb4; have HBel4 := Lib.hid (HBel3.out.trans hbel4); clear hb4 hbel4; subst hn4))
        obtain ⟨w0, rfl⟩ : ∃ x, x = wr := ⟨_, rfl⟩
        go_loopw [4, 6] (fun bv jv wr => ∃ (j m : Nat) (cs : List UInt8) (A2 : Option Addr) (c2 : Nat), j ≤ q ∧ bv = .slice A2 m c2 ∧ jv = .int .i64 (j : Int) ∧ Hid (cs = bs ++ upTo valL xl j) ∧ Hid (BufZ w.heap.size A2 m c2 cs wr) ∧ Hid (Below w.heap.size w wr)) (fun _ jv _ => q - (intOf jv).toNat)
        case atStart => exact ⟨0, _, _, _, _, Nat.zero_le _, rfl, rfl, Lib.hid (by rw [HUL.out]), HB4, HBel4⟩
        case round =>
          obtain ⟨j, m2, cs, A5, c5, hj, rfl, rfl, HL5, HB5, HBel5⟩ := hrel
          have hcl : cs.length ≤ limR k + 2542 := by
            have h1 := upTo_le (enc := valL) (l := xl) j
            have h2 := HLen.out
            unfold rowL at h2
            rw [HL5.out, List.length_append]
            omega
          have HCL2 := Lib.hid (show cs.length ≤ limR (k + 1) from Nat.le_trans hcl HLim.out)
          have e0 := HS.out _ HBel5.out
          by_cases hjt : j < q
          · have hjl : j < xl.length := by rw [HQ.out]; exact hjt
            have HL6 := Lib.hid (upTo_next (enc := valL) hjl)
            have hv := HOK.out.2 _ (List.getElem_mem hjl)
            obtain ⟨b6, off6, hxa, hB6, f0, f1, f2⟩ := (HR.out.1.below HBel5.out) j hjl
            obtain ⟨v, hvv⟩ : ∃ v, xl[j] = v := ⟨_, rfl⟩
            rw [hvv] at HL6 hv f0 f1 f2
            subst hxa
            have HC5 := Lib.hid (pvalue_walk v hv)
            have hs5 : (txt (valL v)).size ≤ 211 := by rw [txt_size]; exact valL_len hv
            obtain ⟨U5, hU5⟩ : ∃ U5, txt (valL v) = U5 := ⟨_, rfl⟩
            have HU5 := Lib.hid (show U5.data.toList = valL v by rw [← hU5, txt_list])
            rw [hU5] at HC5 hs5
            clear hvv hv hU5 c0 d0
            go_wp2_with (first | (go_at_call 41; refine (HC5.out _).mono ?_; rintro e w6 ⟨rfl, hb6⟩; have HB6 := Lib.hid (HB5.out.below hb6); have HBel6 := Lib.hid (hop HBel5.out hb6); clear hb6) | (at_builtin; go_loud (refine append_textZ rfl _ _ rfl w.heap.size A5 m2 c5 cs rfl _ U5 HB6.out rfl (by omega) ?_); intro A7 n7 c7 w7 hn7 hb7 hbel7; have HB7 := Lib.hid hb7; have HBel7 := Lib.hid (HBel6.out.trans hbel7); clear hb7 hbel7; subst hn7))
            go_roundw
            case rel => exact ⟨j + 1, _, _, A7, c7, by omega, rfl, by go_num, Lib.hid (by rw [HL6.out, HL5.out, HU5.out, List.append_assoc]), HB7, HBel7⟩
            case measure => simp [intOf]; omega
          · have HE5 := Lib.hid (show cs = upTo rwL l (k + 1) by rw [HL5.out, HL2.out, HL.out, upTo_all (enc := valL) (l := xl) (k := j) (by rw [HQ.out]; omega)]; rfl)
            clear c0 d0
            go_wp2
            go_roundw
            case rel => exact ⟨k + 1, m2, cs, A5, c5, by omega, rfl, by go_num, HCL2.out, HK2, HE5, HB5, HBel5⟩
            case measure => simp [intOf]; omega
    · have hall : ∀ r ∈ l, rowB r.l = true := by
        intro c hc
        obtain ⟨j, hj, rfl⟩ := List.getElem_of_mem hc
        exact HK.out j hj (by rw [← HN.out] at hj; omega)
      have HF := Lib.hid (rowsO_all hall)
      have HE := Lib.hid (HL.out.trans (upTo_all (by rw [← HN.out]; omega)))
      have hcs := HB.out.str
      have hml := HB.out.len
      have hm24 : decide ((16777216 : Int) < (m : Int)) = false := decide_eq_false (by omega)
      clear hml hall
      go_wp2
      go_ret2
      rw [HF.out]
      exact ⟨by rw [HE.out]; rfl, HBel.out⟩
end Go.Proofs.Ytkpajmgbiepmbaa
