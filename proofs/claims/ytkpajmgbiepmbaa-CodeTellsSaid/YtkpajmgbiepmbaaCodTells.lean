/- The walk of the law on lists as bytes. -/
import Derived.Test.YtkpajmgbiepmbaaCodRtold2
import Derived.Test.YtkpajmgbiepmbaaCodRtold3
import Derived.Test.YtkpajmgbiepmbaaCodLong
namespace Go.Proofs.Ytkpajmgbiepmbaa
open Go.ChangeShapes Go.WideShapes Go.ChangeAt Go.RowKit
open Go.Lib (byteCells byteCells_length byteCells_append strCells)
set_option linter.unusedVariables false

def bsO : Option (List UInt8) → List UInt8
  | none => []
  | some bs => bs
def erO : Option (List UInt8) → Int
  | none => 41
  | some _ => 0
theorem tellU {o : Option (List UInt8)} {w : World} {e : Ending} {w' : World} (h : TellPost o w e w') :
    ∃ A n c, e = .returned (.tuple #[.slice A n c, .int .i64 (erO o)]) ∧ n = (bsO o).length ∧ BytesAt w' w'.heap.size A (bsO o) ∧ Below w.heap.size w w' := by
  cases o with
  | none => exact ⟨none, 0, 0, h.1, rfl, fun j hj => by simp [bsO] at hj, h.2⟩
  | some bs =>
    obtain ⟨A, n, c, he, hb, hbel⟩ := h
    exact ⟨A, n, c, he, hb.1, BytesAt.buf hb, hbel⟩
theorem rtellU {o : Option (List UInt8)} {w : World} {e : Ending} {w' : World} (h : RTellPost o w e w') :
    e = .returned (.tuple #[.string (txt (bsO o)), .int .i64 (erO o)]) ∧ Below w.heap.size w w' := by
  cases o with
  | none => exact h
  | some bs => exact h
theorem told_walk (bs : List UInt8) (A : Option Addr) (n c : Nat) (x : Int) (w : World) (hn : n = bs.length) (hb : BytesAt w w.heap.size A bs) :
    Calls Try.prog 17 #[.slice A n c, .int .i64 x, .string (txt bs), .int .i64 x] w fun e w' => e = .returned (.bool true) ∧ w = w' := by
  have hcs := string_of_bytes A n c bs w hn hb
  obtain ⟨T, hT⟩ : ∃ T, txt bs = T := ⟨_, rfl⟩
  rw [hT] at hcs ⊢
  clear hn hb hT
  go_enter Try.func17, Try.ntmps17
  go_wp2
  go_ret
  exact ⟨rfl, rfl⟩
theorem cols_tot {cs : List Co} (hl : cs.length ≤ 300) (h : ∀ p ∈ cs, p.s.size ≤ 2000) : (listL colL cs).length ≤ 16777216 := by
  have := listL_le (enc := colL) (m := 2011) (l := cs) (by omega) (fun p hp => by
    have h1 := wordL_len (s := p.s) (by have := h p hp; omega)
    have := h p hp
    unfold colL
    rw [List.length_append, List.length_singleton]
    omega)
  omega
set_option maxRecDepth 4000 in
set_option maxHeartbeats 4000000 in
theorem tells_big (rs : List Rw) (cs : List Co) (ps : List Pa) (ns : List Int) (A1 A2 A3 A4 : Option Addr) (n1 c1 n2 c2 n3 c3 n4 c4 : Nat) (w : World) (hn1 : n1 = rs.length) (hn2 : n2 = cs.length) (hn3 : n3 = ps.length) (hn4 : n4 = ns.length) (hm1 : n1 ≤ maxLen) (hm2 : n2 ≤ maxLen) (hm3 : n3 ≤ maxLen) (hm4 : n4 ≤ maxLen)
    (hR : RowsIn w w.heap.size A1 rs) (hC : RowC cCells 2 w w.heap.size A2 cs) (hcw : ∀ p ∈ cs, p.s.size ≤ maxLen) (hP : RowC pCells 2 w w.heap.size A3 ps) (hpw : ∀ p ∈ ps, p.s.size ≤ maxLen ∧ p.t.size ≤ maxLen) (hI : RowC iCells 1 w w.heap.size A4 ns) (hnw : ∀ x ∈ ns, in64 x) (hbig : longB rs ps = true ∨ (longB rs ps = false ∧ (300 < n2 ∨ (n2 ≤ 300 ∧ 2000 < n4)))) :
    Calls Try.prog 4 #[.slice A1 n1 c1, .slice A2 n2 c2, .slice A3 n3 c3, .slice A4 n4 c4] w fun e w' => e = .returned (.bool true) ∧ Below w.heap.size w w' := by
  have HN1 := Lib.hid hn1
  have HN2 := Lib.hid hn2
  have HN3 := Lib.hid hn3
  have HN4 := Lib.hid hn4
  have HM1 := Lib.hid hm1
  have HM3 := Lib.hid hm3
  have hz2 : n2 ≤ 9223372036854775807 := by unfold maxLen at hm2; omega
  have hz4 : n4 ≤ 9223372036854775807 := by unfold maxLen at hm4; omega
  have HR := Lib.hid hR
  have HC := Lib.hid hC
  have HCW := Lib.hid hcw
  have HP := Lib.hid hP
  have HPW := Lib.hid hpw
  have HNI := Lib.hid hI
  have HNW := Lib.hid hnw
  clear hn1 hn2 hn3 hn4 hm1 hm2 hm3 hm4 hR hC hcw hP hpw hI hnw
  rcases hbig with h | ⟨h, h3 | ⟨h3, h4⟩⟩
  · have HLG := Lib.hid h
    clear h
    go_enter Try.func4, Try.ntmps4
    go_wp2_with (first | (go_at_call 9; refine (alive_any _).mono ?_; rintro e w1 ⟨rfl, hb1⟩; have HB := Lib.hid hb1; clear hb1) | (go_at_call 14; refine (long_walk rs ps A1 A3 n1 c1 n3 c3 _ HN1.out HN3.out HM1.out HM3.out ((HR.out.below HB.out).more HB.out.size) ((HP.out.below HB.out).more HB.out.size) HPW.out).mono ?_; rw [HLG.out]; rintro e w' ⟨rfl, rfl⟩))
    go_ret
    exact ⟨rfl, HB.out⟩
  · have HLG := Lib.hid h
    clear h
    have hd2 : decide ((300 : Int) < (n2 : Int)) = true := decide_eq_true (by omega)
    go_enter Try.func4, Try.ntmps4
    go_wp2_with (first | (go_at_call 9; refine (alive_any _).mono ?_; rintro e w1 ⟨rfl, hb1⟩; have HB := Lib.hid hb1; clear hb1) | (go_at_call 14; refine (long_walk rs ps A1 A3 n1 c1 n3 c3 _ HN1.out HN3.out HM1.out HM3.out ((HR.out.below HB.out).more HB.out.size) ((HP.out.below HB.out).more HB.out.size) HPW.out).mono ?_; rw [HLG.out]; rintro e w' ⟨rfl, rfl⟩))
    go_ret
    exact ⟨rfl, HB.out⟩
  · have HLG := Lib.hid h
    clear h
    have hd2 : decide ((300 : Int) < (n2 : Int)) = false := decide_eq_false (by omega)
    have hd4 : decide ((2000 : Int) < (n4 : Int)) = true := decide_eq_true (by omega)
    go_enter Try.func4, Try.ntmps4
    go_wp2_with (first | (go_at_call 9; refine (alive_any _).mono ?_; rintro e w1 ⟨rfl, hb1⟩; have HB := Lib.hid hb1; clear hb1) | (go_at_call 14; refine (long_walk rs ps A1 A3 n1 c1 n3 c3 _ HN1.out HN3.out HM1.out HM3.out ((HR.out.below HB.out).more HB.out.size) ((HP.out.below HB.out).more HB.out.size) HPW.out).mono ?_; rw [HLG.out]; rintro e w' ⟨rfl, rfl⟩))
    go_ret
    exact ⟨rfl, HB.out⟩

set_option maxRecDepth 4000 in
set_option maxHeartbeats 4000000 in
theorem tells_name (rs : List Rw) (cs : List Co) (ps : List Pa) (ns : List Int) (A1 A2 A3 A4 : Option Addr) (n1 c1 n2 c2 n3 c3 n4 c4 : Nat) (w : World) (hn1 : n1 = rs.length) (hn2 : n2 = cs.length) (hn3 : n3 = ps.length) (hn4 : n4 = ns.length) (hm1 : n1 ≤ maxLen) (hm2 : n2 ≤ maxLen) (hm3 : n3 ≤ maxLen) (hm4 : n4 ≤ maxLen)
    (hR : RowsIn w w.heap.size A1 rs) (hC : RowC cCells 2 w w.heap.size A2 cs) (hcw : ∀ p ∈ cs, p.s.size ≤ maxLen) (hP : RowC pCells 2 w w.heap.size A3 ps) (hpw : ∀ p ∈ ps, p.s.size ≤ maxLen ∧ p.t.size ≤ maxLen) (hI : RowC iCells 1 w w.heap.size A4 ns) (hnw : ∀ x ∈ ns, in64 x) (hlg : longB rs ps = false) (h300 : n2 ≤ 300) (h2000 : n4 ≤ 2000) (hfar : ∃ c ∈ cs, 2000 < c.s.size) :
    Calls Try.prog 4 #[.slice A1 n1 c1, .slice A2 n2 c2, .slice A3 n3 c3, .slice A4 n4 c4] w fun e w' => e = .returned (.bool true) ∧ Below w.heap.size w w' := by
  have HN1 := Lib.hid hn1
  have HN2 := Lib.hid hn2
  have HN3 := Lib.hid hn3
  have HN4 := Lib.hid hn4
  have HM1 := Lib.hid hm1
  have HM3 := Lib.hid hm3
  have hz2 : n2 ≤ 9223372036854775807 := by unfold maxLen at hm2; omega
  have hz4 : n4 ≤ 9223372036854775807 := by unfold maxLen at hm4; omega
  have HR := Lib.hid hR
  have HC := Lib.hid hC
  have HCW := Lib.hid hcw
  have HP := Lib.hid hP
  have HPW := Lib.hid hpw
  have HNI := Lib.hid hI
  have HNW := Lib.hid hnw
  have HLG := Lib.hid hlg
  have hd2 : decide ((300 : Int) < (n2 : Int)) = false := decide_eq_false (by omega)
  have hd4 : decide ((2000 : Int) < (n4 : Int)) = false := decide_eq_false (by omega)
  have HF := Lib.hid hfar
  clear hn1 hn2 hn3 hn4 hm1 hm2 hm3 hm4 hR hC hcw hP hpw hI hnw hlg hfar
  go_enter Try.func4, Try.ntmps4
  go_wp2_with (first | (go_at_call 9; refine (alive_any _).mono ?_; rintro e w1 ⟨rfl, hb1⟩; have HB := Lib.hid hb1; clear hb1) | (go_at_call 14; refine (long_walk rs ps A1 A3 n1 c1 n3 c3 _ HN1.out HN3.out HM1.out HM3.out ((HR.out.below HB.out).more HB.out.size) ((HP.out.below HB.out).more HB.out.size) HPW.out).mono ?_; rw [HLG.out]; rintro e w' ⟨rfl, rfl⟩))
  go_loopw [9] (fun iv wr => ∃ k : Nat, k ≤ n2 ∧ iv = .int .i64 (k : Int) ∧ Hid (∀ j (h : j < cs.length), j < k → cs[j].s.size ≤ 2000) ∧ Hid (Below w.heap.size w wr)) (fun iv _ => n2 - (intOf iv).toNat)
  case atStart => exact ⟨0, Nat.zero_le _, rfl, Lib.hid (fun j _ h => by omega), HB⟩
  case round =>
    obtain ⟨k, hk, rfl, HK, HB⟩ := hrel
    by_cases hlt : k < n2
    · have hkl : k < cs.length := by rw [← HN2.out]; exact hlt
      obtain ⟨b, off, rfl, hB1, hc⟩ := (HC.out.below HB.out) k hkl
      have x0 := hc 0 _ rfl
      rw [Nat.add_zero] at x0
      have hsz := HCW.out _ (List.getElem_mem hkl)
      obtain ⟨x, hx⟩ : ∃ x, cs[k] = x := ⟨_, rfl⟩
      simp only [hx] at x0 hsz
      have hsz2 : x.s.size ≤ 9223372036854775807 := by unfold maxLen at hsz; omega
      have HX := Lib.hid hx
      clear hc hx hsz
      by_cases h2 : 2000 < x.s.size
      · have g0 : decide ((2000 : Int) < (x.s.size : Int)) = true := decide_eq_true (by omega)
        clear h2
        go_wp2
        go_ret
        exact ⟨rfl, HB.out⟩
      · have HK2 := Lib.hid (show ∀ j (h : j < cs.length), j < k + 1 → cs[j].s.size ≤ 2000 by
          intro j hj hjk
          by_cases e : j = k
          · subst e
            rw [HX.out]
            omega
          · exact HK.out j hj (by omega))
        have g0 : decide ((2000 : Int) < (x.s.size : Int)) = false := decide_eq_false (by omega)
        clear h2
        go_wp2
        go_roundw
        case rel => exact ⟨k + 1, by omega, by go_num, HK2, HB⟩
        case measure => simp [intOf]; omega
    · exfalso
      obtain ⟨c, hc, hfar⟩ := HF.out
      obtain ⟨j, hj, rfl⟩ := List.getElem_of_mem hc
      have := HK.out j hj (by rw [← HN2.out] at hj; omega)
      omega

set_option maxRecDepth 4000 in
set_option maxHeartbeats 4000000 in
theorem tells_all (rs : List Rw) (cs : List Co) (ps : List Pa) (ns : List Int) (A1 A2 A3 A4 : Option Addr) (n1 c1 n2 c2 n3 c3 n4 c4 : Nat) (w : World) (hn1 : n1 = rs.length) (hn2 : n2 = cs.length) (hn3 : n3 = ps.length) (hn4 : n4 = ns.length) (hm1 : n1 ≤ maxLen) (hm2 : n2 ≤ maxLen) (hm3 : n3 ≤ maxLen) (hm4 : n4 ≤ maxLen)
    (hR : RowsIn w w.heap.size A1 rs) (hC : RowC cCells 2 w w.heap.size A2 cs) (hcw : ∀ p ∈ cs, p.s.size ≤ maxLen) (hP : RowC pCells 2 w w.heap.size A3 ps) (hpw : ∀ p ∈ ps, p.s.size ≤ maxLen ∧ p.t.size ≤ maxLen) (hI : RowC iCells 1 w w.heap.size A4 ns) (hnw : ∀ x ∈ ns, in64 x) (hlg : longB rs ps = false) (h300 : n2 ≤ 300) (h2000 : n4 ≤ 2000) (hall : ∀ c ∈ cs, c.s.size ≤ 2000) :
    Calls Try.prog 4 #[.slice A1 n1 c1, .slice A2 n2 c2, .slice A3 n3 c3, .slice A4 n4 c4] w fun e w' => e = .returned (.bool true) ∧ Below w.heap.size w w' := by
  have HN1 := Lib.hid hn1
  have HN2 := Lib.hid hn2
  have HN3 := Lib.hid hn3
  have HN4 := Lib.hid hn4
  have HM1 := Lib.hid hm1
  have HM3 := Lib.hid hm3
  have hz2 : n2 ≤ 9223372036854775807 := by unfold maxLen at hm2; omega
  have hz4 : n4 ≤ 9223372036854775807 := by unfold maxLen at hm4; omega
  have HR := Lib.hid hR
  have HC := Lib.hid hC
  have HCW := Lib.hid hcw
  have HP := Lib.hid hP
  have HPW := Lib.hid hpw
  have HNI := Lib.hid hI
  have HNW := Lib.hid hnw
  have HLG := Lib.hid hlg
  have hd2 : decide ((300 : Int) < (n2 : Int)) = false := decide_eq_false (by omega)
  have hd4 : decide ((2000 : Int) < (n4 : Int)) = false := decide_eq_false (by omega)
  have hp3 := longB_parts hlg
  have HS1 := Lib.hid (show n1 ≤ 4096 by have := hp3.1; omega)
  have HS2 := Lib.hid (show n2 ≤ 1099511627776 by omega)
  have HS3 := Lib.hid (show n3 ≤ 1099511627776 by have := hp3.2.1; omega)
  have HS4 := Lib.hid (show n4 ≤ 1048576 by omega)
  have HPZ := Lib.hid (show ∀ p ∈ ps, p.s.size ≤ 274877906944 ∧ p.t.size ≤ 274877906944 from fun p hp => by have := hp3.2.2.2 p hp; omega)
  have HPT := Lib.hid (show (listL pairL ps).length ≤ 16777216 by
    have := listL_le (enc := pairL) (m := 4020) (l := ps) (by have := hp3.2.1; omega) (fun p hp => by
      have h := hp3.2.2.2 p hp
      have h1 := wordL_len (s := p.s) (by omega)
      have h2 := wordL_len (s := p.t) (by omega)
      unfold pairL
      rw [List.length_append]
      omega)
    have := hp3.2.1
    omega)
  have HCZ := Lib.hid (show ∀ p ∈ cs, p.s.size ≤ 274877906944 from fun p hp => by have := hall p hp; omega)
  have HCT := Lib.hid (cols_tot (by omega) hall)
  have HNT := Lib.hid (show (listL intL ns).length ≤ 16777216 by
    have := listL_le (enc := intL) (m := 10) (l := ns) (by omega) (fun a ha => intL_len (hnw a ha))
    omega)
  have HALL := Lib.hid hall
  clear hn1 hn2 hn3 hn4 hm1 hm2 hm3 hm4 hR hC hcw hP hpw hI hnw hlg hall hp3
  go_enter Try.func4, Try.ntmps4
  go_wp2_with (first | (go_at_call 9; refine (alive_any _).mono ?_; rintro e w1 ⟨rfl, hb1⟩; have HB := Lib.hid hb1; clear hb1) | (go_at_call 14; refine (long_walk rs ps A1 A3 n1 c1 n3 c3 _ HN1.out HN3.out HM1.out HM3.out ((HR.out.below HB.out).more HB.out.size) ((HP.out.below HB.out).more HB.out.size) HPW.out).mono ?_; rw [HLG.out]; rintro e w' ⟨rfl, rfl⟩))
  go_loopw [9] (fun iv wr => ∃ k : Nat, k ≤ n2 ∧ iv = .int .i64 (k : Int) ∧ Hid (∀ j (h : j < cs.length), j < k → cs[j].s.size ≤ 2000) ∧ Hid (Below w.heap.size w wr)) (fun iv _ => n2 - (intOf iv).toNat)
  case atStart => exact ⟨0, Nat.zero_le _, rfl, Lib.hid (fun j _ h => by omega), HB⟩
  case round =>
    obtain ⟨k, hk, rfl, HK, HB⟩ := hrel
    by_cases hlt : k < n2
    · have hkl : k < cs.length := by rw [← HN2.out]; exact hlt
      obtain ⟨b, off, rfl, hB1, hc⟩ := (HC.out.below HB.out) k hkl
      have x0 := hc 0 _ rfl
      rw [Nat.add_zero] at x0
      have hsz := HCW.out _ (List.getElem_mem hkl)
      obtain ⟨x, hx⟩ : ∃ x, cs[k] = x := ⟨_, rfl⟩
      simp only [hx] at x0 hsz
      have hsz2 : x.s.size ≤ 9223372036854775807 := by unfold maxLen at hsz; omega
      have HX := Lib.hid hx
      clear hc hx hsz
      have h2 : ¬ 2000 < x.s.size := by have := HALL.out x (by rw [← HX.out]; exact List.getElem_mem hkl); omega
      have HK2 := Lib.hid (show ∀ j (h : j < cs.length), j < k + 1 → cs[j].s.size ≤ 2000 by
        intro j hj hjk
        by_cases e : j = k
        · subst e
          rw [HX.out]
          omega
        · exact HK.out j hj (by omega))
      have g0 : decide ((2000 : Int) < (x.s.size : Int)) = false := decide_eq_false (by omega)
      clear h2
      go_wp2
      go_roundw
      case rel => exact ⟨k + 1, by omega, by go_num, HK2, HB⟩
      case measure => simp [intOf]; omega
    · go_wp2_with (first | (go_at_call 17; refine (told_walk (bsO (some (listL intL ns))) A8 n8 c8 (erO (some (listL intL ns))) _ HNN8.out HAT8.out).mono ?_; rintro e w' ⟨rfl, rfl⟩) | (go_at_call 23; refine (pnums_walk ns HNW.out HNT.out A4 n4 c4 _ HN4.out HS4.out ((HNI.out.below HB.out).more HB.out.size)).mono ?_; intro e w18 hp; obtain ⟨rfl, hbel⟩ := rtellU hp; have HAT8 := Lib.hid ((HAT8.out.below hbel).more hbel.size); have HB := Lib.hid (hop HB.out hbel); clear hp hbel) | (go_at_call 22; refine (nums_walk ns HNW.out A4 n4 c4 _ HN4.out HS4.out ((HNI.out.below HB.out).more HB.out.size)).mono ?_; intro e w8 hp; obtain ⟨A8, n8, c8, rfl, hn, hat, hbel⟩ := tellU hp; have HNN8 := Lib.hid hn; have HAT8 := Lib.hid hat; have HB := Lib.hid (hop HB.out hbel); clear hp hn hat hbel) | (go_at_call 17; refine (told_walk (bsO (some (listL pairL ps))) A7 n7 c7 (erO (some (listL pairL ps))) _ HNN7.out HAT7.out).mono ?_; rintro e w' ⟨rfl, rfl⟩) | (go_at_call 21; refine (ppairs_walk ps HPZ.out HPT.out A3 n3 c3 _ HN3.out HS3.out ((HP.out.below HB.out).more HB.out.size)).mono ?_; intro e w17 hp; obtain ⟨rfl, hbel⟩ := rtellU hp; have HAT7 := Lib.hid ((HAT7.out.below hbel).more hbel.size); have HB := Lib.hid (hop HB.out hbel); clear hp hbel) | (go_at_call 20; refine (pairs_walk ps HPZ.out HPT.out A3 n3 c3 _ HN3.out HS3.out ((HP.out.below HB.out).more HB.out.size)).mono ?_; intro e w7 hp; obtain ⟨A7, n7, c7, rfl, hn, hat, hbel⟩ := tellU hp; have HNN7 := Lib.hid hn; have HAT7 := Lib.hid hat; have HB := Lib.hid (hop HB.out hbel); clear hp hn hat hbel) | (go_at_call 17; refine (told_walk (bsO (colsO cs)) A6 n6 c6 (erO (colsO cs)) _ HNN6.out HAT6.out).mono ?_; rintro e w' ⟨rfl, rfl⟩) | (go_at_call 19; refine (pcols_walk cs HCZ.out HCT.out A2 n2 c2 _ HN2.out HS2.out ((HC.out.below HB.out).more HB.out.size)).mono ?_; intro e w16 hp; obtain ⟨rfl, hbel⟩ := rtellU hp; have HAT6 := Lib.hid ((HAT6.out.below hbel).more hbel.size); have HB := Lib.hid (hop HB.out hbel); clear hp hbel) | (go_at_call 18; refine (cols_walk cs HCZ.out HCT.out A2 n2 c2 _ HN2.out HS2.out ((HC.out.below HB.out).more HB.out.size)).mono ?_; intro e w6 hp; obtain ⟨A6, n6, c6, rfl, hn, hat, hbel⟩ := tellU hp; have HNN6 := Lib.hid hn; have HAT6 := Lib.hid hat; have HB := Lib.hid (hop HB.out hbel); clear hp hn hat hbel) | (go_at_call 17; refine (told_walk (bsO (rowsO rs)) A5 n5 c5 (erO (rowsO rs)) _ HNN5.out HAT5.out).mono ?_; rintro e w' ⟨rfl, rfl⟩) | (go_at_call 16; refine (prows_walk rs A1 n1 c1 _ HN1.out HS1.out ((HR.out.below HB.out).more HB.out.size)).mono ?_; intro e w15 hp; obtain ⟨rfl, hbel⟩ := rtellU hp; have HAT5 := Lib.hid ((HAT5.out.below hbel).more hbel.size); have HB := Lib.hid (hop HB.out hbel); clear hp hbel) | (go_at_call 15; refine (rows_walk rs A1 n1 c1 _ HN1.out HS1.out ((HR.out.below HB.out).more HB.out.size)).mono ?_; intro e w5 hp; obtain ⟨A5, n5, c5, rfl, hn, hat, hbel⟩ := tellU hp; have HNN5 := Lib.hid hn; have HAT5 := Lib.hid hat; have HB := Lib.hid (hop HB.out hbel); clear hp hn hat hbel))
      go_ret
      exact ⟨rfl, HB.out⟩

theorem codetells_walk (rs : List Rw) (cs : List Co) (ps : List Pa) (ns : List Int) (A1 A2 A3 A4 : Option Addr) (n1 c1 n2 c2 n3 c3 n4 c4 : Nat) (w : World) (hn1 : n1 = rs.length) (hn2 : n2 = cs.length) (hn3 : n3 = ps.length) (hn4 : n4 = ns.length) (hm1 : n1 ≤ maxLen) (hm2 : n2 ≤ maxLen) (hm3 : n3 ≤ maxLen) (hm4 : n4 ≤ maxLen)
    (hR : RowsIn w w.heap.size A1 rs) (hC : RowC cCells 2 w w.heap.size A2 cs) (hcw : ∀ p ∈ cs, p.s.size ≤ maxLen) (hP : RowC pCells 2 w w.heap.size A3 ps) (hpw : ∀ p ∈ ps, p.s.size ≤ maxLen ∧ p.t.size ≤ maxLen) (hI : RowC iCells 1 w w.heap.size A4 ns) (hnw : ∀ x ∈ ns, in64 x) :
    Calls Try.prog 4 #[.slice A1 n1 c1, .slice A2 n2 c2, .slice A3 n3 c3, .slice A4 n4 c4] w fun e w' => e = .returned (.bool true) ∧ Below w.heap.size w w' := by
  by_cases hlg : longB rs ps = true
  · exact tells_big rs cs ps ns A1 A2 A3 A4 n1 c1 n2 c2 n3 c3 n4 c4 w hn1 hn2 hn3 hn4 hm1 hm2 hm3 hm4 hR hC hcw hP hpw hI hnw (.inl hlg)
  · have hlg' : longB rs ps = false := by simpa using hlg
    by_cases h2 : 300 < n2
    · exact tells_big rs cs ps ns A1 A2 A3 A4 n1 c1 n2 c2 n3 c3 n4 c4 w hn1 hn2 hn3 hn4 hm1 hm2 hm3 hm4 hR hC hcw hP hpw hI hnw (.inr ⟨hlg', .inl h2⟩)
    · by_cases h4 : 2000 < n4
      · exact tells_big rs cs ps ns A1 A2 A3 A4 n1 c1 n2 c2 n3 c3 n4 c4 w hn1 hn2 hn3 hn4 hm1 hm2 hm3 hm4 hR hC hcw hP hpw hI hnw (.inr ⟨hlg', .inr ⟨by omega, h4⟩⟩)
      · by_cases hall : ∀ c ∈ cs, c.s.size ≤ 2000
        · exact tells_all rs cs ps ns A1 A2 A3 A4 n1 c1 n2 c2 n3 c3 n4 c4 w hn1 hn2 hn3 hn4 hm1 hm2 hm3 hm4 hR hC hcw hP hpw hI hnw hlg' (by omega) (by omega) hall
        · exact tells_name rs cs ps ns A1 A2 A3 A4 n1 c1 n2 c2 n3 c3 n4 c4 w hn1 hn2 hn3 hn4 hm1 hm2 hm3 hm4 hR hC hcw hP hpw hI hnw hlg' (by omega) (by omega) (by
            apply Classical.byContradiction
            intro hno
            refine hall (fun c hc => ?_)
            apply Classical.byContradiction
            intro h5
            exact hno ⟨c, hc, by omega⟩)
end Go.Proofs.Ytkpajmgbiepmbaa
