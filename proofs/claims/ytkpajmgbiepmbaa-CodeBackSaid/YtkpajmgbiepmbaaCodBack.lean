/- The walk of the law that what is told as bytes is told back. -/
import Derived.Test.YtkpajmgbiepmbaaCodSame
import Derived.Test.YtkpajmgbiepmbaaCodOnly
namespace Go.Proofs.Ytkpajmgbiepmbaa
open Go.ChangeShapes Go.WideShapes Go.ChangeAt Go.RowKit
open Go.Lib (byteCells byteCells_length byteCells_append strCells)
set_option linter.unusedVariables false

theorem Buf.cap {B : Nat} {A : Option Addr} {n c : Nat} {bs : List UInt8} {w : World} (h : Buf B A n c bs w) : n ≤ c ∧ c ≤ maxLen := by
  rcases h.2.2.2 with ⟨hv, h0⟩ | ⟨g, cap, cur, hv, _, _, h1, h2, _⟩
  · injection hv with _ _ h3
    exact ⟨by omega, by rw [h3]; decide⟩
  · injection hv with _ _ h3
    exact ⟨by omega, by omega⟩
theorem pairs_tot {ps : List Pa} (hl : ps.length ≤ 300) (h : ∀ p ∈ ps, p.s.size ≤ 2000 ∧ p.t.size ≤ 2000) : (listL pairL ps).length ≤ 16777216 := by
  have := listL_le (enc := pairL) (m := 4020) (l := ps) (by omega) (fun p hp => by
    have h1 := wordL_len (s := p.s) (by have := (h p hp).1; omega)
    have h2 := wordL_len (s := p.t) (by have := (h p hp).2; omega)
    have := h p hp
    unfold pairL
    rw [List.length_append]
    omega)
  omega
theorem back_rows {rs : List Rw} {bs : List UInt8} (h : rowsO rs = some bs) (hw : ∀ r ∈ rs, ∀ v ∈ r.l, v.wf) (hl : rs.length ≤ 300) : whole rRow bs = some (rs.map Rw.l) ∧ bs.length ≤ 16777216 ∧ ∀ r ∈ rs, okR r.l := by
  unfold rowsO at h
  split at h
  · rename_i ha
    injection h with h
    have hok : ∀ r ∈ rs, okR r.l := fun r hr => okR_of (List.all_eq_true.1 ha r hr) (hw r hr)
    subst h
    refine ⟨?_, ?_, hok⟩
    · rw [rows_list rfl]
      exact whole_back row_codec (by rw [List.length_map]; omega) (fun l hl => by
        obtain ⟨r, hr, rfl⟩ := List.mem_map.1 hl
        exact hok r hr)
    · have := listL_le (enc := rwL) (m := 2542) (l := rs) (by omega) (fun a ha => rowL_len (hok a ha))
      omega
  · cases h

set_option maxRecDepth 4000 in
set_option maxHeartbeats 4000000 in
theorem back_big (rs : List Rw) (ps : List Pa) (ns : List Int) (A1 A2 A3 : Option Addr) (n1 c1 n2 c2 n3 c3 : Nat) (w : World) (hn1 : n1 = rs.length) (hn2 : n2 = ps.length) (hn3 : n3 = ns.length) (hm1 : n1 ≤ maxLen) (hm2 : n2 ≤ maxLen) (hm3 : n3 ≤ maxLen)
    (hR : RowsIn w w.heap.size A1 rs) (hP : RowC pCells 2 w w.heap.size A2 ps) (hpw : ∀ p ∈ ps, p.s.size ≤ maxLen ∧ p.t.size ≤ maxLen) (hI : RowC iCells 1 w w.heap.size A3 ns) (hnw : ∀ x ∈ ns, in64 x) (hbig : longB rs ps = true ∨ (longB rs ps = false ∧ 2000 < n3)) :
    Calls Try.prog 6 #[.slice A1 n1 c1, .slice A2 n2 c2, .slice A3 n3 c3] w fun e w' => e = .returned (.bool true) ∧ Below w.heap.size w w' := by
  have HN1 := Lib.hid hn1
  have HN2 := Lib.hid hn2
  have HN3 := Lib.hid hn3
  have HM1 := Lib.hid hm1
  have HM2 := Lib.hid hm2
  have hz3 : n3 ≤ 9223372036854775807 := by unfold maxLen at hm3; omega
  have HR := Lib.hid hR
  have HP := Lib.hid hP
  have HPW := Lib.hid hpw
  have HNI := Lib.hid hI
  have HNW := Lib.hid hnw
  clear hn1 hn2 hn3 hm1 hm2 hm3 hR hP hpw hI hnw
  rcases hbig with h | ⟨h, h3⟩
  · have HLG := Lib.hid h
    clear h
    go_enter Try.func6, Try.ntmps6
    go_wp2_with (first | (go_at_call 9; refine (alive_any _).mono ?_; rintro e w1 ⟨rfl, hb1⟩; have HB := Lib.hid hb1; clear hb1) | (go_at_call 14; refine (long_walk rs ps A1 A2 n1 c1 n2 c2 _ HN1.out HN2.out HM1.out HM2.out ((HR.out.below HB.out).more HB.out.size) ((HP.out.below HB.out).more HB.out.size) HPW.out).mono ?_; rw [HLG.out]; rintro e w' ⟨rfl, rfl⟩))
    go_ret
    exact ⟨rfl, HB.out⟩
  · have HLG := Lib.hid h
    clear h
    have hd3 : decide ((2000 : Int) < (n3 : Int)) = true := decide_eq_true (by omega)
    go_enter Try.func6, Try.ntmps6
    go_wp2_with (first | (go_at_call 9; refine (alive_any _).mono ?_; rintro e w1 ⟨rfl, hb1⟩; have HB := Lib.hid hb1; clear hb1) | (go_at_call 14; refine (long_walk rs ps A1 A2 n1 c1 n2 c2 _ HN1.out HN2.out HM1.out HM2.out ((HR.out.below HB.out).more HB.out.size) ((HP.out.below HB.out).more HB.out.size) HPW.out).mono ?_; rw [HLG.out]; rintro e w' ⟨rfl, rfl⟩))
    go_ret
    exact ⟨rfl, HB.out⟩

set_option maxRecDepth 4000 in
set_option maxHeartbeats 4000000 in
theorem back_none (rs : List Rw) (ps : List Pa) (ns : List Int) (A1 A2 A3 : Option Addr) (n1 c1 n2 c2 n3 c3 : Nat) (w : World) (hn1 : n1 = rs.length) (hn2 : n2 = ps.length) (hn3 : n3 = ns.length) (hm1 : n1 ≤ maxLen) (hm2 : n2 ≤ maxLen) (hm3 : n3 ≤ maxLen)
    (hR : RowsIn w w.heap.size A1 rs) (hP : RowC pCells 2 w w.heap.size A2 ps) (hpw : ∀ p ∈ ps, p.s.size ≤ maxLen ∧ p.t.size ≤ maxLen) (hI : RowC iCells 1 w w.heap.size A3 ns) (hnw : ∀ x ∈ ns, in64 x) (hlg : longB rs ps = false) (h2000 : n3 ≤ 2000) (hro : rowsO rs = none) :
    Calls Try.prog 6 #[.slice A1 n1 c1, .slice A2 n2 c2, .slice A3 n3 c3] w fun e w' => e = .returned (.bool true) ∧ Below w.heap.size w w' := by
  have HN1 := Lib.hid hn1
  have HN2 := Lib.hid hn2
  have HN3 := Lib.hid hn3
  have HM1 := Lib.hid hm1
  have HM2 := Lib.hid hm2
  have hz3 : n3 ≤ 9223372036854775807 := by unfold maxLen at hm3; omega
  have HR := Lib.hid hR
  have HP := Lib.hid hP
  have HPW := Lib.hid hpw
  have HNI := Lib.hid hI
  have HNW := Lib.hid hnw
  have hp3 := longB_parts hlg
  have HLG := Lib.hid hlg
  have HS1 := Lib.hid (show n1 ≤ 4096 by have := hp3.1; omega)
  have HS2 := Lib.hid (show n2 ≤ 300 by have := hp3.2.1; omega)
  have HS3 := Lib.hid h2000
  have HPZ := Lib.hid (show ∀ p ∈ ps, p.s.size ≤ 274877906944 ∧ p.t.size ≤ 274877906944 from fun p hp => by have := hp3.2.2.2 p hp; omega)
  have HPT := Lib.hid (pairs_tot hp3.2.1 hp3.2.2.2)
  have HPB := Lib.hid (show whole rPair (listL pairL ps) = some ps from whole_back pair_codec (by have := hp3.2.1; omega) (fun p hp => by have := hp3.2.2.2 p hp; exact ⟨by omega, by omega⟩))
  have HNT := Lib.hid (show (listL intL ns).length ≤ 16777216 by
    have := listL_le (enc := intL) (m := 10) (l := ns) (by omega) (fun a ha => intL_len (hnw a ha))
    omega)
  have HNB := Lib.hid (show whole rInt (listL intL ns) = some ns from whole_back int_codec (by rw [← hn3]; omega) hnw)
  have hd3 : decide ((2000 : Int) < (n3 : Int)) = false := decide_eq_false (by omega)
  have e2 : ((ps.length : Int) != (n2 : Int)) = false := by rw [← hn2]; simp
  have e3 : ((ns.length : Int) != (n3 : Int)) = false := by rw [← hn3]; simp
  have e2' : (ps.length != n2) = false := by rw [← hn2]; simp
  have e3' : (ns.length != n3) = false := by rw [← hn3]; simp
  have HRO := Lib.hid hro
  clear hn1 hn2 hn3 hm1 hm2 hm3 hR hP hpw hI hnw hlg h2000 hp3 hro
  go_enter Try.func6, Try.ntmps6
  go_wp2_with (first | (go_at_call 9; refine (alive_any _).mono ?_; rintro e w1 ⟨rfl, hb1⟩; have HB := Lib.hid hb1; clear hb1) | (go_at_call 14; refine (long_walk rs ps A1 A2 n1 c1 n2 c2 _ HN1.out HN2.out HM1.out HM2.out ((HR.out.below HB.out).more HB.out.size) ((HP.out.below HB.out).more HB.out.size) HPW.out).mono ?_; rw [HLG.out]; rintro e w' ⟨rfl, rfl⟩) | (go_at_call 15; refine (rows_walk rs A1 n1 c1 _ HN1.out HS1.out ((HR.out.below HB.out).more HB.out.size)).mono ?_; rw [HRO.out]; rintro e w2 ⟨rfl, hbel⟩; have HB := Lib.hid (hop HB.out hbel); clear hbel) | (go_at_call 20; refine (pairs_walk ps HPZ.out HPT.out A2 n2 c2 _ HN2.out (by have := HS2.out; omega) ((HP.out.below HB.out).more HB.out.size)).mono ?_; rintro e w5 ⟨A6, n6, c6, rfl, hb6, hbel⟩; have HB6 := Lib.hid hb6; have HB := Lib.hid (hop HB.out hbel); clear hb6 hbel) | (go_at_call 26; refine (unpairs_walk (listL pairL ps) A6 n6 c6 _ HB6.out.1 HB6.out.cap.1 HB6.out.cap.2 (by have h1 := HB6.out.1; have h2 := HPT.out; omega) (BytesAt.buf HB6.out)).mono ?_; rw [HPB.out]; rintro e w6 ⟨A7, c7, rfl, ho7, hbel⟩; have HI7 := Lib.hid (RowC.own pCells_length (by decide) ho7).2; have HB := Lib.hid (hop HB.out hbel); clear ho7 hbel) | (go_at_call 22; refine (nums_walk ns HNW.out A3 n3 c3 _ HN3.out (by have := HS3.out; omega) ((HNI.out.below HB.out).more HB.out.size)).mono ?_; rintro e w7 ⟨A8, n8, c8, rfl, hb8, hbel⟩; have HB8 := Lib.hid hb8; have HI7 := Lib.hid ((HI7.out.below hbel).more hbel.size); have HB := Lib.hid (hop HB.out hbel); clear hb8 hbel) | (go_at_call 27; refine (unnums_walk (listL intL ns) A8 n8 c8 _ HB8.out.1 HB8.out.cap.1 HB8.out.cap.2 (by have h1 := HB8.out.1; have h2 := HNT.out; omega) (BytesAt.buf HB8.out)).mono ?_; rw [HNB.out]; rintro e w8 ⟨A9, c9, rfl, ho9, hbel⟩; have HI9 := Lib.hid (RowC.own iCells_length (by decide) ho9).2; have HI7 := Lib.hid ((HI7.out.below hbel).more hbel.size); have HB := Lib.hid (hop HB.out hbel); clear ho9 hbel))
  clear e2 e3 e2' e3'
  have hz2 := HS2.out
  obtain ⟨W, HW⟩ : ∃ W, Hid (W = w8) := ⟨_, Lib.hid rfl⟩
  have HP8 := Lib.hid ((HP.out.below HB.out).more HB.out.size)
  have HN8 := Lib.hid ((HNI.out.below HB.out).more HB.out.size)
  go_loopw [17] (fun iv wr => ∃ k : Nat, k ≤ n2 ∧ iv = .int .i64 (k : Int) ∧ Hid (Below w8.heap.size w8 wr)) (fun iv _ => n2 - (intOf iv).toNat)
  case atStart => exact ⟨0, Nat.zero_le _, rfl, Lib.hid (Below.refl _ _)⟩
  case round =>
    obtain ⟨k, hk, rfl, HBel⟩ := hrel
    by_cases hlt : k < n2
    · have hkl : k < ps.length := by rw [← HN2.out]; exact hlt
      obtain ⟨b, off, rfl, hB1, hc⟩ := (HP8.out.below HBel.out) k hkl
      obtain ⟨b2, off2, rfl, hB2, hc2⟩ := (HI7.out.below HBel.out) k hkl
      have x0 := hc 0 _ rfl
      have x1 := hc 1 _ rfl
      have y0 := hc2 0 _ rfl
      have y1 := hc2 1 _ rfl
      rw [Nat.add_zero] at x0 y0
      obtain ⟨x, hx⟩ : ∃ x, ps[k] = x := ⟨_, rfl⟩
      simp only [hx] at x0 x1 y0 y1
      have i1 : (0 : Int) ≤ (k : Int) := by omega
      have i2 : (k : Int) < (n2 : Int) := by omega
      have i3 : (k : Int) < (ps.length : Int) := by omega
      clear hc hc2 hx
      go_wp2_with fail
      go_region
      all_goals
        go_wp2
        go_roundw
        case rel => exact ⟨k + 1, by omega, by go_num, Lib.hid HBel.out.drew⟩
        case measure => simp [intOf]; omega
    · go_wp2
      obtain ⟨wr1, HW1⟩ : ∃ x, Hid (x = wr) := ⟨_, Lib.hid rfl⟩
      go_loopw [18] (fun iv wr => ∃ k : Nat, k ≤ n3 ∧ iv = .int .i64 (k : Int) ∧ Hid (Below w8.heap.size w8 wr)) (fun iv _ => n3 - (intOf iv).toNat)
      case atStart => exact ⟨0, Nat.zero_le _, rfl, HBel⟩
      case round =>
        obtain ⟨k', hk', rfl, HBel'⟩ := hrel
        by_cases hlt' : k' < n3
        · have hkl : k' < ns.length := by rw [← HN3.out]; exact hlt'
          obtain ⟨b, off, rfl, hB1, hc⟩ := (HN8.out.below HBel'.out) k' hkl
          obtain ⟨b2, off2, rfl, hB2, hc2⟩ := (HI9.out.below HBel'.out) k' hkl
          have x0 := hc 0 _ rfl
          have y0 := hc2 0 _ rfl
          rw [Nat.mul_one, Nat.add_zero] at x0 y0
          obtain ⟨x, hx⟩ : ∃ x, ns[k'] = x := ⟨_, rfl⟩
          simp only [hx] at x0 y0
          have i1 : (0 : Int) ≤ (k' : Int) := by omega
          have i2 : (k' : Int) < (n3 : Int) := by omega
          have i3 : (k' : Int) < (ns.length : Int) := by omega
          clear hc hc2 hx
          go_wp2_with fail
          go_region
          all_goals
            go_wp2
            go_roundw
            case rel => exact ⟨k' + 1, by omega, by go_num, Lib.hid HBel'.out.drew⟩
            case measure => simp [intOf]; omega
        · go_wp2
          go_ret
          exact ⟨rfl, HB.out.trans (HBel'.out.mono HB.out.size)⟩

set_option maxRecDepth 4000 in
set_option maxHeartbeats 4000000 in
theorem back_some (rs : List Rw) (ps : List Pa) (ns : List Int) (A1 A2 A3 : Option Addr) (n1 c1 n2 c2 n3 c3 : Nat) (w : World) (hn1 : n1 = rs.length) (hn2 : n2 = ps.length) (hn3 : n3 = ns.length) (hm1 : n1 ≤ maxLen) (hm2 : n2 ≤ maxLen) (hm3 : n3 ≤ maxLen)
    (hR : RowsIn w w.heap.size A1 rs) (hP : RowC pCells 2 w w.heap.size A2 ps) (hpw : ∀ p ∈ ps, p.s.size ≤ maxLen ∧ p.t.size ≤ maxLen) (hI : RowC iCells 1 w w.heap.size A3 ns) (hnw : ∀ x ∈ ns, in64 x) (hlg : longB rs ps = false) (h2000 : n3 ≤ 2000) (bs : List UInt8) (hro : rowsO rs = some bs) :
    Calls Try.prog 6 #[.slice A1 n1 c1, .slice A2 n2 c2, .slice A3 n3 c3] w fun e w' => e = .returned (.bool true) ∧ Below w.heap.size w w' := by
  have HN1 := Lib.hid hn1
  have HN2 := Lib.hid hn2
  have HN3 := Lib.hid hn3
  have HM1 := Lib.hid hm1
  have HM2 := Lib.hid hm2
  have hz3 : n3 ≤ 9223372036854775807 := by unfold maxLen at hm3; omega
  have HR := Lib.hid hR
  have HP := Lib.hid hP
  have HPW := Lib.hid hpw
  have HNI := Lib.hid hI
  have HNW := Lib.hid hnw
  have hp3 := longB_parts hlg
  have HLG := Lib.hid hlg
  have HS1 := Lib.hid (show n1 ≤ 4096 by have := hp3.1; omega)
  have HS2 := Lib.hid (show n2 ≤ 300 by have := hp3.2.1; omega)
  have HS3 := Lib.hid h2000
  have HPZ := Lib.hid (show ∀ p ∈ ps, p.s.size ≤ 274877906944 ∧ p.t.size ≤ 274877906944 from fun p hp => by have := hp3.2.2.2 p hp; omega)
  have HPT := Lib.hid (pairs_tot hp3.2.1 hp3.2.2.2)
  have HPB := Lib.hid (show whole rPair (listL pairL ps) = some ps from whole_back pair_codec (by have := hp3.2.1; omega) (fun p hp => by have := hp3.2.2.2 p hp; exact ⟨by omega, by omega⟩))
  have HNT := Lib.hid (show (listL intL ns).length ≤ 16777216 by
    have := listL_le (enc := intL) (m := 10) (l := ns) (by omega) (fun a ha => intL_len (hnw a ha))
    omega)
  have HNB := Lib.hid (show whole rInt (listL intL ns) = some ns from whole_back int_codec (by rw [← hn3]; omega) hnw)
  have hd3 : decide ((2000 : Int) < (n3 : Int)) = false := decide_eq_false (by omega)
  have e2 : ((ps.length : Int) != (n2 : Int)) = false := by rw [← hn2]; simp
  have e3 : ((ns.length : Int) != (n3 : Int)) = false := by rw [← hn3]; simp
  have e2' : (ps.length != n2) = false := by rw [← hn2]; simp
  have e3' : (ns.length != n3) = false := by rw [← hn3]; simp
  have HRO := Lib.hid hro
  have HBK := Lib.hid (back_rows hro (fun r hr => (hR.2 r hr).2.1) hp3.1)
  clear hn1 hn2 hn3 hm1 hm2 hm3 hR hP hpw hI hnw hlg h2000 hp3 hro
  go_enter Try.func6, Try.ntmps6
  go_wp2_with (first | (go_at_call 9; refine (alive_any _).mono ?_; rintro e w1 ⟨rfl, hb1⟩; have HB := Lib.hid hb1; clear hb1) | (go_at_call 14; refine (long_walk rs ps A1 A2 n1 c1 n2 c2 _ HN1.out HN2.out HM1.out HM2.out ((HR.out.below HB.out).more HB.out.size) ((HP.out.below HB.out).more HB.out.size) HPW.out).mono ?_; rw [HLG.out]; rintro e w' ⟨rfl, rfl⟩) | (go_at_call 15; refine (rows_walk rs A1 n1 c1 _ HN1.out HS1.out ((HR.out.below HB.out).more HB.out.size)).mono ?_; rw [HRO.out]; rintro e w2 ⟨A4, n4, c4, rfl, hb4, hbel⟩; have HB4 := Lib.hid hb4; have HB := Lib.hid (hop HB.out hbel); clear hb4 hbel) | (go_at_call 24; refine (unrows_walk bs A4 n4 c4 _ HB4.out.1 HB4.out.cap.1 HB4.out.cap.2 (by have h1 := HB4.out.1; have h2 := HBK.out.2.1; omega) (BytesAt.buf HB4.out)).mono ?_; rw [HBK.out.1]; rintro e w3 ⟨qs, A5, c5, hqs, rfl, ho5, hos5, hbel⟩; have HQS := Lib.hid hqs; have HQI := Lib.hid (rows_in (fun r hr => (by have h3 : r.l ∈ rs.map Rw.l := (by rw [← hqs]; exact List.mem_map_of_mem hr); obtain ⟨x, hx, he⟩ := List.mem_map.1 h3; rw [← he]; exact HBK.out.2.2 x hx)) ho5 hos5); have HB := Lib.hid (hop HB.out hbel); clear hqs ho5 hos5 hbel) | (go_at_call 32; refine (rrows_same rs qs A1 A5 n1 c1 _ c5 _ HN1.out rfl HM1.out HQS.out.symm ((HR.out.below HB.out).more HB.out.size) HQI.out).mono ?_; rintro e w4 ⟨rfl, hbel⟩; have HB := Lib.hid (hop HB.out hbel); clear hbel) | (go_at_call 20; refine (pairs_walk ps HPZ.out HPT.out A2 n2 c2 _ HN2.out (by have := HS2.out; omega) ((HP.out.below HB.out).more HB.out.size)).mono ?_; rintro e w5 ⟨A6, n6, c6, rfl, hb6, hbel⟩; have HB6 := Lib.hid hb6; have HB := Lib.hid (hop HB.out hbel); clear hb6 hbel) | (go_at_call 26; refine (unpairs_walk (listL pairL ps) A6 n6 c6 _ HB6.out.1 HB6.out.cap.1 HB6.out.cap.2 (by have h1 := HB6.out.1; have h2 := HPT.out; omega) (BytesAt.buf HB6.out)).mono ?_; rw [HPB.out]; rintro e w6 ⟨A7, c7, rfl, ho7, hbel⟩; have HI7 := Lib.hid (RowC.own pCells_length (by decide) ho7).2; have HB := Lib.hid (hop HB.out hbel); clear ho7 hbel) | (go_at_call 22; refine (nums_walk ns HNW.out A3 n3 c3 _ HN3.out (by have := HS3.out; omega) ((HNI.out.below HB.out).more HB.out.size)).mono ?_; rintro e w7 ⟨A8, n8, c8, rfl, hb8, hbel⟩; have HB8 := Lib.hid hb8; have HI7 := Lib.hid ((HI7.out.below hbel).more hbel.size); have HB := Lib.hid (hop HB.out hbel); clear hb8 hbel) | (go_at_call 27; refine (unnums_walk (listL intL ns) A8 n8 c8 _ HB8.out.1 HB8.out.cap.1 HB8.out.cap.2 (by have h1 := HB8.out.1; have h2 := HNT.out; omega) (BytesAt.buf HB8.out)).mono ?_; rw [HNB.out]; rintro e w8 ⟨A9, c9, rfl, ho9, hbel⟩; have HI9 := Lib.hid (RowC.own iCells_length (by decide) ho9).2; have HI7 := Lib.hid ((HI7.out.below hbel).more hbel.size); have HB := Lib.hid (hop HB.out hbel); clear ho9 hbel))
  clear e2 e3 e2' e3'
  have hz2 := HS2.out
  obtain ⟨W, HW⟩ : ∃ W, Hid (W = w8) := ⟨_, Lib.hid rfl⟩
  have HP8 := Lib.hid ((HP.out.below HB.out).more HB.out.size)
  have HN8 := Lib.hid ((HNI.out.below HB.out).more HB.out.size)
  go_loopw [17] (fun iv wr => ∃ k : Nat, k ≤ n2 ∧ iv = .int .i64 (k : Int) ∧ Hid (Below w8.heap.size w8 wr)) (fun iv _ => n2 - (intOf iv).toNat)
  case atStart => exact ⟨0, Nat.zero_le _, rfl, Lib.hid (Below.refl _ _)⟩
  case round =>
    obtain ⟨k, hk, rfl, HBel⟩ := hrel
    by_cases hlt : k < n2
    · have hkl : k < ps.length := by rw [← HN2.out]; exact hlt
      obtain ⟨b, off, rfl, hB1, hc⟩ := (HP8.out.below HBel.out) k hkl
      obtain ⟨b2, off2, rfl, hB2, hc2⟩ := (HI7.out.below HBel.out) k hkl
      have x0 := hc 0 _ rfl
      have x1 := hc 1 _ rfl
      have y0 := hc2 0 _ rfl
      have y1 := hc2 1 _ rfl
      rw [Nat.add_zero] at x0 y0
      obtain ⟨x, hx⟩ : ∃ x, ps[k] = x := ⟨_, rfl⟩
      simp only [hx] at x0 x1 y0 y1
      have i1 : (0 : Int) ≤ (k : Int) := by omega
      have i2 : (k : Int) < (n2 : Int) := by omega
      have i3 : (k : Int) < (ps.length : Int) := by omega
      clear hc hc2 hx
      go_wp2_with fail
      go_region
      all_goals
        go_wp2
        go_roundw
        case rel => exact ⟨k + 1, by omega, by go_num, Lib.hid HBel.out.drew⟩
        case measure => simp [intOf]; omega
    · go_wp2
      obtain ⟨wr1, HW1⟩ : ∃ x, Hid (x = wr) := ⟨_, Lib.hid rfl⟩
      go_loopw [18] (fun iv wr => ∃ k : Nat, k ≤ n3 ∧ iv = .int .i64 (k : Int) ∧ Hid (Below w8.heap.size w8 wr)) (fun iv _ => n3 - (intOf iv).toNat)
      case atStart => exact ⟨0, Nat.zero_le _, rfl, HBel⟩
      case round =>
        obtain ⟨k', hk', rfl, HBel'⟩ := hrel
        by_cases hlt' : k' < n3
        · have hkl : k' < ns.length := by rw [← HN3.out]; exact hlt'
          obtain ⟨b, off, rfl, hB1, hc⟩ := (HN8.out.below HBel'.out) k' hkl
          obtain ⟨b2, off2, rfl, hB2, hc2⟩ := (HI9.out.below HBel'.out) k' hkl
          have x0 := hc 0 _ rfl
          have y0 := hc2 0 _ rfl
          rw [Nat.mul_one, Nat.add_zero] at x0 y0
          obtain ⟨x, hx⟩ : ∃ x, ns[k'] = x := ⟨_, rfl⟩
          simp only [hx] at x0 y0
          have i1 : (0 : Int) ≤ (k' : Int) := by omega
          have i2 : (k' : Int) < (n3 : Int) := by omega
          have i3 : (k' : Int) < (ns.length : Int) := by omega
          clear hc hc2 hx
          go_wp2_with fail
          go_region
          all_goals
            go_wp2
            go_roundw
            case rel => exact ⟨k' + 1, by omega, by go_num, Lib.hid HBel'.out.drew⟩
            case measure => simp [intOf]; omega
        · go_wp2
          go_ret
          exact ⟨rfl, HB.out.trans (HBel'.out.mono HB.out.size)⟩

theorem codeback_walk (rs : List Rw) (ps : List Pa) (ns : List Int) (A1 A2 A3 : Option Addr) (n1 c1 n2 c2 n3 c3 : Nat) (w : World) (hn1 : n1 = rs.length) (hn2 : n2 = ps.length) (hn3 : n3 = ns.length) (hm1 : n1 ≤ maxLen) (hm2 : n2 ≤ maxLen) (hm3 : n3 ≤ maxLen)
    (hR : RowsIn w w.heap.size A1 rs) (hP : RowC pCells 2 w w.heap.size A2 ps) (hpw : ∀ p ∈ ps, p.s.size ≤ maxLen ∧ p.t.size ≤ maxLen) (hI : RowC iCells 1 w w.heap.size A3 ns) (hnw : ∀ x ∈ ns, in64 x) :
    Calls Try.prog 6 #[.slice A1 n1 c1, .slice A2 n2 c2, .slice A3 n3 c3] w fun e w' => e = .returned (.bool true) ∧ Below w.heap.size w w' := by
  by_cases hlg : longB rs ps = true
  · exact back_big rs ps ns A1 A2 A3 n1 c1 n2 c2 n3 c3 w hn1 hn2 hn3 hm1 hm2 hm3 hR hP hpw hI hnw (.inl hlg)
  · have hlg' : longB rs ps = false := by simpa using hlg
    by_cases h3 : 2000 < n3
    · exact back_big rs ps ns A1 A2 A3 n1 c1 n2 c2 n3 c3 w hn1 hn2 hn3 hm1 hm2 hm3 hR hP hpw hI hnw (.inr ⟨hlg', h3⟩)
    · rcases hro : rowsO rs with _ | bs
      · exact back_none rs ps ns A1 A2 A3 n1 c1 n2 c2 n3 c3 w hn1 hn2 hn3 hm1 hm2 hm3 hR hP hpw hI hnw hlg' (by omega) hro
      · exact back_some rs ps ns A1 A2 A3 n1 c1 n2 c2 n3 c3 w hn1 hn2 hn3 hm1 hm2 hm3 hR hP hpw hI hnw hlg' (by omega) bs hro
end Go.Proofs.Ytkpajmgbiepmbaa
