/- Layer 12: back and forth (the whole law). -/
import Derived.Test.YtfkfgabepjpdlaaDoorDecL4
namespace Go.Proofs.YtfkfgabepjpdlaaDoor
open Go.ChangeShapes Go.WideShapes Go.ChangeAt Go.RowKit
set_option linter.unusedVariables false

theorem jnK_len {vs : List V} (hw : ∀ v ∈ vs, v.wf) (hc : ∀ v ∈ vs, chk v = 0) : ∀ k, k ≤ vs.length → (jnK vs k).length ≤ k * 401
  | 0, _ => by simp [jnK_zero]
  | k + 1, h => by
    rw [jnK_succ (by omega)]
    have h1 := jnK_len hw hc k (by omega)
    have h2 := wr_len (hw vs[k] (List.getElem_mem (by omega))) (hc vs[k] (List.getElem_mem (by omega)))
    split <;> simp <;> omega
theorem recV_len {cs : List C} {vs : List V} (hw : ∀ v ∈ vs, v.wf) (h : recE cs vs = 0) : (recV cs vs).length ≤ 12 * 401 := by
  obtain ⟨h1, h2, h3⟩ := recE_zero h
  have hl := rightB_len h1
  have hc : ∀ v ∈ vs, chk v = 0 := by
    intro v hv
    obtain ⟨i, hi, rfl⟩ := List.getElem_of_mem hv
    have := (fitsL_iff h2).1 h3 i (by omega)
    simp only [fits, Bool.and_eq_true, decide_eq_true_eq] at this
    exact this.1
  have := jnK_len hw hc vs.length (Nat.le_refl _)
  rw [jnK_all] at this
  have hv : recV cs vs = jn (vs.map wr) := by unfold recV; rw [if_pos h]
  rw [hv]
  exact Nat.le_trans this (Nat.mul_le_mul_right _ (by omega))
set_option maxHeartbeats 2000000 in
set_option maxRecDepth 20000 in
theorem back_law (l : List C) (hw : ∀ c ∈ l, c.wf) (len cap : Nat) (A : Option Addr) (vs : List V) (hwv : ∀ v ∈ vs, v.wf) (m cv : Nat) (Av : Option Addr) (s : ByteArray) (hs : s.size ≤ 9223372036854775807) (w : World) (hl : len = l.length) (hm : len ≤ maxLen) (hcap : len ≤ cap) (hcm : cap ≤ maxLen) (hr : Row2 w w.heap.size A l)
    (hmv : m = vs.length) (hmm : m ≤ maxLen) (hv : Row3 w w.heap.size Av vs) (hE : Env2 w.heap.size w) :
    Calls Tryd.prog 7 #[.slice A len cap, .slice Av m cv, .string s] w fun e w' => e = .returned (.bool true) ∧ Below w.heap.size w w' := by
  have HAL := Lib.hid (alive_any w hE.env (Nat.le_refl _))
  have HRR := Lib.hid (fun W (h : Below w.heap.size w W) => (hr.below h).more h.size)
  have HRV := Lib.hid (fun W (h : Below w.heap.size w W) => (hv.below h).more h.size)
  have HBIG := Lib.hid (fun W (h : Below w.heap.size w W) => bigc_any l hw len cap A W hl hm (HRR.out W h))
  have HBROW := Lib.hid (fun W (h : Below w.heap.size w W) => big_any vs hwv m cv Av W hmv hmm (HRV.out W h))
  obtain ⟨b1, hb1⟩ : ∃ b, bigC l = b := ⟨_, rfl⟩
  obtain ⟨b2, hb2⟩ : ∃ b, bigB vs = b := ⟨_, rfl⟩
  rw [hb1] at HBIG
  rw [hb2] at HBROW
  by_cases hbig : b1 = true ∨ b2 = true ∨ 4000 < s.size
  · have hs' := size_eq s
    clear hb1 hb2 hl hm hcap hcm hr hE HRR HRV hw hmv hmm hv hwv hs'
    cases b1
    · cases b2
      · have h4 : 4000 < s.size := by simpa using hbig
        have q1 : decide ((4000 : Int) < (s.size : Int)) = true := decide_eq_true (by omega)
        clear hbig
        go_enter Tryd.func7, Tryd.ntmps7
        go_wp2_with (first
          | (go_at_call 8; refine HAL.out.mono ?_; rintro e w1 ⟨rfl, hb1⟩; have HBS := Lib.hid hb1; clear hb1)
          | (go_at_call 9; refine (HBIG.out _ HBS.out).mono ?_; rintro e w2 ⟨rfl, rfl⟩)
          | (go_at_call 22; refine (HBROW.out _ HBS.out).mono ?_; rintro e w2 ⟨rfl, rfl⟩))
        go_ret
        exact ⟨rfl, HBS.out⟩
      · clear hbig
        go_enter Tryd.func7, Tryd.ntmps7
        go_wp2_with (first
          | (go_at_call 8; refine HAL.out.mono ?_; rintro e w1 ⟨rfl, hb1⟩; have HBS := Lib.hid hb1; clear hb1)
          | (go_at_call 9; refine (HBIG.out _ HBS.out).mono ?_; rintro e w2 ⟨rfl, rfl⟩)
          | (go_at_call 22; refine (HBROW.out _ HBS.out).mono ?_; rintro e w2 ⟨rfl, rfl⟩))
        go_ret
        exact ⟨rfl, HBS.out⟩
    · clear hbig
      go_enter Tryd.func7, Tryd.ntmps7
      go_wp2_with (first
        | (go_at_call 8; refine HAL.out.mono ?_; rintro e w1 ⟨rfl, hb1⟩; have HBS := Lib.hid hb1; clear hb1)
        | (go_at_call 9; refine (HBIG.out _ HBS.out).mono ?_; rintro e w2 ⟨rfl, rfl⟩)
        | (go_at_call 22; refine (HBROW.out _ HBS.out).mono ?_; rintro e w2 ⟨rfl, rfl⟩))
      go_ret
      exact ⟨rfl, HBS.out⟩
  · have h1 : b1 = false := by cases b1 <;> simp_all
    have h2 : b2 = false := by cases b2 <;> simp_all
    have h4 : s.size ≤ 4000 := by omega
    subst h1 h2
    clear hbig hb1 hb2
    have q1 : decide ((4000 : Int) < (s.size : Int)) = false := decide_eq_false (by omega)
    have HREC := Lib.hid (fun W (h : Below w.heap.size w W) => rec_cols l hw len cap A vs hwv m cv Av W hl hm hcap hcm (HRR.out W h) hmv hmm (HRV.out W h) (hE.below h) h.size)
    have HLB := Lib.hid (fun W => laid_bytes s W (grownCap W s.size 0 5) 5 ((bytesRow s (grownCap W s.size 0 5)).size, (bytesRow s (grownCap W s.size 0 5)).size + 1))
    have hcv := fun W => run_bytes_of_string (P := Tryd.prog) W 9 35 5 s Tryd.underlying9 Tryd.underlying35 Tryd.underlying5
    have HROW := Lib.hid (fun W (h : Below w.heap.size w W) (cb : Nat) (fr : Nat × Nat) (hb : BytesAt (W.alloc (.cells (bytesRow s cb) 5 fr)).drew (W.alloc (.cells (bytesRow s cb) 5 fr)).drew.heap.size (some ⟨W.heap.size, 0, none⟩) s.data.toList) =>
      row_cols l hw len cap A s.data.toList s.size cb (some ⟨W.heap.size, 0, none⟩) (W.alloc (.cells (bytesRow s cb) 5 fr)).drew hl hm hcap hcm
        (HRR.out _ ((h.alloc h.size _).drew)) (size_eq s) (by omega) hb (hE.env.below ((h.alloc h.size _).drew)) ((h.alloc h.size _).drew).size)
    have HSM := Lib.hid (fun W (h : Below w.heap.size w W) (A4 : Option Addr) (n4 c4 B : Nat) (hn : n4 = vs.length) (ho : W.ownsRow B 53 3 (.slice A4 n4 c4) n4 (cellsOf vs)) =>
      same_any vs vs hwv hwv n4 c4 m cv A4 Av W hn hmv (by omega) hmm (row3_of_own ho).2 (HRV.out W h))
    rw [sameB_self] at HSM
    have HR1 := Lib.hid (show recE l vs = 0 → ∀ W (h : Below w.heap.size w W) (A3 : Option Addr) (n3 c3 B : Nat) (hb : Buf B A3 n3 c3 (recV l vs) W), Calls Tryd.prog 16 #[.slice A len cap, .slice A3 n3 c3] W (RowPost 0 vs W) from fun h0 W h A3 n3 c3 B hb => by
      have h := row_cols l hw len cap A (recV l vs) n3 c3 A3 W hl hm hcap hcm (HRR.out W h) hb.1 (by have := hb.1; have := recV_len hwv h0; omega) hb.bytes (hE.env.below h) h.size
      rwa [(row_rec hwv h0).1, (row_rec hwv h0).2] at h)
    have HTS := Lib.hid (show txt s.data.toList = s from rfl)
    have HR2 := Lib.hid (show rowE l s.data.toList = 0 → ∀ W (h : Below w.heap.size w W) (A6 : Option Addr) (n6 c6 B : Nat) (hn : n6 = (rowV l s.data.toList).length) (ho : W.ownsRow B 53 3 (.slice A6 n6 c6) n6 (cellsOf (rowV l s.data.toList))), Calls Tryd.prog 23 #[.slice A len cap, .slice A6 n6 c6] W (RecPost 0 s.data.toList W) from fun h0 W h A6 n6 c6 B hn ho => by
      have hle : n6 ≤ maxLen := by
        have h1 := rowE_zero h0
        have h2 := (rowsV_some h1.2.2).1
        omega
      have h := rec_cols l hw len cap A (rowV l s.data.toList) (fun v hv => (rowV_wf v hv).1) n6 c6 A6 W hl hm hcap hcm (HRR.out W h) hn hle (row3_of_own ho).2 (hE.below h) h.size
      rwa [(rec_row h0).1, (rec_row h0).2] at h)
    obtain ⟨E1, hE1⟩ : ∃ E, recE l vs = E := ⟨_, rfl⟩
    obtain ⟨E2, hE2⟩ : ∃ E, rowE l s.data.toList = E := ⟨_, rfl⟩
    have HRV2 := Lib.hid (show E2 ≠ 0 → rowV l s.data.toList = [] from fun h => by unfold rowV; rw [hE2, if_neg h])
    rw [hE1] at HREC HR1
    rw [hE2] at HROW HR2
    obtain ⟨R1, hR1⟩ : ∃ R, recV l vs = R := ⟨_, rfl⟩
    obtain ⟨R2, hR2⟩ : ∃ R, rowV l s.data.toList = R := ⟨_, rfl⟩
    rw [hR1] at HREC HR1
    rw [hR2] at HROW HR2 HRV2
    clear hE1 hE2 hR1 hR2 hl hm hcap hcm hr hE HRR HRV hw hmv hmm hv hwv h4
    by_cases e1 : E1 = 0
    · subst e1
      replace HR1 := Lib.hid (HR1.out rfl)
      by_cases e2 : E2 = 0
      · subst e2
        replace HR2 := Lib.hid (HR2.out rfl)
        go_enter Tryd.func7, Tryd.ntmps7
        go_wp2_with (first
          | (have HSEC := HO6; go_at_call 23; refine (HR2.out _ HBS.out _ _ _ _ HN6.out HO6.out).mono ?_; rintro e w7 ⟨A7, n7, c7, rfl, ho7, hb7⟩; have hcs := string_of_buf ho7; rw [HTS.out] at hcs; have HBS := Lib.hid (hop0 HBS.out hb7); clear ho7 hb7)
          | (have HSEC := HO4; go_at_call 16; refine (HROW.out _ HBS.out _ _ (HLB.out _)).mono ?_; rintro e w6 ⟨A6, n6, c6, rfl, hn6, ho6, hb6⟩; have HN6 := Lib.hid hn6; have HO6 := Lib.hid ho6; have HBS := Lib.hid (hop0 ((HBS.out.alloc HBS.out.size _).drew) hb6); clear hn6 ho6 hb6)
          | (go_at_call 8; refine HAL.out.mono ?_; rintro e w1 ⟨rfl, hb1⟩; have HBS := Lib.hid hb1; clear hb1)
          | (go_at_call 9; refine (HBIG.out _ HBS.out).mono ?_; rintro e w2 ⟨rfl, rfl⟩)
          | (go_at_call 22; refine (HBROW.out _ HBS.out).mono ?_; rintro e w2 ⟨rfl, rfl⟩)
          | (go_at_call 23; refine (HREC.out _ HBS.out).mono ?_; rintro e w3 ⟨A3, n3, c3, rfl, ho3, hb3⟩; have HO3 := Lib.hid ho3; have HBS := Lib.hid (hop0 HBS.out hb3); clear ho3 hb3)
          | (go_at_call 16; refine (HR1.out _ HBS.out _ _ _ _ HO3.out).mono ?_; rintro e w4 ⟨A4, n4, c4, rfl, hn4, ho4, hb4⟩; have HN4 := Lib.hid hn4; have HO4 := Lib.hid ho4; have HBS := Lib.hid (hop0 HBS.out hb4); clear hn4 ho4 hb4)
          | (go_at_call 18; refine (HSM.out _ HBS.out _ _ _ _ HN4.out HO4.out).mono ?_; rintro e w5 ⟨rfl, hb5⟩; have HBS := Lib.hid (hop0 HBS.out hb5); clear hb5))
        go_ret
        exact ⟨rfl, HBS.out⟩
      · have p2 : (E2 != 0) = true := by simpa using e2
        have HE := Lib.hid (HRV2.out e2)
        clear HR2 HRV2
        go_enter Tryd.func7, Tryd.ntmps7
        go_wp2_with (first
          | (have HSEC := HO4; go_at_call 16; refine (HROW.out _ HBS.out _ _ (HLB.out _)).mono ?_; rw [HE.out]; rintro e w6 ⟨A6, n6, c6, rfl, hn6, ho6, hb6⟩; obtain rfl : n6 = 0 := hn6; have HBS := Lib.hid (hop0 ((HBS.out.alloc HBS.out.size _).drew) hb6); clear ho6 hb6)
          | (go_at_call 8; refine HAL.out.mono ?_; rintro e w1 ⟨rfl, hb1⟩; have HBS := Lib.hid hb1; clear hb1)
          | (go_at_call 9; refine (HBIG.out _ HBS.out).mono ?_; rintro e w2 ⟨rfl, rfl⟩)
          | (go_at_call 22; refine (HBROW.out _ HBS.out).mono ?_; rintro e w2 ⟨rfl, rfl⟩)
          | (go_at_call 23; refine (HREC.out _ HBS.out).mono ?_; rintro e w3 ⟨A3, n3, c3, rfl, ho3, hb3⟩; have HO3 := Lib.hid ho3; have HBS := Lib.hid (hop0 HBS.out hb3); clear ho3 hb3)
          | (go_at_call 16; refine (HR1.out _ HBS.out _ _ _ _ HO3.out).mono ?_; rintro e w4 ⟨A4, n4, c4, rfl, hn4, ho4, hb4⟩; have HN4 := Lib.hid hn4; have HO4 := Lib.hid ho4; have HBS := Lib.hid (hop0 HBS.out hb4); clear hn4 ho4 hb4)
          | (go_at_call 18; refine (HSM.out _ HBS.out _ _ _ _ HN4.out HO4.out).mono ?_; rintro e w5 ⟨rfl, hb5⟩; have HBS := Lib.hid (hop0 HBS.out hb5); clear hb5))
        go_ret
        exact ⟨rfl, HBS.out⟩
    · have p1 : (E1 == 0) = false := by simpa using e1
      clear HR1
      by_cases e2 : E2 = 0
      · subst e2
        replace HR2 := Lib.hid (HR2.out rfl)
        go_enter Tryd.func7, Tryd.ntmps7
        go_wp2_with (first
          | (have HSEC := HO6; go_at_call 23; refine (HR2.out _ HBS.out _ _ _ _ HN6.out HO6.out).mono ?_; rintro e w7 ⟨A7, n7, c7, rfl, ho7, hb7⟩; have hcs := string_of_buf ho7; rw [HTS.out] at hcs; have HBS := Lib.hid (hop0 HBS.out hb7); clear ho7 hb7)
          | (go_at_call 16; refine (HROW.out _ HBS.out _ _ (HLB.out _)).mono ?_; rintro e w6 ⟨A6, n6, c6, rfl, hn6, ho6, hb6⟩; have HN6 := Lib.hid hn6; have HO6 := Lib.hid ho6; have HBS := Lib.hid (hop0 ((HBS.out.alloc HBS.out.size _).drew) hb6); clear hn6 ho6 hb6)
          | (go_at_call 8; refine HAL.out.mono ?_; rintro e w1 ⟨rfl, hb1⟩; have HBS := Lib.hid hb1; clear hb1)
          | (go_at_call 9; refine (HBIG.out _ HBS.out).mono ?_; rintro e w2 ⟨rfl, rfl⟩)
          | (go_at_call 22; refine (HBROW.out _ HBS.out).mono ?_; rintro e w2 ⟨rfl, rfl⟩)
          | (go_at_call 23; refine (HREC.out _ HBS.out).mono ?_; rintro e w3 ⟨A3, n3, c3, rfl, ho3, hb3⟩; have HO3 := Lib.hid ho3; have HBS := Lib.hid (hop0 HBS.out hb3); clear ho3 hb3))
        go_ret
        exact ⟨rfl, HBS.out⟩
      · have p2 : (E2 != 0) = true := by simpa using e2
        have HE := Lib.hid (HRV2.out e2)
        clear HR2 HRV2
        go_enter Tryd.func7, Tryd.ntmps7
        go_wp2_with (first
          | (go_at_call 16; refine (HROW.out _ HBS.out _ _ (HLB.out _)).mono ?_; rw [HE.out]; rintro e w6 ⟨A6, n6, c6, rfl, hn6, ho6, hb6⟩; obtain rfl : n6 = 0 := hn6; have HBS := Lib.hid (hop0 ((HBS.out.alloc HBS.out.size _).drew) hb6); clear ho6 hb6)
          | (go_at_call 8; refine HAL.out.mono ?_; rintro e w1 ⟨rfl, hb1⟩; have HBS := Lib.hid hb1; clear hb1)
          | (go_at_call 9; refine (HBIG.out _ HBS.out).mono ?_; rintro e w2 ⟨rfl, rfl⟩)
          | (go_at_call 22; refine (HBROW.out _ HBS.out).mono ?_; rintro e w2 ⟨rfl, rfl⟩)
          | (go_at_call 23; refine (HREC.out _ HBS.out).mono ?_; rintro e w3 ⟨A3, n3, c3, rfl, ho3, hb3⟩; have HO3 := Lib.hid ho3; have HBS := Lib.hid (hop0 HBS.out hb3); clear ho3 hb3))
        go_ret
        exact ⟨rfl, HBS.out⟩
end Go.Proofs.YtfkfgabepjpdlaaDoor
