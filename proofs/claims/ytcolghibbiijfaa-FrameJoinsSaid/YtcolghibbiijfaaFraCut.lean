/- The statement FrameCut: the walk. -/
import Derived.Test.YtcolghibbiijfaaFraTurned
import Derived.Test.YtcolghibbiijfaaFraSame
namespace Go.Proofs.Ytcolghibbiijfaa
open Go.ChangeShapes Go.WideShapes Go.ChangeAt Go.RowKit
open Go.Lib (byteCells byteCells_length byteCells_append strCells)
set_option linter.unusedVariables false

/-- Texts as lists of bytes. -/
def tx (ls : List ByteArray) : List (List UInt8) := ls.map fun s => s.data.toList
theorem tx_length (ls : List ByteArray) : (tx ls).length = ls.length := by simp [tx]
theorem tx_at (ls : List ByteArray) (k : Nat) (h : k < (tx ls).length) : (tx ls)[k] = (ls[k]'(by simpa [tx] using h)).data.toList := by simp [tx]
theorem take_next (xs : List (List UInt8)) (k : Nat) (h : k < xs.length) : xs.take (k + 1) = xs.take k ++ [xs[k]] := List.take_succ_eq_append_getElem h
theorem cat_next (ls : List ByteArray) (k : Nat) (h : k < ls.length) : cat ((tx ls).take (k + 1)) = cat ((tx ls).take k) ++ fr ls[k].data.toList := by
  rw [take_next _ _ (by rw [tx_length]; exact h), cat_snoc, tx_at]
theorem tot_next (xs : List (List UInt8)) (k : Nat) (h : k < xs.length) : tot (xs.take (k + 1)) = tot (xs.take k) + (8 + xs[k].length) := by
  rw [take_next _ _ h, tot_snoc]
theorem tot_mono (xs : List (List UInt8)) (j m : Nat) (h : j ≤ m) : tot (xs.take j) ≤ tot (xs.take m) := by
  have e : xs.take m = xs.take j ++ (xs.take m).drop j := by
    conv => lhs; rw [← List.take_append_drop j (xs.take m)]
    rw [List.take_take, Nat.min_eq_left h]
  rw [e, tot_append]; omega
theorem Buf.joined {B : Nat} {A : Option Addr} {n c m : Nat} {bs cs : List UInt8} {w w' : World} {v : Value} (hn : n = bs.length) (hm : m = cs.length) (hb : B ≤ w'.heap.size) (h : w'.ownsRow B 5 1 v (n + m) (byteCells bs ++ byteCells cs)) : ∃ A' c', v = .slice A' (n + m) c' ∧ Buf B A' (n + m) c' (bs ++ cs) w' := by
  obtain ⟨A', c', rfl⟩ := own_slice h
  exact ⟨A', c', rfl, by rw [List.length_append]; omega, hb, by rw [byteCells_append]; exact h⟩

set_option maxRecDepth 100000 in
set_option maxRecDepth 100000 in
set_option maxHeartbeats 8000000 in
theorem cut_walk (ls : List ByteArray) (A0 : Option Addr) (n0 c0 cut : Nat) (hcut : cut < 65536) (w : World) (hl : n0 = ls.length) (hm : n0 ≤ maxLen) (hs : ∀ s ∈ ls, s.size ≤ maxLen) (hr : RowC sCells 1 w w.heap.size A0 ls) :
    Calls Try.prog 6 #[.slice A0 n0 c0, .int .u16 (cut : Int)] w fun e w' => e = .returned (.bool true) ∧ Below w.heap.size w w' := by
  have hcs := fun W s => run_bytes_of_string (P := Try.prog) W 9 23 5 s Try.underlying9 Try.underlying23 Try.underlying5
  obtain ⟨i0, hi, hz0, hz1, hz2⟩ := info_parts infoByte
  have HI := Lib.hid hi
  have HZ0 := Lib.hid hz0
  have HZ1 := Lib.hid hz1
  have HZ2 := Lib.hid hz2
  replace hm : n0 ≤ 9223372036854775807 := by unfold maxLen at hm; omega
  have HL := Lib.hid hl
  have HS := Lib.hid hs
  have HR := Lib.hid hr
  clear hi hz0 hz1 hz2 hl hs hr
  go_enter Try.func6, Try.ntmps6
  go_wp2_with (go_at_call 9; refine (alive_any _).mono ?_; rintro e w1 ⟨rfl, hb1⟩; have HB1 := Lib.hid hb1; clear hb1)
  go_loopw [5, 6] (fun bv iv wr => ∃ (k n c : Nat) (A : Option Addr), k ≤ n0 ∧ k ≤ 20 ∧ n ≤ 308 * k ∧ iv = .int .i64 (k : Int) ∧ bv = .slice A n c ∧ Hid (Buf w.heap.size A n c (cat ((tx ls).take k)) wr) ∧ Hid (∀ j (h : j < ls.length), j < k → ls[j].size ≤ 300) ∧ Below w.heap.size w wr) (fun _ iv _ => 20 - (intOf iv).toNat)
  case atStart => exact ⟨0, 0, 0, none, Nat.zero_le _, by omega, by omega, rfl, rfl, Lib.hid (Buf.nil _ _ HB1.out.size), Lib.hid (fun j h hj => by omega), HB1.out⟩
  case round =>
    obtain ⟨k, n, c, A, hk, hk20, hnk, rfl, rfl, HBUF, HSM, hbel⟩ := hrel
    have HBEL := Lib.hid hbel
    by_cases hlt : k < n0 ∧ k < 20
    · obtain ⟨hlt, h20⟩ := hlt
      have hkl : k < ls.length := by rw [← HL.out]; exact hlt
      obtain ⟨b, off, rfl, hb, h0⟩ := HR.out k hkl
      have s0 := h0 0 (.string ls[k]) rfl
      rw [Nat.mul_one, Nat.add_zero] at s0
      have c1 : wr.cell? ⟨b, off + k, none⟩ = some (.string ls[k]) := (hbel.cell (p := ⟨b, _, none⟩) hb).trans s0
      have HNX := Lib.hid (cat_next ls k hkl)
      have HSK := Lib.hid (show ls[k].size ≤ 300 → ∀ j (h : j < ls.length), j < k + 1 → ls[j].size ≤ 300 from fun hx j h hj => by
        by_cases e : j < k
        · exact HSM.out j h e
        · obtain rfl : j = k := by omega
          exact hx)
      obtain ⟨t, HT⟩ : ∃ t, Hid (ls[k] = t) := ⟨_, Lib.hid rfl⟩
      have hts : t.size ≤ 9223372036854775807 := by rw [← HT.out]; have := HS.out _ (List.getElem_mem hkl); unfold maxLen at this; omega
      rw [HT.out] at c1 HNX HSK
      clear s0 h0 hbel
      by_cases h300 : 300 < t.size
      · go_wp2
        go_ret
        exact ⟨rfl, HBEL.out⟩
      · go_wp2_with (first
          | (go_at_call 10; refine (pack_laid t wr _ _ _ (by omega)).mono ?_; rintro e w2 ⟨A2, n2, c2, rfl, hp2, hb2⟩; have hn2 : n2 = t.size + 8 := by rw [hp2.1, fr_length, size_eq]; omega
             obtain ⟨g2, rfl, _, _⟩ := hp2.some_ (by omega); subst hn2; have HP2 := Lib.hid hp2; have HBU2 := Lib.hid (HBUF.out.below hb2); have HB2 := Lib.hid (HBEL.out.trans (hb2.mono HBEL.out.size)); clear hp2 hb2)
          | (at_builtin; go_loud (refine wpList_append_own_at _ rfl _ _ 23 rfl w.heap.size 5 i0 _ 1 1 Try.underlying23 HI.out HZ0.out HZ1.out HZ2.out rfl (by decide) _ n (byteCells (cat ((tx ls).take k))) rfl HBU2.out.2.2 ⟨g2, 0, none⟩ (t.size + 8) c2 (byteCells (fr t.data.toList)) rfl (by rw [byteCells_length, ← HP2.out.1, Nat.mul_one]) HP2.out.bytes.some_ (byte_one _) (by unfold maxLen; omega) (by omega) HB2.out.size ?_); intro v3 w3 hown hg _ _; have hk3 := Keep.grown HBU2.out hg; have HB3 := Lib.hid (HB2.out.trans hk3.below); obtain ⟨A3, c3, rfl, hbuf3⟩ := Buf.joined (A := none) (c := 0) (w := w3) HBU2.out.1 HP2.out.1 HB3.out.size hown; have HBUF3 := Lib.hid hbuf3; clear hown hg hk3 hbuf3))
        go_roundw
        case rel => exact ⟨k + 1, n + (t.size + 8), c3, A3, by omega, by omega, by omega, by go_num, by go_num, Lib.hid (by rw [HNX.out]; exact HBUF3.out), Lib.hid (HSK.out (by omega)), HB3.out⟩
        case measure => simp [intOf]; omega
    · have hkk := hlt
      have hcap := HBUF.out.caps
      have hnl := HBUF.out.1
      obtain ⟨kk, hkk⟩ : ∃ kk, kk = cut % (n + 1) := ⟨_, rfl⟩
      have hkn : kk ≤ n := by have := Nat.mod_lt cut (show 0 < n + 1 by omega); omega
      have hmod : (cut : Int) % ((n : Int) + 1) = (kk : Int) := by rw [hkk]; rfl
      have hkc : kk ≤ c := Nat.le_trans hkn hcap.1
      have hcm : c ≤ 9223372036854775807 := by have := hcap.2.1; unfold maxLen at this; omega
      have hxl : ((tx ls).take k).length = k := by rw [List.length_take, tx_length, ← HL.out]; exact Nat.min_eq_left hk
      have hx32 : ∀ x ∈ (tx ls).take k, x.length < 4294967296 := fun x hx => by
        obtain ⟨j, hj, rfl⟩ := List.getElem_of_mem hx
        rw [hxl] at hj
        have hjl : j < ls.length := by rw [← HL.out]; omega
        rw [List.getElem_take, tx_at, ← size_eq]
        have := HSM.out j hjl hj
        omega
      obtain ⟨m, hm1, hm2, hm3, hm4⟩ := frs_cut ((tx ls).take k) hx32 kk (by rw [← hnl]; exact hkn)
      rw [hxl] at hm1
      have hmk := hm1
      have htt : ((tx ls).take k).take m = (tx ls).take m := by rw [List.take_take, Nat.min_eq_left hm1]
      have HFRS := Lib.hid hm2
      have HTK := Lib.hid hm3
      have HTM := Lib.hid (show tot (((tx ls).take k).take m) = tot ((tx ls).take m) by rw [htt])
      have HNXT := Lib.hid (show ∀ h : m < ls.length, m < k → kk < tot (((tx ls).take k).take m) + 8 + ls[m].size from fun h h2 => by
        have := hm4 (by rw [hxl]; exact h2)
        rwa [List.getElem_take, tx_at, ← size_eq] at this)
      have HXL := Lib.hid hxl
      have HKL := Lib.hid (show kk = ((cat ((tx ls).take k)).take kk).length by rw [List.length_take, ← hnl]; omega)
      clear hcap hnl hkk hx32 hm1 hm2 hm3 hm4 htt hxl hbel
      by_cases hkn0 : k < n0
      · have he : k = 20 := by omega
        have hk1 : (k : Int) < (n0 : Int) := by omega
        have hk2 : decide ((k : Int) < 20) = false := decide_eq_false (by omega)
        have HE := Lib.hid he
        clear hlt he
        go_wp2_with (go_at_call 14; refine (scan_any ((cat ((tx ls).take k)).take kk) kk c A wr HKL.out (by omega) ((HBUF.out.bytes).take kk)).mono ?_; rintro e w3 ⟨v, its, rfl, hits, hown, hit, hb3⟩; obtain ⟨A3, c3, rfl⟩ := own_slice hown; rw [HFRS.out] at hits ⊢; have hil : its.length = m := (by rw [← bss_length, hits, List.length_take, HXL.out]; exact Nat.min_eq_left hmk); rw [hil] at hown ⊢; have HOW := Lib.hid (RowC.own itCells_length (by decide) hown).2; have HIT := Lib.hid (fun x hx => (hit x hx).bytes); have HITS := Lib.hid hits; have HIL := Lib.hid hil; have HB3 := Lib.hid (HBEL.out.trans (hb3.mono HBEL.out.size)); clear hown hit hb3 hits hil)
        go_loopw [12, 13] (fun av iv wq => ∃ j : Nat, j ≤ m ∧ iv = .int .i64 (j : Int) ∧ av = .int .i64 ((tot ((tx ls).take j) : Nat) : Int) ∧ Below w3.heap.size w3 wq) (fun _ iv _ => 20 - (intOf iv).toNat)
        case atStart => exact ⟨0, Nat.zero_le _, rfl, rfl, Below.refl _ _⟩
        case round =>
          obtain ⟨j, hj, rfl, rfl, hbq⟩ := hrel
          have HBQ := Lib.hid hbq
          have htj : tot ((tx ls).take j) ≤ kk := Nat.le_trans (tot_mono _ _ _ hj) (by rw [← HTM.out]; exact HTK.out)
          by_cases hjk : j < k
          · have hjl : j < ls.length := by rw [← HL.out]; omega
            obtain ⟨b, off, rfl, hb, h0⟩ := HR.out j hjl
            have s0 := h0 0 (.string ls[j]) rfl
            rw [Nat.mul_one, Nat.add_zero] at s0
            have hbw := HB3.out.trans (hbq.mono HB3.out.size)
            have c1 : wr.cell? ⟨b, off + j, none⟩ = some (.string ls[j]) := (hbw.cell (p := ⟨b, _, none⟩) hb).trans s0
            have h300 := HSM.out j hjl hjk
            have HTN := Lib.hid (show tot ((tx ls).take (j + 1)) = tot ((tx ls).take j) + 8 + ls[j].size by rw [tot_next _ _ (by rw [tx_length]; exact hjl), tx_at, ← size_eq]; omega)
            have HLT := Lib.hid (show j < m → tot ((tx ls).take j) + 8 + ls[j].size ≤ kk from fun h => by
              have h1 := tot_mono (tx ls) (j + 1) m h
              rw [HTN.out] at h1
              have := HTM.out; have := HTK.out
              omega)
            have HGE := Lib.hid (show j = m → kk < tot ((tx ls).take j) + 8 + ls[j].size from fun h => by
              subst h
              have := HNXT.out hjl hjk
              rwa [HTM.out] at this)
            have HTX := Lib.hid (show ∀ (h : j < its.length), its[j].bs = ls[j].data.toList from fun h => by
              have h1 : (bss its)[j]? = (((tx ls).take k).take m)[j]? := by rw [HITS.out]
              have hjm : j < m := by rw [← HIL.out]; exact h
              rw [List.getElem?_take_of_lt hjm, List.getElem?_take_of_lt hjk, bss, List.getElem?_map, List.getElem?_eq_getElem h, List.getElem?_eq_getElem (by rw [tx_length]; exact hjl), tx_at] at h1
              simpa using h1)
            obtain ⟨t, HT⟩ : ∃ t, Hid (ls[j] = t) := ⟨_, Lib.hid rfl⟩
            rw [HT.out] at c1 h300 HTN HLT HGE HTX
            obtain ⟨q, hq⟩ : ∃ q, tot ((tx ls).take j) = q := ⟨_, rfl⟩
            rw [hq] at htj HTN HLT HGE ⊢
            have HQ := Lib.hid hq
            have hjn : (j : Int) < (n0 : Int) := by omega
            have hj20 : (j : Int) < 20 := by omega
            clear s0 h0 hbq hbw hq
            by_cases hjm : j < m
            · have hd1 : decide ((kk : Int) < (q : Int) + 8 + (t.size : Int)) = false := decide_eq_false (by have := HLT.out hjm; omega)
              have hji : j < its.length := by rw [HIL.out]; exact hjm
              have hyy := HTX.out hji
              obtain ⟨b1, o1, rfl, hb1, h1⟩ := HOW.out j hji
              have a0 := h1 0 (.slice its[j].a its[j].bs.length its[j].c) rfl
              rw [Nat.mul_one, Nat.add_zero] at a0
              have hy := (HIT.out its[j] (List.getElem_mem hji)).below HBQ.out
              have a1 : wr.cell? ⟨b1, o1 + j, none⟩ = some (.slice its[j].a its[j].bs.length its[j].c) := (HBQ.out.cell (p := ⟨b1, _, none⟩) hb1).trans a0
              have hst := fun i => string_of_bytes its[j].a its[j].bs.length its[j].c its[j].bs (wr.drewN i) rfl (hy.drewN i)
              have htt : txt its[j].bs = t := by rw [hyy, txt_data]
              rw [htt] at hst
              obtain ⟨y, HY⟩ : ∃ y, Hid (its[j] = y) := ⟨_, Lib.hid rfl⟩
              rw [HY.out] at a1 hst
              have hd2 : decide ((m : Int) ≤ (j : Int)) = false := decide_eq_false (by omega)
              have hjmi : (j : Int) < (m : Int) := by omega
              clear a0 hy hyy htt h1
              go_wp2
              go_quiet (fail)
              go_wp2
              go_roundw
              case rel => exact ⟨j + 1, by omega, by go_num, by rw [HTN.out]; go_num, below_more HBQ.out _⟩
              case measure => simp [intOf]; omega
            · obtain rfl : j = m := by omega
              have hd1 : decide ((kk : Int) < (q : Int) + 8 + (t.size : Int)) = true := decide_eq_true (by have := HGE.out rfl; omega)
              have htmq : tot (((tx ls).take k).take j) = q := by rw [HTM.out]; exact HQ.out
              rw [htmq]
              go_wp2
              go_ret
              exact ⟨by simp, HB3.out.trans (HBQ.out.mono HB3.out.size)⟩
          · obtain rfl : j = k := by omega
            obtain rfl : j = m := by omega
            have htmq := HTM.out
            rw [htmq]
            clear htmq hbq
            have hmin : (if (20 : Int) < (n0 : Int) then (20 : Int) else (n0 : Int)) = (j : Int) := by have := HE.out; split <;> omega
            go_wp2
            go_ret
            exact ⟨by (simp; have := HE.out; omega), HB3.out.trans (HBQ.out.mono HB3.out.size)⟩
      · obtain rfl : k = n0 := by omega
        clear hlt hkn0
        go_wp2_with (go_at_call 14; refine (scan_any ((cat ((tx ls).take k)).take kk) kk c A wr HKL.out (by omega) ((HBUF.out.bytes).take kk)).mono ?_; rintro e w3 ⟨v, its, rfl, hits, hown, hit, hb3⟩; obtain ⟨A3, c3, rfl⟩ := own_slice hown; rw [HFRS.out] at hits ⊢; have hil : its.length = m := (by rw [← bss_length, hits, List.length_take, HXL.out]; exact Nat.min_eq_left hmk); rw [hil] at hown ⊢; have HOW := Lib.hid (RowC.own itCells_length (by decide) hown).2; have HIT := Lib.hid (fun x hx => (hit x hx).bytes); have HITS := Lib.hid hits; have HIL := Lib.hid hil; have HB3 := Lib.hid (HBEL.out.trans (hb3.mono HBEL.out.size)); clear hown hit hb3 hits hil)
        go_loopw [12, 13] (fun av iv wq => ∃ j : Nat, j ≤ m ∧ iv = .int .i64 (j : Int) ∧ av = .int .i64 ((tot ((tx ls).take j) : Nat) : Int) ∧ Below w3.heap.size w3 wq) (fun _ iv _ => 20 - (intOf iv).toNat)
        case atStart => exact ⟨0, Nat.zero_le _, rfl, rfl, Below.refl _ _⟩
        case round =>
          obtain ⟨j, hj, rfl, rfl, hbq⟩ := hrel
          have HBQ := Lib.hid hbq
          have htj : tot ((tx ls).take j) ≤ kk := Nat.le_trans (tot_mono _ _ _ hj) (by rw [← HTM.out]; exact HTK.out)
          by_cases hjk : j < k
          · have hjl : j < ls.length := by rw [← HL.out]; omega
            obtain ⟨b, off, rfl, hb, h0⟩ := HR.out j hjl
            have s0 := h0 0 (.string ls[j]) rfl
            rw [Nat.mul_one, Nat.add_zero] at s0
            have hbw := HB3.out.trans (hbq.mono HB3.out.size)
            have c1 : wr.cell? ⟨b, off + j, none⟩ = some (.string ls[j]) := (hbw.cell (p := ⟨b, _, none⟩) hb).trans s0
            have h300 := HSM.out j hjl hjk
            have HTN := Lib.hid (show tot ((tx ls).take (j + 1)) = tot ((tx ls).take j) + 8 + ls[j].size by rw [tot_next _ _ (by rw [tx_length]; exact hjl), tx_at, ← size_eq]; omega)
            have HLT := Lib.hid (show j < m → tot ((tx ls).take j) + 8 + ls[j].size ≤ kk from fun h => by
              have h1 := tot_mono (tx ls) (j + 1) m h
              rw [HTN.out] at h1
              have := HTM.out; have := HTK.out
              omega)
            have HGE := Lib.hid (show j = m → kk < tot ((tx ls).take j) + 8 + ls[j].size from fun h => by
              subst h
              have := HNXT.out hjl hjk
              rwa [HTM.out] at this)
            have HTX := Lib.hid (show ∀ (h : j < its.length), its[j].bs = ls[j].data.toList from fun h => by
              have h1 : (bss its)[j]? = (((tx ls).take k).take m)[j]? := by rw [HITS.out]
              have hjm : j < m := by rw [← HIL.out]; exact h
              rw [List.getElem?_take_of_lt hjm, List.getElem?_take_of_lt hjk, bss, List.getElem?_map, List.getElem?_eq_getElem h, List.getElem?_eq_getElem (by rw [tx_length]; exact hjl), tx_at] at h1
              simpa using h1)
            obtain ⟨t, HT⟩ : ∃ t, Hid (ls[j] = t) := ⟨_, Lib.hid rfl⟩
            rw [HT.out] at c1 h300 HTN HLT HGE HTX
            obtain ⟨q, hq⟩ : ∃ q, tot ((tx ls).take j) = q := ⟨_, rfl⟩
            rw [hq] at htj HTN HLT HGE ⊢
            have HQ := Lib.hid hq
            have hjn : (j : Int) < (k : Int) := by omega
            have hj20 : (j : Int) < 20 := by omega
            clear s0 h0 hbq hbw hq
            by_cases hjm : j < m
            · have hd1 : decide ((kk : Int) < (q : Int) + 8 + (t.size : Int)) = false := decide_eq_false (by have := HLT.out hjm; omega)
              have hji : j < its.length := by rw [HIL.out]; exact hjm
              have hyy := HTX.out hji
              obtain ⟨b1, o1, rfl, hb1, h1⟩ := HOW.out j hji
              have a0 := h1 0 (.slice its[j].a its[j].bs.length its[j].c) rfl
              rw [Nat.mul_one, Nat.add_zero] at a0
              have hy := (HIT.out its[j] (List.getElem_mem hji)).below HBQ.out
              have a1 : wr.cell? ⟨b1, o1 + j, none⟩ = some (.slice its[j].a its[j].bs.length its[j].c) := (HBQ.out.cell (p := ⟨b1, _, none⟩) hb1).trans a0
              have hst := fun i => string_of_bytes its[j].a its[j].bs.length its[j].c its[j].bs (wr.drewN i) rfl (hy.drewN i)
              have htt : txt its[j].bs = t := by rw [hyy, txt_data]
              rw [htt] at hst
              obtain ⟨y, HY⟩ : ∃ y, Hid (its[j] = y) := ⟨_, Lib.hid rfl⟩
              rw [HY.out] at a1 hst
              have hd2 : decide ((m : Int) ≤ (j : Int)) = false := decide_eq_false (by omega)
              have hjmi : (j : Int) < (m : Int) := by omega
              clear a0 hy hyy htt h1
              go_wp2
              go_quiet (fail)
              go_wp2
              go_roundw
              case rel => exact ⟨j + 1, by omega, by go_num, by rw [HTN.out]; go_num, below_more HBQ.out _⟩
              case measure => simp [intOf]; omega
            · obtain rfl : j = m := by omega
              have hd1 : decide ((kk : Int) < (q : Int) + 8 + (t.size : Int)) = true := decide_eq_true (by have := HGE.out rfl; omega)
              have htmq : tot (((tx ls).take k).take j) = q := by rw [HTM.out]; exact HQ.out
              rw [htmq]
              go_wp2
              go_ret
              exact ⟨by simp, HB3.out.trans (HBQ.out.mono HB3.out.size)⟩
          · obtain rfl : j = k := by omega
            obtain rfl : j = m := by omega
            have htmq := HTM.out
            rw [htmq]
            clear htmq hbq
            have hmin : (if (20 : Int) < (j : Int) then (20 : Int) else (j : Int)) = (j : Int) := by split <;> omega
            go_wp2
            go_ret
            exact ⟨by simp, HB3.out.trans (HBQ.out.mono HB3.out.size)⟩
end Go.Proofs.Ytcolghibbiijfaa
