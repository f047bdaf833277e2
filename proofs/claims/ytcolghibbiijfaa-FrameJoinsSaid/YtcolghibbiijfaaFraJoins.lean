/- The statement FrameJoins: the walk. -/
import Derived.Test.YtcolghibbiijfaaFraCut
import Derived.Laws.AppendOwnNone
namespace Go.Proofs.Ytcolghibbiijfaa
open Go.ChangeShapes Go.WideShapes Go.ChangeAt Go.RowKit
open Go.Lib (byteCells byteCells_length byteCells_append strCells)
set_option linter.unusedVariables false

theorem joins_big (ls : List ByteArray) (A0 : Option Addr) (n0 c0 : Nat) (r : ByteArray) (w : World) (hm : n0 ≤ maxLen) (hr : r.size ≤ maxLen) (hb : 60 < n0 ∨ 4000 < r.size) :
    Calls Try.prog 8 #[.slice A0 n0 c0, .string r] w fun e w' => e = .returned (.bool true) ∧ Below w.heap.size w w' := by
  unfold maxLen at hm hr
  by_cases h1 : 60 < n0
  · clear hb
    go_enter Try.func8, Try.ntmps8
    go_wp2_with (go_at_call 9; refine (alive_any _).mono ?_; rintro e w1 ⟨rfl, hb1⟩; have HB1 := Lib.hid hb1; clear hb1)
    go_ret
    exact ⟨rfl, HB1.out⟩
  · have h2 : 4000 < r.size := by omega
    clear hb
    go_enter Try.func8, Try.ntmps8
    go_wp2_with (go_at_call 9; refine (alive_any _).mono ?_; rintro e w1 ⟨rfl, hb1⟩; have HB1 := Lib.hid hb1; clear hb1)
    go_ret
    exact ⟨rfl, HB1.out⟩

/-- 'append([]byte{}, b...)' of bytes that lie somewhere. -/
theorem append_fresh {ops : Array Oper} {rest : List Oper} {o : Oper} {a : Act} {Q : Exit → Act → World → Prop} (hgd : o.guard = none) (s x : Operand)
    (ho : o.op = .call { callee := .builtin .append, args := #[s, x], argTypes := #[23, 23] })
    (w2 : World) (hs : a.eval s = .slice (some ⟨w2.heap.size, 0, none⟩) 0 0) (ad : Addr) (n c : Nat) (bs : List UInt8) (hx : a.eval x = .slice (some ad) n c) (hn : n = bs.length) (hlen : n ≤ 1099511627776) (hb : BytesAt w2 w2.heap.size (some ad) bs)
    (h : ∀ A' c' w', Buf w2.heap.size A' n c' bs w' → Below w2.heap.size w2 w' → wpList Try.prog ops Q rest (a.put o.dst (.slice A' n c')) w') :
    wpList Try.prog ops Q (o :: rest) a (w2.alloc (.cells #[] 5)) := by
  obtain ⟨i0, hi, hz0, hz1, hz2⟩ := info_parts infoByte
  refine wpList_append_own_at _ hgd s x 23 ho w2.heap.size 5 i0 _ 1 1 Try.underlying23 hi hz0 hz1 hz2 rfl (by decide) _ 0 [] hs (World.ownsRow_made w2 #[] 0 (Nat.le_refl _) (by decide) rfl) ad n c (byteCells bs) hx (by rw [byteCells_length, hn, Nat.mul_one])
    ((hb.below ((Below.refl _ w2).alloc (Nat.le_refl _) _)).some_) (byte_one _) (by unfold maxLen; omega) (by omega) (by simp) ?_
  intro v1 w1 hown hg _ _
  obtain ⟨A', c', rfl⟩ := own_slice hown
  rw [Nat.zero_add, List.nil_append] at hown
  rw [Nat.zero_add]
  have hbel := ((Below.refl w2.heap.size w2).alloc (Nat.le_refl _) (.cells #[] 5)).grown hg (by simp) (fun k e => by cases e; exact Nat.le_refl _)
  exact h A' c' w1 ⟨hn, hbel.size, hown⟩ hbel
theorem append_fresh_none {ops : Array Oper} {rest : List Oper} {o : Oper} {a : Act} {Q : Exit → Act → World → Prop} (hgd : o.guard = none) (s x : Operand)
    (ho : o.op = .call { callee := .builtin .append, args := #[s, x], argTypes := #[23, 23] })
    (w2 : World) (hs : a.eval s = .slice (some ⟨w2.heap.size, 0, none⟩) 0 0) (bs : List UInt8) (hx : a.eval x = .slice none 0 0) (hn : 0 = bs.length)
    (h : ∀ A' w', Buf w2.heap.size A' 0 0 bs w' → Below w2.heap.size w2 w' → wpList Try.prog ops Q rest (a.put o.dst (.slice A' 0 0)) w') :
    wpList Try.prog ops Q (o :: rest) a (w2.alloc (.cells #[] 5)) := by
  obtain ⟨i0, hi, hz0, hz1, hz2⟩ := info_parts infoByte
  obtain rfl : bs = [] := List.eq_nil_of_length_eq_zero hn.symm
  refine wpList_append_own_none hgd s x 23 ho w2.heap.size 5 i0 1 Try.underlying23 hi _ 0 [] hs (World.ownsRow_made w2 #[] 0 (Nat.le_refl _) (by decide) rfl) hx ?_
  exact h _ _ ⟨rfl, by simp, World.ownsRow_made w2 #[] 0 (Nat.le_refl _) (by decide) rfl⟩ ((Below.refl _ _).alloc (Nat.le_refl _) _)
theorem frs_tot (s : ByteArray) : tot (frs s.data.toList) ≤ s.size := by
  have h : ∀ n, ∀ l : List UInt8, l.length ≤ n → tot (frs l) ≤ l.length := by
    intro n
    induction n with
    | zero => intro l hl; rw [frs_none (fst_none_short (by omega))]; exact Nat.zero_le _
    | succ n ih =>
      intro l hl
      cases hf : fst l with
      | none => rw [frs_none hf]; exact Nat.zero_le _
      | some x =>
        have h8 := (fst_back hf).1
        rw [frs_some hf, tot_cons]
        have := ih (l.drop (8 + x.length)) (by rw [List.length_drop]; omega)
        rw [List.length_drop] at this
        omega
  rw [size_eq]; exact h s.data.toList.length s.data.toList (Nat.le_refl _)
theorem tx_all (ls : List ByteArray) (k : Nat) (h : ls.length ≤ k) : (tx ls).take k = tx ls := List.take_of_length_le (by rw [tx_length]; exact h)
set_option maxRecDepth 100000 in
set_option maxHeartbeats 8000000 in
theorem joins_small (ls : List ByteArray) (A0 : Option Addr) (n0 c0 : Nat) (r : ByteArray) (w : World) (hl : n0 = ls.length) (hm : n0 ≤ 60) (hrs : r.size ≤ 4000) (hs : ∀ s ∈ ls, s.size ≤ maxLen) (hr : RowC sCells 1 w w.heap.size A0 ls) :
    Calls Try.prog 8 #[.slice A0 n0 c0, .string r] w fun e w' => e = .returned (.bool true) ∧ Below w.heap.size w w' := by
  have hg1 : decide ((60 : Int) < (n0 : Int)) = false := decide_eq_false (by omega)
  have hg2 : decide ((4000 : Int) < (r.size : Int)) = false := decide_eq_false (by omega)
  have hcs := fun W s => run_bytes_of_string (P := Try.prog) W 9 23 5 s Try.underlying9 Try.underlying23 Try.underlying5
  obtain ⟨i0, hi, hz0, hz1, hz2⟩ := info_parts infoByte
  have HI := Lib.hid hi
  have HZ0 := Lib.hid hz0
  have HZ1 := Lib.hid hz1
  have HZ2 := Lib.hid hz2
  have HL := Lib.hid hl
  have HS := Lib.hid hs
  have HR := Lib.hid hr
  clear hi hz0 hz1 hz2 hl hs hr
  go_enter Try.func8, Try.ntmps8
  go_wp2_with (go_at_call 9; refine (alive_any _).mono ?_; rintro e w1 ⟨rfl, hb1⟩; have HB1 := Lib.hid hb1; clear hb1)
  go_loopw [5, 6] (fun bv iv wr => ∃ (k n c : Nat) (A : Option Addr), k ≤ n0 ∧ n ≤ 308 * k ∧ iv = .int .i64 (k : Int) ∧ bv = .slice A n c ∧ Hid (Buf w.heap.size A n c (cat ((tx ls).take k)) wr) ∧ Hid (∀ j (h : j < ls.length), j < k → ls[j].size ≤ 300) ∧ Below w.heap.size w wr) (fun _ iv _ => 60 - (intOf iv).toNat)
  case atStart => exact ⟨0, 0, 0, none, Nat.zero_le _, by omega, rfl, rfl, Lib.hid (Buf.nil _ _ HB1.out.size), Lib.hid (fun j h hj => by omega), HB1.out⟩
  case round =>
    obtain ⟨k, n, c, A, hk, hnk, rfl, rfl, HBUF, HSM, hbel⟩ := hrel
    have HBEL := Lib.hid hbel
    by_cases hlt : k < n0
    · have h60 : k < 60 := by omega
      have hkl : k < ls.length := by rw [← HL.out]; exact hlt
      obtain ⟨b, off, rfl, hb, h0⟩ := HR.out k hkl
      have s0 := h0 0 (.string ls[k]) rfl
      rw [Nat.mul_one, Nat.add_zero] at s0
      have c1 : wr.cell? ⟨b, off + k, none⟩ = some (.string ls[k]) := (hbel.cell (p := ⟨b, _, none⟩) hb).trans s0
      have HNX := Lib.hid (cat_next ls k hkl)
      have HSK := Lib.hid (show ls[k].size ≤ 300 → ∀ j (h : j < ls.length), j < k + 1 → ls[j].size ≤ 300 from fun hx j h hj => by
        by_cases e : j < k
        · exact HSM.out j h e
        · obtain rfl : j = k := by omega
          exact hx)
      obtain ⟨t, HT⟩ : ∃ t, Hid (ls[k] = t) := ⟨_, Lib.hid rfl⟩
      have hts : t.size ≤ 9223372036854775807 := by rw [← HT.out]; have := HS.out _ (List.getElem_mem hkl); unfold maxLen at this; omega
      rw [HT.out] at c1 HNX HSK
      clear s0 h0 hbel
      by_cases h300 : 300 < t.size
      · go_wp2
        go_ret
        exact ⟨rfl, HBEL.out⟩
      · go_wp2_with (first
          | (go_at_call 10; refine (pack_laid t wr _ _ _ (by omega)).mono ?_; rintro e w2 ⟨A2, n2, c2, rfl, hp2, hb2⟩; have hn2 : n2 = t.size + 8 := by rw [hp2.1, fr_length, size_eq]; omega
             obtain ⟨g2, rfl, _, _⟩ := hp2.some_ (by omega); subst hn2; have HP2 := Lib.hid hp2; have HBU2 := Lib.hid (HBUF.out.below hb2); have HB2 := Lib.hid (HBEL.out.trans (hb2.mono HBEL.out.size)); clear hp2 hb2)
          | (at_builtin; go_loud (refine wpList_append_own_at _ rfl _ _ 23 rfl w.heap.size 5 i0 _ 1 1 Try.underlying23 HI.out HZ0.out HZ1.out HZ2.out rfl (by decide) _ n (byteCells (cat ((tx ls).take k))) rfl HBU2.out.2.2 ⟨g2, 0, none⟩ (t.size + 8) c2 (byteCells (fr t.data.toList)) rfl (by rw [byteCells_length, ← HP2.out.1, Nat.mul_one]) HP2.out.bytes.some_ (byte_one _) (by unfold maxLen; omega) (by omega) HB2.out.size ?_); intro v3 w3 hown hg _ _; have hk3 := Keep.grown HBU2.out hg; have HB3 := Lib.hid (HB2.out.trans hk3.below); obtain ⟨A3, c3, rfl, hbuf3⟩ := Buf.joined (A := none) (c := 0) (w := w3) HBU2.out.1 HP2.out.1 HB3.out.size hown; have HBUF3 := Lib.hid hbuf3; clear hown hg hk3 hbuf3))
        go_roundw
        case rel => exact ⟨k + 1, n + (t.size + 8), c3, A3, by omega, by omega, by go_num, by go_num, Lib.hid (by rw [HNX.out]; exact HBUF3.out), Lib.hid (HSK.out (by omega)), HB3.out⟩
        case measure => simp [intOf]; omega
    · obtain rfl : k = n0 := by omega
      clear hlt hk
      have hnl := HBUF.out.1
      have hxx := tx_all ls k (by rw [← HL.out]; exact Nat.le_refl _)
      have hx32 : ∀ x ∈ tx ls, x.length < 4294967296 := fun x hx => by
        obtain ⟨j, hj, rfl⟩ := List.getElem_of_mem hx
        rw [tx_length] at hj
        rw [tx_at, ← size_eq]
        have := HSM.out j hj (by rw [HL.out]; exact hj)
        omega
      rw [hxx] at HBUF hnl
      have HCAT := Lib.hid (frs_cat (tx ls) hx32 r.data.toList)
      have HTOT := Lib.hid (show n = tot (tx ls) by rw [hnl, cat_length])
      have hrf := frs_le r.data.toList
      rw [← size_eq] at hrf
      have HRF := Lib.hid hrf
      clear hnl hxx hx32 hbel hrf
      obtain ⟨hcap1, hcap2, hcA⟩ := HBUF.out.caps
      have HNN := Lib.hid HBUF.out.1
      have hb60 : n ≤ 18480 := by omega
      rcases hcA with hA | ⟨gA, hA, hgA⟩
      · subst hA
        have hn0 : n = 0 ∧ c = 0 := by
          rcases HBUF.out.2.2.2 with ⟨hv, _⟩ | ⟨g, cap, cur, hv, _⟩
          · injection hv with h1 h2 h3; exact ⟨h2, h3⟩
          · injection hv with h1 _ _; cases h1
        obtain ⟨rfl, rfl⟩ := hn0
        clear hcap1 hcap2 hb60 hnk
        have HFLAG := Lib.hid True.intro
        go_wp2_with (first
          | (go_at_call 14; have HF1 := HFLAG; refine (scan_laid r wr _ _ _ (by omega)).mono ?_; rintro e w2 ⟨v, its, rfl, hits, hown, hit, hb2⟩; obtain ⟨A2, c2, rfl⟩ := own_slice hown; obtain ⟨m, hm⟩ : ∃ m, its.length = m := ⟨_, rfl⟩
             obtain ⟨q, hq⟩ : ∃ q, tot (frs r.data.toList) = q := ⟨_, rfl⟩
             rw [hm] at hown ⊢; rw [hq]; have HM := Lib.hid hm; have HQ := Lib.hid hq; have HQ0 := Lib.hid (show m = 0 → q = 0 from fun h => (by rw [← hq, ← hits, List.eq_nil_of_length_eq_zero (hm.trans h)]; rfl)); have HMS := Lib.hid (show m ≤ r.size by rw [← hm, ← bss_length, hits]; exact HRF.out); have HQS := Lib.hid (show q ≤ r.size by rw [← hq]; exact frs_tot r); have HOW := Lib.hid (RowC.own itCells_length (by decide) hown).2; have HIT := Lib.hid (fun x hx => (hit x hx).bytes); have HITS := Lib.hid hits; have HB2 := Lib.hid (HBEL.out.trans (hb2.mono HBEL.out.size)); have HBU2 := Lib.hid (HBUF.out.below hb2); clear hown hit hb2 hits hm hq HF1 HFLAG)
          | (at_builtin; have HSEC := HB3; go_loud (refine append_text rfl _ _ rfl w2.heap.size A3 0 0 (cat (tx ls)) rfl w3 r HB3.out rfl (by rw [← HNN.out]; omega) ?_); intro A4 n4 c4 w4 hn4 hb4 hk4; subst hn4; have HB4 := Lib.hid hb4; have hk24 := HK3.out.trans hk4.below; have HBX := Lib.hid (HB2.out.trans (hk24.mono HB2.out.size)); have HOWX := Lib.hid ((HOW.out.below hk24).more hk24.size); have HITX := Lib.hid (fun x hx => ((HIT.out x hx).below hk24).more hk24.size); clear hb4 hk4 hk24)
          | (at_builtin; go_loud (refine append_fresh_none rfl _ _ rfl w2 rfl (cat (tx ls)) rfl HNN.out ?_); intro A3 w3 hbuf3 hk3; have HB3 := Lib.hid hbuf3; have HK3 := Lib.hid hk3; clear hk3 hbuf3))
        refine (scan_any (cat (tx ls) ++ r.data.toList) _ c4 A4 w4 (by rw [List.length_append, ← HNN.out, ← size_eq]; omega) (by omega) HB4.out.bytes).mono ?_
        rintro e w5 ⟨v5, its2, rfl, hits2, hown2, hit2, hb5⟩
        obtain ⟨A5, c5, rfl⟩ := own_slice hown2
        rw [HCAT.out] at hits2 ⊢
        rw [tot_append, ← HTOT.out, HQ.out]
        have hil2 : its2.length = k + m := by rw [← bss_length, hits2, List.length_append, tx_length, ← HL.out, ← HITS.out, bss_length, HM.out]
        rw [hil2] at hown2 ⊢
        have HOW2 := Lib.hid (RowC.own itCells_length (by decide) hown2).2
        have HIT2 := Lib.hid (fun x hx => (hit2 x hx).bytes)
        have HITS2 := Lib.hid hits2
        have HIL2 := Lib.hid hil2
        have HB5 := Lib.hid (HBX.out.trans (hb5.mono HBX.out.size))
        have HOW5 := Lib.hid ((HOWX.out.below hb5).more hb5.size)
        have HIT5 := Lib.hid (fun x hx => ((HITX.out x hx).below hb5).more hb5.size)
        clear hown2 hit2 hb5 hits2 hil2
        have hm1 := HMS.out
        have hq1 := HQS.out
        have hcast : ((0 + q : Nat) : Int) =  (q : Int) := by omega
        rw [hcast]
        clear hcast
        by_cases hmz : m = 0
        · have hqz := HQ0.out hmz
          have HMZ := Lib.hid hmz
          have hg3 : ((m : Int) == 0) = true := by rw [beq_iff_eq]; omega
          have hg4 : ((k : Int) + (m : Int) != (k : Int) + (m : Int)) = false := by rw [bne_eq_false_iff_eq]
          subst hqz
          go_wp2
          go_loopw [13] (fun iv wq => ∃ j : Nat, j ≤ k ∧ iv = .int .i64 (j : Int) ∧ Below w5.heap.size w5 wq) (fun iv _ => k - (intOf iv).toNat)
          case atStart => exact ⟨0, Nat.zero_le _, rfl, Below.refl _ _⟩
          case round =>
            obtain ⟨j, hj, rfl, hbq⟩ := hrel
            have HBQ := Lib.hid hbq
            by_cases hjk : j < k
            · have hjl : j < ls.length := by rw [← HL.out]; exact hjk
              obtain ⟨b, off, rfl, hb, h0⟩ := HR.out j hjl
              have s0 := h0 0 (.string ls[j]) rfl
              rw [Nat.mul_one, Nat.add_zero] at s0
              have hbw := HB5.out.trans (hbq.mono HB5.out.size)
              have c1 : wr.cell? ⟨b, off + j, none⟩ = some (.string ls[j]) := (hbw.cell (p := ⟨b, _, none⟩) hb).trans s0
              have hji : j < its2.length := by rw [HIL2.out]; omega
              have hyy : its2[j].bs = ls[j].data.toList := by
                have h1 : (bss its2)[j]? = (tx ls ++ frs r.data.toList)[j]? := by rw [HITS2.out]
                rw [List.getElem?_append_left (by rw [tx_length]; exact hjl), bss, List.getElem?_map, List.getElem?_eq_getElem hji, List.getElem?_eq_getElem (by rw [tx_length]; exact hjl), tx_at] at h1
                simpa using h1
              obtain ⟨b1, o1, rfl, hb1, h1⟩ := HOW2.out j hji
              have a0 := h1 0 (.slice its2[j].a its2[j].bs.length its2[j].c) rfl
              rw [Nat.mul_one, Nat.add_zero] at a0
              have hy := (HIT2.out its2[j] (List.getElem_mem hji)).below hbq
              have a1 : wr.cell? ⟨b1, o1 + j, none⟩ = some (.slice its2[j].a its2[j].bs.length its2[j].c) := (hbq.cell (p := ⟨b1, _, none⟩) hb1).trans a0
              have hst := fun i => string_of_bytes its2[j].a its2[j].bs.length its2[j].c its2[j].bs (wr.drewN i) rfl (hy.drewN i)
              have htt : txt its2[j].bs = ls[j] := by rw [hyy, txt_data]
              rw [htt] at hst
              obtain ⟨t, HT⟩ : ∃ t, Hid (ls[j] = t) := ⟨_, Lib.hid rfl⟩
              rw [HT.out] at c1 hst
              obtain ⟨y, HY⟩ : ∃ y, Hid (its2[j] = y) := ⟨_, Lib.hid rfl⟩
              rw [HY.out] at a1 hst
              have hjn : (j : Int) < (k : Int) := by omega
              have hjm : (j : Int) < (k : Int) + (m : Int) := by omega
              clear a0 hy hyy htt h1 s0 h0 hbq hbw
              go_wp2
              go_quiet (fail)
              go_wp2
              go_roundw
              case rel => exact ⟨j + 1, by omega, by go_num, below_more HBQ.out _⟩
              case measure => simp [intOf]; omega
            · obtain rfl : j = k := by omega
              clear hbq
              go_wp2
              go_loopw [14] (fun iv wq => ∃ i : Nat, i ≤ m ∧ iv = .int .i64 (i : Int) ∧ Below w5.heap.size w5 wq) (fun iv _ => m - (intOf iv).toNat)
              case atStart => exact ⟨0, Nat.zero_le _, rfl, HBQ.out⟩
              case round =>
                obtain ⟨i, hi, rfl, hbq⟩ := hrel
                have HBQ2 := Lib.hid hbq
                by_cases him : i < m
                · omega
                · clear hbq
                  go_wp2
                  go_ret
                  exact ⟨rfl, HB5.out.trans (HBQ2.out.mono HB5.out.size)⟩
        · have hg3 : ((m : Int) == 0) = false := by rw [beq_eq_false_iff_ne]; omega
          go_wp2
          go_loopw [13] (fun iv wq => ∃ j : Nat, j ≤ k ∧ iv = .int .i64 (j : Int) ∧ Below w5.heap.size w5 wq) (fun iv _ => k - (intOf iv).toNat)
          case atStart => exact ⟨0, Nat.zero_le _, rfl, Below.refl _ _⟩
          case round =>
            obtain ⟨j, hj, rfl, hbq⟩ := hrel
            have HBQ := Lib.hid hbq
            by_cases hjk : j < k
            · have hjl : j < ls.length := by rw [← HL.out]; exact hjk
              obtain ⟨b, off, rfl, hb, h0⟩ := HR.out j hjl
              have s0 := h0 0 (.string ls[j]) rfl
              rw [Nat.mul_one, Nat.add_zero] at s0
              have hbw := HB5.out.trans (hbq.mono HB5.out.size)
              have c1 : wr.cell? ⟨b, off + j, none⟩ = some (.string ls[j]) := (hbw.cell (p := ⟨b, _, none⟩) hb).trans s0
              have hji : j < its2.length := by rw [HIL2.out]; omega
              have hyy : its2[j].bs = ls[j].data.toList := by
                have h1 : (bss its2)[j]? = (tx ls ++ frs r.data.toList)[j]? := by rw [HITS2.out]
                rw [List.getElem?_append_left (by rw [tx_length]; exact hjl), bss, List.getElem?_map, List.getElem?_eq_getElem hji, List.getElem?_eq_getElem (by rw [tx_length]; exact hjl), tx_at] at h1
                simpa using h1
              obtain ⟨b1, o1, rfl, hb1, h1⟩ := HOW2.out j hji
              have a0 := h1 0 (.slice its2[j].a its2[j].bs.length its2[j].c) rfl
              rw [Nat.mul_one, Nat.add_zero] at a0
              have hy := (HIT2.out its2[j] (List.getElem_mem hji)).below hbq
              have a1 : wr.cell? ⟨b1, o1 + j, none⟩ = some (.slice its2[j].a its2[j].bs.length its2[j].c) := (hbq.cell (p := ⟨b1, _, none⟩) hb1).trans a0
              have hst := fun i => string_of_bytes its2[j].a its2[j].bs.length its2[j].c its2[j].bs (wr.drewN i) rfl (hy.drewN i)
              have htt : txt its2[j].bs = ls[j] := by rw [hyy, txt_data]
              rw [htt] at hst
              obtain ⟨t, HT⟩ : ∃ t, Hid (ls[j] = t) := ⟨_, Lib.hid rfl⟩
              rw [HT.out] at c1 hst
              obtain ⟨y, HY⟩ : ∃ y, Hid (its2[j] = y) := ⟨_, Lib.hid rfl⟩
              rw [HY.out] at a1 hst
              have hjn : (j : Int) < (k : Int) := by omega
              have hjm : (j : Int) < (k : Int) + (m : Int) := by omega
              clear a0 hy hyy htt h1 s0 h0 hbq hbw
              go_wp2
              go_quiet (fail)
              go_wp2
              go_roundw
              case rel => exact ⟨j + 1, by omega, by go_num, below_more HBQ.out _⟩
              case measure => simp [intOf]; omega
            · obtain rfl : j = k := by omega
              clear hbq
              go_wp2
              go_loopw [14] (fun iv wq => ∃ i : Nat, i ≤ m ∧ iv = .int .i64 (i : Int) ∧ Below w5.heap.size w5 wq) (fun iv _ => m - (intOf iv).toNat)
              case atStart => exact ⟨0, Nat.zero_le _, rfl, HBQ.out⟩
              case round =>
                obtain ⟨i, hi, rfl, hbq⟩ := hrel
                have HBQ2 := Lib.hid hbq
                by_cases him : i < m
                · have hii : i < its.length := by rw [HM.out]; exact him
                  have hji : j + i < its2.length := by rw [HIL2.out]; omega
                  have hyy : its2[j + i].bs = its[i].bs := by
                    have h1 : (bss its2)[j + i]? = (tx ls ++ frs r.data.toList)[j + i]? := by rw [HITS2.out]
                    rw [List.getElem?_append_right (by rw [tx_length, ← HL.out]; omega), tx_length, ← HL.out, Nat.add_sub_cancel_left, ← HITS.out, bss, bss, List.getElem?_map, List.getElem?_map, List.getElem?_eq_getElem hji, List.getElem?_eq_getElem hii] at h1
                    simpa using h1
                  obtain ⟨b1, o1, rfl, hb1, h1⟩ := HOW2.out (j + i) hji
                  have a0 := h1 0 (.slice its2[j + i].a its2[j + i].bs.length its2[j + i].c) rfl
                  rw [Nat.mul_one, Nat.add_zero] at a0
                  have hy := (HIT2.out its2[j + i] (List.getElem_mem hji)).below hbq
                  have a1 : wr.cell? ⟨b1, o1 + (j + i), none⟩ = some (.slice its2[j + i].a its2[j + i].bs.length its2[j + i].c) := (hbq.cell (p := ⟨b1, _, none⟩) hb1).trans a0
                  have hst := fun i1 => string_of_bytes its2[j + i].a its2[j + i].bs.length its2[j + i].c its2[j + i].bs (wr.drewN i1) rfl (hy.drewN i1)
                  obtain ⟨b2, o2, rfl, hb2, h2⟩ := HOW5.out i hii
                  have z0 := h2 0 (.slice its[i].a its[i].bs.length its[i].c) rfl
                  rw [Nat.mul_one, Nat.add_zero] at z0
                  have hz := (HIT5.out its[i] (List.getElem_mem hii)).below hbq
                  have z1 : wr.cell? ⟨b2, o2 + i, none⟩ = some (.slice its[i].a its[i].bs.length its[i].c) := (hbq.cell (p := ⟨b2, _, none⟩) hb2).trans z0
                  have hsz := fun i1 => string_of_bytes its[i].a its[i].bs.length its[i].c its[i].bs (wr.drewN i1) rfl (hz.drewN i1)
                  rw [hyy] at hst
                  obtain ⟨y, HY⟩ : ∃ y, Hid (its2[j + i] = y) := ⟨_, Lib.hid rfl⟩
                  rw [HY.out] at a1 hst hyy
                  obtain ⟨z, HZ⟩ : ∃ z, Hid (its[i] = z) := ⟨_, Lib.hid rfl⟩
                  rw [HZ.out] at z1 hst hsz hyy
                  rw [hyy] at a1
                  have him2 : (i : Int) < (m : Int) := by omega
                  have hjm : (j : Int) + (i : Int) < (j : Int) + (m : Int) := by omega
                  have hjw : IntKind.i64.wrap ((j : Int) + (i : Int)) = (j : Int) + (i : Int) := by rw [IntKind.wrap_i64]; omega
                  have hjt : ((j : Int) + (i : Int)).toNat = j + i := by omega
                  have hj0 : (0 : Int) ≤ (j : Int) + (i : Int) := by omega
                  clear a0 hy hyy h1 z0 hz h2 hbq
                  go_wp2
                  go_quiet (fail)
                  go_wp2
                  go_roundw
                  case rel => exact ⟨i + 1, by omega, by go_num, below_more HBQ2.out _⟩
                  case measure => simp [intOf]; omega
                · clear hbq
                  go_wp2
                  go_ret
                  exact ⟨rfl, HB5.out.trans (HBQ2.out.mono HB5.out.size)⟩
      · subst hA
        have hAn : n = 0 ∨ 0 < n := by omega
        clear hcap1 hcap2 hgA
        have HFLAG := Lib.hid True.intro
        go_wp2_with (first
          | (go_at_call 14; have HF1 := HFLAG; refine (scan_laid r wr _ _ _ (by omega)).mono ?_; rintro e w2 ⟨v, its, rfl, hits, hown, hit, hb2⟩; obtain ⟨A2, c2, rfl⟩ := own_slice hown; obtain ⟨m, hm⟩ : ∃ m, its.length = m := ⟨_, rfl⟩
             obtain ⟨q, hq⟩ : ∃ q, tot (frs r.data.toList) = q := ⟨_, rfl⟩
             rw [hm] at hown ⊢; rw [hq]; have HM := Lib.hid hm; have HQ := Lib.hid hq; have HQ0 := Lib.hid (show m = 0 → q = 0 from fun h => (by rw [← hq, ← hits, List.eq_nil_of_length_eq_zero (hm.trans h)]; rfl)); have HMS := Lib.hid (show m ≤ r.size by rw [← hm, ← bss_length, hits]; exact HRF.out); have HQS := Lib.hid (show q ≤ r.size by rw [← hq]; exact frs_tot r); have HOW := Lib.hid (RowC.own itCells_length (by decide) hown).2; have HIT := Lib.hid (fun x hx => (hit x hx).bytes); have HITS := Lib.hid hits; have HB2 := Lib.hid (HBEL.out.trans (hb2.mono HBEL.out.size)); have HBU2 := Lib.hid (HBUF.out.below hb2); clear hown hit hb2 hits hm hq HF1 HFLAG)
          | (at_builtin; have HSEC := HB3; go_loud (refine append_text rfl _ _ rfl w2.heap.size A3 n c3 (cat (tx ls)) rfl w3 r HB3.out rfl (by rw [← HNN.out]; omega) ?_); intro A4 n4 c4 w4 hn4 hb4 hk4; subst hn4; have HB4 := Lib.hid hb4; have hk24 := HK3.out.trans hk4.below; have HBX := Lib.hid (HB2.out.trans (hk24.mono HB2.out.size)); have HOWX := Lib.hid ((HOW.out.below hk24).more hk24.size); have HITX := Lib.hid (fun x hx => ((HIT.out x hx).below hk24).more hk24.size); clear hb4 hk4 hk24)
          | (at_builtin; go_loud (refine append_fresh rfl _ _ rfl w2 rfl ⟨gA, 0, none⟩ n c (cat (tx ls)) rfl HNN.out (by omega) HBU2.out.bytes ?_); intro A3 c3 w3 hbuf3 hk3; have HB3 := Lib.hid hbuf3; have HK3 := Lib.hid hk3; clear hk3 hbuf3))
        refine (scan_any (cat (tx ls) ++ r.data.toList) _ c4 A4 w4 (by rw [List.length_append, ← HNN.out, ← size_eq]) (by omega) HB4.out.bytes).mono ?_
        rintro e w5 ⟨v5, its2, rfl, hits2, hown2, hit2, hb5⟩
        obtain ⟨A5, c5, rfl⟩ := own_slice hown2
        rw [HCAT.out] at hits2 ⊢
        rw [tot_append, ← HTOT.out, HQ.out]
        have hil2 : its2.length = k + m := by rw [← bss_length, hits2, List.length_append, tx_length, ← HL.out, ← HITS.out, bss_length, HM.out]
        rw [hil2] at hown2 ⊢
        have HOW2 := Lib.hid (RowC.own itCells_length (by decide) hown2).2
        have HIT2 := Lib.hid (fun x hx => (hit2 x hx).bytes)
        have HITS2 := Lib.hid hits2
        have HIL2 := Lib.hid hil2
        have HB5 := Lib.hid (HBX.out.trans (hb5.mono HBX.out.size))
        have HOW5 := Lib.hid ((HOWX.out.below hb5).more hb5.size)
        have HIT5 := Lib.hid (fun x hx => ((HITX.out x hx).below hb5).more hb5.size)
        clear hown2 hit2 hb5 hits2 hil2
        have hm1 := HMS.out
        have hq1 := HQS.out
        have hcast : ((n + q : Nat) : Int) = (n : Int) + (q : Int) := by omega
        rw [hcast]
        clear hcast
        by_cases hmz : m = 0
        · have hqz := HQ0.out hmz
          have HMZ := Lib.hid hmz
          have hg3 : ((m : Int) == 0) = true := by rw [beq_iff_eq]; omega
          have hg4 : ((k : Int) + (m : Int) != (k : Int) + (m : Int)) = false := by rw [bne_eq_false_iff_eq]
          subst hqz
          go_wp2
          go_loopw [13] (fun iv wq => ∃ j : Nat, j ≤ k ∧ iv = .int .i64 (j : Int) ∧ Below w5.heap.size w5 wq) (fun iv _ => k - (intOf iv).toNat)
          case atStart => exact ⟨0, Nat.zero_le _, rfl, Below.refl _ _⟩
          case round =>
            obtain ⟨j, hj, rfl, hbq⟩ := hrel
            have HBQ := Lib.hid hbq
            by_cases hjk : j < k
            · have hjl : j < ls.length := by rw [← HL.out]; exact hjk
              obtain ⟨b, off, rfl, hb, h0⟩ := HR.out j hjl
              have s0 := h0 0 (.string ls[j]) rfl
              rw [Nat.mul_one, Nat.add_zero] at s0
              have hbw := HB5.out.trans (hbq.mono HB5.out.size)
              have c1 : wr.cell? ⟨b, off + j, none⟩ = some (.string ls[j]) := (hbw.cell (p := ⟨b, _, none⟩) hb).trans s0
              have hji : j < its2.length := by rw [HIL2.out]; omega
              have hyy : its2[j].bs = ls[j].data.toList := by
                have h1 : (bss its2)[j]? = (tx ls ++ frs r.data.toList)[j]? := by rw [HITS2.out]
                rw [List.getElem?_append_left (by rw [tx_length]; exact hjl), bss, List.getElem?_map, List.getElem?_eq_getElem hji, List.getElem?_eq_getElem (by rw [tx_length]; exact hjl), tx_at] at h1
                simpa using h1
              obtain ⟨b1, o1, rfl, hb1, h1⟩ := HOW2.out j hji
              have a0 := h1 0 (.slice its2[j].a its2[j].bs.length its2[j].c) rfl
              rw [Nat.mul_one, Nat.add_zero] at a0
              have hy := (HIT2.out its2[j] (List.getElem_mem hji)).below hbq
              have a1 : wr.cell? ⟨b1, o1 + j, none⟩ = some (.slice its2[j].a its2[j].bs.length its2[j].c) := (hbq.cell (p := ⟨b1, _, none⟩) hb1).trans a0
              have hst := fun i => string_of_bytes its2[j].a its2[j].bs.length its2[j].c its2[j].bs (wr.drewN i) rfl (hy.drewN i)
              have htt : txt its2[j].bs = ls[j] := by rw [hyy, txt_data]
              rw [htt] at hst
              obtain ⟨t, HT⟩ : ∃ t, Hid (ls[j] = t) := ⟨_, Lib.hid rfl⟩
              rw [HT.out] at c1 hst
              obtain ⟨y, HY⟩ : ∃ y, Hid (its2[j] = y) := ⟨_, Lib.hid rfl⟩
              rw [HY.out] at a1 hst
              have hjn : (j : Int) < (k : Int) := by omega
              have hjm : (j : Int) < (k : Int) + (m : Int) := by omega
              clear a0 hy hyy htt h1 s0 h0 hbq hbw
              go_wp2
              go_quiet (fail)
              go_wp2
              go_roundw
              case rel => exact ⟨j + 1, by omega, by go_num, below_more HBQ.out _⟩
              case measure => simp [intOf]; omega
            · obtain rfl : j = k := by omega
              clear hbq
              go_wp2
              go_loopw [14] (fun iv wq => ∃ i : Nat, i ≤ m ∧ iv = .int .i64 (i : Int) ∧ Below w5.heap.size w5 wq) (fun iv _ => m - (intOf iv).toNat)
              case atStart => exact ⟨0, Nat.zero_le _, rfl, HBQ.out⟩
              case round =>
                obtain ⟨i, hi, rfl, hbq⟩ := hrel
                have HBQ2 := Lib.hid hbq
                by_cases him : i < m
                · omega
                · clear hbq
                  go_wp2
                  go_ret
                  exact ⟨rfl, HB5.out.trans (HBQ2.out.mono HB5.out.size)⟩
        · have hg3 : ((m : Int) == 0) = false := by rw [beq_eq_false_iff_ne]; omega
          go_wp2
          go_loopw [13] (fun iv wq => ∃ j : Nat, j ≤ k ∧ iv = .int .i64 (j : Int) ∧ Below w5.heap.size w5 wq) (fun iv _ => k - (intOf iv).toNat)
          case atStart => exact ⟨0, Nat.zero_le _, rfl, Below.refl _ _⟩
          case round =>
            obtain ⟨j, hj, rfl, hbq⟩ := hrel
            have HBQ := Lib.hid hbq
            by_cases hjk : j < k
            · have hjl : j < ls.length := by rw [← HL.out]; exact hjk
              obtain ⟨b, off, rfl, hb, h0⟩ := HR.out j hjl
              have s0 := h0 0 (.string ls[j]) rfl
              rw [Nat.mul_one, Nat.add_zero] at s0
              have hbw := HB5.out.trans (hbq.mono HB5.out.size)
              have c1 : wr.cell? ⟨b, off + j, none⟩ = some (.string ls[j]) := (hbw.cell (p := ⟨b, _, none⟩) hb).trans s0
              have hji : j < its2.length := by rw [HIL2.out]; omega
              have hyy : its2[j].bs = ls[j].data.toList := by
                have h1 : (bss its2)[j]? = (tx ls ++ frs r.data.toList)[j]? := by rw [HITS2.out]
                rw [List.getElem?_append_left (by rw [tx_length]; exact hjl), bss, List.getElem?_map, List.getElem?_eq_getElem hji, List.getElem?_eq_getElem (by rw [tx_length]; exact hjl), tx_at] at h1
                simpa using h1
              obtain ⟨b1, o1, rfl, hb1, h1⟩ := HOW2.out j hji
              have a0 := h1 0 (.slice its2[j].a its2[j].bs.length its2[j].c) rfl
              rw [Nat.mul_one, Nat.add_zero] at a0
              have hy := (HIT2.out its2[j] (List.getElem_mem hji)).below hbq
              have a1 : wr.cell? ⟨b1, o1 + j, none⟩ = some (.slice its2[j].a its2[j].bs.length its2[j].c) := (hbq.cell (p := ⟨b1, _, none⟩) hb1).trans a0
              have hst := fun i => string_of_bytes its2[j].a its2[j].bs.length its2[j].c its2[j].bs (wr.drewN i) rfl (hy.drewN i)
              have htt : txt its2[j].bs = ls[j] := by rw [hyy, txt_data]
              rw [htt] at hst
              obtain ⟨t, HT⟩ : ∃ t, Hid (ls[j] = t) := ⟨_, Lib.hid rfl⟩
              rw [HT.out] at c1 hst
              obtain ⟨y, HY⟩ : ∃ y, Hid (its2[j] = y) := ⟨_, Lib.hid rfl⟩
              rw [HY.out] at a1 hst
              have hjn : (j : Int) < (k : Int) := by omega
              have hjm : (j : Int) < (k : Int) + (m : Int) := by omega
              clear a0 hy hyy htt h1 s0 h0 hbq hbw
              go_wp2
              go_quiet (fail)
              go_wp2
              go_roundw
              case rel => exact ⟨j + 1, by omega, by go_num, below_more HBQ.out _⟩
              case measure => simp [intOf]; omega
            · obtain rfl : j = k := by omega
              clear hbq
              go_wp2
              go_loopw [14] (fun iv wq => ∃ i : Nat, i ≤ m ∧ iv = .int .i64 (i : Int) ∧ Below w5.heap.size w5 wq) (fun iv _ => m - (intOf iv).toNat)
              case atStart => exact ⟨0, Nat.zero_le _, rfl, HBQ.out⟩
              case round =>
                obtain ⟨i, hi, rfl, hbq⟩ := hrel
                have HBQ2 := Lib.hid hbq
                by_cases him : i < m
                · have hii : i < its.length := by rw [HM.out]; exact him
                  have hji : j + i < its2.length := by rw [HIL2.out]; omega
                  have hyy : its2[j + i].bs = its[i].bs := by
                    have h1 : (bss its2)[j + i]? = (tx ls ++ frs r.data.toList)[j + i]? := by rw [HITS2.out]
                    rw [List.getElem?_append_right (by rw [tx_length, ← HL.out]; omega), tx_length, ← HL.out, Nat.add_sub_cancel_left, ← HITS.out, bss, bss, List.getElem?_map, List.getElem?_map, List.getElem?_eq_getElem hji, List.getElem?_eq_getElem hii] at h1
                    simpa using h1
                  obtain ⟨b1, o1, rfl, hb1, h1⟩ := HOW2.out (j + i) hji
                  have a0 := h1 0 (.slice its2[j + i].a its2[j + i].bs.length its2[j + i].c) rfl
                  rw [Nat.mul_one, Nat.add_zero] at a0
                  have hy := (HIT2.out its2[j + i] (List.getElem_mem hji)).below hbq
                  have a1 : wr.cell? ⟨b1, o1 + (j + i), none⟩ = some (.slice its2[j + i].a its2[j + i].bs.length its2[j + i].c) := (hbq.cell (p := ⟨b1, _, none⟩) hb1).trans a0
                  have hst := fun i1 => string_of_bytes its2[j + i].a its2[j + i].bs.length its2[j + i].c its2[j + i].bs (wr.drewN i1) rfl (hy.drewN i1)
                  obtain ⟨b2, o2, rfl, hb2, h2⟩ := HOW5.out i hii
                  have z0 := h2 0 (.slice its[i].a its[i].bs.length its[i].c) rfl
                  rw [Nat.mul_one, Nat.add_zero] at z0
                  have hz := (HIT5.out its[i] (List.getElem_mem hii)).below hbq
                  have z1 : wr.cell? ⟨b2, o2 + i, none⟩ = some (.slice its[i].a its[i].bs.length its[i].c) := (hbq.cell (p := ⟨b2, _, none⟩) hb2).trans z0
                  have hsz := fun i1 => string_of_bytes its[i].a its[i].bs.length its[i].c its[i].bs (wr.drewN i1) rfl (hz.drewN i1)
                  rw [hyy] at hst
                  obtain ⟨y, HY⟩ : ∃ y, Hid (its2[j + i] = y) := ⟨_, Lib.hid rfl⟩
                  rw [HY.out] at a1 hst hyy
                  obtain ⟨z, HZ⟩ : ∃ z, Hid (its[i] = z) := ⟨_, Lib.hid rfl⟩
                  rw [HZ.out] at z1 hst hsz hyy
                  rw [hyy] at a1
                  have him2 : (i : Int) < (m : Int) := by omega
                  have hjm : (j : Int) + (i : Int) < (j : Int) + (m : Int) := by omega
                  have hjw : IntKind.i64.wrap ((j : Int) + (i : Int)) = (j : Int) + (i : Int) := by rw [IntKind.wrap_i64]; omega
                  have hjt : ((j : Int) + (i : Int)).toNat = j + i := by omega
                  have hj0 : (0 : Int) ≤ (j : Int) + (i : Int) := by omega
                  clear a0 hy hyy h1 z0 hz h2 hbq
                  go_wp2
                  go_quiet (fail)
                  go_wp2
                  go_roundw
                  case rel => exact ⟨i + 1, by omega, by go_num, below_more HBQ2.out _⟩
                  case measure => simp [intOf]; omega
                · clear hbq
                  go_wp2
                  go_ret
                  exact ⟨rfl, HB5.out.trans (HBQ2.out.mono HB5.out.size)⟩
theorem joins_walk (ls : List ByteArray) (A0 : Option Addr) (n0 c0 : Nat) (r : ByteArray) (w : World) (hl : n0 = ls.length) (hm : n0 ≤ maxLen) (hrs : r.size ≤ maxLen) (hs : ∀ s ∈ ls, s.size ≤ maxLen) (hr : RowC sCells 1 w w.heap.size A0 ls) :
    Calls Try.prog 8 #[.slice A0 n0 c0, .string r] w fun e w' => e = .returned (.bool true) ∧ Below w.heap.size w w' := by
  by_cases h : 60 < n0 ∨ 4000 < r.size
  · exact joins_big ls A0 n0 c0 r w hm hrs h
  · exact joins_small ls A0 n0 c0 r w hl (by omega) (by omega) hs hr
end Go.Proofs.Ytcolghibbiijfaa
