/- source: the walk of SourceAll. -/
import Derived.Test.YtkcnmajjfljilaaGreatDoorSoQ
import Derived.Test.YtkcnmajjfljilaaGreatDoorSoFO
namespace Go.Proofs.YtkcnmajjfljilaaGreatDoor
open Go Go.ChangeShapes Go.WideShapes Go.ChangeAt Go.RowKit Go.ChangeMaps Go.MapKept
set_option linter.unusedVariables false
set_option linter.unusedSimpArgs false

theorem two_at {W : World} {g : Nat} {k i : Nat} (hk : k < 256) (hi : i < 256) (h : Cells W g #[.int .u8 (k : Int), .int .u8 (i : Int)] 5) : BytesAt W W.heap.size (some ⟨g, 0, none⟩) [UInt8.ofNat k, UInt8.ofNat i] := by
  intro j hj
  refine ⟨g, 0, rfl, h.lt, ?_⟩
  rw [Nat.zero_add, h.cell]
  have e : ∀ n : Nat, n < 256 → ((UInt8.ofNat n).toNat : Int) = (n : Int) := fun n hn => by rw [UInt8.toNat_ofNat']; omega
  have h2 : j = 0 ∨ j = 1 := by simp at hj; omega
  rcases h2 with rfl | rfl
  · show some (Value.int .u8 (k : Int)) = some (.int .u8 ((UInt8.ofNat k).toNat : Int)); rw [e k hk]
  · show some (Value.int .u8 (i : Int)) = some (.int .u8 ((UInt8.ofNat i).toNat : Int)); rw [e i hi]
/-- The logs while they are filled. -/
structure Fill (Q : Nat → Prop) (B s f N : Nat) (cN : Nat → Nat) (k i : Nat) (W : World) : Prop where
  ex : ∃ ps used M S, Src Q B s f 1048576 used M 50 ps S W ∧ Fil ps N cN k i ∧ used ≤ 400 * (k : Int) + 10 * (i : Int) ∧ M ≤ 10 + 200 * k + 4 * i
section
variable {Q : Nat → Prop} {B s f N k i : Nat} {cN : Nat → Nat} {W : World}
theorem fill_append (h : Fill Q B s f N cN k i W) (hk : k < N) (hN : N ≤ 4) (hi : i < 31) (hBw : B ≤ W.heap.size) (hT : Tab B W) :
    Calls Tryz.prog 13 #[.pointer (some ⟨s, 0, none⟩), .int .i64 (k : Int), .slice (some ⟨W.heap.size, 0, none⟩) 2 2] (W.alloc (.cells #[.int .u8 (k : Int), .int .u8 (i : Int)] 5)) fun e w' => e = .returned (.tuple #[.int .i64 (i : Int), .int .i64 0]) ∧ Fill Q B s f N cN k (i + 1) w' ∧ Turn Q B W w' := by
  obtain ⟨ps, used, M, S, h1, h2, h3, h4⟩ := h.ex
  have hb : Below W.heap.size W (W.alloc (.cells #[.int .u8 (k : Int), .int .u8 (i : Int)] 5)) := (Below.refl _ W).alloc (Nat.le_refl _) _
  have hkl : k < ps.length := by rw [h2.len]; exact hk
  obtain ⟨h5, h6⟩ := h2.at_ hkl
  have h7 := h2.small k hkl
  have hap := append_src (h1.below hb) hkl (by decide) (by omega) (by omega) (by omega) (Nat.le_trans hBw hb.size) (hT.below (hb.mono hBw)) ⟨W.heap.size, 0, none⟩ 2 2 [UInt8.ofNat k, UInt8.ofNat i] rfl (by simp) (two_at (by omega) (by omega) (Cells.new W _ _)) (by omega) (by simp; omega)
  rw [h6] at hap
  refine hap.mono ?_
  rintro e w' ⟨he, S', q1, q2⟩
  exact ⟨he, ⟨_, _, _, S', q1, h2.append hkl 50, by simp; omega, by omega⟩, (Turn.of hb hBw).trans q2⟩
theorem fill_sync (h : Fill Q B s f N cN k i W) (hk : k < N) (hN : N ≤ 4) (hi : i ≤ 31) (hc : i = cN k) (hBw : B ≤ W.heap.size) (hT : Tab B W) :
    Calls Tryz.prog 14 #[.pointer (some ⟨s, 0, none⟩), .int .i64 (k : Int)] W fun e w' => e = .returned (.int .i64 0) ∧ Fill Q B s f N cN (k + 1) 0 w' ∧ Turn Q B W w' := by
  obtain ⟨ps, used, M, S, h1, h2, h3, h4⟩ := h.ex
  have hkl : k < ps.length := by rw [h2.len]; exact hk
  refine (sync_src h1 hkl (by omega) hBw hT).mono ?_
  rintro e w' ⟨he, S', q1, q2⟩
  exact ⟨he, ⟨_, _, _, S', q1, h2.sync hkl hc, by omega, by omega⟩, q2⟩
end
/-- Where the plans stand. -/
structure Plo (ps : List Pt) (N nb : Nat) (w5 : World) (i : Nat) (nx : List Int) (l : List Rg) (A : Option Addr) (W : World) : Prop where
  row : RowC rgCells 2 W W.heap.size A l
  ok : Wasok ps l
  len : nx.length = 4
  at_ : ∀ k (h : k < l.length), nx[k]? = some l[k].t
  cells : Cells W nb (iA nx) 44
  rem : remS ps l + (i : Int) ≤ 124
  below : Below w5.heap.size w5 W
theorem remS_nonneg {ps : List Pt} {l : List Rg} : 0 ≤ remS ps l := by
  unfold remS
  generalize heapsL ps l = a
  induction a with
  | nil => simp [posS]
  | cons y t ih => rw [posS_cons]; omega
theorem start_ok {ps : List Pt} {N : Nat} {cN : Nat → Nat} (hf : Full ps N cN) (hN : 1 ≤ N ∧ N ≤ 4) (hc : ∀ k, cN k ≤ 31) : Wasok ps (List.replicate N noRg) ∧ remS ps (List.replicate N noRg) ≤ 124 := by
  refine ⟨⟨right_nones hN.1 hN.2, by rw [List.length_replicate, hf.len], fun k h h2 => ?_⟩, ?_⟩
  · rw [List.getElem_replicate, hf.dur k h2]
    show (0 : Int) ≤ _
    omega
  · have hl : (heapsL ps (List.replicate N noRg)).length = N := by rw [heapsL_length (by rw [List.length_replicate, hf.len]), hf.len]
    have := (posS_in (C := 31) (by decide) (xs := heapsL ps (List.replicate N noRg)) (fun x hx => by
      obtain ⟨j, hj, rfl⟩ := List.getElem_of_mem hx
      have hj2 : j < ps.length := by rw [hf.len]; omega
      rw [heapsL_at hj2 (by rw [List.length_replicate]; omega) hj, hf.dur j hj2, List.getElem_replicate]
      have := hc j
      show (cN j : Int) - 0 ≤ 31
      omega)).2
    unfold remS
    rw [hl] at this
    omega
/-- What a plan and its records are. -/
structure Step (ps : List Pt) (N : Nat) (l pl : List Rg) (i : Nat) (xs : List R3) (nx fin : List Int) (most : Int) : Prop where
  ok : Wasok ps pl
  few : (xs.length : Int) ≤ most
  seqs : Seqs N nx (xs.map keyOf) fin
  len : fin.length = 4
  at_ : ∀ k (h : k < pl.length), fin[k]? = some pl[k].t
  rem : xs.length ≠ 0 → remS ps pl + ((i + 1 : Nat) : Int) ≤ 124
  none_ : xs.length = 0 → ∀ k (h : k < pl.length) (h2 : k < ps.length), pl[k].t = ps[k].dur
theorem plan_step {ps : List Pt} {N : Nat} {l : List Rg} {i : Nat} {xs : List R3} {nx : List Int} {most : Int} (hw : Wasok ps l) (hN : ps.length = N) (hf : Few ps) (hm : 1 ≤ most) (hl : nx.length = 4) (hat : ∀ k (h : k < l.length), nx[k]? = some l[k].t) (hr : remS ps l + (i : Int) ≤ 124)
    (hk : xs.map keyOf = keysTo (planL ps l most) ps.length) : Step ps N l (planL ps l most) i xs nx (nxTo nx (planL ps l most) ps.length) most := by
  obtain ⟨hp, hfo⟩ := hw.plan (most := most) hf
  have hlen := hw.len
  have hpl := planL_length (most := most) hlen
  have h4 := (right_parts hp.right).2.1
  have hcount := keysTo_plan hw hp l.length (Nat.le_refl _)
  have htk : (planN ps l most).take l.length = planN ps l most := List.take_of_length_le (by rw [planN_length hlen, hlen]; exact Nat.le_refl _)
  rw [htk] at hcount
  have hxl : (xs.length : Int) = (planN ps l most).sum := by
    rw [← hcount, hlen, ← hk, List.length_map]
  have hsum := planN_sum (ps := ps) (l := l) (most := most)
  have hrp := rem_plan hw hp
  have hr0 := remS_nonneg (ps := ps) (l := l)
  have hsq := seqs_all hp (nx := nx) (by omega) (fun k h => by rw [hat k (by omega), plan_f hw h (by omega)]) ps.length (by omega)
  refine ⟨hp, by omega, ?_, by rw [nxTo_length, hl], fun k h => nxTo_at (by omega) ps.length k (by omega) h (by omega), fun hne => by omega, fun h0 => rem_zero hp (by omega)⟩
  rw [hk, ← hN]
  have e : (planL ps l most).length = ps.length := hpl
  rw [e] at hsq
  exact hsq
theorem drop_key {xs : List R3} {j : Nat} (hj : j < xs.length) : (xs.map keyOf).drop j = keyOf xs[j] :: (xs.map keyOf).drop (j + 1) := by
  rw [List.drop_eq_getElem_cons (by rw [List.length_map]; exact hj), List.getElem_map]
set_option maxRecDepth 100000 in
set_option maxHeartbeats 64000000 in
theorem sall_a (cs ms : List Int) (hcs : ∀ x ∈ cs, 0 ≤ x ∧ x ≤ 255) (hms : ∀ x ∈ ms, 0 ≤ x ∧ x ≤ 65535) (A0 A1 : Option Addr) (c0 c1 : Nat) (hmax0 : cs.length ≤ 9223372036854775807) (hmax1 : ms.length ≤ 9223372036854775807) (w : World) (hA : RowC (kC .u8) 1 w w.heap.size A0 cs) (hA1 : RowC (kC .u16) 1 w w.heap.size A1 ms) (hT : Tab w.heap.size w) :
    Calls Tryz.prog 5 #[.slice A0 cs.length c0, .slice A1 0 c1] w fun e w' => e = .returned (.bool true) ∧ Below w.heap.size w w' := by
  have HA := Lib.hid (alive_so w hT)
  have HTAB := Lib.hid (fun (W1 W : World) (hb1 : Below w.heap.size w W1) (hb : Below W1.heap.size W1 W) => ((⟨Nat.lt_of_lt_of_le hT.1 hb1.size, ((hT.below hb1).below (hb.mono hb1.size)).2⟩ : Tab W1.heap.size W)))
  have HR0 := Lib.hid hA
  have HR1 := Lib.hid hA1
  have HCS := Lib.hid hcs
  have HMS := Lib.hid hms
  obtain ⟨N, hNd⟩ : ∃ N, N = min (max cs.length 1) 4 := ⟨_, rfl⟩
  have hN : 1 ≤ N ∧ N ≤ 4 := by omega
  have HND := Lib.hid hNd
  have hNI : min (max (cs.length : Int) 1) 4 = (N : Int) := by omega
  obtain ⟨cN, hcN⟩ : ∃ cN : Nat → Nat, cN = fun j => ((cs[j]?.getD 0) % 32).toNat := ⟨_, rfl⟩
  have HC31 := Lib.hid (show ∀ k, cN k ≤ 31 from fun k => by rw [hcN]; simp only; omega)
  have HCAT := Lib.hid (show ∀ k (h : k < cs.length), cs[k] % 32 = (cN k : Int) from fun k h => by
    have := hcs _ (List.getElem_mem h)
    rw [hcN]; simp only [List.getElem?_eq_getElem h, Option.getD_some]; omega)
  have HCZ := Lib.hid (show ∀ k, cs.length ≤ k → cN k = 0 from fun k h => by rw [hcN]; simp [List.getElem?_eq_none h])
  clear hT hA hA1 hcs hms hNd hcN
  go_enter Tryz.func5, Tryz.ntmps5
  go_wp2_with (first
    | (go_at_call 7; refine HA.out.mono ?_; rintro e w1 ⟨rfl, h1⟩; have HB1 := Lib.hid h1; clear h1)
    | (go_at_call 11; go_loud (refine (new_any (Kp := fun _ => False) 1048576 rfl w1 (fun _ h => h.elim)).mono ?_; rintro e w2 ⟨f, rfl, h1, h2⟩; have HR2 := Lib.hid h1; have HB2 := Lib.hid h2; clear h1 h2))
    | (go_at_call 12; go_loud (refine (open_src HR2.out (WfK.new (room := 1048576) rfl) gl_new (by simp [newFs]) N hN (by omega) HB2.out.size (HTAB.out _ _ HB1.out HB2.out) ⟨by decide, by decide⟩ (fun _ h => h.elim)).mono ?_; rintro e w3 ⟨s, ps, S3, rfl, hs, hl, hn, ht⟩; have HF3 := Lib.hid (show Fill (fun i => False ∨ i = s) w1.heap.size s f N cN 0 0 w3 from ⟨_, _, _, S3, hs, Fil.start hl hn, by decide, by omega⟩); have HB3 := Lib.hid (HB2.out.trans ht.below); clear hs hl hn ht)))
  go_loopw [10] (fun kv wr => ∃ k : Nat, kv = .int .i64 (k : Int) ∧ k ≤ min cs.length 4 ∧ Hid (Fill (fun i => False ∨ i = s) w1.heap.size s f N cN k 0 wr) ∧ Hid (Below w1.heap.size w1 wr)) (fun kv _ => 4 - (intOf kv).toNat)
  case atStart => exact ⟨0, rfl, Nat.zero_le _, HF3, HB3⟩
  case round =>
    obtain ⟨k, rfl, hk, HF, HB⟩ := hrel
    by_cases hlt : k < min cs.length 4
    · have hk1 : k < cs.length := by omega
      have hk2 : (k : Int) < (cs.length : Int) := by omega
      have hk3 : (k : Int) < 4 := by omega
      have hkN : k < N := by have := HND.out; omega
      have hk4 : k < 256 := by omega
      have hx := HCS.out _ (List.getElem_mem hk1)
      have hxc := HCAT.out k hk1
      have hc31 := HC31.out k
      have HROW := Lib.hid (fun (W : World) (h : Below w1.heap.size w1 W) => kC_r (HR0.out.below (HB1.out.trans (h.mono HB1.out.size))) k hk1)
      obtain ⟨x, hx0⟩ : ∃ x, cs[k] = x := ⟨_, rfl⟩
      rw [hx0] at hx hxc HROW
      obtain ⟨c, hc0⟩ : ∃ c, cN k = c := ⟨_, rfl⟩
      rw [hc0] at hxc hc31
      have HCC := Lib.hid hc0.symm
      have s1 : IntKind.u8.wrap (k : Int) = (k : Int) := by rw [IntKind.wrap_u8]; omega
      obtain ⟨b0, off0, hA0, hb0, _⟩ := HROW.out wr HB.out
      subst hA0
      have HCELL := Lib.hid (fun (W : World) (h : Below w1.heap.size w1 W) => (show W.cell? ⟨b0, off0 + k, none⟩ = some (.int .u8 x) from by
        obtain ⟨b2, off2, e, _, hc⟩ := HROW.out W h
        injection e with e; injection e with e1 e2; subst e1 e2
        exact hc))
      clear hx0 hc0 HROW
      obtain ⟨w0, rfl⟩ : ∃ w0, w0 = wr := ⟨_, rfl⟩
      go_wp2_with fail
      go_loopw [11] (fun iv wr => ∃ i : Nat, iv = .int .i64 (i : Int) ∧ i ≤ c ∧ Hid (Fill (fun i => False ∨ i = s) w1.heap.size s f N cN k i wr) ∧ Hid (Below w1.heap.size w1 wr)) (fun iv _ => c - (intOf iv).toNat)
      case atStart => exact ⟨0, rfl, Nat.zero_le _, HF, HB⟩
      case round =>
        obtain ⟨i, rfl, hi, HFi, HBi⟩ := hrel
        have hcell := HCELL.out wr HBi.out
        by_cases hic : i < c
        · have hic2 : (i : Int) < (c : Int) := by omega
          have hi4 : i < 256 := by omega
          have s2 : IntKind.u8.wrap (i : Int) = (i : Int) := by rw [IntKind.wrap_u8]; omega
          go_wp2_with (go_at_call 13; go_loud (refine (fill_append HFi.out hkN hN.2 (by omega) HBi.out.size (HTAB.out _ _ HB1.out HBi.out)).mono ?_; rintro e w5 ⟨rfl, q1, q2⟩; have HF5 := Lib.hid q1; have HB5 := Lib.hid (HBi.out.trans q2.below); clear q1 q2))
          go_roundw
          case rel => exact ⟨i + 1, by go_num, hic, HF5, HB5⟩
          case measure => simp [intOf]; omega
        · obtain rfl : i = c := by omega
          have hic2 : ¬ (i : Int) < (i : Int) := by omega
          go_wp2_with (go_at_call 14; go_loud (refine (fill_sync HFi.out hkN hN.2 hc31 HCC.out HBi.out.size (HTAB.out _ _ HB1.out HBi.out)).mono ?_; rintro e w5 ⟨rfl, q1, q2⟩; have HF5 := Lib.hid q1; have HB5 := Lib.hid (HBi.out.trans q2.below); clear q1 q2))
          go_roundw
          case rel => exact ⟨k + 1, by go_num, by omega, HF5, HB5⟩
          case measure => simp [intOf]; omega
    · have hend : ¬ ((k : Int) < (cs.length : Int)) ∨ ((k : Int) < (cs.length : Int) ∧ ¬ (k : Int) < 4) := by omega
      obtain ⟨ps, used, M, S, hs, hfil, _, hM⟩ := HF.out.ex
      have HSRC := Lib.hid hs
      have HFULL := Lib.hid (show Full ps N cN from hfil.full (fun j h1 h2 => HCZ.out j (by have := HND.out; omega)))
      have hM2 : M ≤ 1000000 := by omega
      have hpN : ps.length = N := hfil.len
      have HPN := Lib.hid hpN
      obtain ⟨hw0, hrem0⟩ := start_ok HFULL.out hN HC31.out
      have HW0 := Lib.hid hw0
      have HREM0 := Lib.hid hrem0
      have HFEW := Lib.hid (show Few ps from fun j hj => by rw [HFULL.out.dur j hj]; have := HC31.out j; omega)
      have HN := Lib.hid hN
      have hmin : min N 5 = N := by omega
      have HST := Lib.hid (fun W => rstart_walk N (by unfold maxLen; omega) W)
      rw [hmin] at HST
      clear hs hfil hw0 hrem0 hM hmin
      rcases hend with hend | ⟨hend, hend2⟩
      · go_wp2_with (go_at_call 15; go_loud (refine (HST.out _).mono ?_; rintro e w5 ⟨Aw, cw, rfl, r1, r2⟩; have HRW := Lib.hid r1; have HB5 := Lib.hid (HB.out.trans (r2.mono HB.out.size)); have HS5 := Lib.hid (HSRC.out.below r2); clear r1 r2))
        obtain ⟨nb, hnb⟩ : ∃ nb, w5.heap.size = nb := ⟨_, rfl⟩
        have HNB := Lib.hid hnb
        have hal : Below w5.heap.size w5 (w5.alloc (.cells #[.int .i64 0, .int .i64 0, .int .i64 0, .int .i64 0] 44)) := (Below.refl _ _).alloc (Nat.le_refl _) _
        have HPLO := Lib.hid (show Plo ps N nb w5 0 [0, 0, 0, 0] (List.replicate N noRg) Aw (w5.alloc (.cells #[.int .i64 0, .int .i64 0, .int .i64 0, .int .i64 0] 44)) from ⟨(HRW.out.below hal).more hal.size, HW0.out, rfl, fun k h => by
          rw [List.length_replicate] at h
          rw [List.getElem_replicate]
          have hN := HN.out
          have e : k = 0 ∨ k = 1 ∨ k = 2 ∨ k = 3 := by omega
          rcases e with rfl | rfl | rfl | rfl <;> rfl, by rw [← HNB.out]; exact Cells.new w5 _ _, by have := HREM0.out; simpa using this, hal⟩)
        clear hal
        try rw [hnb]
        clear hnb
        go_loopw [14, 16] (fun wv iv wr => ∃ (i : Nat) (nx : List Int) (l : List Rg) (A : Option Addr) (c : Nat), wv = .slice A N c ∧ iv = .int .i64 (i : Int) ∧ Hid (Plo ps N nb w5 i nx l A wr)) (fun _ iv _ => 200 - (intOf iv).toNat)
        case atStart => exact ⟨0, _, _, Aw, cw, rfl, rfl, HPLO⟩
        case round =>
          obtain ⟨i, nx, l, A, c, rfl, rfl, HP⟩ := hrel
          have hi124 : i ≤ 124 := by have h1 := HP.out.rem; have h2 := remS_nonneg (ps := ps) (l := l); omega
          have hi200 : (i : Int) < 200 := by omega
          have HBP := Lib.hid (HB5.out.trans (HP.out.below.mono HB5.out.size))
          have HPLAN := Lib.hid (fun (W : World) (hb : Below w5.heap.size w5 W) (hr : RowC rgCells 2 W W.heap.size A l) => plan_src (HS5.out.below hb) HP.out.ok A c hr 1 ⟨by decide, by decide⟩)
          have HST5 := Lib.hid (fun xs (hk : xs.map keyOf = keysTo (planL ps l 1) ps.length) => plan_step (i := i) (xs := xs) HP.out.ok HPN.out HFEW.out (by first | decide | exact hmb.1) HP.out.len HP.out.at_ HP.out.rem hk)
          have HFOL := Lib.hid (HP.out.ok.plan (most := 1) HFEW.out)
          obtain ⟨pl, hpl⟩ : ∃ pl, planL ps l 1 = pl := ⟨_, rfl⟩
          have HPL := Lib.hid hpl
          rw [hpl] at HST5 HFOL
          rw [HPN.out] at HPLAN
          clear hpl
          go_wp2_with (first
            | (go_at_call 16; go_loud (refine (HPLAN.out _ HP.out.below HP.out.row).mono ?_; rintro e w6 ⟨D, he, hD, r1, r2⟩; rw [HPN.out] at he; subst he; rw [HPL.out] at r1; have HD := Lib.hid hD; have HR6 := Lib.hid r1; have HB6 := Lib.hid r2; have HRL6 := Lib.hid ((HP.out.row.below r2).more r2.size); clear r1 r2 hD))
            | (go_at_call 17; go_loud (refine (rfollows_walk l pl A (some ⟨D, 0, none⟩) N c N N w6 (by rw [HP.out.ok.len, HPN.out]) (by have := HN.out; unfold maxLen; omega) HRL6.out (by rw [HFOL.out.1.len, HPN.out]) (by have := HN.out; unfold maxLen; omega) HR6.out).mono ?_; rintro e w7 ⟨rfl, r2⟩; rw [HFOL.out.2]; have HB7 := Lib.hid (HB6.out.trans (r2.mono HB6.out.size)); have HR7 := Lib.hid ((HR6.out.below r2).more r2.size); clear r2))
            | (go_at_call 18; go_loud (refine (show Calls Tryz.prog 18 #[.pointer (some ⟨s, 0, none⟩), .slice (some ⟨D, 0, none⟩) N N] w7 (SReadPost ps pl w7) from by have h := sread_src (HS5.out.below (HP.out.below.trans (HB7.out.mono HP.out.below.size))) HFOL.out.1 hM2 (Nat.le_trans (HBP.out.size) HB7.out.size) (HTAB.out _ _ HB1.out (HBP.out.trans (HB7.out.mono HBP.out.size))) (some ⟨D, 0, none⟩) N HR7.out; rwa [HPN.out] at h).mono ?_; rintro e w8 ⟨Ax, cx, xs, rfl, k1, k2, k3, k4, k5⟩; have HSTEP := Lib.hid (HST5.out xs (by rw [k1])); have HTELL := Lib.hid k2; have HOX := Lib.hid k3; have HRX := Lib.hid k4; have HB8 := Lib.hid (HB7.out.trans (k5.mono HB7.out.size)); have HR8 := Lib.hid ((HR7.out.below k5).more k5.size); have hfew := (HST5.out xs (by rw [k1])).few; have hfew2 : ¬ 1 < (xs.length : Int) := (by omega); clear k1 k2 k3 k4 k5)))
          obtain ⟨fin, hfin⟩ : ∃ fin, nxTo nx pl ps.length = fin := ⟨_, rfl⟩
          rw [hfin] at HSTEP
          have HROWX := Lib.hid (RowC.own r3C_length (by decide) HOX.out).2
          have hcn8 : Cells w8 nb (iA nx) 44 := (HB8.out.block nb HP.out.cells.lt).trans HP.out.cells
          have HCN8 := Lib.hid hcn8
          have hnbw : nb < wr.heap.size := HP.out.cells.lt
          have hDn : D ≠ nb := by have := HD.out; omega
          have HB58 := Lib.hid (HP.out.below.trans (HB8.out.mono HP.out.below.size))
          have hxl : xs.length ≤ 1024 := by omega
          clear hfin hcn8
          obtain ⟨w0, rfl⟩ : ∃ w0, w0 = wr := ⟨_, rfl⟩
          go_loopw [21] (fun jv wr => ∃ (j : Nat) (nj : List Int), jv = .int .i64 (j : Int) ∧ j ≤ xs.length ∧ nj.length = 4 ∧ Hid (Seqs N nj ((xs.map keyOf).drop j) fin) ∧ Hid (Cells wr nb (iA nj) 44) ∧ Hid (Ch (· = nb) w8 wr) ∧ Hid (Below w5.heap.size w5 wr)) (fun jv _ => xs.length - (intOf jv).toNat)
          case atStart => exact ⟨0, nx, rfl, Nat.zero_le _, HP.out.len, HSTEP.out.seqs, HCN8, Lib.hid (Ch.refl _ _), HB58⟩
          case round =>
            obtain ⟨j, nj, rfl, hj, hnj, HSQ, HCJ, HCH, HB9⟩ := hrel
            by_cases hjl : j < xs.length
            · have hsq := HSQ.out
              rw [drop_key hjl] at hsq
              obtain ⟨g1, g2, g3⟩ := hsq
              obtain ⟨pt, hp1, hp2⟩ := HTELL.out _ (List.getElem_mem hjl)
              obtain ⟨bx, offx, hAx, hbx, hcx⟩ := HROWX.out j hjl
              obtain ⟨hby, hu8⟩ := HRX.out _ (List.getElem_mem hjl)
              obtain ⟨X, hX⟩ : ∃ X, xs[j] = X := ⟨_, rfl⟩
              rw [hX] at g1 g2 g3 hp1 hp2 hcx hby hu8
              obtain ⟨p, a, bb, Ab, cb⟩ := X
              dsimp only [keyOf] at g1 g2 g3
              dsimp only at hp1 hp2 hby hu8
              have hbb : bb = [UInt8.ofNat p, UInt8.ofNat a] ∧ a < 31 := by
                obtain ⟨q1, q2⟩ := List.getElem?_eq_some_iff.1 hp1
                have h3 := HFULL.out.rs p q1
                rw [q2] at h3
                rw [h3] at hp2
                obtain ⟨h4, h5⟩ := recL_at hp2
                have := HC31.out p
                exact ⟨h4, by omega⟩
              have hbl : bb.length = 2 := by rw [hbb.1]; rfl
              have ha31 : a < 31 := hbb.2
              have hnx : bx ≠ nb := by
                rcases HOX.out.2 with ⟨e, _⟩ | ⟨g, cap, cur, e, _, hg, _⟩
                · injection e with e; rw [hAx] at e; cases e
                · injection e with e; rw [hAx] at e; injection e with e; injection e with e
                  rintro rfl
                  rw [e] at HCN8
                  have := Option.some.inj (hg.symm.trans HCN8.out)
                  injection this with _ h2
                  exact absurd h2 (by decide)
              have hch : ∀ o, wr.cell? ⟨bx, o, none⟩ = w8.cell? ⟨bx, o, none⟩ := fun o => World.cell?_of_block (a := ⟨bx, o, none⟩) (HCH.out.block bx hbx (fun e => hnx e))
              have cx0 : wr.cell? ⟨bx, offx + j * 3, none⟩ = some (.int .i64 (p : Int)) := by rw [hch]; exact hcx 0 _ rfl
              have cx1 : wr.cell? ⟨bx, offx + j * 3 + 1, none⟩ = some (.int .i64 (a : Int)) := by rw [hch]; exact hcx 1 _ rfl
              have cx2 : wr.cell? ⟨bx, offx + j * 3 + 2, none⟩ = some (.slice Ab 2 cb) := by rw [hch]; have := hcx 2 _ rfl; rw [this]; show some (Value.slice Ab bb.length cb) = _; rw [hbl]
              have hby9 : BytesAt wr wr.heap.size Ab bb := by
                intro t ht
                obtain ⟨b2, off2, e, hlt, hc⟩ := hby t ht
                obtain ⟨d, z, hk⟩ := hu8 _ e
                refine ⟨b2, off2, e, Nat.lt_of_lt_of_le hlt HCH.out.size, (World.cell?_of_block (a := ⟨b2, off2 + t, none⟩) (HCH.out.block b2 hlt (fun e2 => ?_))).trans hc⟩
                subst e2
                have := Option.some.inj (hk.symm.trans HCN8.out)
                injection this with _ h2
                exact absurd h2 (by decide)
              have hp4 : p < 4 := by have := HN.out; omega
              have hpn : p < nj.length := by omega
              have hnp : nj[p] = (a : Int) := by rw [List.getElem?_eq_getElem hpn] at g2; exact Option.some.inj g2
              have hcp := HCJ.out.iat hpn
              rw [hnp] at hcp
              have hcf := HCJ.out.frozen p
              have HSQ2 := Lib.hid g3
              have HCN := Lib.hid (fun (W : World) (hc : Cells W nb (iA nj) 44) => (show Cells (W.setCell ⟨nb, p, none⟩ (.int .i64 ((a : Int) + 1))) nb (iA (nj.set p ((a : Int) + 1))) 44 from hc.iset p _))
              have HBB := Lib.hid hbb.1
              have HBY := Lib.hid hby9
              have hp0 : ¬ (p : Int) < 0 := by omega
              have hpN2 : ¬ (N : Int) ≤ (p : Int) := by omega
              have hp5 : (p : Int) < 4 := by omega
              have hpN3 : p < N := g1
              have u1 : IntKind.u8.wrap (p : Int) = (p : Int) := by rw [IntKind.wrap_u8]; omega
              have u2 : IntKind.u8.wrap (a : Int) = (a : Int) := by rw [IntKind.wrap_u8]; omega
              have s9 : IntKind.i64.wrap ((a : Int) + 1) = (a : Int) + 1 := wrap_id (by omega)
              have hjl2 : (j : Int) < (xs.length : Int) := by omega
              have hnw : nb < wr.heap.size := HCJ.out.lt
              have hbxw : bx < wr.heap.size := Nat.lt_of_lt_of_le hbx HCH.out.size
              subst hAx
              clear hX g1 g2 g3 hp1 hp2 hcx hby hu8 hbb hch hby9 hnp
              go_wp2_with fail
              obtain ⟨rb, hrb⟩ : ∃ g, wr.heap.size = g := ⟨_, rfl⟩
              have hbox : Below wr.heap.size wr (wr.alloc (.cells #[.int .i64 (p : Int), .int .i64 (a : Int), .slice Ab 2 cb] 53)) := (Below.refl _ _).alloc (Nat.le_refl _) _
              have hcb : Cells (wr.alloc (.cells #[.int .i64 (p : Int), .int .i64 (a : Int), .slice Ab 2 cb] 53)) wr.heap.size #[.int .i64 (p : Int), .int .i64 (a : Int), .slice Ab 2 cb] 53 := Cells.new wr _ _
              have hcj := HCJ.out.alloc (.cells #[.int .i64 (p : Int), .int .i64 (a : Int), .slice Ab 2 cb] 53)
              obtain ⟨w9, hw9⟩ : ∃ V, wr.alloc (.cells #[.int .i64 (p : Int), .int .i64 (a : Int), .slice Ab 2 cb] 53) = V := ⟨_, rfl⟩
              rw [hw9] at hbox hcb hcj
              rw [hrb] at hcb
              try rw [hw9]
              try rw [hrb]
              have q0 : w9.cell? ⟨rb, 0, none⟩ = some (.int .i64 (p : Int)) := hcb.cell 0
              have q1 : w9.cell? ⟨rb, 1, none⟩ = some (.int .i64 (a : Int)) := hcb.cell 1
              have q2 : w9.cell? ⟨rb, 2, none⟩ = some (.slice Ab 2 cb) := hcb.cell 2
              have q3 := cell_later hbox hcp
              have q4 := ml_bytes HBY.out hbox
              have HCJ9 := Lib.hid hcj
              have HCB9 := Lib.hid hcb
              have HBOX := Lib.hid hbox
              have HTX := Lib.hid (show ∀ (W : World) (A' : Option Addr) (c' : Nat), BytesAt W W.heap.size A' bb → (convert 30 9 (.slice A' 2 c')).run Tryz.prog W = .ok (.string (txt bb)) W from fun W A' c' h => string_of_bytes A' 2 c' bb W hbl.symm h)
              obtain ⟨tx, htx⟩ : ∃ tx, txt bb = tx := ⟨_, rfl⟩
              rw [htx] at HTX
              have htt : (tx.toList != tx.toList) = false := by simp
              clear hbox hcb hcj hw9 hrb htx
              refine wp_mono ?_ noPanic_le
              refine held_begin 32 (fun W => W.cell? ⟨rb, 0, none⟩ = some (.int .i64 (p : Int)) ∧ W.cell? ⟨rb, 1, none⟩ = some (.int .i64 (a : Int)) ∧ W.cell? ⟨rb, 2, none⟩ = some (.slice Ab 2 cb) ∧ W.cell? ⟨nb, p, none⟩ = some (.int .i64 (a : Int)) ∧ BytesAt W W.heap.size Ab bb) rfl (by kernel_rfl) ?_
              have hS : w9.drew.cell? ⟨rb, 0, none⟩ = some (.int .i64 (p : Int)) ∧ w9.drew.cell? ⟨rb, 1, none⟩ = some (.int .i64 (a : Int)) ∧ w9.drew.cell? ⟨rb, 2, none⟩ = some (.slice Ab 2 cb) ∧ w9.drew.cell? ⟨nb, p, none⟩ = some (.int .i64 (a : Int)) ∧ BytesAt w9.drew w9.drew.heap.size Ab bb := ⟨q0, q1, q2, q3, q4⟩
              refine held_take (i := 0) (t := 137) (v := (.pointer (some ⟨rb, 0, none⟩))) (fuel := 31) rfl rfl (by kernel_rfl) (by kernel_rfl) (by kernel_rfl) (fun _ _ _ h => h) (.inl ⟨rfl, fun W hW => by obtain ⟨w1, w2, w3, w4, w5_⟩ := hW; simp [execOp, Act.eval, go_sem, w1, w2, w3, w4]⟩) hS ?_
              simp only [List.setIfInBounds_toArray, List.set_cons_succ, List.set_cons_zero]
              refine held_take (i := 1) (t := 138) (v := (.int .i64 (p : Int))) (fuel := 30) rfl rfl (by kernel_rfl) (by kernel_rfl) (by kernel_rfl) (fun _ _ _ h => h) (.inl ⟨rfl, fun W hW => by obtain ⟨w1, w2, w3, w4, w5_⟩ := hW; simp [execOp, Act.eval, go_sem, w1, w2, w3, w4]⟩) hS ?_
              simp only [List.setIfInBounds_toArray, List.set_cons_succ, List.set_cons_zero]
              refine held_take (i := 2) (t := 139) (v := (.bool false)) (fuel := 29) rfl rfl (by kernel_rfl) (by kernel_rfl) (by kernel_rfl) (fun _ _ _ h => h) (.inl ⟨rfl, fun W hW => by obtain ⟨w1, w2, w3, w4, w5_⟩ := hW; simp [execOp, Act.eval, go_sem, w1, w2, w3, w4, hp0]⟩) hS ?_
              simp only [List.setIfInBounds_toArray, List.set_cons_succ, List.set_cons_zero]
              refine held_take (i := 3) (t := 140) (v := (.bool false)) (fuel := 28) rfl rfl (by kernel_rfl) (by kernel_rfl) (by kernel_rfl) (fun _ _ _ h => h) (.inl ⟨rfl, fun W hW => by obtain ⟨w1, w2, w3, w4, w5_⟩ := hW; simp [execOp, Act.eval, go_sem, w1, w2, w3, w4]⟩) hS ?_
              simp only [List.setIfInBounds_toArray, List.set_cons_succ, List.set_cons_zero]
              refine held_take (i := 4) (t := 141) (v := (.pointer (some ⟨rb, 0, none⟩))) (fuel := 27) rfl rfl (by kernel_rfl) (by kernel_rfl) (by kernel_rfl) (fun _ _ _ h => h) (.inl ⟨rfl, fun W hW => by obtain ⟨w1, w2, w3, w4, w5_⟩ := hW; simp [execOp, Act.eval, go_sem, w1, w2, w3, w4]⟩) hS ?_
              simp only [List.setIfInBounds_toArray, List.set_cons_succ, List.set_cons_zero]
              refine held_take (i := 5) (t := 142) (v := (.int .i64 (p : Int))) (fuel := 26) rfl rfl (by kernel_rfl) (by kernel_rfl) (by kernel_rfl) (fun _ _ _ h => h) (.inl ⟨rfl, fun W hW => by obtain ⟨w1, w2, w3, w4, w5_⟩ := hW; simp [execOp, Act.eval, go_sem, w1, w2, w3, w4]⟩) hS ?_
              simp only [List.setIfInBounds_toArray, List.set_cons_succ, List.set_cons_zero]
              refine held_take (i := 6) (t := 143) (v := (.int .i64 (N : Int))) (fuel := 25) rfl rfl (by kernel_rfl) (by kernel_rfl) (by kernel_rfl) (fun _ _ _ h => h) (.inl ⟨rfl, fun W hW => by obtain ⟨w1, w2, w3, w4, w5_⟩ := hW; simp [execOp, Act.eval, go_sem, w1, w2, w3, w4]⟩) hS ?_
              simp only [List.setIfInBounds_toArray, List.set_cons_succ, List.set_cons_zero]
              refine held_take (i := 7) (t := 144) (v := (.bool false)) (fuel := 24) rfl rfl (by kernel_rfl) (by kernel_rfl) (by kernel_rfl) (fun _ _ _ h => h) (.inl ⟨rfl, fun W hW => by obtain ⟨w1, w2, w3, w4, w5_⟩ := hW; simp [execOp, Act.eval, go_sem, w1, w2, w3, w4, hpN2, hpN3]⟩) hS ?_
              simp only [List.setIfInBounds_toArray, List.set_cons_succ, List.set_cons_zero]
              refine held_take (i := 8) (t := 145) (v := (.bool false)) (fuel := 23) rfl rfl (by kernel_rfl) (by kernel_rfl) (by kernel_rfl) (fun _ _ _ h => h) (.inl ⟨rfl, fun W hW => by obtain ⟨w1, w2, w3, w4, w5_⟩ := hW; simp [execOp, Act.eval, go_sem, w1, w2, w3, w4]⟩) hS ?_
              simp only [List.setIfInBounds_toArray, List.set_cons_succ, List.set_cons_zero]
              refine held_take (i := 9) (t := 146) (v := (.bool false)) (fuel := 22) rfl rfl (by kernel_rfl) (by kernel_rfl) (by kernel_rfl) (fun _ _ _ h => h) (.inl ⟨rfl, fun W hW => by obtain ⟨w1, w2, w3, w4, w5_⟩ := hW; simp [execOp, Act.eval, go_sem, w1, w2, w3, w4]⟩) hS ?_
              simp only [List.setIfInBounds_toArray, List.set_cons_succ, List.set_cons_zero]
              refine held_take (i := 10) (t := 147) (v := (.pointer (some ⟨rb, 1, none⟩))) (fuel := 21) rfl rfl (by kernel_rfl) (by kernel_rfl) (by kernel_rfl) (fun _ _ _ h => h) (.inl ⟨rfl, fun W hW => by obtain ⟨w1, w2, w3, w4, w5_⟩ := hW; simp [execOp, Act.eval, go_sem, w1, w2, w3, w4]⟩) hS ?_
              simp only [List.setIfInBounds_toArray, List.set_cons_succ, List.set_cons_zero]
              refine held_take (i := 11) (t := 148) (v := (.int .i64 (a : Int))) (fuel := 20) rfl rfl (by kernel_rfl) (by kernel_rfl) (by kernel_rfl) (fun _ _ _ h => h) (.inl ⟨rfl, fun W hW => by obtain ⟨w1, w2, w3, w4, w5_⟩ := hW; simp [execOp, Act.eval, go_sem, w1, w2, w3, w4]⟩) hS ?_
              simp only [List.setIfInBounds_toArray, List.set_cons_succ, List.set_cons_zero]
              refine held_take (i := 12) (t := 149) (v := (.pointer (some ⟨rb, 0, none⟩))) (fuel := 19) rfl rfl (by kernel_rfl) (by kernel_rfl) (by kernel_rfl) (fun _ _ _ h => h) (.inl ⟨rfl, fun W hW => by obtain ⟨w1, w2, w3, w4, w5_⟩ := hW; simp [execOp, Act.eval, go_sem, w1, w2, w3, w4]⟩) hS ?_
              simp only [List.setIfInBounds_toArray, List.set_cons_succ, List.set_cons_zero]
              refine held_take (i := 13) (t := 150) (v := (.int .i64 (p : Int))) (fuel := 18) rfl rfl (by kernel_rfl) (by kernel_rfl) (by kernel_rfl) (fun _ _ _ h => h) (.inl ⟨rfl, fun W hW => by obtain ⟨w1, w2, w3, w4, w5_⟩ := hW; simp [execOp, Act.eval, go_sem, w1, w2, w3, w4]⟩) hS ?_
              simp only [List.setIfInBounds_toArray, List.set_cons_succ, List.set_cons_zero]
              refine held_take (i := 14) (t := 151) (v := (.pointer (some ⟨nb, p, none⟩))) (fuel := 17) rfl rfl (by kernel_rfl) (by kernel_rfl) (by kernel_rfl) (fun _ _ _ h => h) (.inl ⟨rfl, fun W hW => by obtain ⟨w1, w2, w3, w4, w5_⟩ := hW; simp [execOp, Act.eval, go_sem, w1, w2, w3, w4, hp4, hp5]⟩) hS ?_
              simp only [List.setIfInBounds_toArray, List.set_cons_succ, List.set_cons_zero]
              refine held_take (i := 15) (t := 152) (v := (.int .i64 (a : Int))) (fuel := 16) rfl rfl (by kernel_rfl) (by kernel_rfl) (by kernel_rfl) (fun _ _ _ h => h) (.inl ⟨rfl, fun W hW => by obtain ⟨w1, w2, w3, w4, w5_⟩ := hW; simp [execOp, Act.eval, go_sem, w1, w2, w3, w4]⟩) hS ?_
              simp only [List.setIfInBounds_toArray, List.set_cons_succ, List.set_cons_zero]
              refine held_take (i := 16) (t := 153) (v := (.bool false)) (fuel := 15) rfl rfl (by kernel_rfl) (by kernel_rfl) (by kernel_rfl) (fun _ _ _ h => h) (.inl ⟨rfl, fun W hW => by obtain ⟨w1, w2, w3, w4, w5_⟩ := hW; simp [execOp, Act.eval, go_sem, w1, w2, w3, w4]⟩) hS ?_
              simp only [List.setIfInBounds_toArray, List.set_cons_succ, List.set_cons_zero]
              refine held_take (i := 17) (t := 154) (v := (.bool false)) (fuel := 14) rfl rfl (by kernel_rfl) (by kernel_rfl) (by kernel_rfl) (fun _ _ _ h => h) (.inl ⟨rfl, fun W hW => by obtain ⟨w1, w2, w3, w4, w5_⟩ := hW; simp [execOp, Act.eval, go_sem, w1, w2, w3, w4]⟩) hS ?_
              simp only [List.setIfInBounds_toArray, List.set_cons_succ, List.set_cons_zero]
              refine held_take (i := 18) (t := 155) (v := (.bool false)) (fuel := 13) rfl rfl (by kernel_rfl) (by kernel_rfl) (by kernel_rfl) (fun _ _ _ h => h) (.inl ⟨rfl, fun W hW => by obtain ⟨w1, w2, w3, w4, w5_⟩ := hW; simp [execOp, Act.eval, go_sem, w1, w2, w3, w4]⟩) hS ?_
              simp only [List.setIfInBounds_toArray, List.set_cons_succ, List.set_cons_zero]
              refine held_take (i := 19) (t := 156) (v := (.pointer (some ⟨rb, 2, none⟩))) (fuel := 12) rfl rfl (by kernel_rfl) (by kernel_rfl) (by kernel_rfl) (fun _ _ _ h => h) (.inl ⟨rfl, fun W hW => by obtain ⟨w1, w2, w3, w4, w5_⟩ := hW; simp [execOp, Act.eval, go_sem, w1, w2, w3, w4]⟩) hS ?_
              simp only [List.setIfInBounds_toArray, List.set_cons_succ, List.set_cons_zero]
              refine held_take (i := 20) (t := 157) (v := (.slice Ab 2 cb)) (fuel := 11) rfl rfl (by kernel_rfl) (by kernel_rfl) (by kernel_rfl) (fun _ _ _ h => h) (.inl ⟨rfl, fun W hW => by obtain ⟨w1, w2, w3, w4, w5_⟩ := hW; simp [execOp, Act.eval, go_sem, w1, w2, w3, w4]⟩) hS ?_
              simp only [List.setIfInBounds_toArray, List.set_cons_succ, List.set_cons_zero]
              refine held_take (i := 21) (t := 158) (v := (.string tx)) (fuel := 10) rfl rfl (by kernel_rfl) (by kernel_rfl) (by kernel_rfl) (fun _ _ _ h => h) (.inl ⟨rfl, fun W hW => by obtain ⟨w1, w2, w3, w4, w5_⟩ := hW; have hcv := HTX.out W Ab cb w5_; simp [execOp, Act.eval, go_sem, w1, w2, w3, w4, hcv]⟩) hS ?_
              simp only [List.setIfInBounds_toArray, List.set_cons_succ, List.set_cons_zero]
              refine held_take (i := 22) (t := 159) (v := (.pointer (some ⟨rb, 0, none⟩))) (fuel := 9) rfl rfl (by kernel_rfl) (by kernel_rfl) (by kernel_rfl) (fun _ _ _ h => h) (.inl ⟨rfl, fun W hW => by obtain ⟨w1, w2, w3, w4, w5_⟩ := hW; simp [execOp, Act.eval, go_sem, w1, w2, w3, w4]⟩) hS ?_
              simp only [List.setIfInBounds_toArray, List.set_cons_succ, List.set_cons_zero]
              refine held_take (i := 23) (t := 160) (v := (.int .i64 (p : Int))) (fuel := 8) rfl rfl (by kernel_rfl) (by kernel_rfl) (by kernel_rfl) (fun _ _ _ h => h) (.inl ⟨rfl, fun W hW => by obtain ⟨w1, w2, w3, w4, w5_⟩ := hW; simp [execOp, Act.eval, go_sem, w1, w2, w3, w4]⟩) hS ?_
              simp only [List.setIfInBounds_toArray, List.set_cons_succ, List.set_cons_zero]
              refine held_take (i := 24) (t := 161) (v := (.int .u8 (p : Int))) (fuel := 7) rfl rfl (by kernel_rfl) (by kernel_rfl) (by kernel_rfl) (fun _ _ _ h => h) (.inl ⟨rfl, fun W hW => by obtain ⟨w1, w2, w3, w4, w5_⟩ := hW; simp [execOp, Act.eval, go_sem, w1, w2, w3, w4, u1]⟩) hS ?_
              simp only [List.setIfInBounds_toArray, List.set_cons_succ, List.set_cons_zero]
              refine held_take (i := 25) (t := 162) (v := (.pointer (some ⟨rb, 1, none⟩))) (fuel := 6) rfl rfl (by kernel_rfl) (by kernel_rfl) (by kernel_rfl) (fun _ _ _ h => h) (.inl ⟨rfl, fun W hW => by obtain ⟨w1, w2, w3, w4, w5_⟩ := hW; simp [execOp, Act.eval, go_sem, w1, w2, w3, w4]⟩) hS ?_
              simp only [List.setIfInBounds_toArray, List.set_cons_succ, List.set_cons_zero]
              refine held_take (i := 26) (t := 163) (v := (.int .i64 (a : Int))) (fuel := 5) rfl rfl (by kernel_rfl) (by kernel_rfl) (by kernel_rfl) (fun _ _ _ h => h) (.inl ⟨rfl, fun W hW => by obtain ⟨w1, w2, w3, w4, w5_⟩ := hW; simp [execOp, Act.eval, go_sem, w1, w2, w3, w4]⟩) hS ?_
              simp only [List.setIfInBounds_toArray, List.set_cons_succ, List.set_cons_zero]
              refine held_take (i := 27) (t := 164) (v := (.int .u8 (a : Int))) (fuel := 4) rfl rfl (by kernel_rfl) (by kernel_rfl) (by kernel_rfl) (fun _ _ _ h => h) (.inl ⟨rfl, fun W hW => by obtain ⟨w1, w2, w3, w4, w5_⟩ := hW; simp [execOp, Act.eval, go_sem, w1, w2, w3, w4, u2]⟩) hS ?_
              simp only [List.setIfInBounds_toArray, List.set_cons_succ, List.set_cons_zero]
              refine held_call (i := 28) rfl (by kernel_rfl) (by kernel_rfl) ?_
              simp [Oper.wp, execOp, Act.eval, Act.put, go_sem]
              have hbn : Below w9.heap.size w9 (w9.alloc (.cells #[.int .u8 (p : Int), .int .u8 (a : Int)] 5)).drew := ((Below.refl _ w9).alloc (Nat.le_refl _) _).drew
              have hcb2 : Cells (w9.alloc (.cells #[.int .u8 (p : Int), .int .u8 (a : Int)] 5)).drew w9.heap.size #[.int .u8 (p : Int), .int .u8 (a : Int)] 5 := Cells.new w9 _ _
              obtain ⟨gf, hgf⟩ : ∃ g, w9.heap.size = g := ⟨_, rfl⟩
              obtain ⟨wA, hwA⟩ : ∃ V, (w9.alloc (.cells #[.int .u8 (p : Int), .int .u8 (a : Int)] 5)).drew = V := ⟨_, rfl⟩
              rw [hwA] at hbn hcb2
              rw [hgf] at hcb2
              rw [hwA]
              rw [hgf]
              have hbf := two_at (by omega) (by omega) hcb2
              rw [← HBB.out] at hbf
              have HC10 := Lib.hid (show Cells wA nb (iA nj) 44 from (hbn.block nb HCJ9.out.lt).trans HCJ9.out)
              have hb10 := HBOX.out.trans (hbn.mono HBOX.out.size)
              have HCH10 := Lib.hid (HCH.out.trans ((chb hb10).mono (fun _ _ h => h.elim)))
              have HB10 := Lib.hid (HB9.out.trans (hb10.mono HB9.out.size))
              have hbn2 : Below w9.heap.size w9 (w9.alloc (.cells #[.int .u8 (p : Int), .int .u8 (a : Int)] 5)) := (Below.refl _ w9).alloc (Nat.le_refl _) _
              have hS2 : (w9.alloc (.cells #[.int .u8 (p : Int), .int .u8 (a : Int)] 5)).cell? ⟨rb, 0, none⟩ = some (.int .i64 (p : Int)) ∧ (w9.alloc (.cells #[.int .u8 (p : Int), .int .u8 (a : Int)] 5)).cell? ⟨rb, 1, none⟩ = some (.int .i64 (a : Int)) ∧ (w9.alloc (.cells #[.int .u8 (p : Int), .int .u8 (a : Int)] 5)).cell? ⟨rb, 2, none⟩ = some (.slice Ab 2 cb) ∧ (w9.alloc (.cells #[.int .u8 (p : Int), .int .u8 (a : Int)] 5)).cell? ⟨nb, p, none⟩ = some (.int .i64 (a : Int)) ∧ BytesAt (w9.alloc (.cells #[.int .u8 (p : Int), .int .u8 (a : Int)] 5)) (w9.alloc (.cells #[.int .u8 (p : Int), .int .u8 (a : Int)] 5)).heap.size Ab bb := ⟨cell_later hbn2 q0, cell_later hbn2 q1, cell_later hbn2 q2, cell_later hbn2 q3, ml_bytes q4 hbn2⟩
              have hszB : BytesAt wA (gf + 1) Ab bb := by have h := ml_bytes q4 hbn; rwa [show wA.heap.size = gf + 1 from by rw [← hwA, ← hgf]; exact Go.Deep.nblk_alloc w9 _] at h
              have hS : wA.cell? ⟨rb, 0, none⟩ = some (.int .i64 (p : Int)) ∧ wA.cell? ⟨rb, 1, none⟩ = some (.int .i64 (a : Int)) ∧ wA.cell? ⟨rb, 2, none⟩ = some (.slice Ab 2 cb) ∧ wA.cell? ⟨nb, p, none⟩ = some (.int .i64 (a : Int)) ∧ BytesAt wA wA.heap.size Ab bb := ⟨cell_later hbn q0, cell_later hbn q1, cell_later hbn q2, cell_later hbn q3, ml_bytes q4 hbn⟩
              refine ⟨(by first | exact hS | exact hS2 | (refine ⟨?_, ?_, ?_, ?_, ?_⟩ <;> first | exact hS.1 | exact hS2.1 | exact hS.2.1 | exact hS2.2.1 | exact hS.2.2.1 | exact hS2.2.2.1 | exact hS.2.2.2.1 | exact hS2.2.2.2.1 | exact hS.2.2.2.2 | exact hS2.2.2.2.2 | exact hszB | (simpa using hszB))), ?_⟩
              try simp only [List.setIfInBounds_toArray, List.set_cons_succ, List.set_cons_zero]
              refine held_more (S' := fun W => (W.cell? ⟨rb, 0, none⟩ = some (.int .i64 (p : Int)) ∧ W.cell? ⟨rb, 1, none⟩ = some (.int .i64 (a : Int)) ∧ W.cell? ⟨rb, 2, none⟩ = some (.slice Ab 2 cb) ∧ W.cell? ⟨nb, p, none⟩ = some (.int .i64 (a : Int)) ∧ BytesAt W W.heap.size Ab bb) ∧ BytesAt W W.heap.size (some ⟨gf, 0, none⟩) bb) (fun _ h => h.1) _ _ _ _ ?_
              have hS1 := hS
              have hS : (wA.cell? ⟨rb, 0, none⟩ = some (.int .i64 (p : Int)) ∧ wA.cell? ⟨rb, 1, none⟩ = some (.int .i64 (a : Int)) ∧ wA.cell? ⟨rb, 2, none⟩ = some (.slice Ab 2 cb) ∧ wA.cell? ⟨nb, p, none⟩ = some (.int .i64 (a : Int)) ∧ BytesAt wA wA.heap.size Ab bb) ∧ BytesAt wA wA.heap.size (some ⟨gf, 0, none⟩) bb := ⟨hS1, hbf⟩
              refine held_take (i := 29) (t := 166) (v := (.string tx)) (fuel := 2) rfl rfl (by kernel_rfl) (by kernel_rfl) (by kernel_rfl) (fun _ _ _ h => h) (.inl ⟨rfl, fun W hW => by obtain ⟨⟨w1, w2, w3, w4, w5_⟩, w6_⟩ := hW; have hcv := HTX.out W (some ⟨gf, 0, none⟩) 2 w6_; simp [execOp, Act.eval, go_sem, hcv]⟩) hS ?_
              simp only [List.setIfInBounds_toArray, List.set_cons_succ, List.set_cons_zero]
              refine held_take (i := 30) (t := 167) (v := (.bool false)) (fuel := 1) rfl rfl (by kernel_rfl) (by kernel_rfl) (by kernel_rfl) (fun _ _ _ h => h) (.inl ⟨rfl, fun W hW => by obtain ⟨⟨w1, w2, w3, w4, w5_⟩, w6_⟩ := hW; simp [execOp, Act.eval, go_sem, htt]⟩) hS ?_
              simp only [List.setIfInBounds_toArray, List.set_cons_succ, List.set_cons_zero]
              refine held_take (i := 31) (t := 168) (v := (.bool false)) (fuel := 0) rfl rfl (by kernel_rfl) (by kernel_rfl) (by kernel_rfl) (fun _ _ _ h => h) (.inl ⟨rfl, fun W hW => by obtain ⟨⟨w1, w2, w3, w4, w5_⟩, w6_⟩ := hW; simp [execOp, Act.eval, go_sem]⟩) hS ?_
              simp only [List.setIfInBounds_toArray, List.set_cons_succ, List.set_cons_zero]
              refine wpAnyH_done (by kernel_rfl) ?_ 0
              unfold noPanic
              have r0 : wA.cell? ⟨rb, 0, none⟩ = some (.int .i64 (p : Int)) := hS1.1
              have r3 : wA.cell? ⟨nb, p, none⟩ = some (.int .i64 (a : Int)) := hS1.2.2.2.1
              have r4 : wA.frozen? ⟨nb, p, none⟩ = false := HC10.out.frozen p
              have r5 : nb < wA.heap.size := HC10.out.lt
              clear hS hS1 hS2 hbn2 q0 q1 q2 q3 q4 hbn hbf hcb2 hb10 hwA hgf cx0 cx1 cx2 hcp hcf
              go_wp2_with fail
              go_roundw
              case rel => exact ⟨j + 1, nj.set p ((a : Int) + 1), by go_num, hjl, by rw [List.length_set]; exact hnj, HSQ2, Lib.hid (HCN.out _ HC10.out), Lib.hid (HCH10.out.set (p := ⟨nb, p, none⟩) (.inl rfl) _), Lib.hid (HB10.out.setCell (p := ⟨nb, p, none⟩) (by rw [HNB.out]; exact Nat.le_refl _) _)⟩
              case measure => simp [intOf]; omega
            · obtain rfl : j = xs.length := by omega
              have hjl2 : ¬ (xs.length : Int) < (xs.length : Int) := by omega
              have hsq := HSQ.out
              rw [show (xs.map keyOf).drop xs.length = [] by rw [List.drop_eq_nil_of_le]; simp] at hsq
              have hnf : nj = fin := hsq
              subst hnf
              have HR9 := Lib.hid (show RowC rgCells 2 wr wr.heap.size (some ⟨D, 0, none⟩) pl from fun t ht => by
                obtain ⟨b2, off2, e, hlt, hc⟩ := HR8.out t ht
                have e2 : b2 = D := by injection e with e; injection e with e; exact e.symm
                refine ⟨b2, off2, e, Nat.lt_of_lt_of_le hlt HCH.out.size, fun i x hx => (World.cell?_of_block (a := ⟨b2, _, none⟩) (HCH.out.block b2 hlt (fun e3 => hDn (e2.symm.trans e3)))).trans (hc i x hx)⟩)
              clear hsq
              by_cases hx0 : xs.length = 0
              · have hx1 : ((xs.length : Int) == 0) = true := by rw [hx0]; rfl
                have hx2 : (xs.length : Int) = 0 := by omega
                have HFIN := Lib.hid (show ∀ k, k < N → nj[k]? = some (cN k : Int) from fun k hk => by
                  have hp := HFOL.out.1.len
                  have hk2 : k < ps.length := by rw [HPN.out]; exact hk
                  rw [HSTEP.out.at_ k (by omega), HSTEP.out.none_ hx0 k (by omega) hk2, HFULL.out.dur k hk2])
                clear hx0
                go_wp2_with fail
                obtain ⟨w9, rfl⟩ : ∃ w9, w9 = wr := ⟨_, rfl⟩
                go_loopw [23] (fun kv wr => ∃ k : Nat, kv = .int .i64 (k : Int) ∧ k ≤ min cs.length 4 ∧ Hid (Below w9.heap.size w9 wr)) (fun kv _ => 4 - (intOf kv).toNat)
                case atStart => exact ⟨0, rfl, Nat.zero_le _, Lib.hid (Below.refl _ _)⟩
                case round =>
                  obtain ⟨k, rfl, hk, HBk⟩ := hrel
                  by_cases hlt : k < min cs.length 4
                  · have hk1 : k < cs.length := by omega
                    have hk2 : (k : Int) < (cs.length : Int) := by omega
                    have hk3 : (k : Int) < 4 := by omega
                    have hk4 : k < 4 := by omega
                    have hxc := HCAT.out k hk1
                    have hb19 : Below w.heap.size w wr := HB1.out.trans (((HB5.out.trans (HB9.out.mono HB5.out.size)).trans (HBk.out.mono (Nat.le_trans HB5.out.size HB9.out.size))).mono HB1.out.size)
                    obtain ⟨b0, off0, hA0, hb0, hcell⟩ := kC_r (HR0.out.below hb19) k hk1
                    have hkn : k < nj.length := by omega
                    have hcn := (show Cells wr nb (iA nj) 44 from (HBk.out.block nb HCJ.out.lt).trans HCJ.out).iat hkn
                    have hv : nj[k] = (cN k : Int) := by have := HFIN.out k (by have := HND.out; omega); rw [List.getElem?_eq_getElem hkn] at this; exact Option.some.inj this
                    rw [hv] at hcn
                    obtain ⟨x, hx⟩ : ∃ x, cs[k] = x := ⟨_, rfl⟩
                    obtain ⟨cc, hcc⟩ : ∃ x, cN k = x := ⟨_, rfl⟩
                    have hx0c := (HCS.out _ (List.getElem_mem hk1)).1
                    rw [hx] at hcell hxc hx0c
                    have hc31 := HC31.out k
                    rw [hcc] at hcn hxc hc31
                    have htm : wrap64 (x.tmod 32) = (cc : Int) := by rw [Int.tmod_eq_emod_of_nonneg hx0c, hxc]; exact IntWalk.wrap64_in _ ⟨by omega, by omega⟩
                    have hcn3 : ((cc : Int) != wrap64 (x.tmod 32)) = false := by rw [htm]; simp
                    have hcn4 : decide ((cc : Int) = wrap64 (x.tmod 32)) = true := by rw [htm]; simp
                    have hcn5 : ((cc : Int) == wrap64 (x.tmod 32)) = true := by rw [htm]; simp
                    subst hA0
                    clear hx hcc hv hb19
                    go_wp2_with fail
                    go_quiet (fail)
                    go_wp2_with fail
                    all_goals first | exact ⟨⟨k + 1, by go_num, by omega, Lib.hid (below_more HBk.out _)⟩, by simp [intOf]; omega⟩ | trace_state
                  · have hend3 : ¬ ((k : Int) < (cs.length : Int)) ∨ ((k : Int) < (cs.length : Int) ∧ ¬ (k : Int) < 4) := by omega
                    rcases hend3 with hend3 | ⟨hend3, hend4⟩
                    all_goals go_wp2_with fail
                    all_goals go_ret
                    all_goals exact ⟨rfl, HB1.out.trans (((HB5.out.trans (HB9.out.mono HB5.out.size)).trans (HBk.out.mono (Nat.le_trans HB5.out.size HB9.out.size))).mono HB1.out.size)⟩
              · have hx1 : ((xs.length : Int) == 0) = false := by rw [beq_eq_false_iff_ne]; omega
                have hx3 : decide ((xs.length : Int) = 0) = false := decide_eq_false (by omega)
                have HX0 := Lib.hid hx0
                clear hx0
                go_wp2_with fail
                go_roundw
                case rel => exact ⟨i + 1, nj, pl, _, _, rfl, by go_num, Lib.hid ⟨HR9.out, HSTEP.out.ok, hnj, HSTEP.out.at_, HCJ.out, HSTEP.out.rem HX0.out, HB9.out⟩⟩
                case measure => simp [intOf]; omega
      · go_wp2_with (go_at_call 15; go_loud (refine (HST.out _).mono ?_; rintro e w5 ⟨Aw, cw, rfl, r1, r2⟩; have HRW := Lib.hid r1; have HB5 := Lib.hid (HB.out.trans (r2.mono HB.out.size)); have HS5 := Lib.hid (HSRC.out.below r2); clear r1 r2))
        obtain ⟨nb, hnb⟩ : ∃ nb, w5.heap.size = nb := ⟨_, rfl⟩
        have HNB := Lib.hid hnb
        have hal : Below w5.heap.size w5 (w5.alloc (.cells #[.int .i64 0, .int .i64 0, .int .i64 0, .int .i64 0] 44)) := (Below.refl _ _).alloc (Nat.le_refl _) _
        have HPLO := Lib.hid (show Plo ps N nb w5 0 [0, 0, 0, 0] (List.replicate N noRg) Aw (w5.alloc (.cells #[.int .i64 0, .int .i64 0, .int .i64 0, .int .i64 0] 44)) from ⟨(HRW.out.below hal).more hal.size, HW0.out, rfl, fun k h => by
          rw [List.length_replicate] at h
          rw [List.getElem_replicate]
          have hN := HN.out
          have e : k = 0 ∨ k = 1 ∨ k = 2 ∨ k = 3 := by omega
          rcases e with rfl | rfl | rfl | rfl <;> rfl, by rw [← HNB.out]; exact Cells.new w5 _ _, by have := HREM0.out; simpa using this, hal⟩)
        clear hal
        try rw [hnb]
        clear hnb
        go_loopw [14, 16] (fun wv iv wr => ∃ (i : Nat) (nx : List Int) (l : List Rg) (A : Option Addr) (c : Nat), wv = .slice A N c ∧ iv = .int .i64 (i : Int) ∧ Hid (Plo ps N nb w5 i nx l A wr)) (fun _ iv _ => 200 - (intOf iv).toNat)
        case atStart => exact ⟨0, _, _, Aw, cw, rfl, rfl, HPLO⟩
        case round =>
          obtain ⟨i, nx, l, A, c, rfl, rfl, HP⟩ := hrel
          have hi124 : i ≤ 124 := by have h1 := HP.out.rem; have h2 := remS_nonneg (ps := ps) (l := l); omega
          have hi200 : (i : Int) < 200 := by omega
          have HBP := Lib.hid (HB5.out.trans (HP.out.below.mono HB5.out.size))
          have HPLAN := Lib.hid (fun (W : World) (hb : Below w5.heap.size w5 W) (hr : RowC rgCells 2 W W.heap.size A l) => plan_src (HS5.out.below hb) HP.out.ok A c hr 1 ⟨by decide, by decide⟩)
          have HST5 := Lib.hid (fun xs (hk : xs.map keyOf = keysTo (planL ps l 1) ps.length) => plan_step (i := i) (xs := xs) HP.out.ok HPN.out HFEW.out (by first | decide | exact hmb.1) HP.out.len HP.out.at_ HP.out.rem hk)
          have HFOL := Lib.hid (HP.out.ok.plan (most := 1) HFEW.out)
          obtain ⟨pl, hpl⟩ : ∃ pl, planL ps l 1 = pl := ⟨_, rfl⟩
          have HPL := Lib.hid hpl
          rw [hpl] at HST5 HFOL
          rw [HPN.out] at HPLAN
          clear hpl
          go_wp2_with (first
            | (go_at_call 16; go_loud (refine (HPLAN.out _ HP.out.below HP.out.row).mono ?_; rintro e w6 ⟨D, he, hD, r1, r2⟩; rw [HPN.out] at he; subst he; rw [HPL.out] at r1; have HD := Lib.hid hD; have HR6 := Lib.hid r1; have HB6 := Lib.hid r2; have HRL6 := Lib.hid ((HP.out.row.below r2).more r2.size); clear r1 r2 hD))
            | (go_at_call 17; go_loud (refine (rfollows_walk l pl A (some ⟨D, 0, none⟩) N c N N w6 (by rw [HP.out.ok.len, HPN.out]) (by have := HN.out; unfold maxLen; omega) HRL6.out (by rw [HFOL.out.1.len, HPN.out]) (by have := HN.out; unfold maxLen; omega) HR6.out).mono ?_; rintro e w7 ⟨rfl, r2⟩; rw [HFOL.out.2]; have HB7 := Lib.hid (HB6.out.trans (r2.mono HB6.out.size)); have HR7 := Lib.hid ((HR6.out.below r2).more r2.size); clear r2))
            | (go_at_call 18; go_loud (refine (show Calls Tryz.prog 18 #[.pointer (some ⟨s, 0, none⟩), .slice (some ⟨D, 0, none⟩) N N] w7 (SReadPost ps pl w7) from by have h := sread_src (HS5.out.below (HP.out.below.trans (HB7.out.mono HP.out.below.size))) HFOL.out.1 hM2 (Nat.le_trans (HBP.out.size) HB7.out.size) (HTAB.out _ _ HB1.out (HBP.out.trans (HB7.out.mono HBP.out.size))) (some ⟨D, 0, none⟩) N HR7.out; rwa [HPN.out] at h).mono ?_; rintro e w8 ⟨Ax, cx, xs, rfl, k1, k2, k3, k4, k5⟩; have HSTEP := Lib.hid (HST5.out xs (by rw [k1])); have HTELL := Lib.hid k2; have HOX := Lib.hid k3; have HRX := Lib.hid k4; have HB8 := Lib.hid (HB7.out.trans (k5.mono HB7.out.size)); have HR8 := Lib.hid ((HR7.out.below k5).more k5.size); have hfew := (HST5.out xs (by rw [k1])).few; have hfew2 : ¬ 1 < (xs.length : Int) := (by omega); clear k1 k2 k3 k4 k5)))
          obtain ⟨fin, hfin⟩ : ∃ fin, nxTo nx pl ps.length = fin := ⟨_, rfl⟩
          rw [hfin] at HSTEP
          have HROWX := Lib.hid (RowC.own r3C_length (by decide) HOX.out).2
          have hcn8 : Cells w8 nb (iA nx) 44 := (HB8.out.block nb HP.out.cells.lt).trans HP.out.cells
          have HCN8 := Lib.hid hcn8
          have hnbw : nb < wr.heap.size := HP.out.cells.lt
          have hDn : D ≠ nb := by have := HD.out; omega
          have HB58 := Lib.hid (HP.out.below.trans (HB8.out.mono HP.out.below.size))
          have hxl : xs.length ≤ 1024 := by omega
          clear hfin hcn8
          obtain ⟨w0, rfl⟩ : ∃ w0, w0 = wr := ⟨_, rfl⟩
          go_loopw [21] (fun jv wr => ∃ (j : Nat) (nj : List Int), jv = .int .i64 (j : Int) ∧ j ≤ xs.length ∧ nj.length = 4 ∧ Hid (Seqs N nj ((xs.map keyOf).drop j) fin) ∧ Hid (Cells wr nb (iA nj) 44) ∧ Hid (Ch (· = nb) w8 wr) ∧ Hid (Below w5.heap.size w5 wr)) (fun jv _ => xs.length - (intOf jv).toNat)
          case atStart => exact ⟨0, nx, rfl, Nat.zero_le _, HP.out.len, HSTEP.out.seqs, HCN8, Lib.hid (Ch.refl _ _), HB58⟩
          case round =>
            obtain ⟨j, nj, rfl, hj, hnj, HSQ, HCJ, HCH, HB9⟩ := hrel
            by_cases hjl : j < xs.length
            · have hsq := HSQ.out
              rw [drop_key hjl] at hsq
              obtain ⟨g1, g2, g3⟩ := hsq
              obtain ⟨pt, hp1, hp2⟩ := HTELL.out _ (List.getElem_mem hjl)
              obtain ⟨bx, offx, hAx, hbx, hcx⟩ := HROWX.out j hjl
              obtain ⟨hby, hu8⟩ := HRX.out _ (List.getElem_mem hjl)
              obtain ⟨X, hX⟩ : ∃ X, xs[j] = X := ⟨_, rfl⟩
              rw [hX] at g1 g2 g3 hp1 hp2 hcx hby hu8
              obtain ⟨p, a, bb, Ab, cb⟩ := X
              dsimp only [keyOf] at g1 g2 g3
              dsimp only at hp1 hp2 hby hu8
              have hbb : bb = [UInt8.ofNat p, UInt8.ofNat a] ∧ a < 31 := by
                obtain ⟨q1, q2⟩ := List.getElem?_eq_some_iff.1 hp1
                have h3 := HFULL.out.rs p q1
                rw [q2] at h3
                rw [h3] at hp2
                obtain ⟨h4, h5⟩ := recL_at hp2
                have := HC31.out p
                exact ⟨h4, by omega⟩
              have hbl : bb.length = 2 := by rw [hbb.1]; rfl
              have ha31 : a < 31 := hbb.2
              have hnx : bx ≠ nb := by
                rcases HOX.out.2 with ⟨e, _⟩ | ⟨g, cap, cur, e, _, hg, _⟩
                · injection e with e; rw [hAx] at e; cases e
                · injection e with e; rw [hAx] at e; injection e with e; injection e with e
                  rintro rfl
                  rw [e] at HCN8
                  have := Option.some.inj (hg.symm.trans HCN8.out)
                  injection this with _ h2
                  exact absurd h2 (by decide)
              have hch : ∀ o, wr.cell? ⟨bx, o, none⟩ = w8.cell? ⟨bx, o, none⟩ := fun o => World.cell?_of_block (a := ⟨bx, o, none⟩) (HCH.out.block bx hbx (fun e => hnx e))
              have cx0 : wr.cell? ⟨bx, offx + j * 3, none⟩ = some (.int .i64 (p : Int)) := by rw [hch]; exact hcx 0 _ rfl
              have cx1 : wr.cell? ⟨bx, offx + j * 3 + 1, none⟩ = some (.int .i64 (a : Int)) := by rw [hch]; exact hcx 1 _ rfl
              have cx2 : wr.cell? ⟨bx, offx + j * 3 + 2, none⟩ = some (.slice Ab 2 cb) := by rw [hch]; have := hcx 2 _ rfl; rw [this]; show some (Value.slice Ab bb.length cb) = _; rw [hbl]
              have hby9 : BytesAt wr wr.heap.size Ab bb := by
                intro t ht
                obtain ⟨b2, off2, e, hlt, hc⟩ := hby t ht
                obtain ⟨d, z, hk⟩ := hu8 _ e
                refine ⟨b2, off2, e, Nat.lt_of_lt_of_le hlt HCH.out.size, (World.cell?_of_block (a := ⟨b2, off2 + t, none⟩) (HCH.out.block b2 hlt (fun e2 => ?_))).trans hc⟩
                subst e2
                have := Option.some.inj (hk.symm.trans HCN8.out)
                injection this with _ h2
                exact absurd h2 (by decide)
              have hp4 : p < 4 := by have := HN.out; omega
              have hpn : p < nj.length := by omega
              have hnp : nj[p] = (a : Int) := by rw [List.getElem?_eq_getElem hpn] at g2; exact Option.some.inj g2
              have hcp := HCJ.out.iat hpn
              rw [hnp] at hcp
              have hcf := HCJ.out.frozen p
              have HSQ2 := Lib.hid g3
              have HCN := Lib.hid (fun (W : World) (hc : Cells W nb (iA nj) 44) => (show Cells (W.setCell ⟨nb, p, none⟩ (.int .i64 ((a : Int) + 1))) nb (iA (nj.set p ((a : Int) + 1))) 44 from hc.iset p _))
              have HBB := Lib.hid hbb.1
              have HBY := Lib.hid hby9
              have hp0 : ¬ (p : Int) < 0 := by omega
              have hpN2 : ¬ (N : Int) ≤ (p : Int) := by omega
              have hp5 : (p : Int) < 4 := by omega
              have hpN3 : p < N := g1
              have u1 : IntKind.u8.wrap (p : Int) = (p : Int) := by rw [IntKind.wrap_u8]; omega
              have u2 : IntKind.u8.wrap (a : Int) = (a : Int) := by rw [IntKind.wrap_u8]; omega
              have s9 : IntKind.i64.wrap ((a : Int) + 1) = (a : Int) + 1 := wrap_id (by omega)
              have hjl2 : (j : Int) < (xs.length : Int) := by omega
              have hnw : nb < wr.heap.size := HCJ.out.lt
              have hbxw : bx < wr.heap.size := Nat.lt_of_lt_of_le hbx HCH.out.size
              subst hAx
              clear hX g1 g2 g3 hp1 hp2 hcx hby hu8 hbb hch hby9 hnp
              go_wp2_with fail
              obtain ⟨rb, hrb⟩ : ∃ g, wr.heap.size = g := ⟨_, rfl⟩
              have hbox : Below wr.heap.size wr (wr.alloc (.cells #[.int .i64 (p : Int), .int .i64 (a : Int), .slice Ab 2 cb] 53)) := (Below.refl _ _).alloc (Nat.le_refl _) _
              have hcb : Cells (wr.alloc (.cells #[.int .i64 (p : Int), .int .i64 (a : Int), .slice Ab 2 cb] 53)) wr.heap.size #[.int .i64 (p : Int), .int .i64 (a : Int), .slice Ab 2 cb] 53 := Cells.new wr _ _
              have hcj := HCJ.out.alloc (.cells #[.int .i64 (p : Int), .int .i64 (a : Int), .slice Ab 2 cb] 53)
              obtain ⟨w9, hw9⟩ : ∃ V, wr.alloc (.cells #[.int .i64 (p : Int), .int .i64 (a : Int), .slice Ab 2 cb] 53) = V := ⟨_, rfl⟩
              rw [hw9] at hbox hcb hcj
              rw [hrb] at hcb
              try rw [hw9]
              try rw [hrb]
              have q0 : w9.cell? ⟨rb, 0, none⟩ = some (.int .i64 (p : Int)) := hcb.cell 0
              have q1 : w9.cell? ⟨rb, 1, none⟩ = some (.int .i64 (a : Int)) := hcb.cell 1
              have q2 : w9.cell? ⟨rb, 2, none⟩ = some (.slice Ab 2 cb) := hcb.cell 2
              have q3 := cell_later hbox hcp
              have q4 := ml_bytes HBY.out hbox
              have HCJ9 := Lib.hid hcj
              have HCB9 := Lib.hid hcb
              have HBOX := Lib.hid hbox
              have HTX := Lib.hid (show ∀ (W : World) (A' : Option Addr) (c' : Nat), BytesAt W W.heap.size A' bb → (convert 30 9 (.slice A' 2 c')).run Tryz.prog W = .ok (.string (txt bb)) W from fun W A' c' h => string_of_bytes A' 2 c' bb W hbl.symm h)
              obtain ⟨tx, htx⟩ : ∃ tx, txt bb = tx := ⟨_, rfl⟩
              rw [htx] at HTX
              have htt : (tx.toList != tx.toList) = false := by simp
              clear hbox hcb hcj hw9 hrb htx
              refine wp_mono ?_ noPanic_le
              refine held_begin 32 (fun W => W.cell? ⟨rb, 0, none⟩ = some (.int .i64 (p : Int)) ∧ W.cell? ⟨rb, 1, none⟩ = some (.int .i64 (a : Int)) ∧ W.cell? ⟨rb, 2, none⟩ = some (.slice Ab 2 cb) ∧ W.cell? ⟨nb, p, none⟩ = some (.int .i64 (a : Int)) ∧ BytesAt W W.heap.size Ab bb) rfl (by kernel_rfl) ?_
              have hS : w9.drew.cell? ⟨rb, 0, none⟩ = some (.int .i64 (p : Int)) ∧ w9.drew.cell? ⟨rb, 1, none⟩ = some (.int .i64 (a : Int)) ∧ w9.drew.cell? ⟨rb, 2, none⟩ = some (.slice Ab 2 cb) ∧ w9.drew.cell? ⟨nb, p, none⟩ = some (.int .i64 (a : Int)) ∧ BytesAt w9.drew w9.drew.heap.size Ab bb := ⟨q0, q1, q2, q3, q4⟩
              refine held_take (i := 0) (t := 137) (v := (.pointer (some ⟨rb, 0, none⟩))) (fuel := 31) rfl rfl (by kernel_rfl) (by kernel_rfl) (by kernel_rfl) (fun _ _ _ h => h) (.inl ⟨rfl, fun W hW => by obtain ⟨w1, w2, w3, w4, w5_⟩ := hW; simp [execOp, Act.eval, go_sem, w1, w2, w3, w4]⟩) hS ?_
              simp only [List.setIfInBounds_toArray, List.set_cons_succ, List.set_cons_zero]
              refine held_take (i := 1) (t := 138) (v := (.int .i64 (p : Int))) (fuel := 30) rfl rfl (by kernel_rfl) (by kernel_rfl) (by kernel_rfl) (fun _ _ _ h => h) (.inl ⟨rfl, fun W hW => by obtain ⟨w1, w2, w3, w4, w5_⟩ := hW; simp [execOp, Act.eval, go_sem, w1, w2, w3, w4]⟩) hS ?_
              simp only [List.setIfInBounds_toArray, List.set_cons_succ, List.set_cons_zero]
              refine held_take (i := 2) (t := 139) (v := (.bool false)) (fuel := 29) rfl rfl (by kernel_rfl) (by kernel_rfl) (by kernel_rfl) (fun _ _ _ h => h) (.inl ⟨rfl, fun W hW => by obtain ⟨w1, w2, w3, w4, w5_⟩ := hW; simp [execOp, Act.eval, go_sem, w1, w2, w3, w4, hp0]⟩) hS ?_
              simp only [List.setIfInBounds_toArray, List.set_cons_succ, List.set_cons_zero]
              refine held_take (i := 3) (t := 140) (v := (.bool false)) (fuel := 28) rfl rfl (by kernel_rfl) (by kernel_rfl) (by kernel_rfl) (fun _ _ _ h => h) (.inl ⟨rfl, fun W hW => by obtain ⟨w1, w2, w3, w4, w5_⟩ := hW; simp [execOp, Act.eval, go_sem, w1, w2, w3, w4]⟩) hS ?_
              simp only [List.setIfInBounds_toArray, List.set_cons_succ, List.set_cons_zero]
              refine held_take (i := 4) (t := 141) (v := (.pointer (some ⟨rb, 0, none⟩))) (fuel := 27) rfl rfl (by kernel_rfl) (by kernel_rfl) (by kernel_rfl) (fun _ _ _ h => h) (.inl ⟨rfl, fun W hW => by obtain ⟨w1, w2, w3, w4, w5_⟩ := hW; simp [execOp, Act.eval, go_sem, w1, w2, w3, w4]⟩) hS ?_
              simp only [List.setIfInBounds_toArray, List.set_cons_succ, List.set_cons_zero]
              refine held_take (i := 5) (t := 142) (v := (.int .i64 (p : Int))) (fuel := 26) rfl rfl (by kernel_rfl) (by kernel_rfl) (by kernel_rfl) (fun _ _ _ h => h) (.inl ⟨rfl, fun W hW => by obtain ⟨w1, w2, w3, w4, w5_⟩ := hW; simp [execOp, Act.eval, go_sem, w1, w2, w3, w4]⟩) hS ?_
              simp only [List.setIfInBounds_toArray, List.set_cons_succ, List.set_cons_zero]
              refine held_take (i := 6) (t := 143) (v := (.int .i64 (N : Int))) (fuel := 25) rfl rfl (by kernel_rfl) (by kernel_rfl) (by kernel_rfl) (fun _ _ _ h => h) (.inl ⟨rfl, fun W hW => by obtain ⟨w1, w2, w3, w4, w5_⟩ := hW; simp [execOp, Act.eval, go_sem, w1, w2, w3, w4]⟩) hS ?_
              simp only [List.setIfInBounds_toArray, List.set_cons_succ, List.set_cons_zero]
              refine held_take (i := 7) (t := 144) (v := (.bool false)) (fuel := 24) rfl rfl (by kernel_rfl) (by kernel_rfl) (by kernel_rfl) (fun _ _ _ h => h) (.inl ⟨rfl, fun W hW => by obtain ⟨w1, w2, w3, w4, w5_⟩ := hW; simp [execOp, Act.eval, go_sem, w1, w2, w3, w4, hpN2, hpN3]⟩) hS ?_
              simp only [List.setIfInBounds_toArray, List.set_cons_succ, List.set_cons_zero]
              refine held_take (i := 8) (t := 145) (v := (.bool false)) (fuel := 23) rfl rfl (by kernel_rfl) (by kernel_rfl) (by kernel_rfl) (fun _ _ _ h => h) (.inl ⟨rfl, fun W hW => by obtain ⟨w1, w2, w3, w4, w5_⟩ := hW; simp [execOp, Act.eval, go_sem, w1, w2, w3, w4]⟩) hS ?_
              simp only [List.setIfInBounds_toArray, List.set_cons_succ, List.set_cons_zero]
              refine held_take (i := 9) (t := 146) (v := (.bool false)) (fuel := 22) rfl rfl (by kernel_rfl) (by kernel_rfl) (by kernel_rfl) (fun _ _ _ h => h) (.inl ⟨rfl, fun W hW => by obtain ⟨w1, w2, w3, w4, w5_⟩ := hW; simp [execOp, Act.eval, go_sem, w1, w2, w3, w4]⟩) hS ?_
              simp only [List.setIfInBounds_toArray, List.set_cons_succ, List.set_cons_zero]
              refine held_take (i := 10) (t := 147) (v := (.pointer (some ⟨rb, 1, none⟩))) (fuel := 21) rfl rfl (by kernel_rfl) (by kernel_rfl) (by kernel_rfl) (fun _ _ _ h => h) (.inl ⟨rfl, fun W hW => by obtain ⟨w1, w2, w3, w4, w5_⟩ := hW; simp [execOp, Act.eval, go_sem, w1, w2, w3, w4]⟩) hS ?_
              simp only [List.setIfInBounds_toArray, List.set_cons_succ, List.set_cons_zero]
              refine held_take (i := 11) (t := 148) (v := (.int .i64 (a : Int))) (fuel := 20) rfl rfl (by kernel_rfl) (by kernel_rfl) (by kernel_rfl) (fun _ _ _ h => h) (.inl ⟨rfl, fun W hW => by obtain ⟨w1, w2, w3, w4, w5_⟩ := hW; simp [execOp, Act.eval, go_sem, w1, w2, w3, w4]⟩) hS ?_
              simp only [List.setIfInBounds_toArray, List.set_cons_succ, List.set_cons_zero]
              refine held_take (i := 12) (t := 149) (v := (.pointer (some ⟨rb, 0, none⟩))) (fuel := 19) rfl rfl (by kernel_rfl) (by kernel_rfl) (by kernel_rfl) (fun _ _ _ h => h) (.inl ⟨rfl, fun W hW => by obtain ⟨w1, w2, w3, w4, w5_⟩ := hW; simp [execOp, Act.eval, go_sem, w1, w2, w3, w4]⟩) hS ?_
              simp only [List.setIfInBounds_toArray, List.set_cons_succ, List.set_cons_zero]
              refine held_take (i := 13) (t := 150) (v := (.int .i64 (p : Int))) (fuel := 18) rfl rfl (by kernel_rfl) (by kernel_rfl) (by kernel_rfl) (fun _ _ _ h => h) (.inl ⟨rfl, fun W hW => by obtain ⟨w1, w2, w3, w4, w5_⟩ := hW; simp [execOp, Act.eval, go_sem, w1, w2, w3, w4]⟩) hS ?_
              simp only [List.setIfInBounds_toArray, List.set_cons_succ, List.set_cons_zero]
              refine held_take (i := 14) (t := 151) (v := (.pointer (some ⟨nb, p, none⟩))) (fuel := 17) rfl rfl (by kernel_rfl) (by kernel_rfl) (by kernel_rfl) (fun _ _ _ h => h) (.inl ⟨rfl, fun W hW => by obtain ⟨w1, w2, w3, w4, w5_⟩ := hW; simp [execOp, Act.eval, go_sem, w1, w2, w3, w4, hp4, hp5]⟩) hS ?_
              simp only [List.setIfInBounds_toArray, List.set_cons_succ, List.set_cons_zero]
              refine held_take (i := 15) (t := 152) (v := (.int .i64 (a : Int))) (fuel := 16) rfl rfl (by kernel_rfl) (by kernel_rfl) (by kernel_rfl) (fun _ _ _ h => h) (.inl ⟨rfl, fun W hW => by obtain ⟨w1, w2, w3, w4, w5_⟩ := hW; simp [execOp, Act.eval, go_sem, w1, w2, w3, w4]⟩) hS ?_
              simp only [List.setIfInBounds_toArray, List.set_cons_succ, List.set_cons_zero]
              refine held_take (i := 16) (t := 153) (v := (.bool false)) (fuel := 15) rfl rfl (by kernel_rfl) (by kernel_rfl) (by kernel_rfl) (fun _ _ _ h => h) (.inl ⟨rfl, fun W hW => by obtain ⟨w1, w2, w3, w4, w5_⟩ := hW; simp [execOp, Act.eval, go_sem, w1, w2, w3, w4]⟩) hS ?_
              simp only [List.setIfInBounds_toArray, List.set_cons_succ, List.set_cons_zero]
              refine held_take (i := 17) (t := 154) (v := (.bool false)) (fuel := 14) rfl rfl (by kernel_rfl) (by kernel_rfl) (by kernel_rfl) (fun _ _ _ h => h) (.inl ⟨rfl, fun W hW => by obtain ⟨w1, w2, w3, w4, w5_⟩ := hW; simp [execOp, Act.eval, go_sem, w1, w2, w3, w4]⟩) hS ?_
              simp only [List.setIfInBounds_toArray, List.set_cons_succ, List.set_cons_zero]
              refine held_take (i := 18) (t := 155) (v := (.bool false)) (fuel := 13) rfl rfl (by kernel_rfl) (by kernel_rfl) (by kernel_rfl) (fun _ _ _ h => h) (.inl ⟨rfl, fun W hW => by obtain ⟨w1, w2, w3, w4, w5_⟩ := hW; simp [execOp, Act.eval, go_sem, w1, w2, w3, w4]⟩) hS ?_
              simp only [List.setIfInBounds_toArray, List.set_cons_succ, List.set_cons_zero]
              refine held_take (i := 19) (t := 156) (v := (.pointer (some ⟨rb, 2, none⟩))) (fuel := 12) rfl rfl (by kernel_rfl) (by kernel_rfl) (by kernel_rfl) (fun _ _ _ h => h) (.inl ⟨rfl, fun W hW => by obtain ⟨w1, w2, w3, w4, w5_⟩ := hW; simp [execOp, Act.eval, go_sem, w1, w2, w3, w4]⟩) hS ?_
              simp only [List.setIfInBounds_toArray, List.set_cons_succ, List.set_cons_zero]
              refine held_take (i := 20) (t := 157) (v := (.slice Ab 2 cb)) (fuel := 11) rfl rfl (by kernel_rfl) (by kernel_rfl) (by kernel_rfl) (fun _ _ _ h => h) (.inl ⟨rfl, fun W hW => by obtain ⟨w1, w2, w3, w4, w5_⟩ := hW; simp [execOp, Act.eval, go_sem, w1, w2, w3, w4]⟩) hS ?_
              simp only [List.setIfInBounds_toArray, List.set_cons_succ, List.set_cons_zero]
              refine held_take (i := 21) (t := 158) (v := (.string tx)) (fuel := 10) rfl rfl (by kernel_rfl) (by kernel_rfl) (by kernel_rfl) (fun _ _ _ h => h) (.inl ⟨rfl, fun W hW => by obtain ⟨w1, w2, w3, w4, w5_⟩ := hW; have hcv := HTX.out W Ab cb w5_; simp [execOp, Act.eval, go_sem, w1, w2, w3, w4, hcv]⟩) hS ?_
              simp only [List.setIfInBounds_toArray, List.set_cons_succ, List.set_cons_zero]
              refine held_take (i := 22) (t := 159) (v := (.pointer (some ⟨rb, 0, none⟩))) (fuel := 9) rfl rfl (by kernel_rfl) (by kernel_rfl) (by kernel_rfl) (fun _ _ _ h => h) (.inl ⟨rfl, fun W hW => by obtain ⟨w1, w2, w3, w4, w5_⟩ := hW; simp [execOp, Act.eval, go_sem, w1, w2, w3, w4]⟩) hS ?_
              simp only [List.setIfInBounds_toArray, List.set_cons_succ, List.set_cons_zero]
              refine held_take (i := 23) (t := 160) (v := (.int .i64 (p : Int))) (fuel := 8) rfl rfl (by kernel_rfl) (by kernel_rfl) (by kernel_rfl) (fun _ _ _ h => h) (.inl ⟨rfl, fun W hW => by obtain ⟨w1, w2, w3, w4, w5_⟩ := hW; simp [execOp, Act.eval, go_sem, w1, w2, w3, w4]⟩) hS ?_
              simp only [List.setIfInBounds_toArray, List.set_cons_succ, List.set_cons_zero]
              refine held_take (i := 24) (t := 161) (v := (.int .u8 (p : Int))) (fuel := 7) rfl rfl (by kernel_rfl) (by kernel_rfl) (by kernel_rfl) (fun _ _ _ h => h) (.inl ⟨rfl, fun W hW => by obtain ⟨w1, w2, w3, w4, w5_⟩ := hW; simp [execOp, Act.eval, go_sem, w1, w2, w3, w4, u1]⟩) hS ?_
              simp only [List.setIfInBounds_toArray, List.set_cons_succ, List.set_cons_zero]
              refine held_take (i := 25) (t := 162) (v := (.pointer (some ⟨rb, 1, none⟩))) (fuel := 6) rfl rfl (by kernel_rfl) (by kernel_rfl) (by kernel_rfl) (fun _ _ _ h => h) (.inl ⟨rfl, fun W hW => by obtain ⟨w1, w2, w3, w4, w5_⟩ := hW; simp [execOp, Act.eval, go_sem, w1, w2, w3, w4]⟩) hS ?_
              simp only [List.setIfInBounds_toArray, List.set_cons_succ, List.set_cons_zero]
              refine held_take (i := 26) (t := 163) (v := (.int .i64 (a : Int))) (fuel := 5) rfl rfl (by kernel_rfl) (by kernel_rfl) (by kernel_rfl) (fun _ _ _ h => h) (.inl ⟨rfl, fun W hW => by obtain ⟨w1, w2, w3, w4, w5_⟩ := hW; simp [execOp, Act.eval, go_sem, w1, w2, w3, w4]⟩) hS ?_
              simp only [List.setIfInBounds_toArray, List.set_cons_succ, List.set_cons_zero]
              refine held_take (i := 27) (t := 164) (v := (.int .u8 (a : Int))) (fuel := 4) rfl rfl (by kernel_rfl) (by kernel_rfl) (by kernel_rfl) (fun _ _ _ h => h) (.inl ⟨rfl, fun W hW => by obtain ⟨w1, w2, w3, w4, w5_⟩ := hW; simp [execOp, Act.eval, go_sem, w1, w2, w3, w4, u2]⟩) hS ?_
              simp only [List.setIfInBounds_toArray, List.set_cons_succ, List.set_cons_zero]
              refine held_call (i := 28) rfl (by kernel_rfl) (by kernel_rfl) ?_
              simp [Oper.wp, execOp, Act.eval, Act.put, go_sem]
              have hbn : Below w9.heap.size w9 (w9.alloc (.cells #[.int .u8 (p : Int), .int .u8 (a : Int)] 5)).drew := ((Below.refl _ w9).alloc (Nat.le_refl _) _).drew
              have hcb2 : Cells (w9.alloc (.cells #[.int .u8 (p : Int), .int .u8 (a : Int)] 5)).drew w9.heap.size #[.int .u8 (p : Int), .int .u8 (a : Int)] 5 := Cells.new w9 _ _
              obtain ⟨gf, hgf⟩ : ∃ g, w9.heap.size = g := ⟨_, rfl⟩
              obtain ⟨wA, hwA⟩ : ∃ V, (w9.alloc (.cells #[.int .u8 (p : Int), .int .u8 (a : Int)] 5)).drew = V := ⟨_, rfl⟩
              rw [hwA] at hbn hcb2
              rw [hgf] at hcb2
              rw [hwA]
              rw [hgf]
              have hbf := two_at (by omega) (by omega) hcb2
              rw [← HBB.out] at hbf
              have HC10 := Lib.hid (show Cells wA nb (iA nj) 44 from (hbn.block nb HCJ9.out.lt).trans HCJ9.out)
              have hb10 := HBOX.out.trans (hbn.mono HBOX.out.size)
              have HCH10 := Lib.hid (HCH.out.trans ((chb hb10).mono (fun _ _ h => h.elim)))
              have HB10 := Lib.hid (HB9.out.trans (hb10.mono HB9.out.size))
              have hbn2 : Below w9.heap.size w9 (w9.alloc (.cells #[.int .u8 (p : Int), .int .u8 (a : Int)] 5)) := (Below.refl _ w9).alloc (Nat.le_refl _) _
              have hS2 : (w9.alloc (.cells #[.int .u8 (p : Int), .int .u8 (a : Int)] 5)).cell? ⟨rb, 0, none⟩ = some (.int .i64 (p : Int)) ∧ (w9.alloc (.cells #[.int .u8 (p : Int), .int .u8 (a : Int)] 5)).cell? ⟨rb, 1, none⟩ = some (.int .i64 (a : Int)) ∧ (w9.alloc (.cells #[.int .u8 (p : Int), .int .u8 (a : Int)] 5)).cell? ⟨rb, 2, none⟩ = some (.slice Ab 2 cb) ∧ (w9.alloc (.cells #[.int .u8 (p : Int), .int .u8 (a : Int)] 5)).cell? ⟨nb, p, none⟩ = some (.int .i64 (a : Int)) ∧ BytesAt (w9.alloc (.cells #[.int .u8 (p : Int), .int .u8 (a : Int)] 5)) (w9.alloc (.cells #[.int .u8 (p : Int), .int .u8 (a : Int)] 5)).heap.size Ab bb := ⟨cell_later hbn2 q0, cell_later hbn2 q1, cell_later hbn2 q2, cell_later hbn2 q3, ml_bytes q4 hbn2⟩
              have hszB : BytesAt wA (gf + 1) Ab bb := by have h := ml_bytes q4 hbn; rwa [show wA.heap.size = gf + 1 from by rw [← hwA, ← hgf]; exact Go.Deep.nblk_alloc w9 _] at h
              have hS : wA.cell? ⟨rb, 0, none⟩ = some (.int .i64 (p : Int)) ∧ wA.cell? ⟨rb, 1, none⟩ = some (.int .i64 (a : Int)) ∧ wA.cell? ⟨rb, 2, none⟩ = some (.slice Ab 2 cb) ∧ wA.cell? ⟨nb, p, none⟩ = some (.int .i64 (a : Int)) ∧ BytesAt wA wA.heap.size Ab bb := ⟨cell_later hbn q0, cell_later hbn q1, cell_later hbn q2, cell_later hbn q3, ml_bytes q4 hbn⟩
              refine ⟨(by first | exact hS | exact hS2 | (refine ⟨?_, ?_, ?_, ?_, ?_⟩ <;> first | exact hS.1 | exact hS2.1 | exact hS.2.1 | exact hS2.2.1 | exact hS.2.2.1 | exact hS2.2.2.1 | exact hS.2.2.2.1 | exact hS2.2.2.2.1 | exact hS.2.2.2.2 | exact hS2.2.2.2.2 | exact hszB | (simpa using hszB))), ?_⟩
              try simp only [List.setIfInBounds_toArray, List.set_cons_succ, List.set_cons_zero]
              refine held_more (S' := fun W => (W.cell? ⟨rb, 0, none⟩ = some (.int .i64 (p : Int)) ∧ W.cell? ⟨rb, 1, none⟩ = some (.int .i64 (a : Int)) ∧ W.cell? ⟨rb, 2, none⟩ = some (.slice Ab 2 cb) ∧ W.cell? ⟨nb, p, none⟩ = some (.int .i64 (a : Int)) ∧ BytesAt W W.heap.size Ab bb) ∧ BytesAt W W.heap.size (some ⟨gf, 0, none⟩) bb) (fun _ h => h.1) _ _ _ _ ?_
              have hS1 := hS
              have hS : (wA.cell? ⟨rb, 0, none⟩ = some (.int .i64 (p : Int)) ∧ wA.cell? ⟨rb, 1, none⟩ = some (.int .i64 (a : Int)) ∧ wA.cell? ⟨rb, 2, none⟩ = some (.slice Ab 2 cb) ∧ wA.cell? ⟨nb, p, none⟩ = some (.int .i64 (a : Int)) ∧ BytesAt wA wA.heap.size Ab bb) ∧ BytesAt wA wA.heap.size (some ⟨gf, 0, none⟩) bb := ⟨hS1, hbf⟩
              refine held_take (i := 29) (t := 166) (v := (.string tx)) (fuel := 2) rfl rfl (by kernel_rfl) (by kernel_rfl) (by kernel_rfl) (fun _ _ _ h => h) (.inl ⟨rfl, fun W hW => by obtain ⟨⟨w1, w2, w3, w4, w5_⟩, w6_⟩ := hW; have hcv := HTX.out W (some ⟨gf, 0, none⟩) 2 w6_; simp [execOp, Act.eval, go_sem, hcv]⟩) hS ?_
              simp only [List.setIfInBounds_toArray, List.set_cons_succ, List.set_cons_zero]
              refine held_take (i := 30) (t := 167) (v := (.bool false)) (fuel := 1) rfl rfl (by kernel_rfl) (by kernel_rfl) (by kernel_rfl) (fun _ _ _ h => h) (.inl ⟨rfl, fun W hW => by obtain ⟨⟨w1, w2, w3, w4, w5_⟩, w6_⟩ := hW; simp [execOp, Act.eval, go_sem, htt]⟩) hS ?_
              simp only [List.setIfInBounds_toArray, List.set_cons_succ, List.set_cons_zero]
              refine held_take (i := 31) (t := 168) (v := (.bool false)) (fuel := 0) rfl rfl (by kernel_rfl) (by kernel_rfl) (by kernel_rfl) (fun _ _ _ h => h) (.inl ⟨rfl, fun W hW => by obtain ⟨⟨w1, w2, w3, w4, w5_⟩, w6_⟩ := hW; simp [execOp, Act.eval, go_sem]⟩) hS ?_
              simp only [List.setIfInBounds_toArray, List.set_cons_succ, List.set_cons_zero]
              refine wpAnyH_done (by kernel_rfl) ?_ 0
              unfold noPanic
              have r0 : wA.cell? ⟨rb, 0, none⟩ = some (.int .i64 (p : Int)) := hS1.1
              have r3 : wA.cell? ⟨nb, p, none⟩ = some (.int .i64 (a : Int)) := hS1.2.2.2.1
              have r4 : wA.frozen? ⟨nb, p, none⟩ = false := HC10.out.frozen p
              have r5 : nb < wA.heap.size := HC10.out.lt
              clear hS hS1 hS2 hbn2 q0 q1 q2 q3 q4 hbn hbf hcb2 hb10 hwA hgf cx0 cx1 cx2 hcp hcf
              go_wp2_with fail
              go_roundw
              case rel => exact ⟨j + 1, nj.set p ((a : Int) + 1), by go_num, hjl, by rw [List.length_set]; exact hnj, HSQ2, Lib.hid (HCN.out _ HC10.out), Lib.hid (HCH10.out.set (p := ⟨nb, p, none⟩) (.inl rfl) _), Lib.hid (HB10.out.setCell (p := ⟨nb, p, none⟩) (by rw [HNB.out]; exact Nat.le_refl _) _)⟩
              case measure => simp [intOf]; omega
            · obtain rfl : j = xs.length := by omega
              have hjl2 : ¬ (xs.length : Int) < (xs.length : Int) := by omega
              have hsq := HSQ.out
              rw [show (xs.map keyOf).drop xs.length = [] by rw [List.drop_eq_nil_of_le]; simp] at hsq
              have hnf : nj = fin := hsq
              subst hnf
              have HR9 := Lib.hid (show RowC rgCells 2 wr wr.heap.size (some ⟨D, 0, none⟩) pl from fun t ht => by
                obtain ⟨b2, off2, e, hlt, hc⟩ := HR8.out t ht
                have e2 : b2 = D := by injection e with e; injection e with e; exact e.symm
                refine ⟨b2, off2, e, Nat.lt_of_lt_of_le hlt HCH.out.size, fun i x hx => (World.cell?_of_block (a := ⟨b2, _, none⟩) (HCH.out.block b2 hlt (fun e3 => hDn (e2.symm.trans e3)))).trans (hc i x hx)⟩)
              clear hsq
              by_cases hx0 : xs.length = 0
              · have hx1 : ((xs.length : Int) == 0) = true := by rw [hx0]; rfl
                have hx2 : (xs.length : Int) = 0 := by omega
                have HFIN := Lib.hid (show ∀ k, k < N → nj[k]? = some (cN k : Int) from fun k hk => by
                  have hp := HFOL.out.1.len
                  have hk2 : k < ps.length := by rw [HPN.out]; exact hk
                  rw [HSTEP.out.at_ k (by omega), HSTEP.out.none_ hx0 k (by omega) hk2, HFULL.out.dur k hk2])
                clear hx0
                go_wp2_with fail
                obtain ⟨w9, rfl⟩ : ∃ w9, w9 = wr := ⟨_, rfl⟩
                go_loopw [23] (fun kv wr => ∃ k : Nat, kv = .int .i64 (k : Int) ∧ k ≤ min cs.length 4 ∧ Hid (Below w9.heap.size w9 wr)) (fun kv _ => 4 - (intOf kv).toNat)
                case atStart => exact ⟨0, rfl, Nat.zero_le _, Lib.hid (Below.refl _ _)⟩
                case round =>
                  obtain ⟨k, rfl, hk, HBk⟩ := hrel
                  by_cases hlt : k < min cs.length 4
                  · have hk1 : k < cs.length := by omega
                    have hk2 : (k : Int) < (cs.length : Int) := by omega
                    have hk3 : (k : Int) < 4 := by omega
                    have hk4 : k < 4 := by omega
                    have hxc := HCAT.out k hk1
                    have hb19 : Below w.heap.size w wr := HB1.out.trans (((HB5.out.trans (HB9.out.mono HB5.out.size)).trans (HBk.out.mono (Nat.le_trans HB5.out.size HB9.out.size))).mono HB1.out.size)
                    obtain ⟨b0, off0, hA0, hb0, hcell⟩ := kC_r (HR0.out.below hb19) k hk1
                    have hkn : k < nj.length := by omega
                    have hcn := (show Cells wr nb (iA nj) 44 from (HBk.out.block nb HCJ.out.lt).trans HCJ.out).iat hkn
                    have hv : nj[k] = (cN k : Int) := by have := HFIN.out k (by have := HND.out; omega); rw [List.getElem?_eq_getElem hkn] at this; exact Option.some.inj this
                    rw [hv] at hcn
                    obtain ⟨x, hx⟩ : ∃ x, cs[k] = x := ⟨_, rfl⟩
                    obtain ⟨cc, hcc⟩ : ∃ x, cN k = x := ⟨_, rfl⟩
                    have hx0c := (HCS.out _ (List.getElem_mem hk1)).1
                    rw [hx] at hcell hxc hx0c
                    have hc31 := HC31.out k
                    rw [hcc] at hcn hxc hc31
                    have htm : wrap64 (x.tmod 32) = (cc : Int) := by rw [Int.tmod_eq_emod_of_nonneg hx0c, hxc]; exact IntWalk.wrap64_in _ ⟨by omega, by omega⟩
                    have hcn3 : ((cc : Int) != wrap64 (x.tmod 32)) = false := by rw [htm]; simp
                    have hcn4 : decide ((cc : Int) = wrap64 (x.tmod 32)) = true := by rw [htm]; simp
                    have hcn5 : ((cc : Int) == wrap64 (x.tmod 32)) = true := by rw [htm]; simp
                    subst hA0
                    clear hx hcc hv hb19
                    go_wp2_with fail
                    go_quiet (fail)
                    go_wp2_with fail
                    all_goals first | exact ⟨⟨k + 1, by go_num, by omega, Lib.hid (below_more HBk.out _)⟩, by simp [intOf]; omega⟩ | trace_state
                  · have hend3 : ¬ ((k : Int) < (cs.length : Int)) ∨ ((k : Int) < (cs.length : Int) ∧ ¬ (k : Int) < 4) := by omega
                    rcases hend3 with hend3 | ⟨hend3, hend4⟩
                    all_goals go_wp2_with fail
                    all_goals go_ret
                    all_goals exact ⟨rfl, HB1.out.trans (((HB5.out.trans (HB9.out.mono HB5.out.size)).trans (HBk.out.mono (Nat.le_trans HB5.out.size HB9.out.size))).mono HB1.out.size)⟩
              · have hx1 : ((xs.length : Int) == 0) = false := by rw [beq_eq_false_iff_ne]; omega
                have hx3 : decide ((xs.length : Int) = 0) = false := decide_eq_false (by omega)
                have HX0 := Lib.hid hx0
                clear hx0
                go_wp2_with fail
                go_roundw
                case rel => exact ⟨i + 1, nj, pl, _, _, rfl, by go_num, Lib.hid ⟨HR9.out, HSTEP.out.ok, hnj, HSTEP.out.at_, HCJ.out, HSTEP.out.rem HX0.out, HB9.out⟩⟩
                case measure => simp [intOf]; omega
set_option maxRecDepth 100000 in
set_option maxHeartbeats 64000000 in
theorem sall_b (cs ms : List Int) (hcs : ∀ x ∈ cs, 0 ≤ x ∧ x ≤ 255) (hms : ∀ x ∈ ms, 0 ≤ x ∧ x ≤ 65535) (A0 A1 : Option Addr) (c0 c1 : Nat) (hmax0 : cs.length ≤ 9223372036854775807) (hmax1 : ms.length ≤ 9223372036854775807) (hm0 : 0 < ms.length) (w : World) (hA : RowC (kC .u8) 1 w w.heap.size A0 cs) (hA1 : RowC (kC .u16) 1 w w.heap.size A1 ms) (hT : Tab w.heap.size w) :
    Calls Tryz.prog 5 #[.slice A0 cs.length c0, .slice A1 ms.length c1] w fun e w' => e = .returned (.bool true) ∧ Below w.heap.size w w' := by
  have HA := Lib.hid (alive_so w hT)
  have HTAB := Lib.hid (fun (W1 W : World) (hb1 : Below w.heap.size w W1) (hb : Below W1.heap.size W1 W) => ((⟨Nat.lt_of_lt_of_le hT.1 hb1.size, ((hT.below hb1).below (hb.mono hb1.size)).2⟩ : Tab W1.heap.size W)))
  have HR0 := Lib.hid hA
  have HR1 := Lib.hid hA1
  have HCS := Lib.hid hcs
  have HMS := Lib.hid hms
  obtain ⟨N, hNd⟩ : ∃ N, N = min (max cs.length 1) 4 := ⟨_, rfl⟩
  have hN : 1 ≤ N ∧ N ≤ 4 := by omega
  have HND := Lib.hid hNd
  have hNI : min (max (cs.length : Int) 1) 4 = (N : Int) := by omega
  obtain ⟨cN, hcN⟩ : ∃ cN : Nat → Nat, cN = fun j => ((cs[j]?.getD 0) % 32).toNat := ⟨_, rfl⟩
  have HC31 := Lib.hid (show ∀ k, cN k ≤ 31 from fun k => by rw [hcN]; simp only; omega)
  have HCAT := Lib.hid (show ∀ k (h : k < cs.length), cs[k] % 32 = (cN k : Int) from fun k h => by
    have := hcs _ (List.getElem_mem h)
    rw [hcN]; simp only [List.getElem?_eq_getElem h, Option.getD_some]; omega)
  have HCZ := Lib.hid (show ∀ k, cs.length ≤ k → cN k = 0 from fun k h => by rw [hcN]; simp [List.getElem?_eq_none h])
  clear hT hA hA1 hcs hms hNd hcN
  go_enter Tryz.func5, Tryz.ntmps5
  go_wp2_with (first
    | (go_at_call 7; refine HA.out.mono ?_; rintro e w1 ⟨rfl, h1⟩; have HB1 := Lib.hid h1; clear h1)
    | (go_at_call 11; go_loud (refine (new_any (Kp := fun _ => False) 1048576 rfl w1 (fun _ h => h.elim)).mono ?_; rintro e w2 ⟨f, rfl, h1, h2⟩; have HR2 := Lib.hid h1; have HB2 := Lib.hid h2; clear h1 h2))
    | (go_at_call 12; go_loud (refine (open_src HR2.out (WfK.new (room := 1048576) rfl) gl_new (by simp [newFs]) N hN (by omega) HB2.out.size (HTAB.out _ _ HB1.out HB2.out) ⟨by decide, by decide⟩ (fun _ h => h.elim)).mono ?_; rintro e w3 ⟨s, ps, S3, rfl, hs, hl, hn, ht⟩; have HF3 := Lib.hid (show Fill (fun i => False ∨ i = s) w1.heap.size s f N cN 0 0 w3 from ⟨_, _, _, S3, hs, Fil.start hl hn, by decide, by omega⟩); have HB3 := Lib.hid (HB2.out.trans ht.below); clear hs hl hn ht)))
  go_loopw [10] (fun kv wr => ∃ k : Nat, kv = .int .i64 (k : Int) ∧ k ≤ min cs.length 4 ∧ Hid (Fill (fun i => False ∨ i = s) w1.heap.size s f N cN k 0 wr) ∧ Hid (Below w1.heap.size w1 wr)) (fun kv _ => 4 - (intOf kv).toNat)
  case atStart => exact ⟨0, rfl, Nat.zero_le _, HF3, HB3⟩
  case round =>
    obtain ⟨k, rfl, hk, HF, HB⟩ := hrel
    by_cases hlt : k < min cs.length 4
    · have hk1 : k < cs.length := by omega
      have hk2 : (k : Int) < (cs.length : Int) := by omega
      have hk3 : (k : Int) < 4 := by omega
      have hkN : k < N := by have := HND.out; omega
      have hk4 : k < 256 := by omega
      have hx := HCS.out _ (List.getElem_mem hk1)
      have hxc := HCAT.out k hk1
      have hc31 := HC31.out k
      have HROW := Lib.hid (fun (W : World) (h : Below w1.heap.size w1 W) => kC_r (HR0.out.below (HB1.out.trans (h.mono HB1.out.size))) k hk1)
      obtain ⟨x, hx0⟩ : ∃ x, cs[k] = x := ⟨_, rfl⟩
      rw [hx0] at hx hxc HROW
      obtain ⟨c, hc0⟩ : ∃ c, cN k = c := ⟨_, rfl⟩
      rw [hc0] at hxc hc31
      have HCC := Lib.hid hc0.symm
      have s1 : IntKind.u8.wrap (k : Int) = (k : Int) := by rw [IntKind.wrap_u8]; omega
      obtain ⟨b0, off0, hA0, hb0, _⟩ := HROW.out wr HB.out
      subst hA0
      have HCELL := Lib.hid (fun (W : World) (h : Below w1.heap.size w1 W) => (show W.cell? ⟨b0, off0 + k, none⟩ = some (.int .u8 x) from by
        obtain ⟨b2, off2, e, _, hc⟩ := HROW.out W h
        injection e with e; injection e with e1 e2; subst e1 e2
        exact hc))
      clear hx0 hc0 HROW
      obtain ⟨w0, rfl⟩ : ∃ w0, w0 = wr := ⟨_, rfl⟩
      go_wp2_with fail
      go_loopw [11] (fun iv wr => ∃ i : Nat, iv = .int .i64 (i : Int) ∧ i ≤ c ∧ Hid (Fill (fun i => False ∨ i = s) w1.heap.size s f N cN k i wr) ∧ Hid (Below w1.heap.size w1 wr)) (fun iv _ => c - (intOf iv).toNat)
      case atStart => exact ⟨0, rfl, Nat.zero_le _, HF, HB⟩
      case round =>
        obtain ⟨i, rfl, hi, HFi, HBi⟩ := hrel
        have hcell := HCELL.out wr HBi.out
        by_cases hic : i < c
        · have hic2 : (i : Int) < (c : Int) := by omega
          have hi4 : i < 256 := by omega
          have s2 : IntKind.u8.wrap (i : Int) = (i : Int) := by rw [IntKind.wrap_u8]; omega
          go_wp2_with (go_at_call 13; go_loud (refine (fill_append HFi.out hkN hN.2 (by omega) HBi.out.size (HTAB.out _ _ HB1.out HBi.out)).mono ?_; rintro e w5 ⟨rfl, q1, q2⟩; have HF5 := Lib.hid q1; have HB5 := Lib.hid (HBi.out.trans q2.below); clear q1 q2))
          go_roundw
          case rel => exact ⟨i + 1, by go_num, hic, HF5, HB5⟩
          case measure => simp [intOf]; omega
        · obtain rfl : i = c := by omega
          have hic2 : ¬ (i : Int) < (i : Int) := by omega
          go_wp2_with (go_at_call 14; go_loud (refine (fill_sync HFi.out hkN hN.2 hc31 HCC.out HBi.out.size (HTAB.out _ _ HB1.out HBi.out)).mono ?_; rintro e w5 ⟨rfl, q1, q2⟩; have HF5 := Lib.hid q1; have HB5 := Lib.hid (HBi.out.trans q2.below); clear q1 q2))
          go_roundw
          case rel => exact ⟨k + 1, by go_num, by omega, HF5, HB5⟩
          case measure => simp [intOf]; omega
    · have hend : ¬ ((k : Int) < (cs.length : Int)) ∨ ((k : Int) < (cs.length : Int) ∧ ¬ (k : Int) < 4) := by omega
      obtain ⟨ps, used, M, S, hs, hfil, _, hM⟩ := HF.out.ex
      have HSRC := Lib.hid hs
      have HFULL := Lib.hid (show Full ps N cN from hfil.full (fun j h1 h2 => HCZ.out j (by have := HND.out; omega)))
      have hM2 : M ≤ 1000000 := by omega
      have hpN : ps.length = N := hfil.len
      have HPN := Lib.hid hpN
      obtain ⟨hw0, hrem0⟩ := start_ok HFULL.out hN HC31.out
      have HW0 := Lib.hid hw0
      have HREM0 := Lib.hid hrem0
      have HFEW := Lib.hid (show Few ps from fun j hj => by rw [HFULL.out.dur j hj]; have := HC31.out j; omega)
      have HN := Lib.hid hN
      have hmin : min N 5 = N := by omega
      have HST := Lib.hid (fun W => rstart_walk N (by unfold maxLen; omega) W)
      rw [hmin] at HST
      clear hs hfil hw0 hrem0 hM hmin
      rcases hend with hend | ⟨hend, hend2⟩
      · go_wp2_with (go_at_call 15; go_loud (refine (HST.out _).mono ?_; rintro e w5 ⟨Aw, cw, rfl, r1, r2⟩; have HRW := Lib.hid r1; have HB5 := Lib.hid (HB.out.trans (r2.mono HB.out.size)); have HS5 := Lib.hid (HSRC.out.below r2); clear r1 r2))
        obtain ⟨nb, hnb⟩ : ∃ nb, w5.heap.size = nb := ⟨_, rfl⟩
        have HNB := Lib.hid hnb
        have hal : Below w5.heap.size w5 (w5.alloc (.cells #[.int .i64 0, .int .i64 0, .int .i64 0, .int .i64 0] 44)) := (Below.refl _ _).alloc (Nat.le_refl _) _
        have HPLO := Lib.hid (show Plo ps N nb w5 0 [0, 0, 0, 0] (List.replicate N noRg) Aw (w5.alloc (.cells #[.int .i64 0, .int .i64 0, .int .i64 0, .int .i64 0] 44)) from ⟨(HRW.out.below hal).more hal.size, HW0.out, rfl, fun k h => by
          rw [List.length_replicate] at h
          rw [List.getElem_replicate]
          have hN := HN.out
          have e : k = 0 ∨ k = 1 ∨ k = 2 ∨ k = 3 := by omega
          rcases e with rfl | rfl | rfl | rfl <;> rfl, by rw [← HNB.out]; exact Cells.new w5 _ _, by have := HREM0.out; simpa using this, hal⟩)
        clear hal
        try rw [hnb]
        clear hnb
        go_loopw [14, 16] (fun wv iv wr => ∃ (i : Nat) (nx : List Int) (l : List Rg) (A : Option Addr) (c : Nat), wv = .slice A N c ∧ iv = .int .i64 (i : Int) ∧ Hid (Plo ps N nb w5 i nx l A wr)) (fun _ iv _ => 200 - (intOf iv).toNat)
        case atStart => exact ⟨0, _, _, Aw, cw, rfl, rfl, HPLO⟩
        case round =>
          obtain ⟨i, nx, l, A, c, rfl, rfl, HP⟩ := hrel
          have hi124 : i ≤ 124 := by have h1 := HP.out.rem; have h2 := remS_nonneg (ps := ps) (l := l); omega
          have hi200 : (i : Int) < 200 := by omega
          have HBP := Lib.hid (HB5.out.trans (HP.out.below.mono HB5.out.size))
          have hm1 : (0 : Int) < (ms.length : Int) := by omega
          have hnz : ¬ (ms.length : Int) = 0 := by omega
          obtain ⟨q, hq⟩ : ∃ q, i % ms.length = q := ⟨_, rfl⟩
          have hqI : (i : Int) % (ms.length : Int) = (q : Int) := by rw [← hq]; simp
          have hql : q < ms.length := by rw [← hq]; exact Nat.mod_lt _ (by omega)
          have hql2 : (q : Int) < (ms.length : Int) := by omega
          have hqm : Int.tmod (i : Int) (ms.length : Int) = (q : Int) := by rw [Int.tmod_eq_emod_of_nonneg (by omega)]; exact hqI
          obtain ⟨b1, off1, hA1, hb1, hcm⟩ := kC_r (HR1.out.below (HB1.out.trans (HBP.out.mono HB1.out.size))) q hql
          subst hA1
          have hmx := HMS.out _ (List.getElem_mem hql)
          obtain ⟨x, hx⟩ : ∃ x, ms[q] = x := ⟨_, rfl⟩
          rw [hx] at hcm hmx
          obtain ⟨y, hy⟩ : ∃ y, x % 1024 = y := ⟨_, rfl⟩
          have hyb : 0 ≤ y ∧ y ≤ 1023 := by omega
          obtain ⟨m, hm⟩ : ∃ m, 1 + y = m := ⟨_, rfl⟩
          have hmb : 1 ≤ m ∧ m ≤ 1024 := by omega
          have s7 : IntKind.i64.wrap (1 + y) = m := by rw [IntKind.wrap_i64]; omega
          have s8 : IntKind.i64.wrap x = x := wrap_id (by omega)
          clear hq hx
          have HPLAN := Lib.hid (fun (W : World) (hb : Below w5.heap.size w5 W) (hr : RowC rgCells 2 W W.heap.size A l) => plan_src (HS5.out.below hb) HP.out.ok A c hr m hmb)
          have HST5 := Lib.hid (fun xs (hk : xs.map keyOf = keysTo (planL ps l m) ps.length) => plan_step (i := i) (xs := xs) HP.out.ok HPN.out HFEW.out (by first | decide | exact hmb.1) HP.out.len HP.out.at_ HP.out.rem hk)
          have HFOL := Lib.hid (HP.out.ok.plan (most := m) HFEW.out)
          obtain ⟨pl, hpl⟩ : ∃ pl, planL ps l m = pl := ⟨_, rfl⟩
          have HPL := Lib.hid hpl
          rw [hpl] at HST5 HFOL
          rw [HPN.out] at HPLAN
          clear hpl
          go_wp2_with (first
            | (go_at_call 16; go_loud (refine (HPLAN.out _ HP.out.below HP.out.row).mono ?_; rintro e w6 ⟨D, he, hD, r1, r2⟩; rw [HPN.out] at he; subst he; rw [HPL.out] at r1; have HD := Lib.hid hD; have HR6 := Lib.hid r1; have HB6 := Lib.hid r2; have HRL6 := Lib.hid ((HP.out.row.below r2).more r2.size); clear r1 r2 hD))
            | (go_at_call 17; go_loud (refine (rfollows_walk l pl A (some ⟨D, 0, none⟩) N c N N w6 (by rw [HP.out.ok.len, HPN.out]) (by have := HN.out; unfold maxLen; omega) HRL6.out (by rw [HFOL.out.1.len, HPN.out]) (by have := HN.out; unfold maxLen; omega) HR6.out).mono ?_; rintro e w7 ⟨rfl, r2⟩; rw [HFOL.out.2]; have HB7 := Lib.hid (HB6.out.trans (r2.mono HB6.out.size)); have HR7 := Lib.hid ((HR6.out.below r2).more r2.size); clear r2))
            | (go_at_call 18; go_loud (refine (show Calls Tryz.prog 18 #[.pointer (some ⟨s, 0, none⟩), .slice (some ⟨D, 0, none⟩) N N] w7 (SReadPost ps pl w7) from by have h := sread_src (HS5.out.below (HP.out.below.trans (HB7.out.mono HP.out.below.size))) HFOL.out.1 hM2 (Nat.le_trans (HBP.out.size) HB7.out.size) (HTAB.out _ _ HB1.out (HBP.out.trans (HB7.out.mono HBP.out.size))) (some ⟨D, 0, none⟩) N HR7.out; rwa [HPN.out] at h).mono ?_; rintro e w8 ⟨Ax, cx, xs, rfl, k1, k2, k3, k4, k5⟩; have HSTEP := Lib.hid (HST5.out xs (by rw [k1])); have HTELL := Lib.hid k2; have HOX := Lib.hid k3; have HRX := Lib.hid k4; have HB8 := Lib.hid (HB7.out.trans (k5.mono HB7.out.size)); have HR8 := Lib.hid ((HR7.out.below k5).more k5.size); have hfew := (HST5.out xs (by rw [k1])).few; have hfew2 : ¬ m < (xs.length : Int) := (by omega); clear k1 k2 k3 k4 k5)))
          obtain ⟨fin, hfin⟩ : ∃ fin, nxTo nx pl ps.length = fin := ⟨_, rfl⟩
          rw [hfin] at HSTEP
          have HROWX := Lib.hid (RowC.own r3C_length (by decide) HOX.out).2
          have hcn8 : Cells w8 nb (iA nx) 44 := (HB8.out.block nb HP.out.cells.lt).trans HP.out.cells
          have HCN8 := Lib.hid hcn8
          have hnbw : nb < wr.heap.size := HP.out.cells.lt
          have hDn : D ≠ nb := by have := HD.out; omega
          have HB58 := Lib.hid (HP.out.below.trans (HB8.out.mono HP.out.below.size))
          have hxl : xs.length ≤ 1024 := by omega
          clear hfin hcn8
          obtain ⟨w0, rfl⟩ : ∃ w0, w0 = wr := ⟨_, rfl⟩
          go_loopw [21] (fun jv wr => ∃ (j : Nat) (nj : List Int), jv = .int .i64 (j : Int) ∧ j ≤ xs.length ∧ nj.length = 4 ∧ Hid (Seqs N nj ((xs.map keyOf).drop j) fin) ∧ Hid (Cells wr nb (iA nj) 44) ∧ Hid (Ch (· = nb) w8 wr) ∧ Hid (Below w5.heap.size w5 wr)) (fun jv _ => xs.length - (intOf jv).toNat)
          case atStart => exact ⟨0, nx, rfl, Nat.zero_le _, HP.out.len, HSTEP.out.seqs, HCN8, Lib.hid (Ch.refl _ _), HB58⟩
          case round =>
            obtain ⟨j, nj, rfl, hj, hnj, HSQ, HCJ, HCH, HB9⟩ := hrel
            by_cases hjl : j < xs.length
            · have hsq := HSQ.out
              rw [drop_key hjl] at hsq
              obtain ⟨g1, g2, g3⟩ := hsq
              obtain ⟨pt, hp1, hp2⟩ := HTELL.out _ (List.getElem_mem hjl)
              obtain ⟨bx, offx, hAx, hbx, hcx⟩ := HROWX.out j hjl
              obtain ⟨hby, hu8⟩ := HRX.out _ (List.getElem_mem hjl)
              obtain ⟨X, hX⟩ : ∃ X, xs[j] = X := ⟨_, rfl⟩
              rw [hX] at g1 g2 g3 hp1 hp2 hcx hby hu8
              obtain ⟨p, a, bb, Ab, cb⟩ := X
              dsimp only [keyOf] at g1 g2 g3
              dsimp only at hp1 hp2 hby hu8
              have hbb : bb = [UInt8.ofNat p, UInt8.ofNat a] ∧ a < 31 := by
                obtain ⟨q1, q2⟩ := List.getElem?_eq_some_iff.1 hp1
                have h3 := HFULL.out.rs p q1
                rw [q2] at h3
                rw [h3] at hp2
                obtain ⟨h4, h5⟩ := recL_at hp2
                have := HC31.out p
                exact ⟨h4, by omega⟩
              have hbl : bb.length = 2 := by rw [hbb.1]; rfl
              have ha31 : a < 31 := hbb.2
              have hnx : bx ≠ nb := by
                rcases HOX.out.2 with ⟨e, _⟩ | ⟨g, cap, cur, e, _, hg, _⟩
                · injection e with e; rw [hAx] at e; cases e
                · injection e with e; rw [hAx] at e; injection e with e; injection e with e
                  rintro rfl
                  rw [e] at HCN8
                  have := Option.some.inj (hg.symm.trans HCN8.out)
                  injection this with _ h2
                  exact absurd h2 (by decide)
              have hch : ∀ o, wr.cell? ⟨bx, o, none⟩ = w8.cell? ⟨bx, o, none⟩ := fun o => World.cell?_of_block (a := ⟨bx, o, none⟩) (HCH.out.block bx hbx (fun e => hnx e))
              have cx0 : wr.cell? ⟨bx, offx + j * 3, none⟩ = some (.int .i64 (p : Int)) := by rw [hch]; exact hcx 0 _ rfl
              have cx1 : wr.cell? ⟨bx, offx + j * 3 + 1, none⟩ = some (.int .i64 (a : Int)) := by rw [hch]; exact hcx 1 _ rfl
              have cx2 : wr.cell? ⟨bx, offx + j * 3 + 2, none⟩ = some (.slice Ab 2 cb) := by rw [hch]; have := hcx 2 _ rfl; rw [this]; show some (Value.slice Ab bb.length cb) = _; rw [hbl]
              have hby9 : BytesAt wr wr.heap.size Ab bb := by
                intro t ht
                obtain ⟨b2, off2, e, hlt, hc⟩ := hby t ht
                obtain ⟨d, z, hk⟩ := hu8 _ e
                refine ⟨b2, off2, e, Nat.lt_of_lt_of_le hlt HCH.out.size, (World.cell?_of_block (a := ⟨b2, off2 + t, none⟩) (HCH.out.block b2 hlt (fun e2 => ?_))).trans hc⟩
                subst e2
                have := Option.some.inj (hk.symm.trans HCN8.out)
                injection this with _ h2
                exact absurd h2 (by decide)
              have hp4 : p < 4 := by have := HN.out; omega
              have hpn : p < nj.length := by omega
              have hnp : nj[p] = (a : Int) := by rw [List.getElem?_eq_getElem hpn] at g2; exact Option.some.inj g2
              have hcp := HCJ.out.iat hpn
              rw [hnp] at hcp
              have hcf := HCJ.out.frozen p
              have HSQ2 := Lib.hid g3
              have HCN := Lib.hid (fun (W : World) (hc : Cells W nb (iA nj) 44) => (show Cells (W.setCell ⟨nb, p, none⟩ (.int .i64 ((a : Int) + 1))) nb (iA (nj.set p ((a : Int) + 1))) 44 from hc.iset p _))
              have HBB := Lib.hid hbb.1
              have HBY := Lib.hid hby9
              have hp0 : ¬ (p : Int) < 0 := by omega
              have hpN2 : ¬ (N : Int) ≤ (p : Int) := by omega
              have hp5 : (p : Int) < 4 := by omega
              have hpN3 : p < N := g1
              have u1 : IntKind.u8.wrap (p : Int) = (p : Int) := by rw [IntKind.wrap_u8]; omega
              have u2 : IntKind.u8.wrap (a : Int) = (a : Int) := by rw [IntKind.wrap_u8]; omega
              have s9 : IntKind.i64.wrap ((a : Int) + 1) = (a : Int) + 1 := wrap_id (by omega)
              have hjl2 : (j : Int) < (xs.length : Int) := by omega
              have hnw : nb < wr.heap.size := HCJ.out.lt
              have hbxw : bx < wr.heap.size := Nat.lt_of_lt_of_le hbx HCH.out.size
              subst hAx
              clear hX g1 g2 g3 hp1 hp2 hcx hby hu8 hbb hch hby9 hnp
              go_wp2_with fail
              obtain ⟨rb, hrb⟩ : ∃ g, wr.heap.size = g := ⟨_, rfl⟩
              have hbox : Below wr.heap.size wr (wr.alloc (.cells #[.int .i64 (p : Int), .int .i64 (a : Int), .slice Ab 2 cb] 53)) := (Below.refl _ _).alloc (Nat.le_refl _) _
              have hcb : Cells (wr.alloc (.cells #[.int .i64 (p : Int), .int .i64 (a : Int), .slice Ab 2 cb] 53)) wr.heap.size #[.int .i64 (p : Int), .int .i64 (a : Int), .slice Ab 2 cb] 53 := Cells.new wr _ _
              have hcj := HCJ.out.alloc (.cells #[.int .i64 (p : Int), .int .i64 (a : Int), .slice Ab 2 cb] 53)
              obtain ⟨w9, hw9⟩ : ∃ V, wr.alloc (.cells #[.int .i64 (p : Int), .int .i64 (a : Int), .slice Ab 2 cb] 53) = V := ⟨_, rfl⟩
              rw [hw9] at hbox hcb hcj
              rw [hrb] at hcb
              try rw [hw9]
              try rw [hrb]
              have q0 : w9.cell? ⟨rb, 0, none⟩ = some (.int .i64 (p : Int)) := hcb.cell 0
              have q1 : w9.cell? ⟨rb, 1, none⟩ = some (.int .i64 (a : Int)) := hcb.cell 1
              have q2 : w9.cell? ⟨rb, 2, none⟩ = some (.slice Ab 2 cb) := hcb.cell 2
              have q3 := cell_later hbox hcp
              have q4 := ml_bytes HBY.out hbox
              have HCJ9 := Lib.hid hcj
              have HCB9 := Lib.hid hcb
              have HBOX := Lib.hid hbox
              have HTX := Lib.hid (show ∀ (W : World) (A' : Option Addr) (c' : Nat), BytesAt W W.heap.size A' bb → (convert 30 9 (.slice A' 2 c')).run Tryz.prog W = .ok (.string (txt bb)) W from fun W A' c' h => string_of_bytes A' 2 c' bb W hbl.symm h)
              obtain ⟨tx, htx⟩ : ∃ tx, txt bb = tx := ⟨_, rfl⟩
              rw [htx] at HTX
              have htt : (tx.toList != tx.toList) = false := by simp
              clear hbox hcb hcj hw9 hrb htx
              refine wp_mono ?_ noPanic_le
              refine held_begin 32 (fun W => W.cell? ⟨rb, 0, none⟩ = some (.int .i64 (p : Int)) ∧ W.cell? ⟨rb, 1, none⟩ = some (.int .i64 (a : Int)) ∧ W.cell? ⟨rb, 2, none⟩ = some (.slice Ab 2 cb) ∧ W.cell? ⟨nb, p, none⟩ = some (.int .i64 (a : Int)) ∧ BytesAt W W.heap.size Ab bb) rfl (by kernel_rfl) ?_
              have hS : w9.drew.cell? ⟨rb, 0, none⟩ = some (.int .i64 (p : Int)) ∧ w9.drew.cell? ⟨rb, 1, none⟩ = some (.int .i64 (a : Int)) ∧ w9.drew.cell? ⟨rb, 2, none⟩ = some (.slice Ab 2 cb) ∧ w9.drew.cell? ⟨nb, p, none⟩ = some (.int .i64 (a : Int)) ∧ BytesAt w9.drew w9.drew.heap.size Ab bb := ⟨q0, q1, q2, q3, q4⟩
              refine held_take (i := 0) (t := 137) (v := (.pointer (some ⟨rb, 0, none⟩))) (fuel := 31) rfl rfl (by kernel_rfl) (by kernel_rfl) (by kernel_rfl) (fun _ _ _ h => h) (.inl ⟨rfl, fun W hW => by obtain ⟨w1, w2, w3, w4, w5_⟩ := hW; simp [execOp, Act.eval, go_sem, w1, w2, w3, w4]⟩) hS ?_
              simp only [List.setIfInBounds_toArray, List.set_cons_succ, List.set_cons_zero]
              refine held_take (i := 1) (t := 138) (v := (.int .i64 (p : Int))) (fuel := 30) rfl rfl (by kernel_rfl) (by kernel_rfl) (by kernel_rfl) (fun _ _ _ h => h) (.inl ⟨rfl, fun W hW => by obtain ⟨w1, w2, w3, w4, w5_⟩ := hW; simp [execOp, Act.eval, go_sem, w1, w2, w3, w4]⟩) hS ?_
              simp only [List.setIfInBounds_toArray, List.set_cons_succ, List.set_cons_zero]
              refine held_take (i := 2) (t := 139) (v := (.bool false)) (fuel := 29) rfl rfl (by kernel_rfl) (by kernel_rfl) (by kernel_rfl) (fun _ _ _ h => h) (.inl ⟨rfl, fun W hW => by obtain ⟨w1, w2, w3, w4, w5_⟩ := hW; simp [execOp, Act.eval, go_sem, w1, w2, w3, w4, hp0]⟩) hS ?_
              simp only [List.setIfInBounds_toArray, List.set_cons_succ, List.set_cons_zero]
              refine held_take (i := 3) (t := 140) (v := (.bool false)) (fuel := 28) rfl rfl (by kernel_rfl) (by kernel_rfl) (by kernel_rfl) (fun _ _ _ h => h) (.inl ⟨rfl, fun W hW => by obtain ⟨w1, w2, w3, w4, w5_⟩ := hW; simp [execOp, Act.eval, go_sem, w1, w2, w3, w4]⟩) hS ?_
              simp only [List.setIfInBounds_toArray, List.set_cons_succ, List.set_cons_zero]
              refine held_take (i := 4) (t := 141) (v := (.pointer (some ⟨rb, 0, none⟩))) (fuel := 27) rfl rfl (by kernel_rfl) (by kernel_rfl) (by kernel_rfl) (fun _ _ _ h => h) (.inl ⟨rfl, fun W hW => by obtain ⟨w1, w2, w3, w4, w5_⟩ := hW; simp [execOp, Act.eval, go_sem, w1, w2, w3, w4]⟩) hS ?_
              simp only [List.setIfInBounds_toArray, List.set_cons_succ, List.set_cons_zero]
              refine held_take (i := 5) (t := 142) (v := (.int .i64 (p : Int))) (fuel := 26) rfl rfl (by kernel_rfl) (by kernel_rfl) (by kernel_rfl) (fun _ _ _ h => h) (.inl ⟨rfl, fun W hW => by obtain ⟨w1, w2, w3, w4, w5_⟩ := hW; simp [execOp, Act.eval, go_sem, w1, w2, w3, w4]⟩) hS ?_
              simp only [List.setIfInBounds_toArray, List.set_cons_succ, List.set_cons_zero]
              refine held_take (i := 6) (t := 143) (v := (.int .i64 (N : Int))) (fuel := 25) rfl rfl (by kernel_rfl) (by kernel_rfl) (by kernel_rfl) (fun _ _ _ h => h) (.inl ⟨rfl, fun W hW => by obtain ⟨w1, w2, w3, w4, w5_⟩ := hW; simp [execOp, Act.eval, go_sem, w1, w2, w3, w4]⟩) hS ?_
              simp only [List.setIfInBounds_toArray, List.set_cons_succ, List.set_cons_zero]
              refine held_take (i := 7) (t := 144) (v := (.bool false)) (fuel := 24) rfl rfl (by kernel_rfl) (by kernel_rfl) (by kernel_rfl) (fun _ _ _ h => h) (.inl ⟨rfl, fun W hW => by obtain ⟨w1, w2, w3, w4, w5_⟩ := hW; simp [execOp, Act.eval, go_sem, w1, w2, w3, w4, hpN2, hpN3]⟩) hS ?_
              simp only [List.setIfInBounds_toArray, List.set_cons_succ, List.set_cons_zero]
              refine held_take (i := 8) (t := 145) (v := (.bool false)) (fuel := 23) rfl rfl (by kernel_rfl) (by kernel_rfl) (by kernel_rfl) (fun _ _ _ h => h) (.inl ⟨rfl, fun W hW => by obtain ⟨w1, w2, w3, w4, w5_⟩ := hW; simp [execOp, Act.eval, go_sem, w1, w2, w3, w4]⟩) hS ?_
              simp only [List.setIfInBounds_toArray, List.set_cons_succ, List.set_cons_zero]
              refine held_take (i := 9) (t := 146) (v := (.bool false)) (fuel := 22) rfl rfl (by kernel_rfl) (by kernel_rfl) (by kernel_rfl) (fun _ _ _ h => h) (.inl ⟨rfl, fun W hW => by obtain ⟨w1, w2, w3, w4, w5_⟩ := hW; simp [execOp, Act.eval, go_sem, w1, w2, w3, w4]⟩) hS ?_
              simp only [List.setIfInBounds_toArray, List.set_cons_succ, List.set_cons_zero]
              refine held_take (i := 10) (t := 147) (v := (.pointer (some ⟨rb, 1, none⟩))) (fuel := 21) rfl rfl (by kernel_rfl) (by kernel_rfl) (by kernel_rfl) (fun _ _ _ h => h) (.inl ⟨rfl, fun W hW => by obtain ⟨w1, w2, w3, w4, w5_⟩ := hW; simp [execOp, Act.eval, go_sem, w1, w2, w3, w4]⟩) hS ?_
              simp only [List.setIfInBounds_toArray, List.set_cons_succ, List.set_cons_zero]
              refine held_take (i := 11) (t := 148) (v := (.int .i64 (a : Int))) (fuel := 20) rfl rfl (by kernel_rfl) (by kernel_rfl) (by kernel_rfl) (fun _ _ _ h => h) (.inl ⟨rfl, fun W hW => by obtain ⟨w1, w2, w3, w4, w5_⟩ := hW; simp [execOp, Act.eval, go_sem, w1, w2, w3, w4]⟩) hS ?_
              simp only [List.setIfInBounds_toArray, List.set_cons_succ, List.set_cons_zero]
              refine held_take (i := 12) (t := 149) (v := (.pointer (some ⟨rb, 0, none⟩))) (fuel := 19) rfl rfl (by kernel_rfl) (by kernel_rfl) (by kernel_rfl) (fun _ _ _ h => h) (.inl ⟨rfl, fun W hW => by obtain ⟨w1, w2, w3, w4, w5_⟩ := hW; simp [execOp, Act.eval, go_sem, w1, w2, w3, w4]⟩) hS ?_
              simp only [List.setIfInBounds_toArray, List.set_cons_succ, List.set_cons_zero]
              refine held_take (i := 13) (t := 150) (v := (.int .i64 (p : Int))) (fuel := 18) rfl rfl (by kernel_rfl) (by kernel_rfl) (by kernel_rfl) (fun _ _ _ h => h) (.inl ⟨rfl, fun W hW => by obtain ⟨w1, w2, w3, w4, w5_⟩ := hW; simp [execOp, Act.eval, go_sem, w1, w2, w3, w4]⟩) hS ?_
              simp only [List.setIfInBounds_toArray, List.set_cons_succ, List.set_cons_zero]
              refine held_take (i := 14) (t := 151) (v := (.pointer (some ⟨nb, p, none⟩))) (fuel := 17) rfl rfl (by kernel_rfl) (by kernel_rfl) (by kernel_rfl) (fun _ _ _ h => h) (.inl ⟨rfl, fun W hW => by obtain ⟨w1, w2, w3, w4, w5_⟩ := hW; simp [execOp, Act.eval, go_sem, w1, w2, w3, w4, hp4, hp5]⟩) hS ?_
              simp only [List.setIfInBounds_toArray, List.set_cons_succ, List.set_cons_zero]
              refine held_take (i := 15) (t := 152) (v := (.int .i64 (a : Int))) (fuel := 16) rfl rfl (by kernel_rfl) (by kernel_rfl) (by kernel_rfl) (fun _ _ _ h => h) (.inl ⟨rfl, fun W hW => by obtain ⟨w1, w2, w3, w4, w5_⟩ := hW; simp [execOp, Act.eval, go_sem, w1, w2, w3, w4]⟩) hS ?_
              simp only [List.setIfInBounds_toArray, List.set_cons_succ, List.set_cons_zero]
              refine held_take (i := 16) (t := 153) (v := (.bool false)) (fuel := 15) rfl rfl (by kernel_rfl) (by kernel_rfl) (by kernel_rfl) (fun _ _ _ h => h) (.inl ⟨rfl, fun W hW => by obtain ⟨w1, w2, w3, w4, w5_⟩ := hW; simp [execOp, Act.eval, go_sem, w1, w2, w3, w4]⟩) hS ?_
              simp only [List.setIfInBounds_toArray, List.set_cons_succ, List.set_cons_zero]
              refine held_take (i := 17) (t := 154) (v := (.bool false)) (fuel := 14) rfl rfl (by kernel_rfl) (by kernel_rfl) (by kernel_rfl) (fun _ _ _ h => h) (.inl ⟨rfl, fun W hW => by obtain ⟨w1, w2, w3, w4, w5_⟩ := hW; simp [execOp, Act.eval, go_sem, w1, w2, w3, w4]⟩) hS ?_
              simp only [List.setIfInBounds_toArray, List.set_cons_succ, List.set_cons_zero]
              refine held_take (i := 18) (t := 155) (v := (.bool false)) (fuel := 13) rfl rfl (by kernel_rfl) (by kernel_rfl) (by kernel_rfl) (fun _ _ _ h => h) (.inl ⟨rfl, fun W hW => by obtain ⟨w1, w2, w3, w4, w5_⟩ := hW; simp [execOp, Act.eval, go_sem, w1, w2, w3, w4]⟩) hS ?_
              simp only [List.setIfInBounds_toArray, List.set_cons_succ, List.set_cons_zero]
              refine held_take (i := 19) (t := 156) (v := (.pointer (some ⟨rb, 2, none⟩))) (fuel := 12) rfl rfl (by kernel_rfl) (by kernel_rfl) (by kernel_rfl) (fun _ _ _ h => h) (.inl ⟨rfl, fun W hW => by obtain ⟨w1, w2, w3, w4, w5_⟩ := hW; simp [execOp, Act.eval, go_sem, w1, w2, w3, w4]⟩) hS ?_
              simp only [List.setIfInBounds_toArray, List.set_cons_succ, List.set_cons_zero]
              refine held_take (i := 20) (t := 157) (v := (.slice Ab 2 cb)) (fuel := 11) rfl rfl (by kernel_rfl) (by kernel_rfl) (by kernel_rfl) (fun _ _ _ h => h) (.inl ⟨rfl, fun W hW => by obtain ⟨w1, w2, w3, w4, w5_⟩ := hW; simp [execOp, Act.eval, go_sem, w1, w2, w3, w4]⟩) hS ?_
              simp only [List.setIfInBounds_toArray, List.set_cons_succ, List.set_cons_zero]
              refine held_take (i := 21) (t := 158) (v := (.string tx)) (fuel := 10) rfl rfl (by kernel_rfl) (by kernel_rfl) (by kernel_rfl) (fun _ _ _ h => h) (.inl ⟨rfl, fun W hW => by obtain ⟨w1, w2, w3, w4, w5_⟩ := hW; have hcv := HTX.out W Ab cb w5_; simp [execOp, Act.eval, go_sem, w1, w2, w3, w4, hcv]⟩) hS ?_
              simp only [List.setIfInBounds_toArray, List.set_cons_succ, List.set_cons_zero]
              refine held_take (i := 22) (t := 159) (v := (.pointer (some ⟨rb, 0, none⟩))) (fuel := 9) rfl rfl (by kernel_rfl) (by kernel_rfl) (by kernel_rfl) (fun _ _ _ h => h) (.inl ⟨rfl, fun W hW => by obtain ⟨w1, w2, w3, w4, w5_⟩ := hW; simp [execOp, Act.eval, go_sem, w1, w2, w3, w4]⟩) hS ?_
              simp only [List.setIfInBounds_toArray, List.set_cons_succ, List.set_cons_zero]
              refine held_take (i := 23) (t := 160) (v := (.int .i64 (p : Int))) (fuel := 8) rfl rfl (by kernel_rfl) (by kernel_rfl) (by kernel_rfl) (fun _ _ _ h => h) (.inl ⟨rfl, fun W hW => by obtain ⟨w1, w2, w3, w4, w5_⟩ := hW; simp [execOp, Act.eval, go_sem, w1, w2, w3, w4]⟩) hS ?_
              simp only [List.setIfInBounds_toArray, List.set_cons_succ, List.set_cons_zero]
              refine held_take (i := 24) (t := 161) (v := (.int .u8 (p : Int))) (fuel := 7) rfl rfl (by kernel_rfl) (by kernel_rfl) (by kernel_rfl) (fun _ _ _ h => h) (.inl ⟨rfl, fun W hW => by obtain ⟨w1, w2, w3, w4, w5_⟩ := hW; simp [execOp, Act.eval, go_sem, w1, w2, w3, w4, u1]⟩) hS ?_
              simp only [List.setIfInBounds_toArray, List.set_cons_succ, List.set_cons_zero]
              refine held_take (i := 25) (t := 162) (v := (.pointer (some ⟨rb, 1, none⟩))) (fuel := 6) rfl rfl (by kernel_rfl) (by kernel_rfl) (by kernel_rfl) (fun _ _ _ h => h) (.inl ⟨rfl, fun W hW => by obtain ⟨w1, w2, w3, w4, w5_⟩ := hW; simp [execOp, Act.eval, go_sem, w1, w2, w3, w4]⟩) hS ?_
              simp only [List.setIfInBounds_toArray, List.set_cons_succ, List.set_cons_zero]
              refine held_take (i := 26) (t := 163) (v := (.int .i64 (a : Int))) (fuel := 5) rfl rfl (by kernel_rfl) (by kernel_rfl) (by kernel_rfl) (fun _ _ _ h => h) (.inl ⟨rfl, fun W hW => by obtain ⟨w1, w2, w3, w4, w5_⟩ := hW; simp [execOp, Act.eval, go_sem, w1, w2, w3, w4]⟩) hS ?_
              simp only [List.setIfInBounds_toArray, List.set_cons_succ, List.set_cons_zero]
              refine held_take (i := 27) (t := 164) (v := (.int .u8 (a : Int))) (fuel := 4) rfl rfl (by kernel_rfl) (by kernel_rfl) (by kernel_rfl) (fun _ _ _ h => h) (.inl ⟨rfl, fun W hW => by obtain ⟨w1, w2, w3, w4, w5_⟩ := hW; simp [execOp, Act.eval, go_sem, w1, w2, w3, w4, u2]⟩) hS ?_
              simp only [List.setIfInBounds_toArray, List.set_cons_succ, List.set_cons_zero]
              refine held_call (i := 28) rfl (by kernel_rfl) (by kernel_rfl) ?_
              simp [Oper.wp, execOp, Act.eval, Act.put, go_sem]
              have hbn : Below w9.heap.size w9 (w9.alloc (.cells #[.int .u8 (p : Int), .int .u8 (a : Int)] 5)).drew := ((Below.refl _ w9).alloc (Nat.le_refl _) _).drew
              have hcb2 : Cells (w9.alloc (.cells #[.int .u8 (p : Int), .int .u8 (a : Int)] 5)).drew w9.heap.size #[.int .u8 (p : Int), .int .u8 (a : Int)] 5 := Cells.new w9 _ _
              obtain ⟨gf, hgf⟩ : ∃ g, w9.heap.size = g := ⟨_, rfl⟩
              obtain ⟨wA, hwA⟩ : ∃ V, (w9.alloc (.cells #[.int .u8 (p : Int), .int .u8 (a : Int)] 5)).drew = V := ⟨_, rfl⟩
              rw [hwA] at hbn hcb2
              rw [hgf] at hcb2
              rw [hwA]
              rw [hgf]
              have hbf := two_at (by omega) (by omega) hcb2
              rw [← HBB.out] at hbf
              have HC10 := Lib.hid (show Cells wA nb (iA nj) 44 from (hbn.block nb HCJ9.out.lt).trans HCJ9.out)
              have hb10 := HBOX.out.trans (hbn.mono HBOX.out.size)
              have HCH10 := Lib.hid (HCH.out.trans ((chb hb10).mono (fun _ _ h => h.elim)))
              have HB10 := Lib.hid (HB9.out.trans (hb10.mono HB9.out.size))
              have hbn2 : Below w9.heap.size w9 (w9.alloc (.cells #[.int .u8 (p : Int), .int .u8 (a : Int)] 5)) := (Below.refl _ w9).alloc (Nat.le_refl _) _
              have hS2 : (w9.alloc (.cells #[.int .u8 (p : Int), .int .u8 (a : Int)] 5)).cell? ⟨rb, 0, none⟩ = some (.int .i64 (p : Int)) ∧ (w9.alloc (.cells #[.int .u8 (p : Int), .int .u8 (a : Int)] 5)).cell? ⟨rb, 1, none⟩ = some (.int .i64 (a : Int)) ∧ (w9.alloc (.cells #[.int .u8 (p : Int), .int .u8 (a : Int)] 5)).cell? ⟨rb, 2, none⟩ = some (.slice Ab 2 cb) ∧ (w9.alloc (.cells #[.int .u8 (p : Int), .int .u8 (a : Int)] 5)).cell? ⟨nb, p, none⟩ = some (.int .i64 (a : Int)) ∧ BytesAt (w9.alloc (.cells #[.int .u8 (p : Int), .int .u8 (a : Int)] 5)) (w9.alloc (.cells #[.int .u8 (p : Int), .int .u8 (a : Int)] 5)).heap.size Ab bb := ⟨cell_later hbn2 q0, cell_later hbn2 q1, cell_later hbn2 q2, cell_later hbn2 q3, ml_bytes q4 hbn2⟩
              have hszB : BytesAt wA (gf + 1) Ab bb := by have h := ml_bytes q4 hbn; rwa [show wA.heap.size = gf + 1 from by rw [← hwA, ← hgf]; exact Go.Deep.nblk_alloc w9 _] at h
              have hS : wA.cell? ⟨rb, 0, none⟩ = some (.int .i64 (p : Int)) ∧ wA.cell? ⟨rb, 1, none⟩ = some (.int .i64 (a : Int)) ∧ wA.cell? ⟨rb, 2, none⟩ = some (.slice Ab 2 cb) ∧ wA.cell? ⟨nb, p, none⟩ = some (.int .i64 (a : Int)) ∧ BytesAt wA wA.heap.size Ab bb := ⟨cell_later hbn q0, cell_later hbn q1, cell_later hbn q2, cell_later hbn q3, ml_bytes q4 hbn⟩
              refine ⟨(by first | exact hS | exact hS2 | (refine ⟨?_, ?_, ?_, ?_, ?_⟩ <;> first | exact hS.1 | exact hS2.1 | exact hS.2.1 | exact hS2.2.1 | exact hS.2.2.1 | exact hS2.2.2.1 | exact hS.2.2.2.1 | exact hS2.2.2.2.1 | exact hS.2.2.2.2 | exact hS2.2.2.2.2 | exact hszB | (simpa using hszB))), ?_⟩
              try simp only [List.setIfInBounds_toArray, List.set_cons_succ, List.set_cons_zero]
              refine held_more (S' := fun W => (W.cell? ⟨rb, 0, none⟩ = some (.int .i64 (p : Int)) ∧ W.cell? ⟨rb, 1, none⟩ = some (.int .i64 (a : Int)) ∧ W.cell? ⟨rb, 2, none⟩ = some (.slice Ab 2 cb) ∧ W.cell? ⟨nb, p, none⟩ = some (.int .i64 (a : Int)) ∧ BytesAt W W.heap.size Ab bb) ∧ BytesAt W W.heap.size (some ⟨gf, 0, none⟩) bb) (fun _ h => h.1) _ _ _ _ ?_
              have hS1 := hS
              have hS : (wA.cell? ⟨rb, 0, none⟩ = some (.int .i64 (p : Int)) ∧ wA.cell? ⟨rb, 1, none⟩ = some (.int .i64 (a : Int)) ∧ wA.cell? ⟨rb, 2, none⟩ = some (.slice Ab 2 cb) ∧ wA.cell? ⟨nb, p, none⟩ = some (.int .i64 (a : Int)) ∧ BytesAt wA wA.heap.size Ab bb) ∧ BytesAt wA wA.heap.size (some ⟨gf, 0, none⟩) bb := ⟨hS1, hbf⟩
              refine held_take (i := 29) (t := 166) (v := (.string tx)) (fuel := 2) rfl rfl (by kernel_rfl) (by kernel_rfl) (by kernel_rfl) (fun _ _ _ h => h) (.inl ⟨rfl, fun W hW => by obtain ⟨⟨w1, w2, w3, w4, w5_⟩, w6_⟩ := hW; have hcv := HTX.out W (some ⟨gf, 0, none⟩) 2 w6_; simp [execOp, Act.eval, go_sem, hcv]⟩) hS ?_
              simp only [List.setIfInBounds_toArray, List.set_cons_succ, List.set_cons_zero]
              refine held_take (i := 30) (t := 167) (v := (.bool false)) (fuel := 1) rfl rfl (by kernel_rfl) (by kernel_rfl) (by kernel_rfl) (fun _ _ _ h => h) (.inl ⟨rfl, fun W hW => by obtain ⟨⟨w1, w2, w3, w4, w5_⟩, w6_⟩ := hW; simp [execOp, Act.eval, go_sem, htt]⟩) hS ?_
              simp only [List.setIfInBounds_toArray, List.set_cons_succ, List.set_cons_zero]
              refine held_take (i := 31) (t := 168) (v := (.bool false)) (fuel := 0) rfl rfl (by kernel_rfl) (by kernel_rfl) (by kernel_rfl) (fun _ _ _ h => h) (.inl ⟨rfl, fun W hW => by obtain ⟨⟨w1, w2, w3, w4, w5_⟩, w6_⟩ := hW; simp [execOp, Act.eval, go_sem]⟩) hS ?_
              simp only [List.setIfInBounds_toArray, List.set_cons_succ, List.set_cons_zero]
              refine wpAnyH_done (by kernel_rfl) ?_ 0
              unfold noPanic
              have r0 : wA.cell? ⟨rb, 0, none⟩ = some (.int .i64 (p : Int)) := hS1.1
              have r3 : wA.cell? ⟨nb, p, none⟩ = some (.int .i64 (a : Int)) := hS1.2.2.2.1
              have r4 : wA.frozen? ⟨nb, p, none⟩ = false := HC10.out.frozen p
              have r5 : nb < wA.heap.size := HC10.out.lt
              clear hS hS1 hS2 hbn2 q0 q1 q2 q3 q4 hbn hbf hcb2 hb10 hwA hgf cx0 cx1 cx2 hcp hcf
              go_wp2_with fail
              go_roundw
              case rel => exact ⟨j + 1, nj.set p ((a : Int) + 1), by go_num, hjl, by rw [List.length_set]; exact hnj, HSQ2, Lib.hid (HCN.out _ HC10.out), Lib.hid (HCH10.out.set (p := ⟨nb, p, none⟩) (.inl rfl) _), Lib.hid (HB10.out.setCell (p := ⟨nb, p, none⟩) (by rw [HNB.out]; exact Nat.le_refl _) _)⟩
              case measure => simp [intOf]; omega
            · obtain rfl : j = xs.length := by omega
              have hjl2 : ¬ (xs.length : Int) < (xs.length : Int) := by omega
              have hsq := HSQ.out
              rw [show (xs.map keyOf).drop xs.length = [] by rw [List.drop_eq_nil_of_le]; simp] at hsq
              have hnf : nj = fin := hsq
              subst hnf
              have HR9 := Lib.hid (show RowC rgCells 2 wr wr.heap.size (some ⟨D, 0, none⟩) pl from fun t ht => by
                obtain ⟨b2, off2, e, hlt, hc⟩ := HR8.out t ht
                have e2 : b2 = D := by injection e with e; injection e with e; exact e.symm
                refine ⟨b2, off2, e, Nat.lt_of_lt_of_le hlt HCH.out.size, fun i x hx => (World.cell?_of_block (a := ⟨b2, _, none⟩) (HCH.out.block b2 hlt (fun e3 => hDn (e2.symm.trans e3)))).trans (hc i x hx)⟩)
              clear hsq
              by_cases hx0 : xs.length = 0
              · have hx1 : ((xs.length : Int) == 0) = true := by rw [hx0]; rfl
                have hx2 : (xs.length : Int) = 0 := by omega
                have HFIN := Lib.hid (show ∀ k, k < N → nj[k]? = some (cN k : Int) from fun k hk => by
                  have hp := HFOL.out.1.len
                  have hk2 : k < ps.length := by rw [HPN.out]; exact hk
                  rw [HSTEP.out.at_ k (by omega), HSTEP.out.none_ hx0 k (by omega) hk2, HFULL.out.dur k hk2])
                clear hx0
                go_wp2_with fail
                obtain ⟨w9, rfl⟩ : ∃ w9, w9 = wr := ⟨_, rfl⟩
                go_loopw [23] (fun kv wr => ∃ k : Nat, kv = .int .i64 (k : Int) ∧ k ≤ min cs.length 4 ∧ Hid (Below w9.heap.size w9 wr)) (fun kv _ => 4 - (intOf kv).toNat)
                case atStart => exact ⟨0, rfl, Nat.zero_le _, Lib.hid (Below.refl _ _)⟩
                case round =>
                  obtain ⟨k, rfl, hk, HBk⟩ := hrel
                  by_cases hlt : k < min cs.length 4
                  · have hk1 : k < cs.length := by omega
                    have hk2 : (k : Int) < (cs.length : Int) := by omega
                    have hk3 : (k : Int) < 4 := by omega
                    have hk4 : k < 4 := by omega
                    have hxc := HCAT.out k hk1
                    have hb19 : Below w.heap.size w wr := HB1.out.trans (((HB5.out.trans (HB9.out.mono HB5.out.size)).trans (HBk.out.mono (Nat.le_trans HB5.out.size HB9.out.size))).mono HB1.out.size)
                    obtain ⟨b0, off0, hA0, hb0, hcell⟩ := kC_r (HR0.out.below hb19) k hk1
                    have hkn : k < nj.length := by omega
                    have hcn := (show Cells wr nb (iA nj) 44 from (HBk.out.block nb HCJ.out.lt).trans HCJ.out).iat hkn
                    have hv : nj[k] = (cN k : Int) := by have := HFIN.out k (by have := HND.out; omega); rw [List.getElem?_eq_getElem hkn] at this; exact Option.some.inj this
                    rw [hv] at hcn
                    obtain ⟨x, hx⟩ : ∃ x, cs[k] = x := ⟨_, rfl⟩
                    obtain ⟨cc, hcc⟩ : ∃ x, cN k = x := ⟨_, rfl⟩
                    have hx0c := (HCS.out _ (List.getElem_mem hk1)).1
                    rw [hx] at hcell hxc hx0c
                    have hc31 := HC31.out k
                    rw [hcc] at hcn hxc hc31
                    have htm : wrap64 (x.tmod 32) = (cc : Int) := by rw [Int.tmod_eq_emod_of_nonneg hx0c, hxc]; exact IntWalk.wrap64_in _ ⟨by omega, by omega⟩
                    have hcn3 : ((cc : Int) != wrap64 (x.tmod 32)) = false := by rw [htm]; simp
                    have hcn4 : decide ((cc : Int) = wrap64 (x.tmod 32)) = true := by rw [htm]; simp
                    have hcn5 : ((cc : Int) == wrap64 (x.tmod 32)) = true := by rw [htm]; simp
                    subst hA0
                    clear hx hcc hv hb19
                    go_wp2_with fail
                    go_quiet (fail)
                    go_wp2_with fail
                    all_goals first | exact ⟨⟨k + 1, by go_num, by omega, Lib.hid (below_more HBk.out _)⟩, by simp [intOf]; omega⟩ | trace_state
                  · have hend3 : ¬ ((k : Int) < (cs.length : Int)) ∨ ((k : Int) < (cs.length : Int) ∧ ¬ (k : Int) < 4) := by omega
                    rcases hend3 with hend3 | ⟨hend3, hend4⟩
                    all_goals go_wp2_with fail
                    all_goals go_ret
                    all_goals exact ⟨rfl, HB1.out.trans (((HB5.out.trans (HB9.out.mono HB5.out.size)).trans (HBk.out.mono (Nat.le_trans HB5.out.size HB9.out.size))).mono HB1.out.size)⟩
              · have hx1 : ((xs.length : Int) == 0) = false := by rw [beq_eq_false_iff_ne]; omega
                have hx3 : decide ((xs.length : Int) = 0) = false := decide_eq_false (by omega)
                have HX0 := Lib.hid hx0
                clear hx0
                go_wp2_with fail
                go_roundw
                case rel => exact ⟨i + 1, nj, pl, _, _, rfl, by go_num, Lib.hid ⟨HR9.out, HSTEP.out.ok, hnj, HSTEP.out.at_, HCJ.out, HSTEP.out.rem HX0.out, HB9.out⟩⟩
                case measure => simp [intOf]; omega
      · go_wp2_with (go_at_call 15; go_loud (refine (HST.out _).mono ?_; rintro e w5 ⟨Aw, cw, rfl, r1, r2⟩; have HRW := Lib.hid r1; have HB5 := Lib.hid (HB.out.trans (r2.mono HB.out.size)); have HS5 := Lib.hid (HSRC.out.below r2); clear r1 r2))
        obtain ⟨nb, hnb⟩ : ∃ nb, w5.heap.size = nb := ⟨_, rfl⟩
        have HNB := Lib.hid hnb
        have hal : Below w5.heap.size w5 (w5.alloc (.cells #[.int .i64 0, .int .i64 0, .int .i64 0, .int .i64 0] 44)) := (Below.refl _ _).alloc (Nat.le_refl _) _
        have HPLO := Lib.hid (show Plo ps N nb w5 0 [0, 0, 0, 0] (List.replicate N noRg) Aw (w5.alloc (.cells #[.int .i64 0, .int .i64 0, .int .i64 0, .int .i64 0] 44)) from ⟨(HRW.out.below hal).more hal.size, HW0.out, rfl, fun k h => by
          rw [List.length_replicate] at h
          rw [List.getElem_replicate]
          have hN := HN.out
          have e : k = 0 ∨ k = 1 ∨ k = 2 ∨ k = 3 := by omega
          rcases e with rfl | rfl | rfl | rfl <;> rfl, by rw [← HNB.out]; exact Cells.new w5 _ _, by have := HREM0.out; simpa using this, hal⟩)
        clear hal
        try rw [hnb]
        clear hnb
        go_loopw [14, 16] (fun wv iv wr => ∃ (i : Nat) (nx : List Int) (l : List Rg) (A : Option Addr) (c : Nat), wv = .slice A N c ∧ iv = .int .i64 (i : Int) ∧ Hid (Plo ps N nb w5 i nx l A wr)) (fun _ iv _ => 200 - (intOf iv).toNat)
        case atStart => exact ⟨0, _, _, Aw, cw, rfl, rfl, HPLO⟩
        case round =>
          obtain ⟨i, nx, l, A, c, rfl, rfl, HP⟩ := hrel
          have hi124 : i ≤ 124 := by have h1 := HP.out.rem; have h2 := remS_nonneg (ps := ps) (l := l); omega
          have hi200 : (i : Int) < 200 := by omega
          have HBP := Lib.hid (HB5.out.trans (HP.out.below.mono HB5.out.size))
          have hm1 : (0 : Int) < (ms.length : Int) := by omega
          have hnz : ¬ (ms.length : Int) = 0 := by omega
          obtain ⟨q, hq⟩ : ∃ q, i % ms.length = q := ⟨_, rfl⟩
          have hqI : (i : Int) % (ms.length : Int) = (q : Int) := by rw [← hq]; simp
          have hql : q < ms.length := by rw [← hq]; exact Nat.mod_lt _ (by omega)
          have hql2 : (q : Int) < (ms.length : Int) := by omega
          have hqm : Int.tmod (i : Int) (ms.length : Int) = (q : Int) := by rw [Int.tmod_eq_emod_of_nonneg (by omega)]; exact hqI
          obtain ⟨b1, off1, hA1, hb1, hcm⟩ := kC_r (HR1.out.below (HB1.out.trans (HBP.out.mono HB1.out.size))) q hql
          subst hA1
          have hmx := HMS.out _ (List.getElem_mem hql)
          obtain ⟨x, hx⟩ : ∃ x, ms[q] = x := ⟨_, rfl⟩
          rw [hx] at hcm hmx
          obtain ⟨y, hy⟩ : ∃ y, x % 1024 = y := ⟨_, rfl⟩
          have hyb : 0 ≤ y ∧ y ≤ 1023 := by omega
          obtain ⟨m, hm⟩ : ∃ m, 1 + y = m := ⟨_, rfl⟩
          have hmb : 1 ≤ m ∧ m ≤ 1024 := by omega
          have s7 : IntKind.i64.wrap (1 + y) = m := by rw [IntKind.wrap_i64]; omega
          have s8 : IntKind.i64.wrap x = x := wrap_id (by omega)
          clear hq hx
          have HPLAN := Lib.hid (fun (W : World) (hb : Below w5.heap.size w5 W) (hr : RowC rgCells 2 W W.heap.size A l) => plan_src (HS5.out.below hb) HP.out.ok A c hr m hmb)
          have HST5 := Lib.hid (fun xs (hk : xs.map keyOf = keysTo (planL ps l m) ps.length) => plan_step (i := i) (xs := xs) HP.out.ok HPN.out HFEW.out (by first | decide | exact hmb.1) HP.out.len HP.out.at_ HP.out.rem hk)
          have HFOL := Lib.hid (HP.out.ok.plan (most := m) HFEW.out)
          obtain ⟨pl, hpl⟩ : ∃ pl, planL ps l m = pl := ⟨_, rfl⟩
          have HPL := Lib.hid hpl
          rw [hpl] at HST5 HFOL
          rw [HPN.out] at HPLAN
          clear hpl
          go_wp2_with (first
            | (go_at_call 16; go_loud (refine (HPLAN.out _ HP.out.below HP.out.row).mono ?_; rintro e w6 ⟨D, he, hD, r1, r2⟩; rw [HPN.out] at he; subst he; rw [HPL.out] at r1; have HD := Lib.hid hD; have HR6 := Lib.hid r1; have HB6 := Lib.hid r2; have HRL6 := Lib.hid ((HP.out.row.below r2).more r2.size); clear r1 r2 hD))
            | (go_at_call 17; go_loud (refine (rfollows_walk l pl A (some ⟨D, 0, none⟩) N c N N w6 (by rw [HP.out.ok.len, HPN.out]) (by have := HN.out; unfold maxLen; omega) HRL6.out (by rw [HFOL.out.1.len, HPN.out]) (by have := HN.out; unfold maxLen; omega) HR6.out).mono ?_; rintro e w7 ⟨rfl, r2⟩; rw [HFOL.out.2]; have HB7 := Lib.hid (HB6.out.trans (r2.mono HB6.out.size)); have HR7 := Lib.hid ((HR6.out.below r2).more r2.size); clear r2))
            | (go_at_call 18; go_loud (refine (show Calls Tryz.prog 18 #[.pointer (some ⟨s, 0, none⟩), .slice (some ⟨D, 0, none⟩) N N] w7 (SReadPost ps pl w7) from by have h := sread_src (HS5.out.below (HP.out.below.trans (HB7.out.mono HP.out.below.size))) HFOL.out.1 hM2 (Nat.le_trans (HBP.out.size) HB7.out.size) (HTAB.out _ _ HB1.out (HBP.out.trans (HB7.out.mono HBP.out.size))) (some ⟨D, 0, none⟩) N HR7.out; rwa [HPN.out] at h).mono ?_; rintro e w8 ⟨Ax, cx, xs, rfl, k1, k2, k3, k4, k5⟩; have HSTEP := Lib.hid (HST5.out xs (by rw [k1])); have HTELL := Lib.hid k2; have HOX := Lib.hid k3; have HRX := Lib.hid k4; have HB8 := Lib.hid (HB7.out.trans (k5.mono HB7.out.size)); have HR8 := Lib.hid ((HR7.out.below k5).more k5.size); have hfew := (HST5.out xs (by rw [k1])).few; have hfew2 : ¬ m < (xs.length : Int) := (by omega); clear k1 k2 k3 k4 k5)))
          obtain ⟨fin, hfin⟩ : ∃ fin, nxTo nx pl ps.length = fin := ⟨_, rfl⟩
          rw [hfin] at HSTEP
          have HROWX := Lib.hid (RowC.own r3C_length (by decide) HOX.out).2
          have hcn8 : Cells w8 nb (iA nx) 44 := (HB8.out.block nb HP.out.cells.lt).trans HP.out.cells
          have HCN8 := Lib.hid hcn8
          have hnbw : nb < wr.heap.size := HP.out.cells.lt
          have hDn : D ≠ nb := by have := HD.out; omega
          have HB58 := Lib.hid (HP.out.below.trans (HB8.out.mono HP.out.below.size))
          have hxl : xs.length ≤ 1024 := by omega
          clear hfin hcn8
          obtain ⟨w0, rfl⟩ : ∃ w0, w0 = wr := ⟨_, rfl⟩
          go_loopw [21] (fun jv wr => ∃ (j : Nat) (nj : List Int), jv = .int .i64 (j : Int) ∧ j ≤ xs.length ∧ nj.length = 4 ∧ Hid (Seqs N nj ((xs.map keyOf).drop j) fin) ∧ Hid (Cells wr nb (iA nj) 44) ∧ Hid (Ch (· = nb) w8 wr) ∧ Hid (Below w5.heap.size w5 wr)) (fun jv _ => xs.length - (intOf jv).toNat)
          case atStart => exact ⟨0, nx, rfl, Nat.zero_le _, HP.out.len, HSTEP.out.seqs, HCN8, Lib.hid (Ch.refl _ _), HB58⟩
          case round =>
            obtain ⟨j, nj, rfl, hj, hnj, HSQ, HCJ, HCH, HB9⟩ := hrel
            by_cases hjl : j < xs.length
            · have hsq := HSQ.out
              rw [drop_key hjl] at hsq
              obtain ⟨g1, g2, g3⟩ := hsq
              obtain ⟨pt, hp1, hp2⟩ := HTELL.out _ (List.getElem_mem hjl)
              obtain ⟨bx, offx, hAx, hbx, hcx⟩ := HROWX.out j hjl
              obtain ⟨hby, hu8⟩ := HRX.out _ (List.getElem_mem hjl)
              obtain ⟨X, hX⟩ : ∃ X, xs[j] = X := ⟨_, rfl⟩
              rw [hX] at g1 g2 g3 hp1 hp2 hcx hby hu8
              obtain ⟨p, a, bb, Ab, cb⟩ := X
              dsimp only [keyOf] at g1 g2 g3
              dsimp only at hp1 hp2 hby hu8
              have hbb : bb = [UInt8.ofNat p, UInt8.ofNat a] ∧ a < 31 := by
                obtain ⟨q1, q2⟩ := List.getElem?_eq_some_iff.1 hp1
                have h3 := HFULL.out.rs p q1
                rw [q2] at h3
                rw [h3] at hp2
                obtain ⟨h4, h5⟩ := recL_at hp2
                have := HC31.out p
                exact ⟨h4, by omega⟩
              have hbl : bb.length = 2 := by rw [hbb.1]; rfl
              have ha31 : a < 31 := hbb.2
              have hnx : bx ≠ nb := by
                rcases HOX.out.2 with ⟨e, _⟩ | ⟨g, cap, cur, e, _, hg, _⟩
                · injection e with e; rw [hAx] at e; cases e
                · injection e with e; rw [hAx] at e; injection e with e; injection e with e
                  rintro rfl
                  rw [e] at HCN8
                  have := Option.some.inj (hg.symm.trans HCN8.out)
                  injection this with _ h2
                  exact absurd h2 (by decide)
              have hch : ∀ o, wr.cell? ⟨bx, o, none⟩ = w8.cell? ⟨bx, o, none⟩ := fun o => World.cell?_of_block (a := ⟨bx, o, none⟩) (HCH.out.block bx hbx (fun e => hnx e))
              have cx0 : wr.cell? ⟨bx, offx + j * 3, none⟩ = some (.int .i64 (p : Int)) := by rw [hch]; exact hcx 0 _ rfl
              have cx1 : wr.cell? ⟨bx, offx + j * 3 + 1, none⟩ = some (.int .i64 (a : Int)) := by rw [hch]; exact hcx 1 _ rfl
              have cx2 : wr.cell? ⟨bx, offx + j * 3 + 2, none⟩ = some (.slice Ab 2 cb) := by rw [hch]; have := hcx 2 _ rfl; rw [this]; show some (Value.slice Ab bb.length cb) = _; rw [hbl]
              have hby9 : BytesAt wr wr.heap.size Ab bb := by
                intro t ht
                obtain ⟨b2, off2, e, hlt, hc⟩ := hby t ht
                obtain ⟨d, z, hk⟩ := hu8 _ e
                refine ⟨b2, off2, e, Nat.lt_of_lt_of_le hlt HCH.out.size, (World.cell?_of_block (a := ⟨b2, off2 + t, none⟩) (HCH.out.block b2 hlt (fun e2 => ?_))).trans hc⟩
                subst e2
                have := Option.some.inj (hk.symm.trans HCN8.out)
                injection this with _ h2
                exact absurd h2 (by decide)
              have hp4 : p < 4 := by have := HN.out; omega
              have hpn : p < nj.length := by omega
              have hnp : nj[p] = (a : Int) := by rw [List.getElem?_eq_getElem hpn] at g2; exact Option.some.inj g2
              have hcp := HCJ.out.iat hpn
              rw [hnp] at hcp
              have hcf := HCJ.out.frozen p
              have HSQ2 := Lib.hid g3
              have HCN := Lib.hid (fun (W : World) (hc : Cells W nb (iA nj) 44) => (show Cells (W.setCell ⟨nb, p, none⟩ (.int .i64 ((a : Int) + 1))) nb (iA (nj.set p ((a : Int) + 1))) 44 from hc.iset p _))
              have HBB := Lib.hid hbb.1
              have HBY := Lib.hid hby9
              have hp0 : ¬ (p : Int) < 0 := by omega
              have hpN2 : ¬ (N : Int) ≤ (p : Int) := by omega
              have hp5 : (p : Int) < 4 := by omega
              have hpN3 : p < N := g1
              have u1 : IntKind.u8.wrap (p : Int) = (p : Int) := by rw [IntKind.wrap_u8]; omega
              have u2 : IntKind.u8.wrap (a : Int) = (a : Int) := by rw [IntKind.wrap_u8]; omega
              have s9 : IntKind.i64.wrap ((a : Int) + 1) = (a : Int) + 1 := wrap_id (by omega)
              have hjl2 : (j : Int) < (xs.length : Int) := by omega
              have hnw : nb < wr.heap.size := HCJ.out.lt
              have hbxw : bx < wr.heap.size := Nat.lt_of_lt_of_le hbx HCH.out.size
              subst hAx
              clear hX g1 g2 g3 hp1 hp2 hcx hby hu8 hbb hch hby9 hnp
              go_wp2_with fail
              obtain ⟨rb, hrb⟩ : ∃ g, wr.heap.size = g := ⟨_, rfl⟩
              have hbox : Below wr.heap.size wr (wr.alloc (.cells #[.int .i64 (p : Int), .int .i64 (a : Int), .slice Ab 2 cb] 53)) := (Below.refl _ _).alloc (Nat.le_refl _) _
              have hcb : Cells (wr.alloc (.cells #[.int .i64 (p : Int), .int .i64 (a : Int), .slice Ab 2 cb] 53)) wr.heap.size #[.int .i64 (p : Int), .int .i64 (a : Int), .slice Ab 2 cb] 53 := Cells.new wr _ _
              have hcj := HCJ.out.alloc (.cells #[.int .i64 (p : Int), .int .i64 (a : Int), .slice Ab 2 cb] 53)
              obtain ⟨w9, hw9⟩ : ∃ V, wr.alloc (.cells #[.int .i64 (p : Int), .int .i64 (a : Int), .slice Ab 2 cb] 53) = V := ⟨_, rfl⟩
              rw [hw9] at hbox hcb hcj
              rw [hrb] at hcb
              try rw [hw9]
              try rw [hrb]
              have q0 : w9.cell? ⟨rb, 0, none⟩ = some (.int .i64 (p : Int)) := hcb.cell 0
              have q1 : w9.cell? ⟨rb, 1, none⟩ = some (.int .i64 (a : Int)) := hcb.cell 1
              have q2 : w9.cell? ⟨rb, 2, none⟩ = some (.slice Ab 2 cb) := hcb.cell 2
              have q3 := cell_later hbox hcp
              have q4 := ml_bytes HBY.out hbox
              have HCJ9 := Lib.hid hcj
              have HCB9 := Lib.hid hcb
              have HBOX := Lib.hid hbox
              have HTX := Lib.hid (show ∀ (W : World) (A' : Option Addr) (c' : Nat), BytesAt W W.heap.size A' bb → (convert 30 9 (.slice A' 2 c')).run Tryz.prog W = .ok (.string (txt bb)) W from fun W A' c' h => string_of_bytes A' 2 c' bb W hbl.symm h)
              obtain ⟨tx, htx⟩ : ∃ tx, txt bb = tx := ⟨_, rfl⟩
              rw [htx] at HTX
              have htt : (tx.toList != tx.toList) = false := by simp
              clear hbox hcb hcj hw9 hrb htx
              refine wp_mono ?_ noPanic_le
              refine held_begin 32 (fun W => W.cell? ⟨rb, 0, none⟩ = some (.int .i64 (p : Int)) ∧ W.cell? ⟨rb, 1, none⟩ = some (.int .i64 (a : Int)) ∧ W.cell? ⟨rb, 2, none⟩ = some (.slice Ab 2 cb) ∧ W.cell? ⟨nb, p, none⟩ = some (.int .i64 (a : Int)) ∧ BytesAt W W.heap.size Ab bb) rfl (by kernel_rfl) ?_
              have hS : w9.drew.cell? ⟨rb, 0, none⟩ = some (.int .i64 (p : Int)) ∧ w9.drew.cell? ⟨rb, 1, none⟩ = some (.int .i64 (a : Int)) ∧ w9.drew.cell? ⟨rb, 2, none⟩ = some (.slice Ab 2 cb) ∧ w9.drew.cell? ⟨nb, p, none⟩ = some (.int .i64 (a : Int)) ∧ BytesAt w9.drew w9.drew.heap.size Ab bb := ⟨q0, q1, q2, q3, q4⟩
              refine held_take (i := 0) (t := 137) (v := (.pointer (some ⟨rb, 0, none⟩))) (fuel := 31) rfl rfl (by kernel_rfl) (by kernel_rfl) (by kernel_rfl) (fun _ _ _ h => h) (.inl ⟨rfl, fun W hW => by obtain ⟨w1, w2, w3, w4, w5_⟩ := hW; simp [execOp, Act.eval, go_sem, w1, w2, w3, w4]⟩) hS ?_
              simp only [List.setIfInBounds_toArray, List.set_cons_succ, List.set_cons_zero]
              refine held_take (i := 1) (t := 138) (v := (.int .i64 (p : Int))) (fuel := 30) rfl rfl (by kernel_rfl) (by kernel_rfl) (by kernel_rfl) (fun _ _ _ h => h) (.inl ⟨rfl, fun W hW => by obtain ⟨w1, w2, w3, w4, w5_⟩ := hW; simp [execOp, Act.eval, go_sem, w1, w2, w3, w4]⟩) hS ?_
              simp only [List.setIfInBounds_toArray, List.set_cons_succ, List.set_cons_zero]
              refine held_take (i := 2) (t := 139) (v := (.bool false)) (fuel := 29) rfl rfl (by kernel_rfl) (by kernel_rfl) (by kernel_rfl) (fun _ _ _ h => h) (.inl ⟨rfl, fun W hW => by obtain ⟨w1, w2, w3, w4, w5_⟩ := hW; simp [execOp, Act.eval, go_sem, w1, w2, w3, w4, hp0]⟩) hS ?_
              simp only [List.setIfInBounds_toArray, List.set_cons_succ, List.set_cons_zero]
              refine held_take (i := 3) (t := 140) (v := (.bool false)) (fuel := 28) rfl rfl (by kernel_rfl) (by kernel_rfl) (by kernel_rfl) (fun _ _ _ h => h) (.inl ⟨rfl, fun W hW => by obtain ⟨w1, w2, w3, w4, w5_⟩ := hW; simp [execOp, Act.eval, go_sem, w1, w2, w3, w4]⟩) hS ?_
              simp only [List.setIfInBounds_toArray, List.set_cons_succ, List.set_cons_zero]
              refine held_take (i := 4) (t := 141) (v := (.pointer (some ⟨rb, 0, none⟩))) (fuel := 27) rfl rfl (by kernel_rfl) (by kernel_rfl) (by kernel_rfl) (fun _ _ _ h => h) (.inl ⟨rfl, fun W hW => by obtain ⟨w1, w2, w3, w4, w5_⟩ := hW; simp [execOp, Act.eval, go_sem, w1, w2, w3, w4]⟩) hS ?_
              simp only [List.setIfInBounds_toArray, List.set_cons_succ, List.set_cons_zero]
              refine held_take (i := 5) (t := 142) (v := (.int .i64 (p : Int))) (fuel := 26) rfl rfl (by kernel_rfl) (by kernel_rfl) (by kernel_rfl) (fun _ _ _ h => h) (.inl ⟨rfl, fun W hW => by obtain ⟨w1, w2, w3, w4, w5_⟩ := hW; simp [execOp, Act.eval, go_sem, w1, w2, w3, w4]⟩) hS ?_
              simp only [List.setIfInBounds_toArray, List.set_cons_succ, List.set_cons_zero]
              refine held_take (i := 6) (t := 143) (v := (.int .i64 (N : Int))) (fuel := 25) rfl rfl (by kernel_rfl) (by kernel_rfl) (by kernel_rfl) (fun _ _ _ h => h) (.inl ⟨rfl, fun W hW => by obtain ⟨w1, w2, w3, w4, w5_⟩ := hW; simp [execOp, Act.eval, go_sem, w1, w2, w3, w4]⟩) hS ?_
              simp only [List.setIfInBounds_toArray, List.set_cons_succ, List.set_cons_zero]
              refine held_take (i := 7) (t := 144) (v := (.bool false)) (fuel := 24) rfl rfl (by kernel_rfl) (by kernel_rfl) (by kernel_rfl) (fun _ _ _ h => h) (.inl ⟨rfl, fun W hW => by obtain ⟨w1, w2, w3, w4, w5_⟩ := hW; simp [execOp, Act.eval, go_sem, w1, w2, w3, w4, hpN2, hpN3]⟩) hS ?_
              simp only [List.setIfInBounds_toArray, List.set_cons_succ, List.set_cons_zero]
              refine held_take (i := 8) (t := 145) (v := (.bool false)) (fuel := 23) rfl rfl (by kernel_rfl) (by kernel_rfl) (by kernel_rfl) (fun _ _ _ h => h) (.inl ⟨rfl, fun W hW => by obtain ⟨w1, w2, w3, w4, w5_⟩ := hW; simp [execOp, Act.eval, go_sem, w1, w2, w3, w4]⟩) hS ?_
              simp only [List.setIfInBounds_toArray, List.set_cons_succ, List.set_cons_zero]
              refine held_take (i := 9) (t := 146) (v := (.bool false)) (fuel := 22) rfl rfl (by kernel_rfl) (by kernel_rfl) (by kernel_rfl) (fun _ _ _ h => h) (.inl ⟨rfl, fun W hW => by obtain ⟨w1, w2, w3, w4, w5_⟩ := hW; simp [execOp, Act.eval, go_sem, w1, w2, w3, w4]⟩) hS ?_
              simp only [List.setIfInBounds_toArray, List.set_cons_succ, List.set_cons_zero]
              refine held_take (i := 10) (t := 147) (v := (.pointer (some ⟨rb, 1, none⟩))) (fuel := 21) rfl rfl (by kernel_rfl) (by kernel_rfl) (by kernel_rfl) (fun _ _ _ h => h) (.inl ⟨rfl, fun W hW => by obtain ⟨w1, w2, w3, w4, w5_⟩ := hW; simp [execOp, Act.eval, go_sem, w1, w2, w3, w4]⟩) hS ?_
              simp only [List.setIfInBounds_toArray, List.set_cons_succ, List.set_cons_zero]
              refine held_take (i := 11) (t := 148) (v := (.int .i64 (a : Int))) (fuel := 20) rfl rfl (by kernel_rfl) (by kernel_rfl) (by kernel_rfl) (fun _ _ _ h => h) (.inl ⟨rfl, fun W hW => by obtain ⟨w1, w2, w3, w4, w5_⟩ := hW; simp [execOp, Act.eval, go_sem, w1, w2, w3, w4]⟩) hS ?_
              simp only [List.setIfInBounds_toArray, List.set_cons_succ, List.set_cons_zero]
              refine held_take (i := 12) (t := 149) (v := (.pointer (some ⟨rb, 0, none⟩))) (fuel := 19) rfl rfl (by kernel_rfl) (by kernel_rfl) (by kernel_rfl) (fun _ _ _ h => h) (.inl ⟨rfl, fun W hW => by obtain ⟨w1, w2, w3, w4, w5_⟩ := hW; simp [execOp, Act.eval, go_sem, w1, w2, w3, w4]⟩) hS ?_
              simp only [List.setIfInBounds_toArray, List.set_cons_succ, List.set_cons_zero]
              refine held_take (i := 13) (t := 150) (v := (.int .i64 (p : Int))) (fuel := 18) rfl rfl (by kernel_rfl) (by kernel_rfl) (by kernel_rfl) (fun _ _ _ h => h) (.inl ⟨rfl, fun W hW => by obtain ⟨w1, w2, w3, w4, w5_⟩ := hW; simp [execOp, Act.eval, go_sem, w1, w2, w3, w4]⟩) hS ?_
              simp only [List.setIfInBounds_toArray, List.set_cons_succ, List.set_cons_zero]
              refine held_take (i := 14) (t := 151) (v := (.pointer (some ⟨nb, p, none⟩))) (fuel := 17) rfl rfl (by kernel_rfl) (by kernel_rfl) (by kernel_rfl) (fun _ _ _ h => h) (.inl ⟨rfl, fun W hW => by obtain ⟨w1, w2, w3, w4, w5_⟩ := hW; simp [execOp, Act.eval, go_sem, w1, w2, w3, w4, hp4, hp5]⟩) hS ?_
              simp only [List.setIfInBounds_toArray, List.set_cons_succ, List.set_cons_zero]
              refine held_take (i := 15) (t := 152) (v := (.int .i64 (a : Int))) (fuel := 16) rfl rfl (by kernel_rfl) (by kernel_rfl) (by kernel_rfl) (fun _ _ _ h => h) (.inl ⟨rfl, fun W hW => by obtain ⟨w1, w2, w3, w4, w5_⟩ := hW; simp [execOp, Act.eval, go_sem, w1, w2, w3, w4]⟩) hS ?_
              simp only [List.setIfInBounds_toArray, List.set_cons_succ, List.set_cons_zero]
              refine held_take (i := 16) (t := 153) (v := (.bool false)) (fuel := 15) rfl rfl (by kernel_rfl) (by kernel_rfl) (by kernel_rfl) (fun _ _ _ h => h) (.inl ⟨rfl, fun W hW => by obtain ⟨w1, w2, w3, w4, w5_⟩ := hW; simp [execOp, Act.eval, go_sem, w1, w2, w3, w4]⟩) hS ?_
              simp only [List.setIfInBounds_toArray, List.set_cons_succ, List.set_cons_zero]
              refine held_take (i := 17) (t := 154) (v := (.bool false)) (fuel := 14) rfl rfl (by kernel_rfl) (by kernel_rfl) (by kernel_rfl) (fun _ _ _ h => h) (.inl ⟨rfl, fun W hW => by obtain ⟨w1, w2, w3, w4, w5_⟩ := hW; simp [execOp, Act.eval, go_sem, w1, w2, w3, w4]⟩) hS ?_
              simp only [List.setIfInBounds_toArray, List.set_cons_succ, List.set_cons_zero]
              refine held_take (i := 18) (t := 155) (v := (.bool false)) (fuel := 13) rfl rfl (by kernel_rfl) (by kernel_rfl) (by kernel_rfl) (fun _ _ _ h => h) (.inl ⟨rfl, fun W hW => by obtain ⟨w1, w2, w3, w4, w5_⟩ := hW; simp [execOp, Act.eval, go_sem, w1, w2, w3, w4]⟩) hS ?_
              simp only [List.setIfInBounds_toArray, List.set_cons_succ, List.set_cons_zero]
              refine held_take (i := 19) (t := 156) (v := (.pointer (some ⟨rb, 2, none⟩))) (fuel := 12) rfl rfl (by kernel_rfl) (by kernel_rfl) (by kernel_rfl) (fun _ _ _ h => h) (.inl ⟨rfl, fun W hW => by obtain ⟨w1, w2, w3, w4, w5_⟩ := hW; simp [execOp, Act.eval, go_sem, w1, w2, w3, w4]⟩) hS ?_
              simp only [List.setIfInBounds_toArray, List.set_cons_succ, List.set_cons_zero]
              refine held_take (i := 20) (t := 157) (v := (.slice Ab 2 cb)) (fuel := 11) rfl rfl (by kernel_rfl) (by kernel_rfl) (by kernel_rfl) (fun _ _ _ h => h) (.inl ⟨rfl, fun W hW => by obtain ⟨w1, w2, w3, w4, w5_⟩ := hW; simp [execOp, Act.eval, go_sem, w1, w2, w3, w4]⟩) hS ?_
              simp only [List.setIfInBounds_toArray, List.set_cons_succ, List.set_cons_zero]
              refine held_take (i := 21) (t := 158) (v := (.string tx)) (fuel := 10) rfl rfl (by kernel_rfl) (by kernel_rfl) (by kernel_rfl) (fun _ _ _ h => h) (.inl ⟨rfl, fun W hW => by obtain ⟨w1, w2, w3, w4, w5_⟩ := hW; have hcv := HTX.out W Ab cb w5_; simp [execOp, Act.eval, go_sem, w1, w2, w3, w4, hcv]⟩) hS ?_
              simp only [List.setIfInBounds_toArray, List.set_cons_succ, List.set_cons_zero]
              refine held_take (i := 22) (t := 159) (v := (.pointer (some ⟨rb, 0, none⟩))) (fuel := 9) rfl rfl (by kernel_rfl) (by kernel_rfl) (by kernel_rfl) (fun _ _ _ h => h) (.inl ⟨rfl, fun W hW => by obtain ⟨w1, w2, w3, w4, w5_⟩ := hW; simp [execOp, Act.eval, go_sem, w1, w2, w3, w4]⟩) hS ?_
              simp only [List.setIfInBounds_toArray, List.set_cons_succ, List.set_cons_zero]
              refine held_take (i := 23) (t := 160) (v := (.int .i64 (p : Int))) (fuel := 8) rfl rfl (by kernel_rfl) (by kernel_rfl) (by kernel_rfl) (fun _ _ _ h => h) (.inl ⟨rfl, fun W hW => by obtain ⟨w1, w2, w3, w4, w5_⟩ := hW; simp [execOp, Act.eval, go_sem, w1, w2, w3, w4]⟩) hS ?_
              simp only [List.setIfInBounds_toArray, List.set_cons_succ, List.set_cons_zero]
              refine held_take (i := 24) (t := 161) (v := (.int .u8 (p : Int))) (fuel := 7) rfl rfl (by kernel_rfl) (by kernel_rfl) (by kernel_rfl) (fun _ _ _ h => h) (.inl ⟨rfl, fun W hW => by obtain ⟨w1, w2, w3, w4, w5_⟩ := hW; simp [execOp, Act.eval, go_sem, w1, w2, w3, w4, u1]⟩) hS ?_
              simp only [List.setIfInBounds_toArray, List.set_cons_succ, List.set_cons_zero]
              refine held_take (i := 25) (t := 162) (v := (.pointer (some ⟨rb, 1, none⟩))) (fuel := 6) rfl rfl (by kernel_rfl) (by kernel_rfl) (by kernel_rfl) (fun _ _ _ h => h) (.inl ⟨rfl, fun W hW => by obtain ⟨w1, w2, w3, w4, w5_⟩ := hW; simp [execOp, Act.eval, go_sem, w1, w2, w3, w4]⟩) hS ?_
              simp only [List.setIfInBounds_toArray, List.set_cons_succ, List.set_cons_zero]
              refine held_take (i := 26) (t := 163) (v := (.int .i64 (a : Int))) (fuel := 5) rfl rfl (by kernel_rfl) (by kernel_rfl) (by kernel_rfl) (fun _ _ _ h => h) (.inl ⟨rfl, fun W hW => by obtain ⟨w1, w2, w3, w4, w5_⟩ := hW; simp [execOp, Act.eval, go_sem, w1, w2, w3, w4]⟩) hS ?_
              simp only [List.setIfInBounds_toArray, List.set_cons_succ, List.set_cons_zero]
              refine held_take (i := 27) (t := 164) (v := (.int .u8 (a : Int))) (fuel := 4) rfl rfl (by kernel_rfl) (by kernel_rfl) (by kernel_rfl) (fun _ _ _ h => h) (.inl ⟨rfl, fun W hW => by obtain ⟨w1, w2, w3, w4, w5_⟩ := hW; simp [execOp, Act.eval, go_sem, w1, w2, w3, w4, u2]⟩) hS ?_
              simp only [List.setIfInBounds_toArray, List.set_cons_succ, List.set_cons_zero]
              refine held_call (i := 28) rfl (by kernel_rfl) (by kernel_rfl) ?_
              simp [Oper.wp, execOp, Act.eval, Act.put, go_sem]
              have hbn : Below w9.heap.size w9 (w9.alloc (.cells #[.int .u8 (p : Int), .int .u8 (a : Int)] 5)).drew := ((Below.refl _ w9).alloc (Nat.le_refl _) _).drew
              have hcb2 : Cells (w9.alloc (.cells #[.int .u8 (p : Int), .int .u8 (a : Int)] 5)).drew w9.heap.size #[.int .u8 (p : Int), .int .u8 (a : Int)] 5 := Cells.new w9 _ _
              obtain ⟨gf, hgf⟩ : ∃ g, w9.heap.size = g := ⟨_, rfl⟩
              obtain ⟨wA, hwA⟩ : ∃ V, (w9.alloc (.cells #[.int .u8 (p : Int), .int .u8 (a : Int)] 5)).drew = V := ⟨_, rfl⟩
              rw [hwA] at hbn hcb2
              rw [hgf] at hcb2
              rw [hwA]
              rw [hgf]
              have hbf := two_at (by omega) (by omega) hcb2
              rw [← HBB.out] at hbf
              have HC10 := Lib.hid (show Cells wA nb (iA nj) 44 from (hbn.block nb HCJ9.out.lt).trans HCJ9.out)
              have hb10 := HBOX.out.trans (hbn.mono HBOX.out.size)
              have HCH10 := Lib.hid (HCH.out.trans ((chb hb10).mono (fun _ _ h => h.elim)))
              have HB10 := Lib.hid (HB9.out.trans (hb10.mono HB9.out.size))
              have hbn2 : Below w9.heap.size w9 (w9.alloc (.cells #[.int .u8 (p : Int), .int .u8 (a : Int)] 5)) := (Below.refl _ w9).alloc (Nat.le_refl _) _
              have hS2 : (w9.alloc (.cells #[.int .u8 (p : Int), .int .u8 (a : Int)] 5)).cell? ⟨rb, 0, none⟩ = some (.int .i64 (p : Int)) ∧ (w9.alloc (.cells #[.int .u8 (p : Int), .int .u8 (a : Int)] 5)).cell? ⟨rb, 1, none⟩ = some (.int .i64 (a : Int)) ∧ (w9.alloc (.cells #[.int .u8 (p : Int), .int .u8 (a : Int)] 5)).cell? ⟨rb, 2, none⟩ = some (.slice Ab 2 cb) ∧ (w9.alloc (.cells #[.int .u8 (p : Int), .int .u8 (a : Int)] 5)).cell? ⟨nb, p, none⟩ = some (.int .i64 (a : Int)) ∧ BytesAt (w9.alloc (.cells #[.int .u8 (p : Int), .int .u8 (a : Int)] 5)) (w9.alloc (.cells #[.int .u8 (p : Int), .int .u8 (a : Int)] 5)).heap.size Ab bb := ⟨cell_later hbn2 q0, cell_later hbn2 q1, cell_later hbn2 q2, cell_later hbn2 q3, ml_bytes q4 hbn2⟩
              have hszB : BytesAt wA (gf + 1) Ab bb := by have h := ml_bytes q4 hbn; rwa [show wA.heap.size = gf + 1 from by rw [← hwA, ← hgf]; exact Go.Deep.nblk_alloc w9 _] at h
              have hS : wA.cell? ⟨rb, 0, none⟩ = some (.int .i64 (p : Int)) ∧ wA.cell? ⟨rb, 1, none⟩ = some (.int .i64 (a : Int)) ∧ wA.cell? ⟨rb, 2, none⟩ = some (.slice Ab 2 cb) ∧ wA.cell? ⟨nb, p, none⟩ = some (.int .i64 (a : Int)) ∧ BytesAt wA wA.heap.size Ab bb := ⟨cell_later hbn q0, cell_later hbn q1, cell_later hbn q2, cell_later hbn q3, ml_bytes q4 hbn⟩
              refine ⟨(by first | exact hS | exact hS2 | (refine ⟨?_, ?_, ?_, ?_, ?_⟩ <;> first | exact hS.1 | exact hS2.1 | exact hS.2.1 | exact hS2.2.1 | exact hS.2.2.1 | exact hS2.2.2.1 | exact hS.2.2.2.1 | exact hS2.2.2.2.1 | exact hS.2.2.2.2 | exact hS2.2.2.2.2 | exact hszB | (simpa using hszB))), ?_⟩
              try simp only [List.setIfInBounds_toArray, List.set_cons_succ, List.set_cons_zero]
              refine held_more (S' := fun W => (W.cell? ⟨rb, 0, none⟩ = some (.int .i64 (p : Int)) ∧ W.cell? ⟨rb, 1, none⟩ = some (.int .i64 (a : Int)) ∧ W.cell? ⟨rb, 2, none⟩ = some (.slice Ab 2 cb) ∧ W.cell? ⟨nb, p, none⟩ = some (.int .i64 (a : Int)) ∧ BytesAt W W.heap.size Ab bb) ∧ BytesAt W W.heap.size (some ⟨gf, 0, none⟩) bb) (fun _ h => h.1) _ _ _ _ ?_
              have hS1 := hS
              have hS : (wA.cell? ⟨rb, 0, none⟩ = some (.int .i64 (p : Int)) ∧ wA.cell? ⟨rb, 1, none⟩ = some (.int .i64 (a : Int)) ∧ wA.cell? ⟨rb, 2, none⟩ = some (.slice Ab 2 cb) ∧ wA.cell? ⟨nb, p, none⟩ = some (.int .i64 (a : Int)) ∧ BytesAt wA wA.heap.size Ab bb) ∧ BytesAt wA wA.heap.size (some ⟨gf, 0, none⟩) bb := ⟨hS1, hbf⟩
              refine held_take (i := 29) (t := 166) (v := (.string tx)) (fuel := 2) rfl rfl (by kernel_rfl) (by kernel_rfl) (by kernel_rfl) (fun _ _ _ h => h) (.inl ⟨rfl, fun W hW => by obtain ⟨⟨w1, w2, w3, w4, w5_⟩, w6_⟩ := hW; have hcv := HTX.out W (some ⟨gf, 0, none⟩) 2 w6_; simp [execOp, Act.eval, go_sem, hcv]⟩) hS ?_
              simp only [List.setIfInBounds_toArray, List.set_cons_succ, List.set_cons_zero]
              refine held_take (i := 30) (t := 167) (v := (.bool false)) (fuel := 1) rfl rfl (by kernel_rfl) (by kernel_rfl) (by kernel_rfl) (fun _ _ _ h => h) (.inl ⟨rfl, fun W hW => by obtain ⟨⟨w1, w2, w3, w4, w5_⟩, w6_⟩ := hW; simp [execOp, Act.eval, go_sem, htt]⟩) hS ?_
              simp only [List.setIfInBounds_toArray, List.set_cons_succ, List.set_cons_zero]
              refine held_take (i := 31) (t := 168) (v := (.bool false)) (fuel := 0) rfl rfl (by kernel_rfl) (by kernel_rfl) (by kernel_rfl) (fun _ _ _ h => h) (.inl ⟨rfl, fun W hW => by obtain ⟨⟨w1, w2, w3, w4, w5_⟩, w6_⟩ := hW; simp [execOp, Act.eval, go_sem]⟩) hS ?_
              simp only [List.setIfInBounds_toArray, List.set_cons_succ, List.set_cons_zero]
              refine wpAnyH_done (by kernel_rfl) ?_ 0
              unfold noPanic
              have r0 : wA.cell? ⟨rb, 0, none⟩ = some (.int .i64 (p : Int)) := hS1.1
              have r3 : wA.cell? ⟨nb, p, none⟩ = some (.int .i64 (a : Int)) := hS1.2.2.2.1
              have r4 : wA.frozen? ⟨nb, p, none⟩ = false := HC10.out.frozen p
              have r5 : nb < wA.heap.size := HC10.out.lt
              clear hS hS1 hS2 hbn2 q0 q1 q2 q3 q4 hbn hbf hcb2 hb10 hwA hgf cx0 cx1 cx2 hcp hcf
              go_wp2_with fail
              go_roundw
              case rel => exact ⟨j + 1, nj.set p ((a : Int) + 1), by go_num, hjl, by rw [List.length_set]; exact hnj, HSQ2, Lib.hid (HCN.out _ HC10.out), Lib.hid (HCH10.out.set (p := ⟨nb, p, none⟩) (.inl rfl) _), Lib.hid (HB10.out.setCell (p := ⟨nb, p, none⟩) (by rw [HNB.out]; exact Nat.le_refl _) _)⟩
              case measure => simp [intOf]; omega
            · obtain rfl : j = xs.length := by omega
              have hjl2 : ¬ (xs.length : Int) < (xs.length : Int) := by omega
              have hsq := HSQ.out
              rw [show (xs.map keyOf).drop xs.length = [] by rw [List.drop_eq_nil_of_le]; simp] at hsq
              have hnf : nj = fin := hsq
              subst hnf
              have HR9 := Lib.hid (show RowC rgCells 2 wr wr.heap.size (some ⟨D, 0, none⟩) pl from fun t ht => by
                obtain ⟨b2, off2, e, hlt, hc⟩ := HR8.out t ht
                have e2 : b2 = D := by injection e with e; injection e with e; exact e.symm
                refine ⟨b2, off2, e, Nat.lt_of_lt_of_le hlt HCH.out.size, fun i x hx => (World.cell?_of_block (a := ⟨b2, _, none⟩) (HCH.out.block b2 hlt (fun e3 => hDn (e2.symm.trans e3)))).trans (hc i x hx)⟩)
              clear hsq
              by_cases hx0 : xs.length = 0
              · have hx1 : ((xs.length : Int) == 0) = true := by rw [hx0]; rfl
                have hx2 : (xs.length : Int) = 0 := by omega
                have HFIN := Lib.hid (show ∀ k, k < N → nj[k]? = some (cN k : Int) from fun k hk => by
                  have hp := HFOL.out.1.len
                  have hk2 : k < ps.length := by rw [HPN.out]; exact hk
                  rw [HSTEP.out.at_ k (by omega), HSTEP.out.none_ hx0 k (by omega) hk2, HFULL.out.dur k hk2])
                clear hx0
                go_wp2_with fail
                obtain ⟨w9, rfl⟩ : ∃ w9, w9 = wr := ⟨_, rfl⟩
                go_loopw [23] (fun kv wr => ∃ k : Nat, kv = .int .i64 (k : Int) ∧ k ≤ min cs.length 4 ∧ Hid (Below w9.heap.size w9 wr)) (fun kv _ => 4 - (intOf kv).toNat)
                case atStart => exact ⟨0, rfl, Nat.zero_le _, Lib.hid (Below.refl _ _)⟩
                case round =>
                  obtain ⟨k, rfl, hk, HBk⟩ := hrel
                  by_cases hlt : k < min cs.length 4
                  · have hk1 : k < cs.length := by omega
                    have hk2 : (k : Int) < (cs.length : Int) := by omega
                    have hk3 : (k : Int) < 4 := by omega
                    have hk4 : k < 4 := by omega
                    have hxc := HCAT.out k hk1
                    have hb19 : Below w.heap.size w wr := HB1.out.trans (((HB5.out.trans (HB9.out.mono HB5.out.size)).trans (HBk.out.mono (Nat.le_trans HB5.out.size HB9.out.size))).mono HB1.out.size)
                    obtain ⟨b0, off0, hA0, hb0, hcell⟩ := kC_r (HR0.out.below hb19) k hk1
                    have hkn : k < nj.length := by omega
                    have hcn := (show Cells wr nb (iA nj) 44 from (HBk.out.block nb HCJ.out.lt).trans HCJ.out).iat hkn
                    have hv : nj[k] = (cN k : Int) := by have := HFIN.out k (by have := HND.out; omega); rw [List.getElem?_eq_getElem hkn] at this; exact Option.some.inj this
                    rw [hv] at hcn
                    obtain ⟨x, hx⟩ : ∃ x, cs[k] = x := ⟨_, rfl⟩
                    obtain ⟨cc, hcc⟩ : ∃ x, cN k = x := ⟨_, rfl⟩
                    have hx0c := (HCS.out _ (List.getElem_mem hk1)).1
                    rw [hx] at hcell hxc hx0c
                    have hc31 := HC31.out k
                    rw [hcc] at hcn hxc hc31
                    have htm : wrap64 (x.tmod 32) = (cc : Int) := by rw [Int.tmod_eq_emod_of_nonneg hx0c, hxc]; exact IntWalk.wrap64_in _ ⟨by omega, by omega⟩
                    have hcn3 : ((cc : Int) != wrap64 (x.tmod 32)) = false := by rw [htm]; simp
                    have hcn4 : decide ((cc : Int) = wrap64 (x.tmod 32)) = true := by rw [htm]; simp
                    have hcn5 : ((cc : Int) == wrap64 (x.tmod 32)) = true := by rw [htm]; simp
                    subst hA0
                    clear hx hcc hv hb19
                    go_wp2_with fail
                    go_quiet (fail)
                    go_wp2_with fail
                    all_goals first | exact ⟨⟨k + 1, by go_num, by omega, Lib.hid (below_more HBk.out _)⟩, by simp [intOf]; omega⟩ | trace_state
                  · have hend3 : ¬ ((k : Int) < (cs.length : Int)) ∨ ((k : Int) < (cs.length : Int) ∧ ¬ (k : Int) < 4) := by omega
                    rcases hend3 with hend3 | ⟨hend3, hend4⟩
                    all_goals go_wp2_with fail
                    all_goals go_ret
                    all_goals exact ⟨rfl, HB1.out.trans (((HB5.out.trans (HB9.out.mono HB5.out.size)).trans (HBk.out.mono (Nat.le_trans HB5.out.size HB9.out.size))).mono HB1.out.size)⟩
              · have hx1 : ((xs.length : Int) == 0) = false := by rw [beq_eq_false_iff_ne]; omega
                have hx3 : decide ((xs.length : Int) = 0) = false := decide_eq_false (by omega)
                have HX0 := Lib.hid hx0
                clear hx0
                go_wp2_with fail
                go_roundw
                case rel => exact ⟨i + 1, nj, pl, _, _, rfl, by go_num, Lib.hid ⟨HR9.out, HSTEP.out.ok, hnj, HSTEP.out.at_, HCJ.out, HSTEP.out.rem HX0.out, HB9.out⟩⟩
                case measure => simp [intOf]; omega
theorem sall_so (cs ms : List Int) (hcs : ∀ x ∈ cs, 0 ≤ x ∧ x ≤ 255) (hms : ∀ x ∈ ms, 0 ≤ x ∧ x ≤ 65535) (A0 A1 : Option Addr) (c0 c1 : Nat) (hmax0 : cs.length ≤ 9223372036854775807) (hmax1 : ms.length ≤ 9223372036854775807) (w : World) (hA : RowC (kC .u8) 1 w w.heap.size A0 cs) (hA1 : RowC (kC .u16) 1 w w.heap.size A1 ms) (hT : Tab w.heap.size w) :
    Calls Tryz.prog 5 #[.slice A0 cs.length c0, .slice A1 ms.length c1] w fun e w' => e = .returned (.bool true) ∧ Below w.heap.size w w' := by
  by_cases h : 0 < ms.length
  · exact sall_b cs ms hcs hms A0 A1 c0 c1 hmax0 hmax1 h w hA hA1 hT
  · have h0 : ms.length = 0 := by omega
    rw [h0]
    exact sall_a cs ms hcs hms A0 A1 c0 c1 hmax0 hmax1 w hA hA1 hT
end Go.Proofs.YtkcnmajjfljilaaGreatDoor
