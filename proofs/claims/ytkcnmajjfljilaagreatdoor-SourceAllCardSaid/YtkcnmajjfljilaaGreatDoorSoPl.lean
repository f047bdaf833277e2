/- source: check, Plan while the power is on. -/
import Derived.Test.YtkcnmajjfljilaaGreatDoorSoRk
namespace Go.Proofs.YtkcnmajjfljilaaGreatDoor
open Go Go.ChangeShapes Go.WideShapes Go.ChangeAt Go.RowKit Go.ChangeMaps Go.MapKept
set_option linter.unusedVariables false
set_option linter.unusedSimpArgs false

/-- Ranges from which it goes on. -/
structure Wasok (ps : List Pt) (l : List Rg) : Prop where
  right : rightB l = true
  len : l.length = ps.length
  le : ∀ k (h : k < l.length) (h2 : k < ps.length), l[k].t ≤ ps[k].dur
theorem Wasok.at_ {ps : List Pt} {l : List Rg} (h : Wasok ps l) {k : Nat} (hk : k < l.length) : 0 ≤ l[k].f ∧ l[k].f ≤ l[k].t ∧ l[k].t ≤ 1099511627776 := (okB_iff _).1 ((right_parts h.right).2.2 _ (List.getElem_mem hk))
def heapsL (ps : List Pt) (l : List Rg) : List Int := List.zipWith (fun (p : Pt) (r : Rg) => p.dur - r.t) ps l
def planN (ps : List Pt) (l : List Rg) (most : Int) : List Int := dealL (heapsL ps l) (rW (heapsL ps l) most) (rM (heapsL ps l) most)
def planL (ps : List Pt) (l : List Rg) (most : Int) : List Rg := List.zipWith (fun (r : Rg) (n : Int) => (⟨r.t, r.t + n⟩ : Rg)) l (planN ps l most)
section
variable {ps : List Pt} {l : List Rg} {most : Int}
theorem heapsL_length (h : l.length = ps.length) : (heapsL ps l).length = ps.length := by simp [heapsL, h]
theorem heapsL_at {k : Nat} (h1 : k < ps.length) (h2 : k < l.length) (h3 : k < (heapsL ps l).length) : (heapsL ps l)[k] = ps[k].dur - l[k].t := by simp [heapsL]
theorem planN_length (h : l.length = ps.length) : (planN ps l most).length = ps.length := by rw [planN, dealL_length, heapsL_length h]
theorem planL_length (h : l.length = ps.length) : (planL ps l most).length = ps.length := by simp [planL, planN_length h, h]
theorem planL_at (h : l.length = ps.length) {k : Nat} (h1 : k < ps.length) (h2 : k < l.length) (h3 : k < (planN ps l most).length) (h4 : k < (planL ps l most).length) : (planL ps l most)[k] = ⟨l[k].t, l[k].t + (planN ps l most)[k]⟩ := by simp [planL]
theorem planN_in (h : l.length = ps.length) {k : Nat} (h1 : k < ps.length) (h2 : k < l.length) (h3 : k < (planN ps l most).length) : 0 ≤ (planN ps l most)[k] ∧ (planN ps l most)[k] ≤ max (ps[k].dur - l[k].t) 0 := by
  have hh : k < (heapsL ps l).length := by rw [heapsL_length h]; exact h1
  have := deal_in (rfit (heapsL ps l) most) hh (List.getElem?_eq_getElem h3)
  rwa [heapsL_at h1 h2 hh] at this
end
def hkL (ps : List Pt) (l : List Rg) (k : Nat) : List Int := (heapsL ps l).take k ++ (durs ps).drop k
theorem hkL_zero (ps : List Pt) (l : List Rg) : hkL ps l 0 = durs ps := by simp [hkL]
theorem hkL_length {ps : List Pt} {l : List Rg} (h : l.length = ps.length) (k : Nat) : (hkL ps l k).length = ps.length := by
  unfold hkL; rw [List.length_append, List.length_take, List.length_drop, heapsL_length h, durs_length]; omega
theorem hkL_at {ps : List Pt} {l : List Rg} (h : l.length = ps.length) {k : Nat} (hk : k < ps.length) (h2 : k < (hkL ps l k).length) : (hkL ps l k)[k] = ps[k].dur := by
  have hl : ((heapsL ps l).take k).length = k := by rw [List.length_take, heapsL_length h]; omega
  have e : (hkL ps l k)[k]? = some ps[k].dur := by
    unfold hkL
    rw [List.getElem?_append_right (by omega), hl, Nat.sub_self, List.getElem?_drop, Nat.add_zero]
    simp [durs, hk]
  rw [List.getElem?_eq_getElem h2] at e
  exact Option.some.inj e
theorem hkL_next {ps : List Pt} {l : List Rg} (h : l.length = ps.length) {k : Nat} (hk : k < ps.length) (hk2 : k < l.length) : (hkL ps l k).set k (ps[k].dur - l[k].t) = hkL ps l (k + 1) := by
  have hl : ((heapsL ps l).take k).length = k := by rw [List.length_take, heapsL_length h]; omega
  have hh : k < (heapsL ps l).length := by rw [heapsL_length h]; exact hk
  have hlt : k < (durs ps).length := by rw [durs_length]; exact hk
  unfold hkL
  rw [List.set_append_right _ _ (by omega), hl, Nat.sub_self, List.drop_eq_getElem_cons hlt, List.set_cons_zero, List.take_add_one, List.getElem?_eq_getElem hh, heapsL_at hk hk2 hh]
  simp
theorem hkL_all {ps : List Pt} {l : List Rg} (h : l.length = ps.length) : hkL ps l ps.length = heapsL ps l := by
  unfold hkL
  rw [List.drop_of_length_le (by rw [durs_length]; exact Nat.le_refl _), List.append_nil, List.take_of_length_le (by rw [heapsL_length h]; exact Nat.le_refl _)]
theorem make_rg (n : Nat) (hn : n ≤ 4) (W : World) : (Instr.makeSlice 42 (.int .i64 (n : Int)) (.int .i64 (n : Int))).run Tryz.prog W = .ok (.slice (some ⟨W.heap.size, 0, none⟩) n n) (W.alloc (.cells (madeCells #[.int .i64 0, .int .i64 0] (n * 2)) 59)) := by
  obtain ⟨i0, hi, hz0, hz1, hz2⟩ := info_parts infoRg
  have h := run_make (P := Tryz.prog) W 42 59 i0 _ Tryz.underlying42 hi hz0 .i64 .i64 (n : Int) (n : Int) (by omega) (by omega) (by rw [hz2]; omega) (by omega)
  rw [hz1] at h
  simp only [Int.toNat_natCast] at h
  rw [h]
  rfl
theorem rg_r {w : World} {B : Nat} {A : Option Addr} {l : List Rg} (h : RowC rgCells 2 w B A l) (k : Nat) (hk : k < l.length) : ∃ b off, A = some ⟨b, off, none⟩ ∧ b < B ∧ w.cell? ⟨b, off + k * 2, none⟩ = some (.int .i64 l[k].f) ∧ w.cell? ⟨b, off + k * 2 + 1, none⟩ = some (.int .i64 l[k].t) := by
  obtain ⟨b, off, h1, h2, h3⟩ := h k hk
  exact ⟨b, off, h1, h2, h3 0 _ rfl, h3 1 _ rfl⟩
section
variable {Q : Nat → Prop} {B s f M : Nat} {room used size : Int} {ps : List Pt} {S : Fs} {w w' : World} {l : List Rg}
set_option maxRecDepth 100000 in
set_option maxHeartbeats 4000000 in
theorem check_src (h : Src Q B s f room used M size ps S w) (hw : Wasok ps l) (A : Option Addr) (c : Nat) (hat : RowC rgCells 2 w w.heap.size A l) :
    Calls Tryz.prog 30 #[.pointer (some ⟨s, 0, none⟩), .slice A ps.length c] w fun e w' => e = .returned (.int .i64 0) ∧ Below w.heap.size w w' := by
  have hl := h.len
  have HCK := Lib.hid (check_walk l A ps.length c w hw.len.symm (by unfold maxLen; omega) hat)
  rw [hw.right] at HCK
  have HSRC := Lib.hid h
  have HW := Lib.hid hw
  have HA := Lib.hid hat
  have hne : ((ps.length : Int) != (ps.length : Int)) = false := by simp
  have HLEN := Lib.hid hw.len
  clear h hw hat
  go_enter Tryz.func30, Tryz.ntmps30
  go_wp2_with (first
    | (go_at_call 48; go_loud (refine HCK.out.mono ?_; rintro e w1 ⟨rfl, h1⟩; have HB1 := Lib.hid h1; have c4 : w1.cell? ⟨s, 4, none⟩ = some (.int .i64 (ps.length : Int)) := (HSRC.out.below h1).cells.cell 4; rw [show chkO true = 0 from rfl]; clear h1))
    | (go_at_call 20; go_loud (refine (ends_src (HSRC.out.below HB1.out)).mono ?_; rintro e w2 ⟨D, rfl, hd1, hd2, hd3⟩; have HC2 := Lib.hid hd2; have HB2 := Lib.hid (HB1.out.trans (hd3.mono HB1.out.size)); clear hd1 hd2 hd3)))
  go_loopw [22] (fun iv wr => ∃ k : Nat, iv = .int .i64 (k : Int) ∧ k ≤ ps.length ∧ wr = w2) (fun iv _ => ps.length - (intOf iv).toNat)
  case atStart => exact ⟨0, rfl, Nat.zero_le _, rfl⟩
  case round =>
    obtain ⟨k, rfl, hk, rfl⟩ := hrel
    by_cases hlt : k < ps.length
    · have hkl : k < l.length := by rw [HLEN.out]; exact hlt
      obtain ⟨b, off, rfl, hb, r0, r1⟩ := rg_r (HA.out.below HB2.out) k hkl
      have hd := HC2.out.iat (k := k) (by rw [durs_length]; exact hlt)
      have hdk : (durs ps)[k]'(by rw [durs_length]; exact hlt) = ps[k].dur := by simp [durs]
      rw [hdk] at hd
      have hle := HW.out.le k hkl hlt
      obtain ⟨t, ht⟩ : ∃ t, l[k].t = t := ⟨_, rfl⟩
      obtain ⟨d, hd0⟩ : ∃ t, ps[k].dur = t := ⟨_, rfl⟩
      rw [ht] at r1 hle
      rw [hd0] at hd hle
      have e1 : ¬ d < t := by omega
      have hlt2 : (k : Int) < (ps.length : Int) := by omega
      clear ht hd0 hdk hle
      go_wp2_with fail
      go_roundw
      case rel => exact ⟨k + 1, by go_num, hlt, trivial⟩
      case measure => simp [intOf]; omega
    · obtain rfl : k = ps.length := by omega
      have hlt2 : ¬ (ps.length : Int) < (ps.length : Int) := by omega
      go_wp2_with fail
      go_ret
      exact ⟨rfl, HB2.out⟩
def PlanPost (ps : List Pt) (l : List Rg) (most : Int) (w : World) (e : Ending) (w' : World) : Prop :=
  ∃ D, e = .returned (.tuple #[.slice (some ⟨D, 0, none⟩) ps.length ps.length, .int .i64 0]) ∧ w.heap.size ≤ D ∧ RowC rgCells 2 w' w'.heap.size (some ⟨D, 0, none⟩) (planL ps l most) ∧ Below w.heap.size w w'
set_option maxRecDepth 100000 in
set_option maxHeartbeats 8000000 in
theorem plan_src (h : Src Q B s f room used M size ps S w) (hw : Wasok ps l) (A : Option Addr) (c : Nat) (hat : RowC rgCells 2 w w.heap.size A l) (most : Int) (hm : 1 ≤ most ∧ most ≤ 1024) :
    Calls Tryz.prog 16 #[.pointer (some ⟨s, 0, none⟩), .slice A ps.length c, .int .i64 most] w (PlanPost ps l most w) := by
  have hl := h.len
  have HCK := Lib.hid (check_src h hw A c hat)
  have HSRC := Lib.hid h
  have HW := Lib.hid hw
  have HA := Lib.hid hat
  have HLEN := Lib.hid hw.len
  have m1 : ¬ most < 1 := by omega
  have m2 : ¬ 1024 < most := by omega
  have hmk := fun W => make_rg ps.length hl W
  have hfew := h.logs.few
  have HFEW := Lib.hid hfew
  have HDE := Lib.hid (fun c2 A2 W (hr : RowC iC 1 W W.heap.size A2 (heapsL ps l)) => deal_l (heapsL ps l) (fun x hx => by
    obtain ⟨i, hi, rfl⟩ := List.getElem_of_mem hx
    have hi2 : i < ps.length := by rw [heapsL_length hw.len] at hi; exact hi
    have hi3 : i < l.length := by rw [hw.len]; exact hi2
    rw [heapsL_at hi2 hi3 hi]
    have h1 := hfew i hi2
    have h2 := hw.at_ hi3
    have h3 := hw.le i hi3 hi2
    omega) (by rw [heapsL_length hw.len]; omega) c2 A2 most (by omega) W hr)
  rw [heapsL_length HLEN.out] at HDE
  clear h hw hat hfew hm
  go_enter Tryz.func16, Tryz.ntmps16
  go_wp2_with (first
    | (go_at_call 30; go_loud (refine HCK.out.mono ?_; rintro e w1 ⟨rfl, h1⟩; have HB1 := Lib.hid h1; clear h1))
    | (go_at_call 20; go_loud (refine (ends_src (HSRC.out.below HB1.out)).mono ?_; rintro e w2 ⟨D, rfl, hd1, hd2, hd3⟩; have HD := Lib.hid (Nat.le_trans HB1.out.size hd1); have HC2 := Lib.hid hd2; have HB2 := Lib.hid (HB1.out.trans (hd3.mono HB1.out.size)); clear hd1 hd2 hd3)))
  go_loopw [34] (fun iv wr => ∃ k : Nat, iv = .int .i64 (k : Int) ∧ k ≤ ps.length ∧ Hid (Cells wr D (iA (hkL ps l k)) 2) ∧ Hid (Below w.heap.size w wr)) (fun iv _ => ps.length - (intOf iv).toNat)
  case atStart => exact ⟨0, rfl, Nat.zero_le _, Lib.hid (by rw [hkL_zero]; exact HC2.out), HB2⟩
  case round =>
    obtain ⟨k, rfl, hk, HC, HB⟩ := hrel
    by_cases hlt : k < ps.length
    · have hkl : k < l.length := by rw [HLEN.out]; exact hlt
      obtain ⟨b, off, rfl, hb, r0, r1⟩ := rg_r (HA.out.below HB.out) k hkl
      have hkk : k < (hkL ps l k).length := by rw [hkL_length HLEN.out]; exact hlt
      have hd := HC.out.iat hkk
      rw [hkL_at HLEN.out hlt hkk] at hd
      have hdf := HC.out.frozen k
      have hle := HW.out.le k hkl hlt
      have hok := HW.out.at_ hkl
      have hfw := HFEW.out k hlt
      have HN := Lib.hid (fun (W : World) (hc : Cells W D (iA (hkL ps l k)) 2) => (show Cells (W.setCell ⟨D, k, none⟩ (.int .i64 (ps[k].dur - l[k].t))) D (iA (hkL ps l (k + 1))) 2 by rw [← hkL_next HLEN.out hlt hkl]; exact hc.iset k _))
      obtain ⟨ff, hf⟩ : ∃ t, l[k].f = t := ⟨_, rfl⟩
      obtain ⟨t, ht⟩ : ∃ t, l[k].t = t := ⟨_, rfl⟩
      obtain ⟨d, hd0⟩ : ∃ t, ps[k].dur = t := ⟨_, rfl⟩
      rw [hf] at r0 hok
      rw [ht] at r1 hle hok HN
      rw [hd0] at hd hle hfw HN
      have s1 : IntKind.i64.wrap (d - t) = d - t := wrap_id (by omega)
      have hlt2 : (k : Int) < (ps.length : Int) := by omega
      have hDW : D < wr.heap.size := HC.out.lt
      have hbW : b < wr.heap.size := Nat.lt_of_lt_of_le hb HB.out.size
      clear hf ht hd0 hkl hle hok hfw hkk
      go_wp2_with fail
      go_region
      all_goals go_wp2_with fail
      all_goals exact ⟨⟨k + 1, by go_num, hlt, Lib.hid ((HN.out _ HC.out).alloc _), Lib.hid (((HB.out.setCell (p := ⟨D, k, none⟩) HD.out _).alloc (by have := HB.out.size; simpa using this) _).drew)⟩, by simp [intOf]; omega⟩
    · obtain rfl : k = ps.length := by omega
      have hlt2 : ¬ (ps.length : Int) < (ps.length : Int) := by omega
      have hc := HC.out
      rw [hkL_all HLEN.out] at hc
      have HC3 := Lib.hid hc
      have c4 : wr.cell? ⟨s, 4, none⟩ = some (.int .i64 (ps.length : Int)) := (HSRC.out.below HB.out).cells.cell 4
      have hDW : D < wr.heap.size := hc.lt
      clear hc
      obtain ⟨Mc, hMc⟩ : ∃ Mc, madeCells #[.int .i64 0, .int .i64 0] (ps.length * 2) = Mc := ⟨_, rfl⟩
      have HM := Lib.hid hMc
      rw [hMc] at hmk
      clear hMc
      go_wp2_with (go_at_call 8; go_loud (refine (HDE.out ps.length (some ⟨D, 0, none⟩) _ (((show Cells (wr.alloc (.cells Mc 59)) D (iA (heapsL ps l)) 2 from HC3.out.alloc _).irow).more (by simp; omega))).mono ?_; rintro e w3 ⟨D3, rfl, hd1, hd2, hd3⟩; rw [heapsL_length HLEN.out]; have HC4 := Lib.hid hd2; have HB4 := Lib.hid (((HB.out.alloc HB.out.size _)).trans (hd3.mono (by have := HB.out.size; simp; omega))); have HD3 := Lib.hid hd1; have HBC := Lib.hid hd3; clear hd1 hd2 hd3))
      have hPL := planL_length (most := most) HLEN.out
      have HR0 := Lib.hid (own_below (World.ownsRow_lit (e := 59) (size := 2) wr Mc ps.length HB.out.size (by unfold maxLen; omega) (by rw [← HM.out, size_madeCells])) HBC.out)
      rw [← HM.out, made_rgs, show List.replicate ps.length noRg = rgK (planL ps l most) 0 by rw [rgK_zero, hPL]] at HR0
      have HG := Lib.hid HB.out.size
      have hDg : wr.heap.size < D3 := by have := HD3.out; simp at this; omega
      have HPN := Lib.hid (show Cells w3 D3 (iA (planN ps l most)) 2 from HC4.out)
      obtain ⟨g, hg⟩ : ∃ g, wr.heap.size = g := ⟨_, rfl⟩
      rw [hg] at HR0 HG hDg ⊢
      clear hg hmk HDE c4 HD3 HBC
      obtain ⟨w0, rfl⟩ : ∃ w0, w0 = wr := ⟨_, rfl⟩
      go_loopw [57] (fun iv wr => ∃ k : Nat, iv = .int .i64 (k : Int) ∧ k ≤ ps.length ∧ Hid (wr.ownsRow w.heap.size 59 2 (.slice (some ⟨g, 0, none⟩) ps.length ps.length) ps.length ((rgK (planL ps l most) k).flatMap rgCells)) ∧ Hid (Below w.heap.size w wr) ∧ Hid (Cells wr D3 (iA (planN ps l most)) 2)) (fun iv _ => ps.length - (intOf iv).toNat)
      case atStart => exact ⟨0, rfl, Nat.zero_le _, HR0, HB4, HPN⟩
      case round =>
        obtain ⟨k, rfl, hk, HO, HB5, HN5⟩ := hrel
        by_cases hlt : k < ps.length
        · have hkl : k < l.length := by rw [HLEN.out]; exact hlt
          obtain ⟨b, off, rfl, hb, r0, r1⟩ := rg_r (HA.out.below HB5.out) k hkl
          have hkn : k < (planN ps l most).length := by rw [planN_length HLEN.out]; exact hlt
          have hkp : k < (planL ps l most).length := by rw [hPL]; exact hlt
          have hd := HN5.out.iat hkn
          have hin := planN_in (most := most) HLEN.out hlt hkl hkn
          have hle := HW.out.le k hkl hlt
          have hok := HW.out.at_ hkl
          have hfw := HFEW.out k hlt
          have HX := Lib.hid (rgK_next hkp)
          rw [planL_at HLEN.out hlt hkl hkn hkp] at HX
          obtain ⟨t, ht⟩ : ∃ t, l[k].t = t := ⟨_, rfl⟩
          obtain ⟨n, hn⟩ : ∃ t, (planN ps l most)[k] = t := ⟨_, rfl⟩
          rw [ht] at r1 hle hok hin HX
          rw [hn] at hd hin HX
          have s1 : IntKind.i64.wrap (t + n) = t + n := wrap_id (by omega)
          have hlt2 : (k : Int) < (ps.length : Int) := by omega
          have hcl : ((rgK (planL ps l most) k).flatMap rgCells).length = ps.length * 2 := by rw [flat_length rgCells_length, rgK_len (by rw [hPL]; exact hk), hPL]
          have z0 := HO.out.frozenAt (k * 2)
          have z1 := HO.out.frozenAt (k * 2 + 1)
          obtain ⟨u0, y0⟩ : ∃ u, wr.cell? ⟨g, k * 2, none⟩ = some u := ⟨_, (HO.out.cellAt (k * 2) (by omega)).trans (List.getElem?_eq_getElem (by omega))⟩
          obtain ⟨u1, y1⟩ : ∃ u, wr.cell? ⟨g, k * 2 + 1, none⟩ = some u := ⟨_, (HO.out.cellAt (k * 2 + 1) (by omega)).trans (List.getElem?_eq_getElem (by omega))⟩
          have y2 : (wr.setCell ⟨g, k * 2, none⟩ (.int .i64 t)).cell? ⟨g, k * 2 + 1, none⟩ = some u1 := by rw [World.cell?_setCell_other _ _ _ _ (by simp)]; exact y1
          have hbg : b ≠ g := by have := HG.out; omega
          have HST := Lib.hid (((HO.out.stored (k * 2) (.int .i64 t)).1.stored (k * 2 + 1) (.int .i64 (t + n))).1)
          have HBL := Lib.hid ((HB5.out.setCell (p := ⟨g, k * 2, none⟩) HG.out (.int .i64 t)).setCell (p := ⟨g, k * 2 + 1, none⟩) HG.out (.int .i64 (t + n)))
          have HCN := Lib.hid (show Cells ((wr.setCell ⟨g, k * 2, none⟩ (.int .i64 t)).setCell ⟨g, k * 2 + 1, none⟩ (.int .i64 (t + n))) D3 (iA (planN ps l most)) 2 from (HN5.out.set_other (p := ⟨g, k * 2, none⟩) (by show D3 ≠ g; omega) _).set_other (p := ⟨g, k * 2 + 1, none⟩) (by show D3 ≠ g; omega) _)
          have hxs := rgflat_set (rgK (planL ps l most) k) k ⟨t, t + n⟩
          rw [HX.out, Nat.mul_comm 2 k] at hxs
          simp only at hxs
          have HXS := Lib.hid hxs
          clear ht hn hin hle hok hfw hcl hxs hkn hkp
          go_wp2_with fail
          exact ⟨⟨k + 1, by go_num, hlt, Lib.hid (by have := HST.out; rwa [HXS.out] at this), HBL, HCN⟩, by simp [intOf]; omega⟩
        · obtain rfl : k = ps.length := by omega
          have hlt2 : ¬ (ps.length : Int) < (ps.length : Int) := by omega
          have ho := HO.out
          rw [rgK_all (by rw [hPL]; exact Nat.le_refl _)] at ho
          have hrc := (RowC.own rgCells_length (by decide) ho).2
          have HRC := Lib.hid hrc
          clear ho hrc
          go_wp2_with fail
          refine bodyPost_ret (v := .tuple #[.slice (some ⟨g, 0, none⟩) ps.length ps.length, .int .i64 0]) (by simp [results, Tryz.results16, go_sem]) rfl ?_
          exact ⟨g, rfl, HG.out, HRC.out, HB5.out⟩
end
end Go.Proofs.YtkcnmajjfljilaaGreatDoor
