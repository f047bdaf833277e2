/- Layer 12: the fields of a record (the whole law). -/
import Derived.Test.YtfkfgabepjpdlaaDoorDecW11
import Derived.Test.YtfkfgabepjpdlaaDoorDecL1
namespace Go.Proofs.YtfkfgabepjpdlaaDoor
open Go.ChangeShapes Go.WideShapes Go.ChangeAt Go.RowKit
set_option linter.unusedVariables false

theorem splitS_any (s : ByteArray) (hs : s.size ≤ 68719476736) (w : World) :
    Calls Tryd.prog 20 #[.string s] w (StrsPost ((splitL s.data.toList).map txt) w) := by
  have h := upToS_any 9223372036854775807 (Nat.le_refl _) s hs w
  rw [List.take_of_length_le (by have h1 := (splitT_len false [] s.data.toList).2; have h2 := size_eq s; unfold splitL; omega)] at h
  have HU := Lib.hid h
  clear h
  go_enter Tryd.func20, Tryd.ntmps20
  go_wp2_with (go_at_call 27; refine HU.out.mono ?_; rintro e w1 ⟨A, n, c, rfl, hn, ho, hb⟩; have HN := Lib.hid hn; have HO := Lib.hid ho; have HB := Lib.hid hb; clear hn ho hb)
  go_ret
  exact ⟨A, n, c, rfl, HN.out, HO.out, HB.out⟩
theorem splitB_any (l : List UInt8) (A0 : Option Addr) (n0 c0 : Nat) (hn : n0 = l.length) (hs : n0 ≤ 16777216) (hc : n0 ≤ c0) (hcm : c0 ≤ maxLen) (w : World) (hb : BytesAt w w.heap.size A0 l) :
    Calls Tryd.prog 21 #[.slice A0 n0 c0] w (BxsPost (splitL l) w) := by
  have HU := Lib.hid (upToB_any 9223372036854775807 l A0 n0 c0 hn hs (by omega) hc hcm w hb)
  clear hn hs hc hcm hb
  go_enter Tryd.func21, Tryd.ntmps21
  go_wp2_with (go_at_call 31; refine HU.out.mono ?_; rintro e w1 ⟨A, n, c, xs, rfl, hn, hx, ho, he, hb⟩; have HN := Lib.hid hn; have HX := Lib.hid hx; have HO := Lib.hid ho; have HE := Lib.hid he; have HB := Lib.hid hb; clear hn hx ho he hb)
  go_ret
  exact ⟨A, n, c, xs, rfl, HN.out, HX.out, HO.out, HE.out, HB.out⟩
theorem bxs_at {w : World} {A : Option Addr} {n c : Nat} {xs : List Bx} {base : Nat} (ho : w.ownsRow base 35 1 (.slice A n c) n (xs.flatMap bxCells)) : RowC bxCells 1 w w.heap.size A xs :=
  (RowC.own bxCells_length (by decide) ho).2
theorem bxs_cell {w : World} {B : Nat} {A : Option Addr} {l : List Bx} (h : RowC bxCells 1 w B A l) (k : Nat) (hk : k < l.length) : ∃ b off, A = some ⟨b, off, none⟩ ∧ b < B ∧ w.cell? ⟨b, off + k, none⟩ = some (.slice l[k].a l[k].l.length l[k].c) := by
  obtain ⟨b, off, e, hlt, hc⟩ := h k hk
  have := hc 0 _ rfl
  rw [Nat.mul_one, Nat.add_zero] at this
  exact ⟨b, off, e, hlt, this⟩
set_option maxHeartbeats 2000000 in
set_option maxRecDepth 20000 in
theorem splits_law (s : ByteArray) (hs : s.size ≤ 9223372036854775807) (w : World) (hE : Env w.heap.size w) :
    Calls Tryd.prog 5 #[.string s] w fun e w' => e = .returned (.bool true) ∧ Below w.heap.size w w' := by
  have HAL := Lib.hid (alive_any w hE (Nat.le_refl _))
  clear hE
  by_cases h4 : 4000 < s.size
  · have q1 : decide ((4000 : Int) < (s.size : Int)) = true := decide_eq_true (by omega)
    go_enter Tryd.func5, Tryd.ntmps5
    go_wp2_with (go_at_call 8; refine HAL.out.mono ?_; rintro e w1 ⟨rfl, hb1⟩; have HB1 := Lib.hid hb1; clear hb1)
    go_ret
    exact ⟨rfl, HB1.out⟩
  · have q1 : decide ((4000 : Int) < (s.size : Int)) = false := decide_eq_false (by omega)
    have HR := Lib.hid (rsplit_any s (by omega))
    have HS := Lib.hid (splitS_any s (by omega))
    have HLB := Lib.hid (fun W => laid_bytes s W (grownCap W s.size 0 5) 5 ((bytesRow s (grownCap W s.size 0 5)).size, (bytesRow s (grownCap W s.size 0 5)).size + 1))
    have HGC := Lib.hid (fun (W : World) => show s.size ≤ grownCap W s.size 0 5 ∧ grownCap W s.size 0 5 ≤ maxLen from ⟨grownCap_ge _ _ _ _, grownCap_le_maxLen _ _ _ _ (by unfold maxLen; omega)⟩)
    have hcv := fun W => run_bytes_of_string (P := Tryd.prog) W 9 35 5 s Tryd.underlying9 Tryd.underlying35 Tryd.underlying5
    have HSZ := Lib.hid (size_eq s)
    have HSB := Lib.hid (fun W => splitB_any s.data.toList (some ⟨W.heap.size, 0, none⟩) s.size (grownCap W s.size 0 5) HSZ.out (by omega) (HGC.out W).1 (HGC.out W).2 _ (HLB.out W))
    obtain ⟨l, hl⟩ : ∃ l, s.data.toList = l := ⟨_, rfl⟩
    rw [hl] at HSB HR HS
    obtain ⟨fs, hfs⟩ : ∃ fs, splitL l = fs := ⟨_, rfl⟩
    rw [hfs] at HSB HR HS
    obtain ⟨m, hm⟩ : ∃ m, fs.length = m := ⟨_, rfl⟩
    have HM := Lib.hid hm
    have hm63 : m ≤ 9223372036854775806 := by
      have h1 := (splitT_len false [] l).2
      unfold splitL at hfs
      rw [hfs, hm, ← hl, ← size_eq] at h1
      omega
    clear hl hfs hm h4
    go_enter Tryd.func5, Tryd.ntmps5
    go_wp2_with (first
      | (go_at_call 8; refine HAL.out.mono ?_; rintro e w1 ⟨rfl, hb1⟩; have HB1 := Lib.hid hb1; clear hb1)
      | (go_at_call 19; refine (HR.out _).mono ?_; rintro e w2 ⟨A2, n2, c2, rfl, hn2, ho2, hb2⟩; have HB2 := Lib.hid hb2; have HO2 := Lib.hid ho2; rw [List.length_map, HM.out] at hn2; replace hn2 := hn2.symm; subst hn2; clear ho2 hb2)
      | (go_at_call 20; refine (HS.out _).mono ?_; rintro e w3 ⟨A3, n3, c3, rfl, hn3, ho3, hb3⟩; have HB3 := Lib.hid hb3; have HO3 := Lib.hid ho3; rw [List.length_map, HM.out] at hn3; replace hn3 := hn3.symm; subst hn3; clear ho3 hb3)
      | (go_at_call 21; refine (HSB.out _).mono ?_; rintro e w4 ⟨A4, n4, c4, xs, rfl, hn4, hx4, ho4, he4, hb4⟩; have HB4 := Lib.hid hb4; have HO4 := Lib.hid ho4; have HX4 := Lib.hid hx4; have HE4 := Lib.hid he4; rw [HM.out] at hn4; replace hn4 := hn4.symm; subst hn4; clear ho4 hb4 hx4 he4))
    have HB3' := Lib.hid (hop0 HB2.out HB3.out)
    have HBX := Lib.hid (show Below w3.heap.size w3 w4 from (((Below.refl _ w3).alloc (Nat.le_refl _) _).drew).trans (HB4.out.mono (by show _ ≤ (w3.alloc _).heap.size; simp)))
    have HRC2 := Lib.hid (((RowC.own sCells_length (by decide) HO2.out).2.below HB3.out).below (HBX.out.mono HB3.out.size))
    have HRC3 := Lib.hid ((RowC.own sCells_length (by decide) HO3.out).2.below HBX.out)
    have HRC4 := Lib.hid (bxs_at HO4.out)
    have h23 := HB3.out.size
    have h34 := HBX.out.size
    have HBW := Lib.hid (hop0 HB1.out (hop0 HB3'.out HBX.out))
    have HQ := Lib.hid (show w2.heap.size ≤ w4.heap.size ∧ w3.heap.size ≤ w4.heap.size from ⟨by omega, h34⟩)
    clear hcv h23 h34
    go_loopw [6] (fun iv wr => ∃ k : Nat, iv = .int .i64 (k : Int) ∧ k ≤ m ∧ Hid (Below w4.heap.size w4 wr)) (fun iv _ => m - (intOf iv).toNat)
    case atStart => exact ⟨0, rfl, Nat.zero_le _, Lib.hid (Below.refl _ _)⟩
    case round =>
      obtain ⟨k, rfl, hk, HBR⟩ := hrel
      by_cases hlt : k < m
      · have hkf : k < fs.length := by rw [HM.out]; exact hlt
        have hkx : k < xs.length := by have := congrArg List.length HX4.out; simp at this; omega
        obtain ⟨b2, off2, rfl, hB2, d2⟩ := strs_cell ((HRC2.out.below (HBR.out.mono HQ.out.1))) k (by rw [List.length_map]; exact hkf)
        obtain ⟨b3, off3, rfl, hB3, d3⟩ := strs_cell ((HRC3.out.below (HBR.out.mono HQ.out.2))) k (by rw [List.length_map]; exact hkf)
        obtain ⟨b4, off4, rfl, hB4, d4⟩ := bxs_cell (HRC4.out.below HBR.out) k hkx
        rw [List.getElem_map] at d2 d3
        obtain ⟨f, HF⟩ : ∃ f, Hid (fs[k] = f) := ⟨_, Lib.hid rfl⟩
        obtain ⟨x, HX⟩ : ∃ x, Hid (xs[k] = x) := ⟨_, Lib.hid rfl⟩
        rw [HF.out] at d2 d3
        rw [HX.out] at d4
        have hxl : x.l = f := by
          rw [← HF.out, ← HX.out]
          have h1 := HX4.out
          have h2 : (xs.map Bx.l)[k]? = fs[k]? := by rw [h1]
          rw [List.getElem?_eq_getElem (by simpa using hkx), List.getElem?_eq_getElem hkf, List.getElem_map] at h2
          exact Option.some.inj h2
        have HEB := Lib.hid ((HE4.out x (by rw [← HX.out]; exact List.getElem_mem hkx)).bytes)
        rw [hxl] at d4 HEB
        have hcvb := fun j => string_of_bytes x.a f.length x.c f (wr.drewN j) rfl ((HEB.out.below (below_more HBR.out j)).more (show w4.heap.size ≤ (wr.drewN j).heap.size from HBR.out.size))
        have hcvb0 := string_of_bytes x.a f.length x.c f wr rfl ((HEB.out.below HBR.out).more HBR.out.size)
        have hcvb1 := string_of_bytes x.a f.length x.c f wr.drew rfl ((HEB.out.below HBR.out.drew).more (show w4.heap.size ≤ wr.drew.heap.size from HBR.out.size))
        have i1 : (0 : Int) ≤ (k : Int) := by omega
        have i2 : (k : Int) < (m : Int) := by omega
        have hq : ((txt f).toList == (txt f).toList) = true := by simp
        clear hxl
        go_wp2_with fail
        go_quiet (fail)
        have HBN := Lib.hid (below_more HBR.out nq)
        go_wp2
        go_roundw
        case rel => exact ⟨k + 1, by go_num, by omega, HBN⟩
        case measure => simp [intOf]; omega
      · go_wp2
        go_ret
        exact ⟨rfl, hop0 HBW.out HBR.out⟩
end Go.Proofs.YtfkfgabepjpdlaaDoor
