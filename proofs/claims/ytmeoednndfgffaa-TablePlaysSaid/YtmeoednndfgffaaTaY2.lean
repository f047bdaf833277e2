/- Layer 17: the law TablePlays, walked over what a table is asked. -/
import Derived.Test.YtmeoednndfgffaaTaYl
namespace Go.Proofs.Ytmeoednndfgffaa
attribute [local go_sem] Oper.semAt_some
open Go Go.ChangeShapes Go.WideShapes Go.ChangeAt Go.RowKit
set_option linter.unusedVariables false
set_option linter.unusedSimpArgs false
section
variable {TabS : Blks → Blks → World → Value → List Kp → Prop}
set_option maxHeartbeats 8000000 in
set_option maxRecDepth 100000 in
theorem plays_walk (HT : TabC TabS) (hal : ∀ W : World, Calls Try.prog 8 #[] W fun e w' => e = .returned (.bool true) ∧ Below W.heap.size W w') (l : List Oq) (n c : Nat) (A : Option Addr) (w : World) (hl : n = l.length) (hn : n ≤ maxLen) (hA : OqRow w w.heap.size A l) :
    Calls Try.prog 3 #[.slice A n c] w fun e w' => e = .returned (.bool true) ∧ Below w.heap.size w w' := by
  refine (callsIn_wide (n := 8)).1 ?_
  have HAL := Lib.hid hal
  have HLG := Lib.hid (fun (U : World) (hU : Below w.heap.size w U) => long_any l n c A U hl hn ((hA.below hU).more hU.size))
  have HNEW := Lib.hid (fun U : World => HT.new U)
  have HA := Lib.hid hA
  have HL := Lib.hid hl
  obtain ⟨W1, hW1⟩ : ∃ W1, w.alloc (.cells #[.bool false] 4) = W1 := ⟨_, rfl⟩
  have HS1 := Lib.hid (show W1.heap.size = w.heap.size + 1 by rw [← hW1]; simp)
  have HR1 := Lib.hid (show W1.heap[w.heap.size]? = some (.cells #[.bool false] 4) by rw [← hW1]; exact World.alloc_heap_new w _)
  have HB1 := Lib.hid (show Below w.heap.size w W1 by rw [← hW1]; exact (Below.refl _ w).alloc (Nat.le_refl _) _)
  have HW1 := Lib.hid hW1
  clear hal hl hn hA hW1
  refine callsIn_of_wp_marks Try.func3 rfl trivial ?_ rfl
  simp only [Try.ntmps3, List.size_toArray, List.length_cons, List.length_nil, Nat.reduceAdd, Nat.reduceSub, Array.replicate_succ, Array.replicate_zero, List.push_toArray, List.append_toArray, List.nil_append, List.cons_append]
  refine wpIn_wide.2 ?_
  go_wp2_with (first
    | (go_at_call 8; go_loud (rw [HW1.out]; refine (HAL.out _).mono ?_; rintro en w2 ⟨rfl, hb2⟩; have HB2 := Lib.hid (hop0 HB1.out hb2); have HR2 := Lib.hid ((hb2.block _ (lt_of_heap HR1.out)).trans HR1.out); clear hb2))
    | (go_at_call 9; go_loud (refine (HLG.out _ HB2.out).mono ?_; rintro en w3 ⟨b3, rfl, hq3, hb3⟩; have HB3 := Lib.hid (hop0 HB2.out hb3); have HR3 := Lib.hid ((hb3.block _ (lt_of_heap HR2.out)).trans HR2.out); have HQ3 := Lib.hid hq3; have r0 : w3.cell? ⟨w.heap.size, 0, none⟩ = some (.bool false) := (by simp [World.cell?, HR3.out]); have r1 : w3.frozen? ⟨w.heap.size, 0, none⟩ = false := (by simp [World.frozen?, HR3.out]); have r2 : w.heap.size < w3.heap.size := lt_of_heap HR3.out; have HS3 := Lib.hid r2; clear hb3 hq3; cases b3))
    | (go_at_call 10; go_loud (refine (HNEW.out _).mono ?_; rintro en w4 ⟨D4, R4, v4, rfl, ht4, hf4, hb4⟩; have HT4 := Lib.hid ht4; have HF4 := Lib.hid hf4; have HB4 := Lib.hid (hop0 HB3.out hb4); have HR4 := Lib.hid ((hb4.block _ (lt_of_heap HR3.out)).trans HR3.out); clear ht4 hf4 hb4 r0 r1 r2)))
  · have HP0 := Lib.hid (plays_start HT HT4.out HF4.out HB3.out HB4.out HR4.out HS3.out)
    obtain ⟨W5, hW5⟩ : ∃ W5, w4.alloc (.cells #[.slice none 0 0] 27) = W5 := ⟨_, rfl⟩
    obtain ⟨bm, hbm⟩ : ∃ bm, w4.heap.size = bm := ⟨_, rfl⟩
    rw [hW5, hbm] at HP0
    rw [hW5, hbm]
    have HNL := Lib.hid (HQ3.out trivial)
    clear hW5 hbm HT4 HF4 HB4 HR4 HB3 HR3 HB2 HR2 HQ3 HS3 HNEW HLG HAL HW1 HB1 HR1 HS1
    refine wp_loop (fun a' w' => ∃ (rs : List Nat) (v : Value) (m : List Kp) (A2 : Option Addr) (n2 c2 i : Nat) (u1 u6 u7 u8 u9 u10 u11 u12 u13 u14 u15 u16 u17 u18 u19 u20 u21 u22 u23 u24 u25 u26 u27 u28 u29 u30 u31 u32 u33 u34 u35 u36 u37 u38 u39 u40 u41 u42 u43 u44 u45 u46 u47 u48 u49 u50 u51 u52 u53 u54 u55 u56 u57 u58 u59 u60 u61 u62 u63 u64 u65 u66 u67 u68 u69 u70 u71 u72 u73 u74 u75 u76 u77 u78 u79 u80 u81 u82 u83 u84 u85 u86 u87 u88 u89 u90 u91 u92 u93 u94 u95 u96 u97 u98 u99 u100 u101 u102 u103 u104 u105 u106 u107 u108 u109 u110 u111 u112 u113 u114 u115 u116 u117 u118 u119 u120 u121 u122 u123 u124 u125 u126 u127 u128 u129 u130 u131 u132 u133 u134 u135 u136 u137 u138 u139 u140 u141 u142 u143 : Value), (i ≤ n ∧ Hid (n2 ≤ i) ∧ Hid (Pl TabS w (bxM bm A2 n2 c2 :: bxR w :: rs.map mkB) v m m A2 n2 c2 w')) ∧ a' = { tmps := #[.slice A n c, u1, .pointer (some ⟨w.heap.size, 0, none⟩), v, .pointer (some ⟨bm, 0, none⟩), .int .i64 ((i : Nat) : Int), u6, u7, u8, u9, u10, u11, u12, u13, u14, u15, u16, u17, u18, u19, u20, u21, u22, u23, u24, u25, u26, u27, u28, u29, u30, u31, u32, u33, u34, u35, u36, u37, u38, u39, u40, u41, u42, u43, u44, u45, u46, u47, u48, u49, u50, u51, u52, u53, u54, u55, u56, u57, u58, u59, u60, u61, u62, u63, u64, u65, u66, u67, u68, u69, u70, u71, u72, u73, u74, u75, u76, u77, u78, u79, u80, u81, u82, u83, u84, u85, u86, u87, u88, u89, u90, u91, u92, u93, u94, u95, u96, u97, u98, u99, u100, u101, u102, u103, u104, u105, u106, u107, u108, u109, u110, u111, u112, u113, u114, u115, u116, u117, u118, u119, u120, u121, u122, u123, u124, u125, u126, u127, u128, u129, u130, u131, u132, u133, u134, u135, u136, u137, u138, u139, u140, u141, u142, u143], defers := rs.map mkD }) (fun a' w' => n - (intOf (a'.tmps.getD 5 undef)).toNat) ?start ?round
    case start => exact ⟨[], v4, [], none, 0, 0, 0, _, _, _, _, _, _, _, _, _, _, _, _, _, _, _, _, _, _, _, _, _, _, _, _, _, _, _, _, _, _, _, _, _, _, _, _, _, _, _, _, _, _, _, _, _, _, _, _, _, _, _, _, _, _, _, _, _, _, _, _, _, _, _, _, _, _, _, _, _, _, _, _, _, _, _, _, _, _, _, _, _, _, _, _, _, _, _, _, _, _, _, _, _, _, _, _, _, _, _, _, _, _, _, _, _, _, _, _, _, _, _, _, _, _, _, _, _, _, _, _, _, _, _, _, _, _, _, _, _, _, _, _, _, _, _, _, _, _, _, ⟨Nat.zero_le _, Lib.hid (Nat.le_refl _), HP0⟩, rfl⟩
    case round =>
      intro a0 wr hinv
      obtain ⟨rs, v, m, A2, n2, c2, i, hinv⟩ := hinv
      obtain ⟨u1, hinv⟩ := hinv; obtain ⟨u6, hinv⟩ := hinv; obtain ⟨u7, hinv⟩ := hinv; obtain ⟨u8, hinv⟩ := hinv; obtain ⟨u9, hinv⟩ := hinv; obtain ⟨u10, hinv⟩ := hinv; obtain ⟨u11, hinv⟩ := hinv; obtain ⟨u12, hinv⟩ := hinv; obtain ⟨u13, hinv⟩ := hinv; obtain ⟨u14, hinv⟩ := hinv; obtain ⟨u15, hinv⟩ := hinv; obtain ⟨u16, hinv⟩ := hinv; obtain ⟨u17, hinv⟩ := hinv; obtain ⟨u18, hinv⟩ := hinv; obtain ⟨u19, hinv⟩ := hinv; obtain ⟨u20, hinv⟩ := hinv; obtain ⟨u21, hinv⟩ := hinv; obtain ⟨u22, hinv⟩ := hinv; obtain ⟨u23, hinv⟩ := hinv; obtain ⟨u24, hinv⟩ := hinv; obtain ⟨u25, hinv⟩ := hinv; obtain ⟨u26, hinv⟩ := hinv; obtain ⟨u27, hinv⟩ := hinv; obtain ⟨u28, hinv⟩ := hinv; obtain ⟨u29, hinv⟩ := hinv; obtain ⟨u30, hinv⟩ := hinv; obtain ⟨u31, hinv⟩ := hinv; obtain ⟨u32, hinv⟩ := hinv; obtain ⟨u33, hinv⟩ := hinv; obtain ⟨u34, hinv⟩ := hinv; obtain ⟨u35, hinv⟩ := hinv; obtain ⟨u36, hinv⟩ := hinv; obtain ⟨u37, hinv⟩ := hinv; obtain ⟨u38, hinv⟩ := hinv; obtain ⟨u39, hinv⟩ := hinv; obtain ⟨u40, hinv⟩ := hinv; obtain ⟨u41, hinv⟩ := hinv; obtain ⟨u42, hinv⟩ := hinv; obtain ⟨u43, hinv⟩ := hinv; obtain ⟨u44, hinv⟩ := hinv; obtain ⟨u45, hinv⟩ := hinv; obtain ⟨u46, hinv⟩ := hinv; obtain ⟨u47, hinv⟩ := hinv; obtain ⟨u48, hinv⟩ := hinv; obtain ⟨u49, hinv⟩ := hinv; obtain ⟨u50, hinv⟩ := hinv; obtain ⟨u51, hinv⟩ := hinv; obtain ⟨u52, hinv⟩ := hinv; obtain ⟨u53, hinv⟩ := hinv; obtain ⟨u54, hinv⟩ := hinv; obtain ⟨u55, hinv⟩ := hinv; obtain ⟨u56, hinv⟩ := hinv; obtain ⟨u57, hinv⟩ := hinv; obtain ⟨u58, hinv⟩ := hinv; obtain ⟨u59, hinv⟩ := hinv; obtain ⟨u60, hinv⟩ := hinv; obtain ⟨u61, hinv⟩ := hinv; obtain ⟨u62, hinv⟩ := hinv; obtain ⟨u63, hinv⟩ := hinv; obtain ⟨u64, hinv⟩ := hinv; obtain ⟨u65, hinv⟩ := hinv; obtain ⟨u66, hinv⟩ := hinv; obtain ⟨u67, hinv⟩ := hinv; obtain ⟨u68, hinv⟩ := hinv; obtain ⟨u69, hinv⟩ := hinv; obtain ⟨u70, hinv⟩ := hinv; obtain ⟨u71, hinv⟩ := hinv; obtain ⟨u72, hinv⟩ := hinv; obtain ⟨u73, hinv⟩ := hinv; obtain ⟨u74, hinv⟩ := hinv; obtain ⟨u75, hinv⟩ := hinv; obtain ⟨u76, hinv⟩ := hinv; obtain ⟨u77, hinv⟩ := hinv; obtain ⟨u78, hinv⟩ := hinv; obtain ⟨u79, hinv⟩ := hinv; obtain ⟨u80, hinv⟩ := hinv; obtain ⟨u81, hinv⟩ := hinv; obtain ⟨u82, hinv⟩ := hinv; obtain ⟨u83, hinv⟩ := hinv; obtain ⟨u84, hinv⟩ := hinv; obtain ⟨u85, hinv⟩ := hinv; obtain ⟨u86, hinv⟩ := hinv; obtain ⟨u87, hinv⟩ := hinv; obtain ⟨u88, hinv⟩ := hinv; obtain ⟨u89, hinv⟩ := hinv; obtain ⟨u90, hinv⟩ := hinv; obtain ⟨u91, hinv⟩ := hinv; obtain ⟨u92, hinv⟩ := hinv; obtain ⟨u93, hinv⟩ := hinv; obtain ⟨u94, hinv⟩ := hinv; obtain ⟨u95, hinv⟩ := hinv; obtain ⟨u96, hinv⟩ := hinv; obtain ⟨u97, hinv⟩ := hinv; obtain ⟨u98, hinv⟩ := hinv; obtain ⟨u99, hinv⟩ := hinv; obtain ⟨u100, hinv⟩ := hinv; obtain ⟨u101, hinv⟩ := hinv; obtain ⟨u102, hinv⟩ := hinv; obtain ⟨u103, hinv⟩ := hinv; obtain ⟨u104, hinv⟩ := hinv; obtain ⟨u105, hinv⟩ := hinv; obtain ⟨u106, hinv⟩ := hinv; obtain ⟨u107, hinv⟩ := hinv; obtain ⟨u108, hinv⟩ := hinv; obtain ⟨u109, hinv⟩ := hinv; obtain ⟨u110, hinv⟩ := hinv; obtain ⟨u111, hinv⟩ := hinv; obtain ⟨u112, hinv⟩ := hinv; obtain ⟨u113, hinv⟩ := hinv; obtain ⟨u114, hinv⟩ := hinv; obtain ⟨u115, hinv⟩ := hinv; obtain ⟨u116, hinv⟩ := hinv; obtain ⟨u117, hinv⟩ := hinv; obtain ⟨u118, hinv⟩ := hinv; obtain ⟨u119, hinv⟩ := hinv; obtain ⟨u120, hinv⟩ := hinv; obtain ⟨u121, hinv⟩ := hinv; obtain ⟨u122, hinv⟩ := hinv; obtain ⟨u123, hinv⟩ := hinv; obtain ⟨u124, hinv⟩ := hinv; obtain ⟨u125, hinv⟩ := hinv; obtain ⟨u126, hinv⟩ := hinv; obtain ⟨u127, hinv⟩ := hinv; obtain ⟨u128, hinv⟩ := hinv; obtain ⟨u129, hinv⟩ := hinv; obtain ⟨u130, hinv⟩ := hinv; obtain ⟨u131, hinv⟩ := hinv; obtain ⟨u132, hinv⟩ := hinv; obtain ⟨u133, hinv⟩ := hinv; obtain ⟨u134, hinv⟩ := hinv; obtain ⟨u135, hinv⟩ := hinv; obtain ⟨u136, hinv⟩ := hinv; obtain ⟨u137, hinv⟩ := hinv; obtain ⟨u138, hinv⟩ := hinv; obtain ⟨u139, hinv⟩ := hinv; obtain ⟨u140, hinv⟩ := hinv; obtain ⟨u141, hinv⟩ := hinv; obtain ⟨u142, hinv⟩ := hinv; obtain ⟨u143, hinv⟩ := hinv
      obtain ⟨⟨hi, HNI, HP⟩, ha⟩ := hinv
      subst ha
      by_cases hlt : i < n
      · have hil : i < l.length := by rw [← HL.out]; exact hlt
        obtain ⟨b, off, rfl, hb, k0, k1, k2⟩ := (HA.out.below HP.out.bel) i hil
        obtain ⟨⟨xd, xk, xv⟩, hx⟩ : ∃ x, l[i]'hil = x := ⟨_, rfl⟩
        rw [hx] at k0 k1 k2
        dsimp only at k0 k1 k2
        have i1 : (0 : Int) ≤ (i : Int) := by omega
        have i2 : (i : Int) < (n : Int) := by omega
        have i3 : i + 1 ≤ 9223372036854775807 := by have := HNL.out; unfold limO at this; omega
        clear hx hil hb
        have HLE := Lib.hid (show m.length ≤ 900 by have := HP.out.len; have := HNI.out; have := HNL.out; unfold limO at this; omega)
        have HNE := Lib.hid (show n2 ≤ 900 by have := HP.out.len; have := HLE.out; omega)
        have HRI := Lib.hid (HP.out.rise HT)
        obtain ⟨W6, hW6⟩ : ∃ W6, wr.alloc (.cells #[.int .i64 xd, .string xk, .string xv] 29) = W6 := ⟨_, rfl⟩
        obtain ⟨bo, hbo⟩ : ∃ bo, wr.heap.size = bo := ⟨_, rfl⟩
        have HP6 : Hid (Pl TabS w (bxO bo ⟨xd, xk, xv⟩ :: bxM bm A2 n2 c2 :: bxR w :: rs.map mkB) v m m A2 n2 c2 W6) := Lib.hid (by
          rw [← hW6, ← hbo]
          exact HP.out.new HT ((Below.refl _ _).alloc (Nat.le_refl _) _) (Nat.le_refl _) (World.alloc_heap_new wr _))
        have HW6 := Lib.hid hW6
        have HBO := Lib.hid hbo
        clear hW6 hbo
        rcases plays_ways xd with rfl | rfl | rfl | rfl | rfl | ⟨z0, z1, z3, z4, z5⟩
        · go_wp2_with (first
            | (go_at_call 11; go_loud (rw [HW6.out, HBO.out]; refine (HP6.out.get HT (by have := HLE.out; omega) xk).mono ?_; rintro en w7 ⟨rfl, hb7⟩; have HP7 := Lib.hid (HP6.out.on HT hb7); obtain ⟨o0, o1, o2, b0, b1, b2, b3⟩ := HP7.out.cells; clear hb7 k0 k1 k2))
            | (go_at_call 12; go_loud (refine (HP7.out.rget (by have := HNE.out; omega) xk).mono ?_; rintro en _ ⟨rfl, rfl⟩))
            | (go_at_call 13; go_loud (refine (HP7.out.put HT (by have := HLE.out; omega) xk xv).mono ?_; rintro en w9 ⟨rfl, hp9⟩; have HP9 := Lib.hid hp9; clear o0 o1 o2 b0 b1 b2 b3; obtain ⟨o0, o1, o2, b0, b1, b2, b3⟩ := hp9.cells; clear hp9))
            | (go_at_call 14; go_loud (refine (HP9.out.set HT HRI.out (by have := HNE.out; omega) xk xv).mono ?_; rintro en w10 ⟨A3, c3, rfl, hp10⟩; have HLF := Lib.hid (show (setK m xk xv).length ≤ 1000 from (by have := setK_len m xk xv; have := HLE.out; omega)); have HP11 := Lib.hid (hp10.store HT); clear o0 o1 o2 b0 b1 b2 b3; obtain ⟨o0, o1, o2, b0, b1, b2, b3⟩ := hp10.cells; have c0 := World.cell?_setCell_same w10 _ (.slice A3 (setK m xk xv).length c3) b0; clear hp10))
            | (go_at_call 19; go_loud (refine (HP11.out.has HT (by first | (have := HLF.out; omega) | (have := HNE.out; omega))).mono ?_; rintro en wz ⟨rfl, hbz⟩; have HPZ := Lib.hid (HP11.out.on HT hbz); clear hbz)))
          refine ⟨⟨rs, v, setK m xk xv, A3, _, c3, i + 1, _, _, _, _, _, _, _, _, _, _, _, _, _, _, _, _, _, _, _, _, _, _, _, _, _, _, _, _, _, _, _, _, _, _, _, _, _, _, _, _, _, _, _, _, _, _, _, _, _, _, _, _, _, _, _, _, _, _, _, _, _, _, _, _, _, _, _, _, _, _, _, _, _, _, _, _, _, _, _, _, _, _, _, _, _, _, _, _, _, _, _, _, _, _, _, _, _, _, _, _, _, _, _, _, _, _, _, _, _, _, _, _, _, _, _, _, _, _, _, _, _, _, _, _, _, _, _, _, _, _, _, _, _, _, _, _, _, _, _, ⟨by omega, Lib.hid (by have := setK_len m xk xv; have := HNI.out; have := HP.out.len; omega), Lib.hid HPZ.out.drop1⟩, rfl⟩, ?_⟩
          simp [intOf]
          omega
        · go_wp2_with (first
            | (go_at_call 11; go_loud (rw [HW6.out, HBO.out]; refine (HP6.out.get HT (by have := HLE.out; omega) xk).mono ?_; rintro en w7 ⟨rfl, hb7⟩; have HP7 := Lib.hid (HP6.out.on HT hb7); obtain ⟨o0, o1, o2, b0, b1, b2, b3⟩ := HP7.out.cells; clear hb7 k0 k1 k2))
            | (go_at_call 12; go_loud (refine (HP7.out.rget (by have := HNE.out; omega) xk).mono ?_; rintro en _ ⟨rfl, rfl⟩))
            | (go_at_call 15; go_loud (refine (HP7.out.del HT (by have := HLE.out; omega) xk).mono ?_; rintro en w9 ⟨rfl, hp9⟩; have HP9 := Lib.hid hp9; clear o0 o1 o2 b0 b1 b2 b3; obtain ⟨o0, o1, o2, b0, b1, b2, b3⟩ := hp9.cells; clear hp9))
            | (go_at_call 16; go_loud (refine (HP9.out.drop HT (by have := HNE.out; omega) xk).mono ?_; rintro en w10 ⟨A3, c3, rfl, hp10⟩; have HLF := Lib.hid (show (dropK m xk).length ≤ 1000 from (by have := dropK_len m xk; have := HLE.out; omega)); have HP11 := Lib.hid (hp10.store HT); clear o0 o1 o2 b0 b1 b2 b3; obtain ⟨o0, o1, o2, b0, b1, b2, b3⟩ := hp10.cells; have c0 := World.cell?_setCell_same w10 _ (.slice A3 (dropK m xk).length c3) b0; clear hp10))
            | (go_at_call 19; go_loud (refine (HP11.out.has HT (by first | (have := HLF.out; omega) | (have := HNE.out; omega))).mono ?_; rintro en wz ⟨rfl, hbz⟩; have HPZ := Lib.hid (HP11.out.on HT hbz); clear hbz)))
          refine ⟨⟨rs, v, dropK m xk, A3, _, c3, i + 1, _, _, _, _, _, _, _, _, _, _, _, _, _, _, _, _, _, _, _, _, _, _, _, _, _, _, _, _, _, _, _, _, _, _, _, _, _, _, _, _, _, _, _, _, _, _, _, _, _, _, _, _, _, _, _, _, _, _, _, _, _, _, _, _, _, _, _, _, _, _, _, _, _, _, _, _, _, _, _, _, _, _, _, _, _, _, _, _, _, _, _, _, _, _, _, _, _, _, _, _, _, _, _, _, _, _, _, _, _, _, _, _, _, _, _, _, _, _, _, _, _, _, _, _, _, _, _, _, _, _, _, _, _, _, _, _, _, _, _, ⟨by omega, Lib.hid (by have := dropK_len m xk; have := HNI.out; have := HP.out.len; omega), Lib.hid HPZ.out.drop1⟩, rfl⟩, ?_⟩
          simp [intOf]
          omega
        · go_wp2_with (first
            | (go_at_call 11; go_loud (rw [HW6.out, HBO.out]; refine (HP6.out.get HT (by have := HLE.out; omega) xk).mono ?_; rintro en w7 ⟨rfl, hb7⟩; have HP7 := Lib.hid (HP6.out.on HT hb7); obtain ⟨o0, o1, o2, b0, b1, b2, b3⟩ := HP7.out.cells; clear hb7 k0 k1 k2))
            | (go_at_call 12; go_loud (refine (HP7.out.rget (by have := HNE.out; omega) xk).mono ?_; rintro en _ ⟨rfl, rfl⟩))
            | (fail))
          obtain ⟨W8, hW8⟩ : ∃ W8, w7.alloc (.cells #[.int .i64 0] 3) = W8 := ⟨_, rfl⟩
          obtain ⟨bn, hbn⟩ : ∃ bn, w7.heap.size = bn := ⟨_, rfl⟩
          have HP8 : Hid (Pl TabS w (bxN bn ((0 : Nat) : Int) :: bxO bo ⟨3, xk, xv⟩ :: bxM bm A2 n2 c2 :: bxR w :: rs.map mkB) v m m A2 n2 c2 W8) := Lib.hid (by
            rw [← hW8, ← hbn]
            exact HP7.out.new HT ((Below.refl _ _).alloc (Nat.le_refl _) _) (Nat.le_refl _) (World.alloc_heap_new w7 _))
          rw [hW8, hbn]
          clear hW8 hbn o0 o1 o2 b0 b1 b2 b3
          obtain ⟨w0, rfl⟩ : ∃ x, x = wr := ⟨_, rfl⟩
          go_loopw [] (fun wr => ∃ j : Nat, j ≤ n2 ∧ Hid (∀ (i : Nat) (h : i < m.length), i < j → ltK m[i].k xk) ∧ Hid (Pl TabS w (bxN bn (j : Int) :: bxO bo ⟨3, xk, xv⟩ :: bxM bm A2 n2 c2 :: bxR w :: rs.map mkB) v m m A2 n2 c2 wr)) (fun wr => n2 - (intOf ((wr.cell? ⟨bn, 0, none⟩).getD undef)).toNat)
          case atStart => exact ⟨0, Nat.zero_le _, Lib.hid (fun i h h0 => absurd h0 (Nat.not_lt_zero _)), HP8⟩
          case round =>
            obtain ⟨j, hj, HJ, HPJ⟩ := hrel
            have HLM := Lib.hid HP.out.len
            have i0 : (0 : Int) ≤ (j : Int) := by omega
            have i3 : j + 1 ≤ 9223372036854775807 := by have := HNE.out; omega
            obtain ⟨n0, n1, n9⟩ := HPJ.out.cellN
            obtain ⟨o0, o1, o2, b0, b1, b2, b3⟩ := HPJ.out.drop1.cells
            by_cases hjn : j < n2
            · have hjm : j < m.length := by rw [← HLM.out]; exact hjn
              obtain ⟨gb, og, rfl, hgb, g0, g1⟩ := HPJ.out.row j hjm
              have i4 : (j : Int) < (n2 : Int) := by omega
              have d1 : decide ((j : Int) < (n2 : Int)) = true := decide_eq_true i4
              by_cases hlk : ltK m[j].k xk
              · have hl := lk_yes hlk
                have HJ2 := Lib.hid (plays_less HJ.out hlk)
                obtain ⟨x0, hx0⟩ : ∃ x, (m[j]'hjm).k = x := ⟨_, rfl⟩
                rw [hx0] at g0 hl
                clear hlk hx0 hjm hgb g1
                go_wp2
                go_quiet (fail)
                go_wp2
                have e2 := World.cell?_setCell_same (wr.drewN nq) ⟨bn, 0, none⟩ (.int .i64 ((j : Int) + 1)) n0
                go_roundw
                case rel =>
                  refine ⟨j + 1, by omega, HJ2, Lib.hid ?_⟩
                  rw [show (((j + 1 : Nat) : Int)) = (j : Int) + 1 from by omega]
                  exact (HPJ.out.on HT (below_drewN wr nq)).storeN HT ((j : Int) + 1)
                case measure =>
                  rw [n0, e2]
                  simp [intOf]
                  omega
              · have hl := lk_no hlk
                have HQ := Lib.hid (fromK_drop HRI.out HJ.out (fun _ => hlk))
                obtain ⟨x0, hx0⟩ : ∃ x, (m[j]'hjm).k = x := ⟨_, rfl⟩
                rw [hx0] at g0 hl
                clear hlk hx0 hjm hgb g1
                go_wp2
                go_quiet (fail)
                have HPK := Lib.hid (HPJ.out.on HT (below_drewN wr nq))
                clear n0 n1 n9 o0 o1 o2 b0 b1 b2 b3
                obtain ⟨o0, o1, o2, b0, b1, b2, b3⟩ := HPK.out.drop1.cells
                go_wp2_with (first
                  | (go_at_call 17; go_loud (refine (HPK.out.frm HT (by have := HLE.out; omega) xk).mono ?_; rintro en w9 ⟨gf, lb, S, rfl, he9, hp9, hs9, hq9⟩; have HE9 := Lib.hid he9; have HP9 := Lib.hid hp9; have HS9 := Lib.hid hs9; have HQ9 := Lib.hid hq9; clear he9 hp9 hs9 hq9 o0 o1 o2 b0 b1 b2 b3)))
                have hsz : bn < w9.heap.size := HP9.out.cellN.2.2
                have HNS := Lib.hid (show ¬ S bn from fun h => (HS9.out bn h).2 (bxN bn j) (by simp) rfl)
                have HSB := Lib.hid (show ∀ k, S k → k < w9.heap.size from fun k hk => (HS9.out k hk).1)
                have HBM := Lib.hid (show bm ≠ bn from fun e => (List.nodup_cons.1 HP9.out.nd).1 (by simp [bxM, e]))
                have HC9 := Lib.hid HP9.out.drop1.cells
                refine (wpIn_wide (n := 8)).1 ?_
                refine range_nest2 rfl (by omega) (gf := gf) (lb := lb) (by simp [Act.eval]) trivial HE9.out
                    (encs := encK) (Y := NextK (fromK m xk)) (Kp := Ks S) (done := fun xs => xs.length = (fromK m xk).length)
                    (fun W1 hg hs1 => HQ9.out W1 (fun k hk => hg.block k (HSB.out k hk) (by simp)))
                    (fun x => rfl) Ks.trans Ks.grown (fun U o => Ks.put (fun h => by have := HSB.out _ h; omega) o)
                    (PlI w9 bn j)
                    (fun _ _ _ => False)
                    (PlI.own hsz)
                    (fun _ _ _ _ _ h _ _ => h)
                    (fun pre => NextK.own pre) ?sta1 (fun _ U => U) (fun x U => ⟨rfl, rfl, rfl, Nat.le_refl _, fun _ _ _ => rfl⟩) (fun _ _ _ => True) (fun x U r r' hb => trivial) ?aa1 ?asa1 ?boa1 ?doa1 ?spa1
                case sta1 =>
                  intro W1 hg hs1
                  exact ⟨(Ch.refl _ w9).grown hg (fun k e => by cases e), (hg.block _ hsz (by simp)).trans (HP9.out.at_ (bxN bn j) (by simp)).2, by omega⟩
                case asa1 =>
                  intro l0 x U K hK
                  gi_wp2
                  exact hK
                case boa1 =>
                  rintro l0 pre x U V2 hI hY _ hbk
                  obtain ⟨hpl, hpe⟩ := plays_next HQ.out hY
                  obtain ⟨gb2, og2, eA, hgb2, k0, k1⟩ := HP9.out.row (j + pre.length) hpl
                  have hoff := HP9.out.off (bxN bn j) (by simp) _ eA
                  cases eA
                  rw [hpe] at k0 k1
                  obtain ⟨q, hm⟩ : ∃ q, j + pre.length = q := ⟨_, rfl⟩
                  have HST := Lib.hid (hI.step (x := x) hm HNS.out hsz)
                  have C : ∀ (bb of : Nat), bb < w9.heap.size → bb ≠ bn → V2.cell? ⟨bb, of, none⟩ = w9.cell? ⟨bb, of, none⟩ := fun bb of h1 h2 => World.cell?_of_block (a := ⟨bb, of, none⟩) (hI.c.block bb h1 h2)
                  have hlb := (C bm 0 HC9.out.2.2.2.2.2.1 HBM.out).trans HC9.out.2.2.2.1
                  replace k0 := (C gb _ hgb2 (fun e => hoff e.symm)).trans k0
                  replace k1 := (C gb _ hgb2 (fun e => hoff e.symm)).trans k1
                  have n0 : V2.cell? ⟨bn, 0, none⟩ = some (.int .i64 ((j + pre.length : Nat) : Int)) := by simp [World.cell?, hI.n]
                  have n1 := lt_of_heap hI.n
                  have f2 : V2.frozen? ⟨bn, 0, none⟩ = false := by simp [World.frozen?, hI.n]
                  rw [hm] at n0 k0 k1 hpl
                  rw [← HLM.out] at hpl
                  obtain ⟨yk, yv⟩ := x
                  have i1 : (0 : Int) ≤ (q : Int) := by omega
                  have i2 : (q : Int) < (n2 : Int) := by omega
                  have i3 : q + 1 ≤ 9223372036854775807 := by have := HNE.out; omega
                  have q1 : decide ((n2 : Int) ≤ (q : Int)) = false := decide_eq_false (by omega)
                  dsimp only at k0 k1
                  clear hI hY hpe hbk hm C hoff
                  gi_wp2
                  exact ⟨HST.out.1, HST.out.2.1, HST.out.2.2⟩
                case spa1 =>
                  rintro cc pre V2 h
                  exact h.elim
                case doa1 =>
                  rintro xs V hxs hI hK
                  have hxl : j + xs.length = n2 := by
                    have h2 : xs.length = (fromK m xk).length := hxs
                    have h3 := congrArg List.length HQ.out
                    rw [List.length_drop, ← HLM.out] at h3
                    omega
                  have HPV := Lib.hid (HP9.out.ranged HT (d := w9.heap.size) (od := .deferred (some [])) hI.c hI.n (Nat.le_refl _) hK)
                  have n0 : V.cell? ⟨bn, 0, none⟩ = some (.int .i64 ((j + xs.length : Nat) : Int)) := by simp [World.cell?, hI.n]
                  rw [hxl] at n0 HPV
                  obtain ⟨o0, o1, o2, b0, b1, b2, b3⟩ := HPV.out.drop1.drop1.cells
                  have HLF := HNE
                  clear hxs hI hK hxl hsz
                  go_wp2_with (first
                    | (go_at_call 19; go_loud (refine (HPV.out.has HT (by first | (have := HLF.out; omega) | (have := HNE.out; omega))).mono ?_; rintro en wz ⟨rfl, hbz⟩; have HPZ := Lib.hid (HPV.out.on HT hbz); clear hbz)))
                  have HL2 := HP.out.len
                  subst HL2
                  refine ⟨⟨(w9.heap.size :: rs), v, m, _, _, c2, i + 1, _, _, _, _, _, _, _, _, _, _, _, _, _, _, _, _, _, _, _, _, _, _, _, _, _, _, _, _, _, _, _, _, _, _, _, _, _, _, _, _, _, _, _, _, _, _, _, _, _, _, _, _, _, _, _, _, _, _, _, _, _, _, _, _, _, _, _, _, _, _, _, _, _, _, _, _, _, _, _, _, _, _, _, _, _, _, _, _, _, _, _, _, _, _, _, _, _, _, _, _, _, _, _, _, _, _, _, _, _, _, _, _, _, _, _, _, _, _, _, _, _, _, _, _, _, _, _, _, _, _, _, _, _, _, _, _, _, _, _, ⟨by omega, Lib.hid (Nat.le_succ_of_le HNI.out), Lib.hid HPZ.out.marked⟩, rfl⟩, ?_⟩
                  simp [intOf]
                  omega
            · have HQ := Lib.hid (fromK_drop (n := j) HRI.out HJ.out (fun h => absurd h (by have := HLM.out; omega)))
              have d1 : decide ((j : Int) < (n2 : Int)) = false := decide_eq_false (by omega)
              go_wp2
              go_quiet (fail)
              have HPK := Lib.hid (HPJ.out.on HT (below_drewN wr nq))
              clear n0 n1 n9 o0 o1 o2 b0 b1 b2 b3
              obtain ⟨o0, o1, o2, b0, b1, b2, b3⟩ := HPK.out.drop1.cells
              go_wp2_with (first
                | (go_at_call 17; go_loud (refine (HPK.out.frm HT (by have := HLE.out; omega) xk).mono ?_; rintro en w9 ⟨gf, lb, S, rfl, he9, hp9, hs9, hq9⟩; have HE9 := Lib.hid he9; have HP9 := Lib.hid hp9; have HS9 := Lib.hid hs9; have HQ9 := Lib.hid hq9; clear he9 hp9 hs9 hq9 o0 o1 o2 b0 b1 b2 b3)))
              have hsz : bn < w9.heap.size := HP9.out.cellN.2.2
              have HNS := Lib.hid (show ¬ S bn from fun h => (HS9.out bn h).2 (bxN bn j) (by simp) rfl)
              have HSB := Lib.hid (show ∀ k, S k → k < w9.heap.size from fun k hk => (HS9.out k hk).1)
              have HBM := Lib.hid (show bm ≠ bn from fun e => (List.nodup_cons.1 HP9.out.nd).1 (by simp [bxM, e]))
              have HC9 := Lib.hid HP9.out.drop1.cells
              refine (wpIn_wide (n := 8)).1 ?_
              refine range_nest2 rfl (by omega) (gf := gf) (lb := lb) (by simp [Act.eval]) trivial HE9.out
                  (encs := encK) (Y := NextK (fromK m xk)) (Kp := Ks S) (done := fun xs => xs.length = (fromK m xk).length)
                  (fun W1 hg hs1 => HQ9.out W1 (fun k hk => hg.block k (HSB.out k hk) (by simp)))
                  (fun x => rfl) Ks.trans Ks.grown (fun U o => Ks.put (fun h => by have := HSB.out _ h; omega) o)
                  (PlI w9 bn j)
                  (fun _ _ _ => False)
                  (PlI.own hsz)
                  (fun _ _ _ _ _ h _ _ => h)
                  (fun pre => NextK.own pre) ?sta2 (fun _ U => U) (fun x U => ⟨rfl, rfl, rfl, Nat.le_refl _, fun _ _ _ => rfl⟩) (fun _ _ _ => True) (fun x U r r' hb => trivial) ?aa2 ?asa2 ?boa2 ?doa2 ?spa2
              case sta2 =>
                intro W1 hg hs1
                exact ⟨(Ch.refl _ w9).grown hg (fun k e => by cases e), (hg.block _ hsz (by simp)).trans (HP9.out.at_ (bxN bn j) (by simp)).2, by omega⟩
              case asa2 =>
                intro l0 x U K hK
                gi_wp2
                exact hK
              case boa2 =>
                rintro l0 pre x U V2 hI hY _ hbk
                obtain ⟨hpl, hpe⟩ := plays_next HQ.out hY
                obtain ⟨gb2, og2, eA, hgb2, k0, k1⟩ := HP9.out.row (j + pre.length) hpl
                have hoff := HP9.out.off (bxN bn j) (by simp) _ eA
                cases eA
                rw [hpe] at k0 k1
                obtain ⟨q, hm⟩ : ∃ q, j + pre.length = q := ⟨_, rfl⟩
                have HST := Lib.hid (hI.step (x := x) hm HNS.out hsz)
                have C : ∀ (bb of : Nat), bb < w9.heap.size → bb ≠ bn → V2.cell? ⟨bb, of, none⟩ = w9.cell? ⟨bb, of, none⟩ := fun bb of h1 h2 => World.cell?_of_block (a := ⟨bb, of, none⟩) (hI.c.block bb h1 h2)
                have hlb := (C bm 0 HC9.out.2.2.2.2.2.1 HBM.out).trans HC9.out.2.2.2.1
                replace k0 := (C gb2 _ hgb2 (fun e => hoff e.symm)).trans k0
                replace k1 := (C gb2 _ hgb2 (fun e => hoff e.symm)).trans k1
                have n0 : V2.cell? ⟨bn, 0, none⟩ = some (.int .i64 ((j + pre.length : Nat) : Int)) := by simp [World.cell?, hI.n]
                have n1 := lt_of_heap hI.n
                have f2 : V2.frozen? ⟨bn, 0, none⟩ = false := by simp [World.frozen?, hI.n]
                rw [hm] at n0 k0 k1 hpl
                rw [← HLM.out] at hpl
                obtain ⟨yk, yv⟩ := x
                have i1 : (0 : Int) ≤ (q : Int) := by omega
                have i2 : (q : Int) < (n2 : Int) := by omega
                have i3 : q + 1 ≤ 9223372036854775807 := by have := HNE.out; omega
                have q1 : decide ((n2 : Int) ≤ (q : Int)) = false := decide_eq_false (by omega)
                dsimp only at k0 k1
                clear hI hY hpe hbk hm C hoff
                gi_wp2
                exact ⟨HST.out.1, HST.out.2.1, HST.out.2.2⟩
              case spa2 =>
                rintro cc pre V2 h
                exact h.elim
              case doa2 =>
                rintro xs V hxs hI hK
                have hxl : j + xs.length = n2 := by
                  have h2 : xs.length = (fromK m xk).length := hxs
                  have h3 := congrArg List.length HQ.out
                  rw [List.length_drop, ← HLM.out] at h3
                  omega
                have HPV := Lib.hid (HP9.out.ranged HT (d := w9.heap.size) (od := .deferred (some [])) hI.c hI.n (Nat.le_refl _) hK)
                have n0 : V.cell? ⟨bn, 0, none⟩ = some (.int .i64 ((j + xs.length : Nat) : Int)) := by simp [World.cell?, hI.n]
                rw [hxl] at n0 HPV
                obtain ⟨o0, o1, o2, b0, b1, b2, b3⟩ := HPV.out.drop1.drop1.cells
                have HLF := HNE
                clear hxs hI hK hxl hsz
                go_wp2_with (first
                  | (go_at_call 19; go_loud (refine (HPV.out.has HT (by first | (have := HLF.out; omega) | (have := HNE.out; omega))).mono ?_; rintro en wz ⟨rfl, hbz⟩; have HPZ := Lib.hid (HPV.out.on HT hbz); clear hbz)))
                have HL2 := HP.out.len
                subst HL2
                refine ⟨⟨(w9.heap.size :: rs), v, m, _, _, c2, i + 1, _, _, _, _, _, _, _, _, _, _, _, _, _, _, _, _, _, _, _, _, _, _, _, _, _, _, _, _, _, _, _, _, _, _, _, _, _, _, _, _, _, _, _, _, _, _, _, _, _, _, _, _, _, _, _, _, _, _, _, _, _, _, _, _, _, _, _, _, _, _, _, _, _, _, _, _, _, _, _, _, _, _, _, _, _, _, _, _, _, _, _, _, _, _, _, _, _, _, _, _, _, _, _, _, _, _, _, _, _, _, _, _, _, _, _, _, _, _, _, _, _, _, _, _, _, _, _, _, _, _, _, _, _, _, _, _, _, _, _, ⟨by omega, Lib.hid (Nat.le_succ_of_le HNI.out), Lib.hid HPZ.out.marked⟩, rfl⟩, ?_⟩
                simp [intOf]
                omega
        · have HLF := HNE
          go_wp2_with (first
            | (go_at_call 11; go_loud (rw [HW6.out, HBO.out]; refine (HP6.out.get HT (by have := HLE.out; omega) xk).mono ?_; rintro en w7 ⟨rfl, hb7⟩; have HP7 := Lib.hid (HP6.out.on HT hb7); obtain ⟨o0, o1, o2, b0, b1, b2, b3⟩ := HP7.out.cells; clear hb7 k0 k1 k2))
            | (go_at_call 12; go_loud (refine (HP7.out.rget (by have := HNE.out; omega) xk).mono ?_; rintro en _ ⟨rfl, rfl⟩))
            | (go_at_call 18; go_loud (refine (HP7.out.copy HT (by have := HLE.out; omega)).mono ?_; rintro en w9 ⟨v9, rfl, hp9⟩; have HP9 := Lib.hid hp9; clear o0 o1 o2 b0 b1 b2 b3; obtain ⟨o0, o1, o2, b0, b1, b2, b3⟩ := hp9.cells; clear hp9))
            | (go_at_call 19; go_loud (refine (HP9.out.has HT (by first | (have := HLF.out; omega) | (have := HNE.out; omega))).mono ?_; rintro en wz ⟨rfl, hbz⟩; have HPZ := Lib.hid (HP9.out.on HT hbz); clear hbz)))
          have HL2 := HP.out.len
          subst HL2
          refine ⟨⟨rs, v9, m, A2, _, c2, i + 1, _, _, _, _, _, _, _, _, _, _, _, _, _, _, _, _, _, _, _, _, _, _, _, _, _, _, _, _, _, _, _, _, _, _, _, _, _, _, _, _, _, _, _, _, _, _, _, _, _, _, _, _, _, _, _, _, _, _, _, _, _, _, _, _, _, _, _, _, _, _, _, _, _, _, _, _, _, _, _, _, _, _, _, _, _, _, _, _, _, _, _, _, _, _, _, _, _, _, _, _, _, _, _, _, _, _, _, _, _, _, _, _, _, _, _, _, _, _, _, _, _, _, _, _, _, _, _, _, _, _, _, _, _, _, _, _, _, _, _, ⟨by omega, Lib.hid (Nat.le_succ_of_le HNI.out), Lib.hid HPZ.out.drop1⟩, rfl⟩, ?_⟩
          simp [intOf]
          omega
        · have HLF := HNE
          go_wp2_with (first
            | (go_at_call 11; go_loud (rw [HW6.out, HBO.out]; refine (HP6.out.get HT (by have := HLE.out; omega) xk).mono ?_; rintro en w7 ⟨rfl, hb7⟩; have HP7 := Lib.hid (HP6.out.on HT hb7); obtain ⟨o0, o1, o2, b0, b1, b2, b3⟩ := HP7.out.cells; clear hb7 k0 k1 k2))
            | (go_at_call 12; go_loud (refine (HP7.out.rget (by have := HNE.out; omega) xk).mono ?_; rintro en _ ⟨rfl, rfl⟩))
            | (go_at_call 18; go_loud (refine (HP7.out.copy2 HT (by have := HLE.out; omega)).mono ?_; rintro en w9 ⟨v9, D9, R9, rfl, ht9, hd9, hb9⟩; have HT9 := Lib.hid ht9; have HD9 := Lib.hid hd9; have HB9 := Lib.hid hb9; have hp9 := HP7.out.on HT hb9; clear o0 o1 o2 b0 b1 b2 b3; obtain ⟨o0, o1, o2, b0, b1, b2, b3⟩ := hp9.cells; clear hp9 ht9 hd9 hb9))
            | (go_at_call 13; go_loud (refine (HT.put xk xv HT9.out (by have := HLE.out; omega)).mono ?_; rintro en wa ⟨Da, Ra, rfl, hta, hda, -, hca⟩; have HTA := Lib.hid hta; have hba := HB9.out.trans (hca.toBelow (fun k _ hk => HD9.out k hk) HB9.out.size); have HBA := Lib.hid hba; have HDA := Lib.hid (show ∀ k, Da k → w7.heap.size ≤ k from fun k hk => (hda k hk).elim (HD9.out k) (fun h => Nat.le_trans HB9.out.size h)); have hpa := HP7.out.on HT hba; clear o0 o1 o2 b0 b1 b2 b3; obtain ⟨o0, o1, o2, b0, b1, b2, b3⟩ := hpa.cells; clear hta hda hca hba hpa))
            | (go_at_call 15; go_loud (refine (HT.del _ HTA.out (by have := setK_len m xk xv; have := HLE.out; omega)).mono ?_; rintro en wb ⟨Db, Rb, rfl, -, -, -, hcb⟩; have hbb := HBA.out.trans (hcb.toBelow (fun k _ hk => HDA.out k hk) HBA.out.size); have HPB := Lib.hid (HP7.out.on HT hbb); clear o0 o1 o2 b0 b1 b2 b3; obtain ⟨o0, o1, o2, b0, b1, b2, b3⟩ := HPB.out.cells; clear hcb hbb))
            | (go_at_call 19; go_loud (refine (HPB.out.has HT (by first | (have := HLF.out; omega) | (have := HNE.out; omega))).mono ?_; rintro en wz ⟨rfl, hbz⟩; have HPZ := Lib.hid (HPB.out.on HT hbz); clear hbz)))
          have HL2 := HP.out.len
          subst HL2
          refine ⟨⟨rs, v, m, A2, _, c2, i + 1, _, _, _, _, _, _, _, _, _, _, _, _, _, _, _, _, _, _, _, _, _, _, _, _, _, _, _, _, _, _, _, _, _, _, _, _, _, _, _, _, _, _, _, _, _, _, _, _, _, _, _, _, _, _, _, _, _, _, _, _, _, _, _, _, _, _, _, _, _, _, _, _, _, _, _, _, _, _, _, _, _, _, _, _, _, _, _, _, _, _, _, _, _, _, _, _, _, _, _, _, _, _, _, _, _, _, _, _, _, _, _, _, _, _, _, _, _, _, _, _, _, _, _, _, _, _, _, _, _, _, _, _, _, _, _, _, _, _, _, ⟨by omega, Lib.hid (Nat.le_succ_of_le HNI.out), Lib.hid HPZ.out.drop1⟩, rfl⟩, ?_⟩
          simp [intOf]
          omega
        · have HLF := HNE
          go_wp2_with (first
            | (go_at_call 11; go_loud (rw [HW6.out, HBO.out]; refine (HP6.out.get HT (by have := HLE.out; omega) xk).mono ?_; rintro en w7 ⟨rfl, hb7⟩; have HP7 := Lib.hid (HP6.out.on HT hb7); obtain ⟨o0, o1, o2, b0, b1, b2, b3⟩ := HP7.out.cells; clear hb7 k0 k1 k2))
            | (go_at_call 12; go_loud (refine (HP7.out.rget (by have := HNE.out; omega) xk).mono ?_; rintro en _ ⟨rfl, rfl⟩))
            | (go_at_call 19; go_loud (refine (HP7.out.has HT (by first | (have := HLF.out; omega) | (have := HNE.out; omega))).mono ?_; rintro en wz ⟨rfl, hbz⟩; have HPZ := Lib.hid (HP7.out.on HT hbz); clear hbz)))
          have HL2 := HP.out.len
          subst HL2
          refine ⟨⟨rs, v, m, A2, _, c2, i + 1, _, _, _, _, _, _, _, _, _, _, _, _, _, _, _, _, _, _, _, _, _, _, _, _, _, _, _, _, _, _, _, _, _, _, _, _, _, _, _, _, _, _, _, _, _, _, _, _, _, _, _, _, _, _, _, _, _, _, _, _, _, _, _, _, _, _, _, _, _, _, _, _, _, _, _, _, _, _, _, _, _, _, _, _, _, _, _, _, _, _, _, _, _, _, _, _, _, _, _, _, _, _, _, _, _, _, _, _, _, _, _, _, _, _, _, _, _, _, _, _, _, _, _, _, _, _, _, _, _, _, _, _, _, _, _, _, _, _, _, ⟨by omega, Lib.hid (Nat.le_succ_of_le HNI.out), Lib.hid HPZ.out.drop1⟩, rfl⟩, ?_⟩
          simp [intOf]
          omega
      · have hin : i = n := by omega
        subst hin
        have r0 : wr.cell? ⟨w.heap.size, 0, none⟩ = some (.bool false) := by simp [World.cell?, (HP.out.at_ (bxR w) (by simp)).2]
        have r1 : wr.frozen? ⟨w.heap.size, 0, none⟩ = false := by simp [World.frozen?, (HP.out.at_ (bxR w) (by simp)).2]
        have r2 : w.heap.size < wr.heap.size := lt_of_heap (HP.out.at_ (bxR w) (by simp)).2
        go_wp2
        refine leaves_marks (B := w.heap.size) rs _ (plays_nodup HP.out.nd) (fun r hr => ⟨(HP.out.at_ (mkB r) (plays_mk hr)).1, (Below.heap_setCell _ _ _ _ ?_).trans (HP.out.at_ (mkB r) (plays_mk hr)).2⟩) ?_ (by have := HP.out.bel.size; simpa [World.setCell] using this)
        · exact plays_ne HP.out.nd hr
        · intro V hV hk
          have z : V.cell? ⟨w.heap.size, 0, none⟩ = some (.bool true) := (World.cell?_of_block (a := ⟨w.heap.size, 0, none⟩) (hk _ (fun hr => plays_ne HP.out.nd hr rfl))).trans (World.cell?_setCell_same _ _ _ r0)
          exact ⟨.bool true, by simp [results, Try.results3, go_sem, z], rfl, (HP.out.bel.setCell (Nat.le_refl _) _).trans hV⟩
  · have z : (w3.setCell ⟨w.heap.size, 0, none⟩ (.bool true)).cell? ⟨w.heap.size, 0, none⟩ = some (.bool true) := World.cell?_setCell_same _ _ _ r0
    exact ⟨.bool true, by simp [results, Try.results3, go_sem, z], rfl, HB3.out.setCell (Nat.le_refl _) _⟩
end
end Go.Proofs.Ytmeoednndfgffaa
