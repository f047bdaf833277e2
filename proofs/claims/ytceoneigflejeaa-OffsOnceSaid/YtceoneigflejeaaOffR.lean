/- The walks of the plain Pack and Unpack. -/
import Derived.Test.YtceoneigflejeaaOffB
import Derived.Test.YtceoneigflejeaaOffQ
import Derived.Deep.RegionLaw
import Derived.BigRegion
namespace Go.Proofs.Ytceoneigflejeaa
open Go.ChangeShapes Go.WideShapes Go.ChangeAt Go.RowKit
open Go.Lib (byteCells byteCells_length byteCells_append strCells)
set_option linter.unusedVariables false

/-- 'l = append(l, v, w)' within a region that draws its order. -/
theorem step_append_items {α : Type} {f : α → List Value} {sz bytes : Nat} {T E : TypeId} {z : Value} (hT : Try.prog.underlying T = some (.slice E)) (hinfo : (Try.prog.info? E).map (fun i => (i.zero, i.size, i.bytes)) = some (some z, sz, bytes)) (hz : z.cells.size = sz) (hsz : 0 < sz)
    (hl : ∀ a, (f a).length = sz) (h1 : ∀ a, ∀ u ∈ f a, u.oneCell' = true) (w : World)
    {ops : Array Oper} {o : Oper} {a : Act} {K : Act → World → Prop} {Q : Exit → Act → World → Prop} {F : Prop} (hgd : o.guard = none) (s x : Operand)
    (ho : o.op = .call { callee := .builtin .append, args := #[s, x], argTypes := #[T, T] })
    (B : Nat) (A : Option Addr) (n c : Nat) (l : List α) (hs : a.eval s = .slice A n c) (vs : List α) (m : Nat) (hm : m = vs.length) (hb : w.ownsRow B E sz (.slice A n c) n (l.flatMap f)) (hB : B ≤ w.heap.size)
    (ad : Addr) (c2 : Nat) (hx : a.eval x = .slice (some ad) m c2) (hnews : ∀ j u, (vs.flatMap f)[j]? = some u → w.cell? (ad.add j) = some u) (hlen : (n + m) * bytes ≤ 140737488355328) (hn : n + m ≤ maxLen)
    (h : ∀ A' c' w', w'.ownsRow B E sz (.slice A' (n + m) c') (n + m) ((l ++ vs).flatMap f) → Below B w w' → K (a.put o.dst (.slice A' (n + m) c')) w') :
    if Region.wanted o (yielded ops a.tmps) = true then Oper.wp Try.prog o a w K Q else F := by
  have hw : Region.wanted o (yielded ops a.tmps) = true := by simp [Region.wanted, hgd]
  rw [if_pos hw]
  obtain ⟨i0, hi, hz0, hz1, hz2⟩ := info_parts hinfo
  obtain ⟨v', w', hr, h2, h3, _, h5⟩ := run_append_own_at (P := Try.prog) w B T o.type E i0 _ sz bytes hT hi hz0 hz1 hz2 hz hsz (.slice A n c) n (l.flatMap f) hb ad m c2 (vs.flatMap f) (by rw [flat_length hl, hm]) hnews
    (fun u hu => by obtain ⟨v, _, hv⟩ := List.mem_flatMap.1 hu; exact h1 v u hv) hn hlen hB
  obtain ⟨A', c', rfl⟩ := own_slice h2
  unfold Oper.wp execOp
  simp only [ho, resolve, invoke, builtin, Sem.run_bind, Sem.run_pure, Result.andThen_ok, List.map_toArray, List.map_cons, List.map_nil, hs, hx, hr]
  exact h A' c' w' (by rw [List.flatMap_append]; exact h2) ((Below.refl B w).grown h3 hB (fun k e => (hb.lt k e).1))

theorem numsOf_next {l : List Rg} {k : Nat} (h : k < l.length) : numsOf (l.take (k + 1)) = numsOf (l.take k) ++ [l[k].f, l[k].t] := by
  unfold numsOf
  rw [List.take_succ_eq_append_getElem h, List.flatMap_append]
  simp only [List.flatMap_cons, List.flatMap_nil, List.append_nil]

set_option maxRecDepth 4000 in
set_option maxHeartbeats 2000000 in
theorem rpack_walk (l : List Rg) (A : Option Addr) (n c : Nat) (w : World) (hn : n = l.length) (hr : rightB l = true) (hat : RowC rgCells 2 w w.heap.size A l) :
    Calls Try.prog 19 #[.slice A n c] w fun e w' => e = .returned (.string (txt (listL intL (numsOf l)))) ∧ Below w.heap.size w w' := by
  have HN := Lib.hid hn
  have HA := Lib.hid hat
  have HP := Lib.hid (right_parts hr)
  have hn4 : n ≤ 4 := by have h1 := HP.out.2.1; omega
  clear hat hn hr
  go_enter Try.func19, Try.ntmps19
  go_wp2
  go_loopw [3, 4] (fun lv iv wr => ∃ (k m : Nat) (A2 : Option Addr) (c2 : Nat), k ≤ n ∧ iv = .int .i64 (k : Int) ∧ lv = .slice A2 m c2 ∧ Hid (m = 2 * k) ∧ m ≤ 8 ∧ Hid (wr.ownsRow w.heap.size 2 1 (.slice A2 m c2) m ((numsOf (l.take k)).flatMap iCells)) ∧ Hid (Below w.heap.size w wr)) (fun _ iv _ => n - (intOf iv).toNat)
  case atStart => exact ⟨0, 0, none, 0, Nat.zero_le _, rfl, rfl, Lib.hid rfl, by omega, Lib.hid (World.ownsRow_nil _ _ _ _), Lib.hid (Below.refl _ _)⟩
  case round =>
    obtain ⟨k, m, A2, c2, hk, rfl, rfl, HM, hm8, HO, HBel⟩ := hrel
    by_cases hlt : k < n
    · have hkl : k < l.length := by rw [← HN.out]; exact hlt
      obtain ⟨b, off, rfl, hB, hc⟩ := (HA.out.below HBel.out) k hkl
      have c0 := hc 0 _ rfl
      have c1 := hc 1 _ rfl
      rw [Nat.add_zero] at c0
      have HX := Lib.hid (numsOf_next hkl)
      obtain ⟨x, hx⟩ : ∃ x, l[k] = x := ⟨_, rfl⟩
      rw [hx] at HX
      simp only [hx] at c0 c1
      have HS := Lib.hid HBel.out.size
      have i1 : (0 : Int) ≤ (k : Int) := by omega
      have i2 : (k : Int) < (n : Int) := by omega
      have hm6 : m ≤ 6 := by have h1 := HM.out; omega
      clear hx hc hm8
      go_wp2_with fail
      go_region_law (first
        | (refine step_append_items Try.underlying54 infoI rfl (by decide) iCells_length iCells_one _ rfl _ _ rfl w.heap.size A2 m c2 (numsOf (l.take k)) rfl [x.f, x.t] 2 rfl (HO.out.alloc _) (by simp; exact Nat.le_succ_of_le HS.out) ⟨wr.heap.size, 0, none⟩ 2 rfl (new_cells wr [.int .i64 x.f, .int .i64 x.t] _) (by omega) (by unfold maxLen; omega) ?_
           intro A3 c3 w3 ho3 hb3
           have HO3 := Lib.hid ho3
           have HP3 := Lib.hid ((HBel.out.alloc HS.out _).drew.trans hb3)
           clear ho3 hb3))
      all_goals
        go_wp2
        go_roundw
        case rel => exact ⟨k + 1, m + 2, A3, c3, by omega, by go_num, rfl, Lib.hid (by rw [HM.out]; omega), by omega, Lib.hid (by rw [HX.out]; exact HO3.out), HP3⟩
        case measure => simp [intOf]; omega
    · have hkn : k = n := by omega
      subst hkn
      have HO2 := HO.out
      rw [List.take_of_length_le (by rw [← HN.out]; exact Nat.le_refl _)] at HO2
      have hrow := RowC.own iCells_length (by decide) HO2
      have hw64 := numsOf_in fun r hr => ok_wf (HP.out.2.2 r hr)
      have htot := listL_le (enc := intL) (m := 10) (l := numsOf l) (by rw [← hrow.1]; omega) (fun a ha => intL_len (hw64 a ha))
      have HC3 := Lib.hid (pnums_walk (numsOf l) hw64 (by rw [← hrow.1] at htot; omega) A2 m c2 wr hrow.1 (by omega) hrow.2)
      clear HO2 hrow hw64 htot
      go_wp2_with (go_at_call 25; refine HC3.out.mono ?_; rintro e w5 ⟨rfl, hbel5⟩; have HBel5 := Lib.hid (hop HBel.out hbel5); clear hbel5)
      go_ret
      exact ⟨rfl, HBel5.out⟩

/-- What the plain Unpack leaves. -/
def RUnpPost (o : Option (List Rg)) (w : World) (e : Ending) (w' : World) : Prop :=
  match o with
  | none => ∃ A n c, e = .returned (.tuple #[.slice A n c, .bool false]) ∧ Below w.heap.size w w'
  | some l => ∃ A c, e = .returned (.tuple #[.slice A l.length c, .bool true]) ∧ RowC rgCells 2 w' w'.heap.size A l ∧ Below w.heap.size w w'
theorem runp_no {w w' : World} {A : Option Addr} {n c : Nat} (h : Below w.heap.size w w') : RUnpPost none w (.returned (.tuple #[.slice A n c, .bool false])) w' := ⟨A, n, c, rfl, h⟩
theorem runp_yes {w w' : World} {l : List Rg} {A : Option Addr} {c n : Nat} (hn : n = l.length) (hr : RowC rgCells 2 w' w'.heap.size A l) (h : Below w.heap.size w w') : RUnpPost (some l) w (.returned (.tuple #[.slice A n c, .bool true])) w' := ⟨A, c, by rw [hn], hr, h⟩

set_option maxRecDepth 4000 in
set_option maxHeartbeats 4000000 in
theorem runpack_walk (s : ByteArray) (hs : s.size ≤ 16777216) (w : World) :
    Calls Try.prog 21 #[.string s] w (RUnpPost (unpO s.data.toList) w) := by
  have H := punnums_walk s hs w
  cases hu : whole rInt s.data.toList with
  | none =>
    rw [hu] at H
    rw [unpO_none hu]
    have HH := Lib.hid H
    clear H hu
    go_enter Try.func21, Try.ntmps21
    go_wp2_with (go_at_call 27; refine HH.out.mono ?_; rintro e w1 ⟨rfl, hb1⟩; have HB1 := Lib.hid hb1; clear hb1)
    go_ret2
    exact runp_no HB1.out
  | some xs =>
    rw [hu] at H
    have HU := Lib.hid hu
    have HH := Lib.hid H
    have HXL := Lib.hid (show xs.length ≤ 16777216 from (whole_only int_codec hu).2.1)
    clear H hu
    obtain ⟨N, hN⟩ : ∃ N, xs.length = N := ⟨_, rfl⟩
    have HN := Lib.hid hN
    have hN9 : N ≤ 16777216 := by rw [← hN]; exact HXL.out
    by_cases hodd : N % 2 = 0
    · obtain ⟨h, hh⟩ : ∃ h, N / 2 = h := ⟨_, rfl⟩
      have h2 : N = 2 * h := by omega
      have r1 : ((N : Int) % 2 != 0) = false := by rw [bne_eq_false_iff_eq]; omega
      have HL := Lib.hid (pairUp_len h xs (by omega))
      have HEV := Lib.hid (show xs.length % 2 = 0 by rw [hN]; exact hodd)
      by_cases h8 : 8 < N
      · rw [unpO_no HU.out (right_none (.inr (by rw [HL.out]; omega)))]
        have d8 : decide ((8 : Int) < (N : Int)) = true := decide_eq_true (by omega)
        clear hN hh h2
        go_enter Try.func21, Try.ntmps21
        go_wp2_with (go_at_call 27; refine HH.out.mono ?_; rintro e w1 ⟨A1, c1, rfl, ho1, hb1⟩; rw [HN.out]; have HB1 := Lib.hid hb1; clear hb1 ho1)
        go_ret2
        exact runp_no HB1.out
      · obtain ⟨L, hL⟩ : ∃ L, pairUp xs = L := ⟨_, rfl⟩
        have HYS := Lib.hid (fun hr => unpO_yes HU.out HEV.out hr)
        have HNO := Lib.hid (fun hr => unpO_no HU.out hr)
        rw [hL] at HL HYS HNO
        have HPG := Lib.hid (show ∀ (k : Nat) (h1 : 2 * k < xs.length) (h2 : 2 * k + 1 < xs.length) (hk : k < L.length), L[k] = ⟨xs[2 * k], xs[2 * k + 1]⟩ from fun k h1 h2 hk => by
          subst hL
          exact pairUp_get k xs hk h1 h2)
        have d8 : decide ((8 : Int) < (N : Int)) = false := decide_eq_false (by omega)
        have H2 := Lib.hid h2
        have hh4 : h ≤ 4 := by omega
        clear hL hN hh h2
        go_enter Try.func21, Try.ntmps21
        go_wp2_with (go_at_call 27; refine HH.out.mono ?_; rintro e w1 ⟨A1, c1, rfl, ho1, hb1⟩; have HI := Lib.hid (RowC.own iCells_length (by decide) ho1).2; rw [HN.out]; have HB1 := Lib.hid hb1; clear hb1 ho1)
        clear HH
        go_loopw [6, 7] (fun lv iv wr => ∃ (k m2 : Nat) (A : Option Addr) (c : Nat), k ≤ h ∧ Hid (2 * k = m2) ∧ iv = .int .i64 (m2 : Int) ∧ lv = .slice A k c ∧ m2 ≤ N ∧ Hid (wr.ownsRow w1.heap.size 26 2 (.slice A k c) k ((L.take k).flatMap rgCells)) ∧ Hid (Below w1.heap.size w1 wr)) (fun _ iv _ => N - (intOf iv).toNat)
        case atStart => exact ⟨0, 0, none, 0, Nat.zero_le _, Lib.hid rfl, rfl, rfl, Nat.zero_le _, Lib.hid (World.ownsRow_nil _ _ _ _), Lib.hid (Below.refl _ _)⟩
        case round =>
          obtain ⟨k, m2, A, c, hk, HM2, rfl, rfl, hm2N, HO, HBel⟩ := hrel
          have HS := Lib.hid HBel.out.size
          by_cases hlt : k < h
          · have hm2 := HM2.out
            have hN2 := H2.out
            have hxl : xs.length = N := HN.out
            have hm2l : m2 < xs.length := by omega
            have hm3l : m2 + 1 < xs.length := by omega
            obtain ⟨b, off, rfl, hB, hc⟩ := (HI.out.below HBel.out) m2 hm2l
            obtain ⟨b2, off2, e2, hB2, hd⟩ := (HI.out.below HBel.out) (m2 + 1) hm3l
            simp only [Option.some.injEq, Addr.mk.injEq, and_true] at e2
            obtain ⟨rfl, rfl⟩ := e2
            have c0 := hc 0 _ rfl
            have c1 := hd 0 _ rfl
            rw [Nat.add_zero, Nat.mul_one] at c0 c1
            have hkl : k < L.length := by rw [HL.out]; exact hlt
            have HX := Lib.hid (List.take_succ_eq_append_getElem hkl)
            rw [HPG.out k (by omega) (by omega) hkl] at HX
            simp only [hm2] at HX
            obtain ⟨x, hx⟩ : ∃ x, xs[m2] = x := ⟨_, rfl⟩
            obtain ⟨y, hy⟩ : ∃ y, xs[m2 + 1] = y := ⟨_, rfl⟩
            simp only [hx] at c0 HX
            simp only [hy] at c1 HX
            have s3 : IntKind.i64.wrap ((m2 : Int) + 1) = (m2 : Int) + 1 := by rw [IntKind.wrap_i64]; omega
            have s4 : IntKind.i64.wrap ((m2 : Int) + 2) = (m2 : Int) + 2 := by rw [IntKind.wrap_i64]; omega
            have i0 : (0 : Int) ≤ (m2 : Int) := by omega
            have i3 : (m2 : Int) < (N : Int) := by omega
            have i4 : (m2 : Int) + 1 < (N : Int) := by omega
            have i8 : (0 : Int) ≤ (m2 : Int) + 1 := by omega
            have i9 : ¬ ((m2 : Int) + 1 < 0) := by omega
            have i10 : ((m2 : Int) + 1).toNat = m2 + 1 := by omega
            have i5 : m2 < N := by omega
            have i6 : m2 + 1 < N := by omega
            have i7 : m2 + 2 ≤ N := by omega
            clear hm2 hN2 hxl hm2l hm3l hc hd hx hy hkl
            go_wp2_with fail
            go_region_law (first
              | (refine step_append_items Try.underlying22 infoRg rfl (by decide) rgCells_length rgCells_one _ rfl _ _ rfl w1.heap.size A k c (L.take k) rfl [⟨x, y⟩] 1 rfl (HO.out.alloc _) (by simp; exact Nat.le_succ_of_le HS.out) ⟨wr.heap.size, 0, none⟩ 1 rfl (new_cells wr [.int .i64 x, .int .i64 y] _) (by omega) (by unfold maxLen; omega) ?_
                 intro A3 c3 w3 ho3 hb3
                 have HO3 := Lib.hid ho3
                 have HP3 := Lib.hid ((HBel.out.alloc HS.out _).drew.trans hb3)
                 clear ho3 hb3))
            all_goals
              go_wp2
              exact ⟨⟨k + 1, m2 + 2, A3, c3, by omega, Lib.hid (by have := HM2.out; omega), by go_num, rfl, i7, Lib.hid (by rw [HX.out]; exact HO3.out), HP3⟩, by simp [intOf]; omega⟩
          · have hkh : k = h := by omega
            subst hkh
            have hmN : m2 = N := by have h1 := HM2.out; have h3 := H2.out; omega
            subst hmN
            have HO2 := HO.out
            rw [List.take_of_length_le (by rw [HL.out]; exact Nat.le_refl _)] at HO2
            have hrow := RowC.own rgCells_length (by decide) HO2
            have hb4 := hop HB1.out HBel.out
            have HC := right_walk L A k c wr hrow.1 (by unfold maxLen; omega) hrow.2
            have HRW := Lib.hid hrow
            have HB4 := Lib.hid hb4
            clear HO2 hrow hb4
            cases hr : rightB L with
            | true =>
              rw [hr] at HC
              have HC2 := Lib.hid HC
              have HY2 := Lib.hid (HYS.out hr)
              clear hr HC
              go_wp2_with (go_at_call 8; refine HC2.out.mono ?_; rintro e w5 ⟨rfl, hbel5⟩; have HB5 := Lib.hid hbel5; clear hbel5)
              go_ret2
              rw [HY2.out]
              exact runp_yes HRW.out.1 ((HRW.out.2.below HB5.out).more HB5.out.size) (hop HB4.out HB5.out)
            | false =>
              rw [hr] at HC
              have HC2 := Lib.hid HC
              have HY2 := Lib.hid (HNO.out hr)
              clear hr HC
              go_wp2_with (go_at_call 8; refine HC2.out.mono ?_; rintro e w5 ⟨rfl, hbel5⟩; have HB5 := Lib.hid hbel5; clear hbel5)
              go_ret2
              rw [HY2.out]
              exact runp_no (hop HB4.out HB5.out)
    · rw [unpO_odd HU.out (by rw [hN]; exact hodd)]
      have r1 : N % 2 = 1 := by omega
      clear hN
      go_enter Try.func21, Try.ntmps21
      go_wp2_with (go_at_call 27; refine HH.out.mono ?_; rintro e w1 ⟨A1, c1, rfl, ho1, hb1⟩; rw [HN.out]; have HB1 := Lib.hid hb1; clear hb1 ho1)
      go_ret2
      exact runp_no HB1.out
end Go.Proofs.Ytceoneigflejeaa
