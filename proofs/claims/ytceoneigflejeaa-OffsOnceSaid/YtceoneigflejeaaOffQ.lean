/- The walk of Unpack. -/
import Derived.Test.YtceoneigflejeaaOffP
import Derived.Test.YtceoneigflejeaaOffC5
import Derived.BigRegion
namespace Go.Proofs.Ytceoneigflejeaa
open Go.ChangeShapes Go.WideShapes Go.ChangeAt Go.RowKit
open Go.Lib (byteCells byteCells_length byteCells_append strCells)
set_option linter.unusedVariables false

def pairUp : List Int → List Rg
  | x :: y :: r => ⟨x, y⟩ :: pairUp r
  | _ => []
theorem pairUp_len : ∀ (h : Nat) (xs : List Int), xs.length = 2 * h → (pairUp xs).length = h
  | 0, xs, hx => by rw [List.eq_nil_of_length_eq_zero hx]; rfl
  | h + 1, x :: y :: r, hx => by
    have := pairUp_len h r (by simp at hx; omega)
    simp [pairUp, this]
  | h + 1, [x], hx => by simp at hx; omega
  | h + 1, [], hx => by simp at hx
theorem pairUp_nums : ∀ (l : List Rg), pairUp (numsOf l) = l
  | [] => rfl
  | r :: l => by
    have := pairUp_nums l
    unfold numsOf at *
    rw [List.flatMap_cons]
    simp only [List.cons_append, List.nil_append, pairUp, this]
theorem pairUp_get : ∀ (k : Nat) (xs : List Int) (h : k < (pairUp xs).length) (h1 : 2 * k < xs.length) (h2 : 2 * k + 1 < xs.length), (pairUp xs)[k] = ⟨xs[2 * k], xs[2 * k + 1]⟩
  | 0, x :: y :: r, _, _, _ => rfl
  | k + 1, x :: y :: r, h, h1, h2 => by
    have := pairUp_get k r (by simpa [pairUp] using h) (by simp at h1; omega) (by simp at h2; omega)
    simp only [pairUp, List.getElem_cons_succ, this, Nat.mul_add, Nat.mul_one]
  | _, [], h, _, _ => by simp [pairUp] at h
  | _, [x], h, _, _ => by simp [pairUp] at h
def unpO (bs : List UInt8) : Option (List Rg) :=
  match whole rInt bs with
  | none => none
  | some xs => if xs.length % 2 = 0 ∧ rightB (pairUp xs) = true then some (pairUp xs) else none
theorem unpO_none {bs : List UInt8} (h : whole rInt bs = none) : unpO bs = none := by unfold unpO; rw [h]
theorem unpO_odd {bs : List UInt8} {xs : List Int} (h : whole rInt bs = some xs) (hx : xs.length % 2 ≠ 0) : unpO bs = none := by
  unfold unpO; rw [h]; exact if_neg (fun e => hx e.1)
theorem unpO_no {bs : List UInt8} {xs : List Int} (h : whole rInt bs = some xs) (hx : rightB (pairUp xs) = false) : unpO bs = none := by
  unfold unpO; rw [h]; exact if_neg (fun e => by rw [hx] at e; exact absurd e.2 (by simp))
theorem unpO_yes {bs : List UInt8} {xs : List Int} (h : whole rInt bs = some xs) (hx : xs.length % 2 = 0) (hr : rightB (pairUp xs) = true) : unpO bs = some (pairUp xs) := by
  unfold unpO; rw [h]; exact if_pos ⟨hx, hr⟩

/-- The ranges that are laid, up to the k-th. -/
def rgK (l : List Rg) (k : Nat) : List Rg := l.take k ++ List.replicate (l.length - k) noRg
theorem rgK_zero (l : List Rg) : rgK l 0 = List.replicate l.length noRg := by simp [rgK]
theorem rgK_all {l : List Rg} {k : Nat} (h : l.length ≤ k) : rgK l k = l := by
  unfold rgK
  rw [List.take_of_length_le h, show l.length - k = 0 by omega]
  simp
theorem rgK_len {l : List Rg} {k : Nat} (h : k ≤ l.length) : (rgK l k).length = l.length := by
  unfold rgK
  rw [List.length_append, List.length_take, List.length_replicate]
  omega
theorem set_at {α : Type} (a c : List α) (x u : α) (m : Nat) (hm : m = a.length) : (a ++ x :: c).set m u = a ++ u :: c := by
  subst hm
  induction a with
  | nil => rfl
  | cons z a ih => simp only [List.cons_append, List.length_cons, List.set_cons_succ, ih]
theorem rgK_next {l : List Rg} {k : Nat} (h : k < l.length) : (rgK l k).set k l[k] = rgK l (k + 1) := by
  unfold rgK
  obtain ⟨m, hm⟩ : ∃ m, l.length - k = m + 1 := ⟨l.length - k - 1, by omega⟩
  have h3 : l.length - (k + 1) = m := by omega
  rw [hm, h3, List.replicate_succ, set_at _ _ _ _ _ (by rw [List.length_take]; omega), List.take_succ_eq_append_getElem h]
  simp only [List.append_assoc, List.cons_append, List.nil_append]
theorem rgflat_set : ∀ (l : List Rg) (k : Nat) (r : Rg), ((l.flatMap rgCells).set (2 * k) (.int .i64 r.f)).set (2 * k + 1) (.int .i64 r.t) = (l.set k r).flatMap rgCells
  | [], k, r => by simp
  | a :: l, 0, r => by simp [rgCells]
  | a :: l, k + 1, r => by
    have := rgflat_set l k r
    rw [List.flatMap_cons, List.set_cons_succ, List.flatMap_cons, ← this]
    simp only [rgCells, List.cons_append, List.nil_append, Nat.mul_add, Nat.mul_one, List.set_cons_succ]
theorem made_rgs (h : Nat) : (madeCells #[.int .i64 0, .int .i64 0] (h * 2)).toList = (List.replicate h noRg).flatMap rgCells := by
  apply List.ext_getElem?
  intro j
  have hl := flat_length rgCells_length (List.replicate h noRg)
  rw [List.length_replicate] at hl
  by_cases hj : j < h * 2
  · have h1 : (List.replicate h noRg)[j / 2]'(by simp; omega) = noRg := by simp
    have h2 := flat_at rgCells_length (List.replicate h noRg) (j / 2) (by simp; omega) (j % 2) (.int .i64 0) (by
      rw [h1]
      rcases Nat.mod_two_eq_zero_or_one j with e | e <;> rw [e] <;> rfl)
    rw [show j / 2 * 2 + j % 2 = j by omega] at h2
    rw [h2]
    rcases Nat.mod_two_eq_zero_or_one j with e | e <;> simp [madeCells, hj, e]
  · rw [List.getElem?_eq_none (by simp [size_madeCells]; omega), List.getElem?_eq_none (by omega)]

/-- What Unpack leaves. -/
def UnpPost (o : Option (List Rg)) (w : World) (e : Ending) (w' : World) : Prop :=
  ∃ A c, e = .returned (.tuple #[.slice A (o.getD []).length c, .int .i64 (if o.isSome then 0 else 80)]) ∧ RowC rgCells 2 w' w'.heap.size A (o.getD []) ∧ Below w.heap.size w w'

theorem unp_no {w w' : World} (h : Below w.heap.size w w') : UnpPost none w (.returned (.tuple #[.slice none 0 0, .int .i64 80])) w' := ⟨none, 0, rfl, RowC.nil _ _ _, h⟩
theorem unp_yes {w w' : World} {l : List Rg} {A : Option Addr} {c n : Nat} (hn : n = l.length) (hr : RowC rgCells 2 w' w'.heap.size A l) (h : Below w.heap.size w w') : UnpPost (some l) w (.returned (.tuple #[.slice A n c, .int .i64 0])) w' := ⟨A, c, by rw [hn]; rfl, hr, h⟩

set_option maxRecDepth 4000 in
set_option maxHeartbeats 4000000 in
theorem unpack_walk (bs : List UInt8) (A : Option Addr) (n c : Nat) (w : World) (hn : n = bs.length) (hc : n ≤ c) (hcm : c ≤ maxLen) (hl : n ≤ 16777216) (hb : BytesAt w w.heap.size A bs) :
    Calls Try.prog 20 #[.slice A n c] w (UnpPost (unpO bs) w) := by
  have H := unnums_walk bs A n c w hn hc hcm hl hb
  cases hu : whole rInt bs with
  | none =>
    rw [hu] at H
    rw [unpO_none hu]
    have HH := Lib.hid H
    clear H hb hn hc hcm hl hu
    go_enter Try.func20, Try.ntmps20
    go_wp2_with (go_at_call 26; refine HH.out.mono ?_; rintro e w1 ⟨rfl, hb1⟩; have HB1 := Lib.hid hb1; clear hb1)
    go_ret2
    exact unp_no HB1.out
  | some xs =>
    rw [hu] at H
    have HU := Lib.hid hu
    have HH := Lib.hid H
    have HXL := Lib.hid (show xs.length ≤ 16777216 from (whole_only int_codec hu).2.1)
    have HXW := Lib.hid (show ∀ x ∈ xs, in64 x from (whole_only int_codec hu).2.2)
    clear H hb hn hc hcm hl hu
    obtain ⟨N, hN⟩ : ∃ N, xs.length = N := ⟨_, rfl⟩
    have HN := Lib.hid hN
    by_cases hodd : N % 2 = 0
    · have hN9 : N ≤ 16777216 := by rw [← hN]; exact HXL.out
      obtain ⟨h, hh⟩ : ∃ h, N / 2 = h := ⟨_, rfl⟩
      have h2 : N = 2 * h := by omega
      have HL := Lib.hid (pairUp_len h xs (by omega))
      have HG := Lib.hid (pairUp_get · xs)
      have HEV := Lib.hid (show xs.length % 2 = 0 by rw [hN]; exact hodd)
      obtain ⟨L, hL⟩ : ∃ L, pairUp xs = L := ⟨_, rfl⟩
      have HYS := Lib.hid (fun hr => unpO_yes HU.out HEV.out hr)
      have HNO := Lib.hid (fun hr => unpO_no HU.out hr)
      rw [hL] at HL HYS HNO
      have HPG := Lib.hid (show ∀ (k : Nat) (h1 : 2 * k < xs.length) (h2 : 2 * k + 1 < xs.length) (hk : k < L.length), L[k] = ⟨xs[2 * k], xs[2 * k + 1]⟩ from fun k h1 h2 hk => by
        subst hL
        exact pairUp_get k xs hk h1 h2)
      clear HG hL
      obtain ⟨i0, hi, hz0, hz1, hz2⟩ := info_parts infoRg
      obtain ⟨M, hM⟩ : ∃ M, madeCells #[.int .i64 0, .int .i64 0] (h * 2) = M := ⟨_, rfl⟩
      have hmk : ∀ W : World, (Instr.makeSlice 22 (.int .i64 (h : Int)) (.int .i64 (h : Int))).run Try.prog W = .ok (.slice (some ⟨W.heap.size, 0, none⟩) h h) (W.alloc (.cells M 26)) := fun W => by
        have h := run_make (P := Try.prog) W 22 26 i0 _ Try.underlying22 hi hz0 .i64 .i64 (h : Int) (h : Int) (by omega) (by omega) (by rw [hz2]; omega) (by omega)
        rw [hz1] at h
        simp only [Int.toNat_natCast] at h
        rw [h, ← hM]
        rfl
      have hML : M.toList = (rgK L 0).flatMap rgCells := by rw [← hM, made_rgs, rgK_zero, HL.out]
      have HROW := Lib.hid (fun (W : World) (hw : w.heap.size ≤ W.heap.size) => World.ownsRow_lit (e := 26) (size := 2) W M h hw (by unfold maxLen; omega) (by rw [← hM, size_madeCells]))
      rw [hML] at HROW
      have r1 : ((N : Int) % 2 != 0) = false := by rw [bne_eq_false_iff_eq]; omega
      have d1 : (N : Int) / 2 = (h : Int) := by omega
      have H2 := Lib.hid h2
      clear hi hz0 hz1 hz2 hM hML hh h2 hN
      go_enter Try.func20, Try.ntmps20
      go_wp2_with (go_at_call 26; refine HH.out.mono ?_; rintro e w1 ⟨A1, c1, rfl, ho1, hb1⟩; have HI := Lib.hid (RowC.own iCells_length (by decide) ho1).2; rw [HN.out]; have HB1 := Lib.hid hb1; clear hb1 ho1)
      have HR0 := Lib.hid (HROW.out w1 HB1.out.size)
      have HBW := Lib.hid ((Below.refl w1.heap.size w1).alloc (Nat.le_refl _) (.cells M 26))
      have HG := Lib.hid HB1.out.size
      obtain ⟨g, hg⟩ : ∃ g, w1.heap.size = g := ⟨_, rfl⟩
      have HGE := Lib.hid hg
      rw [hg] at HR0 HG HI ⊢
      clear hg hmk HH HROW
      go_loopw [28] (fun iv wr => ∃ k : Nat, k ≤ h ∧ iv = .int .i64 (k : Int) ∧ Hid (wr.ownsRow w.heap.size 26 2 (.slice (some ⟨g, 0, none⟩) h h) h ((rgK L k).flatMap rgCells)) ∧ Hid (Below w1.heap.size w1 wr)) (fun iv _ => h - (intOf iv).toNat)
      case atStart => exact ⟨0, Nat.zero_le _, rfl, HR0, HBW⟩
      case round =>
        obtain ⟨k, hk, rfl, HO, HBel⟩ := hrel
        by_cases hlt : k < h
        · obtain ⟨m2, hm2⟩ : ∃ m2, 2 * k = m2 := ⟨_, rfl⟩
          have hN2 := H2.out
          have hxl : xs.length = N := HN.out
          have hm2l : m2 < xs.length := by omega
          have hm3l : m2 + 1 < xs.length := by omega
          obtain ⟨b, off, rfl, hB, hc⟩ := (HI.out.below (by have := HBel.out; rwa [HGE.out] at this)) m2 hm2l
          obtain ⟨b2, off2, e2, hB2, hd⟩ := (HI.out.below (by have := HBel.out; rwa [HGE.out] at this)) (m2 + 1) hm3l
          simp only [Option.some.injEq, Addr.mk.injEq, and_true] at e2
          obtain ⟨rfl, rfl⟩ := e2
          have c0 := hc 0 _ rfl
          have c1 := hd 0 _ rfl
          rw [Nat.add_zero, Nat.mul_one] at c0 c1
          have hkl : k < L.length := by rw [HL.out]; exact hlt
          have HX := Lib.hid (rgK_next hkl)
          rw [HPG.out k (by omega) (by omega) hkl] at HX
          simp only [hm2] at HX
          obtain ⟨x, hx⟩ : ∃ x, xs[m2] = x := ⟨_, rfl⟩
          obtain ⟨y, hy⟩ : ∃ y, xs[m2 + 1] = y := ⟨_, rfl⟩
          simp only [hx] at c0 HX
          simp only [hy] at c1 HX
          have i1 : (0 : Int) ≤ (k : Int) := by omega
          have i2 : (k : Int) < (h : Int) := by omega
          have s2 : IntKind.i64.wrap (2 * (k : Int)) = (m2 : Int) := by rw [IntKind.wrap_i64]; omega
          have s3 : IntKind.i64.wrap ((m2 : Int) + 1) = (m2 : Int) + 1 := by rw [IntKind.wrap_i64]; omega
          have i3 : (m2 : Int) < (N : Int) := by omega
          have i4 : (m2 : Int) + 1 < (N : Int) := by omega
          have i5 : m2 < N := by omega
          have i6 : m2 + 1 < N := by omega
          have hcl : ((rgK L k).flatMap rgCells).length = h * 2 := by rw [flat_length rgCells_length, rgK_len (by omega), HL.out]
          have z0 := HO.out.frozenAt (k * 2)
          have z1 := HO.out.frozenAt (k * 2 + 1)
          obtain ⟨u0, y0⟩ : ∃ u, wr.cell? ⟨g, k * 2, none⟩ = some u := ⟨_, (HO.out.cellAt (k * 2) (by omega)).trans (List.getElem?_eq_getElem (by omega))⟩
          obtain ⟨u1, y1⟩ : ∃ u, wr.cell? ⟨g, k * 2 + 1, none⟩ = some u := ⟨_, (HO.out.cellAt (k * 2 + 1) (by omega)).trans (List.getElem?_eq_getElem (by omega))⟩
          have y2 : (wr.setCell ⟨g, k * 2, none⟩ (.int .i64 x)).cell? ⟨g, k * 2 + 1, none⟩ = some u1 := by rw [World.cell?_setCell_other _ _ _ _ (by simp)]; exact y1
          have hbg : b ≠ g := by omega
          clear hm2 hN2 hxl hm2l hm3l hc hd hx hy hkl hcl
          go_wp2_with fail
          go_region
          go_wp2
          have hst := ((HO.out.stored (k * 2) (.int .i64 x)).1.stored (k * 2 + 1) (.int .i64 y)).1
          have hge : w1.heap.size ≤ g := Nat.le_of_eq HGE.out
          have hbl := ((HBel.out.setCell (p := ⟨g, k * 2, none⟩) hge (.int .i64 x)).setCell (p := ⟨g, k * 2 + 1, none⟩) hge (.int .i64 y)).drew
          have hxs := rgflat_set (rgK L k) k ⟨x, y⟩
          rw [HX.out, Nat.mul_comm 2 k] at hxs
          simp only at hxs
          rw [hxs] at hst
          exact ⟨⟨k + 1, by omega, by go_num, Lib.hid hst, Lib.hid hbl⟩, by simp [intOf]; omega⟩
        · have hkh : k = h := by omega
          subst hkh
          have HO2 := HO.out
          rw [rgK_all (by rw [HL.out]; exact Nat.le_refl _)] at HO2
          have hrow := RowC.own rgCells_length (by decide) HO2
          have hb4 := hop HB1.out HBel.out
          have HC := check_walk L _ k k wr hrow.1 (by unfold maxLen; omega) hrow.2
          have HRW := Lib.hid hrow
          have HB4 := Lib.hid hb4
          clear HO2 hrow hb4
          cases hr : rightB L with
          | true =>
            rw [chkO_yes hr] at HC
            have HC2 := Lib.hid HC
            have HY2 := Lib.hid (HYS.out hr)
            clear hr HC
            go_wp2_with (go_at_call 9; refine HC2.out.mono ?_; rintro e w5 ⟨rfl, hbel5⟩; have HB5 := Lib.hid hbel5; clear hbel5)
            go_ret2
            rw [HY2.out]
            exact unp_yes HRW.out.1 ((HRW.out.2.below HB5.out).more HB5.out.size) (hop HB4.out HB5.out)
          | false =>
            rw [chkO_no hr] at HC
            have HC2 := Lib.hid HC
            have HY2 := Lib.hid (HNO.out hr)
            clear hr HC
            go_wp2_with (go_at_call 9; refine HC2.out.mono ?_; rintro e w5 ⟨rfl, hbel5⟩; have HB5 := Lib.hid hbel5; clear hbel5)
            go_ret2
            rw [HY2.out]
            exact unp_no (hop HB4.out HB5.out)
    · rw [unpO_odd HU.out (by rw [hN]; exact hodd)]
      have r1 : N % 2 = 1 := by omega
      have hN9 : N ≤ 16777216 := by rw [← hN]; exact HXL.out
      clear hN
      go_enter Try.func20, Try.ntmps20
      go_wp2_with (go_at_call 26; refine HH.out.mono ?_; rintro e w1 ⟨A1, c1, rfl, ho1, hb1⟩; rw [HN.out]; have HB1 := Lib.hid hb1; clear hb1 ho1)
      go_ret2
      exact unp_no HB1.out
end Go.Proofs.Ytceoneigflejeaa
