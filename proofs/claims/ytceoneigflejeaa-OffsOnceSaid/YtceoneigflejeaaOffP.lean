/- The walk of Pack. -/
import Derived.Test.YtceoneigflejeaaOffA2
import Derived.Test.YtceoneigflejeaaOffC4
import Derived.BigRegion
namespace Go.Proofs.Ytceoneigflejeaa
open Go.ChangeShapes Go.WideShapes Go.ChangeAt Go.RowKit
open Go.Lib (byteCells byteCells_length byteCells_append strCells)
set_option linter.unusedVariables false

/-- The numbers of ranges, two by two. -/
def numsOf (l : List Rg) : List Int := l.flatMap fun r => [r.f, r.t]
theorem numsOf_len (l : List Rg) : (numsOf l).length = 2 * l.length := by
  induction l with
  | nil => rfl
  | cons r l ih => simp [numsOf] at *; omega
theorem numsOf_in {l : List Rg} (h : ∀ r ∈ l, r.wf) : ∀ n ∈ numsOf l, in64 n := by
  intro n hn
  obtain ⟨r, hr, h2⟩ := List.mem_flatMap.1 hn
  simp at h2
  rcases h2 with rfl | rfl
  · exact (h r hr).1
  · exact (h r hr).2
theorem ok_wf {r : Rg} (h : okB r = true) : r.wf := by
  have := (okB_iff r).1 h
  exact ⟨by unfold in64; omega, by unfold in64; omega⟩
/-- The numbers that are laid, up to the k-th range. -/
def laidK (l : List Rg) (k : Nat) : List Int := numsOf (l.take k) ++ List.replicate (2 * (l.length - k)) 0
theorem laidK_zero (l : List Rg) : laidK l 0 = List.replicate (2 * l.length) 0 := by simp [laidK, numsOf]
theorem laidK_all {l : List Rg} {k : Nat} (h : l.length ≤ k) : laidK l k = numsOf l := by
  unfold laidK
  rw [List.take_of_length_le h, show l.length - k = 0 by omega]
  simp
theorem laidK_len {l : List Rg} {k : Nat} (h : k ≤ l.length) : (laidK l k).length = 2 * l.length := by
  unfold laidK
  rw [List.length_append, numsOf_len, List.length_take, List.length_replicate]
  omega
theorem set_mid {α : Type} (a c : List α) (x y u v : α) (m : Nat) (hm : m = a.length) : ((a ++ x :: y :: c).set m u).set (m + 1) v = a ++ u :: v :: c := by
  subst hm
  induction a with
  | nil => rfl
  | cons z a ih => simp only [List.cons_append, List.length_cons, List.set_cons_succ, ih]
theorem laidK_next {l : List Rg} {k : Nat} (h : k < l.length) : ((laidK l k).set (2 * k) l[k].f).set (2 * k + 1) l[k].t = laidK l (k + 1) := by
  unfold laidK
  obtain ⟨m, hm⟩ : ∃ m, l.length - k = m + 1 := ⟨l.length - k - 1, by omega⟩
  have h2 : 2 * (l.length - k) = (2 * m) + 1 + 1 := by omega
  have h3 : l.length - (k + 1) = m := by omega
  rw [h2, h3, List.replicate_succ, List.replicate_succ, set_mid _ _ _ _ _ _ _ (by rw [numsOf_len, List.length_take]; omega), List.take_succ_eq_append_getElem h]
  unfold numsOf
  rw [List.flatMap_append]
  simp only [List.flatMap_cons, List.flatMap_nil, List.append_assoc, List.cons_append, List.nil_append, List.append_nil]
theorem iflat (l : List Int) : l.flatMap iCells = l.map (fun n => Value.int .i64 n) := by
  induction l with
  | nil => rfl
  | cons a l ih => rw [List.flatMap_cons, List.map_cons, ih]; rfl
theorem infoI : (Try.prog.info? 2).map (fun i => (i.zero, i.size, i.bytes)) = some (some (Value.int .i64 0), 1, 8) := by kernel_rfl

/-- What Pack leaves. -/
def PackPost (l : List Rg) (w : World) (e : Ending) (w' : World) : Prop :=
  (rightB l = true → ∃ A n c, e = .returned (.tuple #[.slice A n c, .int .i64 0]) ∧ Buf w.heap.size A n c (listL intL (numsOf l)) w' ∧ Below w.heap.size w w') ∧
  (rightB l = false → e = .returned (.tuple #[.slice none 0 0, .int .i64 80]) ∧ Below w.heap.size w w')

set_option maxRecDepth 4000 in
set_option maxHeartbeats 4000000 in
theorem pack_walk (l : List Rg) (A : Option Addr) (n c : Nat) (w : World) (hn : n = l.length) (hm : n ≤ maxLen) (hat : RowC rgCells 2 w w.heap.size A l) :
    Calls Try.prog 18 #[.slice A n c] w (PackPost l w) := by
  have HN := Lib.hid hn
  have HA := Lib.hid hat
  have HC := Lib.hid (check_walk l A n c w hn hm hat)
  have hn9 : n ≤ 9223372036854775807 := by unfold maxLen at hm; omega
  unfold PackPost
  clear hat hn hm
  cases hr : rightB l with
  | false =>
    have HE := Lib.hid (chkO_no hr)
    rw [HE.out] at HC
    clear hr
    go_enter Try.func18, Try.ntmps18
    go_wp2_with (go_at_call 9; refine HC.out.mono ?_; rintro e w1 ⟨rfl, hb1⟩; have HB := Lib.hid hb1; clear hb1)
    go_ret2
    exact ⟨(fun h => by cases h), fun _ => ⟨rfl, HB.out⟩⟩
  | true =>
    have HE := Lib.hid (chkO_yes hr)
    rw [HE.out] at HC
    have HP := Lib.hid (right_parts hr)
    have hn4 : n ≤ 4 := by have h1 := HP.out.2.1; have h2 := HN.out; omega
    have hn1 : 1 ≤ n := by have h1 := HP.out.1; have h2 := HN.out; omega
    obtain ⟨N2, hN2⟩ : ∃ N2, 2 * n = N2 := ⟨_, rfl⟩
    have HN2 := Lib.hid hN2
    obtain ⟨i0, hi, hz0, hz1, hz2⟩ := info_parts infoI
    obtain ⟨M, hM⟩ : ∃ M, madeCells #[.int .i64 0] N2 = M := ⟨_, rfl⟩
    have hmk : ∀ W : World, (Instr.makeSlice 54 (.int .i64 (N2 : Int)) (.int .i64 (N2 : Int))).run Try.prog W = .ok (.slice (some ⟨W.heap.size, 0, none⟩) N2 N2) (W.alloc (.cells M 2)) := fun W => by
      have h := run_make (P := Try.prog) W 54 2 i0 _ Try.underlying54 hi hz0 .i64 .i64 (N2 : Int) (N2 : Int) (by omega) (by omega) (by rw [hz2]; omega) (by omega)
      rw [hz1] at h
      simp only [Int.toNat_natCast, Nat.mul_one] at h
      rw [h, ← hM]
      rfl
    have hML : M.toList = (laidK l 0).flatMap iCells := by
      rw [← hM, toList_madeCells_one, laidK_zero, iflat, List.map_replicate, ← HN.out, hN2]
    have HROW := Lib.hid (fun (W : World) (h : w.heap.size ≤ W.heap.size) => World.ownsRow_lit (e := 2) (size := 1) W M N2 h (by unfold maxLen; omega) (by rw [← hM, size_madeCells, Nat.mul_one]))
    rw [hML] at HROW
    have s1 : IntKind.i64.wrap (2 * (n : Int)) = (N2 : Int) := by rw [IntKind.wrap_i64]; omega
    clear hr hi hz0 hz1 hz2 hM hML hN2
    go_enter Try.func18, Try.ntmps18
    go_wp2_with (go_at_call 9; refine HC.out.mono ?_; rintro e w1 ⟨rfl, hb1⟩; have HB := Lib.hid hb1; clear hb1)
    have HR0 := Lib.hid (HROW.out w1 HB.out.size)
    have HB1 := Lib.hid (HB.out.alloc HB.out.size (.cells M 2))
    have HG := Lib.hid HB.out.size
    obtain ⟨g, hg⟩ : ∃ g, w1.heap.size = g := ⟨_, rfl⟩
    rw [hg] at HR0 HG ⊢
    clear hg hmk HC HROW
    go_loopw [18] (fun iv wr => ∃ k : Nat, k ≤ n ∧ iv = .int .i64 (k : Int) ∧ Hid (wr.ownsRow w.heap.size 2 1 (.slice (some ⟨g, 0, none⟩) N2 N2) N2 ((laidK l k).flatMap iCells)) ∧ Hid (Below w.heap.size w wr)) (fun iv _ => n - (intOf iv).toNat)
    case atStart => exact ⟨0, Nat.zero_le _, rfl, HR0, HB1⟩
    case round =>
      obtain ⟨k, hk, rfl, HO, HBel⟩ := hrel
      by_cases hlt : k < n
      · have hkl : k < l.length := by rw [← HN.out]; exact hlt
        obtain ⟨b, off, rfl, hB, hc⟩ := (HA.out.below HBel.out) k hkl
        have c0 := hc 0 _ rfl
        have c1 := hc 1 _ rfl
        rw [Nat.add_zero] at c0
        have HX := Lib.hid (laidK_next hkl)
        obtain ⟨x, hx⟩ : ∃ x, l[k] = x := ⟨_, rfl⟩
        rw [hx] at HX
        simp only [hx] at c0 c1
        have i1 : (0 : Int) ≤ (k : Int) := by omega
        have i2 : (k : Int) < (n : Int) := by omega
        obtain ⟨m2, hm2⟩ : ∃ m2, 2 * k = m2 := ⟨_, rfl⟩
        have hN2 := HN2.out
        have s2 : IntKind.i64.wrap (2 * (k : Int)) = (m2 : Int) := by rw [IntKind.wrap_i64]; omega
        have s3 : IntKind.i64.wrap ((m2 : Int) + 1) = (m2 : Int) + 1 := by rw [IntKind.wrap_i64]; omega
        have i3 : (m2 : Int) < (N2 : Int) := by omega
        have i4 : (m2 : Int) + 1 < (N2 : Int) := by omega
        have i5 : m2 < N2 := by omega
        have i6 : m2 + 1 < N2 := by omega
        have z0 := HO.out.frozenAt m2
        have z1 := HO.out.frozenAt (m2 + 1)
        have hxl : ((laidK l k).flatMap iCells).length = N2 := by rw [flat_length iCells_length, laidK_len (by omega), ← HN.out, hN2, Nat.mul_one]
        obtain ⟨u0, y0⟩ : ∃ u, wr.cell? ⟨g, m2, none⟩ = some u := ⟨_, (HO.out.cellAt m2 (by omega)).trans (List.getElem?_eq_getElem (by omega))⟩
        obtain ⟨u1, y1⟩ : ∃ u, wr.cell? ⟨g, m2 + 1, none⟩ = some u := ⟨_, (HO.out.cellAt (m2 + 1) (by omega)).trans (List.getElem?_eq_getElem (by omega))⟩
        have y2 : (wr.setCell ⟨g, m2, none⟩ (.int .i64 x.f)).cell? ⟨g, m2 + 1, none⟩ = some u1 := by rw [World.cell?_setCell_other _ _ _ _ (by simp)]; exact y1
        have HM2 := Lib.hid hm2
        clear hm2 hxl
        clear hx hc
        go_wp2_with fail
        go_region
        go_wp2
        have hst := ((HO.out.stored m2 (.int .i64 x.f)).1.stored (m2 + 1) (.int .i64 x.t)).1
        have hbl := ((HBel.out.setCell (p := ⟨g, m2, none⟩) HG.out (.int .i64 x.f)).setCell (p := ⟨g, m2 + 1, none⟩) HG.out (.int .i64 x.t)).drew
        have hxs : (((laidK l k).flatMap iCells).set m2 (.int .i64 x.f)).set (m2 + 1) (.int .i64 x.t) = (laidK l (k + 1)).flatMap iCells := by
          rw [← HX.out, iflat, iflat, List.map_set, List.map_set, HM2.out]
        rw [hxs] at hst
        exact ⟨⟨k + 1, by omega, by go_num, Lib.hid hst, Lib.hid hbl⟩, by simp [intOf]; omega⟩
      · have hkn : k = n := by omega
        subst hkn
        have HO2 := HO.out
        rw [laidK_all (by rw [← HN.out]; exact Nat.le_refl _)] at HO2
        have HN3 := HN2.out
        have hrow := RowC.own iCells_length (by decide) HO2
        have HC3 := Lib.hid (nums_walk (numsOf l) (numsOf_in fun r hr => ok_wf (HP.out.2.2 r hr)) _ N2 N2 wr hrow.1 (by omega) hrow.2)
        clear HO2 HN3 hrow
        go_wp2_with (go_at_call 24; refine HC3.out.mono ?_; rintro e w5 ⟨A5, n5, c5, rfl, hb5, hbel5⟩; have HB5 := Lib.hid hb5; have HBel5 := Lib.hid (hop HBel.out hbel5); clear hb5 hbel5)
        have hs5 := HBel.out.size
        go_ret2
        exact ⟨(fun _ => ⟨A5, n5, c5, rfl, HB5.out.more hs5, HBel5.out⟩), fun h => by cases h⟩
end Go.Proofs.Ytceoneigflejeaa
