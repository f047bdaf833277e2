/- The statement NumOrders: the walks. -/
import Derived.Test.YtnfffkppgfokcaaNumLaws
import Derived.Test.YtnfffkppgfokcaaListPlain
import Derived.LoopTactic
namespace Go.Proofs.Ytnfffkppgfokcaa
open Go.ChangeShapes Go.WideShapes Go.ChangeAt Go.RowKit

/-- A variable of the type Sum in block b that stands for x. -/
structure SumAt (w : World) (b : Nat) (x : Int) : Prop where
  c0 : w.cell? ⟨b, 0, none⟩ = some (.int .i64 (hiZ x))
  c1 : w.cell? ⟨b, 1, none⟩ = some (.int .u64 (loZ x))
  f0 : w.frozen? ⟨b, 0, none⟩ = false
  f1 : w.frozen? ⟨b, 1, none⟩ = false
theorem SumAt.later {w w1 : World} {b : Nat} {x : Int} (h : SumAt w b x) (hb : Below w.heap.size w w1) : SumAt w1 b x :=
  ⟨cell_later hb h.c0, cell_later hb h.c1, frozen_later hb h.c0 h.f0, frozen_later hb h.c1 h.f1⟩
theorem SumAt.drew {w : World} {b : Nat} {x : Int} (h : SumAt w b x) : SumAt w.drew b x := ⟨h.c0, h.c1, h.f0, h.f1⟩
theorem SumAt.lt {w : World} {b : Nat} {x : Int} (h : SumAt w b x) : b < w.heap.size := World.block_lt_of_cell? _ _ h.c0
theorem SumAt.far {w : World} {b : Nat} {x : Int} (h : SumAt w b x) {g o : Nat} (v : Value) (hg : g ≠ b) : SumAt (w.setCell ⟨g, o, none⟩ v) b x :=
  ⟨by rw [World.cell?_setCell_far _ _ _ _ hg]; exact h.c0, by rw [World.cell?_setCell_far _ _ _ _ hg]; exact h.c1, by simp [h.f0], by simp [h.f1]⟩
theorem SumAt.put {w : World} {b : Nat} {x : Int} (h : SumAt w b x) (y : Int) : SumAt ((w.setCell ⟨b, 0, none⟩ (.int .i64 (hiZ y))).setCell ⟨b, 1, none⟩ (.int .u64 (loZ y))) b y :=
  ⟨by rw [World.cell?_setCell_other _ _ _ _ (by simp)]; exact World.cell?_setCell_same _ _ _ h.c0,
    World.cell?_setCell_same _ _ _ (by rw [World.cell?_setCell_other _ _ _ _ (by simp)]; exact h.c1), by simp [h.f0], by simp [h.f1]⟩
/-- The sum of a list of numbers. -/
def sumZ : List Int → Int
  | [] => 0
  | a :: l => a + sumZ l
theorem sumZ_append (l m : List Int) : sumZ (l ++ m) = sumZ l + sumZ m := by
  induction l with
  | nil => simp [sumZ]
  | cons a l ih => simp [sumZ, ih]; omega
theorem sumZ_snoc (l : List Int) (k : Nat) (h : k < l.length) : sumZ (l.take (k + 1)) = sumZ (l.take k) + l.getD k 0 := by
  rw [take_snoc l k h, sumZ_append]; simp [sumZ]
theorem sumZ_drop (l : List Int) (M m : Nat) (hm : m < M) (hM : M ≤ l.length) : sumZ ((l.take M).drop m) = sumZ ((l.take M).drop (m + 1)) + l.getD m 0 := by
  have h1 : m < (l.take M).length := by simp; omega
  rw [List.drop_eq_getElem_cons h1]
  simp [sumZ, List.getD, List.getElem?_eq_getElem (show m < l.length by omega)]
  omega

theorem sumZ_end (l : List Int) (M : Nat) : sumZ ((l.take M).drop M) = 0 := by
  rw [List.drop_eq_nil_of_le (by rw [List.length_take]; omega)]; rfl

/-- What the first loop keeps. -/
structure Parts (w wr : World) (n : Nat) (x y d : Int) : Prop where
  bel : Below w.heap.size w wr
  a : SumAt wr n (x + y)
  b : SumAt wr (n + 1) x
  c : SumAt wr (n + 1 + 1) y
  d : SumAt wr (n + 1 + 1 + 1) d

set_option maxRecDepth 100000 in
set_option maxHeartbeats 4000000 in
theorem orders_some (b off len cap : Nat) (zs : List Int) (cut : Int) (w : World) (h : IntsAt .i64 w b off len zs) (hB : b < w.heap.size) (hz : ∀ n ∈ zs, In64 n) (hcut : 0 ≤ cut ∧ cut ≤ 255) :
    Calls Try.prog 8 #[.slice (some ⟨b, off, none⟩) len cap, .int .u8 cut] w fun e w' => e = .returned (.bool true) ∧ Below w.heap.size w w' := by
  obtain ⟨hl, hm, hc⟩ := h
  obtain ⟨q0, q1⟩ := hcut
  have HC := Lib.hid hc
  have HZ := Lib.hid hz

  clear hc hz
  go_enter Try.func8, Try.ntmps8
  go_wp2_with fail
  refine (alive_any _).mono ?_
  rintro e w1 ⟨rfl, hb1⟩
  have hs1 := hb1.size
  go_wp2
  go_loopw [9] (fun i wr => ∃ k : Nat, ∃ x y : Int, k ≤ len ∧ k ≤ 300 ∧ i = .int .i64 k ∧ x + y = sumZ (zs.take k) ∧ Parts w wr w1.heap.size x y 0) (fun i _ => len - (intOf i).toNat)
  case atStart =>
    refine ⟨0, 0, 0, Nat.zero_le _, Nat.zero_le _, rfl, rfl, ?_⟩
    refine ⟨((((hb1.alloc hs1 _).alloc (by simp; omega) _).alloc (by simp; omega) _).alloc (by simp; omega) _), ?_, ?_, ?_, ?_⟩
    all_goals exact ⟨by simp [go_sem]; rfl, by simp [go_sem]; rfl, by simp [go_sem], by simp [go_sem]⟩
  case round =>
    obtain ⟨k, x, y, hk, hk3, rfl, hxy, hP⟩ := hrel
    obtain ⟨hbel, A, B, C, D⟩ := hP
    by_cases hlt : k < len
    · by_cases h3 : k < 300
      · have hcell : wr.cell? ⟨b, off + k, none⟩ = some (.int .i64 (zs.getD k 0)) := (hbel.cell (p := ⟨b, off + k, none⟩) hB).trans (HC.out k (by omega))
        have hzk : In64 (zs.getD k 0) := by
          refine HZ.out _ ?_
          simp [List.getD, List.getElem?_eq_getElem (show k < zs.length by omega)]
        have HS := Lib.hid (sumZ_snoc zs k (by omega))
        have HXY := Lib.hid hxy
        clear hxy
        obtain ⟨z, hzd⟩ : ∃ z, zs.getD k 0 = z := ⟨_, rfl⟩
        rw [hzd] at hcell hzk HS
        clear hzd
        obtain ⟨A0, A1, A2, A3⟩ := A
        go_wp2_with fail
        go_region_with (go_at_call 19; refine (add_any (x + y) z hzk _).mono ?_; rintro e w2 ⟨rfl, hb⟩; have Z2 := cell_later hb hcell; have A20 := cell_later hb A0; have A21 := cell_later hb A1; have A22 := frozen_later hb A0 A2; have A23 := frozen_later hb A1 A3; have B2 := B.drew.later hb; have C2 := C.drew.later hb; have D2 := D.drew.later hb)
        all_goals
          have hbel2 : Below w.heap.size w w2 := (hbel.drew).trans (hb.mono (by have := hbel.size; simpa using this))
          have hs2 := hbel2.size
          have hne : w1.heap.size ≠ b := by omega
          have A5 := (SumAt.mk A20 A21 A22 A23).put (x + y + z)
          have B5 := (B2.far (g := w1.heap.size) (o := 0) (.int .i64 (hiZ (x + y + z))) (by omega)).far (g := w1.heap.size) (o := 1) (.int .u64 (loZ (x + y + z))) (by omega)
          have C5 := (C2.far (g := w1.heap.size) (o := 0) (.int .i64 (hiZ (x + y + z))) (by omega)).far (g := w1.heap.size) (o := 1) (.int .u64 (loZ (x + y + z))) (by omega)
          have D5 := (D2.far (g := w1.heap.size) (o := 0) (.int .i64 (hiZ (x + y + z))) (by omega)).far (g := w1.heap.size) (o := 1) (.int .u64 (loZ (x + y + z))) (by omega)
          have hbel5 := (hbel2.setCell (p := ⟨w1.heap.size, 0, none⟩) hs1 (.int .i64 (hiZ (x + y + z)))).setCell (p := ⟨w1.heap.size, 1, none⟩) hs1 (.int .u64 (loZ (x + y + z)))
          obtain ⟨B0, B1, B3, B4⟩ := B2
          obtain ⟨C0, C1, C3, C4⟩ := C2
          clear A0 A1 A2 A3 B C D hbel hcell
          go_wp2_with fail
        · go_region_with (go_at_call 19; refine (add_any x z hzk _).mono ?_; rintro e w3 ⟨rfl, hb3⟩; have E0 := cell_later hb3 B5.drew.c0; have E1 := cell_later hb3 B5.drew.c1; have E2 := frozen_later hb3 B5.drew.c0 B5.drew.f0; have E3 := frozen_later hb3 B5.drew.c1 B5.drew.f1; have A6 := A5.drew.later hb3; have O6 := C5.drew.later hb3; have D6 := D5.drew.later hb3; have hbel6 := hbel5.drew.trans (hb3.mono (by have := hbel5.size; simpa using this)))
          all_goals
            have A7 := (A6.far (o := 0) (.int .i64 (hiZ (x + z))) (show w1.heap.size + 1 ≠ _ by omega)).far (g := w1.heap.size + 1) (o := 1) (.int .u64 (loZ (x + z))) (by omega)
            have O7 := (O6.far (o := 0) (.int .i64 (hiZ (x + z))) (show w1.heap.size + 1 ≠ _ by omega)).far (g := w1.heap.size + 1) (o := 1) (.int .u64 (loZ (x + z))) (by omega)
            have D7 := (D6.far (o := 0) (.int .i64 (hiZ (x + z))) (show w1.heap.size + 1 ≠ _ by omega)).far (g := w1.heap.size + 1) (o := 1) (.int .u64 (loZ (x + z))) (by omega)
            have V7 := (SumAt.mk E0 E1 E2 E3).put (x + z)
            have hbel7 := (hbel6.setCell (p := ⟨w1.heap.size + 1, 0, none⟩) (by simp; omega) (.int .i64 (hiZ (x + z)))).setCell (p := ⟨w1.heap.size + 1, 1, none⟩) (by simp; omega) (.int .u64 (loZ (x + z)))
            go_wp2
            go_roundw
            case rel => exact ⟨k + 1, x + z, y, by omega, by omega, by go_num, by rw [HS.out, ← HXY.out]; omega, ⟨hbel7, by rw [show x + z + y = x + y + z by omega]; exact A7, V7, O7, D7⟩⟩
            case measure => simp [intOf]; omega
        · go_region_with (go_at_call 19; refine (add_any y z hzk _).mono ?_; rintro e w3 ⟨rfl, hb3⟩; have E0 := cell_later hb3 C5.drew.c0; have E1 := cell_later hb3 C5.drew.c1; have E2 := frozen_later hb3 C5.drew.c0 C5.drew.f0; have E3 := frozen_later hb3 C5.drew.c1 C5.drew.f1; have A6 := A5.drew.later hb3; have O6 := B5.drew.later hb3; have D6 := D5.drew.later hb3; have hbel6 := hbel5.drew.trans (hb3.mono (by have := hbel5.size; simpa using this)))
          all_goals
            have A7 := (A6.far (o := 0) (.int .i64 (hiZ (y + z))) (show w1.heap.size + 1 + 1 ≠ _ by omega)).far (g := w1.heap.size + 1 + 1) (o := 1) (.int .u64 (loZ (y + z))) (by omega)
            have O7 := (O6.far (o := 0) (.int .i64 (hiZ (y + z))) (show w1.heap.size + 1 + 1 ≠ _ by omega)).far (g := w1.heap.size + 1 + 1) (o := 1) (.int .u64 (loZ (y + z))) (by omega)
            have D7 := (D6.far (o := 0) (.int .i64 (hiZ (y + z))) (show w1.heap.size + 1 + 1 ≠ _ by omega)).far (g := w1.heap.size + 1 + 1) (o := 1) (.int .u64 (loZ (y + z))) (by omega)
            have V7 := (SumAt.mk E0 E1 E2 E3).put (y + z)
            have hbel7 := (hbel6.setCell (p := ⟨w1.heap.size + 1 + 1, 0, none⟩) (by simp; omega) (.int .i64 (hiZ (y + z)))).setCell (p := ⟨w1.heap.size + 1 + 1, 1, none⟩) (by simp; omega) (.int .u64 (loZ (y + z)))
            go_wp2
            go_roundw
            case rel => exact ⟨k + 1, x, y + z, by omega, by omega, by go_num, by rw [HS.out, ← HXY.out]; omega, ⟨hbel7, by rw [show x + (y + z) = x + y + z by omega]; exact A7, O7, V7, D7⟩⟩
            case measure => simp [intOf]; omega
        · go_region_with (go_at_call 19; refine (add_any x z hzk _).mono ?_; rintro e w3 ⟨rfl, hb3⟩; have E0 := cell_later hb3 B5.drew.c0; have E1 := cell_later hb3 B5.drew.c1; have E2 := frozen_later hb3 B5.drew.c0 B5.drew.f0; have E3 := frozen_later hb3 B5.drew.c1 B5.drew.f1; have A6 := A5.drew.later hb3; have O6 := C5.drew.later hb3; have D6 := D5.drew.later hb3; have hbel6 := hbel5.drew.trans (hb3.mono (by have := hbel5.size; simpa using this)))
          all_goals
            have A7 := (A6.far (o := 0) (.int .i64 (hiZ (x + z))) (show w1.heap.size + 1 ≠ _ by omega)).far (g := w1.heap.size + 1) (o := 1) (.int .u64 (loZ (x + z))) (by omega)
            have O7 := (O6.far (o := 0) (.int .i64 (hiZ (x + z))) (show w1.heap.size + 1 ≠ _ by omega)).far (g := w1.heap.size + 1) (o := 1) (.int .u64 (loZ (x + z))) (by omega)
            have D7 := (D6.far (o := 0) (.int .i64 (hiZ (x + z))) (show w1.heap.size + 1 ≠ _ by omega)).far (g := w1.heap.size + 1) (o := 1) (.int .u64 (loZ (x + z))) (by omega)
            have V7 := (SumAt.mk E0 E1 E2 E3).put (x + z)
            have hbel7 := (hbel6.setCell (p := ⟨w1.heap.size + 1, 0, none⟩) (by simp; omega) (.int .i64 (hiZ (x + z)))).setCell (p := ⟨w1.heap.size + 1, 1, none⟩) (by simp; omega) (.int .u64 (loZ (x + z)))
            go_wp2
            go_roundw
            case rel => exact ⟨k + 1, x + z, y, by omega, by omega, by go_num, by rw [HS.out, ← HXY.out]; omega, ⟨hbel7, by rw [show x + z + y = x + y + z by omega]; exact A7, V7, O7, D7⟩⟩
            case measure => simp [intOf]; omega
        · go_region_with (go_at_call 19; refine (add_any y z hzk _).mono ?_; rintro e w3 ⟨rfl, hb3⟩; have E0 := cell_later hb3 C5.drew.c0; have E1 := cell_later hb3 C5.drew.c1; have E2 := frozen_later hb3 C5.drew.c0 C5.drew.f0; have E3 := frozen_later hb3 C5.drew.c1 C5.drew.f1; have A6 := A5.drew.later hb3; have O6 := B5.drew.later hb3; have D6 := D5.drew.later hb3; have hbel6 := hbel5.drew.trans (hb3.mono (by have := hbel5.size; simpa using this)))
          all_goals
            have A7 := (A6.far (o := 0) (.int .i64 (hiZ (y + z))) (show w1.heap.size + 1 + 1 ≠ _ by omega)).far (g := w1.heap.size + 1 + 1) (o := 1) (.int .u64 (loZ (y + z))) (by omega)
            have O7 := (O6.far (o := 0) (.int .i64 (hiZ (y + z))) (show w1.heap.size + 1 + 1 ≠ _ by omega)).far (g := w1.heap.size + 1 + 1) (o := 1) (.int .u64 (loZ (y + z))) (by omega)
            have D7 := (D6.far (o := 0) (.int .i64 (hiZ (y + z))) (show w1.heap.size + 1 + 1 ≠ _ by omega)).far (g := w1.heap.size + 1 + 1) (o := 1) (.int .u64 (loZ (y + z))) (by omega)
            have V7 := (SumAt.mk E0 E1 E2 E3).put (y + z)
            have hbel7 := (hbel6.setCell (p := ⟨w1.heap.size + 1 + 1, 0, none⟩) (by simp; omega) (.int .i64 (hiZ (y + z)))).setCell (p := ⟨w1.heap.size + 1 + 1, 1, none⟩) (by simp; omega) (.int .u64 (loZ (y + z)))
            go_wp2
            go_roundw
            case rel => exact ⟨k + 1, x, y + z, by omega, by omega, by go_num, by rw [HS.out, ← HXY.out]; omega, ⟨hbel7, by rw [show x + (y + z) = x + y + z by omega]; exact A7, O7, V7, D7⟩⟩
            case measure => simp [intOf]; omega
      · have hk9 : k = 300 := by omega
        subst hk9
        have HXY := Lib.hid hxy
        clear hxy
        go_wp2_with fail
        go_loopw [10] (fun j wr2 => ∃ m : Nat, ∃ jj : Int, m ≤ 300 ∧ j = .int .i64 jj ∧ jj = (m : Int) - 1 ∧ Parts w wr2 w1.heap.size x y (sumZ ((zs.take 300).drop m))) (fun j _ => (intOf j + 1).toNat)
        case atStart =>
          refine ⟨300, _, Nat.le_refl _, rfl, by omega, ?_⟩
          have e0 := sumZ_end zs 300
          rw [e0]
          exact ⟨hbel, A, B, C, D⟩
        case round =>
          clear hbel A B C D
          obtain ⟨m, jj, hm, rfl, hj, hP⟩ := hrel
          obtain ⟨hbel, A, B, C, D⟩ := hP
          rcases Nat.eq_zero_or_pos m with h0 | h0
          · subst h0
            have hjj : jj = -1 := by omega
            subst hjj
            have hd : sumZ ((zs.take 300).drop 0) = x + y := by rw [List.drop_zero, HXY.out]
            rw [hd] at D
            clear hd hj
            obtain ⟨A0, A1, A2, A3⟩ := A
            obtain ⟨B0, B1, B2, B3⟩ := B
            obtain ⟨C0, C1, C2, C3⟩ := C
            obtain ⟨D0, D1, D2, D3⟩ := D
            clear A2 A3 B2 B3 C2 C3 D2 D3
            go_wp2_with fail
            go_region_held3 (fun w' => Below w.heap.size w w' ∧ w'.cell? ⟨w1.heap.size, 0, none⟩ = some (.int .i64 (hiZ (x + y))) ∧ w'.cell? ⟨w1.heap.size, 1, none⟩ = some (.int .u64 (loZ (x + y))) ∧
                w'.cell? ⟨w1.heap.size + 1, 0, none⟩ = some (.int .i64 (hiZ x)) ∧ w'.cell? ⟨w1.heap.size + 1, 1, none⟩ = some (.int .u64 (loZ x)) ∧
                w'.cell? ⟨w1.heap.size + 1 + 1, 0, none⟩ = some (.int .i64 (hiZ y)) ∧ w'.cell? ⟨w1.heap.size + 1 + 1, 1, none⟩ = some (.int .u64 (loZ y)) ∧
                w'.cell? ⟨w1.heap.size + 1 + 1 + 1, 0, none⟩ = some (.int .i64 (hiZ (x + y))) ∧ w'.cell? ⟨w1.heap.size + 1 + 1 + 1, 1, none⟩ = some (.int .u64 (loZ (x + y))))
              (first | exact ⟨hbel.drew, A0, A1, B0, B1, C0, C1, D0, D1⟩ | (go_split_ands; refine ⟨Below.trans ‹Below w.heap.size w _› (hb.mono (Below.size ‹Below w.heap.size w _›)), cell_later hb ?_, cell_later hb ?_, cell_later hb ?_, cell_later hb ?_, cell_later hb ?_, cell_later hb ?_, cell_later hb ?_, cell_later hb ?_⟩ <;> assumption))
              ((first | (go_at_call 17; (with_reducible refine (both_any x y _).mono ?_); rintro e w2 ⟨rfl, hb⟩) | (go_at_call 17; (with_reducible refine (both_any y x _).mono ?_); rw [Int.add_comm y x]; rintro e w2 ⟨rfl, hb⟩)))
            go_wp2
            go_ret
            go_split_ands
            exact ⟨by simp, ‹Below w.heap.size w _›⟩
          · obtain ⟨m', rfl⟩ : ∃ m', m = m' + 1 := ⟨m - 1, by omega⟩
            have hjj : jj = (m' : Int) := by omega
            subst hjj
            have hcell : wr.cell? ⟨b, off + m', none⟩ = some (.int .i64 (zs.getD m' 0)) := (hbel.cell (p := ⟨b, off + m', none⟩) hB).trans (HC.out m' (by omega))
            have hzk : In64 (zs.getD m' 0) := by
              refine HZ.out _ ?_
              simp [List.getD, List.getElem?_eq_getElem (show m' < zs.length by omega)]
            have HS := Lib.hid (sumZ_drop zs 300 m' (by omega) (by omega))
            obtain ⟨z, hzd⟩ : ∃ z, zs.getD m' 0 = z := ⟨_, rfl⟩
            rw [hzd] at hcell hzk HS
            clear hzd hj
            obtain ⟨t, ht⟩ : ∃ t, sumZ ((zs.take 300).drop (m' + 1)) = t := ⟨_, rfl⟩
            rw [ht] at D HS
            clear ht
            have hlm : (m' : Int) < (len : Int) := by omega
            obtain ⟨D0, D1, D2, D3⟩ := D
            go_wp2_with fail
            go_region_with (go_at_call 19; refine (add_any t z hzk _).mono ?_; rintro e w2 ⟨rfl, hb⟩; have E0 := cell_later hb D0; have E1 := cell_later hb D1; have E2 := frozen_later hb D0 D2; have E3 := frozen_later hb D1 D3; have A2 := A.drew.later hb; have B2 := B.drew.later hb; have C2 := C.drew.later hb; have hbel2 := hbel.drew.trans (hb.mono (by have := hbel.size; simpa using this)))
            all_goals
              have A7 := (A2.far (g := w1.heap.size + 1 + 1 + 1) (o := 0) (.int .i64 (hiZ (t + z))) (by omega)).far (g := w1.heap.size + 1 + 1 + 1) (o := 1) (.int .u64 (loZ (t + z))) (by omega)
              have B7 := (B2.far (g := w1.heap.size + 1 + 1 + 1) (o := 0) (.int .i64 (hiZ (t + z))) (by omega)).far (g := w1.heap.size + 1 + 1 + 1) (o := 1) (.int .u64 (loZ (t + z))) (by omega)
              have C7 := (C2.far (g := w1.heap.size + 1 + 1 + 1) (o := 0) (.int .i64 (hiZ (t + z))) (by omega)).far (g := w1.heap.size + 1 + 1 + 1) (o := 1) (.int .u64 (loZ (t + z))) (by omega)
              have D7 := (SumAt.mk E0 E1 E2 E3).put (t + z)
              have hbel7 := (hbel2.setCell (p := ⟨w1.heap.size + 1 + 1 + 1, 0, none⟩) (by simp; omega) (.int .i64 (hiZ (t + z)))).setCell (p := ⟨w1.heap.size + 1 + 1 + 1, 1, none⟩) (by simp; omega) (.int .u64 (loZ (t + z)))
              go_wp2
              go_roundw
              case rel => exact ⟨m', _, by omega, rfl, rfl, ⟨hbel7, A7, B7, C7, by rw [HS.out]; exact D7⟩⟩
              case measure => (simp [intOf] <;> omega)
    · have hk9 : k = len := by omega
      subst hk9
      have HXY := Lib.hid hxy
      clear hxy
      go_wp2_with fail
      go_loopw [10] (fun j wr2 => ∃ m : Nat, ∃ jj : Int, m ≤ k ∧ j = .int .i64 jj ∧ jj = (m : Int) - 1 ∧ Parts w wr2 w1.heap.size x y (sumZ ((zs.take k).drop m))) (fun j _ => (intOf j + 1).toNat)
      case atStart =>
        refine ⟨k, _, Nat.le_refl _, rfl, by omega, ?_⟩
        have e0 := sumZ_end zs k
        rw [e0]
        exact ⟨hbel, A, B, C, D⟩
      case round =>
        clear hbel A B C D
        obtain ⟨m, jj, hm, rfl, hj, hP⟩ := hrel
        obtain ⟨hbel, A, B, C, D⟩ := hP
        rcases Nat.eq_zero_or_pos m with h0 | h0
        · subst h0
          have hjj : jj = -1 := by omega
          subst hjj
          have hd : sumZ ((zs.take k).drop 0) = x + y := by rw [List.drop_zero, HXY.out]
          rw [hd] at D
          clear hd hj
          obtain ⟨A0, A1, A2, A3⟩ := A
          obtain ⟨B0, B1, B2, B3⟩ := B
          obtain ⟨C0, C1, C2, C3⟩ := C
          obtain ⟨D0, D1, D2, D3⟩ := D
          clear A2 A3 B2 B3 C2 C3 D2 D3
          go_wp2_with fail
          go_region_held3 (fun w' => Below w.heap.size w w' ∧ w'.cell? ⟨w1.heap.size, 0, none⟩ = some (.int .i64 (hiZ (x + y))) ∧ w'.cell? ⟨w1.heap.size, 1, none⟩ = some (.int .u64 (loZ (x + y))) ∧
              w'.cell? ⟨w1.heap.size + 1, 0, none⟩ = some (.int .i64 (hiZ x)) ∧ w'.cell? ⟨w1.heap.size + 1, 1, none⟩ = some (.int .u64 (loZ x)) ∧
              w'.cell? ⟨w1.heap.size + 1 + 1, 0, none⟩ = some (.int .i64 (hiZ y)) ∧ w'.cell? ⟨w1.heap.size + 1 + 1, 1, none⟩ = some (.int .u64 (loZ y)) ∧
              w'.cell? ⟨w1.heap.size + 1 + 1 + 1, 0, none⟩ = some (.int .i64 (hiZ (x + y))) ∧ w'.cell? ⟨w1.heap.size + 1 + 1 + 1, 1, none⟩ = some (.int .u64 (loZ (x + y))))
            (first | exact ⟨hbel.drew, A0, A1, B0, B1, C0, C1, D0, D1⟩ | (go_split_ands; refine ⟨Below.trans ‹Below w.heap.size w _› (hb.mono (Below.size ‹Below w.heap.size w _›)), cell_later hb ?_, cell_later hb ?_, cell_later hb ?_, cell_later hb ?_, cell_later hb ?_, cell_later hb ?_, cell_later hb ?_, cell_later hb ?_⟩ <;> assumption))
            ((first | (go_at_call 17; (with_reducible refine (both_any x y _).mono ?_); rintro e w2 ⟨rfl, hb⟩) | (go_at_call 17; (with_reducible refine (both_any y x _).mono ?_); rw [Int.add_comm y x]; rintro e w2 ⟨rfl, hb⟩)))
          go_wp2
          go_ret
          go_split_ands
          exact ⟨by simp, ‹Below w.heap.size w _›⟩
        · obtain ⟨m', rfl⟩ : ∃ m', m = m' + 1 := ⟨m - 1, by omega⟩
          have hjj : jj = (m' : Int) := by omega
          subst hjj
          have hcell : wr.cell? ⟨b, off + m', none⟩ = some (.int .i64 (zs.getD m' 0)) := (hbel.cell (p := ⟨b, off + m', none⟩) hB).trans (HC.out m' (by omega))
          have hzk : In64 (zs.getD m' 0) := by
            refine HZ.out _ ?_
            simp [List.getD, List.getElem?_eq_getElem (show m' < zs.length by omega)]
          have HS := Lib.hid (sumZ_drop zs k m' (by omega) (by omega))
          obtain ⟨z, hzd⟩ : ∃ z, zs.getD m' 0 = z := ⟨_, rfl⟩
          rw [hzd] at hcell hzk HS
          clear hzd hj
          obtain ⟨t, ht⟩ : ∃ t, sumZ ((zs.take k).drop (m' + 1)) = t := ⟨_, rfl⟩
          rw [ht] at D HS
          clear ht
          have hlm : (m' : Int) < (k : Int) := by omega
          obtain ⟨D0, D1, D2, D3⟩ := D
          go_wp2_with fail
          go_region_with (go_at_call 19; refine (add_any t z hzk _).mono ?_; rintro e w2 ⟨rfl, hb⟩; have E0 := cell_later hb D0; have E1 := cell_later hb D1; have E2 := frozen_later hb D0 D2; have E3 := frozen_later hb D1 D3; have A2 := A.drew.later hb; have B2 := B.drew.later hb; have C2 := C.drew.later hb; have hbel2 := hbel.drew.trans (hb.mono (by have := hbel.size; simpa using this)))
          all_goals
            have A7 := (A2.far (g := w1.heap.size + 1 + 1 + 1) (o := 0) (.int .i64 (hiZ (t + z))) (by omega)).far (g := w1.heap.size + 1 + 1 + 1) (o := 1) (.int .u64 (loZ (t + z))) (by omega)
            have B7 := (B2.far (g := w1.heap.size + 1 + 1 + 1) (o := 0) (.int .i64 (hiZ (t + z))) (by omega)).far (g := w1.heap.size + 1 + 1 + 1) (o := 1) (.int .u64 (loZ (t + z))) (by omega)
            have C7 := (C2.far (g := w1.heap.size + 1 + 1 + 1) (o := 0) (.int .i64 (hiZ (t + z))) (by omega)).far (g := w1.heap.size + 1 + 1 + 1) (o := 1) (.int .u64 (loZ (t + z))) (by omega)
            have D7 := (SumAt.mk E0 E1 E2 E3).put (t + z)
            have hbel7 := (hbel2.setCell (p := ⟨w1.heap.size + 1 + 1 + 1, 0, none⟩) (by simp; omega) (.int .i64 (hiZ (t + z)))).setCell (p := ⟨w1.heap.size + 1 + 1 + 1, 1, none⟩) (by simp; omega) (.int .u64 (loZ (t + z)))
            go_wp2
            go_roundw
            case rel => exact ⟨m', _, by omega, rfl, rfl, ⟨hbel7, A7, B7, C7, by rw [HS.out]; exact D7⟩⟩
            case measure => (simp [intOf] <;> omega)

set_option maxRecDepth 100000 in
set_option maxHeartbeats 4000000 in
theorem orders_zero (a : Option Addr) (cap : Nat) (cut : Int) (w : World) :
    Calls Try.prog 8 #[.slice a 0 cap, .int .u8 cut] w fun e w' => e = .returned (.bool true) ∧ Below w.heap.size w w' := by
  go_enter Try.func8, Try.ntmps8
  go_wp2_with fail
  refine (alive_any _).mono ?_
  rintro e w1 ⟨rfl, hb1⟩
  have hs1 := hb1.size
  go_wp2
  go_loopw [9] (fun i wr => i = .int .i64 0 ∧ Parts w wr w1.heap.size 0 0 0) (fun _ _ => 0)
  case atStart =>
    refine ⟨rfl, ?_⟩
    refine ⟨((((hb1.alloc hs1 _).alloc (by simp; omega) _).alloc (by simp; omega) _).alloc (by simp; omega) _), ?_, ?_, ?_, ?_⟩
    all_goals exact ⟨by simp [go_sem]; rfl, by simp [go_sem]; rfl, by simp [go_sem], by simp [go_sem]⟩
  case round =>
    obtain ⟨rfl, hP⟩ := hrel
    obtain ⟨hbel, A, B, C, D⟩ := hP
    go_wp2_with fail
    go_loopw [10] (fun j wr2 => j = .int .i64 (-1) ∧ Parts w wr2 w1.heap.size 0 0 0) (fun _ _ => 0)
    case atStart =>
      exact ⟨rfl, hbel, A, B, C, D⟩
    case round =>
      clear hbel A B C D
      obtain ⟨rfl, hP⟩ := hrel
      obtain ⟨hbel, A, B, C, D⟩ := hP
      rw [Int.add_zero] at A
      obtain ⟨A0, A1, A2, A3⟩ := A
      obtain ⟨B0, B1, B2, B3⟩ := B
      obtain ⟨C0, C1, C2, C3⟩ := C
      obtain ⟨D0, D1, D2, D3⟩ := D
      clear A2 A3 B2 B3 C2 C3 D2 D3
      have both_zero : ∀ W, Calls Try.prog 17 #[SumV 0, SumV 0] W fun e w' => e = .returned (SumV 0) ∧ Below W.heap.size W w' := fun W => both_any 0 0 W
      have BZ := Lib.hid both_zero
      clear both_zero
      go_wp2_with fail
      go_region_held3 (fun w' => Below w.heap.size w w' ∧ w'.cell? ⟨w1.heap.size, 0, none⟩ = some (.int .i64 (hiZ 0)) ∧ w'.cell? ⟨w1.heap.size, 1, none⟩ = some (.int .u64 (loZ 0)) ∧
          w'.cell? ⟨w1.heap.size + 1, 0, none⟩ = some (.int .i64 (hiZ 0)) ∧ w'.cell? ⟨w1.heap.size + 1, 1, none⟩ = some (.int .u64 (loZ 0)) ∧
          w'.cell? ⟨w1.heap.size + 1 + 1, 0, none⟩ = some (.int .i64 (hiZ 0)) ∧ w'.cell? ⟨w1.heap.size + 1 + 1, 1, none⟩ = some (.int .u64 (loZ 0)) ∧
          w'.cell? ⟨w1.heap.size + 1 + 1 + 1, 0, none⟩ = some (.int .i64 (hiZ 0)) ∧ w'.cell? ⟨w1.heap.size + 1 + 1 + 1, 1, none⟩ = some (.int .u64 (loZ 0)))
        (first | exact ⟨hbel.drew, A0, A1, B0, B1, C0, C1, D0, D1⟩ | (go_split_ands; refine ⟨Below.trans ‹Below w.heap.size w _› (hb.mono (Below.size ‹Below w.heap.size w _›)), cell_later hb ?_, cell_later hb ?_, cell_later hb ?_, cell_later hb ?_, cell_later hb ?_, cell_later hb ?_, cell_later hb ?_, cell_later hb ?_⟩ <;> assumption))
        ((go_at_call 17; (with_reducible refine (BZ.out _).mono ?_); rintro e w2 ⟨rfl, hb⟩))
      go_wp2
      go_ret
      go_split_ands
      exact ⟨by simp, ‹Below w.heap.size w _›⟩
end Go.Proofs.Ytnfffkppgfokcaa
