/- The statement PlaceSorts: the walk. -/
import Derived.Test.YtchmecndihphfaaGreatDoorPlAlive
namespace Go.Proofs.YtchmecndihphfaaGreatDoor
open Go Go.ChangeShapes Go.WideShapes Go.ChangeAt Go.RowKit Go.ChangeMaps Go.MapKept
set_option linter.unusedVariables false

theorem hexN_nat (n : Nat) (h : n < 9223372036854775808) : hexN (n : Int) = n := by unfold hexN; omega
theorem hd_lt {a b : Nat} (ha : a < 16) (hb : b < 16) : hd a < hd b ↔ a < b := by
  rw [UInt8.lt_iff_toNat_lt, hd_nat a ha, hd_nat b hb]
  split <;> split <;> omega
theorem lowd_lt (k : Nat) : ∀ a b : Nat, a < 16 ^ k → b < 16 ^ k → (lowd k a < lowd k b ↔ a < b) := by
  induction k with
  | zero => intro a b ha hb; simp at ha hb; subst ha; subst hb; simp
  | succ k ih =>
    intro a b ha hb
    have hp : 0 < 16 ^ k := Nat.pow_pos (by omega)
    have ha16 : a / 16 ^ k < 16 := Nat.div_lt_of_lt_mul (by rw [Nat.pow_succ] at ha; omega)
    have hb16 : b / 16 ^ k < 16 := Nat.div_lt_of_lt_mul (by rw [Nat.pow_succ] at hb; omega)
    rw [lowd, lowd, List.cons_lt_cons_iff, Nat.mod_eq_of_lt ha16, Nat.mod_eq_of_lt hb16, hd_lt ha16 hb16, ← lowd_mod k a k (Nat.le_refl _), ← lowd_mod k b k (Nat.le_refl _), ih _ _ (Nat.mod_lt _ hp) (Nat.mod_lt _ hp)]
    have ea := Nat.div_add_mod a (16 ^ k)
    have eb := Nat.div_add_mod b (16 ^ k)
    have hma := Nat.mod_lt a hp
    have hmb := Nat.mod_lt b hp
    generalize 16 ^ k = P at *
    generalize ha' : a / P = x at *
    generalize hb' : b / P = y at *
    generalize a % P = r at *
    generalize b % P = t at *
    constructor
    · rintro (h | ⟨h, h2⟩)
      · have : P * (x + 1) ≤ P * y := Nat.mul_le_mul_left P h
        rw [Nat.mul_add] at this; omega
      · have hxy : x = y := by
          have h3 := congrArg UInt8.toNat h
          rw [hd_nat x ha16, hd_nat y hb16] at h3
          split at h3 <;> split at h3 <;> omega
        subst hxy; omega
    · intro h
      by_cases hxy : x < y
      · exact .inl hxy
      · have h4 : x = y := by
          have : ¬ y < x := fun h5 => by
            have : P * (y + 1) ≤ P * x := Nat.mul_le_mul_left P h5
            rw [Nat.mul_add] at this; omega
          omega
        subst h4
        exact .inr ⟨rfl, by omega⟩
theorem hexL_lt (a b : Nat) (ha : a < 9223372036854775808) (hb : b < 9223372036854775808) : hexL (a : Int) < hexL (b : Int) ↔ a < b := by
  unfold hexL
  rw [hexN_nat a ha, hexN_nat b hb]
  exact lowd_lt 16 a b (by omega) (by omega)
theorem less_dec (a b : List UInt8) : Op.bytesLess a b = decide (a < b) := by
  induction a generalizing b with
  | nil => cases b <;> simp [Op.bytesLess]
  | cons x r ih =>
    cases b with
    | nil => simp [Op.bytesLess]
    | cons y s =>
      simp [Op.bytesLess, ih, List.cons_lt_cons_iff]
      cases h : (x == y) <;> simp_all
set_option maxHeartbeats 1000000 in
theorem sorts_walk (a b : Int) (ha : in64 a) (hb : in64 b) (w : World) (hT : Tab w.heap.size w) :
    Calls Tryz.prog 6 #[.int .i64 a, .int .i64 b] w fun e w' => e = .returned (.bool true) ∧ Below w.heap.size w w' := by
  have HA := Lib.hid (alive_any w hT (Nat.le_refl _))
  have HX := Lib.hid (fun (n : Int) (hn : in64 n) (w1 : World) (h1 : Below w.heap.size w w1) => hex_any n hn w1 (hT.below h1) h1.size)
  have HIA := Lib.hid ha
  have HIB := Lib.hid hb
  clear hT
  by_cases hn : a < 0 ∨ b < 0
  · by_cases h0 : a < 0
    · have d1 : decide (a < 0) = true := decide_eq_true h0
      go_enter Tryz.func6, Tryz.ntmps6
      go_wp2_with (go_at_call 8; refine HA.out.mono ?_; rintro e w1 ⟨rfl, h1⟩; have HB1 := Lib.hid h1; clear h1)
      go_ret
      exact ⟨rfl, HB1.out⟩
    · have d1 : decide (a < 0) = false := decide_eq_false h0
      have d2 : decide (b < 0) = true := decide_eq_true (by omega)
      go_enter Tryz.func6, Tryz.ntmps6
      go_wp2_with (go_at_call 8; refine HA.out.mono ?_; rintro e w1 ⟨rfl, h1⟩; have HB1 := Lib.hid h1; clear h1)
      go_ret
      exact ⟨rfl, HB1.out⟩
  · obtain ⟨x, rfl⟩ := Int.eq_ofNat_of_zero_le (show 0 ≤ a by omega)
    obtain ⟨y, rfl⟩ := Int.eq_ofNat_of_zero_le (show 0 ≤ b by omega)
    unfold in64 at ha hb
    have HLT := Lib.hid (hexL_lt x y (by omega) (by omega))
    have d1 : decide ((x : Int) < 0) = false := decide_eq_false (by omega)
    have d2 : decide ((y : Int) < 0) = false := decide_eq_false (by omega)
    clear hn
    go_enter Tryz.func6, Tryz.ntmps6
    have HFIRST := Lib.hid True.intro
    go_wp2_with (first
      | (go_at_call 8; refine HA.out.mono ?_; rintro e w1 ⟨rfl, h1⟩; have HB1 := Lib.hid h1; clear h1)
      | (have HSEC := HB2; go_at_call 31; refine (HX.out _ HIB.out w2 HB2.out).mono ?_; rintro e w3 ⟨rfl, h1⟩; have HB3 := Lib.hid (HB2.out.trans (h1.mono HB2.out.size)); clear h1)
      | (have HF := HFIRST; go_at_call 31; refine (HX.out _ HIA.out w1 HB1.out).mono ?_; rintro e w2 ⟨rfl, h1⟩; have HB2 := Lib.hid (HB1.out.trans (h1.mono HB1.out.size)); clear h1 HF HFIRST))
    go_ret
    refine ⟨?_, HB3.out⟩
    have h1 : (txt (hexL (x : Int))).toList = hexL (x : Int) := by rw [Lib.toList_data]; rfl
    have h2 : (txt (hexL (y : Int))).toList = hexL (y : Int) := by rw [Lib.toList_data]; rfl
    have h3 : (Op.bytesLess (hexL (x : Int)) (hexL (y : Int)) == decide (x < y)) = true := by
      rw [less_dec, beq_iff_eq, decide_eq_decide]
      exact HLT.out
    show Ending.returned (.bool (Op.bytesLess (txt (hexL (x : Int))).toList (txt (hexL (y : Int))).toList == decide (x < y))) = _
    rw [h1, h2, h3]
end Go.Proofs.YtchmecndihphfaaGreatDoor
