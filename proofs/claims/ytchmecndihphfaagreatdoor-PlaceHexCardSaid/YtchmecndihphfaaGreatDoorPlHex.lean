/- The statement PlaceHex: the walk. -/
import Derived.Test.YtchmecndihphfaaGreatDoorPlSorts
namespace Go.Proofs.YtchmecndihphfaaGreatDoor
open Go Go.ChangeShapes Go.WideShapes Go.ChangeAt Go.RowKit Go.ChangeMaps Go.MapKept
set_option linter.unusedVariables false

/-- The two answers of Unhex, as values. -/
def unA : Option Nat → Int
  | some n => (n : Int)
  | none => 0
def unB (o : Option Nat) : Bool := o.isSome
theorem UnPost.same {l : List UInt8} {w w' : World} {e : Ending} (h : UnPost l w e w') : e = .returned (.tuple #[.int .i64 (unA (unhexV l)), .bool (unB (unhexV l))]) ∧ Below w.heap.size w w' := by
  obtain ⟨hb, ⟨n, h1, h2⟩ | ⟨h1, h2⟩⟩ := h
  · rw [h1]; exact ⟨h2, hb⟩
  · rw [h1]; exact ⟨h2, hb⟩
theorem back_pos (n : Nat) (h : n < 9223372036854775808) : unhexV (hexL (n : Int)) = some n := (hex_back h).1 rfl
theorem back_neg (n : Int) (h : in64 n) (hn : n < 0) : unhexV (hexL n) = none := by
  unfold in64 at h
  have hN : hexN n = (n + 18446744073709551616).toNat := by unfold hexN; omega
  have h2 : 9223372036854775808 ≤ hexN n := by omega
  have hlt := hexN_lt n
  have ha := lowd_hex 16 (hexN n)
  have hl := lowd_length 16 (hexN n)
  have hv := numOf_lowd 16 (hexN n) (by omega)
  unfold unhexV hexL
  rw [if_neg fun h3 => by have := (head_iff _ hl ha).1 h3.2.2; rw [hv] at this; omega]
set_option maxHeartbeats 2000000 in
theorem hex_walk (n : Int) (hn : in64 n) (s : ByteArray) (hs : s.size ≤ 9223372036854775807) (w : World) (hT : Tab w.heap.size w) (hE : Errs w.heap.size w) :
    Calls Tryz.prog 5 #[.int .i64 n, .string s] w fun e w' => e = .returned (.bool true) ∧ Below w.heap.size w w' := by
  have HA := Lib.hid (alive_any w hT (Nat.le_refl _))
  have HX := Lib.hid (fun (w1 : World) (h1 : Below w.heap.size w w1) => hex_any n hn w1 (hT.below h1) h1.size)
  have HR := Lib.hid (fun (w1 : World) => rhex_any n hn w1)
  have HU := Lib.hid (fun (w1 : World) (h1 : Below w.heap.size w w1) => (unhex_any s hs w1 (hE.below h1) (hT.below h1) h1.size).mono fun e w' h => h.same)
  have HV := Lib.hid (fun (w1 : World) => (runhex_any s hs w1).mono fun e w' h => h.same)
  have HW := Lib.hid (fun (w1 : World) (h1 : Below w.heap.size w w1) => (unhex_any (txt (hexL n)) (by rw [txt_size, hexL_length]; omega) w1 (hE.below h1) (hT.below h1) h1.size).mono fun e w' h => h.same)
  clear hT hE
  by_cases hbig : 4000 < s.size
  · have d0 : decide ((4000 : Int) < (s.size : Int)) = true := decide_eq_true (by omega)
    go_enter Tryz.func5, Tryz.ntmps5
    go_wp2_with (go_at_call 8; refine HA.out.mono ?_; rintro e w1 ⟨rfl, h1⟩; have HB1 := Lib.hid h1; clear h1)
    go_ret
    exact ⟨rfl, HB1.out⟩
  · have d0 : decide ((4000 : Int) < (s.size : Int)) = false := decide_eq_false (by omega)
    obtain ⟨x, hx⟩ : ∃ x, unA (unhexV s.data.toList) = x := ⟨_, rfl⟩
    obtain ⟨y, hy⟩ : ∃ y, unB (unhexV s.data.toList) = y := ⟨_, rfl⟩
    rw [hx, hy] at HU HV
    have d1 : (x != x) = false := by simp
    have d2 : (y != y) = false := by simp
    have d3 : ((txt (hexL n)).toList == (txt (hexL n)).toList) = true := by simp
    clear hx hy hbig
    have HHN := Lib.hid hn
    have hback : (0 ≤ n → unA (unhexV (txt (hexL n)).data.toList) = n ∧ unB (unhexV (txt (hexL n)).data.toList) = true) ∧ (n < 0 → unB (unhexV (txt (hexL n)).data.toList) = false) := by
      rw [txt_list]
      refine ⟨fun h => ?_, fun h => ?_⟩
      · obtain ⟨k, rfl⟩ := Int.eq_ofNat_of_zero_le h
        unfold in64 at hn
        rw [back_pos k (by omega)]; exact ⟨rfl, rfl⟩
      · rw [back_neg n hn h]; rfl
    obtain ⟨p, hp⟩ : ∃ p, unA (unhexV (txt (hexL n)).data.toList) = p := ⟨_, rfl⟩
    obtain ⟨q, hq⟩ : ∃ q, unB (unhexV (txt (hexL n)).data.toList) = q := ⟨_, rfl⟩
    rw [hp, hq] at HW hback
    clear hp hq
    by_cases h0 : 0 ≤ n
    · obtain ⟨rfl, rfl⟩ := hback.1 h0
      have d4 : decide ((0 : Int) ≤ p) = true := decide_eq_true h0
      clear hback h0
      go_enter Tryz.func5, Tryz.ntmps5
      have HFIRST := Lib.hid True.intro
      go_wp2_with (first
        | (go_at_call 8; refine HA.out.mono ?_; rintro e w1 ⟨rfl, h1⟩; have HB1 := Lib.hid h1; clear h1)
        | (have HSEC := HB5; go_at_call 31; refine (HX.out w5 HB5.out).mono ?_; rintro e w6 ⟨rfl, h1⟩; have HB6 := Lib.hid (HB5.out.trans (h1.mono HB5.out.size)); clear h1 HSEC)
        | (have HSEC := HB3; go_at_call 31; refine (HX.out w3 HB3.out).mono ?_; rintro e w4 ⟨rfl, h1⟩; have HB4 := Lib.hid (HB3.out.trans (h1.mono HB3.out.size)); clear h1 HSEC)
        | (have HSEC := HB6; go_at_call 29; refine (HW.out w6 HB6.out).mono ?_; rintro e w7 ⟨rfl, h1⟩; have HB7 := Lib.hid (HB6.out.trans (h1.mono HB6.out.size)); clear h1 HSEC)
        | (have HF := HFIRST; go_at_call 29; refine (HU.out w1 HB1.out).mono ?_; rintro e w2 ⟨rfl, h1⟩; have HB2 := Lib.hid (HB1.out.trans (h1.mono HB1.out.size)); clear h1 HF HFIRST)
        | (go_at_call 30; refine (HV.out w2).mono ?_; rintro e w3 ⟨rfl, h1⟩; have HB3 := Lib.hid (HB2.out.trans (h1.mono HB2.out.size)); clear h1)
        | (go_at_call 32; refine (HR.out w4).mono ?_; rintro e w5 ⟨rfl, h1⟩; have HB5 := Lib.hid (HB4.out.trans (h1.mono HB4.out.size)); clear h1))
      go_ret
      exact ⟨rfl, HB7.out⟩
    · have hq := hback.2 (by omega)
      subst hq
      have d4 : decide ((0 : Int) ≤ n) = false := decide_eq_false h0
      clear hback h0
      go_enter Tryz.func5, Tryz.ntmps5
      have HFIRST := Lib.hid True.intro
      go_wp2_with (first
        | (go_at_call 8; refine HA.out.mono ?_; rintro e w1 ⟨rfl, h1⟩; have HB1 := Lib.hid h1; clear h1)
        | (have HSEC := HB5; go_at_call 31; refine (HX.out w5 HB5.out).mono ?_; rintro e w6 ⟨rfl, h1⟩; have HB6 := Lib.hid (HB5.out.trans (h1.mono HB5.out.size)); clear h1 HSEC)
        | (have HSEC := HB3; go_at_call 31; refine (HX.out w3 HB3.out).mono ?_; rintro e w4 ⟨rfl, h1⟩; have HB4 := Lib.hid (HB3.out.trans (h1.mono HB3.out.size)); clear h1 HSEC)
        | (have HSEC := HB6; go_at_call 29; refine (HW.out w6 HB6.out).mono ?_; rintro e w7 ⟨rfl, h1⟩; have HB7 := Lib.hid (HB6.out.trans (h1.mono HB6.out.size)); clear h1 HSEC)
        | (have HF := HFIRST; go_at_call 29; refine (HU.out w1 HB1.out).mono ?_; rintro e w2 ⟨rfl, h1⟩; have HB2 := Lib.hid (HB1.out.trans (h1.mono HB1.out.size)); clear h1 HF HFIRST)
        | (go_at_call 30; refine (HV.out w2).mono ?_; rintro e w3 ⟨rfl, h1⟩; have HB3 := Lib.hid (HB2.out.trans (h1.mono HB2.out.size)); clear h1)
        | (go_at_call 32; refine (HR.out w4).mono ?_; rintro e w5 ⟨rfl, h1⟩; have HB5 := Lib.hid (HB4.out.trans (h1.mono HB4.out.size)); clear h1))
      go_ret
      exact ⟨rfl, HB7.out⟩
end Go.Proofs.YtchmecndihphfaaGreatDoor
