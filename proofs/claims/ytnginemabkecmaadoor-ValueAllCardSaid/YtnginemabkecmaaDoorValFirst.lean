/- The walk of first. -/
import Derived.Test.YtnginemabkecmaaDoorValText
import Derived.Deep.DeepCutAuto
namespace Go.Proofs.YtnginemabkecmaaDoor
open Go.ChangeShapes Go.WideShapes Go.ChangeAt Go.RowKit
open Go.Lib (byteCells byteCells_length byteCells_append strCells)
set_option linter.unusedVariables false

theorem list_one (s : ByteArray) (h : 0 < s.size) : s.data.toList = s[0] :: s.data.toList.drop 1 := by
  have := drop_one s 0 h
  simpa using this
theorem nz_of {c : UInt8} {n : Nat} (h : c ≠ UInt8.ofNat n) (hn : n < 256) : (c.toNat : Int) ≠ (n : Int) := by
  intro e
  apply h
  apply UInt8.toNat_inj.1
  rw [UInt8.toNat_ofNat']
  omega

set_option maxHeartbeats 400000 in
theorem first_null (s : ByteArray) (hs : s.size ≤ 1099511627776) (h0 : 0 < s.size) (hc : s[0] = 1) (w : World) :
    Calls Tryd.prog 36 #[.string s] w fun e w' => e = .returned (outV (firstL s.data.toList)) ∧ Below w.heap.size w w' := by
  have e : firstL s.data.toList = some (⟨0, 0, mt⟩, s.data.toList.drop 1) := by
    rw [list_one s h0, hc, firstL_cons, if_pos rfl]
    rfl
  rw [e]
  clear e
  have e1 : (s[0].toNat : Int) = 1 := by rw [hc]; rfl
  clear hc
  go_enter Tryd.func36, Tryd.ntmps36
  go_wp2
  refine wp_scope_land 2 ?_
  go_wp2
  try rw [land_ret]
  exact bodyPost_ret (v := outV (some (⟨0, 0, mt⟩, s.data.toList.drop 1))) (by simp [results, Tryd.results36, go_sem, outV, V.val, mt, extract_drop]) rfl ⟨rfl, ((Below.refl _ _).alloc (Nat.le_refl _) _).alloc (by simp) _⟩

set_option maxHeartbeats 400000 in
theorem first_other (s : ByteArray) (hs : s.size ≤ 1099511627776) (h0 : 0 < s.size) (h1 : s[0] ≠ 1) (h2 : s[0] ≠ 2) (h3 : s[0] ≠ 3) (h4 : s[0] ≠ 4) (w : World) :
    Calls Tryd.prog 36 #[.string s] w fun e w' => e = .returned (outV (firstL s.data.toList)) ∧ Below w.heap.size w w' := by
  have e : firstL s.data.toList = none := by
    rw [list_one s h0, firstL_cons, if_neg h1, if_neg h2, if_neg h3, if_neg h4]
  rw [e]
  clear e
  have c1 := nz_of (n := 1) h1 (by decide)
  have c2 := nz_of (n := 2) h2 (by decide)
  have c3 := nz_of (n := 3) h3 (by decide)
  have c4 := nz_of (n := 4) h4 (by decide)
  have hb : s[0].toNat < 256 := s[0].toNat_lt
  obtain ⟨x, hx⟩ : ∃ x, s[0].toNat = x := ⟨_, rfl⟩
  rw [hx] at c1 c2 c3 c4 hb
  have k0 : ((x : Int) - 1 == 0) = false := by rw [beq_eq_false_iff_ne]; omega
  have k1 : ((x : Int) - 1 == 1) = false := by rw [beq_eq_false_iff_ne]; omega
  have k2 : ((x : Int) - 1 == 2) = false := by rw [beq_eq_false_iff_ne]; omega
  have k3 : ((x : Int) - 1 == 3) = false := by rw [beq_eq_false_iff_ne]; omega
  clear c1 c2 c3 c4 h1 h2 h3 h4
  go_enter Tryd.func36, Tryd.ntmps36
  go_wp2
  refine wp_scope_land 2 ?_
  go_wp2
  refine wp_goto ?_
  refine land_goto rfl ?_
  go_wp2
  try rw [land_ret]
  exact bodyPost_ret (v := outV none) (by simp [results, Tryd.results36, go_sem, outV, V.val, mt, noV]) rfl ⟨rfl, ((Below.refl _ _).alloc (Nat.le_refl _) _).alloc (by simp) _⟩

theorem back_turned (m : Nat) (h : m < 18446744073709551616) : IntKind.i64.wrap (bits .xor .u64 (m : Int) 9223372036854775808) = (m : Int) - 9223372036854775808 := by
  rw [u64_xor _ _ (by omega) (by omega) (by omega) (by omega), show (9223372036854775808 : Int).toNat = 9223372036854775808 from rfl, Int.toNat_natCast]
  by_cases h0 : m < 9223372036854775808
  · rw [(xor_top m h0).1]
    rw [IntKind.wrap_i64]
    omega
  · obtain ⟨k, rfl⟩ : ∃ k, m = k + 9223372036854775808 := ⟨m - 9223372036854775808, by omega⟩
    rw [(xor_top k (by omega)).2, IntKind.wrap_i64]
    omega

set_option maxHeartbeats 400000 in
theorem first_int (s : ByteArray) (hs : s.size ≤ 1099511627776) (h0 : 0 < s.size) (hc : s[0] = 2) (w : World) :
    Calls Tryd.prog 36 #[.string s] w fun e w' => e = .returned (outV (firstL s.data.toList)) ∧ Below w.heap.size w w' := by
  have e1 : (s[0].toNat : Int) = 2 := by rw [hc]; rfl
  have hl := size_eq s
  by_cases h8 : s.size < 9
  · have e : firstL s.data.toList = none := by
      rw [list_one s h0, hc, firstL_cons, if_neg (by decide), if_pos rfl, if_pos (by rw [List.length_drop]; omega)]
    rw [e]
    clear e hc hl
    go_enter Tryd.func36, Tryd.ntmps36
    go_wp2
    refine wp_scope_land 2 ?_
    go_wp2
    refine wp_goto ?_
    refine land_goto rfl ?_
    go_wp2
    refine wp_goto ?_
    refine land_goto rfl ?_
    go_wp2
    try rw [land_ret]
    exact bodyPost_ret (v := outV none) (by simp [results, Tryd.results36, go_sem, outV, V.val, mt, noV]) rfl ⟨rfl, ((Below.refl _ _).alloc (Nat.le_refl _) _).alloc (by simp) _⟩
  · obtain ⟨m, hm⟩ : ∃ m, num ((s.data.toList.drop 1).take 8) = m := ⟨_, rfl⟩
    obtain ⟨x, hx⟩ : ∃ x, (m : Int) - 9223372036854775808 = x := ⟨_, rfl⟩
    have e : firstL s.data.toList = some (⟨1, x, mt⟩, s.data.toList.drop 9) := by
      rw [list_one s h0, hc, firstL_cons, if_neg (by decide), if_pos rfl, if_neg (by rw [List.length_drop]; omega), hm, hx]
      simp
    rw [e]
    have hlt : m < 18446744073709551616 := by
      have h1 := num_lt ((s.data.toList.drop 1).take 8)
      have h2 : ((s.data.toList.drop 1).take 8).length = 8 := by rw [List.length_take, List.length_drop]; omega
      rw [h2, hm] at h1
      exact h1
    have HT := Lib.hid (show IntKind.i64.wrap (bits .xor .u64 (m : Int) 9223372036854775808) = x by rw [← hx]; exact back_turned m hlt)
    have HV := Lib.hid (show chk ⟨1, x, mt⟩ = 0 by simp [chk, mt_size])
    have HWF := Lib.hid (show V.wf ⟨1, x, mt⟩ by simp only [V.wf, in64, mt_size]; omega)
    clear hx hlt
    have hrs : (s.extract 1 s.size).size = s.size - 1 := by rw [ByteArray.size_extract]; omega
    have hrn : num ((s.extract 1 s.size).extract 0 8).data.toList = m := by
      rw [Lib.extract_data, Lib.extract_to_end, List.drop_zero, ← hm]
    have hrd : (s.extract 1 s.size).data.toList.drop 8 = s.data.toList.drop 9 := by
      rw [Lib.extract_to_end, List.drop_drop]
    have hrx : ((s.extract 1 s.size).extract 0 8).size ≤ 8 := by rw [ByteArray.size_extract]; omega
    obtain ⟨r, hr⟩ : ∃ r, s.extract 1 s.size = r := ⟨_, rfl⟩
    rw [hr] at hrs hrn hrd hrx
    have HR := Lib.hid hr
    have HN := Lib.hid hrn
    have HD := Lib.hid hrd
    have HX8 := Lib.hid hrx
    have hr8 : 8 ≤ r.size := by omega
    have hrb : r.size ≤ 1099511627776 := by omega
    clear e hc hl hm hrs hrn hrd hrx hr h8
    go_enter Tryd.func36, Tryd.ntmps36
    go_wp2
    refine wp_scope_land 2 ?_
    go_wp2
    refine wp_goto ?_
    refine land_goto rfl ?_
    rw [HR.out]
    go_wp2_with (first | (go_at_call 44; refine (highest_any _ HX8.out _).mono ?_; rintro e w' ⟨rfl, rfl⟩; rw [HN.out]; have ht := HT.out) | (go_at_call 11; refine (check_any ⟨1, x, mt⟩ HWF.out _).mono ?_; rintro e w2 ⟨rfl, hb⟩; rw [HV.out]; have X2 : Box w2 w.heap.size noV := ((Box.new w noV).alloc _).below hb; have X5 : Box w2 (w.heap.size + 1) ⟨1, x, mt⟩ := by { have h5 := Box.below (Box.new (w.alloc (.cells #[.int .i64 0, .int .i64 0, .string mt] 23)) ⟨1, x, mt⟩) hb; rwa [World.size_alloc] at h5 }; have y0 := X2.k; have y1 := X2.n; have y2 := X2.s; have z0 := X2.frozen 0; have z1 := X2.frozen 1; have z2 := X2.frozen 2; have x0 := X5.k; have x1 := X5.n; have x2 := X5.s; have HBel2 := Lib.hid ((((Below.refl w.heap.size w).alloc (Nat.le_refl _) _).alloc (by simp) _).trans (hb.mono (by simp; omega))); clear hb X2 X5))
    have g1 : (8 : Int) ≤ (r.size : Int) := by omega
    go_region
    all_goals
      go_wp2
      try rw [land_ret]
      refine bodyPost_ret (v := outV (some (⟨1, x, mt⟩, s.data.toList.drop 9))) (by rw [← HD.out]; simp [results, Tryd.results36, go_sem, outV, V.val, mt, y0, y1, y2, extract_drop]) rfl ⟨rfl, (((HBel2.out.setCell (p := ⟨w.heap.size, 0, none⟩) (Nat.le_refl _) _).setCell (p := ⟨w.heap.size, 1, none⟩) (Nat.le_refl _) _).setCell (p := ⟨w.heap.size, 2, none⟩) (Nat.le_refl _) _).drew⟩

theorem back_plain (m : Nat) (h : m < 256) : IntKind.i64.wrap (bits .xor .u64 (m : Int) 0) = (m : Int) := by
  rw [u64_xor _ _ (by omega) (by omega) (by omega) (by omega), Int.toNat_natCast]
  rw [show (0 : Int).toNat = 0 from rfl, Nat.xor_zero, IntKind.wrap_i64]
  omega

set_option maxHeartbeats 400000 in
theorem first_bool (s : ByteArray) (hs : s.size ≤ 1099511627776) (h0 : 0 < s.size) (hc : s[0] = 3) (w : World) :
    Calls Tryd.prog 36 #[.string s] w fun e w' => e = .returned (outV (firstL s.data.toList)) ∧ Below w.heap.size w w' := by
  have e1 : (s[0].toNat : Int) = 3 := by rw [hc]; rfl
  have hrs : (s.extract 1 s.size).size = s.size - 1 := by rw [ByteArray.size_extract]; omega
  have hrl : (s.extract 1 s.size).data.toList = s.data.toList.drop 1 := by rw [Lib.extract_to_end]
  obtain ⟨r, hr⟩ : ∃ r, s.extract 1 s.size = r := ⟨_, rfl⟩
  rw [hr] at hrs hrl
  have HR := Lib.hid hr
  by_cases h1 : s.size = 1
  · have e : firstL s.data.toList = none := by
      rw [list_one s h0, hc, firstL_cons, if_neg (by decide), if_neg (by decide), if_pos rfl, ← hrl]
      rw [show r.data.toList = [] from List.eq_nil_of_length_eq_zero (by rw [← size_eq]; omega)]
    rw [e]
    have hr1 : r.size = 0 := by omega
    clear e hc hrl hrs hr h1
    go_enter Tryd.func36, Tryd.ntmps36
    go_wp2
    refine wp_scope_land 2 ?_
    go_wp2
    refine wp_goto ?_
    refine land_goto rfl ?_
    rw [HR.out]
    go_wp2
    refine wp_goto ?_
    refine land_goto rfl ?_
    go_wp2
    try rw [land_ret]
    exact bodyPost_ret (v := outV none) (by simp [results, Tryd.results36, go_sem, outV, V.val, mt, noV]) rfl ⟨rfl, ((Below.refl _ _).alloc (Nat.le_refl _) _).alloc (by simp) _⟩
  · have hr0 : 0 < r.size := by omega
    have hl1 := list_one r hr0
    obtain ⟨m, hm⟩ : ∃ m, r[0].toNat = m := ⟨_, rfl⟩
    have hm256 : m < 256 := by rw [← hm]; exact r[0].toNat_lt
    have e : firstL s.data.toList = if m = 0 ∨ m = 1 then some (⟨2, m, mt⟩, s.data.toList.drop 2) else none := by
      rw [list_one s h0, hc, firstL_cons, if_neg (by decide), if_neg (by decide), if_pos rfl, ← hrl, hl1]
      simp only
      have h01 : (r[0] = 0 ∨ r[0] = 1) ↔ (m = 0 ∨ m = 1) := by
        constructor
        · rintro (h | h)
          · left; rw [← hm, h]; rfl
          · right; rw [← hm, h]; rfl
        · rintro (h | h)
          · left; exact UInt8.toNat_inj.1 (by rw [hm, h]; rfl)
          · right; exact UInt8.toNat_inj.1 (by rw [hm, h]; rfl)
      by_cases h : m = 0 ∨ m = 1
      · rw [if_pos h, if_pos (h01.2 h), hm, hrl]
        simp
      · rw [if_neg h, if_neg (fun k => h (h01.1 k))]
    rw [e]
    have hrn : num (r.extract 0 1).data.toList = m := by
      rw [Lib.extract_data, hl1, ← hm]
      simp [num]
    have hrx : (r.extract 0 1).size ≤ 8 := by rw [ByteArray.size_extract]; omega
    have hrd : r.data.toList.drop 1 = s.data.toList.drop 2 := by rw [hrl, List.drop_drop]
    have HN := Lib.hid hrn
    have HD := Lib.hid hrd
    have HX8 := Lib.hid hrx
    have HT := Lib.hid (back_plain m hm256)
    have HWF := Lib.hid (show V.wf ⟨2, (m : Int), mt⟩ by simp only [V.wf, in64, mt_size]; omega)
    have hrb : r.size ≤ 1099511627776 := by omega
    clear e hc hl1 hm hrn hrx hrd hrl hrs hr h1
    by_cases h01 : m = 0 ∨ m = 1
    · rw [if_pos h01]
      have HV := Lib.hid (show chk ⟨2, (m : Int), mt⟩ = 0 by unfold chk; dsimp only; rw [if_neg (by omega), if_neg (by omega), if_neg (by rw [mt_size]; omega)])
      clear h01
      go_enter Tryd.func36, Tryd.ntmps36
      go_wp2
      refine wp_scope_land 2 ?_
      go_wp2
      refine wp_goto ?_
      refine land_goto rfl ?_
      rw [HR.out]
      go_wp2_with (first | (go_at_call 44; refine (highest_any _ HX8.out _).mono ?_; rintro e w' ⟨rfl, rfl⟩; rw [HN.out]; have ht := HT.out) | (go_at_call 11; refine (check_any ⟨2, m, mt⟩ HWF.out _).mono ?_; rintro e w2 ⟨rfl, hb⟩; rw [HV.out]; have X2 : Box w2 w.heap.size noV := ((Box.new w noV).alloc _).below hb; have X5 : Box w2 (w.heap.size + 1) ⟨2, m, mt⟩ := by { have h5 := Box.below (Box.new (w.alloc (.cells #[.int .i64 0, .int .i64 0, .string mt] 23)) ⟨2, m, mt⟩) hb; rwa [World.size_alloc] at h5 }; have y0 := X2.k; have y1 := X2.n; have y2 := X2.s; have z0 := X2.frozen 0; have z1 := X2.frozen 1; have z2 := X2.frozen 2; have x0 := X5.k; have x1 := X5.n; have x2 := X5.s; have HBel2 := Lib.hid ((((Below.refl w.heap.size w).alloc (Nat.le_refl _) _).alloc (by simp) _).trans (hb.mono (by simp; omega))); clear hb X2 X5))
      have g1 : (1 : Int) ≤ (r.size : Int) := by omega
      go_region
      all_goals
        go_wp2
        try rw [land_ret]
        refine bodyPost_ret (v := outV (some (⟨2, m, mt⟩, s.data.toList.drop 2))) (by rw [← HD.out]; simp [results, Tryd.results36, go_sem, outV, V.val, mt, noV, y0, y1, y2, extract_drop]) rfl ⟨rfl, (((HBel2.out.setCell (p := ⟨w.heap.size, 0, none⟩) (Nat.le_refl _) _).setCell (p := ⟨w.heap.size, 1, none⟩) (Nat.le_refl _) _).setCell (p := ⟨w.heap.size, 2, none⟩) (Nat.le_refl _) _).drew⟩
    · rw [if_neg h01]
      have HV := Lib.hid (show chk ⟨2, (m : Int), mt⟩ = 31 by unfold chk; dsimp only; rw [if_neg (by omega), if_neg (by omega), if_pos (by right; right; omega)])
      clear h01
      go_enter Tryd.func36, Tryd.ntmps36
      go_wp2
      refine wp_scope_land 2 ?_
      go_wp2
      refine wp_goto ?_
      refine land_goto rfl ?_
      rw [HR.out]
      go_wp2_with (first | (go_at_call 44; refine (highest_any _ HX8.out _).mono ?_; rintro e w' ⟨rfl, rfl⟩; rw [HN.out]; have ht := HT.out) | (go_at_call 11; refine (check_any ⟨2, m, mt⟩ HWF.out _).mono ?_; rintro e w2 ⟨rfl, hb⟩; rw [HV.out]; have X2 : Box w2 w.heap.size noV := ((Box.new w noV).alloc _).below hb; have X5 : Box w2 (w.heap.size + 1) ⟨2, m, mt⟩ := by { have h5 := Box.below (Box.new (w.alloc (.cells #[.int .i64 0, .int .i64 0, .string mt] 23)) ⟨2, m, mt⟩) hb; rwa [World.size_alloc] at h5 }; have y0 := X2.k; have y1 := X2.n; have y2 := X2.s; have z0 := X2.frozen 0; have z1 := X2.frozen 1; have z2 := X2.frozen 2; have x0 := X5.k; have x1 := X5.n; have x2 := X5.s; have HBel2 := Lib.hid ((((Below.refl w.heap.size w).alloc (Nat.le_refl _) _).alloc (by simp) _).trans (hb.mono (by simp; omega))); clear hb X2 X5))
      go_step3
      go_wp2
      try rw [land_ret]
      refine bodyPost_ret (v := outV none) (by simp [results, Tryd.results36, go_sem, outV, V.val, mt, noV, y0, y1, y2]) rfl ⟨rfl, (((HBel2.out.setCell (p := ⟨w.heap.size, 0, none⟩) (Nat.le_refl _) _).setCell (p := ⟨w.heap.size, 1, none⟩) (Nat.le_refl _) _).setCell (p := ⟨w.heap.size, 2, none⟩) (Nat.le_refl _) _)⟩

theorem text_none (s : ByteArray) (hs : s.size ≤ 1099511627776) (w : World) (h : textL s.data.toList = none) :
    Calls Tryd.prog 43 #[.string s] w fun e w' => e = .returned (.tuple #[.agg #[.int .i64 0, .int .i64 0, .string ⟨#[]⟩], .string ⟨#[]⟩, .bool false]) ∧ Below w.heap.size w w' := by
  have := text_walk s hs w
  rw [h] at this
  exact this
theorem text_some (s : ByteArray) (hs : s.size ≤ 1099511627776) (w : World) (v : V) (l : List UInt8) (h : textL s.data.toList = some (v, l)) :
    Calls Tryd.prog 43 #[.string s] w fun e w' => e = .returned (.tuple #[.agg #[.int .i64 v.k, .int .i64 v.n, .string v.s], .string (txt l), .bool true]) ∧ Below w.heap.size w w' := by
  have := text_walk s hs w
  rw [h] at this
  exact this

set_option maxHeartbeats 400000 in
theorem first_text (s : ByteArray) (hs : s.size ≤ 1099511627776) (h0 : 0 < s.size) (hc : s[0] = 4) (w : World) :
    Calls Tryd.prog 36 #[.string s] w fun e w' => e = .returned (outV (firstL s.data.toList)) ∧ Below w.heap.size w w' := by
  have e1 : (s[0].toNat : Int) = 4 := by rw [hc]; rfl
  have hrs : (s.extract 1 s.size).size = s.size - 1 := by rw [ByteArray.size_extract]; omega
  have hrl : (s.extract 1 s.size).data.toList = s.data.toList.drop 1 := by rw [Lib.extract_to_end]
  obtain ⟨r, hr⟩ : ∃ r, s.extract 1 s.size = r := ⟨_, rfl⟩
  rw [hr] at hrs hrl
  have HR := Lib.hid hr
  have e : firstL s.data.toList = textL r.data.toList := by
    rw [list_one s h0, hc, firstL_cons, if_neg (by decide), if_neg (by decide), if_neg (by decide), if_pos rfl, ← hrl]
    rfl
  rw [e]
  have hrb : r.size ≤ 1099511627776 := by omega
  clear e hc hrl hrs hr
  rcases hT : textL r.data.toList with _ | ⟨v, l⟩
  · have HT := Lib.hid hT
    clear hT
    go_enter Tryd.func36, Tryd.ntmps36
    go_wp2
    refine wp_scope_land 2 ?_
    go_wp2_with (go_at_call 43; rw [HR.out]; refine (text_none r hrb _ HT.out).mono ?_; rintro e w2 ⟨rfl, hb⟩; have X2 : Box w2 w.heap.size noV := ((Box.new w noV).alloc _).below hb; have y0 := X2.k; have y1 := X2.n; have y2 := X2.s; have z0 := X2.frozen 0; have z1 := X2.frozen 1; have z2 := X2.frozen 2; have HBel2 := Lib.hid ((((Below.refl w.heap.size w).alloc (Nat.le_refl _) _).alloc (by simp) _).trans (hb.mono (by simp; omega))); clear hb X2)
    try rw [land_ret]
    refine bodyPost_ret (v := outV none) (by simp [results, Tryd.results36, go_sem, outV, V.val, mt, noV, y0, y1, y2]) rfl ⟨rfl, (((HBel2.out.setCell (p := ⟨w.heap.size, 0, none⟩) (Nat.le_refl _) _).setCell (p := ⟨w.heap.size, 1, none⟩) (Nat.le_refl _) _).setCell (p := ⟨w.heap.size, 2, none⟩) (Nat.le_refl _) _)⟩
  · have HT := Lib.hid hT
    clear hT
    go_enter Tryd.func36, Tryd.ntmps36
    go_wp2
    refine wp_scope_land 2 ?_
    go_wp2_with (go_at_call 43; rw [HR.out]; refine (text_some r hrb _ v l HT.out).mono ?_; rintro e w2 ⟨rfl, hb⟩; have X2 : Box w2 w.heap.size noV := ((Box.new w noV).alloc _).below hb; have y0 := X2.k; have y1 := X2.n; have y2 := X2.s; have z0 := X2.frozen 0; have z1 := X2.frozen 1; have z2 := X2.frozen 2; have HBel2 := Lib.hid ((((Below.refl w.heap.size w).alloc (Nat.le_refl _) _).alloc (by simp) _).trans (hb.mono (by simp; omega))); clear hb X2)
    try rw [land_ret]
    refine bodyPost_ret (v := outV (some (v, l))) (by simp [results, Tryd.results36, go_sem, outV, V.val, mt, noV, y0, y1, y2]) rfl ⟨rfl, (((HBel2.out.setCell (p := ⟨w.heap.size, 0, none⟩) (Nat.le_refl _) _).setCell (p := ⟨w.heap.size, 1, none⟩) (Nat.le_refl _) _).setCell (p := ⟨w.heap.size, 2, none⟩) (Nat.le_refl _) _)⟩

theorem first_any (s : ByteArray) (hs : s.size ≤ 1099511627776) (h0 : 0 < s.size) (w : World) :
    Calls Tryd.prog 36 #[.string s] w fun e w' => e = .returned (outV (firstL s.data.toList)) ∧ Below w.heap.size w w' := by
  by_cases h1 : s[0] = 1
  · exact first_null s hs h0 h1 w
  · by_cases h2 : s[0] = 2
    · exact first_int s hs h0 h2 w
    · by_cases h3 : s[0] = 3
      · exact first_bool s hs h0 h3 w
      · by_cases h4 : s[0] = 4
        · exact first_text s hs h0 h4 w
        · exact first_other s hs h0 h1 h2 h3 h4 w
end Go.Proofs.YtnginemabkecmaaDoor
