/- The walks of within, for each kind of item. -/
import Derived.Test.YtkpajmgbiepmbaaCodRow
namespace Go.Proofs.Ytkpajmgbiepmbaa
open Go.ChangeShapes Go.WideShapes Go.ChangeAt Go.RowKit
open Go.Lib (byteCells byteCells_length byteCells_append strCells)
set_option linter.unusedVariables false

set_option maxHeartbeats 2000000 in
theorem within_int (l : List Int) (A : Option Addr) (n c : Nat) (w : World) (hn : n = l.length) (hm : n ≤ 1099511627776) (hat : RowC iCells 1 w w.heap.size A l)
    (hone : ∀ (j : Nat) (h : j < l.length) (W : World), Below w.heap.size w W → Calls Try.prog 48 #[.int .i64 l[j]] W (BufPost (intL l[j]) W)) (hpos : ∀ a ∈ l, 0 < (intL a).length) (htot : (listL intL l).length ≤ 16777216) :
    Calls Try.prog 47 #[.int .i64 16777216, .slice A n c, .func (.func 48) #[] #[]] w fun e w' => ∃ A' n' c', e = .returned (.tuple #[.slice A' n' c', .int .i64 0]) ∧ Buf w.heap.size A' n' c' (listL intL l) w' ∧ Below w.heap.size w w' := by
  have HN := Lib.hid hn
  have HA := Lib.hid hat
  have HO := Lib.hid hone
  have HP := Lib.hid hpos
  have HT := Lib.hid htot
  have HC := Lib.hid (num_walk n (by omega) w)
  have hW : IntKind.u64.wrap (n : Int) = (n : Int) := u64_in _ (by omega)
  clear hn hat hone hpos htot
  go_enter Try.func47, Try.ntmps47
  go_wp2_with (go_at_call 12; refine HC.out.mono ?_; rintro e w1 ⟨A1, n1, c1, rfl, hb1, hbel1⟩; have HB1 := Lib.hid hb1; have HBel1 := Lib.hid hbel1; clear hb1 hbel1)
  go_loopw [8, 17] (fun bv iv wr => ∃ (k : Nat) (A' : Option Addr) (n' c' : Nat), k ≤ n ∧ iv = .int .i64 (k : Int) ∧ bv = .slice A' n' c' ∧ Hid (Buf w.heap.size A' n' c' (upTo intL l k) wr) ∧ Hid (Below w.heap.size w wr)) (fun _ iv _ => n - (intOf iv).toNat)
  case atStart => exact ⟨0, A1, n1, c1, Nat.zero_le _, rfl, rfl, Lib.hid (by rw [upTo_zero, ← HN.out]; exact HB1.out), HBel1⟩
  case round =>
    obtain ⟨k, A', n', c', hk, rfl, rfl, HB, HBel⟩ := hrel
    by_cases hlt : k < n
    · have hkl : k < l.length := by rw [← HN.out]; exact hlt
      obtain ⟨b, off, rfl, hB, hc⟩ := (HA.out.below HBel.out) k hkl
      have c0 := hc 0 _ rfl
      rw [Nat.mul_one, Nat.add_zero] at c0
      obtain ⟨x, hx⟩ : ∃ x, l[k] = x := ⟨_, rfl⟩
      have HX := Lib.hid hx
      have HC2 := Lib.hid (fun W => HO.out k hkl W)
      rw [hx] at HC2
      simp only [hx] at c0
      have hbs := HBel.out.size
      have HPX := Lib.hid (HP.out x (by rw [← hx]; exact List.getElem_mem hkl))
      have HUN := Lib.hid (upTo_next (enc := intL) hkl)
      rw [hx] at HUN
      have hle := upTo_le (enc := intL) (l := l) (k + 1)
      have hle2 : Hid ((upTo intL l k).length + (intL x).length ≤ 1099511627776) := Lib.hid (by have h1 := HT.out; rw [HUN.out, List.length_append] at hle; omega)
      have HLE := Lib.hid (Nat.le_trans hle HT.out)
      clear hx hle hc
      go_wp2_with (first | (go_at_call 48; refine (HC2.out _ HBel.out).mono ?_; rintro e w2 ⟨A2, n2, c2, rfl, hb2, hbel2⟩; have HB2 := Lib.hid hb2; have HBb := Lib.hid ((HB.out).below hbel2); have HBel2 := Lib.hid (Below.trans HBel.out (hbel2.mono hbs)); clear hb2 hbel2) | (at_builtin; go_loud (refine append_buf rfl _ _ rfl w.heap.size _ _ _ (upTo intL l k) rfl _ HBb.out _ _ _ _ _ rfl HB2.out HPX.out hle2.out ?_); intro A3 n3 c3 w3 hb3 hk3 hg3; have H3 := Lib.hid hb3; have K3 := Lib.hid (HBel2.out.trans hk3.below); have hn3 : ¬ (16777216 : Int) < (n3 : Int) := (by have h1 := hb3.1; have h2 := HLE.out; rw [HUN.out] at h2; omega); clear hb3 hk3 hg3))
      go_roundw
      case rel => exact ⟨k + 1, A3, n3, c3, by omega, by go_num, rfl, Lib.hid (by rw [HUN.out]; exact H3.out), K3⟩
      case measure => simp [intOf]; omega
    · have HF := Lib.hid (upTo_all (enc := intL) (l := l) (k := k) (by rw [← HN.out]; omega))
      go_wp2
      go_ret2
      exact ⟨A', n', c', rfl, by rw [← HF.out]; exact HB.out, HBel.out⟩

set_option maxHeartbeats 2000000 in
theorem within_row (l : List Rw) (A : Option Addr) (n c : Nat) (w : World) (hn : n = l.length) (hm : n ≤ 1099511627776) (hat : RowC rCells 1 w w.heap.size A l)
    (hone : ∀ (j : Nat) (h : j < l.length) (W : World), Below w.heap.size w W → Calls Try.prog 39 #[l[j].val] W (BufPost (rwL l[j]) W)) (hpos : ∀ a ∈ l, 0 < (rwL a).length) (htot : (listL rwL l).length ≤ 16777216) :
    Calls Try.prog 38 #[.int .i64 16777216, .slice A n c, .func (.func 39) #[] #[]] w fun e w' => ∃ A' n' c', e = .returned (.tuple #[.slice A' n' c', .int .i64 0]) ∧ Buf w.heap.size A' n' c' (listL rwL l) w' ∧ Below w.heap.size w w' := by
  have HN := Lib.hid hn
  have HA := Lib.hid hat
  have HO := Lib.hid hone
  have HP := Lib.hid hpos
  have HT := Lib.hid htot
  have HC := Lib.hid (num_walk n (by omega) w)
  have hW : IntKind.u64.wrap (n : Int) = (n : Int) := u64_in _ (by omega)
  clear hn hat hone hpos htot
  go_enter Try.func38, Try.ntmps38
  go_wp2_with (go_at_call 12; refine HC.out.mono ?_; rintro e w1 ⟨A1, n1, c1, rfl, hb1, hbel1⟩; have HB1 := Lib.hid hb1; have HBel1 := Lib.hid hbel1; clear hb1 hbel1)
  go_loopw [8, 17] (fun bv iv wr => ∃ (k : Nat) (A' : Option Addr) (n' c' : Nat), k ≤ n ∧ iv = .int .i64 (k : Int) ∧ bv = .slice A' n' c' ∧ Hid (Buf w.heap.size A' n' c' (upTo rwL l k) wr) ∧ Hid (Below w.heap.size w wr)) (fun _ iv _ => n - (intOf iv).toNat)
  case atStart => exact ⟨0, A1, n1, c1, Nat.zero_le _, rfl, rfl, Lib.hid (by rw [upTo_zero, ← HN.out]; exact HB1.out), HBel1⟩
  case round =>
    obtain ⟨k, A', n', c', hk, rfl, rfl, HB, HBel⟩ := hrel
    by_cases hlt : k < n
    · have hkl : k < l.length := by rw [← HN.out]; exact hlt
      obtain ⟨b, off, rfl, hB, hc⟩ := (HA.out.below HBel.out) k hkl
      have c0 := hc 0 _ rfl
      rw [Nat.mul_one, Nat.add_zero] at c0
      obtain ⟨x, hx⟩ : ∃ x, l[k] = x := ⟨_, rfl⟩
      have HX := Lib.hid hx
      have HC2 := Lib.hid (fun W => HO.out k hkl W)
      rw [hx] at HC2
      simp only [hx] at c0
      have hbs := HBel.out.size
      have HPX := Lib.hid (HP.out x (by rw [← hx]; exact List.getElem_mem hkl))
      have HUN := Lib.hid (upTo_next (enc := rwL) hkl)
      rw [hx] at HUN
      have hle := upTo_le (enc := rwL) (l := l) (k + 1)
      have hle2 : Hid ((upTo rwL l k).length + (rwL x).length ≤ 1099511627776) := Lib.hid (by have h1 := HT.out; rw [HUN.out, List.length_append] at hle; omega)
      have HLE := Lib.hid (Nat.le_trans hle HT.out)
      clear hx hle hc
      go_wp2_with (first | (go_at_call 39; refine (HC2.out _ HBel.out).mono ?_; rintro e w2 ⟨A2, n2, c2, rfl, hb2, hbel2⟩; have HB2 := Lib.hid hb2; have HBb := Lib.hid ((HB.out).below hbel2); have HBel2 := Lib.hid (Below.trans HBel.out (hbel2.mono hbs)); clear hb2 hbel2) | (at_builtin; go_loud (refine append_buf rfl _ _ rfl w.heap.size _ _ _ (upTo rwL l k) rfl _ HBb.out _ _ _ _ _ rfl HB2.out HPX.out hle2.out ?_); intro A3 n3 c3 w3 hb3 hk3 hg3; have H3 := Lib.hid hb3; have K3 := Lib.hid (HBel2.out.trans hk3.below); have hn3 : ¬ (16777216 : Int) < (n3 : Int) := (by have h1 := hb3.1; have h2 := HLE.out; rw [HUN.out] at h2; omega); clear hb3 hk3 hg3))
      go_roundw
      case rel => exact ⟨k + 1, A3, n3, c3, by omega, by go_num, rfl, Lib.hid (by rw [HUN.out]; exact H3.out), K3⟩
      case measure => simp [intOf]; omega
    · have HF := Lib.hid (upTo_all (enc := rwL) (l := l) (k := k) (by rw [← HN.out]; omega))
      go_wp2
      go_ret2
      exact ⟨A', n', c', rfl, by rw [← HF.out]; exact HB.out, HBel.out⟩

set_option maxHeartbeats 2000000 in
theorem within_col (l : List Co) (A : Option Addr) (n c : Nat) (w : World) (hn : n = l.length) (hm : n ≤ 1099511627776) (hat : RowC cCells 2 w w.heap.size A l)
    (hone : ∀ (j : Nat) (h : j < l.length) (W : World), Below w.heap.size w W → Calls Try.prog 43 #[.agg #[.string l[j].s, .int .i64 l[j].k]] W (BufPost (colL l[j]) W)) (hpos : ∀ a ∈ l, 0 < (colL a).length) (htot : (listL colL l).length ≤ 16777216) :
    Calls Try.prog 42 #[.int .i64 16777216, .slice A n c, .func (.func 43) #[] #[]] w fun e w' => ∃ A' n' c', e = .returned (.tuple #[.slice A' n' c', .int .i64 0]) ∧ Buf w.heap.size A' n' c' (listL colL l) w' ∧ Below w.heap.size w w' := by
  have HN := Lib.hid hn
  have HA := Lib.hid hat
  have HO := Lib.hid hone
  have HP := Lib.hid hpos
  have HT := Lib.hid htot
  have HC := Lib.hid (num_walk n (by omega) w)
  have hW : IntKind.u64.wrap (n : Int) = (n : Int) := u64_in _ (by omega)
  clear hn hat hone hpos htot
  go_enter Try.func42, Try.ntmps42
  go_wp2_with (go_at_call 12; refine HC.out.mono ?_; rintro e w1 ⟨A1, n1, c1, rfl, hb1, hbel1⟩; have HB1 := Lib.hid hb1; have HBel1 := Lib.hid hbel1; clear hb1 hbel1)
  go_loopw [8, 17] (fun bv iv wr => ∃ (k : Nat) (A' : Option Addr) (n' c' : Nat), k ≤ n ∧ iv = .int .i64 (k : Int) ∧ bv = .slice A' n' c' ∧ Hid (Buf w.heap.size A' n' c' (upTo colL l k) wr) ∧ Hid (Below w.heap.size w wr)) (fun _ iv _ => n - (intOf iv).toNat)
  case atStart => exact ⟨0, A1, n1, c1, Nat.zero_le _, rfl, rfl, Lib.hid (by rw [upTo_zero, ← HN.out]; exact HB1.out), HBel1⟩
  case round =>
    obtain ⟨k, A', n', c', hk, rfl, rfl, HB, HBel⟩ := hrel
    by_cases hlt : k < n
    · have hkl : k < l.length := by rw [← HN.out]; exact hlt
      obtain ⟨b, off, rfl, hB, hc⟩ := (HA.out.below HBel.out) k hkl
      have c0 := hc 0 _ rfl
      have c1 := hc 1 _ rfl
      rw [Nat.add_zero] at c0
      obtain ⟨x, hx⟩ : ∃ x, l[k] = x := ⟨_, rfl⟩
      have HX := Lib.hid hx
      have HC2 := Lib.hid (fun W => HO.out k hkl W)
      rw [hx] at HC2
      simp only [hx] at c0 c1
      have hbs := HBel.out.size
      have HPX := Lib.hid (HP.out x (by rw [← hx]; exact List.getElem_mem hkl))
      have HUN := Lib.hid (upTo_next (enc := colL) hkl)
      rw [hx] at HUN
      have hle := upTo_le (enc := colL) (l := l) (k + 1)
      have hle2 : Hid ((upTo colL l k).length + (colL x).length ≤ 1099511627776) := Lib.hid (by have h1 := HT.out; rw [HUN.out, List.length_append] at hle; omega)
      have HLE := Lib.hid (Nat.le_trans hle HT.out)
      clear hx hle hc
      go_wp2_with (first | (go_at_call 43; refine (HC2.out _ (HBel.out.alloc hbs _)).mono ?_; rintro e w2 ⟨A2, n2, c2, rfl, hb2, hbel2⟩; have HB2 := Lib.hid hb2; have HBb := Lib.hid ((HB.out.alloc _).below hbel2); have HBel2 := Lib.hid (Below.trans (HBel.out.alloc hbs _) (hbel2.mono (by simp; omega))); clear hb2 hbel2) | (at_builtin; go_loud (refine append_buf rfl _ _ rfl w.heap.size _ _ _ (upTo colL l k) rfl _ HBb.out _ _ _ _ _ rfl HB2.out HPX.out hle2.out ?_); intro A3 n3 c3 w3 hb3 hk3 hg3; have H3 := Lib.hid hb3; have K3 := Lib.hid (HBel2.out.trans hk3.below); have hn3 : ¬ (16777216 : Int) < (n3 : Int) := (by have h1 := hb3.1; have h2 := HLE.out; rw [HUN.out] at h2; omega); clear hb3 hk3 hg3))
      go_roundw
      case rel => exact ⟨k + 1, A3, n3, c3, by omega, by go_num, rfl, Lib.hid (by rw [HUN.out]; exact H3.out), K3⟩
      case measure => simp [intOf]; omega
    · have HF := Lib.hid (upTo_all (enc := colL) (l := l) (k := k) (by rw [← HN.out]; omega))
      go_wp2
      go_ret2
      exact ⟨A', n', c', rfl, by rw [← HF.out]; exact HB.out, HBel.out⟩

set_option maxHeartbeats 2000000 in
theorem within_pair (l : List Pa) (A : Option Addr) (n c : Nat) (w : World) (hn : n = l.length) (hm : n ≤ 1099511627776) (hat : RowC pCells 2 w w.heap.size A l)
    (hone : ∀ (j : Nat) (h : j < l.length) (W : World), Below w.heap.size w W → Calls Try.prog 46 #[.agg #[.string l[j].s, .string l[j].t]] W (BufPost (pairL l[j]) W)) (hpos : ∀ a ∈ l, 0 < (pairL a).length) (htot : (listL pairL l).length ≤ 16777216) :
    Calls Try.prog 45 #[.int .i64 16777216, .slice A n c, .func (.func 46) #[] #[]] w fun e w' => ∃ A' n' c', e = .returned (.tuple #[.slice A' n' c', .int .i64 0]) ∧ Buf w.heap.size A' n' c' (listL pairL l) w' ∧ Below w.heap.size w w' := by
  have HN := Lib.hid hn
  have HA := Lib.hid hat
  have HO := Lib.hid hone
  have HP := Lib.hid hpos
  have HT := Lib.hid htot
  have HC := Lib.hid (num_walk n (by omega) w)
  have hW : IntKind.u64.wrap (n : Int) = (n : Int) := u64_in _ (by omega)
  clear hn hat hone hpos htot
  go_enter Try.func45, Try.ntmps45
  go_wp2_with (go_at_call 12; refine HC.out.mono ?_; rintro e w1 ⟨A1, n1, c1, rfl, hb1, hbel1⟩; have HB1 := Lib.hid hb1; have HBel1 := Lib.hid hbel1; clear hb1 hbel1)
  go_loopw [8, 17] (fun bv iv wr => ∃ (k : Nat) (A' : Option Addr) (n' c' : Nat), k ≤ n ∧ iv = .int .i64 (k : Int) ∧ bv = .slice A' n' c' ∧ Hid (Buf w.heap.size A' n' c' (upTo pairL l k) wr) ∧ Hid (Below w.heap.size w wr)) (fun _ iv _ => n - (intOf iv).toNat)
  case atStart => exact ⟨0, A1, n1, c1, Nat.zero_le _, rfl, rfl, Lib.hid (by rw [upTo_zero, ← HN.out]; exact HB1.out), HBel1⟩
  case round =>
    obtain ⟨k, A', n', c', hk, rfl, rfl, HB, HBel⟩ := hrel
    by_cases hlt : k < n
    · have hkl : k < l.length := by rw [← HN.out]; exact hlt
      obtain ⟨b, off, rfl, hB, hc⟩ := (HA.out.below HBel.out) k hkl
      have c0 := hc 0 _ rfl
      have c1 := hc 1 _ rfl
      rw [Nat.add_zero] at c0
      obtain ⟨x, hx⟩ : ∃ x, l[k] = x := ⟨_, rfl⟩
      have HX := Lib.hid hx
      have HC2 := Lib.hid (fun W => HO.out k hkl W)
      rw [hx] at HC2
      simp only [hx] at c0 c1
      have hbs := HBel.out.size
      have HPX := Lib.hid (HP.out x (by rw [← hx]; exact List.getElem_mem hkl))
      have HUN := Lib.hid (upTo_next (enc := pairL) hkl)
      rw [hx] at HUN
      have hle := upTo_le (enc := pairL) (l := l) (k + 1)
      have hle2 : Hid ((upTo pairL l k).length + (pairL x).length ≤ 1099511627776) := Lib.hid (by have h1 := HT.out; rw [HUN.out, List.length_append] at hle; omega)
      have HLE := Lib.hid (Nat.le_trans hle HT.out)
      clear hx hle hc
      go_wp2_with (first | (go_at_call 46; refine (HC2.out _ (HBel.out.alloc hbs _)).mono ?_; rintro e w2 ⟨A2, n2, c2, rfl, hb2, hbel2⟩; have HB2 := Lib.hid hb2; have HBb := Lib.hid ((HB.out.alloc _).below hbel2); have HBel2 := Lib.hid (Below.trans (HBel.out.alloc hbs _) (hbel2.mono (by simp; omega))); clear hb2 hbel2) | (at_builtin; go_loud (refine append_buf rfl _ _ rfl w.heap.size _ _ _ (upTo pairL l k) rfl _ HBb.out _ _ _ _ _ rfl HB2.out HPX.out hle2.out ?_); intro A3 n3 c3 w3 hb3 hk3 hg3; have H3 := Lib.hid hb3; have K3 := Lib.hid (HBel2.out.trans hk3.below); have hn3 : ¬ (16777216 : Int) < (n3 : Int) := (by have h1 := hb3.1; have h2 := HLE.out; rw [HUN.out] at h2; omega); clear hb3 hk3 hg3))
      go_roundw
      case rel => exact ⟨k + 1, A3, n3, c3, by omega, by go_num, rfl, Lib.hid (by rw [HUN.out]; exact H3.out), K3⟩
      case measure => simp [intOf]; omega
    · have HF := Lib.hid (upTo_all (enc := pairL) (l := l) (k := k) (by rw [← HN.out]; omega))
      go_wp2
      go_ret2
      exact ⟨A', n', c', rfl, by rw [← HF.out]; exact HB.out, HBel.out⟩

set_option maxHeartbeats 2000000 in
theorem within_val (l : List V) (A : Option Addr) (n c : Nat) (w : World) (hn : n = l.length) (hm : n ≤ 1099511627776) (hat : RowC V.cells 3 w w.heap.size A l)
    (hone : ∀ (j : Nat) (h : j < l.length) (W : World), Below w.heap.size w W → Calls Try.prog 66 #[.agg #[.int .i64 l[j].k, .int .i64 l[j].n, .string l[j].s]] W (BufPost (valL l[j]) W)) (hpos : ∀ a ∈ l, 0 < (valL a).length) (htot : (listL valL l).length ≤ 16777216) :
    Calls Try.prog 85 #[.int .i64 9223372036854775807, .slice A n c, .func (.func 66) #[] #[]] w fun e w' => ∃ A' n' c', e = .returned (.tuple #[.slice A' n' c', .int .i64 0]) ∧ Buf w.heap.size A' n' c' (listL valL l) w' ∧ Below w.heap.size w w' := by
  have HN := Lib.hid hn
  have HA := Lib.hid hat
  have HO := Lib.hid hone
  have HP := Lib.hid hpos
  have HT := Lib.hid htot
  have HC := Lib.hid (num_walk n (by omega) w)
  have hW : IntKind.u64.wrap (n : Int) = (n : Int) := u64_in _ (by omega)
  clear hn hat hone hpos htot
  go_enter Try.func85, Try.ntmps85
  go_wp2_with (go_at_call 12; refine HC.out.mono ?_; rintro e w1 ⟨A1, n1, c1, rfl, hb1, hbel1⟩; have HB1 := Lib.hid hb1; have HBel1 := Lib.hid hbel1; clear hb1 hbel1)
  go_loopw [8, 17] (fun bv iv wr => ∃ (k : Nat) (A' : Option Addr) (n' c' : Nat), k ≤ n ∧ iv = .int .i64 (k : Int) ∧ bv = .slice A' n' c' ∧ Hid (Buf w.heap.size A' n' c' (upTo valL l k) wr) ∧ Hid (Below w.heap.size w wr)) (fun _ iv _ => n - (intOf iv).toNat)
  case atStart => exact ⟨0, A1, n1, c1, Nat.zero_le _, rfl, rfl, Lib.hid (by rw [upTo_zero, ← HN.out]; exact HB1.out), HBel1⟩
  case round =>
    obtain ⟨k, A', n', c', hk, rfl, rfl, HB, HBel⟩ := hrel
    by_cases hlt : k < n
    · have hkl : k < l.length := by rw [← HN.out]; exact hlt
      obtain ⟨b, off, rfl, hB, hc⟩ := (HA.out.below HBel.out) k hkl
      have c0 := hc 0 _ rfl
      have c1 := hc 1 _ rfl
      have c2 := hc 2 _ rfl
      rw [Nat.add_zero] at c0
      obtain ⟨x, hx⟩ : ∃ x, l[k] = x := ⟨_, rfl⟩
      have HX := Lib.hid hx
      have HC2 := Lib.hid (fun W => HO.out k hkl W)
      rw [hx] at HC2
      simp only [hx] at c0 c1 c2
      have hbs := HBel.out.size
      have HPX := Lib.hid (HP.out x (by rw [← hx]; exact List.getElem_mem hkl))
      have HUN := Lib.hid (upTo_next (enc := valL) hkl)
      rw [hx] at HUN
      have hle := upTo_le (enc := valL) (l := l) (k + 1)
      have hle2 : Hid ((upTo valL l k).length + (valL x).length ≤ 1099511627776) := Lib.hid (by have h1 := HT.out; rw [HUN.out, List.length_append] at hle; omega)
      have HLE := Lib.hid (Nat.le_trans hle HT.out)
      clear hx hle hc
      go_wp2_with (first | (go_at_call 66; refine (HC2.out _ (HBel.out.alloc hbs _)).mono ?_; rintro e w2 ⟨A2, n2, c2, rfl, hb2, hbel2⟩; have HB2 := Lib.hid hb2; have HBb := Lib.hid ((HB.out.alloc _).below hbel2); have HBel2 := Lib.hid (Below.trans (HBel.out.alloc hbs _) (hbel2.mono (by simp; omega))); clear hb2 hbel2) | (at_builtin; go_loud (refine append_buf rfl _ _ rfl w.heap.size _ _ _ (upTo valL l k) rfl _ HBb.out _ _ _ _ _ rfl HB2.out HPX.out hle2.out ?_); intro A3 n3 c3 w3 hb3 hk3 hg3; have H3 := Lib.hid hb3; have K3 := Lib.hid (HBel2.out.trans hk3.below); have hn3 : ¬ (9223372036854775807 : Int) < (n3 : Int) := (by have h1 := hb3.1; have h2 := HLE.out; rw [HUN.out] at h2; omega); clear hb3 hk3 hg3))
      go_roundw
      case rel => exact ⟨k + 1, A3, n3, c3, by omega, by go_num, rfl, Lib.hid (by rw [HUN.out]; exact H3.out), K3⟩
      case measure => simp [intOf]; omega
    · have HF := Lib.hid (upTo_all (enc := valL) (l := l) (k := k) (by rw [← HN.out]; omega))
      go_wp2
      go_ret2
      exact ⟨A', n', c', rfl, by rw [← HF.out]; exact HB.out, HBel.out⟩

end Go.Proofs.Ytkpajmgbiepmbaa
