/- The walk of OffsPacks. -/
import Derived.Test.YtceoneigflejeaaOffV
import Derived.Test.YtceoneigflejeaaRegion
namespace Go.Proofs.Ytceoneigflejeaa
open Go.ChangeShapes Go.WideShapes Go.ChangeAt Go.RowKit
open Go.Lib (byteCells byteCells_length byteCells_append strCells)
set_option linter.unusedVariables false

theorem packs_le {l : List Rg} (hr : rightB l = true) : (listL intL (numsOf l)).length ≤ 90 := by
  have hp := right_parts hr
  have h := listL_le (enc := intL) (m := 10) (l := numsOf l) (by rw [numsOf_len]; omega) (fun a ha => intL_len (numsOf_in (fun r h => ok_wf (hp.2.2 r h)) a ha))
  rw [numsOf_len] at h
  omega
theorem unp_packs {l : List Rg} (hr : rightB l = true) : unpO (listL intL (numsOf l)) = some l := by
  have hp := right_parts hr
  have hb : whole rInt (listL intL (numsOf l)) = some (numsOf l) := whole_back int_codec (by rw [numsOf_len]; omega) (numsOf_in fun r h => ok_wf (hp.2.2 r h))
  have := unpO_yes hb (by rw [numsOf_len]; omega) (by rw [pairUp_nums]; exact hr)
  rwa [pairUp_nums] at this
theorem BufCap {B : Nat} {A : Option Addr} {n c : Nat} {bs : List UInt8} {w : World} (h : Buf B A n c bs w) : n ≤ c ∧ c ≤ maxLen := by
  rcases h.2.2.2 with ⟨hv, h0⟩ | ⟨g, cap, cur, hv, _, _, h1, h2, _⟩
  · injection hv with _ _ h3
    exact ⟨by omega, by rw [h3]; decide⟩
  · injection hv with _ _ h3
    exact ⟨by omega, by omega⟩
theorem unp_len {bs : List UInt8} {L : List Rg} (h : unpO bs = some L) : L.length ≤ 4 := by
  unfold unpO at h
  split at h
  · cases h
  · split at h
    · rename_i hh
      injection h with h
      rw [← h]
      exact (right_parts hh.2).2.1
    · cases h
/-- Unpack of a text's bytes, as one. -/
def UnpText (o : Option (List Rg)) (w : World) (e : Ending) (w' : World) : Prop :=
  ∃ A n c x, e = .returned (.tuple #[.slice A n c, .int .i64 x]) ∧ n = (o.getD []).length ∧ x = (if o.isSome then 0 else 80) ∧ RowC rgCells 2 w' w'.heap.size A (o.getD []) ∧ Below w.heap.size w w'
theorem unpack_text (s : ByteArray) (c b : Nat) (w : World) (hs : s.size ≤ 16777216) (hc : s.size ≤ c) (hcm : c ≤ maxLen) (hb : BytesAt w w.heap.size (some ⟨b, 0, none⟩) s.data.toList) :
    Calls Try.prog 20 #[.slice (some ⟨b, 0, none⟩) s.size c] w (UnpText (unpO s.data.toList) w) := by
  refine (unpack_walk s.data.toList _ s.size c w (size_eq s) hc hcm hs hb).mono ?_
  rintro e w' ⟨A, c1, rfl, hr, hbel⟩
  exact ⟨A, _, c1, _, rfl, rfl, rfl, hr, hbel⟩
theorem unpack_mem (bs : List UInt8) (A : Option Addr) (n c m : Nat) (x : Int) (L : List Rg) (w : World) (hn : n = bs.length) (hc : n ≤ c) (hcm : c ≤ maxLen) (hl : n ≤ 16777216) (hb : BytesAt w w.heap.size A bs)
    (hm : m = ((unpO bs).getD []).length) (hx : x = if (unpO bs).isSome then 0 else 80) (hL : (unpO bs).getD [] = L) :
    Calls Try.prog 20 #[.slice A n c] w fun e w' => ∃ A' c', e = .returned (.tuple #[.slice A' m c', .int .i64 x]) ∧ RowC rgCells 2 w' w'.heap.size A' L ∧ Below w.heap.size w w' := by
  refine (unpack_walk bs A n c w hn hc hcm hl hb).mono ?_
  rintro e w' ⟨A', c1, rfl, hr, hbel⟩
  rw [hL] at hr
  rw [← hm, ← hx]
  exact ⟨A', c1, rfl, hr, hbel⟩
set_option maxRecDepth 4000 in
set_option maxHeartbeats 4000000 in
theorem offspacks_walk (l : List Rg) (A : Option Addr) (n c : Nat) (s : ByteArray) (w : World) (hn : n = l.length) (hm : n ≤ maxLen) (hs : s.size ≤ maxLen) (hat : RowC rgCells 2 w w.heap.size A l) :
    Calls Try.prog 5 #[.slice A n c, .string s] w fun e w' => e = .returned (.bool true) ∧ Below w.heap.size w w' := by
  have hn9 : n ≤ 9223372036854775807 := by unfold maxLen at hm; omega
  have hs1 : s.size ≤ 9223372036854775807 := by unfold maxLen at hs; omega
  by_cases hbig : 4000 < s.size
  · have d1 : decide ((4000 : Int) < (s.size : Int)) = true := decide_eq_true (by omega)
    clear hn hm hs hat hbig
    go_enter Try.func5, Try.ntmps5
    go_wp2_with (go_at_call 7; refine (alive_any _).mono ?_; rintro e w1 ⟨rfl, hb1⟩; have HB := Lib.hid hb1; clear hb1)
    go_ret
    exact ⟨rfl, HB.out⟩
  have d1 : decide ((4000 : Int) < (s.size : Int)) = false := decide_eq_false (by omega)
  by_cases hbig2 : 300 < n
  · have d2 : decide ((300 : Int) < (n : Int)) = true := decide_eq_true (by omega)
    clear hn hm hs hat hbig hbig2
    go_enter Try.func5, Try.ntmps5
    go_wp2_with (go_at_call 7; refine (alive_any _).mono ?_; rintro e w1 ⟨rfl, hb1⟩; have HB := Lib.hid hb1; clear hb1)
    go_ret
    exact ⟨rfl, HB.out⟩
  have d2 : decide ((300 : Int) < (n : Int)) = false := decide_eq_false (by omega)
  have HN := Lib.hid hn
  have HM := Lib.hid hm
  have HS := Lib.hid hs
  have HS4 := Lib.hid (show s.size ≤ 16777216 by omega)
  have HAW := Lib.hid (fun W (h : Below w.heap.size w W) => (hat.below h).more h.size)
  have HPK := Lib.hid (fun W (h : Below w.heap.size w W) => pack_walk l A n c W hn hm ((hat.below h).more h.size))
  have HRT := Lib.hid (fun W (h : Below w.heap.size w W) => right_walk l A n c W hn hm ((hat.below h).more h.size))
  have HUR := Lib.hid (fun W => runpack_walk s (by omega) W)
  have hcv := fun W => run_bytes_of_string (P := Try.prog) W 9 37 5 s Try.underlying9 Try.underlying37 Try.underlying5
  clear hn hm hs hat hbig hbig2
  cases hr : rightB l with
  | false =>
    have HR := Lib.hid hr
    rw [hr] at HRT
    clear hr
    cases ho : unpO s.data.toList with
    | none =>
      rw [ho] at HUR
      unfold RUnpPost at HUR
      have HT1 := Lib.hid (show (0 : Nat) = ((unpO s.data.toList).getD []).length by rw [ho]; rfl)
      have HT2 := Lib.hid (show (80 : Int) = if (unpO s.data.toList).isSome then 0 else 80 by rw [ho]; rfl)
      have HT3 := Lib.hid (show (unpO s.data.toList).getD [] = [] by rw [ho]; rfl)
      clear ho
      go_enter Try.func5, Try.ntmps5
      go_wp2_with (first | (go_at_call 21; refine (HUR.out _).mono ?_; rintro e w11 ⟨A11, n11, c11, rfl, hb11⟩; have HB11 := Lib.hid (hop HB10.out hb11); clear hb11) | (have HSEC := HB9; go_at_call 20; refine (unpack_mem s.data.toList _ s.size _ 0 80 [] _ (size_eq s) (grownCap_ge _ _ _ _) (grownCap_le_maxLen _ _ _ _ HS.out) HS4.out ?c1 HT1.out HT2.out HT3.out).mono ?_; (case c1 => exact laid_bytes s _ _ _ _); rintro e w10 ⟨A10, c10, rfl, hr10, hb10⟩; have HR10 := Lib.hid hr10; have HB10 := Lib.hid (hop (HB9.out.alloc HB9.out.size _).drew hb10); clear hr10 hb10) | (go_at_call 8; refine (HRT.out _ HB5.out).mono ?_; rintro e w6 ⟨rfl, hb6⟩; have HB9 := Lib.hid (hop HB5.out hb6); clear hb6) | (go_at_call 18; refine (HPK.out _ HB.out).mono ?_; intro e w5 h; obtain ⟨rfl, hb5⟩ := h.2 HR.out; have HB5 := Lib.hid (hop HB.out hb5); clear h hb5) | (go_at_call 7; refine (alive_any _).mono ?_; rintro e w1 ⟨rfl, hb1⟩; have HB := Lib.hid hb1; clear hb1))
      go_ret
      exact ⟨rfl, HB11.out⟩
    | some L =>
      rw [ho] at HUR
      unfold RUnpPost at HUR
      obtain ⟨m, hm⟩ : ∃ m, L.length = m := ⟨_, rfl⟩
      have HML := Lib.hid hm
      have HMM := Lib.hid (show m ≤ maxLen by have h := unp_len ho; unfold maxLen; omega)
      have hm9 : m ≤ 4 := by have h := unp_len ho; omega
      have HT1 := Lib.hid (show m = ((unpO s.data.toList).getD []).length by rw [ho]; exact hm.symm)
      have HT2 := Lib.hid (show (0 : Int) = if (unpO s.data.toList).isSome then 0 else 80 by rw [ho]; rfl)
      have HT3 := Lib.hid (show (unpO s.data.toList).getD [] = L by rw [ho]; rfl)
      clear ho hm
      go_enter Try.func5, Try.ntmps5
      go_wp2_with (first | (have HSEC := HB11; go_at_call 12; refine (same_walk L A10 A11 m c10 m c11 _ HML.out.symm HMM.out HR10.out rfl HR11.out).mono ?_; rintro e w12 ⟨rfl, hb12⟩; have HB12 := Lib.hid (hop HB11.out hb12); clear hb12) | (go_at_call 21; refine (HUR.out _).mono ?_; rintro e w11 ⟨A11, c11, rfl, hr11, hb11⟩; rw [HML.out]; have HR11 := Lib.hid hr11; have HR10 := Lib.hid ((HR10.out.below hb11).more hb11.size); have HB11 := Lib.hid (hop HB10.out hb11); clear hr11 hb11) | (have HSEC := HB9; go_at_call 20; refine (unpack_mem s.data.toList _ s.size _ m 0 L _ (size_eq s) (grownCap_ge _ _ _ _) (grownCap_le_maxLen _ _ _ _ HS.out) HS4.out ?c1 HT1.out HT2.out HT3.out).mono ?_; (case c1 => exact laid_bytes s _ _ _ _); rintro e w10 ⟨A10, c10, rfl, hr10, hb10⟩; have HR10 := Lib.hid hr10; have HB10 := Lib.hid (hop (HB9.out.alloc HB9.out.size _).drew hb10); clear hr10 hb10) | (go_at_call 8; refine (HRT.out _ HB5.out).mono ?_; rintro e w6 ⟨rfl, hb6⟩; have HB9 := Lib.hid (hop HB5.out hb6); clear hb6) | (go_at_call 18; refine (HPK.out _ HB.out).mono ?_; intro e w5 h; obtain ⟨rfl, hb5⟩ := h.2 HR.out; have HB5 := Lib.hid (hop HB.out hb5); clear h hb5) | (go_at_call 7; refine (alive_any _).mono ?_; rintro e w1 ⟨rfl, hb1⟩; have HB := Lib.hid hb1; clear hb1))
      go_ret
      exact ⟨rfl, HB12.out⟩
  | true =>
    have HR := Lib.hid hr
    rw [hr] at HRT
    obtain ⟨bs, hbs⟩ : ∃ bs, listL intL (numsOf l) = bs := ⟨_, rfl⟩
    have HBS := Lib.hid hbs
    have HBL := Lib.hid (show bs.length ≤ 90 by rw [← hbs]; exact packs_le hr)
    have HU1 := Lib.hid (show n = ((unpO bs).getD []).length by rw [← hbs, unp_packs hr]; exact HN.out)
    have HU2 := Lib.hid (show (0 : Int) = if (unpO bs).isSome then 0 else 80 by rw [← hbs, unp_packs hr]; rfl)
    have HU3 := Lib.hid (show (unpO bs).getD [] = l by rw [← hbs, unp_packs hr]; rfl)
    unfold PackPost at HPK
    rw [hbs] at HPK
    clear hr hbs
    cases ho : unpO s.data.toList with
    | none =>
      rw [ho] at HUR
      unfold RUnpPost at HUR
      have HT1 := Lib.hid (show (0 : Nat) = ((unpO s.data.toList).getD []).length by rw [ho]; rfl)
      have HT2 := Lib.hid (show (80 : Int) = if (unpO s.data.toList).isSome then 0 else 80 by rw [ho]; rfl)
      have HT3 := Lib.hid (show (unpO s.data.toList).getD [] = [] by rw [ho]; rfl)
      clear ho
      go_enter Try.func5, Try.ntmps5
      go_wp2_with (first | (go_at_call 8; refine (HRT.out _ HB5.out).mono ?_; rintro e w6 ⟨rfl, hb6⟩; have HB6 := Lib.hid (hop HB5.out hb6); have HZ5 := Lib.hid (HZ5.out.below hb6); clear hb6) | (go_at_call 18; refine (HPK.out _ HB.out).mono ?_; intro e w5 h; obtain ⟨A5, n5, c5, rfl, hz5, hb5⟩ := h.1 HR.out; have HZ5 := Lib.hid (hz5.more (Nat.zero_le _)); have HB5 := Lib.hid (hop HB.out hb5); clear h hz5 hb5) | (go_at_call 7; refine (alive_any _).mono ?_; rintro e w1 ⟨rfl, hb1⟩; have HB := Lib.hid hb1; clear hb1))
      refine held_begin 9 (fun W => Below w.heap.size w W ∧ Buf 0 A5 n5 c5 bs W) rfl (by kernel_rfl) ?_
      have hS : Below w.heap.size w w6.drew ∧ Buf 0 A5 n5 c5 bs w6.drew := ⟨HB6.out.drew, HZ5.out.drew⟩
      refine held_take (i := 0) (t := 30) (v := (.int .i64 0)) (fuel := 8) rfl rfl (by kernel_rfl) (by kernel_rfl) (by kernel_rfl) (fun _ _ _ h => h) (.inl ⟨rfl, fun _ _ => rfl⟩) hS ?_
      simp only [List.setIfInBounds_toArray, List.set_cons_succ, List.set_cons_zero]
      refine held_take (i := 1) (t := 31) (v := (.bool false)) (fuel := 7) rfl rfl (by kernel_rfl) (by kernel_rfl) (by kernel_rfl) (fun _ _ _ h => h) (.inl ⟨rfl, fun W hW => by simp [execOp, Act.eval, go_sem]⟩) hS ?_
      simp only [List.setIfInBounds_toArray, List.set_cons_succ, List.set_cons_zero]
      refine held_take (i := 2) (t := 32) (v := (.bool false)) (fuel := 6) rfl rfl (by kernel_rfl) (by kernel_rfl) (by kernel_rfl) (fun _ _ _ h => h) (.inl ⟨rfl, fun _ _ => rfl⟩) hS ?_
      simp only [List.setIfInBounds_toArray, List.set_cons_succ, List.set_cons_zero]
      refine held_take (i := 3) (t := 33) (v := (.slice A5 n5 c5)) (fuel := 5) rfl rfl (by kernel_rfl) (by kernel_rfl) (by kernel_rfl) (fun _ _ _ h => h) (.inl ⟨rfl, fun _ _ => rfl⟩) hS ?_
      simp only [List.setIfInBounds_toArray, List.set_cons_succ, List.set_cons_zero]
      refine held_take (i := 4) (t := 34) (v := (.string (txt bs))) (fuel := 4) rfl rfl (by kernel_rfl) (by kernel_rfl) (by kernel_rfl) (fun _ _ _ h => h) (.inl ⟨rfl, fun W hW => by have hc := string_of_buf hW.2; simp [execOp, Act.eval, hc]⟩) hS ?_
      simp only [List.setIfInBounds_toArray, List.set_cons_succ, List.set_cons_zero]
      refine held_take (i := 5) (t := 35) (v := (.slice A n c)) (fuel := 3) rfl rfl (by kernel_rfl) (by kernel_rfl) (by kernel_rfl) (fun _ _ _ h => h) (.inl ⟨rfl, fun _ _ => rfl⟩) hS ?_
      simp only [List.setIfInBounds_toArray, List.set_cons_succ, List.set_cons_zero]
      refine held_call (i := 6) rfl (by kernel_rfl) (by kernel_rfl) ?_
      simp [Oper.wp, execOp, Act.eval, Act.put, go_sem]
      refine (rpack_walk l A n c _ HN.out HR.out (HAW.out _ hS.1)).mono ?_
      rw [HBS.out]
      rintro e w7 ⟨rfl, hb7⟩
      have hS : Below w.heap.size w w7 ∧ Buf 0 A5 n5 c5 bs w7 := ⟨hop hS.1 hb7, hS.2.below hb7⟩
      refine ⟨hS, ?_⟩
      try simp only [List.setIfInBounds_toArray, List.set_cons_succ, List.set_cons_zero]
      refine held_take (i := 7) (t := 37) (v := (.bool false)) (fuel := 1) rfl rfl (by kernel_rfl) (by kernel_rfl) (by kernel_rfl) (fun _ _ _ h => h) (.inl ⟨rfl, fun W hW => by simp [execOp, Act.eval, go_sem]⟩) hS ?_
      simp only [List.setIfInBounds_toArray, List.set_cons_succ, List.set_cons_zero]
      refine held_take (i := 8) (t := 38) (v := (.bool false)) (fuel := 0) rfl rfl (by kernel_rfl) (by kernel_rfl) (by kernel_rfl) (fun _ _ _ h => h) (.inl ⟨rfl, fun W hW => by simp [execOp, Act.eval, go_sem]⟩) hS ?_
      simp only [List.setIfInBounds_toArray, List.set_cons_succ, List.set_cons_zero]
      refine ⟨by kernel_rfl, ?_⟩
      have HB7 := Lib.hid hS.1
      have HZ7 := Lib.hid hS.2
      clear hS
      have HN5 := Lib.hid (show n5 ≤ 16777216 by have h1 := HZ7.out.1; have h2 := HBL.out; omega)
      go_wp2_with (first | (go_at_call 21; refine (HUR.out _).mono ?_; rintro e w11 ⟨A11, n11, c11, rfl, hb11⟩; have HB11 := Lib.hid (hop HB10.out hb11); clear hb11) | (have HSEC := HB9; go_at_call 20; refine (unpack_mem s.data.toList _ s.size _ 0 80 [] _ (size_eq s) (grownCap_ge _ _ _ _) (grownCap_le_maxLen _ _ _ _ HS.out) HS4.out ?c1 HT1.out HT2.out HT3.out).mono ?_; (case c1 => exact laid_bytes s _ _ _ _); rintro e w10 ⟨A10, c10, rfl, hr10, hb10⟩; have HR10 := Lib.hid hr10; have HB10 := Lib.hid (hop (HB9.out.alloc HB9.out.size _).drew hb10); clear hr10 hb10) | (go_at_call 12; refine (same_walk l A8 A n c8 n c _ HN.out HM.out HR8.out rfl (HAW.out _ HB8.out)).mono ?_; rintro e w9 ⟨rfl, hb9⟩; have HB9 := Lib.hid (hop HB8.out hb9); clear hb9) | (go_at_call 20; refine (unpack_mem bs A5 n5 c5 n 0 l _ HZ7.out.1 (BufCap HZ7.out).1 (BufCap HZ7.out).2 HN5.out (BytesAt.buf HZ7.out) HU1.out HU2.out HU3.out).mono ?_; rintro e w8 ⟨A8, c8, rfl, hr8, hb8⟩; have HR8 := Lib.hid hr8; have HB8 := Lib.hid (hop HB7.out hb8); clear hr8 hb8))
      go_ret
      exact ⟨rfl, HB11.out⟩
    | some L =>
      rw [ho] at HUR
      unfold RUnpPost at HUR
      obtain ⟨m, hm⟩ : ∃ m, L.length = m := ⟨_, rfl⟩
      have HML := Lib.hid hm
      have HMM := Lib.hid (show m ≤ maxLen by have h := unp_len ho; unfold maxLen; omega)
      have hm9 : m ≤ 4 := by have h := unp_len ho; omega
      have HT1 := Lib.hid (show m = ((unpO s.data.toList).getD []).length by rw [ho]; exact hm.symm)
      have HT2 := Lib.hid (show (0 : Int) = if (unpO s.data.toList).isSome then 0 else 80 by rw [ho]; rfl)
      have HT3 := Lib.hid (show (unpO s.data.toList).getD [] = L by rw [ho]; rfl)
      clear ho hm
      go_enter Try.func5, Try.ntmps5
      go_wp2_with (first | (go_at_call 8; refine (HRT.out _ HB5.out).mono ?_; rintro e w6 ⟨rfl, hb6⟩; have HB6 := Lib.hid (hop HB5.out hb6); have HZ5 := Lib.hid (HZ5.out.below hb6); clear hb6) | (go_at_call 18; refine (HPK.out _ HB.out).mono ?_; intro e w5 h; obtain ⟨A5, n5, c5, rfl, hz5, hb5⟩ := h.1 HR.out; have HZ5 := Lib.hid (hz5.more (Nat.zero_le _)); have HB5 := Lib.hid (hop HB.out hb5); clear h hz5 hb5) | (go_at_call 7; refine (alive_any _).mono ?_; rintro e w1 ⟨rfl, hb1⟩; have HB := Lib.hid hb1; clear hb1))
      refine held_begin 9 (fun W => Below w.heap.size w W ∧ Buf 0 A5 n5 c5 bs W) rfl (by kernel_rfl) ?_
      have hS : Below w.heap.size w w6.drew ∧ Buf 0 A5 n5 c5 bs w6.drew := ⟨HB6.out.drew, HZ5.out.drew⟩
      refine held_take (i := 0) (t := 30) (v := (.int .i64 0)) (fuel := 8) rfl rfl (by kernel_rfl) (by kernel_rfl) (by kernel_rfl) (fun _ _ _ h => h) (.inl ⟨rfl, fun _ _ => rfl⟩) hS ?_
      simp only [List.setIfInBounds_toArray, List.set_cons_succ, List.set_cons_zero]
      refine held_take (i := 1) (t := 31) (v := (.bool false)) (fuel := 7) rfl rfl (by kernel_rfl) (by kernel_rfl) (by kernel_rfl) (fun _ _ _ h => h) (.inl ⟨rfl, fun W hW => by simp [execOp, Act.eval, go_sem]⟩) hS ?_
      simp only [List.setIfInBounds_toArray, List.set_cons_succ, List.set_cons_zero]
      refine held_take (i := 2) (t := 32) (v := (.bool false)) (fuel := 6) rfl rfl (by kernel_rfl) (by kernel_rfl) (by kernel_rfl) (fun _ _ _ h => h) (.inl ⟨rfl, fun _ _ => rfl⟩) hS ?_
      simp only [List.setIfInBounds_toArray, List.set_cons_succ, List.set_cons_zero]
      refine held_take (i := 3) (t := 33) (v := (.slice A5 n5 c5)) (fuel := 5) rfl rfl (by kernel_rfl) (by kernel_rfl) (by kernel_rfl) (fun _ _ _ h => h) (.inl ⟨rfl, fun _ _ => rfl⟩) hS ?_
      simp only [List.setIfInBounds_toArray, List.set_cons_succ, List.set_cons_zero]
      refine held_take (i := 4) (t := 34) (v := (.string (txt bs))) (fuel := 4) rfl rfl (by kernel_rfl) (by kernel_rfl) (by kernel_rfl) (fun _ _ _ h => h) (.inl ⟨rfl, fun W hW => by have hc := string_of_buf hW.2; simp [execOp, Act.eval, hc]⟩) hS ?_
      simp only [List.setIfInBounds_toArray, List.set_cons_succ, List.set_cons_zero]
      refine held_take (i := 5) (t := 35) (v := (.slice A n c)) (fuel := 3) rfl rfl (by kernel_rfl) (by kernel_rfl) (by kernel_rfl) (fun _ _ _ h => h) (.inl ⟨rfl, fun _ _ => rfl⟩) hS ?_
      simp only [List.setIfInBounds_toArray, List.set_cons_succ, List.set_cons_zero]
      refine held_call (i := 6) rfl (by kernel_rfl) (by kernel_rfl) ?_
      simp [Oper.wp, execOp, Act.eval, Act.put, go_sem]
      refine (rpack_walk l A n c _ HN.out HR.out (HAW.out _ hS.1)).mono ?_
      rw [HBS.out]
      rintro e w7 ⟨rfl, hb7⟩
      have hS : Below w.heap.size w w7 ∧ Buf 0 A5 n5 c5 bs w7 := ⟨hop hS.1 hb7, hS.2.below hb7⟩
      refine ⟨hS, ?_⟩
      try simp only [List.setIfInBounds_toArray, List.set_cons_succ, List.set_cons_zero]
      refine held_take (i := 7) (t := 37) (v := (.bool false)) (fuel := 1) rfl rfl (by kernel_rfl) (by kernel_rfl) (by kernel_rfl) (fun _ _ _ h => h) (.inl ⟨rfl, fun W hW => by simp [execOp, Act.eval, go_sem]⟩) hS ?_
      simp only [List.setIfInBounds_toArray, List.set_cons_succ, List.set_cons_zero]
      refine held_take (i := 8) (t := 38) (v := (.bool false)) (fuel := 0) rfl rfl (by kernel_rfl) (by kernel_rfl) (by kernel_rfl) (fun _ _ _ h => h) (.inl ⟨rfl, fun W hW => by simp [execOp, Act.eval, go_sem]⟩) hS ?_
      simp only [List.setIfInBounds_toArray, List.set_cons_succ, List.set_cons_zero]
      refine ⟨by kernel_rfl, ?_⟩
      have HB7 := Lib.hid hS.1
      have HZ7 := Lib.hid hS.2
      clear hS
      have HN5 := Lib.hid (show n5 ≤ 16777216 by have h1 := HZ7.out.1; have h2 := HBL.out; omega)
      go_wp2_with (first | (have HSEC := HB11; go_at_call 12; refine (same_walk L A10 A11 m c10 m c11 _ HML.out.symm HMM.out HR10.out rfl HR11.out).mono ?_; rintro e w12 ⟨rfl, hb12⟩; have HB12 := Lib.hid (hop HB11.out hb12); clear hb12) | (go_at_call 21; refine (HUR.out _).mono ?_; rintro e w11 ⟨A11, c11, rfl, hr11, hb11⟩; rw [HML.out]; have HR11 := Lib.hid hr11; have HR10 := Lib.hid ((HR10.out.below hb11).more hb11.size); have HB11 := Lib.hid (hop HB10.out hb11); clear hr11 hb11) | (have HSEC := HB9; go_at_call 20; refine (unpack_mem s.data.toList _ s.size _ m 0 L _ (size_eq s) (grownCap_ge _ _ _ _) (grownCap_le_maxLen _ _ _ _ HS.out) HS4.out ?c1 HT1.out HT2.out HT3.out).mono ?_; (case c1 => exact laid_bytes s _ _ _ _); rintro e w10 ⟨A10, c10, rfl, hr10, hb10⟩; have HR10 := Lib.hid hr10; have HB10 := Lib.hid (hop (HB9.out.alloc HB9.out.size _).drew hb10); clear hr10 hb10) | (go_at_call 12; refine (same_walk l A8 A n c8 n c _ HN.out HM.out HR8.out rfl (HAW.out _ HB8.out)).mono ?_; rintro e w9 ⟨rfl, hb9⟩; have HB9 := Lib.hid (hop HB8.out hb9); clear hb9) | (go_at_call 20; refine (unpack_mem bs A5 n5 c5 n 0 l _ HZ7.out.1 (BufCap HZ7.out).1 (BufCap HZ7.out).2 HN5.out (BytesAt.buf HZ7.out) HU1.out HU2.out HU3.out).mono ?_; rintro e w8 ⟨A8, c8, rfl, hr8, hb8⟩; have HR8 := Lib.hid hr8; have HB8 := Lib.hid (hop HB7.out hb8); clear hr8 hb8))
      go_ret
      exact ⟨rfl, HB12.out⟩
end Go.Proofs.Ytceoneigflejeaa
