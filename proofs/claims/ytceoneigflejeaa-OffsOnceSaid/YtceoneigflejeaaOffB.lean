/- Ranges: which go on where others end; the plain answers. -/
import Derived.Test.YtceoneigflejeaaOffA2
namespace Go.Proofs.Ytceoneigflejeaa
open Go.ChangeShapes Go.WideShapes Go.ChangeAt Go.RowKit
set_option linter.unusedVariables false

def folB (a b : List Rg) : Bool := rightB a && (rightB b && (decide (a.length = b.length) && (a.zip b).all fun p => decide (p.1.t = p.2.f)))
def MeetTo (a b : List Rg) (k : Nat) : Prop := ∀ j (h : j < a.length) (h' : j < b.length), j < k → a[j].t = b[j].f
section
variable {a b : List Rg} {k : Nat}
theorem fol_iff : folB a b = true ↔ rightB a = true ∧ rightB b = true ∧ a.length = b.length ∧ ∀ j (h : j < a.length) (h' : j < b.length), a[j].t = b[j].f := by
  unfold folB
  simp only [Bool.and_eq_true, decide_eq_true_eq, List.all_eq_true]
  refine ⟨fun ⟨h1, h2, h3, h4⟩ => ⟨h1, h2, h3, fun j hj hj' => ?_⟩, fun ⟨h1, h2, h3, h4⟩ => ⟨h1, h2, h3, fun p hp => ?_⟩⟩
  · have := h4 (a[j], b[j]) (by
      have hz : j < (a.zip b).length := by rw [List.length_zip]; omega
      have := List.getElem_mem hz
      rwa [List.getElem_zip] at this)
    exact this
  · obtain ⟨j, hj, rfl⟩ := List.getElem_of_mem hp
    rw [List.getElem_zip]
    rw [List.length_zip] at hj
    exact h4 j (by omega) (by omega)
theorem fol_no1 (h : rightB a = false) : folB a b = false := by unfold folB; rw [h]; rfl
theorem fol_no2 (h : rightB b = false) : folB a b = false := by unfold folB; rw [h]; simp
theorem fol_no3 (h : a.length ≠ b.length) : folB a b = false := by
  cases hf : folB a b with
  | false => rfl
  | true => exact absurd (fol_iff.1 hf).2.2.1 h
theorem fol_at (h1 : k < a.length) (h2 : k < b.length) (h : a[k].t ≠ b[k].f) : folB a b = false := by
  cases hf : folB a b with
  | false => rfl
  | true => exact absurd ((fol_iff.1 hf).2.2.2 k h1 h2) h
theorem MeetTo.next (h : MeetTo a b k) (h1 : k < a.length) (h2 : k < b.length) (e : a[k].t = b[k].f) : MeetTo a b (k + 1) := by
  intro j hj hj' hjk
  by_cases hk : j = k
  · subst hk; exact e
  · exact h j hj hj' (by omega)
theorem MeetTo.all (h : MeetTo a b k) (hk : a.length ≤ k) (hl : a.length = b.length) (h1 : rightB a = true) (h2 : rightB b = true) : folB a b = true :=
  fol_iff.2 ⟨h1, h2, hl, fun j hj hj' => h j hj hj' (by omega)⟩
end

set_option maxRecDepth 4000 in
set_option maxHeartbeats 2000000 in
theorem rfollows_walk (l m : List Rg) (A A2 : Option Addr) (n c n2 c2 : Nat) (w : World) (hn : n = l.length) (hm : n ≤ maxLen) (hat : RowC rgCells 2 w w.heap.size A l)
    (hn2 : n2 = m.length) (hm2 : n2 ≤ maxLen) (hat2 : RowC rgCells 2 w w.heap.size A2 m) :
    Calls Try.prog 15 #[.slice A n c, .slice A2 n2 c2] w fun e w' => e = .returned (.bool (folB l m)) ∧ Below w.heap.size w w' := by
  have HN := Lib.hid hn
  have HA := Lib.hid hat
  have HN2 := Lib.hid hn2
  have HA2 := Lib.hid hat2
  have HC := Lib.hid (right_walk l A n c w hn hm hat)
  have HM2 := Lib.hid hm2
  have hn9 : n ≤ 9223372036854775807 := by unfold maxLen at hm; omega
  clear hat hn hm hat2 hn2 hm2
  cases hr : rightB l with
  | false =>
    have HF := Lib.hid (fol_no1 (b := m) hr)
    rw [hr] at HC
    clear hr
    go_enter Try.func15, Try.ntmps15
    go_wp2_with (go_at_call 8; refine HC.out.mono ?_; rintro e w1 ⟨rfl, hb1⟩; have HB := Lib.hid hb1; clear hb1)
    go_ret
    exact ⟨by rw [HF.out] <;> rfl, HB.out⟩
  | true =>
  have HR1 := Lib.hid hr
  rw [hr] at HC
  clear hr
  have HC2 := Lib.hid (fun W (h : Below w.heap.size w W) => right_walk m A2 n2 c2 W HN2.out HM2.out ((HA2.out.below h).more h.size))
  cases hr2 : rightB m with
  | false =>
    have HF := Lib.hid (fol_no2 (a := l) hr2)
    rw [hr2] at HC2
    clear hr2
    go_enter Try.func15, Try.ntmps15
    go_wp2_with (first | (go_at_call 8; refine (HC2.out _ HB.out).mono ?_; rintro e w2 ⟨rfl, hb2⟩; have HB2 := Lib.hid (hop HB.out hb2); clear hb2) | (go_at_call 8; refine HC.out.mono ?_; rintro e w1 ⟨rfl, hb1⟩; have HB := Lib.hid hb1; clear hb1))
    go_ret
    exact ⟨by rw [HF.out] <;> rfl, HB2.out⟩
  | true =>
  have HR2 := Lib.hid hr2
  rw [hr2] at HC2
  clear hr2
  by_cases hl : n = n2
  · subst hl
    go_enter Try.func15, Try.ntmps15
    go_wp2_with (first | (go_at_call 8; refine (HC2.out _ HB.out).mono ?_; rintro e w2 ⟨rfl, hb2⟩; have HB2 := Lib.hid (hop HB.out hb2); clear hb2) | (go_at_call 8; refine HC.out.mono ?_; rintro e w1 ⟨rfl, hb1⟩; have HB := Lib.hid hb1; clear hb1))
    go_loopw [5] (fun iv wr => ∃ k : Nat, k ≤ n ∧ iv = .int .i64 (k : Int) ∧ Hid (MeetTo l m k) ∧ Hid (Below w.heap.size w wr)) (fun iv _ => n - (intOf iv).toNat)
    case atStart => exact ⟨0, Nat.zero_le _, rfl, Lib.hid (fun j _ _ h => absurd h (by omega)), HB2⟩
    case round =>
      obtain ⟨k, hk, rfl, HO, HBel⟩ := hrel
      by_cases hlt : k < n
      · have hkl : k < l.length := by rw [← HN.out]; exact hlt
        have hkm : k < m.length := by rw [← HN2.out]; exact hlt
        obtain ⟨b, off, rfl, hB, hc⟩ := (HA.out.below HBel.out) k hkl
        obtain ⟨b2, off2, rfl, hB2, hd⟩ := (HA2.out.below HBel.out) k hkm
        have c1 := hc 1 _ rfl
        have d0 := hd 0 _ rfl
        rw [Nat.add_zero] at d0
        have HX := Lib.hid (fun h => HO.out.next hkl hkm h)
        have HY := Lib.hid (fun h => fol_at hkl hkm h)
        obtain ⟨x, hx⟩ : ∃ x, l[k] = x := ⟨_, rfl⟩
        obtain ⟨y, hy⟩ : ∃ y, m[k] = y := ⟨_, rfl⟩
        rw [hx, hy] at HX HY
        simp only [hx] at c1
        simp only [hy] at d0
        have i1 : (0 : Int) ≤ (k : Int) := by omega
        have i2 : (k : Int) < (n : Int) := by omega
        clear hx hy hc hd
        by_cases he : x.t = y.f
        · have HK := Lib.hid (HX.out he)
          have e1 : (x.t != y.f) = false := by rw [he]; simp
          have e2 : (x.t == y.f) = true := by rw [he]; simp
          clear he
          go_wp2_with fail
          go_quiet (fail)
          go_wp2
          go_roundw
          case rel => exact ⟨k + 1, by omega, by go_num, HK, Lib.hid (bd HBel.out _)⟩
          case measure => simp [intOf]; omega
        · have HK := Lib.hid (HY.out he)
          have e1 : (x.t != y.f) = true := by rw [bne_iff_ne]; exact he
          have e2 : (x.t == y.f) = false := by rw [beq_eq_false_iff_ne]; exact he
          clear he
          go_wp2_with fail
          go_quiet (fail)
          go_wp2
          go_ret
          exact ⟨by rw [HK.out] <;> rfl, bd HBel.out _⟩
      · have HK := Lib.hid (HO.out.all (by rw [← HN.out]; omega) (by rw [← HN.out, ← HN2.out]) HR1.out HR2.out)
        go_wp2
        go_ret
        exact ⟨by rw [HK.out] <;> rfl, HBel.out⟩
  · have HF := Lib.hid (fol_no3 (a := l) (b := m) (by rw [← HN.out, ← HN2.out]; exact hl))
    have e1 : ((n : Int) != (n2 : Int)) = true := by rw [bne_iff_ne]; omega
    have e2 : ((n : Int) == (n2 : Int)) = false := by rw [beq_eq_false_iff_ne]; omega
    have e3 : (n == n2) = false := by rw [beq_eq_false_iff_ne]; omega
    have e4 : (n != n2) = true := by rw [bne_iff_ne]; omega
    clear hl
    go_enter Try.func15, Try.ntmps15
    go_wp2_with (first | (go_at_call 8; refine (HC2.out _ HB.out).mono ?_; rintro e w2 ⟨rfl, hb2⟩; have HB2 := Lib.hid (hop HB.out hb2); clear hb2) | (go_at_call 8; refine HC.out.mono ?_; rintro e w1 ⟨rfl, hb1⟩; have HB := Lib.hid hb1; clear hb1))
    go_ret
    exact ⟨by rw [HF.out] <;> rfl, HB2.out⟩

set_option maxRecDepth 4000 in
set_option maxHeartbeats 1000000 in
/-- Two lists of the same ranges are the same. -/
theorem same_walk (l : List Rg) (A A2 : Option Addr) (n c n2 c2 : Nat) (w : World) (hn : n = l.length) (hm : n ≤ maxLen) (hat : RowC rgCells 2 w w.heap.size A l)
    (hn2 : n2 = n) (hat2 : RowC rgCells 2 w w.heap.size A2 l) :
    Calls Try.prog 12 #[.slice A n c, .slice A2 n2 c2] w fun e w' => e = .returned (.bool true) ∧ Below w.heap.size w w' := by
  subst hn2
  have HN := Lib.hid hn
  have HA := Lib.hid hat
  have HA2 := Lib.hid hat2
  have hn9 : n2 ≤ 9223372036854775807 := by unfold maxLen at hm; omega
  clear hat hn hm hat2
  go_enter Try.func12, Try.ntmps12
  go_wp2
  go_loopw [5] (fun iv wr => ∃ k : Nat, k ≤ n2 ∧ iv = .int .i64 (k : Int) ∧ Hid (Below w.heap.size w wr)) (fun iv _ => n2 - (intOf iv).toNat)
  case atStart => exact ⟨0, Nat.zero_le _, rfl, Lib.hid (Below.refl _ _)⟩
  case round =>
    obtain ⟨k, hk, rfl, HBel⟩ := hrel
    by_cases hlt : k < n2
    · have hkl : k < l.length := by rw [← HN.out]; exact hlt
      obtain ⟨b, off, rfl, hB, hc⟩ := (HA.out.below HBel.out) k hkl
      obtain ⟨b2, off2, rfl, hB2, hd⟩ := (HA2.out.below HBel.out) k hkl
      have c0 := hc 0 _ rfl
      have c1 := hc 1 _ rfl
      have d0 := hd 0 _ rfl
      have d1 := hd 1 _ rfl
      rw [Nat.add_zero] at c0 d0
      obtain ⟨x, hx⟩ : ∃ x, l[k] = x := ⟨_, rfl⟩
      simp only [hx] at c0 c1 d0 d1
      have i1 : (0 : Int) ≤ (k : Int) := by omega
      have i2 : (k : Int) < (n2 : Int) := by omega
      clear hx hc hd
      go_wp2_with fail
      go_quiet (fail)
      go_wp2
      go_roundw
      case rel => exact ⟨k + 1, by omega, by go_num, Lib.hid (bd HBel.out _)⟩
      case measure => simp [intOf]; omega
    · go_wp2
      go_ret
      exact ⟨rfl, HBel.out⟩

set_option maxRecDepth 4000 in
set_option maxHeartbeats 1000000 in
theorem rstart_walk (p : Nat) (hp : p ≤ maxLen) (w : World) :
    Calls Try.prog 13 #[.int .i64 (p : Int)] w fun e w' => ∃ A c, e = .returned (.slice A (min p 5) c) ∧ RowC rgCells 2 w' w'.heap.size A (List.replicate (min p 5) noRg) ∧ Below w.heap.size w w' := by
  obtain ⟨q, hq⟩ : ∃ q, min p 5 = q := ⟨_, rfl⟩
  have HQ := Lib.hid hq
  have hq5 : q ≤ 5 := by omega
  have hp9 : p ≤ 9223372036854775807 := by unfold maxLen at hp; omega
  rw [hq]
  clear hq hp
  go_enter Try.func13, Try.ntmps13
  go_wp2
  go_loopw [3, 4] (fun lv iv wr => ∃ (k : Nat) (A : Option Addr) (c : Nat), k ≤ q ∧ iv = .int .i64 (k : Int) ∧ lv = .slice A k c ∧ Hid (wr.ownsRow w.heap.size 26 2 (.slice A k c) k ((List.replicate k noRg).flatMap rgCells)) ∧ Hid (Below w.heap.size w wr)) (fun _ iv _ => q - (intOf iv).toNat)
  case atStart => exact ⟨0, none, 0, Nat.zero_le _, rfl, rfl, Lib.hid (World.ownsRow_nil _ _ _ _), Lib.hid (Below.refl _ _)⟩
  case round =>
    obtain ⟨k, A, c, hk, rfl, rfl, HO, HBel⟩ := hrel
    have HS := Lib.hid HBel.out.size
    by_cases hlt : k < q
    · have d1 : k < p := by have := HQ.out; omega
      have d2 : k < 5 := by omega
      go_wp2_with (at_builtin; go_loud (refine append_item Try.underlying22 infoRg rfl (by decide) rgCells_length rgCells_one rfl _ _ rfl w.heap.size A k c (List.replicate k noRg) rfl _ noRg HO.out HS.out _ rfl (by first | rfl | simp) (by omega) (by unfold maxLen; omega) [_, _] rfl ?_); intro A3 n3 c3 w3 hn3 ho3 hb3 hg3; have HO3 := Lib.hid ho3; have HP3 := Lib.hid (HBel.out.trans hb3); clear ho3 hb3 hg3; subst hn3)
      go_roundw
      case rel => exact ⟨k + 1, A3, c3, by omega, by go_num, rfl, Lib.hid (by rw [List.replicate_succ']; exact HO3.out), HP3⟩
      case measure => simp [intOf]; omega
    · have hkq : k = q := by omega
      subst hkq
      have HI := Lib.hid (RowC.own rgCells_length (by decide) HO.out).2
      by_cases hp : k < p
      · have d2 : ¬ k < 5 := by have := HQ.out; omega
        go_wp2
        go_ret
        exact ⟨A, c, rfl, HI.out, HBel.out⟩
      · go_wp2
        go_ret
        exact ⟨A, c, rfl, HI.out, HBel.out⟩
end Go.Proofs.Ytceoneigflejeaa
