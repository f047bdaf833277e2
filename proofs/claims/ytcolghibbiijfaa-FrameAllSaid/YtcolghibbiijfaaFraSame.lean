/- The walk of 'same', and of the statement FrameScans. -/
import Derived.Test.YtcolghibbiijfaaFraPacks
namespace Go.Proofs.Ytcolghibbiijfaa
open Go.ChangeShapes Go.WideShapes Go.ChangeAt Go.RowKit
open Go.Lib (byteCells byteCells_length byteCells_append strCells)
set_option linter.unusedVariables false

set_option maxHeartbeats 2000000 in
theorem same_true (xs : List It) (A C : Option Addr) (n c d : Nat) (w : World) (hn : n = xs.length) (hm : n ≤ 1099511627776) (ha : RowC itCells 1 w w.heap.size A xs) (hi : ∀ x ∈ xs, BytesAt w w.heap.size x.a x.bs)
    (hb : RowC sCells 1 w w.heap.size C (xs.map fun x => txt x.bs)) :
    Calls Try.prog 16 #[.slice A n c, .slice C n d] w fun e w' => e = .returned (.bool true) ∧ Below w.heap.size w w' := by
  have HN := Lib.hid hn
  have HA := Lib.hid ha
  have HI := Lib.hid hi
  have HB := Lib.hid hb
  clear hn ha hi hb
  go_enter Try.func16, Try.ntmps16
  go_wp2
  go_loopw [5] (fun iv wr => ∃ k : Nat, k ≤ n ∧ iv = .int .i64 (k : Int) ∧ Below w.heap.size w wr) (fun iv _ => n - (intOf iv).toNat)
  case atStart => exact ⟨0, Nat.zero_le _, rfl, Below.refl _ _⟩
  case round =>
    obtain ⟨k, hk, rfl, hbel⟩ := hrel
    by_cases hlt : k < n
    · have hkl : k < xs.length := by rw [← HN.out]; exact hlt
      obtain ⟨b1, o1, rfl, hb1, h1⟩ := HA.out k hkl
      obtain ⟨b2, o2, rfl, hb2, h2⟩ := HB.out k (by simpa using hkl)
      have a0 := h1 0 (.slice xs[k].a xs[k].bs.length xs[k].c) rfl
      have s0 := h2 0 (.string (txt xs[k].bs)) (by simp [sCells])
      have hy := HI.out xs[k] (List.getElem_mem hkl)
      obtain ⟨x, HX⟩ : ∃ x, Hid (xs[k] = x) := ⟨_, Lib.hid rfl⟩
      rw [HX.out] at a0 s0 hy
      rw [Nat.mul_one, Nat.add_zero] at a0 s0
      have c1 : wr.cell? ⟨b1, o1 + k, none⟩ = some (.slice x.a x.bs.length x.c) := (hbel.cell (p := ⟨b1, _, none⟩) hb1).trans a0
      have c2 : wr.cell? ⟨b2, o2 + k, none⟩ = some (.string (txt x.bs)) := (hbel.cell (p := ⟨b2, _, none⟩) hb2).trans s0
      have hyr := hy.below hbel
      have hst := fun j => string_of_bytes x.a x.bs.length x.c x.bs (wr.drewN j) rfl (hyr.drewN j)
      have HBEL := Lib.hid hbel
      have hki : (k : Int) < (n : Int) := by omega
      clear a0 s0 hy hyr hbel h1 h2
      go_wp2
      go_quiet (fail)
      go_wp2
      go_roundw
      case rel => exact ⟨k + 1, by omega, by go_num, below_more HBEL.out _⟩
      case measure => simp [intOf]; omega
    · have HBEL := Lib.hid hbel
      clear hbel
      go_wp2
      go_ret
      exact ⟨rfl, HBEL.out⟩

theorem frs_le (l : List UInt8) : (frs l).length ≤ l.length := by
  have h : ∀ n, ∀ l : List UInt8, l.length ≤ n → (frs l).length ≤ l.length := by
    intro n
    induction n with
    | zero => intro l hl; rw [frs_none (fst_none_short (by omega))]; simp
    | succ n ih =>
      intro l hl
      cases hf : fst l with
      | none => rw [frs_none hf]; simp
      | some x =>
        have h8 := (fst_back hf).1
        rw [frs_some hf, List.length_cons]
        have := ih (l.drop (8 + x.length)) (by rw [List.length_drop]; omega)
        rw [List.length_drop] at this
        omega
  exact h l.length l (Nat.le_refl _)
theorem its_texts (xs : List It) : (xs.map fun x => txt x.bs) = (bss xs).map txt := by simp [bss]
set_option maxHeartbeats 2000000 in
theorem scans_walk (s : ByteArray) (hs : s.size ≤ maxLen) (w : World) :
    Calls Try.prog 4 #[.string s] w fun e w' => e = .returned (.bool true) ∧ Below w.heap.size w w' := by
  have hcs := fun W => run_bytes_of_string (P := Try.prog) W 9 23 5 s Try.underlying9 Try.underlying23 Try.underlying5
  unfold maxLen at hs
  by_cases hbig : 4000 < s.size
  · go_enter Try.func4, Try.ntmps4
    go_wp2_with (go_at_call 9; refine (alive_any _).mono ?_; rintro e w1 ⟨rfl, hb1⟩; have HB1 := Lib.hid hb1; clear hb1)
    go_ret
    exact ⟨rfl, HB1.out⟩
  · have hfl := frs_le s.data.toList
    rw [← size_eq] at hfl
    go_enter Try.func4, Try.ntmps4
    go_wp2_with (first
      | (go_at_call 9; refine (alive_any _).mono ?_; rintro e w1 ⟨rfl, hb1⟩; have HB1 := Lib.hid hb1; clear hb1)
      | (go_at_call 14; refine (scan_laid s w1 _ _ _ (by omega)).mono ?_; rintro e w2 ⟨v, xs, rfl, hxs, hown, hit, hb2⟩; obtain ⟨A2, c2, rfl⟩ := own_slice hown; have HXS := Lib.hid hxs; have HOW := Lib.hid (RowC.own itCells_length (by decide) hown).2; have HIT := Lib.hid (fun x hx => (hit x hx).bytes); have HB2 := Lib.hid (HB1.out.trans (hb2.mono HB1.out.size)); clear hxs hown hit hb2)
      | (go_at_call 15; refine (rscan_any s (by omega) w2).mono ?_; rintro e w3 ⟨A3, n3, c3, rfl, ho3, hb3⟩; have hn3 : n3 = xs.length := by rw [ho3.1, ← HXS.out, bss_length]
         subst hn3; have HO3 := Lib.hid (RowC.own sCells_length (by decide) ho3.2.2).2; have HOW3 := Lib.hid ((HOW.out.below hb3).more hb3.size); have HIT3 := Lib.hid (fun x hx => ((HIT.out x hx).below hb3).more hb3.size); have HB3 := Lib.hid (HB2.out.trans (hb3.mono HB2.out.size)); clear ho3 hb3)
      | (go_at_call 16; refine (same_true xs A2 A3 xs.length c2 c3 w3 rfl (by rw [← bss_length, HXS.out]; omega) HOW3.out HIT3.out (by rw [its_texts, HXS.out]; exact HO3.out)).mono ?_; rintro e w4 ⟨rfl, hb4⟩; have HB4 := Lib.hid (HB3.out.trans (hb4.mono HB3.out.size)); clear hb4))
    go_ret
    exact ⟨by simp, HB4.out⟩
end Go.Proofs.Ytcolghibbiijfaa
