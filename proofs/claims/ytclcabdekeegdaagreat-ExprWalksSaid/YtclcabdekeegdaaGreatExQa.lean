/- Several texts in one: ExQ1, ExQ2, ExQ3, ExQ4. -/
import Derived.Test.YtclcabdekeegdaaGreatExLp
/- Layer 13, walked: how many, how deep; too long; too far (the reference). -/
namespace Go.Proofs.YtclcabdekeegdaaGreat
open Go.ChangeShapes Go.WideShapes Go.ChangeAt Go.RowKit
set_option linter.unusedVariables false
set_option linter.unusedSimpArgs false
theorem szL_step {ks : List X} {k n d m : Nat} (hk : k < ks.length) (hn : n < 1000) (hd : d < 1000) : szL (ks.drop k) n d m = szL (ks.drop (k + 1)) (szX ks[k] n (d + 1)).1 d (max m (szX ks[k] n (d + 1)).2) := by
  rw [List.drop_eq_getElem_cons hk, szL, if_pos ⟨hn, hd⟩]
theorem szL_stop {ks : List X} {k n d m : Nat} (h : ¬ (k < ks.length ∧ n < 1000 ∧ d < 1000)) : szL (ks.drop k) n d m = (n, m) := by
  by_cases hk : k < ks.length
  · rw [List.drop_eq_getElem_cons hk, szL, if_neg (by omega)]
  · rw [List.drop_eq_nil_of_le (by omega), szL]
theorem obj_box (w : World) (e : X) (A : Option Addr) (c : Nat) : (w.alloc (e.obj A c)).heap[w.heap.size]? = some (e.obj A c) := World.alloc_heap_new _ _
set_option maxHeartbeats 8000000 in
set_option maxRecDepth 40000 in
theorem rsize_any : ∀ (e : X) (A : Option Addr) (c : Nat) (n d : Nat) (w : World), n < 1000 → d ≤ 1000 → KidsAt w w.heap.size e A c →
    Calls Tryz.prog 36 #[e.val A c, .int .i64 n, .int .i64 d] w fun en w' => en = .returned (.tuple #[.int .i64 (szX e n d).1, .int .i64 (szX e n d).2]) ∧ Below w.heap.size w w' := by
  refine X.ind ?_
  intro o nm v ks ih A c n d w hn hd hk
  have HIH := Lib.hid ih
  have HK := Lib.hid hk
  obtain ⟨E, hE⟩ : ∃ E, Ending.returned (.tuple #[.int .i64 (szX (.mk o nm v ks) n d).1, .int .i64 (szX (.mk o nm v ks) n d).2]) = E := ⟨_, rfl⟩
  rw [hE]
  have HE := Lib.hid (show ∀ n' m', szL ks (n + 1) d d = (n', m') → E = .returned (.tuple #[.int .i64 n', .int .i64 m']) from fun n' m' h => by rw [← hE, szX, h])
  obtain ⟨W1, hW1⟩ : ∃ W1, w.alloc ((X.mk o nm v ks).obj A c) = W1 := ⟨_, rfl⟩
  have HB1 := Lib.hid (show Below w.heap.size w W1 by rw [← hW1]; exact (Below.refl _ _).alloc (Nat.le_refl _) _)
  have HQ1 := Lib.hid (show W1.heap[w.heap.size]? = some ((X.mk o nm v ks).obj A c) by rw [← hW1]; exact obj_box _ _ _ _)
  obtain ⟨p0, p1, p2, p3, p4, p5⟩ := obj_cells HQ1.out
  simp only [X.op, X.nm, X.v, X.ks] at p0 p1 p2 p3 p4 p5
  have hlen := hk.len
  unfold maxLen at hlen
  simp only [X.ks] at hlen
  clear hE hk ih
  unfold X.obj at hW1
  unfold X.val
  simp only [X.op, X.nm, X.v, X.ks] at hW1 ⊢
  go_enter Tryz.func36, Tryz.ntmps36
  go_wp2
  go_loopw [1, 8, 9] (fun nv mv iv wr => ∃ (k n' m' : Nat), k ≤ ks.length ∧ nv = .int .i64 n' ∧ mv = .int .i64 m' ∧ iv = .int .i64 k ∧ Hid (szL (ks.drop k) n' d m' = szL ks (n + 1) d d) ∧ Hid (wr.heap[w.heap.size]? = some ((X.mk o nm v ks).obj A c)) ∧ Below w.heap.size w wr) (fun _ _ iv _ => ks.length - (intOf iv).toNat)
  case atStart => exact ⟨0, n + 1, d, Nat.zero_le _, by go_num, rfl, rfl, Lib.hid (by simp), HQ1, HB1.out⟩
  case round =>
    obtain ⟨k, n', m', hkk, rfl, rfl, rfl, HSZ, HQ, hbel⟩ := hrel
    have HB := Lib.hid hbel
    obtain ⟨c0, c1, c2, c3, c4, c5⟩ := obj_cells HQ.out
    simp only [X.op, X.nm, X.v, X.ks] at c0 c1 c2 c3 c4 c5
    by_cases h : k < ks.length ∧ n' < 1000 ∧ d < 1000
    · obtain ⟨bb, off, A2, cc2, rfl, hbB, hk2, d0, d1, d2, d3, d4, d5⟩ := (HK.out.below hbel).at6m k h.1
      have HS := Lib.hid (szL_step (m := m') h.1 h.2.1 h.2.2 ▸ HSZ.out)
      have HC := Lib.hid (HIH.out ks[k] (List.getElem_mem h.1) A2 cc2 n' (d + 1) wr h.2.1 (by omega) (KidsAt.more hbel.size hk2))
      obtain ⟨x, hx⟩ : ∃ x, ks[k] = x := ⟨_, rfl⟩
      rw [hx] at hk2 d0 d1 d2 d3 d4 d5 HS HC
      have hbw : bb < wr.heap.size := Nat.lt_of_lt_of_le hbB hbel.size
      have i0 : (0 : Int) ≤ (k : Int) := by omega
      have i1 : (k : Int) < (ks.length : Int) := by omega
      have i2 : (n' : Int) < 1000 := by omega
      have i3 : (d : Int) < 1000 := by omega
      obtain ⟨⟨n2, m2⟩, hz⟩ : ∃ z, szX x n' (d + 1) = z := ⟨_, rfl⟩
      rw [hz] at HS HC
      unfold X.val at HC
      dsimp only at HS HC
      clear hx hz hk2 hbB
      go_wp2_with (go_at_call 36; go_loud (refine HC.out.mono ?_; rintro e w2 ⟨rfl, hb2⟩; have HB2 := Lib.hid (hop0 HB.out hb2); have HQ2 := Lib.hid ((hb2.block _ (Array.getElem?_eq_some_iff.1 HQ.out).1).trans HQ.out); clear hb2))
      go_roundw
      case rel =>
        exact ⟨k + 1, n2, max m' m2, by omega, rfl, by go_num, by go_num, HS, HQ2, HB2.out⟩
      case measure => simp [intOf]; omega
    · have HF := Lib.hid (HE.out n' m' (HSZ.out.symm.trans (szL_stop h)))
      by_cases h1 : k < ks.length
      · by_cases h2 : n' < 1000
        · have i1 : (k : Int) < (ks.length : Int) := by omega
          have i2 : (n' : Int) < 1000 := by omega
          have i3 : ¬ (d : Int) < 1000 := by omega
          clear h
          go_wp2
          refine bodyPost_ret (by simp [results, Tryz.results36, go_sem]) rfl ⟨HF.out.symm, HB.out⟩
        · have i1 : (k : Int) < (ks.length : Int) := by omega
          have i2 : ¬ (n' : Int) < 1000 := by omega
          clear h
          go_wp2
          refine bodyPost_ret (by simp [results, Tryz.results36, go_sem]) rfl ⟨HF.out.symm, HB.out⟩
      · have i1 : ¬ (k : Int) < (ks.length : Int) := by omega
        clear h
        go_wp2
        refine bodyPost_ret (by simp [results, Tryz.results36, go_sem]) rfl ⟨HF.out.symm, HB.out⟩
end Go.Proofs.YtclcabdekeegdaaGreat

/- Layer 13, walked: too long, too far (the reference). -/
namespace Go.Proofs.YtclcabdekeegdaaGreat
open Go.ChangeShapes Go.WideShapes Go.ChangeAt Go.RowKit
set_option linter.unusedVariables false
set_option linter.unusedSimpArgs false
theorem longL_step {ks : List X} {k : Nat} (hk : k < ks.length) (hn : k < 1000) : longL (ks.drop k) k = (longX ks[k] || longL (ks.drop (k + 1)) (k + 1)) := by
  rw [List.drop_eq_getElem_cons hk, longL, if_pos hn]
theorem longL_stop {ks : List X} {k : Nat} (h : ¬ (k < ks.length ∧ k < 1000)) : longL (ks.drop k) k = false := by
  by_cases hk : k < ks.length
  · rw [List.drop_eq_getElem_cons hk, longL, if_neg (by omega)]
  · rw [List.drop_eq_nil_of_le (by omega), longL]
set_option maxHeartbeats 8000000 in
set_option maxRecDepth 40000 in
theorem rlong_any : ∀ (e : X), e.wf → ∀ (A : Option Addr) (c : Nat) (w : World), KidsAt w w.heap.size e A c →
    Calls Tryz.prog 56 #[e.val A c] w fun en w' => en = .returned (.bool (longX e)) ∧ Below w.heap.size w w' := by
  refine X.ind ?_
  intro o nm v ks ih hwf A c w hk
  simp only [X.wf] at hwf
  obtain ⟨hw1, hw2, hw3, hw4⟩ := hwf
  have HIH := Lib.hid (fun k hk => ih k hk (X.wfL_mem hw4 k hk))
  have HK := Lib.hid hk
  obtain ⟨E, hE⟩ : ∃ E, Ending.returned (.bool (longX (.mk o nm v ks))) = E := ⟨_, rfl⟩
  rw [hE]
  have HE := Lib.hid hE
  obtain ⟨W1, hW1⟩ : ∃ W1, w.alloc ((X.mk o nm v ks).obj A c) = W1 := ⟨_, rfl⟩
  have HB1 := Lib.hid (show Below w.heap.size w W1 by rw [← hW1]; exact (Below.refl _ _).alloc (Nat.le_refl _) _)
  have HQ1 := Lib.hid (show W1.heap[w.heap.size]? = some ((X.mk o nm v ks).obj A c) by rw [← hW1]; exact obj_box _ _ _ _)
  obtain ⟨p0, p1, p2, p3, p4, p5⟩ := obj_cells HQ1.out
  simp only [X.op, X.nm, X.v, X.ks] at p0 p1 p2 p3 p4 p5
  have hlen := hk.len
  unfold maxLen at hlen
  simp only [X.ks] at hlen
  have hs := hw3.2.2
  clear hE hk ih hw1 hw4 hw3
  unfold X.obj at hW1
  unfold X.val
  simp only [X.op, X.nm, X.v, X.ks] at hW1 ⊢
  by_cases h1 : 1000 < nm.size
  · have HX := Lib.hid (show E = .returned (.bool true) by rw [← HE.out, longX, decide_eq_true h1]; rfl)
    have q1 : (1000 : Int) < (nm.size : Int) := by omega
    clear h1
    go_enter Tryz.func56, Tryz.ntmps56
    go_wp2
    go_ret
    rw [HX.out]
    exact ⟨rfl, HB1.out⟩
  · have q1 : ¬ (1000 : Int) < (nm.size : Int) := by omega
    by_cases h2 : 1000 < v.s.size
    · have HX := Lib.hid (show E = .returned (.bool true) by rw [← HE.out, longX, decide_eq_true h2, Bool.or_true]; rfl)
      have q2 : (1000 : Int) < (v.s.size : Int) := by omega
      clear h1 h2
      go_enter Tryz.func56, Tryz.ntmps56
      go_wp2
      go_ret
      rw [HX.out]
      exact ⟨rfl, HB1.out⟩
    · have q2 : ¬ (1000 : Int) < (v.s.size : Int) := by omega
      have HX := Lib.hid (show ∀ b, longL ks 0 = b → E = .returned (.bool b) from fun b h => by rw [← HE.out, longX, decide_eq_false h1, decide_eq_false h2, h]; rfl)
      clear h1 h2
      go_enter Tryz.func56, Tryz.ntmps56
      go_wp2
      go_loopw [3] (fun iv wr => ∃ (k : Nat), k ≤ ks.length ∧ iv = .int .i64 k ∧ Hid (longL (ks.drop k) k = longL ks 0) ∧ Hid (wr.heap[w.heap.size]? = some ((X.mk o nm v ks).obj A c)) ∧ Below w.heap.size w wr) (fun iv _ => ks.length - (intOf iv).toNat)
      case atStart => exact ⟨0, Nat.zero_le _, rfl, Lib.hid (by simp), HQ1, HB1.out⟩
      case round =>
        obtain ⟨k, hkk, rfl, HSZ, HQ, hbel⟩ := hrel
        have HB := Lib.hid hbel
        obtain ⟨c0, c1, c2, c3, c4, c5⟩ := obj_cells HQ.out
        simp only [X.op, X.nm, X.v, X.ks] at c0 c1 c2 c3 c4 c5
        by_cases h : k < ks.length ∧ k < 1000
        · obtain ⟨bb, off, A2, cc2, rfl, hbB, hk2, d0, d1, d2, d3, d4, d5⟩ := (HK.out.below hbel).at6m k h.1
          have HS := Lib.hid (HSZ.out.symm.trans (longL_step h.1 h.2))
          have HC := Lib.hid (HIH.out ks[k] (List.getElem_mem h.1) A2 cc2 wr (KidsAt.more hbel.size hk2))
          obtain ⟨x, hx⟩ : ∃ x, ks[k] = x := ⟨_, rfl⟩
          rw [hx] at hk2 d0 d1 d2 d3 d4 d5 HS HC
          have hbw : bb < wr.heap.size := Nat.lt_of_lt_of_le hbB hbel.size
          have i0 : (0 : Int) ≤ (k : Int) := by omega
          have i1 : (k : Int) < (ks.length : Int) := by omega
          have i2 : (k : Int) < 1000 := by omega
          obtain ⟨z, hz⟩ : ∃ z, longX x = z := ⟨_, rfl⟩
          rw [hz] at HS HC
          unfold X.val at HC
          clear hx hz hk2 hbB
          cases z with
          | true =>
            have HT := Lib.hid (HX.out true (by rw [HS.out]; rfl))
            go_wp2_with (go_at_call 56; go_loud (refine HC.out.mono ?_; rintro e w2 ⟨rfl, hb2⟩; have HB2 := Lib.hid (hop0 HB.out hb2); clear hb2))
            go_ret
            rw [HT.out]
            exact ⟨rfl, HB2.out⟩
          | false =>
            have HT := Lib.hid (show longL (ks.drop (k + 1)) (k + 1) = longL ks 0 from by rw [HS.out]; rfl)
            go_wp2_with (go_at_call 56; go_loud (refine HC.out.mono ?_; rintro e w2 ⟨rfl, hb2⟩; have HB2 := Lib.hid (hop0 HB.out hb2); have HQ2 := Lib.hid ((hb2.block _ (Array.getElem?_eq_some_iff.1 HQ.out).1).trans HQ.out); clear hb2))
            go_roundw
            case rel => exact ⟨k + 1, by omega, by go_num, HT, HQ2, HB2.out⟩
            case measure => simp [intOf]; omega
        · have HF := Lib.hid (HX.out false (HSZ.out.symm.trans (longL_stop h)))
          by_cases h1 : k < ks.length
          · have i1 : (k : Int) < (ks.length : Int) := by omega
            have i2 : ¬ (k : Int) < 1000 := by omega
            clear h
            go_wp2
            go_ret
            rw [HF.out]
            exact ⟨rfl, HB.out⟩
          · have i1 : ¬ (k : Int) < (ks.length : Int) := by omega
            clear h
            go_wp2
            go_ret
            rw [HF.out]
            exact ⟨rfl, HB.out⟩
theorem hugeX_eq (e : X) : hugeX e = (decide (1000 ≤ (szX e 0 0).1) || decide (1000 ≤ (szX e 0 0).2) || longX e) := rfl
set_option maxRecDepth 40000 in
theorem rhuge_any (e : X) (hw : e.wf) (A : Option Addr) (c : Nat) (w : World) (hk : KidsAt w w.heap.size e A c) :
    Calls Tryz.prog 30 #[e.val A c] w fun en w' => en = .returned (.bool (hugeX e)) ∧ Below w.heap.size w w' := by
  obtain ⟨W1, hW1⟩ : ∃ W1, w.alloc (e.obj A c) = W1 := ⟨_, rfl⟩
  have hb1 : Below w.heap.size w W1 := by rw [← hW1]; exact (Below.refl _ _).alloc (Nat.le_refl _) _
  have hq1 : W1.heap[w.heap.size]? = some (e.obj A c) := by rw [← hW1]; exact obj_box _ _ _ _
  have HB1 := Lib.hid hb1
  have HQ1 := Lib.hid hq1
  have HS := Lib.hid (rsize_any e A c 0 0 W1 (by decide) (by decide) (KidsAt.more hb1.size (hk.below hb1)))
  have HL := Lib.hid (fun (W : World) (h : Below w.heap.size w W) => rlong_any e hw A c W (KidsAt.more h.size (hk.below h)))
  obtain ⟨p0, p1, p2, p3, p4, p5⟩ := obj_cells hq1
  rw [hugeX_eq]
  obtain ⟨⟨n2, m2⟩, hz⟩ : ∃ z, szX e 0 0 = z := ⟨_, rfl⟩
  obtain ⟨l, hl⟩ : ∃ l, longX e = l := ⟨_, rfl⟩
  rw [hz] at HS ⊢
  rw [hl] at HL ⊢
  dsimp only at HS ⊢
  clear hz hl hk hb1 hq1
  unfold X.obj at hW1
  unfold X.val at HS HL ⊢
  simp only [Int.natCast_zero] at HS
  by_cases h1 : 1000 ≤ n2
  · rw [decide_eq_true h1]
    have q1 : (1000 : Int) ≤ (n2 : Int) := by omega
    go_enter Tryz.func30, Tryz.ntmps30
    go_wp2_with (go_at_call 36; refine HS.out.mono ?_; rintro e w2 ⟨rfl, hb2⟩; have HB2 := Lib.hid (hop0 HB1.out hb2); clear hb2)
    go_ret
    exact ⟨rfl, HB2.out⟩
  · rw [decide_eq_false h1]
    have q1 : ¬ (1000 : Int) ≤ (n2 : Int) := by omega
    by_cases h2 : 1000 ≤ m2
    · rw [decide_eq_true h2]
      have q2 : (1000 : Int) ≤ (m2 : Int) := by omega
      go_enter Tryz.func30, Tryz.ntmps30
      go_wp2_with (go_at_call 36; refine HS.out.mono ?_; rintro e w2 ⟨rfl, hb2⟩; have HB2 := Lib.hid (hop0 HB1.out hb2); clear hb2)
      go_ret
      exact ⟨rfl, HB2.out⟩
    · rw [decide_eq_false h2]
      have q2 : ¬ (1000 : Int) ≤ (m2 : Int) := by omega
      go_enter Tryz.func30, Tryz.ntmps30
      go_wp2_with (first
        | (go_at_call 36; refine HS.out.mono ?_; rintro e w2 ⟨rfl, hb2⟩; obtain ⟨p0, p1, p2, p3, p4, p5⟩ := obj_cells ((hb2.block _ (Array.getElem?_eq_some_iff.1 HQ1.out).1).trans HQ1.out); have HB2 := Lib.hid (hop0 HB1.out hb2); clear hb2)
        | (go_at_call 56; refine (HL.out _ HB2.out).mono ?_; rintro e w3 ⟨rfl, hb3⟩; have HB3 := Lib.hid (hop0 HB2.out hb3); clear hb3))
      go_ret
      exact ⟨by simp; intro h; exfalso; omega, HB3.out⟩
set_option maxRecDepth 40000 in
theorem rnodes_any (e : X) (A : Option Addr) (c : Nat) (w : World) (hk : KidsAt w w.heap.size e A c) :
    Calls Tryz.prog 15 #[e.val A c] w fun en w' => en = .returned (.int .i64 (min (szX e 0 0).1 257 : Nat)) ∧ Below w.heap.size w w' := by
  obtain ⟨W1, hW1⟩ : ∃ W1, w.alloc (e.obj A c) = W1 := ⟨_, rfl⟩
  have hb1 : Below w.heap.size w W1 := by rw [← hW1]; exact (Below.refl _ _).alloc (Nat.le_refl _) _
  have hq1 : W1.heap[w.heap.size]? = some (e.obj A c) := by rw [← hW1]; exact obj_box _ _ _ _
  have HB1 := Lib.hid hb1
  have HS := Lib.hid (rsize_any e A c 0 0 W1 (by decide) (by decide) (KidsAt.more hb1.size (hk.below hb1)))
  obtain ⟨p0, p1, p2, p3, p4, p5⟩ := obj_cells hq1
  obtain ⟨⟨n2, m2⟩, hz⟩ : ∃ z, szX e 0 0 = z := ⟨_, rfl⟩
  rw [hz] at HS ⊢
  dsimp only at HS ⊢
  clear hz hk hb1 hq1
  unfold X.obj at hW1
  unfold X.val at HS ⊢
  simp only [Int.natCast_zero] at HS
  go_enter Tryz.func15, Tryz.ntmps15
  go_wp2_with (go_at_call 36; refine HS.out.mono ?_; rintro e w2 ⟨rfl, hb2⟩; have HB2 := Lib.hid (hop0 HB1.out hb2); clear hb2)
  go_ret
  exact ⟨by simp; omega, HB2.out⟩
def farX (e : X) (cs : List C) (row : List V) : Bool := hugeX e || bigC cs || bigB row
set_option maxRecDepth 40000 in
theorem far_any (e : X) (hw : e.wf) (cs : List C) (hwc : ∀ c ∈ cs, c.wf) (row : List V) (hwr : ∀ v ∈ row, v.wf) (A : Option Addr) (c : Nat) (cA : Option Addr) (cc : Nat) (rA : Option Addr) (rc : Nat) (w : World) (hcl : cs.length ≤ maxLen) (hrl : row.length ≤ maxLen) (hk : KidsAt w w.heap.size e A c) (hc : Row2 w w.heap.size cA cs) (hr : Row3 w w.heap.size rA row) :
    Calls Tryz.prog 11 #[e.val A c, .slice cA cs.length cc, .slice rA row.length rc] w fun en w' => en = .returned (.bool (farX e cs row)) ∧ Below w.heap.size w w' := by
  obtain ⟨W1, hW1⟩ : ∃ W1, w.alloc (e.obj A c) = W1 := ⟨_, rfl⟩
  have hb1 : Below w.heap.size w W1 := by rw [← hW1]; exact (Below.refl _ _).alloc (Nat.le_refl _) _
  have hq1 : W1.heap[w.heap.size]? = some (e.obj A c) := by rw [← hW1]; exact obj_box _ _ _ _
  have HB1 := Lib.hid hb1
  have HH := Lib.hid (rhuge_any e hw A c W1 (KidsAt.more hb1.size (hk.below hb1)))
  have HG := Lib.hid (fun (W : World) (h : Below w.heap.size w W) => bigc_any cs hwc cs.length cc cA W rfl hcl ((hc.below h).more h.size))
  have HR := Lib.hid (fun (W : World) (h : Below w.heap.size w W) => big_any row hwr row.length rc rA W rfl hrl ((hr.below h).more h.size))
  obtain ⟨p0, p1, p2, p3, p4, p5⟩ := obj_cells hq1
  unfold farX
  obtain ⟨x, hx⟩ : ∃ x, hugeX e = x := ⟨_, rfl⟩
  obtain ⟨y, hy⟩ : ∃ y, bigC cs = y := ⟨_, rfl⟩
  obtain ⟨z, hz⟩ : ∃ z, bigB row = z := ⟨_, rfl⟩
  rw [hx] at HH ⊢
  rw [hy] at HG ⊢
  rw [hz] at HR ⊢
  clear hx hy hz hk hc hr hb1 hq1 hcl hrl
  unfold X.obj at hW1
  unfold X.val at HH ⊢
  cases x with
  | true =>
    go_enter Tryz.func11, Tryz.ntmps11
    go_wp2_with (go_at_call 30; refine HH.out.mono ?_; rintro e w2 ⟨rfl, hb2⟩; have HB2 := Lib.hid (hop0 HB1.out hb2); clear hb2)
    go_ret
    exact ⟨rfl, HB2.out⟩
  | false =>
    cases y with
    | true =>
      go_enter Tryz.func11, Tryz.ntmps11
      go_wp2_with (first
        | (go_at_call 30; refine HH.out.mono ?_; rintro e w2 ⟨rfl, hb2⟩; have HB2 := Lib.hid (hop0 HB1.out hb2); clear hb2)
        | (go_at_call 31; refine (HG.out _ HB2.out).mono ?_; rintro e w3 ⟨rfl, rfl⟩))
      go_ret
      exact ⟨rfl, HB2.out⟩
    | false =>
      go_enter Tryz.func11, Tryz.ntmps11
      go_wp2_with (first
        | (go_at_call 30; refine HH.out.mono ?_; rintro e w2 ⟨rfl, hb2⟩; have HB2 := Lib.hid (hop0 HB1.out hb2); clear hb2)
        | (go_at_call 31; refine (HG.out _ HB2.out).mono ?_; rintro e w3 ⟨rfl, rfl⟩)
        | (go_at_call 25; refine (HR.out _ HB2.out).mono ?_; rintro e w3 ⟨rfl, rfl⟩))
      go_ret
      exact ⟨rfl, HB2.out⟩
end Go.Proofs.YtclcabdekeegdaaGreat

/- Layer 13, walked: expressions laid anew; the chapter's examples, plainly. -/
namespace Go.Proofs.YtclcabdekeegdaaGreat
open Go.ChangeShapes Go.WideShapes Go.ChangeAt Go.RowKit
set_option linter.unusedVariables false
set_option linter.unusedSimpArgs false
def emp : ByteArray := ⟨#[]⟩
def oneX (n : Int) : X := .mk 2 emp ⟨1, n, emp⟩ []
def divX : X := .mk 7 emp ⟨0, 0, emp⟩ [oneX 1, oneX 0]
def noX : X := .mk 2 emp ⟨2, 0, emp⟩ []
def ifX : X := .mk 18 emp ⟨0, 0, emp⟩ [noX, divX, oneX 2]
def nulX : X := .mk 3 ⟨#[98, 111, 111, 108]⟩ ⟨0, 0, emp⟩ []
def andX : X := .mk 14 emp ⟨0, 0, emp⟩ [nulX, noX]
def colsA : List C := [⟨⟨#[97]⟩, 1⟩]
theorem worth_div : worthX divX colsA [nulV] = (nulV, 11) := by decide +kernel
theorem worth_if : worthX ifX colsA [nulV] = (intW 2, 0) := by decide +kernel
theorem worth_and : worthX andX colsA [nulV] = (boolW false, 0) := by decide +kernel
theorem emp_le : emp.size ≤ 9223372036854775807 := by decide
theorem emp_wf {k n : Int} (hk : in64 k) (hn : in64 n) : (⟨k, n, emp⟩ : V).wf := ⟨hk, hn, emp_le⟩
theorem lit_in (n : Int) (h : -1000 ≤ n ∧ n ≤ 1000) : in64 n := by unfold in64; omega
theorem mk_wf {o : Int} {n : ByteArray} {v : V} {ks : List X} (h1 : in64 o) (h2 : n.size ≤ 9223372036854775807) (h3 : v.wf) (h4 : ∀ k ∈ ks, k.wf) : (X.mk o n v ks).wf := by
  simp only [X.wf]; exact ⟨h1, h2, h3, X.wfL_of h4⟩
theorem one_wf (n : Int) (h : -1000 ≤ n ∧ n ≤ 1000) : (oneX n).wf := mk_wf (lit_in _ (by omega)) emp_le (emp_wf (lit_in _ (by omega)) (lit_in _ h)) (by simp)
theorem div_wf : divX.wf := mk_wf (lit_in _ (by omega)) emp_le (emp_wf (lit_in _ (by omega)) (lit_in _ (by omega))) (by
  intro k hk
  rcases List.mem_cons.1 hk with rfl | hk
  · exact one_wf _ (by omega)
  · rcases List.mem_cons.1 hk with rfl | hk
    · exact one_wf _ (by omega)
    · cases hk)
theorem no_wf : noX.wf := mk_wf (lit_in _ (by omega)) emp_le (emp_wf (lit_in _ (by omega)) (lit_in _ (by omega))) (by simp)
theorem if_wf : ifX.wf := mk_wf (lit_in _ (by omega)) emp_le (emp_wf (lit_in _ (by omega)) (lit_in _ (by omega))) (by
  intro k hk
  rcases List.mem_cons.1 hk with rfl | hk
  · exact no_wf
  · rcases List.mem_cons.1 hk with rfl | hk
    · exact div_wf
    · rcases List.mem_cons.1 hk with rfl | hk
      · exact one_wf _ (by omega)
      · cases hk)
theorem and_wf : andX.wf := mk_wf (lit_in _ (by omega)) emp_le (emp_wf (lit_in _ (by omega)) (lit_in _ (by omega))) (by
  intro k hk
  rcases List.mem_cons.1 hk with rfl | hk
  · exact mk_wf (lit_in _ (by omega)) (by decide) (emp_wf (lit_in _ (by omega)) (lit_in _ (by omega))) (by simp)
  · rcases List.mem_cons.1 hk with rfl | hk
    · exact no_wf
    · cases hk)
theorem cols_wf : ∀ c ∈ colsA, c.wf := by
  intro c hc
  rcases List.mem_cons.1 hc with rfl | hc
  · exact ⟨lit_in 1 (by omega), by decide⟩
  · cases hc
theorem nulV_wfs : ∀ v ∈ [nulV], v.wf := by
  intro c hc
  rcases List.mem_cons.1 hc with rfl | hc
  · exact nul_wf
  · cases hc
theorem leaf_at {w : World} {B : Nat} {o : Int} {n : ByteArray} {v : V} : KidsAt w B (.mk o n v []) none 0 := by
  simp only [KidsAt, KidsL]; exact ⟨Nat.le_refl _, Nat.zero_le _, trivial⟩
/-- Kids that lie in a block. -/
theorem kids_of_block {w : World} {b : Nat} {o : Int} {n : ByteArray} {v : V} {ks : List X} {c : Nat} (hlt : b < w.heap.size) (hc : ks.length ≤ c) (hcm : c ≤ maxLen)
    (h : ∀ (j : Nat) (hj : j < ks.length), ∃ A2 c2, (∀ q (hq : q < 6), w.cell? ⟨b, j * 6 + q, none⟩ = some ((ks[j].cells A2 c2)[q]'(by simpa [X.cells] using hq))) ∧ KidsAt w w.heap.size ks[j] A2 c2) :
    KidsAt w w.heap.size (.mk o n v ks) (some ⟨b, 0, none⟩) c := by
  simp only [KidsAt]
  refine ⟨hc, hcm, KidsL.of_at hlt fun j hj => ?_⟩
  obtain ⟨A2, c2, h1, h2⟩ := h j hj
  refine ⟨A2, c2, fun q hq => ?_, h2⟩
  rw [← h1 q hq]
  congr 2
  omega
theorem xcells_at {w : World} {b j : Nat} {cs : Array Value} {T : Nat} {fr : Nat × Nat} (h : w.heap[b]? = some (.cells cs T fr)) (x : X) (A : Option Addr) (c : Nat)
    (h0 : cs[j * 6]? = some (.int .i64 x.op)) (h1 : cs[j * 6 + 1]? = some (.string x.nm)) (h2 : cs[j * 6 + 2]? = some (.int .i64 x.v.k)) (h3 : cs[j * 6 + 3]? = some (.int .i64 x.v.n)) (h4 : cs[j * 6 + 4]? = some (.string x.v.s)) (h5 : cs[j * 6 + 5]? = some (.slice A x.ks.length c)) :
    ∀ q (hq : q < 6), w.cell? ⟨b, j * 6 + q, none⟩ = some ((x.cells A c)[q]'(by simpa [X.cells] using hq)) := by
  intro q hq
  have hcell : ∀ i, w.cell? ⟨b, i, none⟩ = cs[i]? := fun i => by simp [World.cell?, h]
  rw [hcell]
  match q, hq with
  | 0, _ => exact h0
  | 1, _ => exact h1
  | 2, _ => exact h2
  | 3, _ => exact h3
  | 4, _ => exact h4
  | 5, _ => exact h5
def xs6 (x : X) (A : Option Addr) (c : Nat) : List Value := [.int .i64 x.op, .string x.nm, .int .i64 x.v.k, .int .i64 x.v.n, .string x.v.s, .slice A x.ks.length c]
theorem laid1 {w : World} {x : X} {A : Option Addr} {c : Nat} (hx : KidsAt w w.heap.size x A c) (o : Int) (n : ByteArray) (v : V) {cs : Array Value} (hcs : cs = (xs6 x A c).toArray) (T : Nat) :
    KidsAt (w.alloc (.cells cs T)) (w.alloc (.cells cs T)).heap.size (.mk o n v [x]) (some ⟨w.heap.size, 0, none⟩) 1 := by
  have hb : Below w.heap.size w (w.alloc (.cells cs T)) := (Below.refl _ _).alloc (Nat.le_refl _) _
  have hn := World.alloc_heap_new w (.cells cs T)
  refine kids_of_block (by simp) (by simp) (by decide) fun j hj => ?_
  match j, hj with
  | 0, _ => exact ⟨A, c, xcells_at (j := 0) hn x A c (by rw [hcs]; rfl) (by rw [hcs]; rfl) (by rw [hcs]; rfl) (by rw [hcs]; rfl) (by rw [hcs]; rfl) (by rw [hcs]; rfl), KidsAt.more hb.size (hx.below hb)⟩
theorem laid2 {w : World} {x y : X} {A A2 : Option Addr} {c c2 : Nat} (hx : KidsAt w w.heap.size x A c) (hy : KidsAt w w.heap.size y A2 c2) (o : Int) (n : ByteArray) (v : V) {cs : Array Value} (hcs : cs = (xs6 x A c ++ xs6 y A2 c2).toArray) (T : Nat) :
    KidsAt (w.alloc (.cells cs T)) (w.alloc (.cells cs T)).heap.size (.mk o n v [x, y]) (some ⟨w.heap.size, 0, none⟩) 2 := by
  have hb : Below w.heap.size w (w.alloc (.cells cs T)) := (Below.refl _ _).alloc (Nat.le_refl _) _
  have hn := World.alloc_heap_new w (.cells cs T)
  refine kids_of_block (by simp) (by simp) (by decide) fun j hj => ?_
  match j, hj with
  | 0, _ => exact ⟨A, c, xcells_at (j := 0) hn x A c (by rw [hcs]; rfl) (by rw [hcs]; rfl) (by rw [hcs]; rfl) (by rw [hcs]; rfl) (by rw [hcs]; rfl) (by rw [hcs]; rfl), KidsAt.more hb.size (hx.below hb)⟩
  | 1, _ => exact ⟨A2, c2, xcells_at (j := 1) hn y A2 c2 (by rw [hcs]; rfl) (by rw [hcs]; rfl) (by rw [hcs]; rfl) (by rw [hcs]; rfl) (by rw [hcs]; rfl) (by rw [hcs]; rfl), KidsAt.more hb.size (hy.below hb)⟩
theorem laid3 {w : World} {x y z : X} {A A2 A3 : Option Addr} {c c2 c3 : Nat} (hx : KidsAt w w.heap.size x A c) (hy : KidsAt w w.heap.size y A2 c2) (hz : KidsAt w w.heap.size z A3 c3) (o : Int) (n : ByteArray) (v : V) {cs : Array Value} (hcs : cs = (xs6 x A c ++ xs6 y A2 c2 ++ xs6 z A3 c3).toArray) (T : Nat) :
    KidsAt (w.alloc (.cells cs T)) (w.alloc (.cells cs T)).heap.size (.mk o n v [x, y, z]) (some ⟨w.heap.size, 0, none⟩) 3 := by
  have hb : Below w.heap.size w (w.alloc (.cells cs T)) := (Below.refl _ _).alloc (Nat.le_refl _) _
  have hn := World.alloc_heap_new w (.cells cs T)
  refine kids_of_block (by simp) (by simp) (by decide) fun j hj => ?_
  match j, hj with
  | 0, _ => exact ⟨A, c, xcells_at (j := 0) hn x A c (by rw [hcs]; rfl) (by rw [hcs]; rfl) (by rw [hcs]; rfl) (by rw [hcs]; rfl) (by rw [hcs]; rfl) (by rw [hcs]; rfl), KidsAt.more hb.size (hx.below hb)⟩
  | 1, _ => exact ⟨A2, c2, xcells_at (j := 1) hn y A2 c2 (by rw [hcs]; rfl) (by rw [hcs]; rfl) (by rw [hcs]; rfl) (by rw [hcs]; rfl) (by rw [hcs]; rfl) (by rw [hcs]; rfl), KidsAt.more hb.size (hy.below hb)⟩
  | 2, _ => exact ⟨A3, c3, xcells_at (j := 2) hn z A3 c3 (by rw [hcs]; rfl) (by rw [hcs]; rfl) (by rw [hcs]; rfl) (by rw [hcs]; rfl) (by rw [hcs]; rfl) (by rw [hcs]; rfl), KidsAt.more hb.size (hz.below hb)⟩
theorem ret_row6 {f : Func} {p : Nat} (hres : f.results = #[.cell p 26]) {tmps : Array Value} {W : World} {g : Nat} {c0 c1 c2 c3 c4 c5 : Value} (hp : tmps.getD p undef = .pointer (some ⟨g, 0, none⟩)) (hb : W.heap[g]? = some (.cells #[c0, c1, c2, c3, c4, c5] 26 (0, 0))) : (results f tmps).run Tryz.prog W = .ok (.agg #[c0, c1, c2, c3, c4, c5]) W :=
  results_cell_row hres tmps W g 26 #[c0, c1, c2, c3, c4, c5] (0, 0) _ hp hb Tryz.underlying26 rfl (by kernel_rfl)
theorem lone_any (n : Int) (w : World) : Calls Tryz.prog 29 #[.int .i64 n] w fun en w' => en = .returned (.agg #[.int .i64 2, .string ⟨#[]⟩, .int .i64 1, .int .i64 n, .string ⟨#[]⟩, .slice none 0 0]) ∧ Below w.heap.size w w' := by
  go_enter Tryz.func29, Tryz.ntmps29
  go_wp2
  exact bodyPost_ret (ret_row6 rfl (by rfl) (World.alloc_heap_new w _)) rfl ⟨rfl, (Below.refl _ _).alloc (Nat.le_refl _) _⟩
end Go.Proofs.YtclcabdekeegdaaGreat

/- Layer 13, walked: alive (wip/gen/XExQ4.py). -/
namespace Go.Proofs.YtclcabdekeegdaaGreat
open Go.ChangeShapes Go.WideShapes Go.ChangeAt Go.RowKit
set_option linter.unusedVariables false
set_option linter.unusedSimpArgs false
/-- The examples' columns and expressions lie. -/
structure Al (w : World) (b0 bk b2 b3 : Nat) (W : World) : Prop where
  col : W.heap[b0]? = some (.cells #[.string ⟨#[97]⟩, .int .i64 1] 56)
  kd : KidsAt W b2 divX (some ⟨bk, 0, none⟩) 2
  d : W.heap[b2]? = some (divX.obj (some ⟨bk, 0, none⟩) 2)
  n : W.heap[b3]? = some (noX.obj none 0)
  bel : Below w.heap.size w W
theorem lt_of_heap {W : World} {b : Nat} {o : Obj} (h : W.heap[b]? = some o) : b < W.heap.size := (Array.getElem?_eq_some_iff.1 h).1
theorem Al.below {w : World} {b0 bk b2 b3 : Nat} {W W' : World} (h : Al w b0 bk b2 b3 W) (hb : Below W.heap.size W W') : Al w b0 bk b2 b3 W' :=
  ⟨(hb.block _ (lt_of_heap h.col)).trans h.col, h.kd.below (hb.mono (Nat.le_of_lt (lt_of_heap h.d))), (hb.block _ (lt_of_heap h.d)).trans h.d, (hb.block _ (lt_of_heap h.n)).trans h.n, hop0 h.bel hb⟩
theorem Al.kds {w : World} {b0 bk b2 b3 : Nat} {W : World} (h : Al w b0 bk b2 b3 W) : KidsAt W W.heap.size divX (some ⟨bk, 0, none⟩) 2 := KidsAt.more (Nat.le_of_lt (lt_of_heap h.d)) h.kd
theorem Al.set3 {w : World} {b0 bk b2 b3 : Nat} {W : World} (h : Al w b0 bk b2 b3 W) (g : Nat) (hg : b3 < g ∧ b0 < g) (h23 : b2 < b3) (h0 : w.heap.size ≤ b0) {x y z : Value} : Al w b0 bk b2 b3 (((W.setCell ⟨g, 0, none⟩ x).setCell ⟨g, 1, none⟩ y).setCell ⟨g, 2, none⟩ z) :=
  ⟨(Below.heap_set3 W (by omega) _ _ _).trans h.col, h.kd.below (set3_below (Below.refl _ _) (by omega) _ _ _), (Below.heap_set3 W (by omega) _ _ _).trans h.d, (Below.heap_set3 W (by omega) _ _ _).trans h.n, set3_below h.bel (by omega) _ _ _⟩
theorem Al.worth {w : World} {b0 bk b2 b3 : Nat} {W : World} (h : Al w b0 bk b2 b3 W) (e : X) (hw : e.wf) (A : Option Addr) (c : Nat) (hk : KidsAt W W.heap.size e A c) (q : Nat) (hq : W.heap[q]? = some (.cells #[.int .i64 0, .int .i64 0, .string ⟨#[]⟩] 23)) :
    Calls Tryz.prog 18 #[e.val A c, .slice (some ⟨b0, 0, none⟩) 1 1, .slice (some ⟨q, 0, none⟩) 1 1] W fun en w' => en = endV (worthX e colsA [nulV]) ∧ Below W.heap.size W w' :=
  worth_pub e hw colsA cols_wf [nulV] nulV_wfs A c (some ⟨b0, 0, none⟩) 1 (some ⟨q, 0, none⟩) 1 W (by decide) (by decide) (by decide) (by decide) hk
    (fun j hj => by
      match j, hj with
      | 0, _ => exact ⟨b0, 0, rfl, lt_of_heap h.col, by simp [World.cell?, h.col, colsA], by simp [World.cell?, h.col, colsA]⟩)
    (fun j hj => by
      match j, hj with
      | 0, _ => exact ⟨q, 0, rfl, lt_of_heap hq, by simp [World.cell?, hq, nulV], by simp [World.cell?, hq, nulV], by simp [World.cell?, hq, nulV]⟩)
theorem al_new (w w2 w3 : World) (h2 : Below (w.alloc (.cells #[.string ⟨#[97]⟩, .int .i64 1] 56)).heap.size (w.alloc (.cells #[.string ⟨#[97]⟩, .int .i64 1] 56)) w2) (h3 : Below w2.heap.size w2 w3) :
    Al w w.heap.size w3.heap.size (w3.heap.size + 1) (w3.heap.size + 1 + 1) (((w3.alloc (.cells #[.int .i64 2, .string ⟨#[]⟩, .int .i64 1, .int .i64 1, .string ⟨#[]⟩, .slice none 0 0, .int .i64 2, .string ⟨#[]⟩, .int .i64 1, .int .i64 0, .string ⟨#[]⟩, .slice none 0 0] 26)).alloc (.cells #[.int .i64 7, .string ⟨#[]⟩, .int .i64 0, .int .i64 0, .string ⟨#[]⟩, .slice (some ⟨w3.heap.size, 0, none⟩) 2 2] 26)).alloc (.cells #[.int .i64 2, .string ⟨#[]⟩, .int .i64 2, .int .i64 0, .string ⟨#[]⟩, .slice none 0 0] 26)) := by
  have h23 := hop0 h2 h3
  have hw := hop0 ((Below.refl _ w).alloc (Nat.le_refl _) (.cells #[.string ⟨#[97]⟩, .int .i64 1] 56)) h23
  have hc3 := (h23.block w.heap.size (by simp)).trans (World.alloc_heap_new w _)
  obtain ⟨W4, hW4⟩ : ∃ W4, w3.alloc (.cells #[.int .i64 2, .string ⟨#[]⟩, .int .i64 1, .int .i64 1, .string ⟨#[]⟩, .slice none 0 0, .int .i64 2, .string ⟨#[]⟩, .int .i64 1, .int .i64 0, .string ⟨#[]⟩, .slice none 0 0] 26) = W4 := ⟨_, rfl⟩
  have hk4 : KidsAt W4 W4.heap.size divX (some ⟨w3.heap.size, 0, none⟩) 2 := by rw [← hW4]; exact laid2 leaf_at leaf_at _ _ _ rfl _
  have hs4 : W4.heap.size = w3.heap.size + 1 := by rw [← hW4]; simp
  have hb4 : Below w3.heap.size w3 W4 := by rw [← hW4]; exact (Below.refl _ _).alloc (Nat.le_refl _) _
  rw [hW4, ← hs4]
  have hb6 := two_boxes W4 (.cells #[.int .i64 7, .string ⟨#[]⟩, .int .i64 0, .int .i64 0, .string ⟨#[]⟩, .slice (some ⟨w3.heap.size, 0, none⟩) 2 2] 26) (.cells #[.int .i64 2, .string ⟨#[]⟩, .int .i64 2, .int .i64 0, .string ⟨#[]⟩, .slice none 0 0] 26)
  refine ⟨(hb6.block _ ?_).trans ((hb4.block _ (lt_of_heap hc3)).trans hc3), hk4.below hb6, ?_, ?_, hop0 hw (hb4.trans (hb6.mono (by omega)))⟩
  · have := lt_of_heap hc3; omega
  · exact (Below.heap_alloc _ _ _ (by simp)).trans (World.alloc_heap_new W4 _)
  · have := World.alloc_heap_new (W4.alloc (.cells #[.int .i64 7, .string ⟨#[]⟩, .int .i64 0, .int .i64 0, .string ⟨#[]⟩, .slice (some ⟨w3.heap.size, 0, none⟩) 2 2] 26)) (.cells #[.int .i64 2, .string ⟨#[]⟩, .int .i64 2, .int .i64 0, .string ⟨#[]⟩, .slice none 0 0] 26)
    rwa [World.size_alloc] at this
end Go.Proofs.YtclcabdekeegdaaGreat
