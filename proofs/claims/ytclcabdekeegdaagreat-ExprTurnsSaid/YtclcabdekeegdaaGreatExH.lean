/- Layer 13: the law Holds, walked. -/
import Derived.Test.YtclcabdekeegdaaGreatExQ5
namespace Go.Proofs.YtclcabdekeegdaaGreat
open Go.ChangeShapes Go.WideShapes Go.ChangeAt Go.RowKit
set_option linter.unusedVariables false
set_option linter.unusedSimpArgs false
theorem worth_err {e : X} {cs : List C} {row : List V} (h : (kindE e cs).2 ≠ 0) : worthX e cs row = (nulV, (kindE e cs).2) := by unfold worthX; rw [if_pos h]
theorem kindE_ok {e : X} {cs : List C} (h : (kindE e cs).2 = 0) : rightB cs = true ∧ checkX e = 0 ∧ kindE e cs = kindX cs e := by
  unfold kindE at h ⊢
  split at h
  · cases h
  · rename_i h1
    split at h
    · rename_i h2; exact absurd h h2
    · rename_i h2
      rw [if_neg h1, if_neg h2]
      exact ⟨by simpa using h1, by simpa using h2, rfl⟩
theorem worth_cases {e : X} {cs : List C} {row : List V} (h : (kindE e cs).2 = 0) : ((worthX e cs row).2 ≠ 0 → (worthX e cs row).1 = nulV ∧ ((worthX e cs row).2 = 122 ∨ (worthX e cs row).2 = 10 ∨ (worthX e cs row).2 = 11)) ∧ ((worthX e cs row).2 = 0 → (worthX e cs row).1 = nulV ∨ (worthX e cs row).1.k = (kindE e cs).1) := by
  obtain ⟨h1, h2, h3⟩ := kindE_ok h
  unfold worthX
  rw [if_neg (by simp [h])]
  by_cases hf : fitsR cs row = true
  · rw [if_neg (by simp [hf])]
    rcases evalX_good hf e (check_form h2) (by rw [← h3]; exact h) with ⟨g1, _, g3⟩ | ⟨g1, g2⟩
    · exact ⟨fun hh => absurd g1 hh, fun _ => by rw [h3]; exact g3⟩
    · exact ⟨fun _ => ⟨g2, .inr g1⟩, fun hh => by omega⟩
  · rw [if_pos (by simpa using hf)]
    exact ⟨fun _ => ⟨rfl, .inl rfl⟩, fun hh => by cases hh⟩
theorem nul_of {v : V} (h : v = nulV) : v.k = 0 ∧ v.n = 0 ∧ v.s = ⟨#[]⟩ := by rw [h]; exact ⟨rfl, rfl, rfl⟩
set_option maxHeartbeats 8000000 in
set_option maxRecDepth 40000 in
theorem holds_walk (e : X) (hwe : e.wf) (cs : List C) (hwc : ∀ c ∈ cs, c.wf) (row : List V) (hwr : ∀ v ∈ row, v.wf) (A : Option Addr) (c : Nat) (cA : Option Addr) (cc : Nat) (rA : Option Addr) (rc : Nat) (w : World) (hcc : cs.length ≤ cc) (hcm : cc ≤ maxLen) (hrl : row.length ≤ maxLen)
    (hk : KidsAt w w.heap.size e A c) (hc : Row2 w w.heap.size cA cs) (hr : Row3 w w.heap.size rA row) :
    Calls Tryz.prog 7 #[e.val A c, .slice cA cs.length cc, .slice rA row.length rc] w fun en w' => en = .returned (.bool true) ∧ Below w.heap.size w w' := by
  have hcl : cs.length ≤ maxLen := Nat.le_trans hcc hcm
  obtain ⟨W1, hW1⟩ : ∃ W1, w.alloc (e.obj A c) = W1 := ⟨_, rfl⟩
  have hb1 : Below w.heap.size w W1 := by rw [← hW1]; exact (Below.refl _ _).alloc (Nat.le_refl _) _
  have hq1 : W1.heap[w.heap.size]? = some (e.obj A c) := by rw [← hW1]; exact obj_box _ _ _ _
  have HB1 := Lib.hid hb1
  have HQ := Lib.hid (fun (W : World) (hb : Below W1.heap.size W1 W) => show W.heap[w.heap.size]? = some (e.obj A c) from (hb.block _ (Array.getElem?_eq_some_iff.1 hq1).1).trans hq1)
  have HFA := Lib.hid (fun (W : World) (h : Below w.heap.size w W) => far_any e hwe cs hwc row hwr A c cA cc rA rc W hcl hrl (KidsAt.more h.size (hk.below h)) ((hc.below h).more h.size) ((hr.below h).more h.size))
  have HKD := Lib.hid (fun (W : World) (h : Below w.heap.size w W) => kind_pub e hwe cs hwc A c cA cc W hcl hcc hcm (KidsAt.more h.size (hk.below h)) ((hc.below h).more h.size))
  have HWO := Lib.hid (fun (W : World) (h : Below w.heap.size w W) => worth_pub e hwe cs hwc row hwr A c cA cc rA rc W hcl hcc hcm hrl (KidsAt.more h.size (hk.below h)) ((hc.below h).more h.size) ((hr.below h).more h.size))
  have HWE := Lib.hid (worth_err (e := e) (cs := cs) (row := row))
  have HWC := Lib.hid (worth_cases (e := e) (cs := cs) (row := row))
  obtain ⟨fz, hfz⟩ : ∃ z, farX e cs row = z := ⟨_, rfl⟩
  obtain ⟨⟨k, f⟩, hkf⟩ : ∃ z, kindE e cs = z := ⟨_, rfl⟩
  obtain ⟨⟨v, g⟩, hvg⟩ : ∃ z, worthX e cs row = z := ⟨_, rfl⟩
  rw [hfz] at HFA
  rw [hkf] at HKD HWE HWC
  rw [hvg] at HWO HWE HWC
  unfold endI at HKD
  unfold endV V.val at HWO
  dsimp only at HKD HWO HWE HWC
  clear hfz hkf hvg hk hc hr hcl hcc hcm hrl hq1 hb1
  unfold X.obj at hW1
  unfold X.val at HFA HKD HWO ⊢
  have HS : Hid (W1.heap.size = w.heap.size + 1) := Lib.hid (by rw [← hW1]; simp)
  cases fz with
  | true =>
    go_enter Tryz.func7, Tryz.ntmps7
    go_wp2_with (first
      | (go_at_call 10; refine (alive_any _).mono ?_; rintro en w2 ⟨rfl, hb2⟩; obtain ⟨p0, p1, p2, p3, p4, p5⟩ := obj_cells (HQ.out _ hb2); have HB2 := Lib.hid (hop0 HB1.out hb2); clear hb2)
      | (go_at_call 11; refine (HFA.out _ HB2.out).mono ?_; rintro en w3 ⟨rfl, hb3⟩; have HB3 := Lib.hid (hop0 HB2.out hb3); clear hb3))
    go_ret
    exact ⟨rfl, HB3.out⟩
  | false =>
    by_cases hf : f = 0
    · subst hf
      have HWC := Lib.hid (HWC.out rfl)
      by_cases hg : g = 0
      · subst hg
        have HV := Lib.hid (HWC.out.2 rfl)
        clear HWE HWC
        obtain ⟨k2, m, s⟩ := v
        dsimp only at HWO HV
        by_cases h1 : k2 = 0
        · by_cases h2 : m = 0
          · by_cases h3 : s.size = 0
            · have hq : s.toList = [] := by rw [toList_nil]; exact h3
              clear h3 HV
              go_enter Tryz.func7, Tryz.ntmps7
              go_wp2_with (first
                | (go_at_call 10; refine (alive_any _).mono ?_; rintro en w2 ⟨rfl, hb2⟩; obtain ⟨p0, p1, p2, p3, p4, p5⟩ := obj_cells (HQ.out _ hb2); have HQ2 := Lib.hid (HQ.out _ hb2); have HB2 := Lib.hid (hop0 HB1.out hb2); clear hb2)
                | (go_at_call 11; refine (HFA.out _ HB2.out).mono ?_; rintro en w3 ⟨rfl, hb3⟩; clear p0 p1 p2 p3 p4 p5; have HQ3 := Lib.hid ((hb3.block _ (lt_of_heap HQ2.out)).trans HQ2.out); obtain ⟨p0, p1, p2, p3, p4, p5⟩ := obj_cells HQ3.out; have HB3 := Lib.hid (hop0 HB2.out hb3); clear hb3)
                | (go_at_call 16; refine (HKD.out _ HB3.out).mono ?_; rintro en w4 ⟨rfl, hb4⟩; clear p0 p1 p2 p3 p4 p5; have HQ4 := Lib.hid ((hb4.block _ (lt_of_heap HQ3.out)).trans HQ3.out); obtain ⟨p0, p1, p2, p3, p4, p5⟩ := obj_cells HQ4.out; have HB4 := Lib.hid (hop0 HB3.out hb4); clear hb4)
                | (go_at_call 18; refine (HWO.out _ HB4.out).mono ?_; rintro en w5 ⟨rfl, hb5⟩; have HB5 := Lib.hid (hop0 HB4.out hb5); clear hb5))
              go_ret
              exact ⟨rfl, HB5.out.alloc (by have := HB5.out.size; omega) _⟩
            · have hq : ¬ s.toList = [] := by rw [toList_nil]; exact h3
              have hkk : k2 = k := by
                rcases HV.out with h | h
                · injection h with _ _ h; rw [h] at h3; exact absurd rfl h3
                · exact h
              clear h3 HV
              subst hkk
              go_enter Tryz.func7, Tryz.ntmps7
              go_wp2_with (first
                | (go_at_call 10; refine (alive_any _).mono ?_; rintro en w2 ⟨rfl, hb2⟩; obtain ⟨p0, p1, p2, p3, p4, p5⟩ := obj_cells (HQ.out _ hb2); have HQ2 := Lib.hid (HQ.out _ hb2); have HB2 := Lib.hid (hop0 HB1.out hb2); clear hb2)
                | (go_at_call 11; refine (HFA.out _ HB2.out).mono ?_; rintro en w3 ⟨rfl, hb3⟩; clear p0 p1 p2 p3 p4 p5; have HQ3 := Lib.hid ((hb3.block _ (lt_of_heap HQ2.out)).trans HQ2.out); obtain ⟨p0, p1, p2, p3, p4, p5⟩ := obj_cells HQ3.out; have HB3 := Lib.hid (hop0 HB2.out hb3); clear hb3)
                | (go_at_call 16; refine (HKD.out _ HB3.out).mono ?_; rintro en w4 ⟨rfl, hb4⟩; clear p0 p1 p2 p3 p4 p5; have HQ4 := Lib.hid ((hb4.block _ (lt_of_heap HQ3.out)).trans HQ3.out); obtain ⟨p0, p1, p2, p3, p4, p5⟩ := obj_cells HQ4.out; have HB4 := Lib.hid (hop0 HB3.out hb4); clear hb4)
                | (go_at_call 18; refine (HWO.out _ HB4.out).mono ?_; rintro en w5 ⟨rfl, hb5⟩; have HB5 := Lib.hid (hop0 HB4.out hb5); clear hb5))
              go_ret
              exact ⟨rfl, HB5.out.alloc (by have := HB5.out.size; omega) _⟩
          · have hkk : k2 = k := by
              rcases HV.out with h | h
              · injection h with _ h _; exact absurd h h2
              · exact h
            clear HV
            subst hkk
            go_enter Tryz.func7, Tryz.ntmps7
            go_wp2_with (first
              | (go_at_call 10; refine (alive_any _).mono ?_; rintro en w2 ⟨rfl, hb2⟩; obtain ⟨p0, p1, p2, p3, p4, p5⟩ := obj_cells (HQ.out _ hb2); have HQ2 := Lib.hid (HQ.out _ hb2); have HB2 := Lib.hid (hop0 HB1.out hb2); clear hb2)
              | (go_at_call 11; refine (HFA.out _ HB2.out).mono ?_; rintro en w3 ⟨rfl, hb3⟩; clear p0 p1 p2 p3 p4 p5; have HQ3 := Lib.hid ((hb3.block _ (lt_of_heap HQ2.out)).trans HQ2.out); obtain ⟨p0, p1, p2, p3, p4, p5⟩ := obj_cells HQ3.out; have HB3 := Lib.hid (hop0 HB2.out hb3); clear hb3)
              | (go_at_call 16; refine (HKD.out _ HB3.out).mono ?_; rintro en w4 ⟨rfl, hb4⟩; clear p0 p1 p2 p3 p4 p5; have HQ4 := Lib.hid ((hb4.block _ (lt_of_heap HQ3.out)).trans HQ3.out); obtain ⟨p0, p1, p2, p3, p4, p5⟩ := obj_cells HQ4.out; have HB4 := Lib.hid (hop0 HB3.out hb4); clear hb4)
              | (go_at_call 18; refine (HWO.out _ HB4.out).mono ?_; rintro en w5 ⟨rfl, hb5⟩; have HB5 := Lib.hid (hop0 HB4.out hb5); clear hb5))
            go_ret
            exact ⟨rfl, HB5.out.alloc (by have := HB5.out.size; omega) _⟩
        · have hkk : k2 = k := by
            rcases HV.out with h | h
            · injection h with h _ _; exact absurd h h1
            · exact h
          clear HV
          subst hkk
          go_enter Tryz.func7, Tryz.ntmps7
          go_wp2_with (first
            | (go_at_call 10; refine (alive_any _).mono ?_; rintro en w2 ⟨rfl, hb2⟩; obtain ⟨p0, p1, p2, p3, p4, p5⟩ := obj_cells (HQ.out _ hb2); have HQ2 := Lib.hid (HQ.out _ hb2); have HB2 := Lib.hid (hop0 HB1.out hb2); clear hb2)
            | (go_at_call 11; refine (HFA.out _ HB2.out).mono ?_; rintro en w3 ⟨rfl, hb3⟩; clear p0 p1 p2 p3 p4 p5; have HQ3 := Lib.hid ((hb3.block _ (lt_of_heap HQ2.out)).trans HQ2.out); obtain ⟨p0, p1, p2, p3, p4, p5⟩ := obj_cells HQ3.out; have HB3 := Lib.hid (hop0 HB2.out hb3); clear hb3)
            | (go_at_call 16; refine (HKD.out _ HB3.out).mono ?_; rintro en w4 ⟨rfl, hb4⟩; clear p0 p1 p2 p3 p4 p5; have HQ4 := Lib.hid ((hb4.block _ (lt_of_heap HQ3.out)).trans HQ3.out); obtain ⟨p0, p1, p2, p3, p4, p5⟩ := obj_cells HQ4.out; have HB4 := Lib.hid (hop0 HB3.out hb4); clear hb4)
            | (go_at_call 18; refine (HWO.out _ HB4.out).mono ?_; rintro en w5 ⟨rfl, hb5⟩; have HB5 := Lib.hid (hop0 HB4.out hb5); clear hb5))
          go_ret
          exact ⟨rfl, HB5.out.alloc (by have := HB5.out.size; omega) _⟩
      · obtain ⟨hvn, hgs⟩ := HWC.out.1 hg
        clear HWE HWC
        subst hvn
        unfold nulV at HWO
        dsimp only at HWO
        rcases hgs with rfl | rfl | rfl
        ·
          go_enter Tryz.func7, Tryz.ntmps7
          go_wp2_with (first
            | (go_at_call 10; refine (alive_any _).mono ?_; rintro en w2 ⟨rfl, hb2⟩; obtain ⟨p0, p1, p2, p3, p4, p5⟩ := obj_cells (HQ.out _ hb2); have HQ2 := Lib.hid (HQ.out _ hb2); have HB2 := Lib.hid (hop0 HB1.out hb2); clear hb2)
            | (go_at_call 11; refine (HFA.out _ HB2.out).mono ?_; rintro en w3 ⟨rfl, hb3⟩; clear p0 p1 p2 p3 p4 p5; have HQ3 := Lib.hid ((hb3.block _ (lt_of_heap HQ2.out)).trans HQ2.out); obtain ⟨p0, p1, p2, p3, p4, p5⟩ := obj_cells HQ3.out; have HB3 := Lib.hid (hop0 HB2.out hb3); clear hb3)
            | (go_at_call 16; refine (HKD.out _ HB3.out).mono ?_; rintro en w4 ⟨rfl, hb4⟩; clear p0 p1 p2 p3 p4 p5; have HQ4 := Lib.hid ((hb4.block _ (lt_of_heap HQ3.out)).trans HQ3.out); obtain ⟨p0, p1, p2, p3, p4, p5⟩ := obj_cells HQ4.out; have HB4 := Lib.hid (hop0 HB3.out hb4); clear hb4)
            | (go_at_call 18; refine (HWO.out _ HB4.out).mono ?_; rintro en w5 ⟨rfl, hb5⟩; have HB5 := Lib.hid (hop0 HB4.out hb5); clear hb5))
          go_ret
          exact ⟨rfl, HB5.out.alloc (by have := HB5.out.size; omega) _⟩
        ·
          go_enter Tryz.func7, Tryz.ntmps7
          go_wp2_with (first
            | (go_at_call 10; refine (alive_any _).mono ?_; rintro en w2 ⟨rfl, hb2⟩; obtain ⟨p0, p1, p2, p3, p4, p5⟩ := obj_cells (HQ.out _ hb2); have HQ2 := Lib.hid (HQ.out _ hb2); have HB2 := Lib.hid (hop0 HB1.out hb2); clear hb2)
            | (go_at_call 11; refine (HFA.out _ HB2.out).mono ?_; rintro en w3 ⟨rfl, hb3⟩; clear p0 p1 p2 p3 p4 p5; have HQ3 := Lib.hid ((hb3.block _ (lt_of_heap HQ2.out)).trans HQ2.out); obtain ⟨p0, p1, p2, p3, p4, p5⟩ := obj_cells HQ3.out; have HB3 := Lib.hid (hop0 HB2.out hb3); clear hb3)
            | (go_at_call 16; refine (HKD.out _ HB3.out).mono ?_; rintro en w4 ⟨rfl, hb4⟩; clear p0 p1 p2 p3 p4 p5; have HQ4 := Lib.hid ((hb4.block _ (lt_of_heap HQ3.out)).trans HQ3.out); obtain ⟨p0, p1, p2, p3, p4, p5⟩ := obj_cells HQ4.out; have HB4 := Lib.hid (hop0 HB3.out hb4); clear hb4)
            | (go_at_call 18; refine (HWO.out _ HB4.out).mono ?_; rintro en w5 ⟨rfl, hb5⟩; have HB5 := Lib.hid (hop0 HB4.out hb5); clear hb5))
          go_ret
          exact ⟨rfl, HB5.out.alloc (by have := HB5.out.size; omega) _⟩
        ·
          go_enter Tryz.func7, Tryz.ntmps7
          go_wp2_with (first
            | (go_at_call 10; refine (alive_any _).mono ?_; rintro en w2 ⟨rfl, hb2⟩; obtain ⟨p0, p1, p2, p3, p4, p5⟩ := obj_cells (HQ.out _ hb2); have HQ2 := Lib.hid (HQ.out _ hb2); have HB2 := Lib.hid (hop0 HB1.out hb2); clear hb2)
            | (go_at_call 11; refine (HFA.out _ HB2.out).mono ?_; rintro en w3 ⟨rfl, hb3⟩; clear p0 p1 p2 p3 p4 p5; have HQ3 := Lib.hid ((hb3.block _ (lt_of_heap HQ2.out)).trans HQ2.out); obtain ⟨p0, p1, p2, p3, p4, p5⟩ := obj_cells HQ3.out; have HB3 := Lib.hid (hop0 HB2.out hb3); clear hb3)
            | (go_at_call 16; refine (HKD.out _ HB3.out).mono ?_; rintro en w4 ⟨rfl, hb4⟩; clear p0 p1 p2 p3 p4 p5; have HQ4 := Lib.hid ((hb4.block _ (lt_of_heap HQ3.out)).trans HQ3.out); obtain ⟨p0, p1, p2, p3, p4, p5⟩ := obj_cells HQ4.out; have HB4 := Lib.hid (hop0 HB3.out hb4); clear hb4)
            | (go_at_call 18; refine (HWO.out _ HB4.out).mono ?_; rintro en w5 ⟨rfl, hb5⟩; have HB5 := Lib.hid (hop0 HB4.out hb5); clear hb5))
          go_ret
          exact ⟨rfl, HB5.out.alloc (by have := HB5.out.size; omega) _⟩
    · have hwe := HWE.out hf
      injection hwe with h1 h2
      subst h1 h2
      have q0 : (g != 0) = true := by simpa using hf
      clear HWE HWC hf
      unfold nulV at HWO
      dsimp only at HWO
      go_enter Tryz.func7, Tryz.ntmps7
      go_wp2_with (first
        | (go_at_call 10; refine (alive_any _).mono ?_; rintro en w2 ⟨rfl, hb2⟩; obtain ⟨p0, p1, p2, p3, p4, p5⟩ := obj_cells (HQ.out _ hb2); have HQ2 := Lib.hid (HQ.out _ hb2); have HB2 := Lib.hid (hop0 HB1.out hb2); clear hb2)
        | (go_at_call 11; refine (HFA.out _ HB2.out).mono ?_; rintro en w3 ⟨rfl, hb3⟩; clear p0 p1 p2 p3 p4 p5; have HQ3 := Lib.hid ((hb3.block _ (lt_of_heap HQ2.out)).trans HQ2.out); obtain ⟨p0, p1, p2, p3, p4, p5⟩ := obj_cells HQ3.out; have HB3 := Lib.hid (hop0 HB2.out hb3); clear hb3)
        | (go_at_call 16; refine (HKD.out _ HB3.out).mono ?_; rintro en w4 ⟨rfl, hb4⟩; clear p0 p1 p2 p3 p4 p5; have HQ4 := Lib.hid ((hb4.block _ (lt_of_heap HQ3.out)).trans HQ3.out); obtain ⟨p0, p1, p2, p3, p4, p5⟩ := obj_cells HQ4.out; have HB4 := Lib.hid (hop0 HB3.out hb4); clear hb4)
        | (go_at_call 18; refine (HWO.out _ HB4.out).mono ?_; rintro en w5 ⟨rfl, hb5⟩; have HB5 := Lib.hid (hop0 HB4.out hb5); clear hb5))
      go_ret
      exact ⟨rfl, HB5.out.alloc (by have := HB5.out.size; omega) _⟩
end Go.Proofs.YtclcabdekeegdaaGreat
