/- Layer 15, walked: slices.Equal of four values; of which values something is kept. -/
import Derived.Test.YtihgcfokenabgaaAgX3
namespace Go.Proofs.Ytihgcfokenabgaa
open Go Go.ChangeShapes Go.WideShapes Go.ChangeAt Go.RowKit
set_option linter.unusedVariables false
set_option linter.unusedSimpArgs false
theorem ne_ways {x y : V} (h : ¬ x = y) : (¬ x.k = y.k) ∨ (x.k = y.k ∧ ¬ x.n = y.n) ∨ (x.k = y.k ∧ x.n = y.n ∧ ¬ x.s.toList = y.s.toList) := by
  obtain ⟨k, n, s⟩ := x
  obtain ⟨k', n', s'⟩ := y
  dsimp only at *
  by_cases h1 : k = k'
  · by_cases h2 : n = n'
    · refine .inr (.inr ⟨h1, h2, fun h3 => h ?_⟩)
      rw [V.mk.injEq]
      refine ⟨h1, h2, str_ext ?_⟩
      rw [← Lib.toList_data, ← Lib.toList_data, h3]
    · exact .inr (.inl ⟨h1, h2⟩)
  · exact .inl h1
set_option maxHeartbeats 4000000 in
set_option maxRecDepth 100000 in
theorem seq4_any (x0 x1 x2 x3 y0 y1 y2 y3 : V) (q : Bool) (hq : q = true ↔ [x0, x1, x2, x3] = [y0, y1, y2, y3]) (c c2 : Nat) (A B : Option Addr) (w : World) (hA : Row3 w w.heap.size A [x0, x1, x2, x3]) (hB : Row3 w w.heap.size B [y0, y1, y2, y3]) :
    Calls Try.prog 37 #[.slice A 4 c, .slice B 4 c2] w fun e w' => e = .returned (.bool q) ∧ Below w.heap.size w w' := by
  obtain ⟨b, off, rfl, hb, ⟨a0, a1, a2⟩, ⟨b0, b1, b2⟩, ⟨c0, c1, c2'⟩, d0, d1, d2⟩ := row4 hA
  obtain ⟨g, of, rfl, hg, ⟨e0, e1, e2⟩, ⟨f0, f1, f2⟩, ⟨g0, g1, g2⟩, h0, h1, h2⟩ := row4 hB
  clear hA hB
  by_cases k0 : x0 = y0
  · by_cases k1 : x1 = y1
    · by_cases k2 : x2 = y2
      · by_cases k3 : x3 = y3
        · obtain rfl : q = true := hq.2 (by rw [k0, k1, k2, k3])
          subst k0 k1 k2 k3
          clear hq
          have hq : True := True.intro
          go_enter Try.func37, Try.ntmps37
          go_wp2
          refine wp_loop_rounds 5 ?_
          rw [rounds_succ]
          go_wp2
          go_region
          go_wp2
          rw [rounds_succ]
          go_wp2
          go_region
          go_wp2
          rw [rounds_succ]
          go_wp2
          go_region
          go_wp2
          rw [rounds_succ]
          go_wp2
          go_region
          go_wp2
          rw [rounds_succ]
          go_wp2
          go_ret
          exact ⟨by simp [hq], by (repeat (first | exact Below.refl _ _ | refine Below.drew ?_))⟩
        · obtain rfl : q = false := by cases q; rfl; exact absurd (by have := hq.1 rfl; simp at this; exact this.2.2.2) k3
          subst k0 k1 k2
          clear hq
          have hq : True := True.intro
          rcases ne_ways k3 with u1 | ⟨u1, u2⟩ | ⟨u1, u2, u3⟩
          all_goals
            clear k3
            go_enter Try.func37, Try.ntmps37
            go_wp2
            refine wp_loop_rounds 5 ?_
            rw [rounds_succ]
            go_wp2
            go_region
            go_wp2
            rw [rounds_succ]
            go_wp2
            go_region
            go_wp2
            rw [rounds_succ]
            go_wp2
            go_region
            go_wp2
            rw [rounds_succ]
            go_wp2
            go_region
            go_wp2
            go_ret
            exact ⟨by simp [hq], by (repeat (first | exact Below.refl _ _ | refine Below.drew ?_))⟩
      · obtain rfl : q = false := by cases q; rfl; exact absurd (by have := hq.1 rfl; simp at this; exact this.2.2.1) k2
        subst k0 k1
        clear hq
        have hq : True := True.intro
        rcases ne_ways k2 with u1 | ⟨u1, u2⟩ | ⟨u1, u2, u3⟩
        all_goals
          clear k2
          go_enter Try.func37, Try.ntmps37
          go_wp2
          refine wp_loop_rounds 5 ?_
          rw [rounds_succ]
          go_wp2
          go_region
          go_wp2
          rw [rounds_succ]
          go_wp2
          go_region
          go_wp2
          rw [rounds_succ]
          go_wp2
          go_region
          go_wp2
          go_ret
          exact ⟨by simp [hq], by (repeat (first | exact Below.refl _ _ | refine Below.drew ?_))⟩
    · obtain rfl : q = false := by cases q; rfl; exact absurd (by have := hq.1 rfl; simp at this; exact this.2.1) k1
      subst k0
      clear hq
      have hq : True := True.intro
      rcases ne_ways k1 with u1 | ⟨u1, u2⟩ | ⟨u1, u2, u3⟩
      all_goals
        clear k1
        go_enter Try.func37, Try.ntmps37
        go_wp2
        refine wp_loop_rounds 5 ?_
        rw [rounds_succ]
        go_wp2
        go_region
        go_wp2
        rw [rounds_succ]
        go_wp2
        go_region
        go_wp2
        go_ret
        exact ⟨by simp [hq], by (repeat (first | exact Below.refl _ _ | refine Below.drew ?_))⟩
  · obtain rfl : q = false := by cases q; rfl; exact absurd (by have := hq.1 rfl; simp at this; exact this.1) k0
    clear hq
    have hq : True := True.intro
    rcases ne_ways k0 with u1 | ⟨u1, u2⟩ | ⟨u1, u2, u3⟩
    all_goals
      clear k0
      go_enter Try.func37, Try.ntmps37
      go_wp2
      refine wp_loop_rounds 5 ?_
      rw [rounds_succ]
      go_wp2
      go_region
      go_wp2
      go_ret
      exact ⟨by simp [hq], by (repeat (first | exact Below.refl _ _ | refine Below.drew ?_))⟩
end Go.Proofs.Ytihgcfokenabgaa
