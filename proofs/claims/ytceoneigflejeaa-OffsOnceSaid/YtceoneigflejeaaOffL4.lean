/- The walk of OffsOnce. -/
import Derived.Test.YtceoneigflejeaaOffO
import Derived.Deep.RegionLaw
import Derived.BigRegion
namespace Go.Proofs.Ytceoneigflejeaa
open Go.ChangeShapes Go.WideShapes Go.ChangeAt Go.RowKit
set_option linter.unusedVariables false

/-- The rows that are laid lie in blocks of the call's own, from B on. -/
def OwnRs (B : Nat) (rs : List Rs) (w : World) : Prop := ∀ r ∈ rs, w.ownsRow B 26 2 (.slice r.a r.l.length r.c) r.l.length (r.l.flatMap rgCells)
theorem own_pastB {g S : Nat} {w w' : World} {base : Nat} {e : TypeId} {size : Nat} {v : Value} {n : Nat} {xs : List Value} (h : w.ownsRow base e size v n xs) (hp : PastB g S w w') (hS : S = w.heap.size) (hg : g < base) : w'.ownsRow base e size v n xs := by
  refine ⟨h.1, ?_⟩
  rcases h.2 with ⟨rfl, h0⟩ | ⟨k, cap, cur, rfl, hk, hh, rest⟩
  · exact .inl ⟨rfl, h0⟩
  · exact .inr ⟨k, cap, cur, rfl, hk, (hp.2.2.2.2 k (by rw [hS]; exact (Array.getElem?_eq_some_iff.1 hh).1) (by omega)).trans hh, rest⟩
theorem PastB.set {r B : Nat} {a b : World} (h : PastB r B a b) (j : Nat) (v : Value) : PastB r B a (b.setCell ⟨r, j, none⟩ v) :=
  ⟨h.1, h.2.1, h.2.2.1, by simpa using h.2.2.2.1, fun k hk hne => (Below.heap_setCell _ _ _ _ hne).trans (h.2.2.2.2 k hk hne)⟩
/-- A block of the ends turns: a row of the call's own behind it lies on. -/
theorem own_set_g {g j : Nat} {w : World} {base : Nat} {e : TypeId} {size : Nat} {v : Value} {n : Nat} {xs : List Value} (h : w.ownsRow base e size v n xs) (hg : g < base) (u : Value) : (w.setCell ⟨g, j, none⟩ u).ownsRow base e size v n xs := by
  refine ⟨h.1, ?_⟩
  rcases h.2 with ⟨rfl, h0⟩ | ⟨k, cap, cur, rfl, hk, hh, rest⟩
  · exact .inl ⟨rfl, h0⟩
  · exact .inr ⟨k, cap, cur, rfl, hk, (Below.heap_setCell _ _ _ _ (by simp; omega)).trans hh, rest⟩

theorem own_apart {w w' : World} {B1 B2 : Nat} {E1 E2 : TypeId} {s1 s2 : Nat} {v1 v2 : Value} {n1 n2 : Nat} {xs1 xs2 : List Value} (hne : E1 ≠ E2) (h1 : w.ownsRow B1 E1 s1 v1 n1 xs1) (h2 : w.ownsRow B2 E2 s2 v2 n2 xs2) (hg : w.grownBy w' v2.ownBlock) : w'.ownsRow B1 E1 s1 v1 n1 xs1 := by
  refine h1.kept hg ?_
  rcases h1.2 with ⟨rfl, _⟩ | ⟨g1, cap1, cur1, rfl, _, hh1, _⟩
  · exact .inl rfl
  · refine .inr fun e => ?_
    rcases h2.2 with ⟨rfl, _⟩ | ⟨g2, cap2, cur2, rfl, _, hh2, _⟩
    · simp [Value.ownBlock] at e
    · simp [Value.ownBlock] at e
      subst e
      rw [hh1] at hh2
      injection hh2 with hh2
      injection hh2 with _ hh2
      exact hne hh2
theorem own_caps {w : World} {B : Nat} {E : TypeId} {sz n c : Nat} {A : Option Addr} {xs : List Value} (h : w.ownsRow B E sz (.slice A n c) n xs) : n ≤ c ∧ c ≤ maxLen := by
  rcases h.2 with ⟨hv, h0⟩ | ⟨g, cap, cur, hv, _, _, h1, h2, _⟩
  · injection hv with _ _ h3
    exact ⟨by omega, by rw [h3]; decide⟩
  · injection hv with _ _ h3
    exact ⟨by omega, by omega⟩
theorem rowE_mem {bs : List Bx} {n : Nat} {rs : List Rs} (h : lsOf rs = allE bs n) {i : Nat} (hi : i < rs.length) : rs[i].l = rowE bs i 3 := by
  have hn : i < n := by have := congrArg List.length h; rw [lsOf_len, allE_len] at this; omega
  rw [← lsOf_get hi, h, allE_get bs hn]
theorem OwnRs.all {bs : List Bx} {n B : Nat} {rs : List Rs} {w : World} (h : OwnRs B rs w) (he : lsOf rs = allE bs n) : AllRs w w.heap.size rs := by
  intro r hr
  refine ⟨(RowC.own rgCells_length (by decide) (h r hr)).2, ?_⟩
  obtain ⟨i, hi, rfl⟩ := List.getElem_of_mem hr
  rw [rowE_mem he hi, rowE_len]
  decide

set_option maxRecDepth 4000 in
set_option maxHeartbeats 4000000 in
theorem offsonce_walk (bs : List Bx) (A : Option Addr) (n c : Nat) (w : World) (hn : n = bs.length) (hm : n ≤ maxLen) (hat : RowC bxCells 1 w w.heap.size A bs) (hall : ∀ b ∈ bs, goodBx w w.heap.size b) :
    Calls Try.prog 6 #[.slice A n c] w fun e w' => e = .returned (.bool true) ∧ Below w.heap.size w w' := by
  have hn9 : n ≤ 9223372036854775807 := by unfold maxLen at hm; omega
  by_cases hbig : 40 < n
  · have d1 : decide ((40 : Int) < (n : Int)) = true := decide_eq_true (by omega)
    clear hn hm hat hall hbig
    go_enter Try.func6, Try.ntmps6
    go_wp2_with (go_at_call 7; refine (alive_any _).mono ?_; rintro e w1 ⟨rfl, hb1⟩; have HB := Lib.hid hb1; clear hb1)
    go_ret
    exact ⟨rfl, HB.out⟩
  have d1 : decide ((40 : Int) < (n : Int)) = false := decide_eq_false (by omega)
  have hn40 : n ≤ 40 := by omega
  have HN := Lib.hid hn
  have HA := Lib.hid hat
  have HALL := Lib.hid hall
  clear hn hm hat hall hbig
  go_enter Try.func6, Try.ntmps6
  go_wp2_with (go_at_call 7; refine (alive_any _).mono ?_; rintro e w1 ⟨rfl, hb1⟩; have HB := Lib.hid hb1; clear hb1)
  obtain ⟨g, hg⟩ : ∃ g, w1.heap.size = g := ⟨_, rfl⟩
  have HG := Lib.hid hg
  have HE0 := Lib.hid (show EndsAt (w1.alloc (.cells #[.int .i64 0, .int .i64 0, .int .i64 0] 46)) g (En bs 0) from by
    rw [← hg]
    refine ⟨fun q hq => ?_, fun q => by simp [go_sem]⟩
    rcases (show q = 0 ∨ q = 1 ∨ q = 2 by omega) with rfl | rfl | rfl <;> simp [go_sem, En])
  have HB0 := Lib.hid ((Below.refl w1.heap.size w1).alloc (Nat.le_refl _) (.cells #[.int .i64 0, .int .i64 0, .int .i64 0] 46))
  have HS0 := Lib.hid (show g + 1 ≤ (w1.alloc (.cells #[.int .i64 0, .int .i64 0, .int .i64 0] 46)).heap.size by rw [← hg]; simp)
  rw [hg]
  clear hg
  go_loopw [3, 5] (fun lv iv wr => ∃ (i : Nat) (rs : List Rs) (A2 : Option Addr) (c2 : Nat), i ≤ n ∧ iv = .int .i64 (i : Int) ∧ lv = .slice A2 i c2 ∧ Hid (lsOf rs = allE bs i) ∧ Hid (OwnRs (g + 1) rs wr) ∧ Hid (wr.ownsRow (g + 1) 22 1 (.slice A2 i c2) i (rs.flatMap rsCells)) ∧ Hid (EndsAt wr g (En bs i)) ∧ Hid (Below w1.heap.size w1 wr) ∧ Hid (g + 1 ≤ wr.heap.size)) (fun _ iv _ => n - (intOf iv).toNat)
  case atStart => exact ⟨0, [], none, 0, Nat.zero_le _, rfl, rfl, Lib.hid rfl, Lib.hid (fun r hr => by cases hr), Lib.hid (World.ownsRow_nil _ _ _ _), HE0, HB0, HS0⟩
  case round =>
    obtain ⟨i, rs, A2, c2, hi, rfl, rfl, HLS, HOR, HOL, HE, HBel, HSZ⟩ := hrel
    obtain ⟨w0, rfl⟩ : ∃ x, x = wr := ⟨_, rfl⟩
    by_cases hlt : i < n
    · have hil : i < bs.length := by rw [← HN.out]; exact hlt
      have HBW := Lib.hid (fun W (h : Below w1.heap.size w1 W) => hop HB.out h)
      have HAT := Lib.hid (fun W (h : Below w1.heap.size w1 W) => (HA.out.below (HBW.out W h)) i hil)
      have HBX := Lib.hid (fun W (h : Below w1.heap.size w1 W) => ((HALL.out _ (List.getElem_mem hil)).1.below (HBW.out W h)))
      have HEN := Lib.hid (En_next hil)
      obtain ⟨x, hx⟩ : ∃ x, bs[i] = x := ⟨_, rfl⟩
      rw [hx] at HBX HEN
      simp only [hx] at HAT
      have hx9 : x.l.length ≤ 9223372036854775807 := by have := (HALL.out _ (List.getElem_mem hil)).2; rw [hx] at this; unfold maxLen at this; omega
      obtain ⟨m, hm⟩ : ∃ m, x.l.length = m := ⟨_, rfl⟩
      have HM := Lib.hid hm
      rw [hm] at hx9
      obtain ⟨b, off, rfl, _, _⟩ := HAT.out w0 HBel.out
      have HC := Lib.hid (fun W (h : Below w1.heap.size w1 W) => show W.cell? ⟨b, off + i, none⟩ = some (.slice x.a m x.c) from by
        obtain ⟨b', off', e, _, hc⟩ := HAT.out W h
        injection e with e
        injection e with e1 e2 _
        subst e1 e2
        have := hc 0 _ rfl
        rw [Nat.mul_one, Nat.add_zero, hm] at this
        exact this)
      have ii1 : (0 : Int) ≤ (i : Int) := by omega
      have ii2 : (i : Int) < (n : Int) := by omega
      clear hx hm HAT
      go_wp2
      obtain ⟨S, hS⟩ : ∃ S, w0.heap.size = S := ⟨_, rfl⟩
      have HSS := Lib.hid hS
      have hgS : g < S := by have := HSZ.out; omega
      clear hS
      go_loopw [6, 7] (fun xv pv wr => ∃ (p : Nat) (A3 : Option Addr) (c3 : Nat), p ≤ 3 ∧ pv = .int .i64 (p : Int) ∧ xv = .slice A3 p c3 ∧ Hid (wr.ownsRow S 26 2 (.slice A3 p c3) p ((rowE bs i p).flatMap rgCells)) ∧ Hid (EndsAt wr g (mixE bs i p)) ∧ Hid (PastB g S w0 wr) ∧ Hid (Below w1.heap.size w1 wr)) (fun _ pv _ => 3 - (intOf pv).toNat)
      case atStart => exact ⟨0, none, 0, by omega, rfl, rfl, Lib.hid (World.ownsRow_nil _ _ _ _), Lib.hid (HE.out.is fun q _ => by simp [mixE]), Lib.hid (PastB.refl _ _ _), HBel⟩
      case round =>
        obtain ⟨p, A3, c3, hp, rfl, rfl, HO, HEP, HP, HB3⟩ := hrel
        by_cases hp3 : p < 3
        · have x0 := HC.out wr HB3.out
          have y0 := HEP.out.cell p hp3
          have z0 := HEP.out.frozen p
          have e0 : mixE bs i p p = En bs i p := by simp [mixE]
          rw [e0] at y0
          have HEN2 := Lib.hid (HEN.out p)
          have hle := En_le bs (i + 1) p
          obtain ⟨u, hu⟩ : ∃ u, En bs i p = u := ⟨_, rfl⟩
          obtain ⟨v, hv⟩ : ∃ v, En bs (i + 1) p = v := ⟨_, rfl⟩
          have HRG := Lib.hid (show rgE bs i p = ⟨(u : Int), (v : Int)⟩ by unfold rgE; rw [hu, hv])
          have HV := Lib.hid hv
          rw [hu] at y0 HEN2
          rw [hv] at HEN2 hle
          have hv9 : v ≤ 1000 := by omega
          have ip1 : (0 : Int) ≤ (p : Int) := by omega
          have ip2 : (p : Int) < 3 := by omega
          have HGS := Lib.hid (Nat.le_trans (Nat.le_of_eq HSS.out.symm) HP.out.2.2.2.1)
          clear e0 hu hv hle
          by_cases hpm : p < m
          · have hpl : p < x.l.length := by rw [HM.out]; exact hpm
            obtain ⟨b2, off2, hax, _, hc2⟩ := (HBX.out wr HB3.out) p hpl
            rw [hax] at x0
            rw [nB_at hpl] at HEN2
            obtain ⟨t, ht⟩ : ∃ t, x.l[p].toNat = t := ⟨_, rfl⟩
            rw [ht] at hc2 HEN2
            obtain ⟨q, hq⟩ : ∃ q, t % 5 = q := ⟨_, rfl⟩
            rw [hq] at HEN2
            have hvu := HEN2.out
            have s1 : (t : Int) % 5 = (q : Int) := by omega
            have s2 : IntKind.i64.wrap (q : Int) = (q : Int) := wr64 (by unfold in64; omega)
            have s3 : IntKind.i64.wrap ((u : Int) + (q : Int)) = (v : Int) := by rw [wr64 (by unfold in64; omega)]; omega
            have ip3 : (p : Int) < (m : Int) := by omega
            clear hax ht hq hvu hpl
            go_wp2_with fail
            go_region_law (first
              | (refine step_append_items Try.underlying22 infoRg rfl (by decide) rgCells_length rgCells_one _ rfl _ _ rfl S A3 p c3 (rowE bs i p) rfl [⟨(u : Int), (v : Int)⟩] 1 rfl (HO.out.alloc _) (by simp; exact Nat.le_succ_of_le HGS.out) ⟨wr.heap.size, 0, none⟩ 1 rfl (new_cells wr [.int .i64 (u : Int), .int .i64 (v : Int)] _) (by omega) (by unfold maxLen; omega) ?_
                 intro A4 c4 w4 ho4 hb4
                 have HO4 := Lib.hid ho4
                 have HB4 := Lib.hid (((Below.refl S wr).alloc HGS.out (.cells #[.int .i64 (u : Int), .int .i64 (v : Int)] 26)).drew.trans hb4)
                 have y1 := (HB4.out.cell (p := ⟨g, p, none⟩) hgS).trans y0
                 have z1 := (HB4.out.frozen (p := ⟨g, p, none⟩) hgS).trans z0
                 clear ho4 hb4))
            all_goals
              go_wp2
              have hep := ((HEP.out.block (HB4.out.block g hgS)).set hp3 v).is (e' := mixE bs i (p + 1)) (fun q hq => by
                unfold mixE
                by_cases hqp : q = p
                · subst hqp
                  rw [if_pos rfl, if_pos (by omega), HV.out]
                · rw [if_neg hqp]
                  by_cases hq2 : q < p
                  · rw [if_pos hq2, if_pos (by omega)]
                  · rw [if_neg hq2, if_neg (by omega)])
              refine ⟨⟨p + 1, A4, c4, by omega, by go_num, rfl, Lib.hid ?_, Lib.hid hep, Lib.hid ((HP.out.below HB4.out).set p _), Lib.hid ?_⟩, by simp [intOf]; omega⟩
              · rw [rowE_next, HRG.out]
                exact own_set_g HO4.out hgS _
              · exact (HB3.out.trans (HB4.out.mono (by have := HG.out; omega))).setCell (p := ⟨g, p, none⟩) (by have := HG.out; show w1.heap.size ≤ g; omega) _
          · have hvu := HEN2.out
            rw [nB_no (by rw [HM.out]; omega)] at hvu
            have hvu2 : u = v := by omega
            subst hvu2
            have s3 : IntKind.i64.wrap (u : Int) = (u : Int) := wr64 (by unfold in64; omega)
            clear hvu
            go_wp2_with fail
            go_region_law (first
              | (refine step_append_items Try.underlying22 infoRg rfl (by decide) rgCells_length rgCells_one _ rfl _ _ rfl S A3 p c3 (rowE bs i p) rfl [⟨(u : Int), (u : Int)⟩] 1 rfl (HO.out.alloc _) (by simp; exact Nat.le_succ_of_le HGS.out) ⟨wr.heap.size, 0, none⟩ 1 rfl (new_cells wr [.int .i64 (u : Int), .int .i64 (u : Int)] _) (by omega) (by unfold maxLen; omega) ?_
                 intro A4 c4 w4 ho4 hb4
                 have HO4 := Lib.hid ho4
                 have HB4 := Lib.hid (((Below.refl S wr).alloc HGS.out (.cells #[.int .i64 (u : Int), .int .i64 (u : Int)] 26)).drew.trans hb4)
                 have y1 := (HB4.out.cell (p := ⟨g, p, none⟩) hgS).trans y0
                 have z1 := (HB4.out.frozen (p := ⟨g, p, none⟩) hgS).trans z0
                 clear ho4 hb4))
            all_goals
              go_wp2
              have hep := ((HEP.out.block (HB4.out.block g hgS)).set hp3 u).is (e' := mixE bs i (p + 1)) (fun q hq => by
                unfold mixE
                by_cases hqp : q = p
                · subst hqp
                  rw [if_pos rfl, if_pos (by omega), HV.out]
                · rw [if_neg hqp]
                  by_cases hq2 : q < p
                  · rw [if_pos hq2, if_pos (by omega)]
                  · rw [if_neg hq2, if_neg (by omega)])
              refine ⟨⟨p + 1, A4, c4, by omega, by go_num, rfl, Lib.hid ?_, Lib.hid hep, Lib.hid ((HP.out.below HB4.out).set p _), Lib.hid ?_⟩, by simp [intOf]; omega⟩
              · rw [rowE_next, HRG.out]
                exact own_set_g HO4.out hgS _
              · exact (HB3.out.trans (HB4.out.mono (by have := HG.out; omega))).setCell (p := ⟨g, p, none⟩) (by have := HG.out; show w1.heap.size ≤ g; omega) _
        · have hp33 : p = 3 := by omega
          subst hp33
          have HOL2 := Lib.hid (own_pastB HOL.out HP.out HSS.out.symm (Nat.lt_succ_self g))
          have HOR2 := Lib.hid (show OwnRs (g + 1) rs wr from fun r hr => own_pastB (HOR.out r hr) HP.out HSS.out.symm (Nat.lt_succ_self g))
          have HS3 := Lib.hid (show g + 1 ≤ wr.heap.size by have h1 := HP.out.2.2.2.1; have h2 := HSZ.out; omega)
          go_wp2_with (at_builtin; go_loud (refine append_item Try.underlying35 infoRs rfl (by decide) rsCells_length rsCells_one rfl _ _ rfl (g + 1) A2 i c2 rs rfl _ (⟨A3, c3, rowE bs i 3⟩ : Rs) HOL2.out HS3.out _ rfl (by first | rfl | simp) (by omega) (by unfold maxLen; omega) [_] (by simp [rsCells, rowE_len]) ?_); intro A4 n4 c4 w4 hn4 ho4 hb4 hg4; have HO4 := Lib.hid ho4; have HB4 := Lib.hid hb4; have HG4 := Lib.hid hg4; clear ho4 hb4 hg4; subst hn4)
          have hxo : w4.ownsRow (g + 1) 26 2 (.slice A3 (rowE bs i 3).length c3) (rowE bs i 3).length ((rowE bs i 3).flatMap rgCells) := by
            rw [rowE_len]
            exact (own_apart (by decide) (HO.out.alloc _) (HOL2.out.alloc _) HG4.out).mono hgS
          have hor : OwnRs (g + 1) (rs ++ [(⟨A3, c3, rowE bs i 3⟩ : Rs)]) w4 := by
            intro r hr
            rcases List.mem_append.1 hr with h | h
            · exact own_apart (by decide) ((HOR2.out r h).alloc _) (HOL2.out.alloc _) HG4.out
            · simp at h; subst h; exact hxo
          have hls : lsOf (rs ++ [(⟨A3, c3, rowE bs i 3⟩ : Rs)]) = allE bs (i + 1) := by
            have h := HLS.out
            unfold lsOf at *
            rw [List.map_append, h, allE_next]; rfl
          have hee := (HEP.out.block (HB4.out.block g (Nat.lt_succ_self g))).is (e' := En bs (i + 1)) (fun q hq => by unfold mixE; rw [if_pos hq])
          exact ⟨⟨i + 1, rs ++ [(⟨A3, c3, rowE bs i 3⟩ : Rs)], A4, c4, by omega, by go_num, rfl, Lib.hid hls, Lib.hid hor, HO4, Lib.hid hee, Lib.hid (HB3.out.trans (HB4.out.mono (by have := HG.out; omega))), Lib.hid (Nat.le_trans HS3.out HB4.out.size)⟩, by simp [intOf]; omega⟩
    · have hin : i = n := by omega
      subst hin
      have hlen : i = rs.length := by have h := congrArg List.length HLS.out; rw [lsOf_len, allE_len] at h; exact h.symm
      have hrow := (RowC.own rsCells_length (by decide) HOL.out).2
      have hcap := own_caps HOL.out
      have hallr := HOR.out.all HLS.out
      have HT := tiles_walk rs A2 i c2 w0 hlen (by omega) hcap.1 hcap.2 hrow hallr
      rw [HLS.out, tilesE bs (by omega)] at HT
      have HTT := Lib.hid HT
      have HLEN := Lib.hid hlen
      have HROW := Lib.hid hrow
      have HALR := Lib.hid hallr
      clear HT hlen hrow hcap hallr
      go_wp2_with (go_at_call 16; refine HTT.out.mono ?_; rintro e w7 ⟨rfl, hb7⟩; have HB7 := Lib.hid hb7; clear hb7)
      have HB8 := Lib.hid (hop HB.out (hop HBel.out HB7.out))
      have HEF := Lib.hid (fun W (h : Below w7.heap.size w7 W) => HE.out.block ((hop HB7.out h).block g (by have := HSZ.out; omega)))
      have HRW := Lib.hid (fun W (h : Below w7.heap.size w7 W) => HROW.out.below (hop HB7.out h))
      have HRR := Lib.hid (fun W (h : Below w7.heap.size w7 W) (k : Nat) (hk : k < rs.length) => (HALR.out _ (List.getElem_mem hk)).1.below (hop HB7.out h))
      clear HTT
      go_loopw [9] (fun pv wr => ∃ p : Nat, p ≤ 3 ∧ pv = .int .i64 (p : Int) ∧ Hid (Below w7.heap.size w7 wr)) (fun pv _ => 3 - (intOf pv).toNat)
      case atStart => exact ⟨0, by omega, rfl, Lib.hid (Below.refl _ _)⟩
      case round =>
        obtain ⟨p, hp, rfl, HP⟩ := hrel
        obtain ⟨w9, rfl⟩ : ∃ x, x = wr := ⟨_, rfl⟩
        by_cases hp3 : p < 3
        · have ip1 : (0 : Int) ≤ (p : Int) := by omega
          have ip2 : (p : Int) < 3 := by omega
          have hEle := En_le bs i p
          obtain ⟨T, hT⟩ : ∃ T, En bs i p = T := ⟨_, rfl⟩
          have HT := Lib.hid hT
          rw [hT] at hEle
          have hT9 : T ≤ 1000 := by omega
          clear hT hEle
          go_wp2
          go_loopw [10] (fun av wr => ∃ a : Nat, a ≤ T ∧ av = .int .i64 (a : Int) ∧ Hid (Below w7.heap.size w7 wr)) (fun av _ => T - (intOf av).toNat)
          case atStart => exact ⟨0, Nat.zero_le _, rfl, HP⟩
          case round =>
            obtain ⟨a, ha, rfl, HPa⟩ := hrel
            obtain ⟨w10, rfl⟩ : ∃ x, x = wr := ⟨_, rfl⟩
            have y0 := (HEF.out w10 HPa.out).cell p hp3
            rw [HT.out] at y0
            by_cases haT : a < T
            · go_wp2
              go_loopw [11, 12] (fun nv iv wr => ∃ k : Nat, k ≤ i ∧ nv = .int .i64 (cntE bs a p k : Int) ∧ iv = .int .i64 (k : Int) ∧ Hid (Below w7.heap.size w7 wr)) (fun _ iv _ => i - (intOf iv).toNat)
              case atStart => exact ⟨0, Nat.zero_le _, by rw [cntE_zero]; rfl, rfl, HPa⟩
              case round =>
                obtain ⟨k, hk, rfl, rfl, HPk⟩ := hrel
                by_cases hki : k < i
                · have hkl : k < rs.length := by rw [← HLEN.out]; exact hki
                  obtain ⟨b3, off3, rfl, _, hc3⟩ := (HRW.out wr HPk.out) k hkl
                  have x0 := hc3 0 _ rfl
                  rw [Nat.mul_one, Nat.add_zero] at x0
                  have hrl := rowE_mem HLS.out hkl
                  have hrr := HRR.out wr HPk.out k hkl
                  obtain ⟨r, hr⟩ : ∃ r, rs[k] = r := ⟨_, rfl⟩
                  simp only [hr] at x0 hrl hrr
                  rw [hrl] at x0 hrr
                  rw [rowE_len] at x0
                  obtain ⟨b4, off4, hra, _, hc4⟩ := hrr p (by rw [rowE_len]; exact hp3)
                  rw [hra] at x0
                  have c0 := hc4 0 _ rfl
                  have c1 := hc4 1 _ rfl
                  rw [rowE_get] at c0 c1
                  rw [Nat.add_zero] at c0
                  unfold rgE at c0 c1
                  dsimp only at c0 c1
                  have HIN := Lib.hid (cntE_in (bs := bs) (a := a) (p := p) (k := k))
                  have HOUT := Lib.hid (cntE_out (bs := bs) (a := a) (p := p) (k := k))
                  have hz1 := cntE_le bs a p k
                  obtain ⟨z, hz⟩ : ∃ z, cntE bs a p k = z := ⟨_, rfl⟩
                  obtain ⟨u, hu⟩ : ∃ u, En bs k p = u := ⟨_, rfl⟩
                  obtain ⟨v, hv⟩ : ∃ v, En bs (k + 1) p = v := ⟨_, rfl⟩
                  rw [hz] at HIN HOUT hz1 ⊢
                  rw [hu] at c0 HIN HOUT
                  rw [hv] at c1 HIN HOUT
                  have i1 : (0 : Int) ≤ (k : Int) := by omega
                  have i2 : (k : Int) < (i : Int) := by omega
                  have s1 : IntKind.i64.wrap ((z : Int) + 1) = (z : Int) + 1 := wr64 (by unfold in64; omega)
                  clear hz hu hv hra hr hrl hrr hc3 hc4
                  by_cases h1 : u ≤ a
                  · by_cases h2 : a < v
                    · have HK := Lib.hid (HIN.out h1 h2)
                      go_wp2
                      exact ⟨⟨k + 1, by omega, by rw [HK.out]; go_num, by go_num, HPk⟩, by simp [intOf]; omega⟩
                    · have HK := Lib.hid (HOUT.out (fun h => h2 h.2))
                      go_wp2
                      exact ⟨⟨k + 1, by omega, by rw [HK.out], by go_num, HPk⟩, by simp [intOf]; omega⟩
                  · have HK := Lib.hid (HOUT.out (fun h => h1 h.1))
                    go_wp2
                    exact ⟨⟨k + 1, by omega, by rw [HK.out], by go_num, HPk⟩, by simp [intOf]; omega⟩
                · have hki2 : k = i := by omega
                  subst hki2
                  have HC1 := Lib.hid (cntE_all (bs := bs) (a := a) (p := p) (n := k) (by rw [HT.out]; exact haT))
                  rw [HC1.out]
                  go_wp2
                  exact ⟨⟨a + 1, by omega, by go_num, HPk⟩, by simp [intOf]; omega⟩
            · go_wp2
              exact ⟨⟨p + 1, by omega, by go_num, HPa⟩, by simp [intOf]; omega⟩
        · go_wp2
          go_ret
          exact ⟨rfl, hop HB8.out HP.out⟩
end Go.Proofs.Ytceoneigflejeaa
