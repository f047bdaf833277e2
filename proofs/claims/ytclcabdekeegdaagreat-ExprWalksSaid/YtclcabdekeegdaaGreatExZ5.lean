/- Layer 13, walked: Names of the reference. -/
import Derived.Test.YtclcabdekeegdaaGreatExZ3
import Derived.BigQuiet
import Derived.Sort.Walk0
namespace Go.Proofs.YtclcabdekeegdaaGreat
open Go Go.ChangeShapes Go.WideShapes Go.ChangeAt Go.RowKit
set_option linter.unusedVariables false
set_option linter.unusedSimpArgs false
/-- Names laid in order, those of the first ones. -/
def outN (l : List XA) (i : Nat) : List (List UInt8) := (cn (l.take i)).foldl (fun out n => insN n out) []
theorem outN_no {l : List XA} {i : Nat} (h : i < l.length) (ho : ¬ l[i].e.op = 1) : outN l (i + 1) = outN l i := by
  unfold outN
  rw [List.take_succ_eq_append_getElem h, cn_no ho]
theorem outN_yes {l : List XA} {i : Nat} (h : i < l.length) (ho : l[i].e.op = 1) : outN l (i + 1) = insN l[i].e.nm.data.toList (outN l i) := by
  unfold outN
  rw [List.take_succ_eq_append_getElem h, cn_yes ho, List.foldl_append]
  rfl
theorem outN_all {e : X} {l : List XA} (h : l.map XA.e = allX e) : outN l (cnt e) = namesX e := by
  have hl : l.length = cnt e := by
    have := congrArg List.length h
    rwa [List.length_map, allX_len] at this
  unfold outN namesX
  rw [List.take_of_length_le (by omega), cn_all h]
theorem insN_len (x : List UInt8) : ∀ l : List (List UInt8), (insN x l).length ≤ l.length + 1
  | [] => by simp [insN]
  | y :: ys => by
    unfold insN
    split
    · simp
    · split
      · simp
      · have := insN_len x ys
        simp only [List.length_cons]
        omega
theorem insN_cons (x y : List UInt8) (ys : List (List UInt8)) : insN x (y :: ys) = if y = x then y :: ys else if x < y then x :: y :: ys else y :: insN x ys := rfl
/-- A name laid in, so far: nx of the first k, and whether it is laid already. -/
def NxOk (x : List UInt8) (out nx : List (List UInt8)) (k : Nat) (dn : Bool) : Prop :=
  nx.length ≤ k + 1 ∧ (dn = true → nx ++ out.drop k = insN x out) ∧ (dn = false → nx.length ≤ k ∧ nx ++ insN x (out.drop k) = insN x out)
theorem NxOk.zero (x : List UInt8) (out : List (List UInt8)) : NxOk x out [] 0 false := ⟨by simp, by simp, fun _ => ⟨by simp, by simp⟩⟩
section
variable {x : List UInt8} {out nx : List (List UInt8)} {k : Nat}
theorem NxOk.copy (h : NxOk x out nx k true) (hk : k < out.length) : NxOk x out (nx ++ [out[k]]) (k + 1) true := by
  refine ⟨by have := h.1; simp; omega, fun _ => ?_, by simp⟩
  have := h.2.1 rfl
  rw [List.drop_eq_getElem_cons hk] at this
  simpa using this
theorem NxOk.same (h : NxOk x out nx k false) (hk : k < out.length) (hx : out[k] = x) : NxOk x out (nx ++ [out[k]]) (k + 1) true := by
  refine ⟨by have := h.1; simp; omega, fun _ => ?_, by simp⟩
  have := (h.2.2 rfl).2
  rw [List.drop_eq_getElem_cons hk] at this
  rw [insN_cons, if_pos hx] at this
  simpa using this
theorem NxOk.ahead (h : NxOk x out nx k false) (hk : k < out.length) (hx : ¬ out[k] = x) (hlt : x < out[k]) : NxOk x out (nx ++ [x] ++ [out[k]]) (k + 1) true := by
  refine ⟨by have := (h.2.2 rfl).1; simp; omega, fun _ => ?_, by simp⟩
  have := (h.2.2 rfl).2
  rw [List.drop_eq_getElem_cons hk] at this
  rw [insN_cons, if_neg hx, if_pos hlt] at this
  simpa using this
theorem NxOk.past (h : NxOk x out nx k false) (hk : k < out.length) (hx : ¬ out[k] = x) (hlt : ¬ x < out[k]) : NxOk x out (nx ++ [out[k]]) (k + 1) false := by
  refine ⟨by have := h.1; simp; omega, by simp, fun _ => ⟨by have := (h.2.2 rfl).1; simp; omega, ?_⟩⟩
  have := (h.2.2 rfl).2
  rw [List.drop_eq_getElem_cons hk] at this
  rw [insN_cons, if_neg hx, if_neg hlt] at this
  simpa using this
theorem NxOk.end_yes (h : NxOk x out nx k true) (hk : out.length ≤ k) : nx = insN x out := by
  have := h.2.1 rfl
  rwa [List.drop_eq_nil_of_le hk, List.append_nil] at this
theorem NxOk.end_no (h : NxOk x out nx k false) (hk : out.length ≤ k) : nx ++ [x] = insN x out := by
  have := (h.2.2 rfl).2
  rw [List.drop_eq_nil_of_le hk] at this
  exact this
end
theorem own_drewN {w : World} {base : Nat} {E : TypeId} {sz : Nat} {v : Value} {n : Nat} {xs : List Value} (h : w.ownsRow base E sz v n xs) (k : Nat) : (w.drewN k).ownsRow base E sz v n xs := h
set_option maxHeartbeats 8000000 in
set_option maxRecDepth 40000 in
theorem rnames_any (e : X) (A : Option Addr) (c : Nat) (w : World) (hcn : cnt e ≤ lim6) (hk : KidsAt w w.heap.size e A c) :
    Calls Tryz.prog 22 #[e.val A c] w fun en w' => ∃ A2 c2, en = .returned (.slice A2 (namesX e).length c2) ∧ RowC eC 1 w' w'.heap.size A2 (namesX e) ∧ Below w.heap.size w w' := by
  obtain ⟨W1, hW1⟩ : ∃ W1, w.alloc (e.obj A c) = W1 := ⟨_, rfl⟩
  have hb1 : Below w.heap.size w W1 := by rw [← hW1]; exact (Below.refl _ _).alloc (Nat.le_refl _) _
  have hq1 : W1.heap[w.heap.size]? = some (e.obj A c) := by rw [← hW1]; exact obj_box _ _ _ _
  have HLI := Lib.hid (rlist_any W1 e A c W1 hcn (KidsAt.more hb1.size (hk.below hb1)) (Below.refl _ _))
  have HB1 := Lib.hid hb1
  have HCN := Lib.hid hcn
  obtain ⟨p0, p1, p2, p3, p4, p5⟩ := obj_cells hq1
  have hls := lt_of_heap hq1
  unfold ListPost at HLI
  clear hb1 hq1 hk hcn
  unfold X.obj at hW1
  unfold X.val at HLI ⊢
  go_enter Tryz.func22, Tryz.ntmps22
  go_wp2_with (go_at_call 23; go_loud ((refine HLI.out.mono ?_; rintro en W4 ⟨Al, cl, l, rfl, hm4, ho4, _, hb4⟩; obtain ⟨gl, cap, hv, hg1, hg2⟩ := ho4.form (cnt_pos e); injection hv with e1 _ e3; subst e1 e3; have HM4 := Lib.hid hm4; have HO4 := Lib.hid ho4; have HB4 := Lib.hid (hop0 HB1.out hb4); have HGL := Lib.hid hg2; clear hm4 ho4 hb4 hg1 hg2)))
  clear p0 p1 p2 p3 p4 p5 hls hW1 HLI
  have HLL := Lib.hid (show l.length = cnt e by
    have := congrArg List.length HM4.out
    rwa [List.length_map, allX_len] at this)
  obtain ⟨N, hN⟩ : ∃ N, cnt e = N := ⟨_, rfl⟩
  have HN := Lib.hid hN
  rw [hN] at HCN HLL HO4
  rw [hN]
  clear hN
  go_loopw [3, 5] (fun ov iv wr => ∃ (i : Nat) (A3 : Option Addr) (n3 c3 : Nat), iv = .int .i64 i ∧ i ≤ N ∧ ov = .slice A3 n3 c3 ∧ Hid (wr.ownsRow W4.heap.size 9 1 (.slice A3 n3 c3) n3 ((outN l i).flatMap eC)) ∧ Hid ((outN l i).length ≤ i) ∧ Hid (Below W4.heap.size W4 wr)) (fun _ iv _ => N - (intOf iv).toNat)
  case atStart => exact ⟨0, none, 0, 0, rfl, Nat.zero_le _, rfl, Lib.hid (World.ownsRow_nil _ _ _ _), Lib.hid (by simp [outN, cn]), Lib.hid (Below.refl _ _)⟩
  case round =>
    obtain ⟨i, A3, n3, c3, rfl, hi, rfl, HO, HIL, HB⟩ := hrel
    by_cases hlt : i < N
    · have hil : i < l.length := by have := HLL.out; omega
      obtain ⟨k0, k1, k2_, k3_, k4_, k5_⟩ := own_at6 HO4.out hil
      have c0 := later_cell HB.out k0
      have c1 := later_cell HB.out k1
      have i1 : (0 : Int) ≤ (i : Int) := by omega
      have i2 : (i : Int) < (N : Int) := by omega
      have i3 : i + 1 ≤ 9223372036854775807 := by have := HCN.out; unfold lim6 at this; omega
      have HGW := Lib.hid (Nat.lt_of_lt_of_le HGL.out HB.out.size)
      by_cases hop : l[i].e.op = 1
      · have HST := Lib.hid (outN_yes hil hop)
        have q0 : (l[i].e.op != 1) = false := by simp [hop]
        obtain ⟨xn, hxn⟩ : ∃ q, l[i].e.nm = q := ⟨_, rfl⟩
        rw [hxn] at c1 HST
        obtain ⟨op, hop2⟩ : ∃ q, l[i].e.op = q := ⟨_, rfl⟩
        rw [hop2] at c0 q0
        obtain ⟨out, hout⟩ : ∃ q, outN l i = q := ⟨_, rfl⟩
        rw [hout] at HO HIL HST
        have hn3 := (RowC.own eC_length (by decide) HO.out).1
        have HR3 := Lib.hid (RowC.own eC_length (by decide) HO.out).2
        have HN3 := Lib.hid hn3
        clear k0 k1 k2_ k3_ k4_ k5_ hil hxn hop hop2 hout hn3 hlt
        go_wp2
        obtain ⟨w0, rfl⟩ : ∃ q, q = wr := ⟨_, rfl⟩
        go_loopw [6, 7, 8] (fun nv dv kv wi => ∃ (k n6 c6 : Nat) (A6 : Option Addr) (dn : Bool) (nx : List (List UInt8)), kv = .int .i64 k ∧ k ≤ n3 ∧ nv = .slice A6 n6 c6 ∧ dv = .bool dn ∧ Hid (wi.ownsRow w0.heap.size 9 1 (.slice A6 n6 c6) n6 (nx.flatMap eC)) ∧ Hid (NxOk xn.data.toList out nx k dn) ∧ Hid (Below w0.heap.size w0 wi)) (fun _ _ kv _ => n3 - (intOf kv).toNat)
        case atStart => exact ⟨0, 0, 0, none, false, [], rfl, Nat.zero_le _, rfl, rfl, Lib.hid (World.ownsRow_nil _ _ _ _), Lib.hid (NxOk.zero _ _), Lib.hid (Below.refl _ _)⟩
        case round =>
          obtain ⟨k, n6, c6, A6, dn, nx, rfl, hk, rfl, rfl, HO6, HNX, HB6⟩ := hrel
          have c0' := later_cell HB6.out c0
          have c1' := later_cell HB6.out c1
          by_cases hlt : k < n3
          · have hkl : k < out.length := by have := HN3.out; omega
            obtain ⟨b3, o3, rfl, hb3, hc3⟩ := (HR3.out.below HB6.out) k hkl
            have d0 := hc3 0 _ rfl
            simp only [Nat.mul_one, Nat.add_zero] at d0
            have HB30 := Lib.hid hb3
            have HB3 := Lib.hid (Nat.lt_of_lt_of_le hb3 HB6.out.size)
            have j1 : (0 : Int) ≤ (k : Int) := by omega
            have j2 : (k : Int) < (n3 : Int) := by omega
            have j3 : k + 1 ≤ 9223372036854775807 := by have := HCN.out; have := HIL.out; have := HN3.out; unfold lim6 at *; omega
            have HKL := Lib.hid hkl
            obtain ⟨y, hy⟩ : ∃ q, out[k]'hkl = q := ⟨_, rfl⟩
            replace d0 : wr.cell? ⟨b3, o3 + k, none⟩ = some (.string ⟨y.toArray⟩) := by rw [← hy]; exact d0
            have HY := Lib.hid hy
            clear hc3 hb3 hy
            have HBD := Lib.hid (show n6 ≤ lim6 + 1 by
              have h1 := (RowC.own eC_length (by decide) HO6.out).1
              have h2 := HNX.out.1
              have := HIL.out; have := HN3.out; have := HCN.out
              omega)
            have HSZ6 := Lib.hid HB6.out.size
            cases dn with
            | true =>
              have HNW := Lib.hid (show NxOk xn.data.toList out (nx ++ [y]) (k + 1) true by have := NxOk.copy HNX.out hkl; rwa [HY.out] at this)
              by_cases hx : y = xn.data.toList
              · have q1 : (y == xn.toList) = true := by rw [Lib.toList_data]; simpa using hx
                clear hx
                go_wp2
                go_quiet (fail)
                go_wp2
                go_quiet (fail)
                go_wp2_with (at_builtin; go_loud ((refine append_item Tryz.underlying44 info_s rfl (by decide) eC_length eC_one rfl _ _ rfl w0.heap.size A6 n6 c6 nx rfl _ y (own_drewN HO6.out _) HSZ6.out _ rfl rfl (by have := HBD.out; unfold lim6 at this; omega) (by have := HBD.out; unfold lim6 at this; unfold maxLen; omega) [_] rfl ?_; intro A7 n7 c7 w7 hn7 ho7 hb7 _; have HO7 := Lib.hid ho7; have HB7 := Lib.hid ((below_more HB6.out _).trans hb7); clear ho7 hb7; subst hn7)))
                go_roundw
                case rel => exact ⟨k + 1, n6 + 1, c7, A7, true, nx ++ [y], by go_num, by omega, rfl, rfl, HO7, HNW, HB7⟩
                case measure => simp [intOf]; omega
              · have q1 : (y == xn.toList) = false := by rw [Lib.toList_data]; simpa using hx
                clear hx
                go_wp2
                go_quiet (fail)
                go_wp2
                go_quiet (fail)
                go_wp2_with (at_builtin; go_loud ((refine append_item Tryz.underlying44 info_s rfl (by decide) eC_length eC_one rfl _ _ rfl w0.heap.size A6 n6 c6 nx rfl _ y (own_drewN HO6.out _) HSZ6.out _ rfl rfl (by have := HBD.out; unfold lim6 at this; omega) (by have := HBD.out; unfold lim6 at this; unfold maxLen; omega) [_] rfl ?_; intro A7 n7 c7 w7 hn7 ho7 hb7 _; have HO7 := Lib.hid ho7; have HB7 := Lib.hid ((below_more HB6.out _).trans hb7); clear ho7 hb7; subst hn7)))
                go_roundw
                case rel => exact ⟨k + 1, n6 + 1, c7, A7, true, nx ++ [y], by go_num, by omega, rfl, rfl, HO7, HNW, HB7⟩
                case measure => simp [intOf]; omega
            | false =>
              by_cases hx : y = xn.data.toList
              · have q1 : (y == xn.toList) = true := by rw [Lib.toList_data]; simpa using hx
                have HNW := Lib.hid (show NxOk xn.data.toList out (nx ++ [y]) (k + 1) true by have := NxOk.same HNX.out hkl (by rw [HY.out]; exact hx); rwa [HY.out] at this)
                clear hx
                go_wp2
                go_quiet (fail)
                go_wp2
                go_quiet (fail)
                go_wp2_with (at_builtin; go_loud ((refine append_item Tryz.underlying44 info_s rfl (by decide) eC_length eC_one rfl _ _ rfl w0.heap.size A6 n6 c6 nx rfl _ y (own_drewN HO6.out _) HSZ6.out _ rfl rfl (by have := HBD.out; unfold lim6 at this; omega) (by have := HBD.out; unfold lim6 at this; unfold maxLen; omega) [_] rfl ?_; intro A7 n7 c7 w7 hn7 ho7 hb7 _; have HO7 := Lib.hid ho7; have HB7 := Lib.hid ((below_more HB6.out _).trans hb7); clear ho7 hb7; subst hn7)))
                go_roundw
                case rel => exact ⟨k + 1, n6 + 1, c7, A7, true, nx ++ [y], by go_num, by omega, rfl, rfl, HO7, HNW, HB7⟩
                case measure => simp [intOf]; omega
              · have q1 : (y == xn.toList) = false := by rw [Lib.toList_data]; simpa using hx
                by_cases hg : xn.data.toList < y
                · have HNW := Lib.hid (show NxOk xn.data.toList out (nx ++ [xn.data.toList] ++ [y]) (k + 1) true by have := NxOk.ahead HNX.out hkl (by rw [HY.out]; exact hx) (by rw [HY.out]; exact hg); rwa [HY.out] at this)
                  have q2 : Op.bytesLess y xn.toList = false := by rw [bytesLess_eq, Lib.toList_data]; exact decide_eq_false (List.lt_asymm hg)
                  clear hx hg
                  go_wp2
                  go_quiet (fail)
                  go_wp2
                  go_quiet (fail)
                  go_wp2_with (first
                    | (have HSEC := HO7; at_builtin; go_loud ((refine append_item Tryz.underlying44 info_s rfl (by decide) eC_length eC_one rfl _ _ rfl w0.heap.size A7 (n6 + 1) c7 (nx ++ [xn.data.toList]) rfl _ y HO7.out HSZ7.out _ rfl rfl (by have := HBD.out; unfold lim6 at this; omega) (by have := HBD.out; unfold lim6 at this; unfold maxLen; omega) [_] rfl ?_; intro A8 n8 c8 w8 hn8 ho8 hb8 _; have HO8 := Lib.hid ho8; have HB8 := Lib.hid (HB7.out.trans hb8); clear ho8 hb8; subst hn8)))
                    | (at_builtin; go_loud ((refine append_item Tryz.underlying44 info_s rfl (by decide) eC_length eC_one rfl _ _ rfl w0.heap.size A6 n6 c6 nx rfl _ xn.data.toList (own_drewN HO6.out _) HSZ6.out _ rfl rfl (by have := HBD.out; unfold lim6 at this; omega) (by have := HBD.out; unfold lim6 at this; unfold maxLen; omega) [_] (by unfold eC; rw [enc_nm]) ?_; intro A7 n7 c7 w7 hn7 ho7 hb7 _; have HO7 := Lib.hid ho7; have HB7 := Lib.hid ((below_more HB6.out _).trans hb7); have HSZ7 := Lib.hid HB7.out.size; have d0 := (hb7.cell (p := ⟨b3, o3 + k, none⟩) HB30.out).trans d0; have hbl := Nat.lt_of_lt_of_le HB30.out HSZ7.out; clear ho7 hb7; subst hn7))))
                  go_roundw
                  case rel => exact ⟨k + 1, n6 + 1 + 1, c8, A8, true, nx ++ [xn.data.toList] ++ [y], by go_num, by omega, rfl, rfl, HO8, HNW, HB8⟩
                  case measure => simp [intOf]; omega
                · have HNW := Lib.hid (show NxOk xn.data.toList out (nx ++ [y]) (k + 1) false by have := NxOk.past HNX.out hkl (by rw [HY.out]; exact hx) (by rw [HY.out]; exact hg); rwa [HY.out] at this)
                  have q2 : Op.bytesLess y xn.toList = true := by rw [bytesLess_eq, Lib.toList_data]; exact decide_eq_true (lt_of_not hg hx)
                  clear hx hg
                  go_wp2
                  go_quiet (fail)
                  go_wp2
                  go_quiet (fail)
                  go_wp2_with (at_builtin; go_loud ((refine append_item Tryz.underlying44 info_s rfl (by decide) eC_length eC_one rfl _ _ rfl w0.heap.size A6 n6 c6 nx rfl _ y (own_drewN HO6.out _) HSZ6.out _ rfl rfl (by have := HBD.out; unfold lim6 at this; omega) (by have := HBD.out; unfold lim6 at this; unfold maxLen; omega) [_] rfl ?_; intro A7 n7 c7 w7 hn7 ho7 hb7 _; have HO7 := Lib.hid ho7; have HB7 := Lib.hid ((below_more HB6.out _).trans hb7); clear ho7 hb7; subst hn7)))
                  go_roundw
                  case rel => exact ⟨k + 1, n6 + 1, c7, A7, false, nx ++ [y], by go_num, by omega, rfl, rfl, HO7, HNW, HB7⟩
                  case measure => simp [intOf]; omega
          · have hke : out.length ≤ k := by have := HN3.out; omega
            have HI1 := Lib.hid (show (outN l (i + 1)).length ≤ i + 1 by rw [HST.out]; have := insN_len xn.data.toList out; have := HIL.out; omega)
            cases dn with
            | true =>
              have HE := Lib.hid (NxOk.end_yes HNX.out hke)
              clear hke
              go_wp2
              go_roundw
              case rel => exact ⟨i + 1, A6, n6, c6, by go_num, by omega, rfl, Lib.hid (by rw [HST.out, ← HE.out]; exact HO6.out.mono HB.out.size), HI1, Lib.hid (hop0 HB.out HB6.out)⟩
              case measure => simp [intOf]; omega
            | false =>
              have HE := Lib.hid (NxOk.end_no HNX.out hke)
              have HBD := Lib.hid (show n6 ≤ lim6 + 1 by
                have h1 := (RowC.own eC_length (by decide) HO6.out).1
                have h2 := HNX.out.1
                have := HIL.out; have := HN3.out; have := HCN.out
                omega)
              have HSZ6 := Lib.hid HB6.out.size
              clear hke
              go_wp2_with (at_builtin; go_loud ((refine append_item Tryz.underlying44 info_s rfl (by decide) eC_length eC_one rfl _ _ rfl w0.heap.size A6 n6 c6 nx rfl _ xn.data.toList HO6.out HSZ6.out _ rfl rfl (by have := HBD.out; unfold lim6 at this; omega) (by have := HBD.out; unfold lim6 at this; unfold maxLen; omega) [_] (by unfold eC; rw [enc_nm]) ?_; intro A7 n7 c7 w7 hn7 ho7 hb7 _; have HO7 := Lib.hid ho7; have HB7 := Lib.hid (HB6.out.trans hb7); clear ho7 hb7; subst hn7)))
              go_roundw
              case rel => exact ⟨i + 1, A7, n6 + 1, c7, by go_num, by omega, rfl, Lib.hid (by rw [HST.out, ← HE.out]; exact HO7.out.mono HB.out.size), HI1, Lib.hid (hop0 HB.out HB7.out)⟩
              case measure => simp [intOf]; omega
      · have HST := Lib.hid (outN_no hil hop)
        have q0 : (l[i].e.op != 1) = true := by simpa using hop
        obtain ⟨op, hop2⟩ : ∃ q, l[i].e.op = q := ⟨_, rfl⟩
        rw [hop2] at c0 q0
        clear k0 k1 k2_ k3_ k4_ k5_ c1 hil hop hop2
        go_wp2
        go_roundw
        case rel => exact ⟨i + 1, A3, n3, c3, by go_num, by omega, rfl, Lib.hid (by rw [HST.out]; exact HO.out), Lib.hid (by rw [HST.out]; have := HIL.out; omega), HB⟩
        case measure => simp [intOf]; omega
    · have HI := Lib.hid (show i = N by omega)
      have HOA := Lib.hid (outN_all HM4.out)
      have HRN := Lib.hid (RowC.own eC_length (by decide) HO.out)
      go_wp2
      go_ret
      have h1 := HRN.out
      have h2 := HOA.out
      rw [HN.out, ← HI.out] at h2
      rw [h2] at h1
      refine ⟨A3, c3, by rw [h1.1]; rfl, h1.2, hop0 HB4.out HB.out⟩
end Go.Proofs.YtclcabdekeegdaaGreat
