/- Layer 13, walked: List and Same of the reference. -/
import Derived.Test.YtclcabdekeegdaaGreatExZ2
namespace Go.Proofs.YtclcabdekeegdaaGreat
open Go Go.ChangeShapes Go.WideShapes Go.ChangeAt Go.RowKit
set_option linter.unusedVariables false
set_option linter.unusedSimpArgs false
/-- What List answers: rows of an own, the Kids where they were. -/
def ListPost (e : X) (v0 w : World) (en : Ending) (w' : World) : Prop := ∃ (A2 : Option Addr) (c2 : Nat) (l : List XA), en = .returned (.slice A2 (cnt e) c2) ∧ l.map XA.e = allX e ∧ w'.ownsRow w.heap.size 26 6 (.slice A2 (cnt e) c2) (cnt e) (l.flatMap xaCells) ∧ (∀ x ∈ l, KidsAt v0 v0.heap.size x.e x.A x.c) ∧ Below w.heap.size w w'
theorem cntL_allL (l : List X) : (allL l).length = cntL l := allL_len l
set_option maxHeartbeats 8000000 in
set_option maxRecDepth 40000 in
theorem rlist_any (v0 : World) : ∀ (e : X) (A : Option Addr) (c : Nat) (w : World), cnt e ≤ lim6 → KidsAt v0 v0.heap.size e A c → Below v0.heap.size v0 w → Calls Tryz.prog 23 #[e.val A c] w (ListPost e v0 w) := by
  refine X.ind ?_
  intro o nm v ks ih A c w hcn hk hv0
  have HV := Lib.hid hv0
  have hkc := cnt_kid (o := o) (n := nm) (v := v) (ks := ks)
  obtain ⟨W1, hW1⟩ : ∃ W1, w.alloc ((X.mk o nm v ks).obj A c) = W1 := ⟨_, rfl⟩
  have hb1 : Below w.heap.size w W1 := by rw [← hW1]; exact (Below.refl _ _).alloc (Nat.le_refl _) _
  have hq1 : W1.heap[w.heap.size]? = some ((X.mk o nm v ks).obj A c) := by rw [← hW1]; exact obj_box _ _ _ _
  have hsz : W1.heap.size = w.heap.size + 1 := by rw [← hW1]; simp
  have HIH := Lib.hid (fun k (hk : k ∈ ks) A2 c2 W h h2 => ih k hk A2 c2 W (by have := hkc.1 k hk; omega) h h2)
  have HKA := Lib.hid hk
  have HQ := Lib.hid hq1
  have HB1 := Lib.hid hb1
  have HSZ := Lib.hid hsz
  have HCN := Lib.hid hcn
  have HLM := Lib.hid (show ks.length ≤ lim6 by have := hkc.2; omega)
  have hown : (W1.alloc (.cells (xaCells ⟨.mk o nm v ks, A, c⟩).toArray 26)).ownsRow (w.heap.size + 1) 26 6 (.slice (some ⟨W1.heap.size, 0, none⟩) 1 1) 1 ([(⟨.mk o nm v ks, A, c⟩ : XA)].flatMap xaCells) := by
    have := World.ownsRow_lit (e := 26) (base := w.heap.size + 1) (size := 6) W1 (xaCells ⟨.mk o nm v ks, A, c⟩).toArray 1 (by omega) (by decide) rfl
    simpa using this
  have HOW := Lib.hid hown
  obtain ⟨i0, hi, hz0, hz1, hz2⟩ := info_parts infoX
  have HI := Lib.hid hi
  have HI0 := Lib.hid hz0
  have HI1 := Lib.hid hz1
  have HI2 := Lib.hid hz2
  obtain ⟨p0, p1, p2, p3, p4, p5⟩ := obj_cells hq1
  simp only [X.op, X.nm, X.v, X.ks] at p0 p1 p2 p3 p4 p5
  have hls := lt_of_heap hq1
  unfold ListPost at HIH
  clear hcn hk hv0 hkc hb1 hq1 hsz ih hown hi hz0 hz1 hz2
  unfold X.obj at hW1
  simp only [X.op, X.nm, X.v, X.ks] at hW1
  unfold X.val at HIH ⊢
  simp only [X.op, X.nm, X.v, X.ks]
  go_enter Tryz.func23, Tryz.ntmps23
  go_wp2
  obtain ⟨W2, hW2⟩ : ∃ q, W1.alloc (.cells #[.int .i64 o, .string nm, .int .i64 v.k, .int .i64 v.n, .string v.s, .slice A ks.length c] 26) = q := ⟨_, rfl⟩
  have HO2 := Lib.hid (show W2.ownsRow (w.heap.size + 1) 26 6 (.slice (some ⟨W1.heap.size, 0, none⟩) 1 1) 1 ([(⟨.mk o nm v ks, A, c⟩ : XA)].flatMap xaCells) by rw [← hW2]; exact HOW.out)
  have HB2 := Lib.hid (show Below W1.heap.size W1 W2 by rw [← hW2]; exact (Below.refl _ _).alloc (Nat.le_refl _) _)
  rw [hW2]
  clear hW2 HOW p0 p1 p2 p3 p4 p5 hls
  obtain ⟨s1, hs1⟩ : ∃ q, W1.heap.size = q := ⟨_, rfl⟩
  rw [hs1] at HO2
  rw [hs1]
  clear hs1
  go_loopw [3, 4] (fun lv iv wr => ∃ (k N : Nat) (A5 : Option Addr) (c5 : Nat) (l : List XA), iv = .int .i64 k ∧ lv = .slice A5 N c5 ∧ k ≤ ks.length ∧ Hid (l.map XA.e = .mk o nm v ks :: allL (ks.take k)) ∧ Hid (wr.ownsRow (w.heap.size + 1) 26 6 (.slice A5 N c5) N (l.flatMap xaCells)) ∧ Hid (∀ x ∈ l, KidsAt v0 v0.heap.size x.e x.A x.c) ∧ Hid (Below (w.heap.size + 1) W1 wr)) (fun _ iv _ => ks.length - (intOf iv).toNat)
  case atStart => exact ⟨0, 1, _, 1, [⟨.mk o nm v ks, A, c⟩], rfl, rfl, Nat.zero_le _, Lib.hid (by simp [allL]), HO2, Lib.hid (fun x hx => by simp at hx; subst hx; exact HKA.out), Lib.hid (HB2.out.mono (by have := HSZ.out; omega))⟩
  case round =>
    obtain ⟨k, N, A5, c5, l, rfl, rfl, hk, HM, HO, HK, HB⟩ := hrel
    have HBW := Lib.hid (HB1.out.trans (HB.out.mono (by omega)))
    have hq := (HB.out.block _ (by omega)).trans HQ.out
    obtain ⟨p0, p1, p2, p3, p4, p5⟩ := obj_cells hq
    simp only [X.op, X.nm, X.v, X.ks] at p0 p1 p2 p3 p4 p5
    have hls := lt_of_heap hq
    clear hq
    by_cases hlt : k < ks.length
    · have HVW := Lib.hid (HV.out.trans (HBW.out.mono HV.out.size))
      obtain ⟨b, off, A2, c2, rfl, hbB, hk2, k0, k1, k2, k3, k4, k5⟩ := KidsAt.at6m HKA.out k hlt
      have c0 := later_cell HVW.out k0
      have c1 := later_cell HVW.out k1
      have c2' := later_cell HVW.out k2
      have c3 := later_cell HVW.out k3
      have c4 := later_cell HVW.out k4
      have c5' := later_cell HVW.out k5
      clear k0 k1 k2 k3 k4 k5
      have HIHk := Lib.hid (HIH.out ks[k] (List.getElem_mem hlt) A2 c2)
      have HTK := Lib.hid (allL_take ks k hlt)
      have HAT := Lib.hid (allL_at ks k hlt)
      obtain ⟨x, hx⟩ : ∃ x, ks[k] = x := ⟨_, rfl⟩
      rw [hx] at hk2 c0 c1 c2' c3 c4 c5' HIHk HTK HAT
      have HKX := Lib.hid hk2
      have hbw : b < wr.heap.size := Nat.lt_of_lt_of_le hbB HVW.out.size
      have i1 : (0 : Int) ≤ (k : Int) := by omega
      have i2 : (k : Int) < (ks.length : Int) := by omega
      have i3 : k + 1 ≤ 9223372036854775807 := by have := HLM.out; unfold lim6 at this; omega
      have HN := Lib.hid (show N + cnt x ≤ lim6 by
        have h1 := (RowC.own xa_len (by decide) HO.out).1
        have h2 := congrArg List.length HM.out
        rw [List.length_map, List.length_cons, allL_len] at h2
        have h3 := congrArg List.length HAT.out
        rw [List.length_append, List.length_append, allL_len, allL_len, allX_len] at h3
        have h4 := HCN.out
        have h5 : cnt (.mk o nm v ks) = 1 + cntL ks := by simp [cnt]; omega
        omega)
      clear hk2 hbB hx
      go_wp2_with (first
        | (go_at_call 23; go_loud ((refine (HIHk.out _ HKX.out HVW.out).mono ?_; rintro en w4 ⟨A3, c3_, l3, rfl, hm3, ho3, hk3, hb3⟩; obtain ⟨g, cap, hv, hg1, hg2⟩ := ho3.form (cnt_pos x); injection hv with e1 _ e3; subst e1 e3; have HM3 := Lib.hid hm3; have HO3 := Lib.hid ho3; have HK3 := Lib.hid hk3; have HB3 := Lib.hid hb3; have HO4 := Lib.hid (own_below HO.out hb3); clear hm3 ho3 hk3 hb3 hg1 hg2)))
        | (at_builtin; go_loud ((refine wpList_append_own_at _ rfl _ _ 24 rfl (w.heap.size + 1) 26 i0 _ 6 80 Tryz.underlying24 HI.out HI0.out HI1.out HI2.out rfl (by decide) _ N (l.flatMap xaCells) rfl HO4.out ⟨g, 0, none⟩ (cnt x) c3_ (l3.flatMap xaCells) rfl HO3.out.1 (fun j u hu => HO3.out.cells (g := g) rfl j u hu) (flat_one xa_one l3) (by have := HN.out; unfold lim6 at this; unfold maxLen; omega) (by have := HN.out; unfold lim6 at this; omega) (by have := HB.out.size; have := HB3.out.size; have := HSZ.out; omega) ?_; intro v1 w5 hown hg _ _; obtain ⟨A6, c6, rfl⟩ := own_slice hown; have HO5 := Lib.hid hown; have HG5 := Lib.hid hg; clear hown hg))))
      go_roundw
      case rel =>
        have hb5 : Below (w.heap.size + 1) wr w5 := (HB3.out.mono (by have := HB.out.size; have := HSZ.out; omega)).grown HG5.out (by have := HB.out.size; have := HB3.out.size; have := HSZ.out; omega) (fun j e => (HO4.out.lt j e).1)
        exact ⟨k + 1, N + cnt x, A6, c6, l ++ l3, by go_num, rfl, by omega, Lib.hid (by rw [List.map_append, HM.out, HM3.out, HTK.out]; rfl), Lib.hid (by rw [List.flatMap_append]; exact HO5.out),
          Lib.hid (fun y hy => by
            rcases List.mem_append.1 hy with h | h
            · exact HK.out y h
            · exact HK3.out y h), Lib.hid (HB.out.trans hb5)⟩
      case measure => simp [intOf]; omega
    · have HE := Lib.hid (show l.map XA.e = allX (.mk o nm v ks) by
        rw [HM.out, List.take_of_length_le (by omega)]; rfl)
      have HN := Lib.hid (show N = cnt (.mk o nm v ks) by
        have h1 := (RowC.own xa_len (by decide) HO.out).1
        have h2 := congrArg List.length HE.out
        rw [List.length_map, allX_len] at h2
        omega)
      go_wp2
      go_ret
      have hn := HN.out
      subst hn
      exact ⟨A5, c5, l, rfl, HE.out, HO.out.mono (Nat.le_succ _), HK.out, HBW.out⟩
end Go.Proofs.YtclcabdekeegdaaGreat
