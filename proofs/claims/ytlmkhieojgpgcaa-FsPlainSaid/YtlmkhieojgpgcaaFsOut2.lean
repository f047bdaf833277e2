/- The statement FsPlain: its own function out. -/
import Derived.Test.YtlmkhieojgpgcaaFsOut
import Derived.Deep.RegionLaw
import Derived.Deep.CutRange
namespace Go.Proofs.Ytlmkhieojgpgcaa
open Go.ChangeShapes Go.WideShapes Go.ChangeAt Go.RowKit Go.ChangeMaps Go.MapKept
set_option linter.unusedVariables false

theorem drop_cells {w : World} {g : Nat} {ns : List Nm} (h : ∀ j (h : j < ns.length), w.cell? ⟨g, j, none⟩ = some (.string (txt ns[j]))) (i : Nat) : ∀ j (h : j < (ns.drop i).length), w.cell? ((⟨g, i, none⟩ : Addr).add j) = some (encStr (ns.drop i)[j]) := fun j hj => by
  rw [List.length_drop] at hj
  rw [add_at, List.getElem_drop]
  exact h (i + j) (by omega)
theorem take_cells {w : World} {g : Nat} {ns : List Nm} (h : ∀ j (h : j < ns.length), w.cell? ⟨g, j, none⟩ = some (.string (txt ns[j]))) (i : Nat) : ∀ j (h : j < (ns.take i).length), w.cell? ((⟨g, 0, none⟩ : Addr).add j) = some (encStr (ns.take i)[j]) := fun j hj => by
  rw [List.length_take] at hj
  rw [add_at, List.getElem_take, Nat.zero_add]
  exact h j (by omega)
/-- One of the two lists has lost an item. -/
structure OutOne (B cn len i : Nat) (ns : List Nm) (w wx : World) : Prop where
  here : ∃ A c, Cells wx cn #[.slice A (len - 1) c] 35 ∧ wx.ownsRow B 9 1 (.slice A (len - 1) c) (len - 1) ((ns.eraseIdx i).map encStr)
  ch : Ch (· = cn) w wx
theorem out_one {w w2 : World} {cn len i c2 : Nat} {nv : Value} {A2 : Option Addr} {ns : List Nm} (hcn : Cells w cn #[nv] 35) (hb : Below w.heap.size w w2) (b9 : i + (len - (i + 1)) = len - 1)
    (h : w2.ownsRow w.heap.size 9 1 (.slice A2 (i + (len - (i + 1))) c2) (i + (len - (i + 1))) ((ns.take i ++ ns.drop (i + 1)).map encStr)) : OutOne w.heap.size cn len i ns w (w2.setCell ⟨cn, 0, none⟩ (.slice A2 (len - 1) c2)) := by
  rw [b9, ← List.eraseIdx_eq_take_drop_succ] at h
  have k : Ch (· = cn) w2 (w2.setCell ⟨cn, 0, none⟩ (.slice A2 (len - 1) c2)) := (Ch.refl (· = cn) w2).set (p := ⟨cn, 0, none⟩) (.inl rfl) _
  refine ⟨⟨A2, c2, (hcn.below hb hcn.lt).set 0 _, own_ch h k fun b hb2 e => ?_⟩, ((Ch.of_below hb).mono fun _ _ e => e.elim).then_ k fun i _ e => e⟩
  have := (World.ownsRow.lt h b hb2).1
  have := hcn.lt
  omega
theorem out_prep {B : Nat} {w : World} {cn len i : Nat} {nv : Value} {ns : List Nm} (hi : i < len) (hn : len = ns.length) (hrn : w.ownsRow B 9 1 nv len (ns.map encStr)) (hcn : Cells w cn #[nv] 35) :
    ∃ g c, nv = .slice (some ⟨g, 0, none⟩) len c ∧ len ≤ c ∧ g < w.heap.size ∧ (∀ (w1 : World) (hb : Below w.heap.size w w1), w1.cell? ⟨cn, 0, none⟩ = some (.slice (some ⟨g, 0, none⟩) len c) ∧ w1.frozen? ⟨cn, 0, none⟩ = false) ∧
      (∀ (w1 : World) (hb : Below w.heap.size w w1) j (h : j < (ns.take i).length), w1.cell? ((⟨g, 0, none⟩ : Addr).add j) = some (encStr (ns.take i)[j])) ∧
      (∀ (w1 : World) (hb : Below w.heap.size w w1) j (h : j < (ns.drop (i + 1)).length), w1.cell? ((⟨g, i + 1, none⟩ : Addr).add j) = some (encStr (ns.drop (i + 1))[j])) := by
  obtain ⟨A, c, rfl⟩ := own_slice hrn
  obtain ⟨hnc, hcell⟩ := own_strs hrn hn
  obtain ⟨g, rfl, hg0⟩ := hcell i (by omega)
  have hcell2 : ∀ j (h : j < ns.length), w.cell? ⟨g, j, none⟩ = some (.string (txt ns[j])) := fun j hj => by
    obtain ⟨g', e, h⟩ := hcell j hj
    injection e with e; injection e with e; subst e; exact h
  have hgl : g < w.heap.size := World.block_lt_of_cell? w _ hg0
  refine ⟨g, c, rfl, hnc, hgl, fun w1 hb => ⟨(hcn.below hb hcn.lt).cell 0, (hcn.below hb hcn.lt).frozen 0⟩, fun w1 hb => take_cells (fun j hj => (hb.cell (p := ⟨g, j, none⟩) hgl).trans (hcell2 j hj)) i, fun w1 hb => drop_cells (fun j hj => (hb.cell (p := ⟨g, j, none⟩) hgl).trans (hcell2 j hj)) (i + 1)⟩
structure OutPost (cn cd len i : Nat) (ns ds : List Nm) (w w' : World) : Prop where
  here : ∃ nv dv, Cells w' cn #[nv] 35 ∧ Cells w' cd #[dv] 35 ∧ w'.ownsRow w.heap.size 9 1 nv (len - 1) ((ns.eraseIdx i).map encStr) ∧ w'.ownsRow w.heap.size 9 1 dv (len - 1) ((ds.eraseIdx i).map encStr) ∧
    ∀ k, nv.ownBlock = some k → dv.ownBlock ≠ some k
  ch : Ch (fun k => k = cn ∨ k = cd) w w'
theorem out_both {cn cd len i : Nat} {ns ds : List Nm} {w w1 w2 : World} (h1 : OutOne w.heap.size cn len i ns w w1) (h2 : OutOne w1.heap.size cd len i ds w1 w2) (hne : cn ≠ cd) {dv0 : Value} (hcd : Cells w1 cd #[dv0] 35) : OutPost cn cd len i ns ds w w2 := by
  obtain ⟨⟨A1, c1, a1, a2⟩, a3⟩ := h1
  obtain ⟨⟨A2, c2, b1, b2⟩, b3⟩ := h2
  refine ⟨⟨_, _, a1.ch b3 hne, b1, own_ch a2 b3 fun b hb e => ?_, b2.mono a3.size, fun k h1 h2 => ?_⟩, (a3.mono fun k _ e => .inl e).then_ b3 fun k _ e => .inr e⟩
  · obtain ⟨c, hc, _⟩ := own_cells a2 hb
    exact hc.ne hcd (by decide) e
  · have := (World.ownsRow.lt a2 k h1).2
    have := (World.ownsRow.lt b2 k h2).1
    omega
set_option maxHeartbeats 4000000 in
theorem out_any {B : Nat} (ns ds : List Nm) (cn cd len i : Nat) (nv dv : Value) (w : World) (hn : len = ns.length) (hd : len = ds.length) (hi : i < len) (hl : len ≤ 1000000) (hcn : Cells w cn #[nv] 35) (hcd : Cells w cd #[dv] 35) (hne : cn ≠ cd)
    (hrn : w.ownsRow B 9 1 nv len (ns.map encStr)) (hrd : w.ownsRow B 9 1 dv len (ds.map encStr)) :
    Calls Try.prog 26 #[.int .i64 (i : Int), adr cn, adr cd] w fun e w' => e = .returned (.tuple #[]) ∧ OutPost cn cd len i ns ds w w' := by
  obtain ⟨g, c, rfl, hle, hgl, hcc, htk, hdr⟩ := out_prep hi hn hrn hcn
  have HCN := Lib.hid hcn
  have HB := Lib.hid (Below.refl w.heap.size w)
  have HC := Lib.hid hcc
  have HTK := Lib.hid htk
  have HDR := Lib.hid hdr
  have HTL := Lib.hid (show i = (ns.take i).length by rw [List.length_take]; omega)
  have HDL := Lib.hid (show len - (i + 1) = (ns.drop (i + 1)).length by rw [List.length_drop]; omega)
  obtain ⟨d1, d2⟩ := HC.out w (Below.refl _ _)
  have x1 : ∀ o, (w.alloc o).cell? ⟨cn, 0, none⟩ = some (.slice (some ⟨g, 0, none⟩) len c) := fun o => (HC.out _ (Below.al HB.out (Nat.le_refl _) o)).1
  have b2 : (i : Int) ≤ (c : Int) := by omega
  have b4 : (len : Int) ≤ (c : Int) := by omega
  have b6 : (i : Int) + 1 ≤ (c : Int) := by omega
  have hnd : dv.ownBlock ≠ some cn := fun e => by
    obtain ⟨c, hc, _⟩ := own_cells hrd e
    exact hc.ne hcn (by decide) rfl
  have HRD := Lib.hid (fun (w1 : World) (k : Ch (· = cn) w w1) => (⟨own_ch hrd k (fun b hb e => hnd (by rw [hb, e])), hcd.ch k hne.symm⟩ : w1.ownsRow B 9 1 dv len (ds.map encStr) ∧ Cells w1 cd #[dv] 35))
  have HHD := Lib.hid hd
  have HNE := Lib.hid hne
  have b1 : (0 : Int) ≤ (i : Int) := by omega
  have b3 : (i : Int) + 1 ≤ (len : Int) := by omega
  have b5 : ((i : Int) + 1).toNat = i + 1 := by omega
  have b7 : (0 : Int) ≤ (i : Int) + 1 := by omega
  have b8 : IntKind.i64.wrap ((i : Int) + 1) = (i : Int) + 1 := by rw [IntKind.wrap_i64]; omega
  have b9 : i + (len - (i + 1)) = len - 1 := by omega
  clear hcc htk hdr hrn hrd hcn hcd hn hd hne hnd
  unfold adr
  by_cases hcap : c = i + 1
  · have HDV := Lib.hid (fun (w1 : World) (_ : Below w.heap.size w w1) j (h : j < (ns.drop (i + 1)).length) => (by have := HDL.out; omega : w1.cell? ((⟨g, 0, none⟩ : Addr).add j) = some (encStr (ns.drop (i + 1))[j])))
    have hcapt : (c = i + 1) = True := eq_true hcap
    clear hcap
    go_enter Try.func26, Try.ntmps26
    go_wp2
    go_cut [] from 4 to 13 (fun wx => Hid (OutOne w.heap.size cn len i ns w wx))
    case first =>
      go_region_law (first
        | (refine step_append_strs0 w rfl _ _ rfl rfl (ns.take i) ⟨g, 0, none⟩ i _ rfl HTL.out (HTK.out _ (Below.al HB.out (Nat.le_refl _) _)) (by omega) ?_
           intro A1 c1 w1 hown1 hb1
           obtain ⟨y1, y2⟩ := HC.out w1 hb1)
        | (refine step_append_strs _ rfl _ _ rfl w.heap.size _ _ (ns.take i) (ns.drop (i + 1)) rfl HTL.out hown1 ⟨g, 0, none⟩ _ _ rfl HDL.out (HDV.out _ hb1) (by omega) (Below.size hb1) ?_
           intro A2 c2 w2 hown2 hg2 hat2
           have hb2 : Below w.heap.size w w2 := Below.grown hb1 hg2 (Below.size hb1) (fun k hk => (World.ownsRow.lt hown1 k hk).1)
           have HW2 := Lib.hid hown2
           have HB2 := Lib.hid hb2
           obtain ⟨z1, z2⟩ := HC.out w2 hb2))
      all_goals
        go_wp2
        go_meet
        case rel => exact Lib.hid (out_one HCN.out HB2.out b9 HW2.out)
    case rest =>
      obtain ⟨hrd, hcd⟩ := HRD.out wc hcut.out.ch
      have HCUT := Lib.hid hcut.out
      have hd := HHD.out
      clear hcut d1 d2 x1
      obtain ⟨gD, cD, rfl, hleD, hglD, hccD, htkD, hdrD⟩ := out_prep hi hd hrd hcd
      have HCND := Lib.hid hcd
      have HBD := Lib.hid (Below.refl wc.heap.size wc)
      have HCD := Lib.hid hccD
      have HTKD := Lib.hid htkD
      have HDRD := Lib.hid hdrD
      have HTLD := Lib.hid (show i = (ds.take i).length by rw [List.length_take]; omega)
      have HDLD := Lib.hid (show len - (i + 1) = (ds.drop (i + 1)).length by rw [List.length_drop]; omega)
      obtain ⟨d1D, d2D⟩ := HCD.out wc (Below.refl _ _)
      have x1D : ∀ o, (wc.alloc o).cell? ⟨cd, 0, none⟩ = some (.slice (some ⟨gD, 0, none⟩) len cD) := fun o => (HCD.out _ (Below.al HBD.out (Nat.le_refl _) o)).1
      have b2D : (i : Int) ≤ (cD : Int) := by omega
      have b4D : (len : Int) ≤ (cD : Int) := by omega
      have b6D : (i : Int) + 1 ≤ (cD : Int) := by omega
      clear hccD htkD hdrD hrd hcd hd
      by_cases hcapD : cD = i + 1
      · have HDVD := Lib.hid (fun (w1 : World) (_ : Below wc.heap.size wc w1) j (h : j < (ds.drop (i + 1)).length) => (by have := HDLD.out; omega : w1.cell? ((⟨gD, 0, none⟩ : Addr).add j) = some (encStr (ds.drop (i + 1))[j])))
        have hcapDt : (cD = i + 1) = True := eq_true hcapD
        clear hcapD
        go_wp2
        go_region_law (first
          | (refine step_append_strs0 wc rfl _ _ rfl rfl (ds.take i) ⟨gD, 0, none⟩ i _ rfl HTLD.out (HTKD.out _ (Below.al HBD.out (Nat.le_refl _) _)) (by omega) ?_
             intro A1 c1 w1 hown1 hb1
             obtain ⟨y1, y2⟩ := HCD.out w1 hb1)
          | (refine step_append_strs _ rfl _ _ rfl wc.heap.size _ _ (ds.take i) (ds.drop (i + 1)) rfl HTLD.out hown1 ⟨gD, 0, none⟩ _ _ rfl HDLD.out (HDVD.out _ hb1) (by omega) (Below.size hb1) ?_
             intro A2 c2 w2 hown2 hg2 hat2
             have hb2 : Below wc.heap.size wc w2 := Below.grown hb1 hg2 (Below.size hb1) (fun k hk => (World.ownsRow.lt hown1 k hk).1)
             have HW2 := Lib.hid hown2
             have HB2 := Lib.hid hb2
             obtain ⟨z1, z2⟩ := HCD.out w2 hb2))
        all_goals
          go_wp2
          go_end0
          exact ⟨rfl, out_both HCUT.out (out_one HCND.out HB2.out b9 HW2.out) HNE.out HCND.out⟩
      · go_wp2
        go_region_law (first
          | (refine step_append_strs0 wc rfl _ _ rfl rfl (ds.take i) ⟨gD, 0, none⟩ i _ rfl HTLD.out (HTKD.out _ (Below.al HBD.out (Nat.le_refl _) _)) (by omega) ?_
             intro A1 c1 w1 hown1 hb1
             obtain ⟨y1, y2⟩ := HCD.out w1 hb1)
          | (refine step_append_strs _ rfl _ _ rfl wc.heap.size _ _ (ds.take i) (ds.drop (i + 1)) rfl HTLD.out hown1 ⟨gD, i + 1, none⟩ _ _ rfl HDLD.out (HDRD.out _ hb1) (by omega) (Below.size hb1) ?_
             intro A2 c2 w2 hown2 hg2 hat2
             have hb2 : Below wc.heap.size wc w2 := Below.grown hb1 hg2 (Below.size hb1) (fun k hk => (World.ownsRow.lt hown1 k hk).1)
             have HW2 := Lib.hid hown2
             have HB2 := Lib.hid hb2
             obtain ⟨z1, z2⟩ := HCD.out w2 hb2))
        all_goals
          go_wp2
          go_end0
          exact ⟨rfl, out_both HCUT.out (out_one HCND.out HB2.out b9 HW2.out) HNE.out HCND.out⟩
  · go_enter Try.func26, Try.ntmps26
    go_wp2
    go_cut [] from 4 to 13 (fun wx => Hid (OutOne w.heap.size cn len i ns w wx))
    case first =>
      go_region_law (first
        | (refine step_append_strs0 w rfl _ _ rfl rfl (ns.take i) ⟨g, 0, none⟩ i _ rfl HTL.out (HTK.out _ (Below.al HB.out (Nat.le_refl _) _)) (by omega) ?_
           intro A1 c1 w1 hown1 hb1
           obtain ⟨y1, y2⟩ := HC.out w1 hb1)
        | (refine step_append_strs _ rfl _ _ rfl w.heap.size _ _ (ns.take i) (ns.drop (i + 1)) rfl HTL.out hown1 ⟨g, i + 1, none⟩ _ _ rfl HDL.out (HDR.out _ hb1) (by omega) (Below.size hb1) ?_
           intro A2 c2 w2 hown2 hg2 hat2
           have hb2 : Below w.heap.size w w2 := Below.grown hb1 hg2 (Below.size hb1) (fun k hk => (World.ownsRow.lt hown1 k hk).1)
           have HW2 := Lib.hid hown2
           have HB2 := Lib.hid hb2
           obtain ⟨z1, z2⟩ := HC.out w2 hb2))
      all_goals
        go_wp2
        go_meet
        case rel => exact Lib.hid (out_one HCN.out HB2.out b9 HW2.out)
    case rest =>
      obtain ⟨hrd, hcd⟩ := HRD.out wc hcut.out.ch
      have HCUT := Lib.hid hcut.out
      have hd := HHD.out
      clear hcut d1 d2 x1
      obtain ⟨gD, cD, rfl, hleD, hglD, hccD, htkD, hdrD⟩ := out_prep hi hd hrd hcd
      have HCND := Lib.hid hcd
      have HBD := Lib.hid (Below.refl wc.heap.size wc)
      have HCD := Lib.hid hccD
      have HTKD := Lib.hid htkD
      have HDRD := Lib.hid hdrD
      have HTLD := Lib.hid (show i = (ds.take i).length by rw [List.length_take]; omega)
      have HDLD := Lib.hid (show len - (i + 1) = (ds.drop (i + 1)).length by rw [List.length_drop]; omega)
      obtain ⟨d1D, d2D⟩ := HCD.out wc (Below.refl _ _)
      have x1D : ∀ o, (wc.alloc o).cell? ⟨cd, 0, none⟩ = some (.slice (some ⟨gD, 0, none⟩) len cD) := fun o => (HCD.out _ (Below.al HBD.out (Nat.le_refl _) o)).1
      have b2D : (i : Int) ≤ (cD : Int) := by omega
      have b4D : (len : Int) ≤ (cD : Int) := by omega
      have b6D : (i : Int) + 1 ≤ (cD : Int) := by omega
      clear hccD htkD hdrD hrd hcd hd
      by_cases hcapD : cD = i + 1
      · have HDVD := Lib.hid (fun (w1 : World) (_ : Below wc.heap.size wc w1) j (h : j < (ds.drop (i + 1)).length) => (by have := HDLD.out; omega : w1.cell? ((⟨gD, 0, none⟩ : Addr).add j) = some (encStr (ds.drop (i + 1))[j])))
        have hcapDt : (cD = i + 1) = True := eq_true hcapD
        clear hcapD
        go_wp2
        go_region_law (first
          | (refine step_append_strs0 wc rfl _ _ rfl rfl (ds.take i) ⟨gD, 0, none⟩ i _ rfl HTLD.out (HTKD.out _ (Below.al HBD.out (Nat.le_refl _) _)) (by omega) ?_
             intro A1 c1 w1 hown1 hb1
             obtain ⟨y1, y2⟩ := HCD.out w1 hb1)
          | (refine step_append_strs _ rfl _ _ rfl wc.heap.size _ _ (ds.take i) (ds.drop (i + 1)) rfl HTLD.out hown1 ⟨gD, 0, none⟩ _ _ rfl HDLD.out (HDVD.out _ hb1) (by omega) (Below.size hb1) ?_
             intro A2 c2 w2 hown2 hg2 hat2
             have hb2 : Below wc.heap.size wc w2 := Below.grown hb1 hg2 (Below.size hb1) (fun k hk => (World.ownsRow.lt hown1 k hk).1)
             have HW2 := Lib.hid hown2
             have HB2 := Lib.hid hb2
             obtain ⟨z1, z2⟩ := HCD.out w2 hb2))
        all_goals
          go_wp2
          go_end0
          exact ⟨rfl, out_both HCUT.out (out_one HCND.out HB2.out b9 HW2.out) HNE.out HCND.out⟩
      · go_wp2
        go_region_law (first
          | (refine step_append_strs0 wc rfl _ _ rfl rfl (ds.take i) ⟨gD, 0, none⟩ i _ rfl HTLD.out (HTKD.out _ (Below.al HBD.out (Nat.le_refl _) _)) (by omega) ?_
             intro A1 c1 w1 hown1 hb1
             obtain ⟨y1, y2⟩ := HCD.out w1 hb1)
          | (refine step_append_strs _ rfl _ _ rfl wc.heap.size _ _ (ds.take i) (ds.drop (i + 1)) rfl HTLD.out hown1 ⟨gD, i + 1, none⟩ _ _ rfl HDLD.out (HDRD.out _ hb1) (by omega) (Below.size hb1) ?_
             intro A2 c2 w2 hown2 hg2 hat2
             have hb2 : Below wc.heap.size wc w2 := Below.grown hb1 hg2 (Below.size hb1) (fun k hk => (World.ownsRow.lt hown1 k hk).1)
             have HW2 := Lib.hid hown2
             have HB2 := Lib.hid hb2
             obtain ⟨z1, z2⟩ := HCD.out w2 hb2))
        all_goals
          go_wp2
          go_end0
          exact ⟨rfl, out_both HCUT.out (out_one HCND.out HB2.out b9 HW2.out) HNE.out HCND.out⟩
end Go.Proofs.Ytlmkhieojgpgcaa
