/- segment: readSome while the power is on. -/
import Derived.Test.YtkcnmajjfljilaaGreatDoorSgH
import Derived.Test.YtkcnmajjfljilaaGreatDoorSgA
import Derived.Test.YtkcnmajjfljilaaGreatDoorSgG
namespace Go.Proofs.YtkcnmajjfljilaaGreatDoor
open Go Go.ChangeShapes Go.WideShapes Go.ChangeAt Go.RowKit Go.ChangeMaps Go.MapKept
set_option linter.unusedVariables false
set_option linter.unusedSimpArgs false

theorem Sg.rlen {Q : Nat → Prop} {B l f cnt M : Nat} {dir : Nm} {room used size dur : Int} {fs : List Nat} {rs : List (List UInt8)} {s : Fs} {w : World} (h : Sg Q B l f dir room used cnt M size fs rs dur s w) : ∀ r ∈ rs, r.length ≤ 1024 := by
  obtain ⟨_, mp, d, f⟩ := h.sl
  exact f.rlen
/-- What readSome answers: n records from m on. -/
def SomePost (rs : List (List UInt8)) (m n : Nat) (w : World) (e : Ending) (w' : World) : Prop :=
  ∃ ad c vs, e = .returned (.tuple #[.slice (some ad) n c, .int .i64 0]) ∧ (∀ j u, vs[j]? = some u → w'.cell? (ad.add j) = some u) ∧ RecsAt w' vs ((rs.drop m).take n) ∧ (∀ u ∈ vs, u.oneCell' = true) ∧ Below w.heap.size w w'
/-- Of a segment's records some. -/
theorem some_post {fs : List Nat} {rs : List (List UInt8)} {k m n g c : Nat} {vs : List Value} {w0 w V : World} (hf : Firsts fs rs.length) (hk : k < fs.length) (h1 : fs[k] ≤ m) (h2 : m + n ≤ nxt fs rs.length k) (h3 : m < nxt fs rs.length k)
    (hrow : V.ownsRow w.heap.size 30 1 (.slice (some ⟨g, 0, none⟩) (segR fs rs k).length c) (segR fs rs k).length vs) (hrec : RecsAt V vs (segR fs rs k)) (hb : Below w0.heap.size w0 V) (cc : Nat) :
    SomePost rs m n w0 (.returned (.tuple #[.slice (some ⟨g, m - fs[k], none⟩) n cc, .int .i64 0])) V := by
  have hl := segR_length hf hk
  have hnx := hf.nxt hk
  refine ⟨_, cc, (vs.drop (m - fs[k])).take n, rfl, fun j u hu => ?_, ⟨?_, fun j hj => ?_⟩, fun u hu => ?_, hb⟩
  · rw [List.getElem?_take] at hu
    split at hu
    · rw [List.getElem?_drop] at hu
      have := hrow.cells (g := g) rfl (m - fs[k] + j) u hu
      rw [add_at, Nat.zero_add] at this
      rw [add_at]
      exact this
    · cases hu
  · rw [List.length_take, List.length_drop, hrec.1, List.length_take, List.length_drop]; omega
  · have hj2 : j < n := by rw [List.length_take] at hj; omega
    have hjs : m - fs[k] + j < (segR fs rs k).length := by omega
    obtain ⟨A, c', e1, e2, e3⟩ := hrec.2 _ hjs
    obtain ⟨h5, h6⟩ := segR_at hf hk _ hjs
    have h7 : ((rs.drop m).take n)[j] = (segR fs rs k)[m - fs[k] + j] := by
      rw [h6]
      simp only [List.getElem_take, List.getElem_drop]
      congr 1; omega
    rw [h7]
    refine ⟨A, c', ?_, e2, e3⟩
    rw [List.getElem?_take, if_pos hj2, List.getElem?_drop]
    exact e1
  · have h8 := List.mem_of_mem_take hu
    have h9 := List.mem_of_mem_drop h8
    obtain ⟨j, hj, rfl⟩ := List.getElem_of_mem h9
    obtain ⟨A, c', e1, _, _⟩ := hrec.2 j (by rw [← hrec.1]; exact hj)
    rw [List.getElem?_eq_getElem hj] at e1
    injection e1 with e1
    rw [e1]; rfl
section
variable {Q : Nat → Prop} {B l f cnt M : Nat} {dir : Nm} {room used size dur : Int} {fs : List Nat} {rs : List (List UInt8)} {s : Fs} {w w' : World}

set_option maxRecDepth 100000 in
set_option maxHeartbeats 8000000 in
theorem some_sg (h : Sg Q B l f dir room used cnt M size fs rs dur s w) (hM : M ≤ 1000000) (hBw : B ≤ w.heap.size) (hT : Tab B w) (k m t : Nat) (hk : k < fs.length) (h1 : fs[k] ≤ m) (h2 : m < nxt fs rs.length k) (h3 : m < t) (ht : t ≤ rs.length) :
    Calls Tryz.prog 50 #[.pointer (some ⟨l, 0, none⟩), .int .i64 (k : Int), .int .i64 (m : Int), .int .i64 (t : Int)] w (SomePost rs m (min t (nxt fs rs.length k) - m) w) := by
  obtain ⟨P, hseg, hrep, hP⟩ := h.ls
  have HH := Lib.hid h
  have HSEG := Lib.hid hseg
  have HREP := Lib.hid hrep
  have HTAB := Lib.hid hT
  obtain ⟨A, c, q1, q2, q3⟩ := hseg.own
  have hlens := hseg.lens
  have hfew := h.few
  have hf := h.first
  have hnx := hf.nxt hk
  obtain ⟨hlf, hrd⟩ := sl_read h.sl hk
  have HFRS := Lib.hid (sl_frs h.sl k)
  have HSL := Lib.hid (segR_length hf hk)
  have HF := Lib.hid hf
  obtain ⟨b, hA, hcell⟩ := nat_at q2 hk
  subst hA
  have HQ2 := Lib.hid q2
  have hl0 : w.cell? ⟨l, 0, none⟩ = some (.pointer (some ⟨f, 0, none⟩)) := q1.cell 0
  have hl1 : w.cell? ⟨l, 1, none⟩ = some (.string (txt dir)) := q1.cell 1
  have hl3 : w.cell? ⟨l, 3, none⟩ = some (.slice (some ⟨b, 0, none⟩) fs.length c) := q1.cell 3
  have hl5 : w.cell? ⟨l, 5, none⟩ = some (.int .i64 (rs.length : Int)) := q1.cell 5
  have HL0 := Lib.hid hl0
  have HL1 := Lib.hid hl1
  obtain ⟨F, hF⟩ : ∃ F, fs[k] = F := ⟨_, rfl⟩
  obtain ⟨N, hN⟩ : ∃ N, nxt fs rs.length k = N := ⟨_, rfl⟩
  rw [hF] at hcell h1 hnx
  rw [hN] at h2 hnx ⊢
  rw [hF] at hlf hrd
  have HLF := Lib.hid hlf
  have HRD := Lib.hid hrd
  have HFK := Lib.hid hF
  have HNX := Lib.hid hN
  have HK := Lib.hid hk
  have HK5 := Lib.hid hl5
  obtain ⟨len, hlen⟩ : ∃ len, fs.length = len := ⟨_, rfl⟩
  rw [hlen] at hl3
  have hki : (k : Int) < (len : Int) := by omega
  have hcase : (k + 1 < len ∧ w.cell? ⟨b, k + 1, none⟩ = some (.int .i64 (N : Int))) ∨ (¬ k + 1 < len ∧ N = rs.length) := by
    by_cases e : k + 1 < fs.length
    · obtain ⟨b', hb', hc'⟩ := nat_at q2 e
      injection hb' with hb'
      injection hb' with hb'
      subst hb'
      exact .inl ⟨by omega, by rw [← hN, nxt_some e]; exact hc'⟩
    · exact .inr ⟨by omega, by rw [← hN, nxt_none e]⟩
  have HLEN := Lib.hid hlen
  clear hseg hrep hP hT h q1 q2 q3 hf hlf hrd hF hN hl0 hl1
  rcases hcase with ⟨hk1, hc1⟩ | ⟨hk1, hN⟩
  · have hk2 : (k : Int) + 1 < (len : Int) := by omega
    go_enter Tryz.func50, Tryz.ntmps50
    go_wp2_with fail
    go_quiet (fail)
    obtain ⟨W, hW⟩ : ∃ W, w.drewN nq = W := ⟨_, rfl⟩
    have hbW : Below w.heap.size w W := by rw [← hW]; exact below_drewN _ _
    have k3 := cell_later hbW hl3
    have kn := cell_later hbW hc1
    have k0 := cell_later hbW HL0.out
    have k1 := cell_later hbW HL1.out
    have HBW := Lib.hid hbW
    try rw [hW]
    clear hcell hl5 hl3 hW hbW hc1
    go_wp2_with fail
    refine wp_mono ?_ noPanic_le
    refine held_begin 16 (fun W => W.cell? ⟨l, 0, none⟩ = some (.pointer (some ⟨f, 0, none⟩)) ∧ W.cell? ⟨l, 1, none⟩ = some (.string (txt dir))) rfl (by kernel_rfl) ?_
    have hS : W.drew.cell? ⟨l, 0, none⟩ = some (.pointer (some ⟨f, 0, none⟩)) ∧ W.drew.cell? ⟨l, 1, none⟩ = some (.string (txt dir)) := ⟨k0, k1⟩
    refine held_take (i := 0) (t := 44) (v := (.pointer (some ⟨l, 0, none⟩))) (fuel := 15) rfl rfl (by kernel_rfl) (by kernel_rfl) (by kernel_rfl) (fun _ _ _ h => h) (.inl ⟨rfl, fun W hW => by obtain ⟨w1, w2⟩ := hW; simp [execOp, Act.eval, go_sem, w1, w2]⟩) hS ?_
    simp only [List.setIfInBounds_toArray, List.set_cons_succ, List.set_cons_zero]
    refine held_take (i := 1) (t := 45) (v := (.pointer (some ⟨l, 0, none⟩))) (fuel := 14) rfl rfl (by kernel_rfl) (by kernel_rfl) (by kernel_rfl) (fun _ _ _ h => h) (.inl ⟨rfl, fun W hW => by obtain ⟨w1, w2⟩ := hW; simp [execOp, Act.eval, go_sem, w1, w2]⟩) hS ?_
    simp only [List.setIfInBounds_toArray, List.set_cons_succ, List.set_cons_zero]
    refine held_take (i := 2) (t := 46) (v := (.pointer (some ⟨l, 0, none⟩))) (fuel := 13) rfl rfl (by kernel_rfl) (by kernel_rfl) (by kernel_rfl) (fun _ _ _ h => h) (.inl ⟨rfl, fun W hW => by obtain ⟨w1, w2⟩ := hW; simp [execOp, Act.eval, go_sem, w1, w2]⟩) hS ?_
    simp only [List.setIfInBounds_toArray, List.set_cons_succ, List.set_cons_zero]
    refine held_take (i := 3) (t := 47) (v := (.pointer (some ⟨f, 0, none⟩))) (fuel := 12) rfl rfl (by kernel_rfl) (by kernel_rfl) (by kernel_rfl) (fun _ _ _ h => h) (.inl ⟨rfl, fun W hW => by obtain ⟨w1, w2⟩ := hW; simp [execOp, Act.eval, go_sem, w1, w2]⟩) hS ?_
    simp only [List.setIfInBounds_toArray, List.set_cons_succ, List.set_cons_zero]
    refine held_take (i := 4) (t := 48) (v := (.pointer (some ⟨l, 0, none⟩))) (fuel := 11) rfl rfl (by kernel_rfl) (by kernel_rfl) (by kernel_rfl) (fun _ _ _ h => h) (.inl ⟨rfl, fun W hW => by obtain ⟨w1, w2⟩ := hW; simp [execOp, Act.eval, go_sem, w1, w2]⟩) hS ?_
    simp only [List.setIfInBounds_toArray, List.set_cons_succ, List.set_cons_zero]
    refine held_take (i := 5) (t := 49) (v := (.pointer (some ⟨l, 0, none⟩))) (fuel := 10) rfl rfl (by kernel_rfl) (by kernel_rfl) (by kernel_rfl) (fun _ _ _ h => h) (.inl ⟨rfl, fun W hW => by obtain ⟨w1, w2⟩ := hW; simp [execOp, Act.eval, go_sem, w1, w2]⟩) hS ?_
    simp only [List.setIfInBounds_toArray, List.set_cons_succ, List.set_cons_zero]
    refine held_take (i := 6) (t := 50) (v := (.pointer (some ⟨l, 1, none⟩))) (fuel := 9) rfl rfl (by kernel_rfl) (by kernel_rfl) (by kernel_rfl) (fun _ _ _ h => h) (.inl ⟨rfl, fun W hW => by obtain ⟨w1, w2⟩ := hW; simp [execOp, Act.eval, go_sem, w1, w2]⟩) hS ?_
    simp only [List.setIfInBounds_toArray, List.set_cons_succ, List.set_cons_zero]
    refine held_take (i := 7) (t := 51) (v := (.string (txt dir))) (fuel := 8) rfl rfl (by kernel_rfl) (by kernel_rfl) (by kernel_rfl) (fun _ _ _ h => h) (.inl ⟨rfl, fun W hW => by obtain ⟨w1, w2⟩ := hW; simp [execOp, Act.eval, go_sem, w1, w2]⟩) hS ?_
    simp only [List.setIfInBounds_toArray, List.set_cons_succ, List.set_cons_zero]
    refine held_take (i := 8) (t := 52) (v := (.int .i64 (F : Int))) (fuel := 7) rfl rfl (by kernel_rfl) (by kernel_rfl) (by kernel_rfl) (fun _ _ _ h => h) (.inl ⟨rfl, fun W hW => by obtain ⟨w1, w2⟩ := hW; simp [execOp, Act.eval, go_sem, w1, w2]⟩) hS ?_
    simp only [List.setIfInBounds_toArray, List.set_cons_succ, List.set_cons_zero]
    refine held_call (i := 9) rfl (by kernel_rfl) (by kernel_rfl) ?_
    simp [Oper.wp, execOp, Act.eval, Act.put, go_sem]
    refine (name_any _ (by constructor <;> omega) W.drew (HTAB.out.below ((HBW.out.mono hBw).drew)) (Nat.le_trans hBw HBW.out.size)).mono ?_
    rintro e V3 ⟨rfl, hb3⟩
    replace hb3 := below_undrew hb3
    have hS : V3.cell? ⟨l, 0, none⟩ = some (.pointer (some ⟨f, 0, none⟩)) ∧ V3.cell? ⟨l, 1, none⟩ = some (.string (txt dir)) := ⟨cell_later hb3 k0, cell_later hb3 k1⟩
    refine ⟨hS, ?_⟩
    try simp only [List.setIfInBounds_toArray, List.set_cons_succ, List.set_cons_zero]
    refine held_call (i := 10) rfl (by kernel_rfl) (by kernel_rfl) ?_
    simp [Oper.wp, execOp, Act.eval, Act.put, go_sem]
    refine (read_any (HREP.out.quiet ((chb HBW.out).trans (chb hb3))) (HH.out.wf.wf hM) dir (sN _)).mono ?_
    rw [HLF.out, HRD.out]
    rintro e V4 ⟨Ar, nr, cr, rfl, hbuf, hb4⟩
    have hS : V4.cell? ⟨l, 0, none⟩ = some (.pointer (some ⟨f, 0, none⟩)) ∧ V4.cell? ⟨l, 1, none⟩ = some (.string (txt dir)) := ⟨cell_later hb4 hS.1, cell_later hb4 hS.2⟩
    refine ⟨hS, ?_⟩
    try simp only [List.setIfInBounds_toArray, List.set_cons_succ, List.set_cons_zero]
    refine held_take (i := 11) (t := 43) (v := (.tuple #[.slice Ar nr cr, .int .i64 0])) (fuel := 4) rfl rfl (by kernel_rfl) (by kernel_rfl) (by kernel_rfl) (fun _ _ _ h => h) (.inl ⟨rfl, fun W hW => by obtain ⟨w1, w2⟩ := hW; simp [execOp, Act.eval, go_sem, w1, w2]⟩) hS ?_
    simp only [List.setIfInBounds_toArray, List.set_cons_succ, List.set_cons_zero]
    refine held_take (i := 12) (t := 55) (v := (.slice Ar nr cr)) (fuel := 3) rfl rfl (by kernel_rfl) (by kernel_rfl) (by kernel_rfl) (fun _ _ _ h => h) (.inl ⟨rfl, fun W hW => by obtain ⟨w1, w2⟩ := hW; simp [execOp, Act.eval, go_sem, w1, w2]⟩) hS ?_
    simp only [List.setIfInBounds_toArray, List.set_cons_succ, List.set_cons_zero]
    refine held_take (i := 13) (t := 56) (v := (.int .i64 0)) (fuel := 2) rfl rfl (by kernel_rfl) (by kernel_rfl) (by kernel_rfl) (fun _ _ _ h => h) (.inl ⟨rfl, fun W hW => by obtain ⟨w1, w2⟩ := hW; simp [execOp, Act.eval, go_sem, w1, w2]⟩) hS ?_
    simp only [List.setIfInBounds_toArray, List.set_cons_succ, List.set_cons_zero]
    refine held_take (i := 14) (t := 12) (v := (.slice Ar nr cr)) (fuel := 1) rfl rfl (by kernel_rfl) (by kernel_rfl) (by kernel_rfl) (fun _ _ _ h => h) (.inl ⟨rfl, fun W hW => by obtain ⟨w1, w2⟩ := hW; simp [execOp, Act.eval, go_sem, w1, w2]⟩) hS ?_
    simp only [List.setIfInBounds_toArray, List.set_cons_succ, List.set_cons_zero]
    refine held_take (i := 15) (t := 13) (v := (.int .i64 0)) (fuel := 0) rfl rfl (by kernel_rfl) (by kernel_rfl) (by kernel_rfl) (fun _ _ _ h => h) (.inl ⟨rfl, fun W hW => by obtain ⟨w1, w2⟩ := hW; simp [execOp, Act.eval, go_sem, w1, w2]⟩) hS ?_
    simp only [List.setIfInBounds_toArray, List.set_cons_succ, List.set_cons_zero]
    refine wpAnyH_done (by kernel_rfl) ?_ 0
    unfold noPanic
    have HGO := Lib.hid (good_any (cat (segR fs rs k)) nr cr Ar V4 hbuf.1 (own_caps hbuf.2.2).1 (by rw [hbuf.1, cat_length]; have := tot_le (xs := segR fs rs k) (fun r hr => HH.out.rlen r (segR_mem hr)); have e := HSL.out; rw [HNX.out, HFK.out] at e; omega) hbuf.bytes (buf_u8 hbuf) (by rw [HFRS.out]; exact fun r hr => HH.out.rlen r (segR_mem hr)))
    have HB4 := Lib.hid (HBW.out.trans ((hb3.mono HBW.out.size).trans (hb4.mono (Nat.le_trans HBW.out.size hb3.size))))
    clear hS hbuf hb4 hb3 k0 k1 k3 kn
    have HS2 := Lib.hid HSL.out
    obtain ⟨sl, hsl⟩ : ∃ sl, (segR fs rs k).length = sl := ⟨_, rfl⟩
    have hslN : sl = N - F := by rw [← hsl, HSL.out, HNX.out, HFK.out]
    have HSLN := Lib.hid hsl
    have hd1 : ¬ (sl : Int) < (N : Int) - (F : Int) := by omega
    go_wp2_with (go_at_call 77; go_loud ((refine HGO.out.mono ?_; rintro e V5 ⟨v, vs, rfl, hrow, hrec, hb5⟩; rw [HFRS.out] at hrow hrec; obtain ⟨Ag, cg, rfl⟩ := own_slice hrow; have hcap := (own_caps hrow).1; obtain ⟨g, cap, hv, _, _⟩ := hrow.form (by rw [hsl]; omega); injection hv with hv1 hv2 hv3; subst hv1; have HROW := Lib.hid hrow; have HREC := Lib.hid hrec; have HB5 := Lib.hid (HB4.out.trans (hb5.mono HB4.out.size)); clear hrow hrec hb5 hv2 hv3)))
    go_ret2
    have e : (min (t : Int) (N : Int)).toNat - F - (m - F) = min t N - m := by omega
    have HP := some_post (n := min t N - m) HF.out HK.out (by rw [HFK.out]; exact h1) (by rw [HNX.out]; omega) (by rw [HNX.out]; exact h2) HROW.out HREC.out HB5.out (cg - (m - F))
    rw [HFK.out] at HP
    try rw [e]
    exact HP
  · have hk2 : ¬ (k : Int) + 1 < (len : Int) := by omega
    rw [← hN] at hl5
    clear hN
    go_enter Tryz.func50, Tryz.ntmps50
    go_wp2_with fail
    go_quiet (fail)
    obtain ⟨W, hW⟩ : ∃ W, w.drewN nq = W := ⟨_, rfl⟩
    have hbW : Below w.heap.size w W := by rw [← hW]; exact below_drewN _ _
    have k3 := cell_later hbW hl3
    have k0 := cell_later hbW HL0.out
    have k1 := cell_later hbW HL1.out
    have HBW := Lib.hid hbW
    try rw [hW]
    clear hcell hl5 hl3 hW hbW
    go_wp2_with fail
    refine wp_mono ?_ noPanic_le
    refine held_begin 16 (fun W => W.cell? ⟨l, 0, none⟩ = some (.pointer (some ⟨f, 0, none⟩)) ∧ W.cell? ⟨l, 1, none⟩ = some (.string (txt dir))) rfl (by kernel_rfl) ?_
    have hS : W.drew.cell? ⟨l, 0, none⟩ = some (.pointer (some ⟨f, 0, none⟩)) ∧ W.drew.cell? ⟨l, 1, none⟩ = some (.string (txt dir)) := ⟨k0, k1⟩
    refine held_take (i := 0) (t := 44) (v := (.pointer (some ⟨l, 0, none⟩))) (fuel := 15) rfl rfl (by kernel_rfl) (by kernel_rfl) (by kernel_rfl) (fun _ _ _ h => h) (.inl ⟨rfl, fun W hW => by obtain ⟨w1, w2⟩ := hW; simp [execOp, Act.eval, go_sem, w1, w2]⟩) hS ?_
    simp only [List.setIfInBounds_toArray, List.set_cons_succ, List.set_cons_zero]
    refine held_take (i := 1) (t := 45) (v := (.pointer (some ⟨l, 0, none⟩))) (fuel := 14) rfl rfl (by kernel_rfl) (by kernel_rfl) (by kernel_rfl) (fun _ _ _ h => h) (.inl ⟨rfl, fun W hW => by obtain ⟨w1, w2⟩ := hW; simp [execOp, Act.eval, go_sem, w1, w2]⟩) hS ?_
    simp only [List.setIfInBounds_toArray, List.set_cons_succ, List.set_cons_zero]
    refine held_take (i := 2) (t := 46) (v := (.pointer (some ⟨l, 0, none⟩))) (fuel := 13) rfl rfl (by kernel_rfl) (by kernel_rfl) (by kernel_rfl) (fun _ _ _ h => h) (.inl ⟨rfl, fun W hW => by obtain ⟨w1, w2⟩ := hW; simp [execOp, Act.eval, go_sem, w1, w2]⟩) hS ?_
    simp only [List.setIfInBounds_toArray, List.set_cons_succ, List.set_cons_zero]
    refine held_take (i := 3) (t := 47) (v := (.pointer (some ⟨f, 0, none⟩))) (fuel := 12) rfl rfl (by kernel_rfl) (by kernel_rfl) (by kernel_rfl) (fun _ _ _ h => h) (.inl ⟨rfl, fun W hW => by obtain ⟨w1, w2⟩ := hW; simp [execOp, Act.eval, go_sem, w1, w2]⟩) hS ?_
    simp only [List.setIfInBounds_toArray, List.set_cons_succ, List.set_cons_zero]
    refine held_take (i := 4) (t := 48) (v := (.pointer (some ⟨l, 0, none⟩))) (fuel := 11) rfl rfl (by kernel_rfl) (by kernel_rfl) (by kernel_rfl) (fun _ _ _ h => h) (.inl ⟨rfl, fun W hW => by obtain ⟨w1, w2⟩ := hW; simp [execOp, Act.eval, go_sem, w1, w2]⟩) hS ?_
    simp only [List.setIfInBounds_toArray, List.set_cons_succ, List.set_cons_zero]
    refine held_take (i := 5) (t := 49) (v := (.pointer (some ⟨l, 0, none⟩))) (fuel := 10) rfl rfl (by kernel_rfl) (by kernel_rfl) (by kernel_rfl) (fun _ _ _ h => h) (.inl ⟨rfl, fun W hW => by obtain ⟨w1, w2⟩ := hW; simp [execOp, Act.eval, go_sem, w1, w2]⟩) hS ?_
    simp only [List.setIfInBounds_toArray, List.set_cons_succ, List.set_cons_zero]
    refine held_take (i := 6) (t := 50) (v := (.pointer (some ⟨l, 1, none⟩))) (fuel := 9) rfl rfl (by kernel_rfl) (by kernel_rfl) (by kernel_rfl) (fun _ _ _ h => h) (.inl ⟨rfl, fun W hW => by obtain ⟨w1, w2⟩ := hW; simp [execOp, Act.eval, go_sem, w1, w2]⟩) hS ?_
    simp only [List.setIfInBounds_toArray, List.set_cons_succ, List.set_cons_zero]
    refine held_take (i := 7) (t := 51) (v := (.string (txt dir))) (fuel := 8) rfl rfl (by kernel_rfl) (by kernel_rfl) (by kernel_rfl) (fun _ _ _ h => h) (.inl ⟨rfl, fun W hW => by obtain ⟨w1, w2⟩ := hW; simp [execOp, Act.eval, go_sem, w1, w2]⟩) hS ?_
    simp only [List.setIfInBounds_toArray, List.set_cons_succ, List.set_cons_zero]
    refine held_take (i := 8) (t := 52) (v := (.int .i64 (F : Int))) (fuel := 7) rfl rfl (by kernel_rfl) (by kernel_rfl) (by kernel_rfl) (fun _ _ _ h => h) (.inl ⟨rfl, fun W hW => by obtain ⟨w1, w2⟩ := hW; simp [execOp, Act.eval, go_sem, w1, w2]⟩) hS ?_
    simp only [List.setIfInBounds_toArray, List.set_cons_succ, List.set_cons_zero]
    refine held_call (i := 9) rfl (by kernel_rfl) (by kernel_rfl) ?_
    simp [Oper.wp, execOp, Act.eval, Act.put, go_sem]
    refine (name_any _ (by constructor <;> omega) W.drew (HTAB.out.below ((HBW.out.mono hBw).drew)) (Nat.le_trans hBw HBW.out.size)).mono ?_
    rintro e V3 ⟨rfl, hb3⟩
    replace hb3 := below_undrew hb3
    have hS : V3.cell? ⟨l, 0, none⟩ = some (.pointer (some ⟨f, 0, none⟩)) ∧ V3.cell? ⟨l, 1, none⟩ = some (.string (txt dir)) := ⟨cell_later hb3 k0, cell_later hb3 k1⟩
    refine ⟨hS, ?_⟩
    try simp only [List.setIfInBounds_toArray, List.set_cons_succ, List.set_cons_zero]
    refine held_call (i := 10) rfl (by kernel_rfl) (by kernel_rfl) ?_
    simp [Oper.wp, execOp, Act.eval, Act.put, go_sem]
    refine (read_any (HREP.out.quiet ((chb HBW.out).trans (chb hb3))) (HH.out.wf.wf hM) dir (sN _)).mono ?_
    rw [HLF.out, HRD.out]
    rintro e V4 ⟨Ar, nr, cr, rfl, hbuf, hb4⟩
    have hS : V4.cell? ⟨l, 0, none⟩ = some (.pointer (some ⟨f, 0, none⟩)) ∧ V4.cell? ⟨l, 1, none⟩ = some (.string (txt dir)) := ⟨cell_later hb4 hS.1, cell_later hb4 hS.2⟩
    refine ⟨hS, ?_⟩
    try simp only [List.setIfInBounds_toArray, List.set_cons_succ, List.set_cons_zero]
    refine held_take (i := 11) (t := 43) (v := (.tuple #[.slice Ar nr cr, .int .i64 0])) (fuel := 4) rfl rfl (by kernel_rfl) (by kernel_rfl) (by kernel_rfl) (fun _ _ _ h => h) (.inl ⟨rfl, fun W hW => by obtain ⟨w1, w2⟩ := hW; simp [execOp, Act.eval, go_sem, w1, w2]⟩) hS ?_
    simp only [List.setIfInBounds_toArray, List.set_cons_succ, List.set_cons_zero]
    refine held_take (i := 12) (t := 55) (v := (.slice Ar nr cr)) (fuel := 3) rfl rfl (by kernel_rfl) (by kernel_rfl) (by kernel_rfl) (fun _ _ _ h => h) (.inl ⟨rfl, fun W hW => by obtain ⟨w1, w2⟩ := hW; simp [execOp, Act.eval, go_sem, w1, w2]⟩) hS ?_
    simp only [List.setIfInBounds_toArray, List.set_cons_succ, List.set_cons_zero]
    refine held_take (i := 13) (t := 56) (v := (.int .i64 0)) (fuel := 2) rfl rfl (by kernel_rfl) (by kernel_rfl) (by kernel_rfl) (fun _ _ _ h => h) (.inl ⟨rfl, fun W hW => by obtain ⟨w1, w2⟩ := hW; simp [execOp, Act.eval, go_sem, w1, w2]⟩) hS ?_
    simp only [List.setIfInBounds_toArray, List.set_cons_succ, List.set_cons_zero]
    refine held_take (i := 14) (t := 12) (v := (.slice Ar nr cr)) (fuel := 1) rfl rfl (by kernel_rfl) (by kernel_rfl) (by kernel_rfl) (fun _ _ _ h => h) (.inl ⟨rfl, fun W hW => by obtain ⟨w1, w2⟩ := hW; simp [execOp, Act.eval, go_sem, w1, w2]⟩) hS ?_
    simp only [List.setIfInBounds_toArray, List.set_cons_succ, List.set_cons_zero]
    refine held_take (i := 15) (t := 13) (v := (.int .i64 0)) (fuel := 0) rfl rfl (by kernel_rfl) (by kernel_rfl) (by kernel_rfl) (fun _ _ _ h => h) (.inl ⟨rfl, fun W hW => by obtain ⟨w1, w2⟩ := hW; simp [execOp, Act.eval, go_sem, w1, w2]⟩) hS ?_
    simp only [List.setIfInBounds_toArray, List.set_cons_succ, List.set_cons_zero]
    refine wpAnyH_done (by kernel_rfl) ?_ 0
    unfold noPanic
    have HGO := Lib.hid (good_any (cat (segR fs rs k)) nr cr Ar V4 hbuf.1 (own_caps hbuf.2.2).1 (by rw [hbuf.1, cat_length]; have := tot_le (xs := segR fs rs k) (fun r hr => HH.out.rlen r (segR_mem hr)); have e := HSL.out; rw [HNX.out, HFK.out] at e; omega) hbuf.bytes (buf_u8 hbuf) (by rw [HFRS.out]; exact fun r hr => HH.out.rlen r (segR_mem hr)))
    have HB4 := Lib.hid (HBW.out.trans ((hb3.mono HBW.out.size).trans (hb4.mono (Nat.le_trans HBW.out.size hb3.size))))
    clear hS hbuf hb4 hb3 k0 k1 k3
    have HS2 := Lib.hid HSL.out
    obtain ⟨sl, hsl⟩ : ∃ sl, (segR fs rs k).length = sl := ⟨_, rfl⟩
    have hslN : sl = N - F := by rw [← hsl, HSL.out, HNX.out, HFK.out]
    have HSLN := Lib.hid hsl
    have hd1 : ¬ (sl : Int) < (N : Int) - (F : Int) := by omega
    go_wp2_with (go_at_call 77; go_loud ((refine HGO.out.mono ?_; rintro e V5 ⟨v, vs, rfl, hrow, hrec, hb5⟩; rw [HFRS.out] at hrow hrec; obtain ⟨Ag, cg, rfl⟩ := own_slice hrow; have hcap := (own_caps hrow).1; obtain ⟨g, cap, hv, _, _⟩ := hrow.form (by rw [hsl]; omega); injection hv with hv1 hv2 hv3; subst hv1; have HROW := Lib.hid hrow; have HREC := Lib.hid hrec; have HB5 := Lib.hid (HB4.out.trans (hb5.mono HB4.out.size)); clear hrow hrec hb5 hv2 hv3)))
    go_ret2
    have e : (min (t : Int) (N : Int)).toNat - F - (m - F) = min t N - m := by omega
    have HP := some_post (n := min t N - m) HF.out HK.out (by rw [HFK.out]; exact h1) (by rw [HNX.out]; omega) (by rw [HNX.out]; exact h2) HROW.out HREC.out HB5.out (cg - (m - F))
    rw [HFK.out] at HP
    try rw [e]
    exact HP
end
end Go.Proofs.YtkcnmajjfljilaaGreatDoor
