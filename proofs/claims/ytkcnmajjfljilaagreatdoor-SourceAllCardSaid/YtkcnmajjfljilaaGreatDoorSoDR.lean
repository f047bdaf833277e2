/- Several texts in one: SoV, SoD, SoR. -/
import Derived.Test.YtkcnmajjfljilaaGreatDoorSoPB
import Derived.Test.YtkcnmajjfljilaaGreatDoorSgG
import Derived.BigRegion
import Derived.BigQuiet
/- source: slices.Sorted(slices.Values(l)) of int64 and int. -/
namespace Go.Proofs.YtkcnmajjfljilaaGreatDoor
attribute [local go_sem] Oper.semAt_some
open Go Go.ChangeShapes Go.WideShapes Go.ChangeAt Go.RowKit Go.ChangeMaps Go.MapKept
set_option linter.unusedVariables false
set_option linter.unusedSimpArgs false

theorem RowC.mid {w w' : World} {B : Nat} {A : Option Addr} {xs : List Int} (h : RowC iC 1 w B A xs) (hB : B ≤ w.heap.size) (k : Mid 0 B w w') : RowC iC 1 w' B A xs := by
  intro j hj
  obtain ⟨b, off, h1, h2, h3⟩ := h j hj
  exact ⟨b, off, h1, h2, fun i x hx => (World.cell?_of_block (a := ⟨b, _, none⟩) (k.2 b (Nat.zero_le _) h2)).trans (h3 i x hx)⟩
/-- Between two rounds of AppendSeq. -/
structure Appd (t tE : TypeId) (B0 : Nat) (w : World) (pre : List Int) (W : World) : Prop where
  list : ∃ v, Boxed W B0 t v ∧ W.ownsRow (B0 + 1) tE 1 v pre.length (pre.flatMap iC) ∧ True
  below : Below B0 w W
  size : B0 + 1 ≤ W.heap.size
theorem appd_own (t tE : TypeId) (B0 : Nat) (w : World) (h0 : B0 ≤ w.heap.size) : OwnFrom (B0 + 1) (Appd t tE B0 w) := by
  intro s X Y row hs hg hr
  refine ⟨holdsRow_own (B0 + 1) B0 t tE 1 List.length (fun s => s.flatMap iC) (fun _ _ => True) s X Y row hs.list hg (fun r e => (hr r e).2), ?_, Nat.le_trans hs.size hg.size⟩
  exact hs.below.grown hg (by have := hs.below.size; omega) (fun k e => by have := (hr k e).1; omega)
theorem appd_step {t tE : TypeId} {B0 : Nat} {w W w3 : World} {pre : List Int} {x : Int} {v v' : Value} {tmp : Obj} (hs : Appd t tE B0 w pre W)
    (hv : Boxed W B0 t v) (hrow : W.ownsRow (B0 + 1) tE 1 v pre.length (pre.flatMap iC))
    (hown : w3.ownsRow (B0 + 1) tE 1 v' (pre.length + 1) (pre.flatMap iC ++ iC x)) (hgrow : (W.alloc tmp).grownBy w3 v.ownBlock) :
    Boxed w3 B0 t v ∧ KeepsFrom (B0 + 1) W (w3.setCell ⟨B0, 0, none⟩ v') ∧ Mid 0 B0 W (w3.setCell ⟨B0, 0, none⟩ v') ∧ Appd t tE B0 w (pre ++ [x]) (w3.setCell ⟨B0, 0, none⟩ v') := by
  have hrowt : ∀ r, v.ownBlock = some r → B0 + 1 ≤ r ∧ ∃ d, Cells W r d tE := fun r e => by
    obtain ⟨d, hd, hB⟩ := own_cells hrow e
    exact ⟨hB, d, hd⟩
  have hal : ∀ k, k < W.heap.size → (W.alloc tmp).heap[k]? = W.heap[k]? := fun k hk => Below.heap_alloc _ tmp k hk
  have hblk : ∀ k, k < W.heap.size → k < B0 + 1 → w3.heap[k]? = W.heap[k]? := fun k hk hkE => by
    refine (hgrow.block k (by rw [World.size_alloc]; omega) (fun e => ?_)).trans (hal k hk)
    have := (hrowt k e.symm).1
    omega
  have l0 : B0 < W.heap.size := hv.lt
  have b0 : Boxed w3 B0 t v := (hblk B0 l0 (by omega)).trans hv
  have hg1 := grownBy_setCell' w3 B0 v'
  have hsz : W.heap.size ≤ (w3.setCell ⟨B0, 0, none⟩ v').heap.size := by
    have h1 := hgrow.size
    rw [World.size_alloc] at h1
    have h2 := hg1.size
    omega
  have hW' : ∀ k, k ≠ B0 → (w3.setCell ⟨B0, 0, none⟩ v').heap[k]? = w3.heap[k]? := fun k hk => Below.heap_setCell _ _ _ k hk
  refine ⟨b0, ⟨hsz, fun k o hk ho hc => ?_⟩, ⟨hsz, fun k h1 h2 => ?_⟩, ⟨⟨v', b0.set v', ?_, trivial⟩, ?_, Nat.le_trans hs.size hsz⟩⟩
  · have hlt := (Array.getElem?_eq_some_iff.1 ho).1
    refine (hW' k (by omega)).trans ((hgrow.block k (by rw [World.size_alloc]; omega) (fun e => ?_)).trans ((hal k hlt).trans ho))
    obtain ⟨_, d, hd⟩ := hrowt k e.symm
    rw [show W.heap[k]? = _ from hd] at ho
    cases ho
    cases hc
  · exact (hW' k (by omega)).trans (hblk k (by omega) (by omega))
  · rw [List.length_append, List.length_singleton, List.flatMap_append]
    have e : [x].flatMap iC = iC x := by simp
    rw [e]
    refine hown.kept hg1 (.inr fun e => ?_)
    have := (hown.lt _ e).1; omega
  · have hb1 : Below B0 W (W.alloc tmp) := (Below.refl B0 W).alloc (by omega) tmp
    exact hs.below.trans ((hb1.grown hgrow (by rw [World.size_alloc]; omega) (fun k e => by have := (hrowt k e).1; omega)).setCell (p := ⟨B0, 0, none⟩) (by simp) v')

theorem info_l : (Tryz.prog.info? 2).map (fun i => (i.zero, i.size, i.bytes)) = some (some (.int .i64 0), 1, 8) := by kernel_rfl
set_option maxRecDepth 100000 in
set_option maxHeartbeats 2000000 in
theorem values_l (n : Nat) (hn : 1 ≤ n) (xs : List Int) (hlen : xs.length ≤ 140737488355328) (g c D : Nat) (A : Option Addr) (w0 : World) (hg : g < D) (hD : D ≤ w0.heap.size) (hbox : Cells w0 g #[.slice A xs.length c] 22) (hA : RowC iC 1 w0 D A xs) :
    SeqMem Fence.wide n Tryz.prog 53 #[.pointer (some ⟨g, 0, none⟩)] (fun x : Int => #[.int .i64 x]) (fun pre x _ => ∃ post, xs = pre ++ x :: post) (Mid 0 D) (fun ys => ys = xs) w0 := by
  intro L J Jx W hW hJ hJx hY h0
  have HA := Lib.hid hA
  have HJ := Lib.hid hJ
  have HY := Lib.hid hY
  have HD := Lib.hid hD
  have hbw : W.heap[g]? = some (.cells #[.slice A xs.length c] 22 (0, 0)) := (hW.2 g (Nat.zero_le _) hg).trans hbox
  have c0 : W.cell? ⟨g, 0, none⟩ = some (.slice A xs.length c) := (show Cells W g #[.slice A xs.length c] 22 from hbw).cell 0
  clear hbox hA hJ hJx hY hg hbw hD
  refine callsIn_of_wp Tryz.func53 rfl trivial ?_ rfl
  simp only [Tryz.ntmps53, List.size_toArray, List.length_cons, List.length_nil, Nat.reduceAdd, Nat.reduceSub, Array.replicate_succ, Array.replicate_zero, List.push_toArray, List.append_toArray, List.nil_append, List.cons_append]
  gi_wp2
  gi_loopw [7] (fun i wr => ∃ k : Nat, i = .int .i64 (k : Int) ∧ k ≤ xs.length ∧ J (xs.take k) wr ∧ Mid 0 D w0 wr) (fun i _ => xs.length - (intOf i).toNat)
  case atStart => exact ⟨0, rfl, Nat.zero_le _, h0, hW⟩
  case round =>
    obtain ⟨k, rfl, hk, hJp, hmid⟩ := hrel
    have HJP := Lib.hid hJp
    have HMID := Lib.hid hmid
    clear hJp hmid
    by_cases hlt : k < xs.length
    · obtain ⟨b, off, hq, hb, hcell⟩ := ints_r (HA.out.mid HD.out HMID.out) k hlt
      subst hq
      have HT := Lib.hid (show xs.take (k + 1) = xs.take k ++ [xs[k]] by rw [List.take_add_one, List.getElem?_eq_getElem hlt]; rfl)
      have HP := Lib.hid (show ∃ post, xs = xs.take k ++ xs[k] :: post from ⟨xs.drop (k + 1), by rw [← List.drop_eq_getElem_cons hlt, List.take_append_drop]⟩)
      obtain ⟨x, hx⟩ : ∃ x, xs[k] = x := ⟨_, rfl⟩
      rw [hx] at hcell HT HP
      clear hx
      obtain ⟨fn, tmps_, assign, body, hy, hR⟩ := HY.out _ x wr HJP.out HP.out
      have HR := Lib.hid hR
      clear hR
      gi_wp2
      refine HR.out.mono ?_
      rintro e W3 (⟨rfl, hJ3, hk3⟩ | ⟨rfl, hJx3⟩)
      · have HJ3 := Lib.hid hJ3
        have HM3 := Lib.hid (Mid.trans HMID.out hk3)
        clear hJ3 hk3
        gi_wp2
        go_roundw
        case rel => exact ⟨k + 1, by go_num, by omega, by rw [HT.out]; exact HJ3.out, HM3.out⟩
        case measure => simp [intOf]; omega
      · have HJ3 := Lib.hid hJx3
        clear hJx3
        gi_wp2
        refine bodyPost_ret (results_none rfl _ _ _) rfl ?_
        exact ⟨⟨_, rfl⟩, .inr ⟨_, HJ3.out⟩⟩
    · have hke : k = xs.length := by omega
      have h := HJP.out
      rw [List.take_of_length_le (by omega)] at h
      have HE := Lib.hid h
      clear h hke
      gi_wp2
      go_end0
      exact ⟨⟨_, rfl⟩, .inl ⟨_, rfl, HE.out⟩⟩
/-- The numbers, in a slice of its own. -/
def OwnPost_l (xs : List Int) (w : World) (e : Ending) (w' : World) : Prop :=
  ∃ A c, e = .returned (.slice A xs.length c) ∧ w'.ownsRow w.heap.size 2 1 (.slice A xs.length c) xs.length (xs.flatMap iC) ∧ Below w.heap.size w w'
set_option maxRecDepth 100000 in
set_option maxHeartbeats 4000000 in
theorem appendSeq_l (xs : List Int) (hlen : xs.length ≤ 1000000) (g c : Nat) (A : Option Addr) (w : World) (hbox : Cells w g #[.slice A xs.length c] 22) (hA : RowC iC 1 w w.heap.size A xs) :
    Calls Tryz.prog 78 #[.slice none 0 0, .func (.func 53) #[] #[.pointer (some ⟨g, 0, none⟩)]] w (OwnPost_l xs w) := by
  refine (callsIn_wide (n := 6)).1 ?_
  have HBX := Lib.hid hbox
  have HA := Lib.hid hA
  clear hbox hA
  refine callsIn_of_wp_marks Tryz.func78 rfl trivial ?_ rfl
  simp only [Tryz.ntmps78, List.size_toArray, List.length_cons, List.length_nil, Nat.reduceAdd, Nat.reduceSub, Array.replicate_succ, Array.replicate_zero, List.push_toArray, List.append_toArray, List.nil_append, List.cons_append]
  gi_wp2
  obtain ⟨W0, hW0⟩ : ∃ W0, w.alloc (.cells #[.slice none 0 0] 22) = W0 := ⟨_, rfl⟩
  have hsz : W0.heap.size = w.heap.size + 1 := by rw [← hW0]; simp
  have HB0 := Lib.hid (show Below w.heap.size w W0 by rw [← hW0]; exact (Below.refl _ w).alloc (Nat.le_refl _) _)
  have hcl : Boxed W0 w.heap.size 22 (.slice none 0 0) := by rw [← hW0]; exact Boxed.new w _ _
  rw [hW0]
  clear hW0
  have hgl := HBX.out.lt
  refine range_mem rfl (by omega) (gf := 53) (lb := #[.pointer (some ⟨g, 0, none⟩)]) rfl trivial (enters_of Tryz.func53 (by kernel_rfl) rfl)
    (values_l _ (by omega) xs (by omega) g c w.heap.size A W0 hgl (by omega) ((HB0.out.block g hgl).trans HBX.out) (HA.out.below HB0.out)) (fun _ => rfl)
    Mid.trans (Mid.refl _ _ _) (fun h hg => Mid.grown h (by omega) hg) (fun W o => ⟨by simp, fun k _ h2 => World.putObj_heap_other (by omega)⟩)
    (Appd 22 2 w.heap.size w) (fun _ _ _ => False) (by rw [hsz]; exact appd_own _ _ _ _ (Nat.le_refl _)) (fun _ _ _ _ _ hs _ _ => hs) (fun pre x X Y row hs hg hr => hs)
    ⟨⟨_, hcl, World.ownsRow_nil _ _ _ _, trivial⟩, HB0.out, by omega⟩
    ?a1 ?assign ?body ?done ?stop
  case assign =>
    intro l0 x W K hK
    gi_wp2
    exact hK
  case body =>
    rintro l0 pre x W hI hx
    have HI := Lib.hid hI
    obtain ⟨v, hv, hrow, _⟩ := hI.list
    obtain ⟨Av, cv, rfl⟩ := own_slice hrow
    have v0 := hv.cell
    have HV := Lib.hid hv
    have HROW := Lib.hid hrow
    obtain ⟨i0, hi, hz0, hz1, hz2⟩ := info_parts info_l
    have HI0 := Lib.hid hi
    have HZ0 := Lib.hid hz0
    have HZ1 := Lib.hid hz1
    have HZ2 := Lib.hid hz2
    have hpl : pre.length ≤ 1000000 := by obtain ⟨post, hp⟩ := hx; have := congrArg List.length hp; simp at this; omega
    clear hI hx hv hrow hi hz0 hz1 hz2 hcl
    gi_wp2_with (gi_at_builtin; go_loud (refine wpListIn_append_own _ rfl _ _ 22 rfl (w.heap.size + 1) 2 i0 _ 1 8 Tryz.underlying22 HI0.out HZ0.out HZ1.out HZ2.out rfl (by decide) _ pre.length (pre.flatMap iC) rfl (HROW.out.alloc _) ⟨W.heap.size, 0, none⟩ 1 1 (iC x) rfl rfl (new_cells W (iC x) 2) (iC_one x) (by unfold maxLen; omega) (by omega) (by have := HI.out.size; simp; omega) ?_); intro v' w1 hown' hgrow _; have HSTEP := Lib.hid (appd_step HI.out HV.out HROW.out hown' hgrow); have q0 := HSTEP.out.1.cell; have q1 := HSTEP.out.1.frozen; obtain ⟨g', cap', rfl⟩ := ownsRow_succ hown'; clear hown' hgrow)
    rw [hsz]
    exact HSTEP.out.2
  case done =>
    rintro xs' W rfl hI hK
    obtain ⟨v, hv, hrow, _⟩ := hI.list
    have v0 := hv.cell
    obtain ⟨Av, cv, rfl⟩ := own_slice hrow
    have HI := Lib.hid hI
    have HROW := Lib.hid hrow
    have HK := Lib.hid hK
    rw [hsz] at HK
    clear hI hrow hK hv hcl
    gi_wp2
    rw [hsz]
    refine ⟨by simp, .inl ⟨_, _, rfl, run_takeDeferred HK.out, ?_⟩⟩
    have hgp := grownBy_putObj' W (w.heap.size + 1) (.deferred none)
    refine ⟨_, results_tmp rfl _ _ _, Av, cv, rfl, ?_, ?_⟩
    · exact (ownsRow_putObj HROW.out _ HK.out rfl).mono (by omega)
    · exact HI.out.below.grown hgp (by have := HI.out.below.size; exact this) (fun k e => by cases e; omega)
  case stop =>
    rintro c pre W h _
    exact h.elim
theorem collect_l (xs : List Int) (hlen : xs.length ≤ 1000000) (g c : Nat) (A : Option Addr) (w : World) (hbox : Cells w g #[.slice A xs.length c] 22) (hA : RowC iC 1 w w.heap.size A xs) :
    Calls Tryz.prog 51 #[.func (.func 53) #[] #[.pointer (some ⟨g, 0, none⟩)]] w (OwnPost_l xs w) := by
  have HX := Lib.hid (appendSeq_l xs hlen g c A w hbox hA)
  clear hbox hA
  go_enter Tryz.func51, Tryz.ntmps51
  go_wp2_with (go_at_call 78; go_loud (refine HX.out.mono ?_; rintro e w1 ⟨A1, c1, rfl, h1, h2⟩; have H1 := Lib.hid h1; have H2 := Lib.hid h2; clear h1 h2))
  go_ret
  exact ⟨A1, c1, rfl, H1.out, H2.out⟩
/-- In order. -/
theorem sorted_l (xs : List Int) (hlen : xs.length ≤ 1000000) (g c : Nat) (A : Option Addr) (w : World) (hbox : Cells w g #[.slice A xs.length c] 22) (hA : RowC iC 1 w w.heap.size A xs) :
    Calls Tryz.prog 34 #[.func (.func 53) #[] #[.pointer (some ⟨g, 0, none⟩)]] w (OwnPost_l (xs.mergeSort fun x y => decide (x ≤ y)) w) := by
  have HX := Lib.hid (collect_l xs hlen g c A w hbox hA)
  clear hbox hA
  have HL := Lib.hid (show (xs.mergeSort fun x y => decide (x ≤ y)).length = xs.length from List.length_mergeSort xs)
  go_enter Tryz.func34, Tryz.ntmps34
  go_wp2_with (first
    | (go_at_call 51; go_loud (refine HX.out.mono ?_; rintro e w1 ⟨A1, c1, rfl, h1, h2⟩; have H1 := Lib.hid h1; have H2 := Lib.hid h2; clear h1 h2))
    | (go_at_call 52; go_loud (refine (sort_l xs A1 c1 w.heap.size w1 (by have := H1.out; rwa [iC_map] at this) (by omega)).mono ?_; rintro e w2 ⟨rfl, h1, h2⟩; have H3 := Lib.hid h1; have H4 := Lib.hid h2; clear h1 h2)))
  go_ret
  exact ⟨A1, c1, by rw [HL.out]; rfl, by rw [HL.out, iC_map]; exact H3.out, H2.out.trans H4.out⟩
/-- slices.Values: the iterator, and its box. -/
theorem valuesOf_l (A : Option Addr) (n c : Nat) (w : World) : Calls Tryz.prog 35 #[.slice A n c] w fun e w' => e = .returned (.func (.func 53) #[] #[.pointer (some ⟨w.heap.size, 0, none⟩)]) ∧ w' = w.alloc (.cells #[.slice A n c] 22) := by
  go_enter Tryz.func35, Tryz.ntmps35
  go_wp2
  go_ret
  exact ⟨by simp, rfl⟩

theorem info_i : (Tryz.prog.info? 3).map (fun i => (i.zero, i.size, i.bytes)) = some (some (.int .i64 0), 1, 8) := by kernel_rfl
set_option maxRecDepth 100000 in
set_option maxHeartbeats 2000000 in
theorem values_i (n : Nat) (hn : 1 ≤ n) (xs : List Int) (hlen : xs.length ≤ 140737488355328) (g c D : Nat) (A : Option Addr) (w0 : World) (hg : g < D) (hD : D ≤ w0.heap.size) (hbox : Cells w0 g #[.slice A xs.length c] 27) (hA : RowC iC 1 w0 D A xs) :
    SeqMem Fence.wide n Tryz.prog 56 #[.pointer (some ⟨g, 0, none⟩)] (fun x : Int => #[.int .i64 x]) (fun pre x _ => ∃ post, xs = pre ++ x :: post) (Mid 0 D) (fun ys => ys = xs) w0 := by
  intro L J Jx W hW hJ hJx hY h0
  have HA := Lib.hid hA
  have HJ := Lib.hid hJ
  have HY := Lib.hid hY
  have HD := Lib.hid hD
  have hbw : W.heap[g]? = some (.cells #[.slice A xs.length c] 27 (0, 0)) := (hW.2 g (Nat.zero_le _) hg).trans hbox
  have c0 : W.cell? ⟨g, 0, none⟩ = some (.slice A xs.length c) := (show Cells W g #[.slice A xs.length c] 27 from hbw).cell 0
  clear hbox hA hJ hJx hY hg hbw hD
  refine callsIn_of_wp Tryz.func56 rfl trivial ?_ rfl
  simp only [Tryz.ntmps56, List.size_toArray, List.length_cons, List.length_nil, Nat.reduceAdd, Nat.reduceSub, Array.replicate_succ, Array.replicate_zero, List.push_toArray, List.append_toArray, List.nil_append, List.cons_append]
  gi_wp2
  gi_loopw [7] (fun i wr => ∃ k : Nat, i = .int .i64 (k : Int) ∧ k ≤ xs.length ∧ J (xs.take k) wr ∧ Mid 0 D w0 wr) (fun i _ => xs.length - (intOf i).toNat)
  case atStart => exact ⟨0, rfl, Nat.zero_le _, h0, hW⟩
  case round =>
    obtain ⟨k, rfl, hk, hJp, hmid⟩ := hrel
    have HJP := Lib.hid hJp
    have HMID := Lib.hid hmid
    clear hJp hmid
    by_cases hlt : k < xs.length
    · obtain ⟨b, off, hq, hb, hcell⟩ := ints_r (HA.out.mid HD.out HMID.out) k hlt
      subst hq
      have HT := Lib.hid (show xs.take (k + 1) = xs.take k ++ [xs[k]] by rw [List.take_add_one, List.getElem?_eq_getElem hlt]; rfl)
      have HP := Lib.hid (show ∃ post, xs = xs.take k ++ xs[k] :: post from ⟨xs.drop (k + 1), by rw [← List.drop_eq_getElem_cons hlt, List.take_append_drop]⟩)
      obtain ⟨x, hx⟩ : ∃ x, xs[k] = x := ⟨_, rfl⟩
      rw [hx] at hcell HT HP
      clear hx
      obtain ⟨fn, tmps_, assign, body, hy, hR⟩ := HY.out _ x wr HJP.out HP.out
      have HR := Lib.hid hR
      clear hR
      gi_wp2
      refine HR.out.mono ?_
      rintro e W3 (⟨rfl, hJ3, hk3⟩ | ⟨rfl, hJx3⟩)
      · have HJ3 := Lib.hid hJ3
        have HM3 := Lib.hid (Mid.trans HMID.out hk3)
        clear hJ3 hk3
        gi_wp2
        go_roundw
        case rel => exact ⟨k + 1, by go_num, by omega, by rw [HT.out]; exact HJ3.out, HM3.out⟩
        case measure => simp [intOf]; omega
      · have HJ3 := Lib.hid hJx3
        clear hJx3
        gi_wp2
        refine bodyPost_ret (results_none rfl _ _ _) rfl ?_
        exact ⟨⟨_, rfl⟩, .inr ⟨_, HJ3.out⟩⟩
    · have hke : k = xs.length := by omega
      have h := HJP.out
      rw [List.take_of_length_le (by omega)] at h
      have HE := Lib.hid h
      clear h hke
      gi_wp2
      go_end0
      exact ⟨⟨_, rfl⟩, .inl ⟨_, rfl, HE.out⟩⟩
/-- The numbers, in a slice of its own. -/
def OwnPost_i (xs : List Int) (w : World) (e : Ending) (w' : World) : Prop :=
  ∃ A c, e = .returned (.slice A xs.length c) ∧ w'.ownsRow w.heap.size 3 1 (.slice A xs.length c) xs.length (xs.flatMap iC) ∧ Below w.heap.size w w'
set_option maxRecDepth 100000 in
set_option maxHeartbeats 4000000 in
theorem appendSeq_i (xs : List Int) (hlen : xs.length ≤ 1000000) (g c : Nat) (A : Option Addr) (w : World) (hbox : Cells w g #[.slice A xs.length c] 27) (hA : RowC iC 1 w w.heap.size A xs) :
    Calls Tryz.prog 81 #[.slice none 0 0, .func (.func 56) #[] #[.pointer (some ⟨g, 0, none⟩)]] w (OwnPost_i xs w) := by
  refine (callsIn_wide (n := 6)).1 ?_
  have HBX := Lib.hid hbox
  have HA := Lib.hid hA
  clear hbox hA
  refine callsIn_of_wp_marks Tryz.func81 rfl trivial ?_ rfl
  simp only [Tryz.ntmps81, List.size_toArray, List.length_cons, List.length_nil, Nat.reduceAdd, Nat.reduceSub, Array.replicate_succ, Array.replicate_zero, List.push_toArray, List.append_toArray, List.nil_append, List.cons_append]
  gi_wp2
  obtain ⟨W0, hW0⟩ : ∃ W0, w.alloc (.cells #[.slice none 0 0] 27) = W0 := ⟨_, rfl⟩
  have hsz : W0.heap.size = w.heap.size + 1 := by rw [← hW0]; simp
  have HB0 := Lib.hid (show Below w.heap.size w W0 by rw [← hW0]; exact (Below.refl _ w).alloc (Nat.le_refl _) _)
  have hcl : Boxed W0 w.heap.size 27 (.slice none 0 0) := by rw [← hW0]; exact Boxed.new w _ _
  rw [hW0]
  clear hW0
  have hgl := HBX.out.lt
  refine range_mem rfl (by omega) (gf := 56) (lb := #[.pointer (some ⟨g, 0, none⟩)]) rfl trivial (enters_of Tryz.func56 (by kernel_rfl) rfl)
    (values_i _ (by omega) xs (by omega) g c w.heap.size A W0 hgl (by omega) ((HB0.out.block g hgl).trans HBX.out) (HA.out.below HB0.out)) (fun _ => rfl)
    Mid.trans (Mid.refl _ _ _) (fun h hg => Mid.grown h (by omega) hg) (fun W o => ⟨by simp, fun k _ h2 => World.putObj_heap_other (by omega)⟩)
    (Appd 27 3 w.heap.size w) (fun _ _ _ => False) (by rw [hsz]; exact appd_own _ _ _ _ (Nat.le_refl _)) (fun _ _ _ _ _ hs _ _ => hs) (fun pre x X Y row hs hg hr => hs)
    ⟨⟨_, hcl, World.ownsRow_nil _ _ _ _, trivial⟩, HB0.out, by omega⟩
    ?a1 ?assign ?body ?done ?stop
  case assign =>
    intro l0 x W K hK
    gi_wp2
    exact hK
  case body =>
    rintro l0 pre x W hI hx
    have HI := Lib.hid hI
    obtain ⟨v, hv, hrow, _⟩ := hI.list
    obtain ⟨Av, cv, rfl⟩ := own_slice hrow
    have v0 := hv.cell
    have HV := Lib.hid hv
    have HROW := Lib.hid hrow
    obtain ⟨i0, hi, hz0, hz1, hz2⟩ := info_parts info_i
    have HI0 := Lib.hid hi
    have HZ0 := Lib.hid hz0
    have HZ1 := Lib.hid hz1
    have HZ2 := Lib.hid hz2
    have hpl : pre.length ≤ 1000000 := by obtain ⟨post, hp⟩ := hx; have := congrArg List.length hp; simp at this; omega
    clear hI hx hv hrow hi hz0 hz1 hz2 hcl
    gi_wp2_with (gi_at_builtin; go_loud (refine wpListIn_append_own _ rfl _ _ 27 rfl (w.heap.size + 1) 3 i0 _ 1 8 Tryz.underlying27 HI0.out HZ0.out HZ1.out HZ2.out rfl (by decide) _ pre.length (pre.flatMap iC) rfl (HROW.out.alloc _) ⟨W.heap.size, 0, none⟩ 1 1 (iC x) rfl rfl (new_cells W (iC x) 3) (iC_one x) (by unfold maxLen; omega) (by omega) (by have := HI.out.size; simp; omega) ?_); intro v' w1 hown' hgrow _; have HSTEP := Lib.hid (appd_step HI.out HV.out HROW.out hown' hgrow); have q0 := HSTEP.out.1.cell; have q1 := HSTEP.out.1.frozen; obtain ⟨g', cap', rfl⟩ := ownsRow_succ hown'; clear hown' hgrow)
    rw [hsz]
    exact HSTEP.out.2
  case done =>
    rintro xs' W rfl hI hK
    obtain ⟨v, hv, hrow, _⟩ := hI.list
    have v0 := hv.cell
    obtain ⟨Av, cv, rfl⟩ := own_slice hrow
    have HI := Lib.hid hI
    have HROW := Lib.hid hrow
    have HK := Lib.hid hK
    rw [hsz] at HK
    clear hI hrow hK hv hcl
    gi_wp2
    rw [hsz]
    refine ⟨by simp, .inl ⟨_, _, rfl, run_takeDeferred HK.out, ?_⟩⟩
    have hgp := grownBy_putObj' W (w.heap.size + 1) (.deferred none)
    refine ⟨_, results_tmp rfl _ _ _, Av, cv, rfl, ?_, ?_⟩
    · exact (ownsRow_putObj HROW.out _ HK.out rfl).mono (by omega)
    · exact HI.out.below.grown hgp (by have := HI.out.below.size; exact this) (fun k e => by cases e; omega)
  case stop =>
    rintro c pre W h _
    exact h.elim
theorem collect_i (xs : List Int) (hlen : xs.length ≤ 1000000) (g c : Nat) (A : Option Addr) (w : World) (hbox : Cells w g #[.slice A xs.length c] 27) (hA : RowC iC 1 w w.heap.size A xs) :
    Calls Tryz.prog 54 #[.func (.func 56) #[] #[.pointer (some ⟨g, 0, none⟩)]] w (OwnPost_i xs w) := by
  have HX := Lib.hid (appendSeq_i xs hlen g c A w hbox hA)
  clear hbox hA
  go_enter Tryz.func54, Tryz.ntmps54
  go_wp2_with (go_at_call 81; go_loud (refine HX.out.mono ?_; rintro e w1 ⟨A1, c1, rfl, h1, h2⟩; have H1 := Lib.hid h1; have H2 := Lib.hid h2; clear h1 h2))
  go_ret
  exact ⟨A1, c1, rfl, H1.out, H2.out⟩
/-- In order. -/
theorem sorted_i (xs : List Int) (hlen : xs.length ≤ 1000000) (g c : Nat) (A : Option Addr) (w : World) (hbox : Cells w g #[.slice A xs.length c] 27) (hA : RowC iC 1 w w.heap.size A xs) :
    Calls Tryz.prog 36 #[.func (.func 56) #[] #[.pointer (some ⟨g, 0, none⟩)]] w (OwnPost_i (xs.mergeSort fun x y => decide (x ≤ y)) w) := by
  have HX := Lib.hid (collect_i xs hlen g c A w hbox hA)
  clear hbox hA
  have HL := Lib.hid (show (xs.mergeSort fun x y => decide (x ≤ y)).length = xs.length from List.length_mergeSort xs)
  go_enter Tryz.func36, Tryz.ntmps36
  go_wp2_with (first
    | (go_at_call 54; go_loud (refine HX.out.mono ?_; rintro e w1 ⟨A1, c1, rfl, h1, h2⟩; have H1 := Lib.hid h1; have H2 := Lib.hid h2; clear h1 h2))
    | (go_at_call 55; go_loud (refine (sort_i xs A1 c1 w.heap.size w1 (by have := H1.out; rwa [iC_map] at this) (by omega)).mono ?_; rintro e w2 ⟨rfl, h1, h2⟩; have H3 := Lib.hid h1; have H4 := Lib.hid h2; clear h1 h2)))
  go_ret
  exact ⟨A1, c1, by rw [HL.out]; rfl, by rw [HL.out, iC_map]; exact H3.out, H2.out.trans H4.out⟩
/-- slices.Values: the iterator, and its box. -/
theorem valuesOf_i (A : Option Addr) (n c : Nat) (w : World) : Calls Tryz.prog 37 #[.slice A n c] w fun e w' => e = .returned (.func (.func 56) #[] #[.pointer (some ⟨w.heap.size, 0, none⟩)]) ∧ w' = w.alloc (.cells #[.slice A n c] 27) := by
  go_enter Tryz.func37, Tryz.ntmps37
  go_wp2
  go_ret
  exact ⟨by simp, rfl⟩
end Go.Proofs.YtkcnmajjfljilaaGreatDoor

/- source: Deal of int64 and int. -/
namespace Go.Proofs.YtkcnmajjfljilaaGreatDoor
open Go Go.ChangeShapes Go.WideShapes Go.ChangeAt Go.RowKit Go.ChangeMaps Go.MapKept
set_option linter.unusedVariables false
set_option linter.unusedSimpArgs false

def srt (xs : List Int) : List Int := xs.mergeSort fun x y => decide (x ≤ y)
theorem srt_length (xs : List Int) : (srt xs).length = xs.length := List.length_mergeSort xs
theorem srt_perm (xs : List Int) : (srt xs).Perm xs := List.mergeSort_perm xs _
theorem srt_rise (xs : List Int) : (srt xs).Pairwise (· ≤ ·) := by
  have := List.pairwise_mergeSort (le := fun x y : Int => decide (x ≤ y)) (fun a b c h1 h2 => by simp at *; omega) (fun a b => by simp; omega) xs
  exact this.imp (fun h => by simpa using h)
def In64s (xs : List Int) : Prop := ∀ x ∈ xs, -9223372036854775808 ≤ x ∧ x ≤ 9223372036854775807
/-- How many rounds are whole, and how many are taken behind these. -/
def rW (xs : List Int) (most : Int) : Int := (rnds (srt xs) (max most 0) 0).1
def rM (xs : List Int) (most : Int) : Int := (rnds (srt xs) (max most 0) 0).2
theorem rfit (xs : List Int) (most : Int) : Fit xs (max most 0) (rW xs most) (rM xs most) := fit_rnds (srt_perm xs) (srt_rise xs) (by omega)
theorem rnds_drop {l : List Int} {k : Nat} (hk : k < l.length) (m W : Int) : rnds (l.drop k) m W =
    if l[k] ≤ W then rnds (l.drop (k + 1)) m W
    else if m / ((l.length : Int) - k) < l[k] - W then (W + m / ((l.length : Int) - k), m % ((l.length : Int) - k))
    else rnds (l.drop (k + 1)) (m - (l[k] - W) * ((l.length : Int) - k)) l[k] := by
  rw [List.drop_eq_getElem_cons hk]
  conv => lhs; unfold rnds
  have e : ((l.drop (k + 1)).length : Int) + 1 = (l.length : Int) - k := by rw [List.length_drop]; omega
  rw [e]
theorem rnds_end {l : List Int} {k : Nat} (hk : ¬ k < l.length) (m W : Int) : rnds (l.drop k) m W = (W, 0) := by
  rw [List.drop_eq_nil_of_le (by omega)]; rfl
/-- Between two heaps: what is left to take, and the rounds that are whole. -/
structure Rd (ks : List Int) (m0 : Int) (k : Nat) (m W : Int) : Prop where
  eq : rnds (ks.drop k) m W = rnds ks m0 0
  m : 0 ≤ m ∧ m ≤ 9223372036854775807
  W : 0 ≤ W ∧ W ≤ 9223372036854775807
theorem Rd.less {ks : List Int} {m0 m W : Int} {k : Nat} (h : Rd ks m0 k m W) (hk : k < ks.length) (h1 : ks[k] ≤ W) : Rd ks m0 (k + 1) m W :=
  ⟨by rw [← h.eq, rnds_drop hk, if_pos h1], h.m, h.W⟩
theorem Rd.stop {ks : List Int} {m0 m W : Int} {k : Nat} (h : Rd ks m0 k m W) (hk : k < ks.length) (h1 : ¬ ks[k] ≤ W) (h2 : m / ((ks.length : Int) - k) < ks[k] - W) : rnds ks m0 0 = (W + m / ((ks.length : Int) - k), m % ((ks.length : Int) - k)) := by
  rw [← h.eq, rnds_drop hk, if_neg h1, if_pos h2]
theorem Rd.next {ks : List Int} {m0 m W : Int} {k : Nat} (h : Rd ks m0 k m W) (hin : In64s ks) (hk : k < ks.length) (h1 : ¬ ks[k] ≤ W) (h2 : ¬ m / ((ks.length : Int) - k) < ks[k] - W) :
    Rd ks m0 (k + 1) (m - (ks[k] - W) * ((ks.length : Int) - k)) ks[k] ∧ 0 ≤ (ks[k] - W) * ((ks.length : Int) - k) ∧ (ks[k] - W) * ((ks.length : Int) - k) ≤ m := by
  have hn : 0 < (ks.length : Int) - k := by omega
  have h3 : (ks[k] - W) * ((ks.length : Int) - k) ≤ m := (Int.le_ediv_iff_mul_le hn).1 (by omega)
  have h4 : 0 ≤ (ks[k] - W) * ((ks.length : Int) - k) := Int.mul_nonneg (by omega) (by omega)
  have h5 := hin _ (List.getElem_mem hk)
  have h6 := h.m
  have h7 := h.W
  exact ⟨⟨by rw [← h.eq, rnds_drop hk, if_neg h1, if_neg h2], by omega, by omega⟩, h4, h3⟩
theorem Rd.end_ {ks : List Int} {m0 m W : Int} {k : Nat} (h : Rd ks m0 k m W) (hk : ¬ k < ks.length) : rnds ks m0 0 = (W, 0) := by rw [← h.eq, rnds_end hk]

/-- What is dealt, when the heaps ahead of k have been looked at. -/
def dl (xs : List Int) (W m : Int) (k : Nat) : List Int := (dealL xs W m).take k ++ List.replicate (xs.length - k) 0
theorem dl_length (xs : List Int) (W m : Int) {k : Nat} (hk : k ≤ xs.length) : (dl xs W m k).length = xs.length := by
  unfold dl; rw [List.length_append, List.length_take, dealL_length, List.length_replicate]; omega
theorem dl_all (xs : List Int) (W m : Int) : dl xs W m xs.length = dealL xs W m := by
  unfold dl; rw [Nat.sub_self, ← dealL_length xs W m, List.take_length]; simp
theorem dl_next {xs : List Int} {W m : Int} {k : Nat} (hk : k < xs.length) {v : Int} (hv : (dealL xs W m)[k]? = some v) : (dl xs W m k).set k v = dl xs W m (k + 1) := by
  have hl : k < (dealL xs W m).length := by rw [dealL_length]; exact hk
  obtain ⟨_, hv2⟩ := List.getElem?_eq_some_iff.1 hv
  unfold dl
  rw [List.set_append_right _ _ (by rw [List.length_take]; omega), List.length_take, Nat.min_eq_left (by omega), Nat.sub_self]
  rw [show xs.length - k = (xs.length - (k + 1)) + 1 by omega, List.replicate_succ, List.set_cons_zero, List.take_add_one, hv]
  simp
theorem dl_zero (xs : List Int) (W m : Int) : dl xs W m 0 = List.replicate xs.length 0 := by unfold dl; simp
/-- How many are left behind whole rounds, ahead of heap k. -/
def lft (xs : List Int) (W m : Int) (k : Nat) : Int := remn (xs.take k) ((lvl xs W).take k) m
theorem lft_zero (xs : List Int) (W m : Int) : lft xs W m 0 = m := by unfold lft; simp [remn]
theorem lft_next {xs : List Int} {W m : Int} {k : Nat} (hk : k < xs.length) : lft xs W m (k + 1) = if 0 < lft xs W m k ∧ lv W xs[k] < xs[k] then lft xs W m k - 1 else lft xs W m k := by
  unfold lft
  rw [remn_take xs (lvl xs W) m k hk (by rw [lvl_length]; exact hk), lvl_at hk]
theorem deal_k {xs : List Int} {W m : Int} {k : Nat} (hk : k < xs.length) : (dealL xs W m)[k]? = some (if 0 < lft xs W m k ∧ lv W xs[k] < xs[k] then lv W xs[k] + 1 else lv W xs[k]) := deal_at xs W m hk
/-- Between two heaps. -/
structure Dl (xs : List Int) (W m : Int) (t : TypeId) (B D : Nat) (k : Nat) (w wr : World) : Prop where
  cells : Cells wr D (iA (dl xs W m k)) t
  below : Below B w wr
theorem Dl.one {xs : List Int} {W m : Int} {t : TypeId} {B D k : Nat} {w wr : World} (h : Dl xs W m t B D k w wr) (hB : B ≤ D) (hk : k < xs.length) (v : Int) (hv : (dealL xs W m)[k]? = some v) : Dl xs W m t B D (k + 1) w (wr.setCell ⟨D, k, none⟩ (.int .i64 v)) := by
  refine ⟨?_, h.below.setCell (p := ⟨D, k, none⟩) hB _⟩
  have := h.cells.iset k v
  rwa [dl_next hk hv] at this
theorem Dl.two {xs : List Int} {W m : Int} {t : TypeId} {B D k : Nat} {w wr : World} (h : Dl xs W m t B D k w wr) (hB : B ≤ D) (hk : k < xs.length) (u v : Int) (hv : (dealL xs W m)[k]? = some v) : Dl xs W m t B D (k + 1) w ((wr.setCell ⟨D, k, none⟩ (.int .i64 u)).setCell ⟨D, k, none⟩ (.int .i64 v)) := by
  refine ⟨?_, (h.below.setCell (p := ⟨D, k, none⟩) hB _).setCell (p := ⟨D, k, none⟩) hB _⟩
  have := (h.cells.iset k u).iset k v
  rwa [List.set_set, dl_next hk hv] at this

set_option maxRecDepth 100000 in
set_option maxHeartbeats 4000000 in
theorem rounds_l (xs : List Int) (hin : In64s xs) (hlen : xs.length ≤ 1000) (c : Nat) (A : Option Addr) (most : Int) (hm : most ≤ 9223372036854775807) (w : World) (hA : RowC iC 1 w w.heap.size A xs) :
    Calls Tryz.prog 22 #[.slice A xs.length c, .int .i64 most] w fun e w' => e = .returned (.tuple #[.int .i64 (rW xs most), .int .i64 (rM xs most)]) ∧ Below w.heap.size w w' := by
  have HS := Lib.hid (fun g W (hb : Cells W g #[.slice A xs.length c] 22) (hr : RowC iC 1 W W.heap.size A xs) => (show Calls Tryz.prog 34 #[.func (.func 53) #[] #[.pointer (some ⟨g, 0, none⟩)]] W (OwnPost_l (srt xs) W) from sorted_l xs (by omega) g c A W hb hr))
  have HA := Lib.hid hA
  have HIN := Lib.hid (show In64s (srt xs) from fun x hx => hin x ((srt_perm xs).mem_iff.1 hx))
  have hsl := srt_length xs
  obtain ⟨m0, hm0⟩ : ∃ m0, max most 0 = m0 := ⟨_, rfl⟩
  have hmb : 0 ≤ m0 ∧ m0 ≤ 9223372036854775807 := by omega
  have HQ := Lib.hid (show rW xs most = (rnds (srt xs) m0 0).1 ∧ rM xs most = (rnds (srt xs) m0 0).2 by rw [← hm0]; exact ⟨rfl, rfl⟩)
  obtain ⟨RW, hRW⟩ : ∃ R, rW xs most = R := ⟨_, rfl⟩
  obtain ⟨RM, hRM⟩ : ∃ R, rM xs most = R := ⟨_, rfl⟩
  rw [hRW, hRM] at HQ
  rw [hRW, hRM]
  clear hA hin hm hRW hRM
  obtain ⟨ks, hks⟩ : ∃ ks, srt xs = ks := ⟨_, rfl⟩
  rw [hks] at HS HIN HQ hsl
  clear hks
  have hkl : ks.length ≤ 1000 := by omega
  have HSL := Lib.hid hsl
  clear hsl
  rcases Int.lt_or_le most 0 with hneg | hneg
  · have HST0 := Lib.hid (show Rd ks m0 0 0 0 from ⟨by rw [show m0 = 0 by omega]; rfl, by omega, by omega⟩)
    have hneg2 : most < 0 := hneg
    have hmx : max most 0 = 0 := by omega
    clear hm0 hmb
    go_enter Tryz.func22, Tryz.ntmps22
    go_wp2_with (first
      | (go_at_call 35; go_loud (refine (valuesOf_l _ _ _ _).mono ?_; rintro e w1 ⟨rfl, rfl⟩))
      | (go_at_call 34; go_loud (refine (HS.out _ _ (Cells.new w _ _) ((HA.out.below ((Below.refl _ w).alloc (Nat.le_refl _) _)).more (by simp))).mono ?_; rintro e w2 ⟨A2, c2, rfl, h1, h2⟩; have H1 := Lib.hid (RowC.iown h1).2; have H2 := Lib.hid (((Below.refl _ w).alloc (Nat.le_refl _) _).trans (h2.mono (by simp))); clear h1 h2)))
    go_loopw [1, 4, 17] (fun mv wv iv wr => ∃ (k : Nat) (m W : Int), mv = .int .i64 m ∧ wv = .int .i64 W ∧ iv = .int .i64 (k : Int) ∧ k ≤ ks.length ∧ Hid (Rd ks m0 k m W) ∧ wr = w2) (fun _ _ iv _ => ks.length - (intOf iv).toNat)
    case atStart => exact ⟨0, _, 0, rfl, rfl, rfl, Nat.zero_le _, HST0, rfl⟩
    case round =>
      obtain ⟨k, m, W, rfl, rfl, rfl, hk, HR, rfl⟩ := hrel
      have hmm := HR.out.m
      have hWW := HR.out.W
      by_cases hlt : k < ks.length
      · obtain ⟨b, off, rfl, hb, hcell⟩ := ints_r H1.out k hlt
        have hh := HIN.out _ (List.getElem_mem hlt)
        have HLE := Lib.hid (HR.out.less hlt)
        have HST := Lib.hid (HR.out.stop hlt)
        have HNX := Lib.hid (HR.out.next HIN.out hlt)
        have hlt2 : (k : Int) < (ks.length : Int) := by omega
        obtain ⟨h, hh0⟩ : ∃ h, ks[k] = h := ⟨_, rfl⟩
        rw [hh0] at hcell hh HLE HST HNX
        clear hh0
        by_cases e1 : h ≤ W
        · have HN := Lib.hid (HLE.out e1)
          clear HLE HST HNX hmm hWW
          go_wp2_with fail
          go_roundw
          case rel => exact ⟨k + 1, m, W, rfl, rfl, by go_num, hlt, HN, trivial⟩
          case measure => simp [intOf]; omega
        · obtain ⟨n, hn⟩ : ∃ n : Int, n = (ks.length : Int) - (k : Int) := ⟨_, rfl⟩
          rw [← hn] at HST HNX
          have hn1 : 1 ≤ n ∧ n ≤ 1000 := by omega
          have hn0 : ¬ n = 0 := by omega
          have hq : Int.tdiv m n = m / n := Int.tdiv_eq_ediv_of_nonneg hmm.1
          have hr : Int.tmod m n = m % n := Int.tmod_eq_emod_of_nonneg hmm.1
          have hq0 : 0 ≤ m / n := Int.ediv_nonneg hmm.1 (by omega)
          have hqm : m / n ≤ m := Int.ediv_le_self _ hmm.1
          have hwn : (ks.length : Int) - (k : Int) = n := hn.symm
          have HNN := Lib.hid hn
          clear hn
          by_cases e2 : m / n < h - W
          · have HE := Lib.hid (HST.out e1 e2)
            clear HLE HST HNX
            go_wp2_with fail
            go_region
            all_goals go_wp2_with fail
            all_goals go_ret2
            all_goals exact ⟨by rw [HQ.out.1, HQ.out.2, HE.out]; rfl, below_more H2.out _⟩
          · obtain ⟨g1, g2, g3⟩ := HNX.out e1 e2
            have HN := Lib.hid g1
            obtain ⟨p, hp⟩ : ∃ p, (h - W) * n = p := ⟨_, rfl⟩
            rw [hp] at g2 g3 HN
            clear HLE HST HNX g1
            go_wp2_with fail
            go_roundw
            case rel => exact ⟨k + 1, m - p, h, rfl, rfl, by go_num, hlt, HN, trivial⟩
            case measure => simp [intOf]; omega
      · obtain rfl : k = ks.length := by omega
        have HE := Lib.hid (HR.out.end_ hlt)
        clear hmm hWW
        go_wp2_with fail
        go_ret2
        exact ⟨by rw [HQ.out.1, HQ.out.2, HE.out]; rfl, H2.out⟩
  · have HST0 := Lib.hid (show Rd ks m0 0 most 0 from ⟨by rw [show m0 = most by omega]; rfl, by omega, by omega⟩)
    have hneg2 : ¬ most < 0 := by omega
    have hmx : max most 0 = most := by omega
    clear hm0 hmb
    go_enter Tryz.func22, Tryz.ntmps22
    go_wp2_with (first
      | (go_at_call 35; go_loud (refine (valuesOf_l _ _ _ _).mono ?_; rintro e w1 ⟨rfl, rfl⟩))
      | (go_at_call 34; go_loud (refine (HS.out _ _ (Cells.new w _ _) ((HA.out.below ((Below.refl _ w).alloc (Nat.le_refl _) _)).more (by simp))).mono ?_; rintro e w2 ⟨A2, c2, rfl, h1, h2⟩; have H1 := Lib.hid (RowC.iown h1).2; have H2 := Lib.hid (((Below.refl _ w).alloc (Nat.le_refl _) _).trans (h2.mono (by simp))); clear h1 h2)))
    go_loopw [1, 4, 17] (fun mv wv iv wr => ∃ (k : Nat) (m W : Int), mv = .int .i64 m ∧ wv = .int .i64 W ∧ iv = .int .i64 (k : Int) ∧ k ≤ ks.length ∧ Hid (Rd ks m0 k m W) ∧ wr = w2) (fun _ _ iv _ => ks.length - (intOf iv).toNat)
    case atStart => exact ⟨0, _, 0, rfl, rfl, rfl, Nat.zero_le _, HST0, rfl⟩
    case round =>
      obtain ⟨k, m, W, rfl, rfl, rfl, hk, HR, rfl⟩ := hrel
      have hmm := HR.out.m
      have hWW := HR.out.W
      by_cases hlt : k < ks.length
      · obtain ⟨b, off, rfl, hb, hcell⟩ := ints_r H1.out k hlt
        have hh := HIN.out _ (List.getElem_mem hlt)
        have HLE := Lib.hid (HR.out.less hlt)
        have HST := Lib.hid (HR.out.stop hlt)
        have HNX := Lib.hid (HR.out.next HIN.out hlt)
        have hlt2 : (k : Int) < (ks.length : Int) := by omega
        obtain ⟨h, hh0⟩ : ∃ h, ks[k] = h := ⟨_, rfl⟩
        rw [hh0] at hcell hh HLE HST HNX
        clear hh0
        by_cases e1 : h ≤ W
        · have HN := Lib.hid (HLE.out e1)
          clear HLE HST HNX hmm hWW
          go_wp2_with fail
          go_roundw
          case rel => exact ⟨k + 1, m, W, rfl, rfl, by go_num, hlt, HN, trivial⟩
          case measure => simp [intOf]; omega
        · obtain ⟨n, hn⟩ : ∃ n : Int, n = (ks.length : Int) - (k : Int) := ⟨_, rfl⟩
          rw [← hn] at HST HNX
          have hn1 : 1 ≤ n ∧ n ≤ 1000 := by omega
          have hn0 : ¬ n = 0 := by omega
          have hq : Int.tdiv m n = m / n := Int.tdiv_eq_ediv_of_nonneg hmm.1
          have hr : Int.tmod m n = m % n := Int.tmod_eq_emod_of_nonneg hmm.1
          have hq0 : 0 ≤ m / n := Int.ediv_nonneg hmm.1 (by omega)
          have hqm : m / n ≤ m := Int.ediv_le_self _ hmm.1
          have hwn : (ks.length : Int) - (k : Int) = n := hn.symm
          have HNN := Lib.hid hn
          clear hn
          by_cases e2 : m / n < h - W
          · have HE := Lib.hid (HST.out e1 e2)
            clear HLE HST HNX
            go_wp2_with fail
            go_region
            all_goals go_wp2_with fail
            all_goals go_ret2
            all_goals exact ⟨by rw [HQ.out.1, HQ.out.2, HE.out]; rfl, below_more H2.out _⟩
          · obtain ⟨g1, g2, g3⟩ := HNX.out e1 e2
            have HN := Lib.hid g1
            obtain ⟨p, hp⟩ : ∃ p, (h - W) * n = p := ⟨_, rfl⟩
            rw [hp] at g2 g3 HN
            clear HLE HST HNX g1
            go_wp2_with fail
            go_roundw
            case rel => exact ⟨k + 1, m - p, h, rfl, rfl, by go_num, hlt, HN, trivial⟩
            case measure => simp [intOf]; omega
      · obtain rfl : k = ks.length := by omega
        have HE := Lib.hid (HR.out.end_ hlt)
        clear hmm hWW
        go_wp2_with fail
        go_ret2
        exact ⟨by rw [HQ.out.1, HQ.out.2, HE.out]; rfl, H2.out⟩

theorem make_l (n : Nat) (hn : n ≤ 1000000) (W : World) : (Instr.makeSlice 22 (.int .i64 (n : Int)) (.int .i64 (n : Int))).run Tryz.prog W = .ok (.slice (some ⟨W.heap.size, 0, none⟩) n n) (W.alloc (.cells (iA (List.replicate n 0)) 2)) := by
  obtain ⟨i0, hi, hz0, hz1, hz2⟩ := info_parts info_l
  have h := run_make (P := Tryz.prog) W 22 2 i0 _ Tryz.underlying22 hi hz0 .i64 .i64 (n : Int) (n : Int) (by omega) (by omega) (by rw [hz2]; omega) (by omega)
  rw [hz1] at h
  simp only [Int.toNat_natCast, Nat.mul_one] at h
  rw [h, ← made_i]
  rfl
def DealPost_l (xs : List Int) (most : Int) (w : World) (e : Ending) (w' : World) : Prop :=
  ∃ D, e = .returned (.slice (some ⟨D, 0, none⟩) xs.length xs.length) ∧ w.heap.size ≤ D ∧ Cells w' D (iA (dealL xs (rW xs most) (rM xs most))) 2 ∧ Below w.heap.size w w'
set_option maxRecDepth 100000 in
set_option maxHeartbeats 4000000 in
theorem deal_l (xs : List Int) (hin : In64s xs) (hlen : xs.length ≤ 1000) (c : Nat) (A : Option Addr) (most : Int) (hm : most ≤ 9223372036854775807) (w : World) (hA : RowC iC 1 w w.heap.size A xs) :
    Calls Tryz.prog 8 #[.slice A xs.length c, .int .i64 most] w (DealPost_l xs most w) := by
  have HX := Lib.hid (rounds_l xs hin hlen c A most hm w hA)
  have HA := Lib.hid hA
  have HIN := Lib.hid hin
  have HF := Lib.hid (rfit xs most)
  have hW0 := HF.out.W0
  have hm0 := HF.out.m0
  obtain ⟨W, hW⟩ : ∃ R, rW xs most = R := ⟨_, rfl⟩
  obtain ⟨m, hmm⟩ : ∃ R, rM xs most = R := ⟨_, rfl⟩
  rw [hW, hmm] at HX HF
  have HPOST := Lib.hid (show ∀ e w', (∃ D, e = .returned (.slice (some ⟨D, 0, none⟩) xs.length xs.length) ∧ w.heap.size ≤ D ∧ Cells w' D (iA (dealL xs W m)) 2 ∧ Below w.heap.size w w') → DealPost_l xs most w e w' by intro e w' h; unfold DealPost_l; rw [hW, hmm]; exact h)
  rw [hW] at hW0
  rw [hmm] at hm0
  have hm1 : m ≤ 1000 := by
    rcases HF.out.or with ⟨h, _⟩ | ⟨h, _⟩
    · have := List.length_filter_le (fun h => decide (W < h)) xs
      unfold lvC at h
      omega
    · omega
  have hmk := fun W => make_l xs.length (by omega) W
  clear hA hin hm hW hmm
  go_enter Tryz.func8, Tryz.ntmps8
  go_wp2_with (go_at_call 22; go_loud (refine HX.out.mono ?_; rintro e w1 ⟨rfl, h1⟩; have HB1 := Lib.hid h1; clear h1))
  have HD := Lib.hid HB1.out.size
  have HDL := Lib.hid (show Dl xs W m 2 w.heap.size w1.heap.size 0 w (w1.alloc (.cells (iA (List.replicate xs.length 0)) 2)) from ⟨by rw [dl_zero]; exact Cells.new _ _ _, HB1.out.alloc HB1.out.size _⟩)
  obtain ⟨D, hD⟩ : ∃ D, w1.heap.size = D := ⟨_, rfl⟩
  rw [hD] at HD HDL ⊢
  clear hD hmk
  go_loopw [6, 21] (fun mv iv wr => ∃ (k : Nat), mv = .int .i64 (lft xs W m k) ∧ iv = .int .i64 (k : Int) ∧ k ≤ xs.length ∧ Hid (Dl xs W m 2 w.heap.size D k w wr)) (fun _ iv _ => xs.length - (intOf iv).toNat)
  case atStart => exact ⟨0, by rw [lft_zero], rfl, Nat.zero_le _, HDL⟩
  case round =>
    obtain ⟨k, rfl, rfl, hk, HR⟩ := hrel
    by_cases hlt : k < xs.length
    · obtain ⟨b, off, hA0, hb, hcell⟩ := ints_r (HA.out.below HR.out.below) k hlt
      subst hA0
      have hh := HIN.out _ (List.getElem_mem hlt)
      have hdk := deal_k (W := W) (m := m) hlt
      have hlk := lft_next (W := W) (m := m) hlt
      have hd0 : wr.cell? ⟨D, k, none⟩ = some (.int .i64 0) := by
        have h1 := HR.out.cells.iat (k := k) (by rw [dl_length _ _ _ hk]; exact hlt)
        rw [h1]
        unfold dl
        rw [List.getElem_append_right (by rw [List.length_take]; omega)]
        simp
      have hd1 := HR.out.cells.frozen k
      have hlt2 : (k : Int) < (xs.length : Int) := by omega
      obtain ⟨h, hh0⟩ : ∃ h, xs[k] = h := ⟨_, rfl⟩
      rw [hh0] at hcell hh hdk hlk
      clear hh0
      obtain ⟨M, hM⟩ : ∃ M, lft xs W m k = M := ⟨_, rfl⟩
      rw [hM] at hdk hlk ⊢
      have hMb : M ≤ m := by rw [← hM]; exact (remn_le _ _ _ hm0).2
      have hM0 : 0 ≤ M := by rw [← hM]; exact (remn_le _ _ _ hm0).1
      have hDW : D < wr.heap.size := HR.out.cells.lt
      clear hM
      by_cases e1 : h < 0
      · have HL := Lib.hid (show lft xs W m (k + 1) = M by rw [hlk, if_neg (by unfold lv; omega)])
        have HV := Lib.hid (HR.out.one HD.out hlt 0 (by rw [hdk, if_neg (by unfold lv; omega)]; unfold lv; rw [show max (min h W) 0 = 0 by omega]))
        have q1 : min h W = h := by omega
        have q4 : max h 0 = 0 := by omega
        have q3 : ¬ W < h := by omega
        clear hdk hlk
        go_wp2_with fail
        go_roundw
        case rel => exact ⟨k + 1, by rw [HL.out], by go_num, hlt, HV⟩
        case measure => simp [intOf]; omega
      · by_cases e2 : W < h
        · have q1 : min h W = W := by omega
          have q4 : max W 0 = W := by omega
          have q2 : ¬ W < 0 := by omega
          by_cases e3 : 0 < M
          · have HL := Lib.hid (show lft xs W m (k + 1) = M - 1 by rw [hlk, if_pos (by unfold lv; omega)])
            have HV := Lib.hid (HR.out.two HD.out hlt W (W + 1) (by rw [hdk, if_pos (by unfold lv; omega)]; unfold lv; rw [show max (min h W) 0 = W by omega]))
            have s1 : IntKind.i64.wrap (W + 1) = W + 1 := wrap_id (by omega)
            have hd2 : (wr.setCell ⟨D, k, none⟩ (.int .i64 W)).cell? ⟨D, k, none⟩ = some (.int .i64 W) := World.cell?_setCell_same _ _ _ hd0
            clear hdk hlk
            go_wp2_with fail
            go_roundw
            case rel => exact ⟨k + 1, by rw [HL.out], by go_num, hlt, HV⟩
            case measure => simp [intOf]; omega
          · have HL := Lib.hid (show lft xs W m (k + 1) = M by rw [hlk, if_neg (by omega)])
            have HV := Lib.hid (HR.out.one HD.out hlt W (by rw [hdk, if_neg (by omega)]; unfold lv; rw [show max (min h W) 0 = W by omega]))
            clear hdk hlk
            go_wp2_with fail
            go_roundw
            case rel => exact ⟨k + 1, by rw [HL.out], by go_num, hlt, HV⟩
            case measure => simp [intOf]; omega
        · have q1 : min h W = h := by omega
          have q4 : max h 0 = h := by omega
          have HL := Lib.hid (show lft xs W m (k + 1) = M by rw [hlk, if_neg (by unfold lv; omega)])
          have HV := Lib.hid (HR.out.one HD.out hlt h (by rw [hdk, if_neg (by unfold lv; omega)]; unfold lv; rw [show max (min h W) 0 = h by omega]))
          clear hdk hlk
          go_wp2_with fail
          go_roundw
          case rel => exact ⟨k + 1, by rw [HL.out], by go_num, hlt, HV⟩
          case measure => simp [intOf]; omega
    · obtain rfl : k = xs.length := by omega
      have hlt2 : ¬ (xs.length : Int) < (xs.length : Int) := by omega
      have hc := HR.out.cells
      rw [dl_all] at hc
      have HC := Lib.hid hc
      clear hc
      go_wp2_with fail
      go_ret
      exact HPOST.out _ _ ⟨D, rfl, HD.out, HC.out, HR.out.below⟩

set_option maxRecDepth 100000 in
set_option maxHeartbeats 4000000 in
theorem rounds_i (xs : List Int) (hin : In64s xs) (hlen : xs.length ≤ 1000) (c : Nat) (A : Option Addr) (most : Int) (hm : most ≤ 9223372036854775807) (w : World) (hA : RowC iC 1 w w.heap.size A xs) :
    Calls Tryz.prog 23 #[.slice A xs.length c, .int .i64 most] w fun e w' => e = .returned (.tuple #[.int .i64 (rW xs most), .int .i64 (rM xs most)]) ∧ Below w.heap.size w w' := by
  have HS := Lib.hid (fun g W (hb : Cells W g #[.slice A xs.length c] 27) (hr : RowC iC 1 W W.heap.size A xs) => (show Calls Tryz.prog 36 #[.func (.func 56) #[] #[.pointer (some ⟨g, 0, none⟩)]] W (OwnPost_i (srt xs) W) from sorted_i xs (by omega) g c A W hb hr))
  have HA := Lib.hid hA
  have HIN := Lib.hid (show In64s (srt xs) from fun x hx => hin x ((srt_perm xs).mem_iff.1 hx))
  have hsl := srt_length xs
  obtain ⟨m0, hm0⟩ : ∃ m0, max most 0 = m0 := ⟨_, rfl⟩
  have hmb : 0 ≤ m0 ∧ m0 ≤ 9223372036854775807 := by omega
  have HQ := Lib.hid (show rW xs most = (rnds (srt xs) m0 0).1 ∧ rM xs most = (rnds (srt xs) m0 0).2 by rw [← hm0]; exact ⟨rfl, rfl⟩)
  obtain ⟨RW, hRW⟩ : ∃ R, rW xs most = R := ⟨_, rfl⟩
  obtain ⟨RM, hRM⟩ : ∃ R, rM xs most = R := ⟨_, rfl⟩
  rw [hRW, hRM] at HQ
  rw [hRW, hRM]
  clear hA hin hm hRW hRM
  obtain ⟨ks, hks⟩ : ∃ ks, srt xs = ks := ⟨_, rfl⟩
  rw [hks] at HS HIN HQ hsl
  clear hks
  have hkl : ks.length ≤ 1000 := by omega
  have HSL := Lib.hid hsl
  clear hsl
  rcases Int.lt_or_le most 0 with hneg | hneg
  · have HST0 := Lib.hid (show Rd ks m0 0 0 0 from ⟨by rw [show m0 = 0 by omega]; rfl, by omega, by omega⟩)
    have hneg2 : most < 0 := hneg
    have hmx : max most 0 = 0 := by omega
    clear hm0 hmb
    go_enter Tryz.func23, Tryz.ntmps23
    go_wp2_with (first
      | (go_at_call 37; go_loud (refine (valuesOf_i _ _ _ _).mono ?_; rintro e w1 ⟨rfl, rfl⟩))
      | (go_at_call 36; go_loud (refine (HS.out _ _ (Cells.new w _ _) ((HA.out.below ((Below.refl _ w).alloc (Nat.le_refl _) _)).more (by simp))).mono ?_; rintro e w2 ⟨A2, c2, rfl, h1, h2⟩; have H1 := Lib.hid (RowC.iown h1).2; have H2 := Lib.hid (((Below.refl _ w).alloc (Nat.le_refl _) _).trans (h2.mono (by simp))); clear h1 h2)))
    go_loopw [1, 4, 17] (fun mv wv iv wr => ∃ (k : Nat) (m W : Int), mv = .int .i64 m ∧ wv = .int .i64 W ∧ iv = .int .i64 (k : Int) ∧ k ≤ ks.length ∧ Hid (Rd ks m0 k m W) ∧ wr = w2) (fun _ _ iv _ => ks.length - (intOf iv).toNat)
    case atStart => exact ⟨0, _, 0, rfl, rfl, rfl, Nat.zero_le _, HST0, rfl⟩
    case round =>
      obtain ⟨k, m, W, rfl, rfl, rfl, hk, HR, rfl⟩ := hrel
      have hmm := HR.out.m
      have hWW := HR.out.W
      by_cases hlt : k < ks.length
      · obtain ⟨b, off, rfl, hb, hcell⟩ := ints_r H1.out k hlt
        have hh := HIN.out _ (List.getElem_mem hlt)
        have HLE := Lib.hid (HR.out.less hlt)
        have HST := Lib.hid (HR.out.stop hlt)
        have HNX := Lib.hid (HR.out.next HIN.out hlt)
        have hlt2 : (k : Int) < (ks.length : Int) := by omega
        obtain ⟨h, hh0⟩ : ∃ h, ks[k] = h := ⟨_, rfl⟩
        rw [hh0] at hcell hh HLE HST HNX
        clear hh0
        by_cases e1 : h ≤ W
        · have HN := Lib.hid (HLE.out e1)
          clear HLE HST HNX hmm hWW
          go_wp2_with fail
          go_roundw
          case rel => exact ⟨k + 1, m, W, rfl, rfl, by go_num, hlt, HN, trivial⟩
          case measure => simp [intOf]; omega
        · obtain ⟨n, hn⟩ : ∃ n : Int, n = (ks.length : Int) - (k : Int) := ⟨_, rfl⟩
          rw [← hn] at HST HNX
          have hn1 : 1 ≤ n ∧ n ≤ 1000 := by omega
          have hn0 : ¬ n = 0 := by omega
          have hq : Int.tdiv m n = m / n := Int.tdiv_eq_ediv_of_nonneg hmm.1
          have hr : Int.tmod m n = m % n := Int.tmod_eq_emod_of_nonneg hmm.1
          have hq0 : 0 ≤ m / n := Int.ediv_nonneg hmm.1 (by omega)
          have hqm : m / n ≤ m := Int.ediv_le_self _ hmm.1
          have hwn : (ks.length : Int) - (k : Int) = n := hn.symm
          have HNN := Lib.hid hn
          clear hn
          by_cases e2 : m / n < h - W
          · have HE := Lib.hid (HST.out e1 e2)
            clear HLE HST HNX
            go_wp2_with fail
            go_region
            all_goals go_wp2_with fail
            all_goals go_ret2
            all_goals exact ⟨by rw [HQ.out.1, HQ.out.2, HE.out]; rfl, below_more H2.out _⟩
          · obtain ⟨g1, g2, g3⟩ := HNX.out e1 e2
            have HN := Lib.hid g1
            obtain ⟨p, hp⟩ : ∃ p, (h - W) * n = p := ⟨_, rfl⟩
            rw [hp] at g2 g3 HN
            clear HLE HST HNX g1
            go_wp2_with fail
            go_roundw
            case rel => exact ⟨k + 1, m - p, h, rfl, rfl, by go_num, hlt, HN, trivial⟩
            case measure => simp [intOf]; omega
      · obtain rfl : k = ks.length := by omega
        have HE := Lib.hid (HR.out.end_ hlt)
        clear hmm hWW
        go_wp2_with fail
        go_ret2
        exact ⟨by rw [HQ.out.1, HQ.out.2, HE.out]; rfl, H2.out⟩
  · have HST0 := Lib.hid (show Rd ks m0 0 most 0 from ⟨by rw [show m0 = most by omega]; rfl, by omega, by omega⟩)
    have hneg2 : ¬ most < 0 := by omega
    have hmx : max most 0 = most := by omega
    clear hm0 hmb
    go_enter Tryz.func23, Tryz.ntmps23
    go_wp2_with (first
      | (go_at_call 37; go_loud (refine (valuesOf_i _ _ _ _).mono ?_; rintro e w1 ⟨rfl, rfl⟩))
      | (go_at_call 36; go_loud (refine (HS.out _ _ (Cells.new w _ _) ((HA.out.below ((Below.refl _ w).alloc (Nat.le_refl _) _)).more (by simp))).mono ?_; rintro e w2 ⟨A2, c2, rfl, h1, h2⟩; have H1 := Lib.hid (RowC.iown h1).2; have H2 := Lib.hid (((Below.refl _ w).alloc (Nat.le_refl _) _).trans (h2.mono (by simp))); clear h1 h2)))
    go_loopw [1, 4, 17] (fun mv wv iv wr => ∃ (k : Nat) (m W : Int), mv = .int .i64 m ∧ wv = .int .i64 W ∧ iv = .int .i64 (k : Int) ∧ k ≤ ks.length ∧ Hid (Rd ks m0 k m W) ∧ wr = w2) (fun _ _ iv _ => ks.length - (intOf iv).toNat)
    case atStart => exact ⟨0, _, 0, rfl, rfl, rfl, Nat.zero_le _, HST0, rfl⟩
    case round =>
      obtain ⟨k, m, W, rfl, rfl, rfl, hk, HR, rfl⟩ := hrel
      have hmm := HR.out.m
      have hWW := HR.out.W
      by_cases hlt : k < ks.length
      · obtain ⟨b, off, rfl, hb, hcell⟩ := ints_r H1.out k hlt
        have hh := HIN.out _ (List.getElem_mem hlt)
        have HLE := Lib.hid (HR.out.less hlt)
        have HST := Lib.hid (HR.out.stop hlt)
        have HNX := Lib.hid (HR.out.next HIN.out hlt)
        have hlt2 : (k : Int) < (ks.length : Int) := by omega
        obtain ⟨h, hh0⟩ : ∃ h, ks[k] = h := ⟨_, rfl⟩
        rw [hh0] at hcell hh HLE HST HNX
        clear hh0
        by_cases e1 : h ≤ W
        · have HN := Lib.hid (HLE.out e1)
          clear HLE HST HNX hmm hWW
          go_wp2_with fail
          go_roundw
          case rel => exact ⟨k + 1, m, W, rfl, rfl, by go_num, hlt, HN, trivial⟩
          case measure => simp [intOf]; omega
        · obtain ⟨n, hn⟩ : ∃ n : Int, n = (ks.length : Int) - (k : Int) := ⟨_, rfl⟩
          rw [← hn] at HST HNX
          have hn1 : 1 ≤ n ∧ n ≤ 1000 := by omega
          have hn0 : ¬ n = 0 := by omega
          have hq : Int.tdiv m n = m / n := Int.tdiv_eq_ediv_of_nonneg hmm.1
          have hr : Int.tmod m n = m % n := Int.tmod_eq_emod_of_nonneg hmm.1
          have hq0 : 0 ≤ m / n := Int.ediv_nonneg hmm.1 (by omega)
          have hqm : m / n ≤ m := Int.ediv_le_self _ hmm.1
          have hwn : (ks.length : Int) - (k : Int) = n := hn.symm
          have HNN := Lib.hid hn
          clear hn
          by_cases e2 : m / n < h - W
          · have HE := Lib.hid (HST.out e1 e2)
            clear HLE HST HNX
            go_wp2_with fail
            go_region
            all_goals go_wp2_with fail
            all_goals go_ret2
            all_goals exact ⟨by rw [HQ.out.1, HQ.out.2, HE.out]; rfl, below_more H2.out _⟩
          · obtain ⟨g1, g2, g3⟩ := HNX.out e1 e2
            have HN := Lib.hid g1
            obtain ⟨p, hp⟩ : ∃ p, (h - W) * n = p := ⟨_, rfl⟩
            rw [hp] at g2 g3 HN
            clear HLE HST HNX g1
            go_wp2_with fail
            go_roundw
            case rel => exact ⟨k + 1, m - p, h, rfl, rfl, by go_num, hlt, HN, trivial⟩
            case measure => simp [intOf]; omega
      · obtain rfl : k = ks.length := by omega
        have HE := Lib.hid (HR.out.end_ hlt)
        clear hmm hWW
        go_wp2_with fail
        go_ret2
        exact ⟨by rw [HQ.out.1, HQ.out.2, HE.out]; rfl, H2.out⟩

theorem make_i (n : Nat) (hn : n ≤ 1000000) (W : World) : (Instr.makeSlice 27 (.int .i64 (n : Int)) (.int .i64 (n : Int))).run Tryz.prog W = .ok (.slice (some ⟨W.heap.size, 0, none⟩) n n) (W.alloc (.cells (iA (List.replicate n 0)) 3)) := by
  obtain ⟨i0, hi, hz0, hz1, hz2⟩ := info_parts info_i
  have h := run_make (P := Tryz.prog) W 27 3 i0 _ Tryz.underlying27 hi hz0 .i64 .i64 (n : Int) (n : Int) (by omega) (by omega) (by rw [hz2]; omega) (by omega)
  rw [hz1] at h
  simp only [Int.toNat_natCast, Nat.mul_one] at h
  rw [h, ← made_i]
  rfl
def DealPost_i (xs : List Int) (most : Int) (w : World) (e : Ending) (w' : World) : Prop :=
  ∃ D, e = .returned (.slice (some ⟨D, 0, none⟩) xs.length xs.length) ∧ w.heap.size ≤ D ∧ Cells w' D (iA (dealL xs (rW xs most) (rM xs most))) 3 ∧ Below w.heap.size w w'
set_option maxRecDepth 100000 in
set_option maxHeartbeats 4000000 in
theorem deal_i (xs : List Int) (hin : In64s xs) (hlen : xs.length ≤ 1000) (c : Nat) (A : Option Addr) (most : Int) (hm : most ≤ 9223372036854775807) (w : World) (hA : RowC iC 1 w w.heap.size A xs) :
    Calls Tryz.prog 10 #[.slice A xs.length c, .int .i64 most] w (DealPost_i xs most w) := by
  have HX := Lib.hid (rounds_i xs hin hlen c A most hm w hA)
  have HA := Lib.hid hA
  have HIN := Lib.hid hin
  have HF := Lib.hid (rfit xs most)
  have hW0 := HF.out.W0
  have hm0 := HF.out.m0
  obtain ⟨W, hW⟩ : ∃ R, rW xs most = R := ⟨_, rfl⟩
  obtain ⟨m, hmm⟩ : ∃ R, rM xs most = R := ⟨_, rfl⟩
  rw [hW, hmm] at HX HF
  have HPOST := Lib.hid (show ∀ e w', (∃ D, e = .returned (.slice (some ⟨D, 0, none⟩) xs.length xs.length) ∧ w.heap.size ≤ D ∧ Cells w' D (iA (dealL xs W m)) 3 ∧ Below w.heap.size w w') → DealPost_i xs most w e w' by intro e w' h; unfold DealPost_i; rw [hW, hmm]; exact h)
  rw [hW] at hW0
  rw [hmm] at hm0
  have hm1 : m ≤ 1000 := by
    rcases HF.out.or with ⟨h, _⟩ | ⟨h, _⟩
    · have := List.length_filter_le (fun h => decide (W < h)) xs
      unfold lvC at h
      omega
    · omega
  have hmk := fun W => make_i xs.length (by omega) W
  clear hA hin hm hW hmm
  go_enter Tryz.func10, Tryz.ntmps10
  go_wp2_with (go_at_call 23; go_loud (refine HX.out.mono ?_; rintro e w1 ⟨rfl, h1⟩; have HB1 := Lib.hid h1; clear h1))
  have HD := Lib.hid HB1.out.size
  have HDL := Lib.hid (show Dl xs W m 3 w.heap.size w1.heap.size 0 w (w1.alloc (.cells (iA (List.replicate xs.length 0)) 3)) from ⟨by rw [dl_zero]; exact Cells.new _ _ _, HB1.out.alloc HB1.out.size _⟩)
  obtain ⟨D, hD⟩ : ∃ D, w1.heap.size = D := ⟨_, rfl⟩
  rw [hD] at HD HDL ⊢
  clear hD hmk
  go_loopw [6, 21] (fun mv iv wr => ∃ (k : Nat), mv = .int .i64 (lft xs W m k) ∧ iv = .int .i64 (k : Int) ∧ k ≤ xs.length ∧ Hid (Dl xs W m 3 w.heap.size D k w wr)) (fun _ iv _ => xs.length - (intOf iv).toNat)
  case atStart => exact ⟨0, by rw [lft_zero], rfl, Nat.zero_le _, HDL⟩
  case round =>
    obtain ⟨k, rfl, rfl, hk, HR⟩ := hrel
    by_cases hlt : k < xs.length
    · obtain ⟨b, off, hA0, hb, hcell⟩ := ints_r (HA.out.below HR.out.below) k hlt
      subst hA0
      have hh := HIN.out _ (List.getElem_mem hlt)
      have hdk := deal_k (W := W) (m := m) hlt
      have hlk := lft_next (W := W) (m := m) hlt
      have hd0 : wr.cell? ⟨D, k, none⟩ = some (.int .i64 0) := by
        have h1 := HR.out.cells.iat (k := k) (by rw [dl_length _ _ _ hk]; exact hlt)
        rw [h1]
        unfold dl
        rw [List.getElem_append_right (by rw [List.length_take]; omega)]
        simp
      have hd1 := HR.out.cells.frozen k
      have hlt2 : (k : Int) < (xs.length : Int) := by omega
      obtain ⟨h, hh0⟩ : ∃ h, xs[k] = h := ⟨_, rfl⟩
      rw [hh0] at hcell hh hdk hlk
      clear hh0
      obtain ⟨M, hM⟩ : ∃ M, lft xs W m k = M := ⟨_, rfl⟩
      rw [hM] at hdk hlk ⊢
      have hMb : M ≤ m := by rw [← hM]; exact (remn_le _ _ _ hm0).2
      have hM0 : 0 ≤ M := by rw [← hM]; exact (remn_le _ _ _ hm0).1
      have hDW : D < wr.heap.size := HR.out.cells.lt
      clear hM
      by_cases e1 : h < 0
      · have HL := Lib.hid (show lft xs W m (k + 1) = M by rw [hlk, if_neg (by unfold lv; omega)])
        have HV := Lib.hid (HR.out.one HD.out hlt 0 (by rw [hdk, if_neg (by unfold lv; omega)]; unfold lv; rw [show max (min h W) 0 = 0 by omega]))
        have q1 : min h W = h := by omega
        have q4 : max h 0 = 0 := by omega
        have q3 : ¬ W < h := by omega
        clear hdk hlk
        go_wp2_with fail
        go_roundw
        case rel => exact ⟨k + 1, by rw [HL.out], by go_num, hlt, HV⟩
        case measure => simp [intOf]; omega
      · by_cases e2 : W < h
        · have q1 : min h W = W := by omega
          have q4 : max W 0 = W := by omega
          have q2 : ¬ W < 0 := by omega
          by_cases e3 : 0 < M
          · have HL := Lib.hid (show lft xs W m (k + 1) = M - 1 by rw [hlk, if_pos (by unfold lv; omega)])
            have HV := Lib.hid (HR.out.two HD.out hlt W (W + 1) (by rw [hdk, if_pos (by unfold lv; omega)]; unfold lv; rw [show max (min h W) 0 = W by omega]))
            have s1 : IntKind.i64.wrap (W + 1) = W + 1 := wrap_id (by omega)
            have hd2 : (wr.setCell ⟨D, k, none⟩ (.int .i64 W)).cell? ⟨D, k, none⟩ = some (.int .i64 W) := World.cell?_setCell_same _ _ _ hd0
            clear hdk hlk
            go_wp2_with fail
            go_roundw
            case rel => exact ⟨k + 1, by rw [HL.out], by go_num, hlt, HV⟩
            case measure => simp [intOf]; omega
          · have HL := Lib.hid (show lft xs W m (k + 1) = M by rw [hlk, if_neg (by omega)])
            have HV := Lib.hid (HR.out.one HD.out hlt W (by rw [hdk, if_neg (by omega)]; unfold lv; rw [show max (min h W) 0 = W by omega]))
            clear hdk hlk
            go_wp2_with fail
            go_roundw
            case rel => exact ⟨k + 1, by rw [HL.out], by go_num, hlt, HV⟩
            case measure => simp [intOf]; omega
        · have q1 : min h W = h := by omega
          have q4 : max h 0 = h := by omega
          have HL := Lib.hid (show lft xs W m (k + 1) = M by rw [hlk, if_neg (by unfold lv; omega)])
          have HV := Lib.hid (HR.out.one HD.out hlt h (by rw [hdk, if_neg (by unfold lv; omega)]; unfold lv; rw [show max (min h W) 0 = h by omega]))
          clear hdk hlk
          go_wp2_with fail
          go_roundw
          case rel => exact ⟨k + 1, by rw [HL.out], by go_num, hlt, HV⟩
          case measure => simp [intOf]; omega
    · obtain rfl : k = xs.length := by omega
      have hlt2 : ¬ (xs.length : Int) < (xs.length : Int) := by omega
      have hc := HR.out.cells
      rw [dl_all] at hc
      have HC := Lib.hid hc
      clear hc
      go_wp2_with fail
      go_ret
      exact HPOST.out _ _ ⟨D, rfl, HD.out, HC.out, HR.out.below⟩
end Go.Proofs.YtkcnmajjfljilaaGreatDoor

/- source: the document's own Deal. -/
namespace Go.Proofs.YtkcnmajjfljilaaGreatDoor
open Go Go.ChangeShapes Go.WideShapes Go.ChangeAt Go.RowKit Go.ChangeMaps Go.MapKept
set_option linter.unusedVariables false
set_option linter.unusedSimpArgs false

/-- Between two heaps of a round. -/
def gv (xs : List Int) (r M : Int) (i : Nat) : List Int := (dealL xs r M).take i ++ (lvl xs r).drop i
theorem gv_length (xs : List Int) (r M : Int) (i : Nat) : (gv xs r M i).length = xs.length := by
  unfold gv; rw [List.length_append, List.length_take, List.length_drop, dealL_length, lvl_length]; omega
theorem gv_zero (xs : List Int) (r M : Int) : gv xs r M 0 = lvl xs r := by simp [gv]
theorem gv_all (xs : List Int) (r M : Int) : gv xs r M xs.length = dealL xs r M := by
  unfold gv
  rw [List.take_of_length_le (by rw [dealL_length]; exact Nat.le_refl _), List.drop_of_length_le (by rw [lvl_length]; exact Nat.le_refl _), List.append_nil]
theorem gv_at {xs : List Int} {r M : Int} {i : Nat} (hi : i < xs.length) (h2 : i < (gv xs r M i).length) : (gv xs r M i)[i] = lv r xs[i] := by
  have hl : ((dealL xs r M).take i).length = i := by rw [List.length_take, dealL_length]; omega
  have e : (gv xs r M i)[i]? = some (lv r xs[i]) := by
    unfold gv
    rw [List.getElem?_append_right (by omega), hl, Nat.sub_self, List.getElem?_drop, Nat.add_zero, List.getElem?_eq_getElem (by rw [lvl_length]; exact hi), lvl_at hi]
  rw [List.getElem?_eq_getElem h2] at e
  exact Option.some.inj e
theorem gv_next {xs : List Int} {r M : Int} {i : Nat} (hi : i < xs.length) {v : Int} (hv : (dealL xs r M)[i]? = some v) : (gv xs r M i).set i v = gv xs r M (i + 1) := by
  have hl : ((dealL xs r M).take i).length = i := by rw [List.length_take, dealL_length]; omega
  have hlt : i < (lvl xs r).length := by rw [lvl_length]; exact hi
  unfold gv
  rw [List.set_append_right _ _ (by omega), hl, Nat.sub_self, List.drop_eq_getElem_cons hlt, List.set_cons_zero, List.take_add_one, hv]
  simp
theorem gv_same {xs : List Int} {r M : Int} {i : Nat} (hi : i < xs.length) (hv : (dealL xs r M)[i]? = some (lv r xs[i])) : gv xs r M i = gv xs r M (i + 1) := by
  rw [← gv_next hi hv]
  symm
  have h2 : i < (gv xs r M i).length := by rw [gv_length]; exact hi
  have := gv_at (M := M) hi h2
  rw [← this]
  exact List.set_getElem_self h2
/-- Between two rounds. -/
def Ro (xs : List Int) (m0 W m : Int) (L : List Int) (M : Int) : Prop := (∃ r, 0 ≤ r ∧ r ≤ W ∧ L = lvl xs r ∧ max M 0 = m0 - lvS xs r) ∨ (M = 0 ∧ L = dealL xs W m)
theorem lvl_eq {V W : Int} (h : V ≤ W) : ∀ {xs : List Int}, lvS xs V = lvS xs W → lvl xs V = lvl xs W
  | [], _ => rfl
  | a :: t, hs => by
    rw [lvS_cons, lvS_cons] at hs
    have h1 := lv_mono (h := a) h
    have h2 := lvS_mono h t
    have h3 := lvl_eq h (xs := t) (by omega)
    simp only [lvl, List.map_cons] at *
    rw [h3, show lv V a = lv W a by omega]
theorem lvl_all {V W : Int} (h : V ≤ W) {xs : List Int} (hx : ∀ x ∈ xs, x ≤ V) : lvl xs V = lvl xs W := by
  unfold lvl
  refine List.map_congr_left fun x hm => ?_
  have := hx x hm
  unfold lv; omega
theorem lvC_none {W : Int} : ∀ {xs : List Int}, lvC xs W = 0 → ∀ x ∈ xs, x ≤ W
  | [], _, _, h => absurd h (by simp)
  | a :: t, hc, x, h => by
    rw [lvC_cons] at hc
    split at hc
    · omega
    · rcases List.mem_cons.1 h with rfl | h
      · omega
      · exact lvC_none (by omega) x h
theorem lvC_zero {W : Int} : ∀ {xs : List Int}, (∀ x ∈ xs, x ≤ W) → lvC xs W = 0
  | [], _ => rfl
  | a :: t, h => by
    have := h a (List.mem_cons_self ..)
    rw [lvC_cons, if_neg (by omega), lvC_zero (fun x hx => h x (List.mem_cons_of_mem _ hx))]
section
variable {xs L : List Int} {m0 W m M : Int}
theorem Ro.start (h0 : m0 = max M 0) (hW : 0 ≤ W) : Ro xs m0 W m (List.replicate xs.length 0) M := by
  refine .inl ⟨0, Int.le_refl _, hW, ?_, by rw [lvS_zero]; omega⟩
  unfold lvl
  symm
  rw [List.eq_replicate_iff]
  refine ⟨by simp, fun b hb => ?_⟩
  obtain ⟨x, _, rfl⟩ := List.mem_map.1 hb
  unfold lv; omega
theorem flat_deal (hf : Fit xs m0 W m) (h : m = 0) : dealL xs W m = lvl xs W := by rw [h]; exact give_zero _ _
theorem Ro.done (h : Ro xs m0 W m L M) (hf : Fit xs m0 W m) (hM : M ≤ 0) : L = dealL xs W m := by
  rcases h with ⟨r, h0, h1, rfl, h3⟩ | ⟨_, rfl⟩
  · have h4 := hf.le
    have h5 := lvS_mono h1 xs
    have h6 := hf.m0
    have e : lvS xs r = lvS xs W := by omega
    have hm : m = 0 := by rcases hf.or with ⟨_, h⟩ | ⟨h, _⟩ <;> omega
    rw [lvl_eq h1 e, flat_deal hf hm]
  · rfl
theorem Ro.from (h : Ro xs m0 W m L M) (hM : 0 < M) : ∃ r, 0 ≤ r ∧ r ≤ W ∧ L = lvl xs r ∧ M = m0 - lvS xs r := by
  rcases h with ⟨r, h0, h1, h2, h3⟩ | ⟨h1, _⟩
  · exact ⟨r, h0, h1, h2, by omega⟩
  · omega
/-- A round's end. -/
theorem Ro.step (hf : Fit xs m0 W m) {r : Int} (h0 : 0 ≤ r) (h1 : r ≤ W) (hM : M = m0 - lvS xs r) (hp : 0 < M) :
    (lft xs r M xs.length < M → Ro xs m0 W m (dealL xs r M) (lft xs r M xs.length)) ∧ (¬ lft xs r M xs.length < M → dealL xs r M = dealL xs W m) := by
  have hlft : lft xs r M xs.length = remn xs (lvl xs r) M := by
    unfold lft; rw [List.take_length, ← lvl_length xs r, List.take_length]
  rw [hlft]
  by_cases e : r < W
  · have hc := hf.below h0 e
    rw [← hM] at hc
    obtain ⟨a, b⟩ := give_whole h0 xs M hc
    have hd : dealL xs r M = lvl xs (r + 1) := a
    rw [hd, b]
    have hs := lvS_succ h0 xs
    refine ⟨fun _ => .inl ⟨r + 1, by omega, by omega, rfl, by omega⟩, fun hn => ?_⟩
    have hz : lvC xs r = 0 := by omega
    have hx := lvC_none hz
    have hzW : lvC xs W = 0 := lvC_zero (fun x hm => by have := hx x hm; omega)
    have hm : m = 0 := by have := hf.m0; rcases hf.or with ⟨h, _⟩ | ⟨h, _⟩ <;> omega
    rw [flat_deal hf hm]
    exact lvl_all (by omega) (fun x hm => by have := hx x hm; omega)
  · obtain rfl : r = W := by omega
    obtain ⟨a, b⟩ := hf.last
    rw [← hM] at a b
    have hd : dealL xs r M = dealL xs r m := a
    refine ⟨fun h => ?_, fun _ => hd⟩
    rcases b with b | ⟨_, b⟩
    · rw [b, hd]; exact .inr ⟨rfl, rfl⟩
    · rw [(give_none xs M b).2] at h; omega
end
theorem lft_le (xs : List Int) (r M : Int) (h : 0 ≤ M) (i : Nat) : 0 ≤ lft xs r M i ∧ lft xs r M i ≤ M := remn_le _ _ _ h
def RDealPost (xs : List Int) (most : Int) (w : World) (e : Ending) (w' : World) : Prop :=
  ∃ D, e = .returned (.slice (some ⟨D, 0, none⟩) xs.length xs.length) ∧ w.heap.size ≤ D ∧ Cells w' D (iA (dealL xs (rW xs most) (rM xs most))) 2 ∧ Below w.heap.size w w'
set_option maxRecDepth 100000 in
set_option maxHeartbeats 8000000 in
theorem rdeal_any (xs : List Int) (hin : In64s xs) (hlen : xs.length ≤ 1000) (c : Nat) (A : Option Addr) (most : Int) (hm : most ≤ 9223372036854775807) (w : World) (hA : RowC iC 1 w w.heap.size A xs) :
    Calls Tryz.prog 9 #[.slice A xs.length c, .int .i64 most] w (RDealPost xs most w) := by
  have HA := Lib.hid hA
  have HIN := Lib.hid hin
  have HF := Lib.hid (rfit xs most)
  have hW0 := HF.out.W0
  obtain ⟨W, hW⟩ : ∃ R, rW xs most = R := ⟨_, rfl⟩
  obtain ⟨m, hmm⟩ : ∃ R, rM xs most = R := ⟨_, rfl⟩
  rw [hW, hmm] at HF
  have HPOST := Lib.hid (show ∀ e w', (∃ D, e = .returned (.slice (some ⟨D, 0, none⟩) xs.length xs.length) ∧ w.heap.size ≤ D ∧ Cells w' D (iA (dealL xs W m)) 2 ∧ Below w.heap.size w w') → RDealPost xs most w e w' by intro e w' h; unfold RDealPost; rw [hW, hmm]; exact h)
  rw [hW] at hW0
  have hmk := fun W => make_l xs.length (by omega) W
  clear hA hin hW hmm
  go_enter Tryz.func9, Tryz.ntmps9
  go_wp2_with fail
  have HST := Lib.hid (Ro.start (xs := xs) (m := m) (M := most) rfl hW0)
  have HC0 := Lib.hid (Cells.new w (iA (List.replicate xs.length 0)) 2)
  have HB0 := Lib.hid ((Below.refl _ w).alloc (Nat.le_refl _) (.cells (iA (List.replicate xs.length 0)) 2))
  have HD := Lib.hid (Nat.le_refl w.heap.size)
  obtain ⟨m0, hm0⟩ : ∃ m0, max most 0 = m0 := ⟨_, rfl⟩
  rw [hm0] at HST HF
  clear hm0
  obtain ⟨D, hD⟩ : ∃ D, w.heap.size = D := ⟨_, rfl⟩
  rw [show (Cells (w.alloc (.cells (iA (List.replicate xs.length 0)) 2)) w.heap.size (iA (List.replicate xs.length 0)) 2) = Cells (w.alloc (.cells (iA (List.replicate xs.length 0)) 2)) D (iA (List.replicate xs.length 0)) 2 by rw [hD]] at HC0
  have HDE := Lib.hid hD
  rw [hD]
  clear hD hmk HD
  go_loopw [1] (fun mv wr => ∃ (M : Int) (L : List Int), mv = .int .i64 M ∧ M ≤ 9223372036854775807 ∧ L.length = xs.length ∧ Hid (Ro xs m0 W m L M) ∧ Hid (Cells wr D (iA L) 2) ∧ Hid (Below w.heap.size w wr)) (fun mv _ => (intOf mv).toNat)
  case atStart => exact ⟨most, _, rfl, hm, by simp, HST, HC0, HB0⟩
  case round =>
    obtain ⟨M, L, rfl, hMx, hL, HR, HC, HB⟩ := hrel
    by_cases hM : 0 < M
    · obtain ⟨r, r0, r1, rfl, r3⟩ := HR.out.from hM
      have HSTEP := Lib.hid (Ro.step HF.out r0 r1 r3 hM)
      have HLT := Lib.hid (fun i => lft_le xs r M (by omega) i)
      clear r3
      go_wp2_with fail
      go_loopw [1, 6, 7] (fun mv tv iv wr => ∃ (i : Nat), mv = .int .i64 (lft xs r M i) ∧ tv = .bool (decide (lft xs r M i < M)) ∧ iv = .int .i64 (i : Int) ∧ i ≤ xs.length ∧ Hid (Cells wr D (iA (gv xs r M i)) 2) ∧ Hid (Below w.heap.size w wr)) (fun _ _ iv _ => xs.length - (intOf iv).toNat)
      case atStart => exact ⟨0, by rw [lft_zero], by rw [lft_zero]; simp, rfl, Nat.zero_le _, by rw [gv_zero]; exact HC, HB⟩
      case round =>
        obtain ⟨i, rfl, rfl, rfl, hi, HC2, HB2⟩ := hrel
        by_cases hlt : i < xs.length
        · obtain ⟨b, off, hA0, hb, hcell⟩ := ints_r (HA.out.below HB2.out) i hlt
          subst hA0
          have hh := HIN.out _ (List.getElem_mem hlt)
          have hdk := deal_k (W := r) (m := M) hlt
          have hlk := lft_next (W := r) (m := M) hlt
          have hg2 : i < (gv xs r M i).length := by rw [gv_length]; exact hlt
          have hd0 : wr.cell? ⟨D, i, none⟩ = some (.int .i64 (lv r xs[i])) := by rw [HC2.out.iat hg2, gv_at hlt hg2]
          have hd1 := HC2.out.frozen i
          have hlt2 : (i : Int) < (xs.length : Int) := by omega
          have HSAME := Lib.hid (gv_same (r := r) (M := M) hlt)
          have HNEXT := Lib.hid (fun v => gv_next (r := r) (M := M) (v := v) hlt)
          have HLL := HLT.out i
          have hv0 : 0 ≤ lv r xs[i] := by unfold lv; omega
          obtain ⟨h, hh0⟩ : ∃ h, xs[i] = h := ⟨_, rfl⟩
          rw [hh0] at hcell hh hdk hlk hd0 HSAME hv0
          obtain ⟨o, ho⟩ : ∃ o, lv r h = o := ⟨_, rfl⟩
          rw [ho] at hdk hlk hd0 HSAME hv0
          obtain ⟨Q, hQ⟩ : ∃ Q, lft xs r M i = Q := ⟨_, rfl⟩
          rw [hQ] at hdk hlk HLL ⊢
          have hDW : D < wr.heap.size := HC2.out.lt
          clear hh0 ho hQ hg2
          by_cases e1 : 0 < Q
          · by_cases e2 : o < h
            · rw [if_pos ⟨e1, e2⟩] at hdk hlk
              have HL := Lib.hid hlk
              have HV := Lib.hid (fun (W : World) (hc : Cells W D (iA (gv xs r M i)) 2) => (show Cells (W.setCell ⟨D, i, none⟩ (.int .i64 (o + 1))) D (iA (gv xs r M (i + 1))) 2 by rw [← HNEXT.out _ hdk]; exact hc.iset i _))
              have HBV := Lib.hid (fun (W : World) (hb : Below w.heap.size w W) => hb.setCell (p := ⟨D, i, none⟩) (by rw [HDE.out]; exact Nat.le_refl _) (.int .i64 (o + 1)))
              have s1 : IntKind.i64.wrap (o + 1) = o + 1 := wrap_id (by omega)
              have s2 : IntKind.i64.wrap (Q - 1) = Q - 1 := wrap_id (by omega)
              clear hdk hlk HSAME HNEXT
              go_wp2_with fail
              go_quiet (fail)
              go_wp2_with fail
              go_roundw
              case rel => exact ⟨i + 1, by rw [HL.out], by rw [HL.out]; simp; omega, by go_num, hlt, Lib.hid (HV.out _ HC2.out), Lib.hid (HBV.out _ (below_more HB2.out _))⟩
              case measure => simp [intOf]; omega
            · rw [if_neg (by omega)] at hdk hlk
              have HL := Lib.hid hlk
              have HV := Lib.hid (show Cells wr D (iA (gv xs r M (i + 1))) 2 by rw [← HSAME.out hdk]; exact HC2.out)
              clear hdk hlk HSAME HNEXT
              go_wp2_with fail
              go_quiet (fail)
              go_wp2_with fail
              go_roundw
              case rel => exact ⟨i + 1, by rw [HL.out], by rw [HL.out]; first | done | (simp; omega), by go_num, hlt, HV, Lib.hid (below_more HB2.out _)⟩
              case measure => simp [intOf]; omega
          · rw [if_neg (by omega)] at hdk hlk
            obtain rfl : Q = 0 := by omega
            have HL := Lib.hid hlk
            have HV := Lib.hid (show Cells wr D (iA (gv xs r M (i + 1))) 2 by rw [← HSAME.out hdk]; exact HC2.out)
            clear hdk hlk HSAME HNEXT
            go_wp2_with fail
            go_quiet (fail)
            go_wp2_with fail
            go_roundw
            case rel => exact ⟨i + 1, by rw [HL.out], by rw [HL.out]; first | done | (simp; omega), by go_num, hlt, HV, Lib.hid (below_more HB2.out _)⟩
            case measure => simp [intOf]; omega
        · obtain rfl : i = xs.length := by omega
          have hlt2 : ¬ (xs.length : Int) < (xs.length : Int) := by omega
          have hc := HC2.out
          rw [gv_all] at hc
          have HC3 := Lib.hid hc
          have HLL := HLT.out xs.length
          by_cases e : lft xs r M xs.length < M
          · have HN := Lib.hid (HSTEP.out.1 e)
            have hte : decide (lft xs r M xs.length < M) = true := decide_eq_true e
            rw [hte]
            obtain ⟨Q, hQ⟩ : ∃ Q, lft xs r M xs.length = Q := ⟨_, rfl⟩
            rw [hQ] at HN HLL e ⊢
            clear hc hQ hte
            go_wp2_with fail
            go_roundw
            case rel => exact ⟨Q, _, rfl, by omega, dealL_length _ _ _, HN, HC3, HB2⟩
            case measure => simp [intOf]; omega
          · have HN := Lib.hid (HSTEP.out.2 (by omega))
            have hte : decide (lft xs r M xs.length < M) = false := decide_eq_false e
            rw [hte]
            clear hc hte
            go_wp2_with fail
            go_ret
            exact HPOST.out _ _ ⟨D, rfl, by rw [HDE.out]; exact Nat.le_refl _, by rw [← HN.out]; exact HC3.out, HB2.out⟩
    · have HN := Lib.hid (HR.out.done HF.out (by omega))
      go_wp2_with fail
      go_ret
      exact HPOST.out _ _ ⟨D, rfl, by rw [HDE.out]; exact Nat.le_refl _, by rw [← HN.out]; exact HC.out, HB.out⟩
end Go.Proofs.YtkcnmajjfljilaaGreatDoor
