/- The walk of Scan. -/
import Derived.Test.YtcolghibbiijfaaFraAll
import Derived.Test.YtcolghibbiijfaaRegionQuiet
import Derived.Sort.QuietIn
import Derived.RangeFuncBox
import Derived.Maps.AppendAt
namespace Go.Proofs.Ytcolghibbiijfaa
attribute [local go_sem] Oper.semAt_some
open Go.ChangeShapes Go.WideShapes Go.ChangeAt Go.RowKit Go.Shelf
open Go.Lib (byteCells byteCells_length byteCells_append strCells)
set_option linter.unusedVariables false

theorem infoBytes : (Try.prog.info? 23).map (fun i => (i.zero, i.size, i.bytes)) = some (some (Value.slice none 0 0), 1, 24) := by kernel_rfl
def itCells (x : It) : List Value := [.slice x.a x.bs.length x.c]
theorem itCells_length (x : It) : (itCells x).length = 1 := rfl
theorem itCells_one (x : It) : ∀ u ∈ itCells x, u.oneCell' = true := by simp [itCells, Value.oneCell']
theorem flat_its (xs : List It) : (xs.flatMap itCells).length = xs.length := by
  rw [flat_length itCells_length, Nat.mul_one]

/-- Bytes of the call's own lie on where a block of another kind turns. -/
theorem Buf.kept {B : Nat} {A : Option Addr} {n c : Nat} {bs : List UInt8} {w w' : World} {row : Option Nat} (h : Buf B A n c bs w) (hg : w.grownBy w' row) (hr : ∀ r, row = some r → ∀ cur f, w.heap[r]? ≠ some (.cells cur 5 f)) : Buf B A n c bs w' := by
  refine ⟨h.1, Nat.le_trans h.2.1 hg.size, h.2.2.kept hg ?_⟩
  rcases h.2.2.2 with ⟨hv, _⟩ | ⟨g, cap, cur, hv, _, hh, _⟩
  · rw [hv]; exact .inl rfl
  · rw [hv]
    refine .inr fun e => ?_
    exact hr g (by simpa [Value.ownBlock] using e.symm) _ _ hh
theorem Buf.set {B : Nat} {A : Option Addr} {n c : Nat} {bs : List UInt8} {w : World} (h : Buf B A n c bs w) {g : Nat} (hg : g < B) (v : Value) : Buf B A n c bs (w.setCell ⟨g, 0, none⟩ v) := by
  refine ⟨h.1, Nat.le_trans h.2.1 (grownBy_setCell' w g v).size, h.2.2.kept (grownBy_setCell' w g v) ?_⟩
  rcases h.2.2.2 with ⟨hv, _⟩ | ⟨g', cap, cur, hv, hb, hh, _⟩
  · rw [hv]; exact .inl rfl
  · rw [hv]
    refine .inr fun e => ?_
    simp [Value.ownBlock] at e
    omega

/-- Bytes of the call's own lie on where a block laid before them turns. -/
theorem Buf.apart {B : Nat} {A : Option Addr} {n c : Nat} {bs : List UInt8} {w w' : World} {row : Option Nat} (h : Buf B A n c bs w) (hg : w.grownBy w' row) (hr : ∀ r, row = some r → r < B) : Buf B A n c bs w' := by
  refine ⟨h.1, Nat.le_trans h.2.1 hg.size, h.2.2.kept hg ?_⟩
  rcases h.2.2.2 with ⟨hv, _⟩ | ⟨g, cap, cur, hv, hb, hh, _⟩
  · rw [hv]; exact .inl rfl
  · rw [hv]
    refine .inr fun e => ?_
    have := hr g (by simpa [Value.ownBlock] using e.symm)
    omega
/-- Between two rounds of Scan: what came is in the list, its memory lies as it was handed out. -/
structure Scanned (B0 E : Nat) (w : World) (pre : List It) (W : World) : Prop where
  list : ∃ v, Boxed W B0 32 v ∧ W.ownsRow E 23 1 v pre.length (pre.flatMap itCells) ∧ True
  count : Boxed W (B0 + 1) 3 (.int .i64 ((tot (bss pre) : Nat) : Int))
  items : ∀ x ∈ pre, Buf E x.a x.bs.length x.c x.bs W
  below : Below B0 w W
  size : E ≤ W.heap.size
theorem scanned_own (B0 E : Nat) (w : World) (h0 : B0 ≤ w.heap.size) (hE : B0 + 2 ≤ E) : OwnFrom E (Scanned B0 E w) := by
  intro s X Y row hs hg hr
  refine ⟨holdsRow_own E B0 32 23 1 List.length (fun s => s.flatMap itCells) (fun _ _ => True) s X Y row hs.list hg (fun r e => (hr r e).2), ?_, fun x hx => ?_, ?_, Nat.le_trans hs.size hg.size⟩
  · exact boxed_own (B0 + 1) 3 (fun pre : List It => .int .i64 ((tot (bss pre) : Nat) : Int)) s X Y row hs.count hg (fun r e => (hr r e).2)
  · refine (hs.items x hx).kept hg fun r e cur f hh => ?_
    obtain ⟨_, o, ho, hc⟩ := hr r e
    rw [ho] at hh
    cases hh
    cases hc
  · exact hs.below.grown hg (by have := hs.below.size; omega) (fun k e => by have := (hr k e).1; omega)

theorem comes_own (l : List UInt8) (E B : Nat) (pre : List It) : OwnFrom B (Comes l E pre) := by
  intro x X Y row hs hg hr
  refine ⟨hs.1, hs.2.1, hs.2.2.kept hg fun r e cur f hh => ?_⟩
  obtain ⟨_, o, ho, hc⟩ := hr r e
  rw [ho] at hh
  cases hh
  cases hc

/-- One round of Scan. -/
theorem scan_step {l : List UInt8} {B0 E D1 : Nat} {w W w1 : World} {pre : List It} {x : It} {v v' : Value} {tmp : Obj} (hD : D1 ≤ E) (hE : B0 + 2 ≤ E) (hs : Scanned B0 E w pre W) (hx : Comes l E pre x W)
    (hv : Boxed W B0 32 v) (hrow : W.ownsRow E 23 1 v pre.length (pre.flatMap itCells)) (htmp : ∀ cur f, tmp ≠ .cells cur 5 f)
    (hown : w1.ownsRow E 23 1 v' (pre.length + 1) (pre.flatMap itCells ++ itCells x)) (hgrow : (W.alloc tmp).grownBy w1 v.ownBlock) (n : Nat) (hn : n = x.at_ + 8 + x.bs.length) :
    let W' := (w1.setCell ⟨B0, 0, none⟩ v').setCell ⟨B0 + 1, 0, none⟩ (.int .i64 (n : Int))
    Boxed w1 B0 32 v ∧ Boxed (w1.setCell ⟨B0, 0, none⟩ v') (B0 + 1) 3 (.int .i64 ((tot (bss pre) : Nat) : Int)) ∧ KeepsFrom E W W' ∧ Mid (B0 + 2) D1 W W' ∧ Scanned B0 E w (pre ++ [x]) W' := by
  intro W'
  have hblk : ∀ k, k < W.heap.size → k < E → w1.heap[k]? = W.heap[k]? := fun k hk hkE => by
    refine (hgrow.block k (by simp; omega) (fun e => ?_)).trans (Below.heap_alloc W tmp k hk)
    have := (hrow.lt k e.symm).1
    omega
  have hB0 : B0 < W.heap.size := hv.lt
  have hB1 : B0 + 1 < W.heap.size := hs.count.lt
  have b0 : Boxed w1 B0 32 v := (hblk B0 hB0 (by omega)).trans hv
  have b1 : Boxed w1 (B0 + 1) 3 (.int .i64 ((tot (bss pre) : Nat) : Int)) := (hblk (B0 + 1) hB1 (by omega)).trans hs.count
  have b1' := b1.other (B' := B0) (by omega) v'
  have hg1 := grownBy_setCell' w1 B0 v'
  have hg2 := grownBy_setCell' (w1.setCell ⟨B0, 0, none⟩ v') (B0 + 1) (.int .i64 (n : Int))
  have hsz : W.heap.size ≤ W'.heap.size := by
    have h1 := hgrow.size
    have h2 := hg1.size
    have h3 := hg2.size
    simp at h1
    show W.heap.size ≤ ((w1.setCell ⟨B0, 0, none⟩ v').setCell ⟨B0 + 1, 0, none⟩ (.int .i64 (n : Int))).heap.size
    omega
  have hW : ∀ k, k ≠ B0 → k ≠ B0 + 1 → W'.heap[k]? = w1.heap[k]? := fun k h1 h2 => (Below.heap_setCell _ _ _ k h2).trans (Below.heap_setCell _ _ _ k h1)
  have hrowtype : ∀ r, v.ownBlock = some r → ∀ (o : Obj), (W.alloc tmp).heap[r]? = some o → ∃ cur f, o = .cells cur 23 f := fun r e o ho => by
    rcases (hrow.alloc tmp).2 with ⟨rfl, _⟩ | ⟨g, cap, cur, rfl, _, hgb, _⟩
    · simp [Value.ownBlock] at e
    · obtain rfl : g = r := by simpa [Value.ownBlock] using e
      rw [hgb] at ho
      injection ho with ho
      exact ⟨_, _, ho.symm⟩
  have hbuf : ∀ y : It, Buf E y.a y.bs.length y.c y.bs W → Buf E y.a y.bs.length y.c y.bs W' := fun y hy => by
    refine (((hy.alloc tmp).kept hgrow fun r e cur f hh => ?_).set (by omega) _).set (by omega) _
    obtain ⟨c2, f2, h2⟩ := hrowtype r e _ hh
    injection h2 with _ h2
    exact absurd h2 (by decide)
  refine ⟨b0, b1', ⟨hsz, fun k o hk ho hc => ?_⟩, ⟨hsz, fun k h1 h2 => ?_⟩, ⟨⟨v', ?_, ?_, trivial⟩, ?_, fun y hy => ?_, ?_, Nat.le_trans hs.size hsz⟩⟩
  · have hlt := (Array.getElem?_eq_some_iff.1 ho).1
    refine (hW k (by omega) (by omega)).trans ((hgrow.block k (by simp; omega) (fun e => ?_)).trans ((Below.heap_alloc W tmp k hlt).trans ho))
    obtain ⟨cur, f, e2⟩ := hrowtype k e.symm o ((Below.heap_alloc W tmp k hlt).trans ho)
    subst e2
    cases hc
  · have := hs.size
    exact (hW k (by omega) (by omega)).trans (hblk k (by omega) (by omega))
  · exact (b0.set v').other (by omega) _
  · rw [List.length_append, List.flatMap_append]
    refine (show ((w1.setCell ⟨B0, 0, none⟩ v').setCell ⟨B0 + 1, 0, none⟩ (.int .i64 (n : Int))).ownsRow E 23 1 v' (pre.length + [x].length) (pre.flatMap itCells ++ [x].flatMap itCells) from ?_)
    have e : [x].flatMap itCells = itCells x := by simp
    rw [e]
    refine (hown.kept hg1 (.inr fun e => ?_)).kept hg2 (.inr fun e => ?_)
    · have := (hown.lt _ e).1; omega
    · have := (hown.lt _ e).1; omega
  · have := b1'.set (.int .i64 (n : Int))
    rw [hn, hx.1] at this
    rw [bss_snoc, tot_snoc, ← Nat.add_assoc]
    show Boxed ((w1.setCell ⟨B0, 0, none⟩ v').setCell ⟨B0 + 1, 0, none⟩ (.int .i64 (n : Int))) _ _ _
    rw [hn, hx.1]
    exact this
  · rcases List.mem_append.1 hy with h | h
    · exact hbuf y (hs.items y h)
    · simp at h; subst h
      exact hbuf y hx.2.2
  · refine ((((Below.refl B0 W).alloc (by omega) tmp).grown hgrow (by simp; omega) fun k e => by have := (hrow.lt k e).1; omega).setCell (p := ⟨B0, 0, none⟩) (Nat.le_refl _) v').setCell (p := ⟨B0 + 1, 0, none⟩) (by simp) _ |> hs.below.trans

/-- The frames' bytes in a list, and how many bytes the frames have. -/
def ScanPost (l : List UInt8) (w : World) (e : Ending) (w' : World) : Prop :=
  ∃ (v : Value) (xs : List It), e = .returned (.tuple #[v, .int .i64 ((tot (frs l) : Nat) : Int)]) ∧ bss xs = frs l ∧ w'.ownsRow w.heap.size 23 1 v xs.length (xs.flatMap itCells) ∧ (∀ x ∈ xs, Buf w.heap.size x.a x.bs.length x.c x.bs w') ∧ Below w.heap.size w w'
set_option maxRecDepth 100000 in
set_option maxHeartbeats 4000000 in
theorem scan_any (l : List UInt8) (len c : Nat) (A : Option Addr) (w : World) (hl : len = l.length) (hm : len ≤ 1099511627776) (hr : BytesAt w w.heap.size A l) :
    Calls Try.prog 14 #[.slice A len c] w (ScanPost l w) := by
  have HL := Lib.hid hl
  have HR := Lib.hid hr
  have hlm : l.length ≤ 1099511627776 := by omega
  clear hl hr
  refine (callsIn_wide (n := 6)).1 ?_
  refine callsIn_of_wp_marks Try.func14 rfl trivial ?_ rfl
  simp only [Try.ntmps14, List.size_toArray, List.length_cons, List.length_nil, Nat.reduceAdd, Nat.reduceSub, Array.replicate_succ, Array.replicate_zero, List.push_toArray, List.append_toArray, List.nil_append, List.cons_append]
  obtain ⟨wb, hwb⟩ : ∃ wb, (w.alloc (.cells #[.slice none 0 0] 32)).alloc (.cells #[.int .i64 0] 3) = wb := ⟨_, rfl⟩
  have hszb : wb.heap.size = w.heap.size + 2 := by rw [← hwb]; simp
  have HBb := Lib.hid (show Below w.heap.size w wb by rw [← hwb]; exact ((Below.refl _ w).alloc (Nat.le_refl _) _).alloc (by simp) _)
  have HX0 := Lib.hid (show Boxed wb w.heap.size 32 (.slice none 0 0) by rw [← hwb]; exact (Boxed.new w _ _).alloc _)
  have HX1 := Lib.hid (show Boxed wb (w.heap.size + 1) 3 (.int .i64 0) by rw [← hwb]; have := Boxed.new (w.alloc (.cells #[.slice none 0 0] 32)) 3 (.int .i64 0); simp only [World.size_alloc] at this; exact this)
  have HWB := Lib.hid hwb
  clear hwb
  gi_wp2_with (refine ⟨trivial, ?_⟩; gi_at_call 17; rw [HWB.out]; refine (callsIn_wide.2 (all_any l len c A wb HL.out hm ((HR.out.below HBb.out).more HBb.out.size))).mono ?_; rintro e w2 ⟨g, A2, c2, rfl, h1, h2, h3, h4, h5⟩; have H1 := Lib.hid h1; have H2 := Lib.hid h2; have H3 := Lib.hid h3; have H4 := Lib.hid h4; have H5 := Lib.hid h5; clear h1 h2 h3 h4 h5)
  have hs2 := H5.out.size
  have bx0 : Boxed w2 w.heap.size 32 (.slice none 0 0) := (H5.out.block _ (by omega)).trans HX0.out
  have bx1 : Boxed w2 (w.heap.size + 1) 3 (.int .i64 0) := (H5.out.block _ (by omega)).trans HX1.out
  have hB02 : Below w.heap.size w w2 := HBb.out.trans (H5.out.mono (by omega))
  have hgw := H1.out
  have hg2 : g + 1 ≤ w2.heap.size := H2.out.lt
  refine range_mem rfl (by omega) (gf := 24) (lb := #[.pointer (some ⟨g, 0, none⟩)]) rfl trivial (enters_of Try.func24 (by kernel_rfl) rfl)
    (all_seq _ (by omega) l g (w.heap.size + 2) c2 A2 w2 hg2 (by omega) H2.out hlm (by have := H3.out; rwa [hszb] at this) H4.out) (fun _ => rfl)
    Mid.trans (Mid.refl _ _ _) (fun h hg => Mid.grown h hg2 hg) (fun W o => ⟨by simp, fun k _ h2 => World.putObj_heap_other (by omega)⟩)
    (Scanned w.heap.size w2.heap.size w) (fun _ _ _ => False) (scanned_own _ _ _ (Nat.le_refl _) (by omega)) (fun _ _ _ _ _ hs _ _ => hs) (comes_own l _ _)
    ⟨⟨_, bx0, World.ownsRow_nil _ _ _ _, trivial⟩, bx1, (fun x hx => by cases hx), hB02, Nat.le_refl _⟩
    (fun x => { tmps := #[.slice A len c, undef, .slice none 0 0, .int .i64 0, .pointer (some ⟨w.heap.size, 0, none⟩), .pointer (some ⟨w.heap.size + 1, 0, none⟩), .int .i64 (x.at_ : Int), .slice x.a x.bs.length x.c, .slice A len c, .func (.func 24) #[] #[.pointer (some ⟨g, 0, none⟩)], .int .i64 (x.at_ : Int), .slice x.a x.bs.length x.c, undef, undef, undef, undef, undef, undef, undef, undef, undef, undef, undef], defers := [] })
    ?assign ?body ?done ?stop
  case assign =>
    intro l0 x W K hK
    gi_wp2
    exact hK
  case body =>
    rintro l0 pre x W hI hx
    have HI := Lib.hid hI
    have HX := Lib.hid hx
    obtain ⟨v, hv, hrow, _⟩ := hI.list
    obtain ⟨Av, cv, rfl⟩ := own_slice hrow
    have v0 := hv.cell
    have HV := Lib.hid hv
    have HROW := Lib.hid hrow
    obtain ⟨i0, hi, hz0, hz1, hz2⟩ := info_parts infoBytes
    have HI0 := Lib.hid hi
    have HZ0 := Lib.hid hz0
    have HZ1 := Lib.hid hz1
    have HZ2 := Lib.hid hz2
    have hpl : pre.length ≤ 1099511627776 := by have := hx.2.1.le; rw [bss_snoc, List.length_append, bss_length] at this; omega
    have hxa : x.at_ + 8 + x.bs.length ≤ 1099511627776 := by
      have := hx.2.1.1
      rw [bss_snoc, tot_snoc, ← hx.1] at this
      omega
    clear hI hx hv hrow hi hz0 hz1 hz2 bx0 bx1
    gi_wp2_with (gi_at_builtin; go_loud (refine wpListIn_append_own _ rfl _ _ 32 rfl w2.heap.size 23 i0 _ 1 24 Try.underlying32 HI0.out HZ0.out HZ1.out HZ2.out rfl (by decide) _ pre.length (pre.flatMap itCells) rfl (HROW.out.alloc _) ⟨W.heap.size, 0, none⟩ 1 1 (itCells x) rfl rfl (new_cells W (itCells x) 23) (itCells_one x) (by unfold maxLen; omega) (by omega) (by have := HI.out.size; simp; omega) ?_); intro v' w1 hown' hgrow _; have HSTEP := Lib.hid (scan_step (D1 := g + 1) hg2 (by omega) HI.out HX.out HV.out HROW.out (fun cur f e => by injection e with _ e2; exact absurd e2 (by decide)) hown' hgrow (x.at_ + 8 + x.bs.length) rfl); have q0 := HSTEP.out.1.cell; have q1 := HSTEP.out.1.frozen; have q2 := HSTEP.out.2.1.cell; have q3 := HSTEP.out.2.1.frozen; obtain ⟨g', cap', rfl⟩ := ownsRow_succ hown'; clear hown' hgrow)
    have hfin := HSTEP.out
    rw [show ((x.at_ + 8 + x.bs.length : Nat) : Int) = (x.at_ : Int) + 8 + (x.bs.length : Int) by omega] at hfin
    exact hfin.2.2
  case done =>
    rintro xs W hxs hI hK
    obtain ⟨v, hv, hrow, _⟩ := hI.list
    have v0 := hv.cell
    have n0 := hI.count.cell
    rw [hxs] at n0
    have HI := Lib.hid hI
    have HROW := Lib.hid hrow
    have HK := Lib.hid hK
    have HXS := Lib.hid hxs
    clear hI hrow hK hv hxs bx0 bx1
    gi_wp2
    gi_quiet (fail)
    gi_wp2
    refine ⟨by simp, .inl ⟨_, _, rfl, run_takeDeferred HK.out, ?_⟩⟩
    have hk2 : (W.drewN nq).heap[w2.heap.size]? = some (.deferred (some [])) := HK.out
    have hgp := grownBy_putObj' (W.drewN nq) w2.heap.size (.deferred none)
    refine ⟨_, results_tmp2 rfl _ _ _, v, xs, rfl, HXS.out, ?_, fun x hx => ?_, ?_⟩
    · exact (ownsRow_putObj (W := W.drewN nq) (HROW.out) _ hk2 rfl).mono (by omega)
    · exact (((HI.out.items x hx).kept (grown_of_below (below_drewN W nq)) (fun r e => by cases e)).kept hgp (fun r e cur f hh => by cases e; rw [hk2] at hh; cases hh)).more (by omega)
    · exact (below_more HI.out.below nq).grown hgp (by have := HI.out.below.size; exact this) (fun k e => by cases e; omega)
  case stop =>
    rintro c pre W h _
    exact h.elim
end Go.Proofs.Ytcolghibbiijfaa
