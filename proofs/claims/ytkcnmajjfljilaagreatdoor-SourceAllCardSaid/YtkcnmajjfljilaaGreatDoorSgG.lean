/- segment: good: the records of the frames with which bytes begin, as pieces of these. -/
import Derived.Test.YtkcnmajjfljilaaGreatDoorSgP
import Derived.Test.YtkcnmajjfljilaaGreatDoorRegAll
import Derived.Sort.QuietIn
namespace Go.Proofs.YtkcnmajjfljilaaGreatDoor
attribute [local go_sem] Oper.semAt_some
open Go.ChangeShapes Go.WideShapes Go.ChangeAt Go.RowKit Go.Shelf
set_option linter.unusedVariables false
set_option linter.unusedSimpArgs false

theorem frs_back : ∀ (pre : List (List UInt8)) (l r : List (UInt8)) (ys : List (List UInt8)), frs l = pre ++ ys → l = cat pre ++ l.drop (tot pre)
  | [], l, _, _, _ => by simp [cat, tot]
  | x :: pre, l, r, ys, h => by
    cases hf : fst l with
    | none => rw [frs_none hf] at h; cases h
    | some y =>
      rw [frs_some hf] at h
      injection h with h1 h2
      subst h1
      have h3 := frs_back pre _ r ys h2
      have h4 := (fst_back hf).2.2.2.2
      rw [cat_cons, tot_cons, List.append_assoc, ← List.drop_drop, ← h3]
      exact h4
/-- Where a record of the bytes at A lies. -/
def gA (A : Option Addr) (x : It) : Option Addr := if x.bs.length = 0 then A else A.map (·.add (x.at_ + 8))
def gCells (A : Option Addr) (x : It) : List Value := [.slice (gA A x) x.bs.length x.bs.length]
theorem gCells_length (A : Option Addr) (x : It) : (gCells A x).length = 1 := rfl
theorem gCells_one (A : Option Addr) (x : It) : ∀ u ∈ gCells A x, u.oneCell' = true := by simp [gCells, Value.oneCell']
theorem comes_bytes {l : List UInt8} {E : Nat} {pre : List It} {x : It} {W w : World} {A : Option Addr} (h : Comes l E pre x W) (hg : ∀ r ∈ frs l, r.length ≤ 1024) (hb : BytesAt w w.heap.size A l) : BytesAt w w.heap.size (gA A x) x.bs := by
  obtain ⟨h1, ⟨h2, h3⟩, _⟩ := h
  rw [bss_snoc] at h2 h3
  have hm : x.bs ∈ frs l := by rw [h3]; simp
  have hl := hg _ hm
  have h4 := frs_back (bss pre) l [] ([x.bs] ++ frs (l.drop (tot (bss pre ++ [x.bs])))) (by rw [← List.append_assoc]; exact h3)
  have h5 := frs_back (bss pre ++ [x.bs]) l [] _ h3
  have h6 : l.drop (tot (bss pre)) = fr x.bs ++ l.drop (tot (bss pre ++ [x.bs])) := by
    have h7 : cat (bss pre) ++ l.drop (tot (bss pre)) = cat (bss pre) ++ (fr x.bs ++ l.drop (tot (bss pre ++ [x.bs]))) := by
      rw [← h4, ← List.append_assoc, ← cat_snoc]; exact h5
    exact List.append_cancel_left h7
  have h7 : fst (l.drop (tot (bss pre))) = some x.bs := by rw [h6]; exact fst_fr (by omega) _
  have h8 := (fst_back h7).2.2.1
  rw [List.drop_drop, ← h1] at h8
  unfold gA
  split
  · rename_i h0
    rw [List.eq_nil_of_length_eq_zero h0]
    exact fun j hj => absurd hj (by simp)
  · rename_i h0
    have h9 : x.at_ + 8 ≤ l.length := by
      rw [tot_snoc, ← h1] at h2; omega
    have hd := hb.drop (x.at_ + 8) l.length h9 (Nat.le_refl _)
    have h10 : l.length ≠ x.at_ + 8 := by rw [tot_snoc, ← h1] at h2; omega
    rw [if_neg h10] at hd
    rw [h8]
    simpa using hd.take x.bs.length
/-- Between two rounds. -/
structure Gooded (B0 E : Nat) (A : Option Addr) (n c : Nat) (w : World) (pre : List It) (W : World) : Prop where
  src : Boxed W B0 30 (.slice A n c)
  list : ∃ v, Boxed W (B0 + 1) 80 v ∧ W.ownsRow E 30 1 v pre.length (pre.flatMap (gCells A)) ∧ True
  count : Boxed W (B0 + 2) 3 (.int .i64 ((tot (bss pre) : Nat) : Int))
  items : ∀ x ∈ pre, BytesAt w w.heap.size (gA A x) x.bs
  below : Below B0 w W
  size : E ≤ W.heap.size
theorem gooded_own (B0 E : Nat) (A : Option Addr) (n c : Nat) (w : World) (h0 : B0 ≤ w.heap.size) (hE : B0 + 3 ≤ E) : OwnFrom E (Gooded B0 E A n c w) := by
  intro s X Y row hs hg hr
  refine ⟨?_, holdsRow_own E (B0 + 1) 80 30 1 List.length (fun s => s.flatMap (gCells A)) (fun _ _ => True) s X Y row hs.list hg (fun r e => (hr r e).2), ?_, hs.items, ?_, Nat.le_trans hs.size hg.size⟩
  · exact boxed_own B0 30 (fun pre : List It => .slice A n c) s X Y row hs.src hg (fun r e => (hr r e).2)
  · exact boxed_own (B0 + 2) 3 (fun pre : List It => .int .i64 ((tot (bss pre) : Nat) : Int)) s X Y row hs.count hg (fun r e => (hr r e).2)
  · exact hs.below.grown hg (by have := hs.below.size; omega) (fun k e => by have := (hr k e).1; omega)
theorem comes_own (l : List UInt8) (E B : Nat) (pre : List It) : OwnFrom B (Comes l E pre) := by
  intro x X Y row hs hg hr
  refine ⟨hs.1, hs.2.1, ?_⟩
  have hb := hs.2.2
  refine ⟨hb.1, Nat.le_trans hb.2.1 hg.size, hb.2.2.kept hg ?_⟩
  rcases hb.2.2.2 with ⟨hv, _⟩ | ⟨g, cap, cur, hv, _, hh, _⟩
  · rw [hv]; exact .inl rfl
  · rw [hv]
    refine .inr fun e => ?_
    obtain ⟨_, o, ho, hc⟩ := hr g (by simpa [Value.ownBlock] using e.symm)
    rw [ho] at hh
    cases hh
    cases hc
theorem infoBytes : (Tryz.prog.info? 30).map (fun i => (i.zero, i.size, i.bytes)) = some (some (Value.slice none 0 0), 1, 24) := by kernel_rfl
/-- One round's end. -/
theorem good_step {B0 E D1 n c : Nat} {A : Option Addr} {w W w3 : World} {pre : List It} {x : It} {v v' : Value} {tmp : Obj} {N : Int} (hD : D1 ≤ E) (hE : B0 + 3 ≤ E) (hs : Gooded B0 E A n c w pre W) (hx : BytesAt w w.heap.size (gA A x) x.bs)
    (hv : Boxed W (B0 + 1) 80 v) (hrow : W.ownsRow E 30 1 v pre.length (pre.flatMap (gCells A)))
    (hown : w3.ownsRow E 30 1 v' (pre.length + 1) ((pre ++ [x]).flatMap (gCells A))) (hgrow : ((W.setCell ⟨B0 + 2, 0, none⟩ (.int .i64 N)).drew.alloc tmp).grownBy w3 v.ownBlock) (hN : N = ((tot (bss (pre ++ [x])) : Nat) : Int)) :
    KeepsFrom E W (w3.setCell ⟨B0 + 1, 0, none⟩ v') ∧ Mid (B0 + 3) D1 W (w3.setCell ⟨B0 + 1, 0, none⟩ v') ∧ Gooded B0 E A n c w (pre ++ [x]) (w3.setCell ⟨B0 + 1, 0, none⟩ v') := by
  have hsz1 : (W.setCell ⟨B0 + 2, 0, none⟩ (.int .i64 N)).drew.heap.size = W.heap.size := by show (W.setCell _ _).heap.size = _; simp
  have hW1 : ∀ k, k ≠ B0 + 2 → (W.setCell ⟨B0 + 2, 0, none⟩ (.int .i64 N)).drew.heap[k]? = W.heap[k]? := fun k hk => Below.heap_setCell W ⟨B0 + 2, 0, none⟩ _ k hk
  have hrowt : ∀ r, v.ownBlock = some r → E ≤ r ∧ ∃ d, Cells W r d 30 := fun r e => by
    obtain ⟨d, hd, hB⟩ := own_cells hrow e
    exact ⟨hB, d, hd⟩
  have hal : ∀ k, k < W.heap.size → ((W.setCell ⟨B0 + 2, 0, none⟩ (.int .i64 N)).drew.alloc tmp).heap[k]? = (W.setCell ⟨B0 + 2, 0, none⟩ (.int .i64 N)).drew.heap[k]? := fun k hk => Below.heap_alloc _ tmp k (by rw [hsz1]; exact hk)
  have hblk : ∀ k, k < W.heap.size → k < E → k ≠ B0 + 2 → w3.heap[k]? = W.heap[k]? := fun k hk hkE hk2 => by
    refine (hgrow.block k (by rw [World.size_alloc, hsz1]; omega) (fun e => ?_)).trans ((hal k hk).trans (hW1 k hk2))
    have := (hrowt k e.symm).1
    omega
  have l0 : B0 < W.heap.size := hs.src.lt
  have l1 : B0 + 1 < W.heap.size := hv.lt
  have l2 : B0 + 2 < W.heap.size := hs.count.lt
  have b0 : Boxed w3 B0 30 (.slice A n c) := (hblk B0 l0 (by omega) (by omega)).trans hs.src
  have b1 : Boxed w3 (B0 + 1) 80 v := (hblk (B0 + 1) l1 (by omega) (by omega)).trans hv
  have b2 : Boxed w3 (B0 + 2) 3 (.int .i64 N) := by
    have h2 : Boxed (W.setCell ⟨B0 + 2, 0, none⟩ (.int .i64 N)) (B0 + 2) 3 (.int .i64 N) := hs.count.set _
    refine (hgrow.block _ (by rw [World.size_alloc, hsz1]; omega) (fun e => ?_)).trans ((hal _ l2).trans h2)
    have := (hrowt _ e.symm).1
    omega
  have hg1 := grownBy_setCell' w3 (B0 + 1) v'
  have hsz : W.heap.size ≤ (w3.setCell ⟨B0 + 1, 0, none⟩ v').heap.size := by
    have h1 := hgrow.size
    rw [World.size_alloc, hsz1] at h1
    have h2 := hg1.size
    omega
  have hW' : ∀ k, k ≠ B0 + 1 → (w3.setCell ⟨B0 + 1, 0, none⟩ v').heap[k]? = w3.heap[k]? := fun k hk => Below.heap_setCell _ _ _ k hk
  refine ⟨⟨hsz, fun k o hk ho hc => ?_⟩, ⟨hsz, fun k h1 h2 => ?_⟩, ⟨b0.other (by omega) _, ⟨v', b1.set v', ?_, trivial⟩, ?_, fun y hy => ?_, ?_, Nat.le_trans hs.size hsz⟩⟩
  · have hlt := (Array.getElem?_eq_some_iff.1 ho).1
    refine (hW' k (by omega)).trans ((hgrow.block k (by rw [World.size_alloc, hsz1]; omega) (fun e => ?_)).trans ((hal k hlt).trans ((hW1 k (by omega)).trans ho)))
    obtain ⟨_, d, hd⟩ := hrowt k e.symm
    rw [show W.heap[k]? = _ from hd] at ho
    cases ho
    cases hc
  · have := hs.size
    exact (hW' k (by omega)).trans (hblk k (by omega) (by omega) (by omega))
  · rw [List.length_append, List.length_singleton]
    refine hown.kept hg1 (.inr fun e => ?_)
    have := (hown.lt _ e).1; omega
  · rw [← hN]; exact b2.other (by omega) _
  · rcases List.mem_append.1 hy with h | h
    · exact hs.items y h
    · rw [List.mem_singleton.1 h]; exact hx
  · have hb1 : Below B0 W ((W.setCell ⟨B0 + 2, 0, none⟩ (.int .i64 N)).drew.alloc tmp) := (((Below.refl B0 W).setCell (p := ⟨B0 + 2, 0, none⟩) (by simp) _).drew).alloc (by rw [hsz1]; omega) tmp
    exact hs.below.trans ((hb1.grown hgrow (by rw [World.size_alloc, hsz1]; omega) (fun k e => by have := (hrowt k e).1; omega)).setCell (p := ⟨B0 + 1, 0, none⟩) (by simp) v')
/-- Slices of bytes that lie somewhere. -/
def U8At (W : World) (A : Option Addr) : Prop := ∀ a, A = some a → ∃ d z, W.heap[a.block]? = some (.cells d 5 z)
theorem U8At.below {W W' : World} {A : Option Addr} (h : U8At W A) (hb : Below W.heap.size W W') : U8At W' A := fun a ha => by
  obtain ⟨d, z, h1⟩ := h a ha
  exact ⟨d, z, (hb.block _ (Array.getElem?_eq_some_iff.1 h1).1).trans h1⟩
theorem buf_u8 {B : Nat} {A : Option Addr} {n c : Nat} {bs : List UInt8} {w : World} (h : Buf B A n c bs w) : U8At w A := fun a ha => by
  rcases h.2.2.2 with ⟨hv, _⟩ | ⟨g, cap, cur, hv, _, hh, _⟩
  · injection hv with h1; rw [h1] at ha; cases ha
  · injection hv with h1; rw [h1] at ha; injection ha with ha; subst ha; exact ⟨_, _, hh⟩
def RecsAt (W : World) (vs : List Value) (bs : List (List UInt8)) : Prop := vs.length = bs.length ∧ ∀ j (h : j < bs.length), ∃ A c, vs[j]? = some (.slice A bs[j].length c) ∧ BytesAt W W.heap.size A bs[j] ∧ U8At W A
theorem RecsAt.below {W W' : World} {vs : List Value} {bs : List (List UInt8)} (h : RecsAt W vs bs) (hb : Below W.heap.size W W') : RecsAt W' vs bs :=
  ⟨h.1, fun j hj => by obtain ⟨A, c, h1, h2, h3⟩ := h.2 j hj; exact ⟨A, c, h1, ml_bytes h2 hb, h3.below hb⟩⟩
theorem gA_u8 {W : World} {A : Option Addr} (h : U8At W A) (x : It) : U8At W (gA A x) := fun a ha => by
  unfold gA at ha
  split at ha
  · exact h a ha
  · cases A with
    | none => cases ha
    | some a0 =>
      obtain ⟨b, off, fld⟩ := a0
      have ha : some ((⟨b, off, fld⟩ : Addr).add (x.at_ + 8)) = some a := ha
      injection ha with ha
      have e : a.block = b := by rw [← ha]; unfold Addr.add; split <;> rfl
      rw [e]
      exact h ⟨b, off, fld⟩ rfl
def GoodPost (l : List UInt8) (w : World) (e : Ending) (w' : World) : Prop :=
  ∃ v vs, e = .returned (.tuple #[v, .int .i64 ((tot (frs l) : Nat) : Int)]) ∧ w'.ownsRow w.heap.size 30 1 v (frs l).length vs ∧ RecsAt w' vs (frs l) ∧ Below w.heap.size w w'
theorem run_slice3 {W : World} {A : Option Addr} {n c lo hi : Nat} (h1 : lo ≤ hi) (h2 : hi ≤ c) : (Instr.sliceAt 30 (.slice A n c) (some (.int .i64 (lo : Int))) (some (.int .i64 (hi : Int))) (some (.int .i64 (hi : Int)))).run Tryz.prog W = .ok (.slice (if hi = lo then A else A.map (·.add (lo * 1))) (hi - lo) (hi - lo)) W := by
  have hu := Tryz.underlying30
  simp [Instr.sliceAt, Instr.slice, run_underlying hu, Instr.sliceBounds, run_sliceBound, h1, h2, go_sem]

set_option maxRecDepth 100000 in
set_option maxHeartbeats 4000000 in
theorem good_any (l : List UInt8) (len c : Nat) (A : Option Addr) (w : World) (hl : len = l.length) (hlc : len ≤ c) (hm : len ≤ 1099511627776) (hr : BytesAt w w.heap.size A l) (hty : U8At w A) (hgd : ∀ r ∈ frs l, r.length ≤ 1024) :
    Calls Tryz.prog 77 #[.slice A len c] w (GoodPost l w) := by
  have HL := Lib.hid hl
  have HR := Lib.hid hr
  have HGD := Lib.hid hgd
  have HTY := Lib.hid hty
  have hlm : l.length ≤ 1099511627776 := by omega
  clear hl hr hgd hty
  refine (callsIn_wide (n := 6)).1 ?_
  refine callsIn_of_wp_marks Tryz.func77 rfl trivial ?_ rfl
  simp only [Tryz.ntmps77, List.size_toArray, List.length_cons, List.length_nil, Nat.reduceAdd, Nat.reduceSub, Array.replicate_succ, Array.replicate_zero, List.push_toArray, List.append_toArray, List.nil_append, List.cons_append]
  obtain ⟨wb, hwb⟩ : ∃ wb, ((w.alloc (.cells #[.slice A len c] 30)).alloc (.cells #[.slice none 0 0] 80)).alloc (.cells #[.int .i64 0] 3) = wb := ⟨_, rfl⟩
  have hszb : wb.heap.size = w.heap.size + 3 := by rw [← hwb]; simp
  have HBb := Lib.hid (show Below w.heap.size w wb by rw [← hwb]; exact (((Below.refl _ w).alloc (Nat.le_refl _) _).alloc (by simp) _).alloc (by simp; omega) _)
  have HX0 := Lib.hid (show Boxed wb w.heap.size 30 (.slice A len c) by rw [← hwb]; exact ((Boxed.new w _ _).alloc _).alloc _)
  have HX1 := Lib.hid (show Boxed wb (w.heap.size + 1) 80 (.slice none 0 0) by rw [← hwb]; have := (Boxed.new (w.alloc (.cells #[.slice A len c] 30)) 80 (.slice none 0 0)).alloc (.cells #[.int .i64 0] 3); simp only [World.size_alloc] at this; exact this)
  have HX2 := Lib.hid (show Boxed wb (w.heap.size + 2) 3 (.int .i64 0) by rw [← hwb]; have := Boxed.new ((w.alloc (.cells #[.slice A len c] 30)).alloc (.cells #[.slice none 0 0] 80)) 3 (.int .i64 0); simp only [World.size_alloc] at this; exact this)
  have HWB := Lib.hid hwb
  clear hwb
  gi_wp2_with (refine ⟨trivial, ?_⟩; gi_at_call 107; rw [HWB.out]; refine (callsIn_wide.2 (all_any l len c A wb HL.out hm ((HR.out.below HBb.out).more HBb.out.size))).mono ?_; rintro e w2 ⟨g, A2, c2, rfl, h1, h2, h3, h4, h5⟩; have H1 := Lib.hid h1; have H2 := Lib.hid h2; have H3 := Lib.hid h3; have H4 := Lib.hid h4; have H5 := Lib.hid h5; clear h1 h2 h3 h4 h5)
  have hs2 := H5.out.size
  have bx0 : Boxed w2 w.heap.size 30 (.slice A len c) := (H5.out.block _ (by omega)).trans HX0.out
  have bx1 : Boxed w2 (w.heap.size + 1) 80 (.slice none 0 0) := (H5.out.block _ (by omega)).trans HX1.out
  have bx2 : Boxed w2 (w.heap.size + 2) 3 (.int .i64 0) := (H5.out.block _ (by omega)).trans HX2.out
  have hB02 : Below w.heap.size w w2 := HBb.out.trans (H5.out.mono (by omega))
  have hgw := H1.out
  have hg2 : g + 1 ≤ w2.heap.size := H2.out.lt
  refine range_mem rfl (by omega) (gf := 159) (lb := #[.pointer (some ⟨g, 0, none⟩)]) rfl trivial (enters_of Tryz.func159 (by kernel_rfl) rfl)
    (all_seq _ (by omega) l g (w.heap.size + 3) c2 A2 w2 hg2 (by omega) H2.out hlm (by have := H3.out; rwa [hszb] at this) H4.out) (fun _ => rfl)
    Mid.trans (Mid.refl _ _ _) (fun h hg => Mid.grown h hg2 hg) (fun W o => ⟨by simp, fun k _ h2 => World.putObj_heap_other (by omega)⟩)
    (Gooded w.heap.size w2.heap.size A len c w) (fun _ _ _ => False) (gooded_own _ _ _ _ _ _ (Nat.le_refl _) (by omega)) (fun _ _ _ _ _ hs _ _ => hs) (comes_own l _ _)
    ⟨bx0, ⟨_, bx1, World.ownsRow_nil _ _ _ _, trivial⟩, bx2, (fun x hx => by cases hx), hB02, Nat.le_refl _⟩
    ?a1 ?assign ?body ?done ?stop
  case assign =>
    intro l0 x W K hK
    gi_wp2
    exact hK
  case body =>
    rintro l0 pre x W hI hx
    have HI := Lib.hid hI
    have HX := Lib.hid hx
    obtain ⟨v, hv, hrow, _⟩ := hI.list
    obtain ⟨Av, cv, rfl⟩ := own_slice hrow
    have hcb := comes_bytes hx HGD.out HR.out
    have h24 : ¬ (1024 : Int) < (x.bs.length : Int) := by
      have hm : x.bs ∈ frs l := by have := hx.2.1.2; rw [bss_snoc] at this; rw [this]; simp
      have := HGD.out _ hm
      omega
    have hpl : pre.length ≤ 1099511627776 := by have := hx.2.1.le; rw [bss_snoc, List.length_append, bss_length] at this; omega
    have hxa : x.at_ + 8 + x.bs.length ≤ len := by
      have := hx.2.1.1
      rw [bss_snoc, tot_snoc, ← hx.1, ← HL.out] at this
      omega
    have hxN : (x.at_ : Int) + 8 + (x.bs.length : Int) = ((tot (bss (pre ++ [x])) : Nat) : Int) := by rw [bss_snoc, tot_snoc, hx.1]; omega
    have k2 := hI.count.cell
    have f2 := hI.count.frozen
    have l2 := hI.count.lt
    have HV := Lib.hid hv
    have HROW := Lib.hid hrow
    have HCB := Lib.hid hcb
    have HXN := Lib.hid hxN
    have hsl : ∀ W : World, (Instr.sliceAt 30 (.slice A len c) (some (.int .i64 ((x.at_ : Int) + 8))) (some (.int .i64 ((x.at_ : Int) + 8 + (x.bs.length : Int)))) (some (.int .i64 ((x.at_ : Int) + 8 + (x.bs.length : Int))))).run Tryz.prog W = .ok (.slice (gA A x) x.bs.length x.bs.length) W := fun W => by
      have := run_slice3 (W := W) (A := A) (n := len) (c := c) (lo := x.at_ + 8) (hi := x.at_ + 8 + x.bs.length) (by omega) (by omega)
      rw [show ((x.at_ + 8 : Nat) : Int) = (x.at_ : Int) + 8 by omega, show ((x.at_ + 8 + x.bs.length : Nat) : Int) = (x.at_ : Int) + 8 + (x.bs.length : Int) by omega] at this
      rw [this]
      unfold gA
      rw [show x.at_ + 8 + x.bs.length - (x.at_ + 8) = x.bs.length by omega, Nat.mul_one]
      by_cases h0 : x.bs.length = 0
      · rw [if_pos (by omega), if_pos h0]
      · rw [if_neg (by omega), if_neg h0]
    clear hI hx hv hrow bx0 bx1 bx2 hcb hxN
    gi_wp2
    have hb1 : Boxed (W.setCell ⟨w.heap.size + 2, 0, none⟩ (.int .i64 ((x.at_ : Int) + 8 + (x.bs.length : Int)))) (w.heap.size + 2) 3 (.int .i64 ((x.at_ : Int) + 8 + (x.bs.length : Int))) := HI.out.count.set _
    have hbs : Boxed (W.setCell ⟨w.heap.size + 2, 0, none⟩ (.int .i64 ((x.at_ : Int) + 8 + (x.bs.length : Int)))) w.heap.size 30 (.slice A len c) := HI.out.src.other (by omega) _
    have hbv : Boxed (W.setCell ⟨w.heap.size + 2, 0, none⟩ (.int .i64 ((x.at_ : Int) + 8 + (x.bs.length : Int)))) (w.heap.size + 1) 80 (.slice Av pre.length cv) := HV.out.other (by omega) _
    obtain ⟨W1, hW1⟩ : ∃ W1, W.setCell ⟨w.heap.size + 2, 0, none⟩ (.int .i64 ((x.at_ : Int) + 8 + (x.bs.length : Int))) = W1 := ⟨_, rfl⟩
    rw [hW1] at hb1 hbs hbv
    try rw [hW1]
    have hS : W1.drew.cell? ⟨w.heap.size, 0, none⟩ = some (.slice A len c) ∧ W1.drew.cell? ⟨w.heap.size + 1, 0, none⟩ = some (.slice Av pre.length cv) ∧ W1.drew.cell? ⟨w.heap.size + 2, 0, none⟩ = some (.int .i64 ((x.at_ : Int) + 8 + (x.bs.length : Int))) := ⟨hbs.cell, hbv.cell, hb1.cell⟩
    refine wpIn_mono ?_ noPanic_le
    refine till_round 9 8 (fun W => W.cell? ⟨w.heap.size, 0, none⟩ = some (.slice A len c) ∧ W.cell? ⟨w.heap.size + 1, 0, none⟩ = some (.slice Av pre.length cv) ∧ W.cell? ⟨w.heap.size + 2, 0, none⟩ = some (.int .i64 ((x.at_ : Int) + 8 + (x.bs.length : Int)))) rfl (by kernel_rfl) (by simp) (fun ⟨_, _, h⟩ => h) ?_
    refine till_take (i := 0) (t := 22) (v := (.slice Av pre.length cv)) (fuel := 8) rfl rfl (by kernel_rfl) (by kernel_rfl) (by kernel_rfl) (by kernel_rfl) (fun _ _ _ h => h) (.inl ⟨rfl, fun W hW => by obtain ⟨w1, w2, w3⟩ := hW; simp [execOp, Act.eval, go_sem, w1, w2, w3]⟩) hS ?_
    simp only [List.setIfInBounds_toArray, List.set_cons_succ, List.set_cons_zero]
    refine till_take (i := 1) (t := 23) (v := (.slice A len c)) (fuel := 7) rfl rfl (by kernel_rfl) (by kernel_rfl) (by kernel_rfl) (by kernel_rfl) (fun _ _ _ h => h) (.inl ⟨rfl, fun W hW => by obtain ⟨w1, w2, w3⟩ := hW; simp [execOp, Act.eval, go_sem, w1, w2, w3]⟩) hS ?_
    simp only [List.setIfInBounds_toArray, List.set_cons_succ, List.set_cons_zero]
    refine till_take (i := 2) (t := 24) (v := (.int .i64 ((x.at_ : Int) + 8))) (fuel := 6) rfl rfl (by kernel_rfl) (by kernel_rfl) (by kernel_rfl) (by kernel_rfl) (fun _ _ _ h => h) (.inl ⟨rfl, fun W hW => by obtain ⟨w1, w2, w3⟩ := hW; simp [execOp, Act.eval, go_sem, w1, w2, w3]⟩) hS ?_
    simp only [List.setIfInBounds_toArray, List.set_cons_succ, List.set_cons_zero]
    refine till_take (i := 3) (t := 25) (v := (.int .i64 ((x.at_ : Int) + 8 + (x.bs.length : Int)))) (fuel := 5) rfl rfl (by kernel_rfl) (by kernel_rfl) (by kernel_rfl) (by kernel_rfl) (fun _ _ _ h => h) (.inl ⟨rfl, fun W hW => by obtain ⟨w1, w2, w3⟩ := hW; simp [execOp, Act.eval, go_sem, w1, w2, w3]⟩) hS ?_
    simp only [List.setIfInBounds_toArray, List.set_cons_succ, List.set_cons_zero]
    refine till_take (i := 4) (t := 26) (v := (.int .i64 ((x.at_ : Int) + 8 + (x.bs.length : Int)))) (fuel := 4) rfl rfl (by kernel_rfl) (by kernel_rfl) (by kernel_rfl) (by kernel_rfl) (fun _ _ _ h => h) (.inl ⟨rfl, fun W hW => by obtain ⟨w1, w2, w3⟩ := hW; simp [execOp, Act.eval, go_sem, w1, w2, w3]⟩) hS ?_
    simp only [List.setIfInBounds_toArray, List.set_cons_succ, List.set_cons_zero]
    refine till_take (i := 5) (t := 27) (v := (.slice (gA A x) x.bs.length x.bs.length)) (fuel := 3) rfl rfl (by kernel_rfl) (by kernel_rfl) (by kernel_rfl) (by kernel_rfl) (fun _ _ _ h => h) (.inl ⟨rfl, fun W hW => by obtain ⟨w1, w2, w3⟩ := hW; simp [execOp, Act.eval, go_sem, w1, w2, w3, hsl]⟩) hS ?_
    simp only [List.setIfInBounds_toArray, List.set_cons_succ, List.set_cons_zero]
    refine till_one (i := 6) rfl (by kernel_rfl) (by kernel_rfl) ?_
    simp [Oper.wp, execOp, Act.eval, Act.put, go_sem]
    have hal : Below W1.heap.size W1 (W1.drew.alloc (.cells #[.slice (gA A x) x.bs.length x.bs.length] 30)) := ((Below.refl _ W1).drew).alloc (Nat.le_refl _) _
    have hnew : (W1.drew.alloc (.cells #[.slice (gA A x) x.bs.length x.bs.length] 30)).heap[W1.heap.size]? = some (.cells (gCells A x).toArray 30 (0, 0)) := heap_alloc_new W1.drew _
    have hro1 : W1.ownsRow w2.heap.size 30 1 (.slice Av pre.length cv) pre.length (pre.flatMap (gCells A)) := by
      rw [← hW1]
      exact own_ch HROW.out ((Ch.refl (· = w.heap.size + 2) W).set (p := ⟨w.heap.size + 2, 0, none⟩) (.inl rfl) _) (fun i hi e => by have := (HROW.out.lt i hi).1; omega)
    have ho3 := own_below hro1 hal
    have hal2 : Below W1.heap.size W1 (W1.alloc (.cells #[.slice (gA A x) x.bs.length x.bs.length] 30)) := (Below.refl _ W1).alloc (Nat.le_refl _) _
    refine ⟨⟨cell_later hal2 hbs.cell, cell_later hal2 hbv.cell, cell_later hal2 hb1.cell⟩, ?_⟩
    try simp only [List.setIfInBounds_toArray, List.set_cons_succ, List.set_cons_zero]
    refine till_one (i := 7) rfl (by kernel_rfl) (by kernel_rfl) ?_
    refine app_ml Tryz.underlying80 infoBytes rfl (by decide) (gCells_length A) (gCells_one A) (W1.drew.alloc (.cells #[.slice (gA A x) x.bs.length x.bs.length] 30)) _ _ rfl w2.heap.size (Nat.le_trans (by have := HI.out.size; rw [← hW1]; simpa using this) hal.size) Av pre.length cv pre rfl ho3 x ⟨W1.heap.size, 0, none⟩ 1 rfl (cells_of_block hnew) (by omega) (by unfold maxLen; omega) ?_
    intro A4 c4 w4 hown4 hg4
    have hk4 : ∀ k, k < w2.heap.size → w4.heap[k]? = W1.heap[k]? := fun k hk => by
      have hkW : k < W1.heap.size := by have := HI.out.size; rw [← hW1]; simp; omega
      refine (hg4.block k (Nat.lt_of_lt_of_le hkW hal.size) (fun e => ?_)).trans (hal.block k hkW)
      have := (ho3.lt k e.symm).1
      omega
    have z0 : w4.cell? ⟨w.heap.size + 1, 0, none⟩ = some (.slice Av pre.length cv) := (World.cell?_of_block (a := ⟨w.heap.size + 1, 0, none⟩) (hk4 (w.heap.size + 1) (by omega))).trans hbv.cell
    have z1 : w4.frozen? ⟨w.heap.size + 1, 0, none⟩ = false := Cells.frozen (c := #[.slice Av pre.length cv]) (t := 80) ((hk4 _ (by omega)).trans hbv) 0
    refine ⟨fun _ => ⟨(World.cell?_of_block (a := ⟨w.heap.size, 0, none⟩) (hk4 w.heap.size (by omega))).trans hbs.cell, z0, (World.cell?_of_block (a := ⟨w.heap.size + 2, 0, none⟩) (hk4 (w.heap.size + 2) (by omega))).trans hb1.cell⟩, ?_⟩
    try simp only [Act.put]
    try simp only [List.setIfInBounds_toArray, List.set_cons_succ, List.set_cons_zero]
    refine till_one (i := 8) rfl (by kernel_rfl) (by kernel_rfl) ?_
    simp [Oper.wp, execOp, Act.eval, Act.put, go_sem, z0, z1]
    refine till_done (by kernel_rfl) ?_
    unfold noPanic
    rw [← hW1] at hg4
    gi_wp2
    exact good_step hg2 (by omega) HI.out HCB.out HV.out HROW.out hown4 hg4 HXN.out
  case done =>
    rintro xs W hxs hI hK
    obtain ⟨v, hv, hrow, _⟩ := hI.list
    have v0 := hv.cell
    have n0 := hI.count.cell
    rw [hxs] at n0
    have HI := Lib.hid hI
    have HROW := Lib.hid hrow
    have HK := Lib.hid hK
    have HXS := Lib.hid hxs
    clear hI hrow hK hv hxs bx0 bx1 bx2
    gi_wp2
    gi_quiet (fail)
    gi_wp2
    refine ⟨by simp, .inl ⟨_, _, rfl, run_takeDeferred HK.out, ?_⟩⟩
    have hk2 : (W.drewN nq).heap[w2.heap.size]? = some (.deferred (some [])) := HK.out
    have hgp := grownBy_putObj' (W.drewN nq) w2.heap.size (.deferred none)
    have hbw := HI.out.below.size
    have hbf : Below w.heap.size w ((W.drewN nq).putObj w2.heap.size (.deferred none)) := (below_more HI.out.below nq).grown hgp hbw (fun k e => by cases e; omega)
    refine ⟨_, results_tmp2 rfl _ _ _, v, xs.flatMap (gCells A), rfl, ?_, ⟨?_, fun j hj => ?_⟩, hbf⟩
    · rw [← HXS.out, bss_length]
      exact (ownsRow_putObj (W := W.drewN nq) (HROW.out) _ hk2 rfl).mono (by omega)
    · rw [← HXS.out, bss_length, flat_length (gCells_length A), Nat.mul_one]
    · have hj2 : j < xs.length := by rw [← HXS.out, bss_length] at hj; exact hj
      have e : (frs l)[j] = xs[j].bs := by
        have h1 : (bss xs)[j]? = some xs[j].bs := by simp [bss, hj2]
        have h2 : (frs l)[j]? = some xs[j].bs := by rw [← HXS.out]; exact h1
        rw [List.getElem?_eq_getElem hj] at h2
        exact Option.some.inj h2
      rw [e]
      refine ⟨gA A xs[j], xs[j].bs.length, ?_, ?_, fun a ha => ?_⟩
      · have := flat_at (gCells_length A) xs j hj2 0 (.slice (gA A xs[j]) xs[j].bs.length xs[j].bs.length) rfl
        simpa using this
      · exact ((HI.out.items _ (List.getElem_mem hj2)).below hbf).more hbf.size
      · exact ((gA_u8 HTY.out xs[j]).below hbf) a ha
  case stop =>
    rintro c pre W h _
    exact h.elim
end Go.Proofs.YtkcnmajjfljilaaGreatDoor
