/- The statement FrameAll: the walk. -/
import Derived.Test.YtcolghibbiijfaaFraTurned
import Derived.Test.YtcolghibbiijfaaFraSame
import Derived.Test.YtcolghibbiijfaaFraReg
import Derived.LoopNIn
import Derived.Laws.ResultCell
namespace Go.Proofs.Ytcolghibbiijfaa
attribute [local go_sem] Oper.semAt_some
open Go.ChangeShapes Go.WideShapes Go.ChangeAt Go.RowKit Go.Shelf
open Go.Lib (byteCells byteCells_length byteCells_append strCells)
set_option linter.unusedVariables false

section
variable {F : Fence} {n : Nat} {P : Program}
/-- Where rounds go on, or leave by one exit: what follows is asked once. -/
theorem range_join {α : Type} {g : Operand} {ps : Array Tmp} {assign body : Code} {Q : Exit → Act → World → Prop} {a : Act} {w : World}
    (hro : F.round = none) (h1 : 1 ≤ n) {gf : Nat} {lb : Array Value} (hg : a.eval g = .func (.func gf) #[] lb) (hFg : F.fn gf) (eg : ∀ args w, (callFunc gf args).run P w = .ok (.enter gf args) w)
    {encs : α → Array Value} {Y : List α → α → World → Prop} {Kp : World → World → Prop} {done : List α → Prop} {w0 : World} (hseq : SeqMem F (n - 1) P gf lb encs Y Kp done w0) (hps : ∀ x, (encs x).size = ps.size)
    (hKt : ∀ {A B C : World}, Kp A B → Kp B C → Kp A C) (hK0 : Kp w0 w) (hKg : ∀ {A B : World}, Kp w0 A → A.grownBy B none → Kp A B) (hKr : ∀ (A : World) (o : Obj), Kp A (A.putObj (w.heap.size + 1) o))
    (I : List α → World → Prop) (Ix : Code → List α → World → Prop) (hI : OwnFrom w.heap.size I) (hIx : ∀ c, OwnFrom w.heap.size (Ix c)) (hYo : ∀ pre, OwnFrom w.heap.size (Y pre)) (h0 : I [] w) (a₁ : α → Act)
    (hassign : ∀ (l : Nat) (x : α) (W : World) (K : Act → World → Prop), K (a₁ x) W →
      assign.wpIn (F.inRound l) (n - 1 - 1) P (Exit.then K (fun _ _ _ => False)) { tmps := (ps.zip (encs x)).foldl (fun t (p, v) => t.setIfInBounds p v) a.tmps, defers := [] } W)
    (hbody : ∀ (l : Nat) (pre : List α) (x : α) (W : World), I pre W → Y pre x W → body.wpIn (F.inRound l) (n - 1 - 1) P (ownPostG w.heap.size Kp I Ix (pre ++ [x]) W) (a₁ x) W)
    (id : Nat) (R : World → Prop)
    (hdone : ∀ (xs : List α) (W : World), done xs → I xs W → W.heap[w.heap.size]? = some (.deferred (some [])) → R W)
    (hstop : ∀ (c : Code) (pre : List α) (W : World), Ix c pre W → W.heap[w.heap.size]? = some (.deferred (some [])) → c = .exit id ∧ R W)
    (hQ : ∀ (e : Exit) (W : World), (e = .normal ∨ e = .exit id) → R W → Q e { a with defers := { target := .collected w.heap.size, args := #[] } :: a.defers } W) :
    (Code.rangeFunc g ps assign body).wpIn F n P Q a w :=
  range_mem hro h1 hg hFg eg hseq hps hKt hK0 hKg hKr I Ix hI hIx hYo h0 a₁ hassign hbody
    (fun xs W h1 h2 h3 => hQ _ _ (.inl rfl) (hdone xs W h1 h2 h3))
    (fun c pre W h1 h2 => by obtain ⟨rfl, h3⟩ := hstop c pre W h1 h2; exact wpIn_exit (hQ _ _ (.inr rfl) h3))
end
theorem boxed_less {B : Nat} {w w' : World} {g : Nat} {t : TypeId} {v : Value} (h : Boxed w g t v) (hb : Below B w w') (hg : g < B) : Boxed w' g t v := (hb.block g hg).trans h

/-- The bytes that the law turns: some bytes, that may be stored to; nothing else has turned. -/
structure Loose (B gb len : Nat) (w w3 wr : World) (L : List UInt8) : Prop where
  llen : L.length = len
  cells : ∀ j, j < len → wr.cell? ⟨gb, j, none⟩ = some (.int .u8 ((L.getD j 0).toNat : Int))
  free : ∀ j, j < len → wr.frozen? ⟨gb, j, none⟩ = false
  other : ∀ k, k ≠ gb → wr.heap[k]? = w3.heap[k]?
  below : Below B w wr
  size : wr.heap.size = w3.heap.size
theorem Loose.next {B gb len : Nat} {w w3 wr : World} {L : List UInt8} (h : Loose B gb len w w3 wr L) (hg : B ≤ gb) (i : Nat) (hi : i < len) (y : UInt8) : Loose B gb len w w3 (wr.setCell ⟨gb, i, none⟩ (.int .u8 (y.toNat : Int))) (L.set i y) where
  llen := by rw [List.length_set]; exact h.llen
  cells := fun j hj => by
    have hold := h.cells j hj
    by_cases e : i = j
    · subst e
      rw [World.cell?_setCell_same _ _ _ hold]
      simp [List.getD, h.llen, hj]
    · rw [World.cell?_setCell_other _ _ _ _ (by simp), hold]
      simp [List.getD, e]
  free := fun j hj => by rw [World.frozen?_setCell]; exact h.free j hj
  other := fun k hk => (Below.heap_setCell wr ⟨gb, i, none⟩ _ k hk).trans (h.other k hk)
  below := h.below.setCell (p := ⟨gb, i, none⟩) hg _
  size := by rw [← h.size]; simp [World.setCell]
theorem laid_free (s : ByteArray) (w : World) (cap : Nat) (t : TypeId) (f : Nat × Nat) (hf : s.size ≤ f.1) (j : Nat) (hj : j < s.size) : (w.alloc (.cells (bytesRow s cap) t f)).drew.frozen? ⟨w.heap.size, j, none⟩ = false := by
  have : (w.alloc (.cells (bytesRow s cap) t f)).frozen? ⟨w.heap.size, j, none⟩ = false := by
    obtain ⟨lo, hi⟩ := f
    rw [World.frozen?_alloc_mark]
    have : ¬ lo ≤ j := by simp at hf; omega
    simp [this]
  exact this
theorem bytesRow_le (s : ByteArray) (cap : Nat) : s.size ≤ (bytesRow s cap).size := by unfold bytesRow; simp
theorem Loose.start (s : ByteArray) (B : Nat) (w w1 w3 : World) (cap : Nat) (f : Nat × Nat) (hf : s.size ≤ f.1) (hB : B ≤ w1.heap.size) (h1 : Below B w w1) (h3 : Below (w1.alloc (.cells (bytesRow s cap) 5 f)).drew.heap.size (w1.alloc (.cells (bytesRow s cap) 5 f)).drew w3) :
    Loose B w1.heap.size s.size w w3 w3 s.data.toList where
  llen := (size_eq s).symm
  cells := fun j hj => by
    have hj' : j < s.data.toList.length := by rw [← size_eq]; exact hj
    obtain ⟨b, off, e, hlt, hc⟩ := laid_bytes s w1 cap 5 f j hj'
    simp only [Option.some.injEq, Addr.mk.injEq, and_true] at e
    obtain ⟨rfl, rfl⟩ := e
    rw [Nat.zero_add] at hc
    rw [(h3.cell (p := ⟨w1.heap.size, j, none⟩) hlt).trans hc]
    simp [List.getD, List.getElem?_eq_getElem hj']
  free := fun j hj => by
    have hlt : w1.heap.size < (w1.alloc (.cells (bytesRow s cap) 5 f)).drew.heap.size := by show w1.heap.size < (w1.alloc _).heap.size; simp
    exact (h3.frozen (p := ⟨w1.heap.size, j, none⟩) hlt).trans (laid_free s w1 cap _ f hf j hj)
  other := fun _ _ => rfl
  below := h1.trans (((Below.refl B w1).alloc hB _).drew.trans (h3.mono (by show B ≤ (w1.alloc _).heap.size; simp; omega)))
  size := rfl

theorem Buf.same {B : Nat} {A : Option Addr} {n c : Nat} {bs : List UInt8} {w w' : World} (h : Buf B A n c bs w) (hs : w.heap.size ≤ w'.heap.size) (hb : ∀ k, B ≤ k → k < w.heap.size → w'.heap[k]? = w.heap[k]?) : Buf B A n c bs w' := by
  refine ⟨h.1, Nat.le_trans h.2.1 hs, ⟨h.2.2.1, ?_⟩⟩
  rcases h.2.2.2 with ⟨hv, h0⟩ | ⟨g', cap, cur, hv, hg, hh, rest⟩
  · exact .inl ⟨hv, h0⟩
  · exact .inr ⟨g', cap, cur, hv, hg, (hb g' hg (Array.getElem?_eq_some_iff.1 hh).1).trans hh, rest⟩
/-- What lies before the turns: below block G nothing of it turns. -/
structure Ground (l : List UInt8) (k : Int) (b0 g D0 mb G : Nat) (A2 Am : Option Addr) (c2 cm : Nat) (w W : World) : Prop where
  stop : Boxed W b0 5 (.int .u8 k)
  out : Boxed W (b0 + 1) 4 (.bool false)
  m : Boxed W mb 35 (.slice Am (frs l).length cm)
  rows : ∀ j (h : j < (frs l).length), ∃ b off, Am = some ⟨b, off, none⟩ ∧ b < G ∧ W.cell? ⟨b, off + j, none⟩ = some (.string (txt (frs l)[j]))
  own : Boxed W g 23 (.slice A2 l.length c2)
  buf : Buf D0 A2 l.length c2 l W
  bufg : ∀ a, A2 = some a → a.block < g
  below : Below b0 w W
  lts : b0 + 1 < D0 ∧ D0 ≤ g ∧ g < G ∧ mb < G ∧ G ≤ W.heap.size
theorem Ground.less {l : List UInt8} {k : Int} {b0 g D0 mb G : Nat} {A2 Am : Option Addr} {c2 cm : Nat} {w W W' : World} (h : Ground l k b0 g D0 mb G A2 Am c2 cm w W) (hb : Below G W W') : Ground l k b0 g D0 mb G A2 Am c2 cm w W' := by
  obtain ⟨h1, h2, h3, h4, h5⟩ := h.lts
  refine ⟨boxed_less h.stop hb (by omega), boxed_less h.out hb (by omega), boxed_less h.m hb h4, fun j hj => ?_, boxed_less h.own hb h3, ?_, h.bufg, h.below.trans (hb.mono (by omega)), h1, h2, h3, h4, Nat.le_trans h5 hb.size⟩
  · obtain ⟨b, off, e, hlt, hc⟩ := h.rows j hj
    exact ⟨b, off, e, hlt, (hb.cell (p := ⟨b, _, none⟩) hlt).trans hc⟩
  · refine ⟨h.buf.1, Nat.le_trans h.buf.2.1 hb.size, ⟨h.buf.2.2.1, ?_⟩⟩
    rcases h.buf.2.2.2 with ⟨hv, h0⟩ | ⟨g', cap, cur, hv, hg, hh, rest⟩
    · exact .inl ⟨hv, h0⟩
    · refine .inr ⟨g', cap, cur, hv, hg, ?_, rest⟩
      injection hv with e _ _
      have := h.bufg _ e
      exact (hb.block g' (by simp at this; omega)).trans hh

/-- Between two rounds of a turn: the place and the count are right, nothing else has turned. -/
structure Told (l : List UInt8) (a0 : Nat) (V : World) (pre : List It) (W : World) : Prop where
  at_ : Boxed W a0 3 (.int .i64 ((tot (bss pre) : Nat) : Int))
  n : Boxed W (a0 + 1) 3 (.int .i64 (pre.length : Int))
  below : Below a0 V W
  size : a0 + 2 ≤ W.heap.size
theorem told_own (l : List UInt8) (a0 : Nat) (V : World) (B : Nat) (hB : a0 + 2 ≤ B) : OwnFrom B (Told l a0 V) := by
  intro s X Y row hs hg hr
  refine ⟨?_, ?_, hs.below.grown hg (by have := hs.size; omega) (fun k e => by have := (hr k e).1; omega), Nat.le_trans hs.size hg.size⟩
  · exact boxed_own a0 3 (fun pre : List It => .int .i64 ((tot (bss pre) : Nat) : Int)) s X Y row hs.at_ hg (fun r e => (hr r e).2)
  · exact boxed_own (a0 + 1) 3 (fun pre : List It => .int .i64 (pre.length : Int)) s X Y row hs.n hg (fun r e => (hr r e).2)

theorem wpIn_merge {F : Fence} {n : Nat} {P : Program} {c : Code} {Q : Exit → Act → World → Prop} {a : Act} {w : World} (A : Act) (W : World) (h : c.wpIn F n P (fun e a' w' => e = .normal ∧ a' = A ∧ w' = W) a w) (h2 : Q .normal A W) : c.wpIn F n P Q a w :=
  wpIn_mono h (fun e a' w' ⟨h1, h3, h4⟩ => by subst h1 h3 h4; exact h2)
theorem wrap_sum (a b : Nat) (h : a + 8 + b ≤ 1099511627776) : IntKind.i64.wrap (IntKind.i64.wrap ((a : Int) + 8) + (b : Int)) = (a : Int) + 8 + (b : Int) := by
  rw [IntKind.wrap_i64, IntKind.wrap_i64]; omega
theorem told_step {l : List UInt8} {a0 B D0 D1 : Nat} {V W : World} {pre : List It} {x : It} (h : Told l a0 V pre W) (j : Nat) (v1 v2 : Int) (h1 : v1 = ((tot (bss (pre ++ [x])) : Nat) : Int)) (h2 : v2 = ((pre ++ [x]).length : Int)) (hB : a0 + 2 ≤ B) (hD : D1 ≤ a0) :
    KeepsFrom B W (((W.drewN (j + 1)).setCell ⟨a0, 0, none⟩ (.int .i64 v1)).setCell ⟨a0 + 1, 0, none⟩ (.int .i64 v2)) ∧
    Mid D0 D1 W (((W.drewN (j + 1)).setCell ⟨a0, 0, none⟩ (.int .i64 v1)).setCell ⟨a0 + 1, 0, none⟩ (.int .i64 v2)) ∧
    Told l a0 V (pre ++ [x]) (((W.drewN (j + 1)).setCell ⟨a0, 0, none⟩ (.int .i64 v1)).setCell ⟨a0 + 1, 0, none⟩ (.int .i64 v2)) := by
  subst h1 h2
  have b0 : Boxed (W.drewN (j + 1)) a0 3 (.int .i64 ((tot (bss pre) : Nat) : Int)) := h.at_
  have b1 : Boxed (W.drewN (j + 1)) (a0 + 1) 3 (.int .i64 (pre.length : Int)) := h.n
  have c0 := (b0.set (.int .i64 ((tot (bss (pre ++ [x])) : Nat) : Int))).other (B' := a0 + 1) (by omega) (.int .i64 ((pre ++ [x]).length : Int))
  have c1 := (b1.other (B' := a0) (by omega) (.int .i64 ((tot (bss (pre ++ [x])) : Nat) : Int))).set (.int .i64 ((pre ++ [x]).length : Int))
  have hs : ∀ (U : World) (k : Nat) (v : Value), (U.setCell ⟨k, 0, none⟩ v).heap.size = U.heap.size := fun U k v => by simp [World.setCell]
  have hsz : (((W.drewN (j + 1)).setCell ⟨a0, 0, none⟩ (.int .i64 ((tot (bss (pre ++ [x])) : Nat) : Int))).setCell ⟨a0 + 1, 0, none⟩ (.int .i64 ((pre ++ [x]).length : Int))).heap.size = W.heap.size := by
    rw [hs, hs]; rfl
  have ho : ∀ k, k ≠ a0 → k ≠ a0 + 1 → (((W.drewN (j + 1)).setCell ⟨a0, 0, none⟩ (.int .i64 ((tot (bss (pre ++ [x])) : Nat) : Int))).setCell ⟨a0 + 1, 0, none⟩ (.int .i64 ((pre ++ [x]).length : Int))).heap[k]? = W.heap[k]? := fun k k0 k1 =>
    (Below.heap_setCell _ _ _ k k1).trans (Below.heap_setCell _ _ _ k k0)
  refine ⟨⟨by rw [hsz]; exact Nat.le_refl _, fun k o hk hh _ => (ho k (by omega) (by omega)).trans hh⟩, ⟨by rw [hsz]; exact Nat.le_refl _, fun k _ k2 => ho k (by omega) (by omega)⟩, ⟨c0, c1, ?_, by rw [hsz]; exact h.size⟩⟩
  have hb : Below a0 V (W.drewN (j + 1)) := ⟨h.below.os, h.below.tape, h.below.output, h.below.size, h.below.block⟩
  exact (hb.setCell (p := ⟨a0, 0, none⟩) (Nat.le_refl _) _).setCell (p := ⟨a0 + 1, 0, none⟩) (by simp) _

theorem all_big (s : ByteArray) (k : Int) (hs : s.size ≤ maxLen) (hb : 4000 < s.size) (w : World) :
    Calls Try.prog 5 #[.string s, .int .u8 k] w fun e w' => e = .returned (.bool true) ∧ Below w.heap.size w w' := by
  unfold maxLen at hs
  refine (callsIn_wide (n := 6)).1 ?_
  refine callsIn_of_wp_marks Try.func5 rfl trivial ?_ rfl
  simp only [Try.ntmps5, List.size_toArray, List.length_cons, List.length_nil, Nat.reduceAdd, Nat.reduceSub, Array.replicate_succ, Array.replicate_zero, List.push_toArray, List.append_toArray, List.nil_append, List.cons_append]
  obtain ⟨wb, hwb⟩ : ∃ wb, (w.alloc (.cells #[.int .u8 k] 5)).alloc (.cells #[.bool false] 4) = wb := ⟨_, rfl⟩
  have hszb : wb.heap.size = w.heap.size + 2 := by rw [← hwb]; simp
  have HBb := Lib.hid (show Below w.heap.size w wb by rw [← hwb]; exact ((Below.refl _ w).alloc (Nat.le_refl _) _).alloc (by simp) _)
  have HX1 := Lib.hid (show Boxed wb (w.heap.size + 1) 4 (.bool false) by rw [← hwb]; have := Boxed.new (w.alloc (.cells #[.int .u8 k] 5)) 4 (.bool false); simp only [World.size_alloc] at this; exact this)
  have HWB := Lib.hid hwb
  clear hwb
  gi_wp2_with (refine ⟨trivial, ?_⟩; gi_at_call 9; rw [HWB.out]; refine (callsIn_wide.2 (alive_any _)).mono ?_; rintro e w1 ⟨rfl, hb1⟩; have p1 := boxed_less HX1.out hb1 (by omega); have v1 := p1.cell; have f1 := p1.frozen; have HP1 := Lib.hid p1; have HB1 := Lib.hid (HBb.out.trans (hb1.mono (by omega))); clear hb1 p1)
  have r := (HP1.out.set (.bool true)).cell
  exact ⟨.bool true, by simp [results, Try.results5, go_sem, r], rfl, HB1.out.setCell (p := ⟨w.heap.size + 1, 0, none⟩) (by simp) _⟩

set_option maxRecDepth 100000 in
set_option maxHeartbeats 16000000 in
theorem all_small (s : ByteArray) (k : Nat) (hk : k < 256) (hs : s.size ≤ 4000) (w : World) :
    Calls Try.prog 5 #[.string s, .int .u8 (k : Int)] w fun e w' => e = .returned (.bool true) ∧ Below w.heap.size w w' := by
  have hcs := fun W => run_bytes_of_string (P := Try.prog) W 9 23 5 s Try.underlying9 Try.underlying23 Try.underlying5
  have hds : decide ((4000 : Int) < (s.size : Int)) = false := decide_eq_false (by omega)
  obtain ⟨l, hl⟩ : ∃ l, s.data.toList = l := ⟨_, rfl⟩
  have hsl : s.size = l.length := by rw [← hl]; exact size_eq s
  have HLL := Lib.hid hl
  have HSL := Lib.hid hsl
  clear hl hsl
  refine (callsIn_wide (n := 6)).1 ?_
  refine callsIn_of_wp_marks Try.func5 rfl trivial ?_ rfl
  simp only [Try.ntmps5, List.size_toArray, List.length_cons, List.length_nil, Nat.reduceAdd, Nat.reduceSub, Array.replicate_succ, Array.replicate_zero, List.push_toArray, List.append_toArray, List.nil_append, List.cons_append]
  obtain ⟨wb, hwb⟩ : ∃ wb, (w.alloc (.cells #[.int .u8 (k : Int)] 5)).alloc (.cells #[.bool false] 4) = wb := ⟨_, rfl⟩
  have hszb : wb.heap.size = w.heap.size + 2 := by rw [← hwb]; simp
  have HBb := Lib.hid (show Below w.heap.size w wb by rw [← hwb]; exact ((Below.refl _ w).alloc (Nat.le_refl _) _).alloc (by simp) _)
  have HX0 := Lib.hid (show Boxed wb w.heap.size 5 (.int .u8 (k : Int)) by rw [← hwb]; exact (Boxed.new w _ _).alloc _)
  have HX1 := Lib.hid (show Boxed wb (w.heap.size + 1) 4 (.bool false) by rw [← hwb]; have := Boxed.new (w.alloc (.cells #[.int .u8 (k : Int)] 5)) 4 (.bool false); simp only [World.size_alloc] at this; exact this)
  have HWB := Lib.hid hwb
  clear hwb
  gi_wp2_with (first
    | (refine ⟨trivial, ?_⟩; gi_at_call 9; rw [HWB.out]; refine (callsIn_wide.2 (alive_any _)).mono ?_; rintro e w1 ⟨rfl, hb1⟩; have hs1 := hb1.size; have HB1 := Lib.hid hb1; clear hb1)
    | (refine ⟨trivial, ?_⟩; gi_at_call 17; refine (callsIn_wide.2 (all_any s.data.toList _ _ _ _ (size_eq s) (by omega) (laid_bytes s w1 _ _ _))).mono ?_; rw [HLL.out]; rintro e w3 ⟨g, A2, c2, rfl, h1, h2, h3, h4, h5⟩; have HLO0 := Lib.hid (Loose.start s w.heap.size w w1 w3 _ _ (bytesRow_le s _) (by omega) (HBb.out.trans (HB1.out.mono (by omega))) h5); have H1 := Lib.hid h1; have H2 := Lib.hid h2; have H3 := Lib.hid h3; have H4 := Lib.hid h4; have H5 := Lib.hid h5; clear h1 h2 h3 h4 h5))
  gi_loopw [7] (fun iv wr => ∃ (i : Nat) (L : List UInt8), i ≤ s.size ∧ iv = .int .i64 (i : Int) ∧ Hid (Loose w.heap.size w1.heap.size s.size w w3 wr L)) (fun iv _ => s.size - (intOf iv).toNat)
  case atStart => exact ⟨0, _, Nat.zero_le _, rfl, HLO0⟩
  case round =>
    obtain ⟨i, L, hi, rfl, HLO⟩ := hrel
    by_cases hlt : i < s.size
    · have c0 := HLO.out.cells i hlt
      have f0 := HLO.out.free i hlt
      obtain ⟨y, HY⟩ : ∃ y, Hid (L.getD i 0 = y) := ⟨_, Lib.hid rfl⟩
      rw [HY.out] at c0
      have HX := Lib.hid (show bits .xor .u8 (y.toNat : Int) 255 = ((y ^^^ 255 : UInt8).toNat : Int) from byte_xor y 255)
      have HN := Lib.hid (HLO.out.next (by omega) i hlt (y ^^^ 255))
      gi_wp2
      rw [HX.out]
      go_roundw
      case rel => exact ⟨i + 1, _, by omega, by go_num, HN⟩
      case measure => simp [intOf]; omega
    · obtain rfl : i = s.size := by omega
      clear HLO0
      have hsz3 := HLO.out.size
      gi_wp2_with (refine ⟨trivial, ?_⟩; gi_at_call 15; refine (callsIn_wide.2 (rscan_any s (by omega) wr)).mono ?_; rw [HLL.out]; rintro e w4 ⟨A4, n4, c4, rfl, ho4, hb4⟩; obtain rfl : n4 = (frs l).length := ho4.1; have HO4 := Lib.hid ho4; have HB4 := Lib.hid hb4; clear ho4 hb4)
      obtain ⟨wz, hwz⟩ : ∃ wz, w4.alloc (.cells #[.slice A4 (frs l).length c4] 35) = wz := ⟨_, rfl⟩
      have hszz : wz.heap.size = w4.heap.size + 1 := by rw [← hwz]; simp
      have hlsz : (w1.alloc (.cells (bytesRow s (grownCap w1 s.size 0 5)) 5 ((bytesRow s (grownCap w1 s.size 0 5)).size, (bytesRow s (grownCap w1 s.size 0 5)).size + 1))).drew.heap.size = w1.heap.size + 1 := by show (w1.alloc _).heap.size = _; simp
      have h1g := H1.out
      have h3b := H3.out
      have h5b := H5.out
      rw [hlsz] at h1g h3b h5b
      have hglt := H2.out.lt
      have hs4 := HB4.out.size
      have hb4z : Below w4.heap.size w4 wz := by rw [← hwz]; exact (Below.refl _ _).alloc (Nat.le_refl _) _
      have hk : ∀ j, j < w3.heap.size → j ≠ w1.heap.size → wz.heap[j]? = w3.heap[j]? := fun j hj hne => (hb4z.block j (by omega)).trans ((HB4.out.block j (by omega)).trans (HLO.out.other j hne))
      have hk1 : ∀ j, j < w1.heap.size → wz.heap[j]? = w1.heap[j]? := fun j hj => (hk j (by have := h5b.size; rw [hlsz] at this; omega) (by omega)).trans ((h5b.block j (by omega)).trans ((laid_below s w1 _ _).block j hj))
      have HG := Lib.hid (show Ground l (k : Int) w.heap.size g (w1.heap.size + 1) w4.heap.size wz.heap.size A2 A4 c2 c4 w wz from
        ⟨(hk1 _ (by omega)).trans (boxed_less HX0.out HB1.out (by omega)), (hk1 _ (by omega)).trans (boxed_less HX1.out HB1.out (by omega)), by rw [← hwz]; exact Boxed.new _ _ _,
         fun j hj => by
          obtain ⟨b, off, e, hlt, hc⟩ := HO4.out.at_ j hj
          exact ⟨b, off, e, by omega, (hb4z.cell (p := ⟨b, _, none⟩) hlt).trans hc⟩,
         (hk g hglt (by omega)).trans H2.out, h3b.same (by omega) (fun j h1 h2 => hk j h2 (by omega)), H4.out, HLO.out.below.trans ((HB4.out.mono (by have := HLO.out.below.size; omega)).trans (hb4z.mono (by have := HLO.out.below.size; omega))), by omega, h1g, by omega, by omega, Nat.le_refl _⟩)
      have hsl := HSL.out
      clear h1g h3b h5b hglt hs4 hb4z hk hk1 hlsz H1 H2 H3 H4 H5 HB4 HO4 HLO HX0 HX1 HBb HWB HB1 hcs
      rw [hwz]
      clear hwz
      have hv0 := Boxed.new wz 3 (.int .i64 0)
      have hGv := HG.out.less ((Below.refl _ wz).alloc (Nat.le_refl _) (.cells #[.int .i64 0] 3))
      have hzv : (wz.alloc (.cells #[.int .i64 0] 3)).heap.size = wz.heap.size + 1 := by simp
      obtain ⟨V, hV⟩ : ∃ V, wz.alloc (.cells #[.int .i64 0] 3) = V := ⟨_, rfl⟩
      rw [hV] at hv0 hGv hzv ⊢
      obtain ⟨tb, htb⟩ : ∃ tb, w4.heap.size + 1 = tb := ⟨_, rfl⟩
      rw [hszz, htb] at hv0 hGv hzv
      rw [htb]
      have HGV := Lib.hid hGv
      have HTV := Lib.hid hv0
      have v8 := hv0.cell
      have HZV := Lib.hid hzv
      clear hv0 hGv HG hV htb hszz hzv
      refine wpIn_loop_rounds 3 ?_
      rw [roundsIn_succ]
      gi_wp2
      obtain ⟨a0, ha0⟩ : ∃ a0, V.heap.size = a0 := ⟨_, rfl⟩
      obtain ⟨W0, hW0⟩ : ∃ W0, (V.alloc (.cells #[.int .i64 0] 3)).alloc (.cells #[.int .i64 0] 3) = W0 := ⟨_, rfl⟩
      have hszw : W0.heap.size = a0 + 2 := by rw [← hW0, ← ha0]; simp
      have hta : Boxed W0 a0 3 (.int .i64 0) := by rw [← hW0, ← ha0]; exact (Boxed.new V _ _).alloc _
      have htn : Boxed W0 (a0 + 1) 3 (.int .i64 0) := by rw [← hW0, ← ha0]; have := Boxed.new (V.alloc (.cells #[.int .i64 0] 3)) 3 (.int .i64 0); simp only [World.size_alloc] at this; exact this
      have hbw : Below a0 V W0 := by rw [← hW0, ← ha0]; exact ((Below.refl _ V).alloc (Nat.le_refl _) _).alloc (by simp) _
      rw [hW0, ha0]
      clear hW0
      have hlts := HGV.out.lts
      have hzv := HZV.out
      rw [ha0] at hlts hzv
      have hgw := HGV.out.less (hbw.mono (by omega))
      have HT0 := Lib.hid (show Told l a0 V [] W0 from ⟨hta, htn, hbw, by omega⟩)
      have HA0 := Lib.hid ha0
      clear hta htn hbw ha0
      subst hzv
      refine range_join rfl (by omega) (gf := 24) (lb := #[.pointer (some ⟨g, 0, none⟩)]) rfl trivial (enters_of Try.func24 (by kernel_rfl) rfl)
        (all_seq _ (by omega) l g (w1.heap.size + 1) c2 A2 W0 (by omega) hlts.2.1 hgw.own (by omega) hgw.buf hgw.bufg) (fun _ => rfl)
        Mid.trans (Mid.refl _ _ _) (fun h hg => Mid.grown h (by omega) hg) (fun W o => ⟨by simp, fun k _ h2 => World.putObj_heap_other (by omega)⟩)
        (Told l (tb + 1) V) (fun c pre W => c = .exit 4 ∧ 0 = 0 ∧ Told l (tb + 1) V pre W) (told_own l (tb + 1) V _ (by omega)) (fun c s X Y row hs hg hr => ⟨hs.1, hs.2.1, told_own l (tb + 1) V _ (by omega) s X Y row hs.2.2 hg hr⟩) (comes_own l _ _)
        HT0.out ?a10 ?assign0 ?body0 4
        (fun W => ∃ pre, Told l (tb + 1) V pre W ∧ (0 = 1 → pre.length = (frs l).length) ∧ W.heap[W0.heap.size]? = some (.deferred (some [])))
        (fun xs W h1 h2 h3 => ⟨xs, h2, fun _ => by rw [← bss_length, h1], h3⟩) (fun c pre W h1 h2 => ⟨h1.1, pre, h1.2.2, fun e => absurd (h1.2.1.symm.trans e) (by decide), h2⟩) ?rest0
      case assign0 =>
        intro l0 x W K hK
        gi_wp2
        exact hK
      case body0 =>
        rintro l0 pre x W hI hx
        have hgW := HGV.out.less (hI.below.mono (by omega))
        have htW := boxed_less HTV.out hI.below (by omega)
        have t0 := htW.cell
        have p0 := hI.at_.cell
        have pf := hI.at_.frozen
        have n0 := hI.n.cell
        have nf := hI.n.frozen
        have m0 := hgW.m.cell
        have k0 := hgW.stop.cell
        obtain ⟨hpl, hpx⟩ := hx.2.1.at_ pre.length (by rw [bss_length]; simp)
        have hbx : (bss (pre ++ [x]))[pre.length]'(by rw [bss_length]; simp) = x.bs := by
          simp [bss]
        rw [hbx] at hpx
        obtain ⟨br, orr, hAm, hbr, hc⟩ := hgW.rows pre.length hpl
        rw [hpx] at hc
        have hst := fun j => string_of_bytes x.a x.bs.length x.c x.bs (W.drewN j) rfl (hx.2.2.bytes.drewN j)
        have htt := txt_size x.bs
        have hat := hx.1
        have hxle : tot (bss pre) + 8 + x.bs.length ≤ l.length := by have := hx.2.1.1; rw [bss_snoc, tot_snoc] at this; omega
        have hfl := frs_le l
        have HI := Lib.hid hI
        have HXX := Lib.hid hx
        have HPL := Lib.hid (show ((pre.length : Nat) : Int) < ((frs l).length : Int) by omega)
        have HBS := Lib.hid (bss_snoc pre x)
        clear hI hgW htW hx hbx hpx
        subst hAm
        obtain ⟨N, hN⟩ : ∃ N, (frs l).length = N := ⟨_, rfl⟩
        obtain ⟨q, hq⟩ : ∃ q, tot (bss pre) = q := ⟨_, rfl⟩
        obtain ⟨p, hp⟩ : ∃ p, pre.length = p := ⟨_, rfl⟩
        obtain ⟨xa, hxa⟩ : ∃ xa, x.at_ = xa := ⟨_, rfl⟩
        rw [hN] at m0 hpl hfl ⊢
        rw [hq] at p0 hat hxle
        rw [hp] at n0 hc hpl
        rw [hxa] at hat ⊢
        subst hat
        have HQ := Lib.hid hq
        have HPP := Lib.hid hp
        have HXA := Lib.hid hxa
        have HNN := Lib.hid hN
        have hd1 : decide ((N : Int) ≤ (p : Int)) = false := decide_eq_false (by omega)
        have hd2 : ((xa : Int) != (xa : Int)) = false := by simp
        have hpi : (p : Int) < (N : Int) := by omega
        clear hq hp hxa hN HPL
        gi_wp2_with (fail)
        refine region_quiet (by simp) (by kernel_rfl) (by kernel_rfl) ?_
        repeat (quiet_step_in (fail))
        refine wpQuietIn_nil ?_
        rintro _ ⟨nq, rfl⟩
        gi_wp2
        refine wpIn_mono (region_place l0 _ w4.heap.size (tb + 1) (tb + 1 + 1) br orr N c4 p xa x.bs.length (txt x.bs) (W.drewN nq) p0 pf n0 m0 hc htt hpi (by omega)) ?_
        rintro e a' w' ⟨rfl, rfl, rfl⟩
        rw [wrap_sum xa x.bs.length (by omega), World.drewN_drewN]
        by_cases hkq : (k : Int) < (p : Int) + 1
        · have hd3 : decide ((k : Int) < (p : Int) + 1) = true := decide_eq_true hkq
          gi_wp2
          have hst2 := told_step (B := tb + 1 + 2) (D0 := w1.heap.size + 1) (D1 := g + 1) (x := x) HI.out nq ((xa : Int) + 8 + (x.bs.length : Int)) ((p : Int) + 1) (by rw [HBS.out, tot_snoc, HQ.out]; omega) (by rw [List.length_append, ← HPP.out]; simp) (by omega) (by omega)
          exact ⟨hst2.1, rfl, hst2.2.2⟩
        · have hd3 : decide ((k : Int) < (p : Int) + 1) = false := decide_eq_false hkq
          gi_wp2
          have hst2 := told_step (B := tb + 1 + 2) (D0 := w1.heap.size + 1) (D1 := g + 1) (x := x) HI.out nq ((xa : Int) + 8 + (x.bs.length : Int)) ((p : Int) + 1) (by rw [HBS.out, tot_snoc, HQ.out]; omega) (by rw [List.length_append, ← HPP.out]; simp) (by omega) (by omega)
          exact hst2
      case rest0 =>
        rintro e W he ⟨pre, hI, hend, hK⟩
        rw [hszw] at hK
        have hn : ∀ (Q : Exit → Act → World → Prop) (a : Act) (W : World), Exit.inBlock 4 Q .normal a W → Exit.inBlock 4 Q e a W := by rcases he with rfl | rfl <;> intro Q a W h <;> simpa [Exit.inBlock] using h
        refine hn _ _ _ ?_
        clear hn he
        have hgW := HGV.out.less (hI.below.mono (by omega))
        have htW := boxed_less HTV.out hI.below (by omega)
        have t0 := htW.cell
        have n0 := hI.n.cell
        have m0 := hgW.m.cell
        have hsW := hI.size
        have HEND := Lib.hid hend
        have HBE := Lib.hid hI.below
        skip
        have HGW := Lib.hid hgW
        have HKW := Lib.hid hK
        clear hI hgW htW hend hK
        gi_wp2
        have hv1 := Boxed.new W 3 (.int .i64 1)
        have hb1 : Below W.heap.size W (W.alloc (.cells #[.int .i64 1] 3)) := (Below.refl _ _).alloc (Nat.le_refl _) _
        have hgv1 := HGW.out.less (hb1.mono HGW.out.lts.2.2.2.2)
        have hkv1 := (hb1.block _ (Array.getElem?_eq_some_iff.1 HKW.out).1).trans HKW.out
        have hz1 : (W.alloc (.cells #[.int .i64 1] 3)).heap.size = W.heap.size + 1 := by simp
        obtain ⟨V1, hV1⟩ : ∃ V1, W.alloc (.cells #[.int .i64 1] 3) = V1 := ⟨_, rfl⟩
        obtain ⟨tb1, htb1⟩ : ∃ tb1, W.heap.size = tb1 := ⟨_, rfl⟩
        rw [hV1, htb1] at hv1 hz1
        rw [hV1] at hgv1 hkv1 ⊢
        rw [htb1] at hsW ⊢
        obtain ⟨d0, hd0⟩ : ∃ d0, tb + 1 + 2 = d0 := ⟨_, rfl⟩
        rw [hd0] at hkv1 hszw ⊢
        have hdt : d0 < tb1 := by rw [← htb1, ← hd0]; have := (Array.getElem?_eq_some_iff.1 HKW.out).1; exact this
        have HD0 := Lib.hid hd0
        have HTV1 := Lib.hid hv1
        have HGV1 := Lib.hid hgv1
        have HKV1 := Lib.hid hkv1
        have HZV1 := Lib.hid hz1
        have v9 := hv1.cell
        clear hv1 hb1 hgv1 hkv1 hz1 hV1 htb1 HGW HKW HEND HBE HT0 HA0 HTV HGV HZV t0 n0 m0 v8 hd0 hgw hlts
        rw [roundsIn_succ]
        gi_wp2
        obtain ⟨a0, ha0⟩ : ∃ a0, V1.heap.size = a0 := ⟨_, rfl⟩
        obtain ⟨W1, hW0⟩ : ∃ W0, (V1.alloc (.cells #[.int .i64 0] 3)).alloc (.cells #[.int .i64 0] 3) = W0 := ⟨_, rfl⟩
        have hszw : W1.heap.size = a0 + 2 := by rw [← hW0, ← ha0]; simp
        have hta : Boxed W1 a0 3 (.int .i64 0) := by rw [← hW0, ← ha0]; exact (Boxed.new V1 _ _).alloc _
        have htn : Boxed W1 (a0 + 1) 3 (.int .i64 0) := by rw [← hW0, ← ha0]; have := Boxed.new (V1.alloc (.cells #[.int .i64 0] 3)) 3 (.int .i64 0); simp only [World.size_alloc] at this; exact this
        have hbw : Below a0 V1 W1 := by rw [← hW0, ← ha0]; exact ((Below.refl _ V1).alloc (Nat.le_refl _) _).alloc (by simp) _
        rw [hW0, ha0]
        clear hW0
        have hlts := HGV1.out.lts
        have hzv := HZV1.out
        rw [ha0] at hlts hzv
        have hgw := HGV1.out.less (hbw.mono (by omega))
        have HT0 := Lib.hid (show Told l a0 V1 [] W1 from ⟨hta, htn, hbw, by omega⟩)
        have HA0 := Lib.hid ha0
        clear hta htn hbw ha0
        subst hzv
        refine range_join rfl (by omega) (gf := 24) (lb := #[.pointer (some ⟨g, 0, none⟩)]) rfl trivial (enters_of Try.func24 (by kernel_rfl) rfl)
          (all_seq _ (by omega) l g (w1.heap.size + 1) c2 A2 W1 (by omega) hlts.2.1 hgw.own (by omega) hgw.buf hgw.bufg) (fun _ => rfl)
          Mid.trans (Mid.refl _ _ _) (fun h hg => Mid.grown h (by omega) hg) (fun W o => ⟨by simp, fun k _ h2 => World.putObj_heap_other (by omega)⟩)
          (Told l (tb1 + 1) V1) (fun c pre W => c = .exit 4 ∧ 1 = 0 ∧ Told l (tb1 + 1) V1 pre W) (told_own l (tb1 + 1) V1 _ (by omega)) (fun c s X Y row hs hg hr => ⟨hs.1, hs.2.1, told_own l (tb1 + 1) V1 _ (by omega) s X Y row hs.2.2 hg hr⟩) (comes_own l _ _)
          HT0.out ?a11 ?assign1 ?body1 4
          (fun W => ∃ pre, Told l (tb1 + 1) V1 pre W ∧ (1 = 1 → pre.length = (frs l).length) ∧ W.heap[W1.heap.size]? = some (.deferred (some [])))
          (fun xs W h1 h2 h3 => ⟨xs, h2, fun _ => by rw [← bss_length, h1], h3⟩) (fun c pre W h1 h2 => ⟨h1.1, pre, h1.2.2, fun e => absurd (h1.2.1.symm.trans e) (by decide), h2⟩) ?rest1
        case assign1 =>
          intro l0 x W K hK
          gi_wp2
          exact hK
        case body1 =>
          rintro l0 pre x W hI hx
          have hgW := HGV1.out.less (hI.below.mono (by omega))
          have htW := boxed_less HTV1.out hI.below (by omega)
          have t0 := htW.cell
          have p0 := hI.at_.cell
          have pf := hI.at_.frozen
          have n0 := hI.n.cell
          have nf := hI.n.frozen
          have m0 := hgW.m.cell
          have k0 := hgW.stop.cell
          obtain ⟨hpl, hpx⟩ := hx.2.1.at_ pre.length (by rw [bss_length]; simp)
          have hbx : (bss (pre ++ [x]))[pre.length]'(by rw [bss_length]; simp) = x.bs := by
            simp [bss]
          rw [hbx] at hpx
          obtain ⟨br, orr, hAm, hbr, hc⟩ := hgW.rows pre.length hpl
          rw [hpx] at hc
          have hst := fun j => string_of_bytes x.a x.bs.length x.c x.bs (W.drewN j) rfl (hx.2.2.bytes.drewN j)
          have htt := txt_size x.bs
          have hat := hx.1
          have hxle : tot (bss pre) + 8 + x.bs.length ≤ l.length := by have := hx.2.1.1; rw [bss_snoc, tot_snoc] at this; omega
          have hfl := frs_le l
          have HI := Lib.hid hI
          have HXX := Lib.hid hx
          have HPL := Lib.hid (show ((pre.length : Nat) : Int) < ((frs l).length : Int) by omega)
          have HBS := Lib.hid (bss_snoc pre x)
          clear hI hgW htW hx hbx hpx
          subst hAm
          obtain ⟨N, hN⟩ : ∃ N, (frs l).length = N := ⟨_, rfl⟩
          obtain ⟨q, hq⟩ : ∃ q, tot (bss pre) = q := ⟨_, rfl⟩
          obtain ⟨p, hp⟩ : ∃ p, pre.length = p := ⟨_, rfl⟩
          obtain ⟨xa, hxa⟩ : ∃ xa, x.at_ = xa := ⟨_, rfl⟩
          rw [hN] at m0 hpl hfl ⊢
          rw [hq] at p0 hat hxle
          rw [hp] at n0 hc hpl
          rw [hxa] at hat ⊢
          subst hat
          have HQ := Lib.hid hq
          have HPP := Lib.hid hp
          have HXA := Lib.hid hxa
          have HNN := Lib.hid hN
          have hd1 : decide ((N : Int) ≤ (p : Int)) = false := decide_eq_false (by omega)
          have hd2 : ((xa : Int) != (xa : Int)) = false := by simp
          have hpi : (p : Int) < (N : Int) := by omega
          clear hq hp hxa hN HPL
          gi_wp2_with (fail)
          refine region_quiet (by simp) (by kernel_rfl) (by kernel_rfl) ?_
          repeat (quiet_step_in (fail))
          refine wpQuietIn_nil ?_
          rintro _ ⟨nq, rfl⟩
          gi_wp2
          refine wpIn_mono (region_place l0 _ w4.heap.size (tb1 + 1) (tb1 + 1 + 1) br orr N c4 p xa x.bs.length (txt x.bs) (W.drewN nq) p0 pf n0 m0 hc htt hpi (by omega)) ?_
          rintro e a' w' ⟨rfl, rfl, rfl⟩
          rw [wrap_sum xa x.bs.length (by omega), World.drewN_drewN]
          gi_wp2
          have hst2 := told_step (B := tb1 + 1 + 2) (D0 := w1.heap.size + 1) (D1 := g + 1) (x := x) HI.out nq ((xa : Int) + 8 + (x.bs.length : Int)) ((p : Int) + 1) (by rw [HBS.out, tot_snoc, HQ.out]; omega) (by rw [List.length_append, ← HPP.out]; simp) (by omega) (by omega)
          first | exact hst2 | (rw [hszw]; exact hst2)
        case rest1 =>
          rintro e W he ⟨pre, hI, hend, hK⟩
          rw [hszw] at hK
          have hn : ∀ (Q : Exit → Act → World → Prop) (a : Act) (W : World), Exit.inBlock 4 Q .normal a W → Exit.inBlock 4 Q e a W := by rcases he with rfl | rfl <;> intro Q a W h <;> simpa [Exit.inBlock] using h
          refine hn _ _ _ ?_
          clear hn he
          have hgW := HGV1.out.less (hI.below.mono (by omega))
          have htW := boxed_less HTV1.out hI.below (by omega)
          have t0 := htW.cell
          have n0 := hI.n.cell
          have m0 := hgW.m.cell
          have hsW := hI.size
          have HEND := Lib.hid hend
          have HBE := Lib.hid hI.below
          skip
          have HGW := Lib.hid hgW
          have HKW := Lib.hid hK
          clear hI hgW htW hend hK
          have hnn : ((pre.length : Int) != ((frs l).length : Int)) = false := by rw [bne_eq_false_iff_eq, HEND.out rfl]
          gi_wp2
          have hb1 : Below W.heap.size W (W.alloc (.cells #[.int .i64 2] 3)) := (Below.refl _ _).alloc (Nat.le_refl _) _
          have hv2 := Boxed.new W 3 (.int .i64 2)
          have hgv2 := HGW.out.less (hb1.mono HGW.out.lts.2.2.2.2)
          have hkW := (Array.getElem?_eq_some_iff.1 HKW.out).1
          have hk1 := (hb1.block _ hkW).trans HKW.out
          have hk0 := (hb1.block d0 (by omega)).trans ((HBE.out.block d0 (by omega)).trans HKV1.out)
          obtain ⟨V2, hV2⟩ : ∃ V2, W.alloc (.cells #[.int .i64 2] 3) = V2 := ⟨_, rfl⟩
          rw [hV2] at hv2 hgv2 hk1 hk0 ⊢
          obtain ⟨tb2, htb2⟩ : ∃ tb2, W.heap.size = tb2 := ⟨_, rfl⟩
          rw [htb2] at hv2 ⊢
          have v2 := hv2.cell
          have o2 := hgv2.out.cell
          have o2f := hgv2.out.frozen
          have HGV2 := Lib.hid hgv2
          have HK1 := Lib.hid hk1
          have HK0 := Lib.hid hk0
          have HV2 := Lib.hid hv2
          clear hb1 hv2 hgv2 hk1 hk0 hV2 htb2
          rw [roundsIn_succ]
          gi_wp2
          have r := (HGV2.out.out.set (.bool true)).cell
          have hdd := HD0.out
          have hll := HGV2.out.lts
          have hB := HGV2.out.below.setCell (p := ⟨w.heap.size + 1, 0, none⟩) (by simp) (.bool true)
          have hk3 := (Below.heap_setCell V2 ⟨w.heap.size + 1, 0, none⟩ (.bool true) (tb1 + 1 + 2) (by show tb1 + 1 + 2 ≠ w.heap.size + 1; omega)).trans HK1.out
          have hk2 := (Below.heap_setCell V2 ⟨w.heap.size + 1, 0, none⟩ (.bool true) d0 (by show d0 ≠ w.heap.size + 1; omega)).trans HK0.out
          have hne : d0 ≠ tb1 + 1 + 2 := by omega
          refine ⟨by simp, .inl ⟨_, _, rfl, run_takeDeferred hk3, ?_⟩⟩
          have hk22 := (World.putObj_heap_other (w := V2.setCell ⟨w.heap.size + 1, 0, none⟩ (.bool true)) (o := .deferred none) hne).trans hk2
          refine ⟨by simp, .inl ⟨_, _, rfl, run_takeDeferred hk22, ?_⟩⟩
          have hb3 := hB.grown (grownBy_putObj' _ (tb1 + 1 + 2) (.deferred none)) (by have := hB.size; exact this) (fun k e => by cases e; omega)
          have hb2 := hb3.grown (grownBy_putObj' _ d0 (.deferred none)) (by have := hb3.size; exact this) (fun k e => by cases e; omega)
          have hc := (World.cell?_of_block (a := ⟨w.heap.size + 1, 0, none⟩) ((World.putObj_heap_other (w := (V2.setCell ⟨w.heap.size + 1, 0, none⟩ (.bool true)).putObj (tb1 + 1 + 2) (.deferred none)) (o := .deferred none) (by show w.heap.size + 1 ≠ d0; omega)).trans (World.putObj_heap_other (w := V2.setCell ⟨w.heap.size + 1, 0, none⟩ (.bool true)) (o := .deferred none) (by show w.heap.size + 1 ≠ tb1 + 1 + 2; omega)))).trans r
          exact ⟨.bool true, by simp [results, Try.results5, go_sem, hc], rfl, hb2⟩
end Go.Proofs.Ytcolghibbiijfaa
