/- Several texts in one: FsPick, FsCrash. -/
import Derived.Test.YtnkhgajghfonhaaGreatDoorFsM4
/- simfs: the next pick; cut. -/
namespace Go.Proofs.YtnkhgajghfonhaaGreatDoor
open Go.ChangeShapes Go.WideShapes Go.ChangeAt Go.RowKit Go.ChangeMaps Go.MapKept
open Go.Lib (byteCells byteCells_length byteCells_append strCells)
set_option linter.unusedVariables false

/-- The next pick, of 0 to n, and what is left. -/
def pickK (ps : List Int) (n : Nat) : Nat := match ps with
  | [] => 0
  | p :: _ => ((p % 18446744073709551616) % ((n : Int) + 1)).toNat
theorem pickK_le (ps : List Int) (n : Nat) : pickK ps n ≤ n := by
  cases ps with
  | nil => exact Nat.zero_le _
  | cons p r =>
    have h1 := Int.emod_nonneg (p % 18446744073709551616) (show (n : Int) + 1 ≠ 0 by omega)
    have h2 := Int.emod_lt_of_pos (p % 18446744073709551616) (show 0 < (n : Int) + 1 by omega)
    show ((p % 18446744073709551616) % ((n : Int) + 1)).toNat ≤ n
    omega
/-- Numbers that lie somewhere: below B, or in a row of numbers. -/
def PicksAt (B : Nat) (w : World) (A : Option Addr) (ps : List Int) : Prop :=
  ∀ (j : Nat) (h : j < ps.length), ∃ b off, A = some ⟨b, off, none⟩ ∧ (b < B ∨ ∃ c, Cells w b c 3) ∧ w.cell? ⟨b, off + j, none⟩ = some (.int .i64 ps[j])
theorem PicksAt.ch {B : Nat} {S : Nat → Prop} {w w' : World} {A : Option Addr} {ps : List Int} (h : PicksAt B w A ps) (k : Ch S w w') (hS : ∀ i, S i → B ≤ i ∧ ∀ c, ¬ Cells w i c 3) : PicksAt B w' A ps := by
  intro j hj
  obtain ⟨b, off, rfl, hb, hc⟩ := h j hj
  have hne : ¬ S b := fun hs => by
    rcases hb with hb | ⟨c, hb⟩
    · have := (hS b hs).1; omega
    · exact (hS b hs).2 c hb
  have hlt : b < w.heap.size := World.block_lt_of_cell? w _ hc
  exact ⟨b, off, rfl, hb.imp id (fun ⟨c, h⟩ => ⟨c, h.ch k hne⟩), (World.cell?_of_block (w := w) (a := ⟨b, off + j, none⟩) (k.block b hlt hne)).trans hc⟩
theorem PicksAt.tail {B : Nat} {w : World} {A : Option Addr} {p : Int} {r : List Int} (h : PicksAt B w A (p :: r)) (c : Nat) (hc : r.length + 1 ≤ c) : PicksAt B w (if c = 1 then A else A.map (·.add 1)) r := by
  intro j hj
  obtain ⟨b, off, rfl, hb, hx⟩ := h (j + 1) (by simpa using hj)
  rw [if_neg (by omega)]
  refine ⟨b, off + 1, by simp [add_at], hb, ?_⟩
  rw [show off + 1 + j = off + (j + 1) by omega]
  simpa using hx
/-- The variable that holds the picks. -/
structure PickBox (B : Nat) (w : World) (p : Nat) (ps : List Int) : Prop where
  box : ∃ A c, Cells w p #[.slice A ps.length c] 23 ∧ ps.length ≤ c ∧ c ≤ maxLen ∧ PicksAt B w A ps
  fit : ∀ x ∈ ps, in64 x
theorem PickBox.ch {B : Nat} {S : Nat → Prop} {w w' : World} {p : Nat} {ps : List Int} (h : PickBox B w p ps) (k : Ch S w w') (hS : ∀ i, S i → B ≤ i ∧ ∀ c, ¬ Cells w i c 3) (hp : ¬ S p) : PickBox B w' p ps := by
  obtain ⟨⟨A, c, h1, h2, h3, h4⟩, h5⟩ := h
  exact ⟨⟨A, c, h1.ch k hp, h2, h3, h4.ch k hS⟩, h5⟩
set_option maxHeartbeats 1000000 in
theorem pick_any {B : Nat} {w : World} {p : Nat} {ps : List Int} (h : PickBox B w p ps) (hB : B ≤ p) (n : Nat) (hn : n ≤ 1099511627776) :
    Calls Tryz.prog 44 #[.int .i64 (n : Int), adr p] w fun e w' => e = .returned (.int .i64 (pickK ps n : Int)) ∧ PickBox B w' p ps.tail ∧ Ch (· = p) w w' := by
  obtain ⟨⟨A, c, h1, h2, h3, h4⟩, h5⟩ := h
  have c0 : w.cell? ⟨p, 0, none⟩ = some (.slice A ps.length c) := h1.cell 0
  have f0 := h1.frozen 0
  cases ps with
  | nil =>
    have H := Lib.hid (show PickBox B w p [] from ⟨⟨A, c, h1, h2, h3, h4⟩, h5⟩)
    simp only [List.length_nil] at c0
    clear h1 h2 h3 h4 h5
    unfold adr
    go_enter Tryz.func44, Tryz.ntmps44
    go_wp2
    go_ret
    exact ⟨rfl, H.out, Ch.refl _ _⟩
  | cons q r =>
    obtain ⟨b, off, rfl, hb, hx⟩ := h4 0 (by simp)
    have hx0 : w.cell? ⟨b, off, none⟩ = some (.int .i64 q) := by simpa using hx
    have H1 := Lib.hid h1
    have H4 := Lib.hid h4
    have H5 := Lib.hid h5
    have hc1 : 1 ≤ c := by simp at h2; omega
    have HT := Lib.hid (h4.tail c (by simpa using h2))
    have hq := h5 q (List.mem_cons_self ..)
    obtain ⟨m, hm⟩ : ∃ m, (q :: r).length = m + 1 := ⟨r.length, by simp⟩
    have HM := Lib.hid (show r.length = m by simpa using hm)
    rw [hm] at c0
    have hmc : m + 1 ≤ c := by rw [← hm]; exact h2
    have HK := Lib.hid (show (pickK (q :: r) n : Int) = (q % 18446744073709551616) % ((n : Int) + 1) by
      unfold pickK
      exact Int.toNat_of_nonneg (Int.emod_nonneg _ (by omega)))
    have HKL := Lib.hid (pickK_le (q :: r) n)
    have hne : ¬ ((n : Int) + 1 = 0) := by omega
    have HWR := Lib.hid (show wrap64 ((IntKind.u64.wrap q).tmod ((n : Int) + 1)) = (pickK (q :: r) n : Int) by
      have e1 : IntKind.u64.wrap q = q % 18446744073709551616 := by rw [IntKind.wrap_u64]
      have e2 := Int.emod_nonneg q (show (18446744073709551616 : Int) ≠ 0 by omega)
      rw [e1, Int.tmod_eq_emod_of_nonneg e2, ← HK.out]
      have := HKL.out
      unfold wrap64
      omega)
    have H3 := Lib.hid h3
    unfold maxLen at h3
    clear h1 h2 h4 h5 hb hx hm
    unfold adr
    have hch : ∀ v, Ch (· = p) w (w.setCell ⟨p, 0, none⟩ v) := fun v => (Ch.refl (· = p) w).set (p := ⟨p, 0, none⟩) (.inl rfl) _
    have HFIN := Lib.hid (show ∀ A', A' = (if c = 1 then some ⟨b, off, none⟩ else some ⟨b, off + 1, none⟩) → PickBox B (w.setCell ⟨p, 0, none⟩ (.slice A' m (c - 1))) p r from fun A' hA' => by
      have h0 : ∀ i, i = p → B ≤ i ∧ ∀ d, ¬ Cells w i d 3 := fun i e => ⟨by omega, fun d hd => by subst e; exact hd.ne H1.out (by decide) rfl⟩
      refine ⟨⟨A', c - 1, ?_, by rw [HM.out]; omega, by have := H3.out; omega, ?_⟩, fun x hx => H5.out x (List.mem_cons_of_mem _ hx)⟩
      · rw [HM.out]; exact H1.out.set 0 _
      · have := HT.out.ch (hch (.slice A' m (c - 1))) h0
        rw [hA']
        by_cases e : c = 1
        · rw [if_pos e] at this ⊢; rw [hA', if_pos e] at this; exact this
        · rw [if_neg e] at this ⊢; rw [hA', if_neg e] at this; simpa [add_at] using this)
    have HCH := Lib.hid hch
    clear hch
    by_cases hcc : c = 1
    · subst hcc
      obtain rfl : m = 0 := by omega
      go_enter Tryz.func44, Tryz.ntmps44
      go_wp2
      go_ret
      exact ⟨by rw [← HWR.out]; rfl, HFIN.out (some ⟨b, off, none⟩) (by simp), HCH.out _⟩
    · go_enter Tryz.func44, Tryz.ntmps44
      go_wp2
      go_ret
      exact ⟨by rw [← HWR.out]; rfl, HFIN.out (some ⟨b, off + 1, none⟩) (by simp [hcc]), HCH.out _⟩

/-! ### cut -/
theorem own_take {w : World} {B n c : Nat} {A : Option Addr} {b : List UInt8} (h : w.ownsRow B 5 1 (.slice A n c) n (byteCells b)) (k : Nat) (hk : k ≤ n) : w.ownsRow B 5 1 (.slice A k c) k (byteCells (b.take k)) := by
  have hl := h.1
  rw [byteCells_length, Nat.mul_one] at hl
  refine ⟨by rw [byteCells_length, List.length_take]; omega, ?_⟩
  rcases h.2 with ⟨hv, h0⟩ | ⟨g, cap, cur, hv, hg, hh, h1, h2, h3, h4⟩
  · injection hv with e1 e2 e3
    have : k = 0 := by omega
    subst this; subst e1; subst e3
    exact .inl ⟨rfl, rfl⟩
  · injection hv with e1 e2 e3
    subst e1; subst e3
    refine .inr ⟨g, c, cur, rfl, hg, hh, by omega, h2, h3, ?_⟩
    have : byteCells (b.take k) = (byteCells b).take k := by unfold byteCells; rw [List.map_take]
    rw [this, ← h4, List.take_take]
    congr 1
    omega
set_option maxHeartbeats 1000000 in
theorem cut_any {Kp : Nat → Prop} {B f : Nat} {L : Lay} {s : Fs} {w : World} (h : RepL Kp B f L s w) (x : Nat) (b : List UInt8) (sf k : Nat) (hx : s.file x = some (b, sf)) (hk : sf + k ≤ b.length) (hb : b.length ≤ 16777216) (hBw : B ≤ w.heap.size) :
    Calls Tryz.prog 48 #[.pointer (some ⟨x, 0, none⟩), .int .i64 (k : Int)] w fun e w' => e = .returned (.tuple #[]) ∧ (∃ L', RepL Kp B f L' { s with file := upd s.file x (some (b.take (sf + k), sf + k)) } w' ∧ L'.M = L.M ∧ L'.blk = L.blk ∧ L'.nw = L.nw) ∧ Ch (· = x) w w' := by
  have hf := h.file x b sf hx
  have x0 : w.cell? ⟨x, 0, none⟩ = some (.slice (L.fa x) b.length (L.fc x)) := hf.cells.cell 0
  have x1 : w.cell? ⟨x, 1, none⟩ = some (.int .i64 (sf : Int)) := hf.cells.cell 1
  have f0 := hf.cells.frozen 0
  have f1 := hf.cells.frozen 1
  have hne : ¬ f = x := fun e => h.fs.ne hf.cells (by decide) e
  have hcap : b.length ≤ L.fc x ∧ L.fc x ≤ maxLen := by
    rcases hf.row.2 with ⟨hv, h0⟩ | ⟨g, cap, cur, hv, hg, hh, h1, h2, h3, h4⟩
    · injection hv with _ e2 e3; rw [e3]; exact ⟨by omega, by decide⟩
    · injection hv with _ _ e3; rw [e3]; exact ⟨h1, h2⟩
  obtain ⟨hc1, hc2⟩ := hcap
  unfold maxLen at hc2
  have HE := Lib.hid (fun (w' : World) (hw' : w' = ((w.setCell ⟨x, 1, none⟩ (.int .i64 ((sf + k : Nat) : Int))).setCell ⟨x, 0, none⟩ (.slice (L.fa x) (sf + k) (L.fc x))).drew) => by
    have hch : Ch (· = x) w w' := by rw [hw']; exact (((Ch.refl (· = x) w).set (p := ⟨x, 1, none⟩) (.inl rfl) _).set (p := ⟨x, 0, none⟩) (.inl rfl) _).drew
    have hlen : (b.take (sf + k)).length = sf + k := by rw [List.length_take]; omega
    refine (⟨⟨_, h.fileOnly (x := x) (A := L.fa x) (c := L.fc x) (b := b.take (sf + k)) (sf := sf + k) (fun b0 s0 hx0 j hj => ?_) (fun hx0 => by rw [hx] at hx0; cases hx0) (hch.mono fun k _ e => .inr (.inl e)) hBw ⟨?_, ?_⟩ (h.fs.ch hch hne), rfl, rfl, rfl⟩, hch⟩ : (∃ L', RepL Kp B f L' { s with file := upd s.file x (some (b.take (sf + k), sf + k)) } w' ∧ L'.M = L.M ∧ L'.blk = L.blk ∧ L'.nw = L.nw) ∧ Ch (· = x) w w')
    · rw [hx] at hx0; injection hx0 with hx0; injection hx0 with h1 h2; subst h1
      exact .inl (by rw [own_block_nil (b := []) (m := (b.take (sf + k)).length)]; exact hj)
    · rw [hlen, hw']; exact (hf.cells.set 1 _).set 0 _
    · rw [hlen]
      refine own_ch (own_take hf.row (sf + k) hk) hch fun j hj e => ?_
      obtain ⟨d, hd, _⟩ := hf.blk (by rw [own_block_nil (b := []) (m := sf + k)]; exact hj)
      exact hd.ne hf.cells (by decide) e)
  obtain ⟨m, hm⟩ : ∃ m, b.length = m := ⟨_, rfl⟩
  rw [hm] at x0 hk hb hc1
  have hkc : sf + k ≤ L.fc x := by omega
  clear h hf hx hm hne
  go_enter Tryz.func48, Tryz.ntmps48
  go_wp2
  go_region
  go_end0
  have h := HE.out _ rfl
  have e : ((sf + k : Nat) : Int) = (sf : Int) + (k : Int) := by omega
  rw [e] at h
  exact ⟨rfl, h⟩
end Go.Proofs.YtnkhgajghfonhaaGreatDoor

/- simfs: Crash. -/
namespace Go.Proofs.YtnkhgajghfonhaaGreatDoor
open Go.ChangeShapes Go.WideShapes Go.ChangeAt Go.RowKit Go.ChangeMaps Go.MapKept
open Go.Lib (byteCells byteCells_length byteCells_append strCells)
set_option linter.unusedVariables false

/-- One directory is settled. -/
def step1 (st : List Int × (Nm → Dir)) (n : Nm) : List Int × (Nm → Dir) := (st.1.tail, upd st.2 n (settledDir (st.2 n) (pickK st.1 (st.2 n).pend.length)))
def phase1 (s : Fs) (ps : List Int) (ns : List Nm) : List Int × (Nm → Dir) := ns.foldl step1 (ps, s.dir)
structure St2 where
  ps : List Int
  file : Nat → Option (List UInt8 × Nat)
  used : Int
/-- One file is cut. -/
def step2 (st : St2) (x : Nat) : St2 :=
  match st.file x with
  | some (b, sf) => ⟨st.ps.tail, upd st.file x (some (b.take (sf + pickK st.ps (b.length - sf)), sf + pickK st.ps (b.length - sf))), st.used + ((sf + pickK st.ps (b.length - sf) : Nat) : Int)⟩
  | none => st
def stepD (st : St2) (l : List (Nm × Nat)) : St2 := l.foldl (fun st p => step2 st p.2) st
def phase2 (dir : Nm → Dir) (st : St2) (ns : List Nm) : St2 := ns.foldl (fun st n => stepD st (dir n).now) st
def crashS (s : Fs) (ps : List Int) : Fs :=
  { s with on := true, fuse := -1, dir := (phase1 s ps s.names).2
           file := (phase2 (phase1 s ps s.names).2 ⟨(phase1 s ps s.names).1, s.file, 0⟩ s.names).file
           used := (phase2 (phase1 s ps s.names).2 ⟨(phase1 s ps s.names).1, s.file, 0⟩ s.names).used }
theorem phase1_snoc (s : Fs) (ps : List Int) (ns : List Nm) (n : Nm) : phase1 s ps (ns ++ [n]) = step1 (phase1 s ps ns) n := by simp [phase1]
theorem phase1_other (s : Fs) (ps : List Int) (ns : List Nm) (n : Nm) (h : n ∉ ns) : (phase1 s ps ns).2 n = s.dir n := by
  unfold phase1
  suffices ∀ st : List Int × (Nm → Dir), (ns.foldl step1 st).2 n = st.2 n from this _
  intro st
  induction ns generalizing st with
  | nil => rfl
  | cons m r ih =>
    rw [List.foldl_cons, ih (fun h' => h (List.mem_cons_of_mem _ h'))]
    exact upd_other _ _ _ _ (fun e => h (by rw [e]; exact List.mem_cons_self ..))
theorem rising_top {L : Lay} {ns : List Nm} (h : ns.Pairwise (· < ·)) : Rising (topOf L ns) := by
  unfold Rising topOf
  rw [List.pairwise_map]
  exact h
theorem top_names (L : Lay) (ns : List Nm) : (topOf L ns).map (·.1) = ns := by
  unfold topOf
  rw [List.map_map]
  exact List.map_id' ns
theorem nodup_of_lt {ns : List Nm} (h : ns.Pairwise (· < ·)) : ns.Nodup := h.imp fun {a b} (hab : a < b) => by rintro rfl; exact List.lt_irrefl _ hab
theorem not_mem_take {ns : List Nm} (h : ns.Nodup) (j : Nat) (hj : j < ns.length) : ns[j] ∉ ns.take j := by
  intro hm
  rw [List.mem_take_iff_getElem] at hm
  obtain ⟨i, hi, e⟩ := hm
  have := (List.getElem_inj h).1 e
  omega

/-- Where the first loop stands. -/
structure Loop1 (Kp : Nat → Prop) (B f p : Nat) (L0 : Lay) (s : Fs) (ps : List Int) (w2 : World) (j : Nat) (wr : World) : Prop where
  rep : ∃ L', RepL Kp B f L' { s with on := true, fuse := -1, used := 0, dir := (phase1 s ps (s.names.take j)).2 } wr ∧ L'.M = L0.M ∧ L'.blk = L0.blk ∧ L'.bs = L0.bs
  box : PickBox B wr p (phase1 s ps (s.names.take j)).1
  ch : Ch (fun i => i = p ∨ ∃ n ∈ s.names, baseOf L0 n i) w2 wr
theorem str_row {w w' : World} {S : Nat → Prop} {B n c : Nat} {A : Option Addr} {l : List Nm} (h : w.ownsRow B 9 1 (.slice A n c) n (l.map encStr)) (k : Ch S w w') (hS : ∀ i, S i → ∀ d, ¬ Cells w i d 9) : w'.ownsRow B 9 1 (.slice A n c) n (l.map encStr) :=
  own_ch h k fun b hb hs => by obtain ⟨d, hd, _⟩ := own_cells h hb; exact hS b hs d hd
theorem row_at {w : World} {B n c : Nat} {A : Option Addr} {l : List Nm} (h : w.ownsRow B 9 1 (.slice A n c) n (l.map encStr)) (j : Nat) (hj : j < l.length) : ∃ g, A = some ⟨g, 0, none⟩ ∧ w.cell? ⟨g, j, none⟩ = some (.string (txt l[j])) ∧ n ≤ c ∧ c ≤ maxLen := by
  have hl := h.1
  rw [List.length_map, Nat.mul_one] at hl
  rcases h.2 with ⟨hv, h0⟩ | ⟨g, cap, cur, hv, hg, hh, h1, h2, h3, h4⟩
  · omega
  · injection hv with e1 e2 e3
    subst e1; subst e3
    have := h.cells (g := g) rfl j (.string (txt l[j])) (by rw [List.getElem?_map, List.getElem?_eq_getElem hj]; rfl)
    rw [add_at, Nat.zero_add] at this
    exact ⟨g, rfl, this, h1, h2⟩
theorem phase1_at (s : Fs) (ps : List Int) (ns : List Nm) (hn : ns.Nodup) (n : Nm) (hm : n ∈ ns) : ∃ k, k ≤ (s.dir n).pend.length ∧ (phase1 s ps ns).2 n = settledDir (s.dir n) k := by
  unfold phase1
  suffices ∀ st : List Int × (Nm → Dir), ∃ k, k ≤ (st.2 n).pend.length ∧ (ns.foldl step1 st).2 n = settledDir (st.2 n) k from this (ps, s.dir)
  intro st
  induction ns generalizing st with
  | nil => simp at hm
  | cons m r ih =>
    have hnd := List.nodup_cons.1 hn
    rw [List.foldl_cons]
    rcases List.mem_cons.1 hm with rfl | hm
    · have : (r.foldl step1 (step1 st n)).2 n = (step1 st n).2 n := by
        have gen : ∀ (l : List Nm) (u : List Int × (Nm → Dir)), n ∉ l → (l.foldl step1 u).2 n = u.2 n := by
          intro l
          induction l with
          | nil => intro _ _; rfl
          | cons a l ih2 =>
            intro u h
            rw [List.foldl_cons, ih2 _ (fun h' => h (List.mem_cons_of_mem _ h'))]
            exact upd_other _ _ _ _ (fun e => h (by rw [e]; exact List.mem_cons_self ..))
        exact gen r _ hnd.1
      rw [this]
      exact ⟨_, pickK_le _ _, upd_same _ _ _⟩
    · have hne : n ≠ m := fun e => hnd.1 (e ▸ hm)
      obtain ⟨k, h1, h2⟩ := ih hnd.2 hm (step1 st m)
      have e : (step1 st m).2 n = st.2 n := upd_other _ _ _ _ hne
      rw [e] at h1 h2
      exact ⟨k, h1, h2⟩

/-- Where the files are cut so far. -/
structure Stand (Kp : Nat → Prop) (B f p : Nat) (L0 : Lay) (s : Fs) (d1 : Nm → Dir) (w3 : World) (m : Nat) (st : St2) (wr : World) : Prop where
  rep : ∃ L', RepL Kp B f L' { s with on := true, fuse := -1, used := st.used, dir := d1, file := st.file } wr ∧ L'.M = L0.M ∧ L'.blk = L0.blk ∧ L'.nw = L0.nw
  box : PickBox B wr p st.ps
  ch : Ch (fun i => i = p ∨ i = f ∨ ∃ q, s.file i = some q) w3 wr
  dom : ∀ x, (∃ q, st.file x = some q) ↔ (∃ q, s.file x = some q)
  fit : ∀ x b sf, st.file x = some (b, sf) → b.length ≤ 16777216 ∧ sf ≤ b.length
  used : 0 ≤ st.used ∧ st.used ≤ 16777216 * (m : Int)
/-- Between cut and what is used. -/
structure Mid (Kp : Nat → Prop) (B f p : Nat) (L0 : Lay) (s : Fs) (d1 : Nm → Dir) (w3 : World) (st : St2) (x n : Nat) (fl : Nat → Option (List UInt8 × Nat)) (wc : World) : Prop where
  rep : ∃ L', RepL Kp B f L' { s with on := true, fuse := -1, used := st.used, dir := d1, file := fl } wc ∧ L'.M = L0.M ∧ L'.blk = L0.blk ∧ L'.nw = L0.nw
  box : PickBox B wc p st.ps.tail
  ch : Ch (fun i => i = p ∨ i = f ∨ ∃ q, s.file i = some q) w3 wc
  at_ : ∃ A c, wc.cell? ⟨x, 0, none⟩ = some (.slice A n c)
theorem Stand.cut {Kp : Nat → Prop} {B f p : Nat} {L0 : Lay} {s : Fs} {d1 : Nm → Dir} {w3 wr : World} {m : Nat} {st : St2} (h : Stand Kp B f p L0 s d1 w3 m st wr) (hB3 : B ≤ w3.heap.size) {x : Nat} {b : List UInt8} {sf : Nat} (hx : st.file x = some (b, sf)) (wp : World) (hb1 : PickBox B wp p st.ps.tail) (hc1 : Ch (· = p) wr wp) :
    Calls Tryz.prog 48 #[.pointer (some ⟨x, 0, none⟩), .int .i64 (pickK st.ps (b.length - sf) : Int)] wp fun e wc => e = .returned (.tuple #[]) ∧ Mid Kp B f p L0 s d1 w3 st x (sf + pickK st.ps (b.length - sf)) (upd st.file x (some (b.take (sf + pickK st.ps (b.length - sf)), sf + pickK st.ps (b.length - sf)))) wc := by
  obtain ⟨L', r, hM, hK, hN⟩ := h.rep
  obtain ⟨Ab, cb, hbox, _⟩ := h.box.box
  have r1 := r.boxed hbox (by decide) hc1
  have hf := h.fit x b sf hx
  have hkl := pickK_le st.ps (b.length - sf)
  have hBp : B ≤ wp.heap.size := by have := hc1.size; have := h.ch.size; omega
  refine (cut_any r1 x b sf (pickK st.ps (b.length - sf)) hx (by omega) hf.1 hBp).mono fun e wc ⟨he, ⟨L2, r2, hM2, hK2, hN2⟩, hc2⟩ => ⟨he, ?_⟩
  have hxs : ∃ q, s.file x = some q := (h.dom x).1 ⟨_, hx⟩
  have hx1 := (r1.file x b sf hx).cells
  refine ⟨⟨L2, r2, by rw [hM2, hM], by rw [hK2, hK], by rw [hN2, hN]⟩, ?_, ?_, ?_⟩
  · obtain ⟨A9, c9, hb9, _⟩ := hb1.box
    exact hb1.ch hc2 (fun i hi => ⟨by subst hi; exact r1.lowf _ b sf hx, fun d hd => by subst hi; exact hd.ne hx1 (by decide) rfl⟩) (fun hi => hb9.ne hx1 (by decide) hi)
  · exact (h.ch.then_ hc1 fun i _ e => .inl e).then_ hc2 fun i _ e => .inr (.inr (e ▸ hxs))
  · have hc := (r2.file x _ _ (upd_same _ _ _)).cells.cell 0
    have hl : (b.take (sf + pickK st.ps (b.length - sf))).length = sf + pickK st.ps (b.length - sf) := by rw [List.length_take]; omega
    refine ⟨L2.fa x, L2.fc x, ?_⟩
    rw [hc, hl]; rfl
theorem Mid.store {Kp : Nat → Prop} {B f p : Nat} {L0 : Lay} {s : Fs} {d1 : Nm → Dir} {w3 wr wc : World} {m : Nat} {st : St2} (h : Stand Kp B f p L0 s d1 w3 m st wr) {x : Nat} {b : List UInt8} {sf : Nat} (hx : st.file x = some (b, sf))
    (hm : Mid Kp B f p L0 s d1 w3 st x (sf + pickK st.ps (b.length - sf)) (upd st.file x (some (b.take (sf + pickK st.ps (b.length - sf)), sf + pickK st.ps (b.length - sf)))) wc) (hBf : B ≤ f) :
    Stand Kp B f p L0 s d1 w3 (m + 1) (step2 st x) (wc.setCell ⟨f, 2, none⟩ (.int .i64 (st.used + ((sf + pickK st.ps (b.length - sf) : Nat) : Int)))).drew := by
  obtain ⟨L', r, hM, hK, hN⟩ := hm.rep
  have hch : Ch (· = f) wc (wc.setCell ⟨f, 2, none⟩ (.int .i64 (st.used + ((sf + pickK st.ps (b.length - sf) : Nat) : Int)))).drew := ((Ch.refl (· = f) wc).set (p := ⟨f, 2, none⟩) (.inl rfl) _).drew
  have e : step2 st x = ⟨st.ps.tail, upd st.file x (some (b.take (sf + pickK st.ps (b.length - sf)), sf + pickK st.ps (b.length - sf))), st.used + ((sf + pickK st.ps (b.length - sf) : Nat) : Int)⟩ := by unfold step2; rw [hx]
  have hf := h.fit x b sf hx
  have hkl := pickK_le st.ps (b.length - sf)
  rw [e]
  refine ⟨⟨L', r.fsOnly hch (r.fs.set 2 _), hM, hK, hN⟩, ?_, hm.ch.then_ hch fun i _ e => .inr (.inl e), fun y => ?_, fun y b1 s1 hy => ?_, ?_⟩
  · obtain ⟨A9, c9, hb9, _⟩ := hm.box.box
    exact hm.box.ch hch (fun i hi => ⟨by omega, fun d hd => by subst hi; exact hd.ne r.fs (by decide) rfl⟩) (fun hi => hb9.ne r.fs (by decide) hi)
  · by_cases hy : y = x
    · subst hy; simp only [upd_same]; exact ⟨fun _ => (h.dom y).1 ⟨_, hx⟩, fun _ => ⟨_, rfl⟩⟩
    · simp only [upd_other _ _ _ _ hy]; exact h.dom y
  · by_cases hyx : y = x
    · subst hyx
      simp only [upd_same] at hy
      injection hy with hy; injection hy with h1 h2; subst h1; subst h2
      rw [List.length_take]; omega
    · simp only [upd_other _ _ _ _ hyx] at hy; exact h.fit y b1 s1 hy
  · have := h.used; simp only; omega
theorem Stand.quiet {Kp : Nat → Prop} {B f p : Nat} {L0 : Lay} {s : Fs} {d1 : Nm → Dir} {w3 wr w' : World} {m : Nat} {st : St2} (h : Stand Kp B f p L0 s d1 w3 m st wr) (k : Ch (fun _ => False) wr w') : Stand Kp B f p L0 s d1 w3 m st w' := by
  obtain ⟨L', r, hM, hK, hN⟩ := h.rep
  exact ⟨⟨L', r.quiet k, hM, hK, hN⟩, h.box.ch k (fun _ h => h.elim) (fun h => h), h.ch.then_ k fun _ _ h => h.elim, h.dom, h.fit, h.used⟩
theorem Stand.rebase {Kp : Nat → Prop} {B f p : Nat} {L0 : Lay} {s : Fs} {d1 : Nm → Dir} {w3 w4 wr : World} {m : Nat} {st : St2} (h : Stand Kp B f p L0 s d1 w4 m st wr) (k : Ch (fun i => i = p ∨ i = f ∨ ∃ q, s.file i = some q) w3 w4) : Stand Kp B f p L0 s d1 w3 m st wr :=
  ⟨h.rep, h.box, k.trans h.ch, h.dom, h.fit, h.used⟩
theorem Stand.fresh {Kp : Nat → Prop} {B f p : Nat} {L0 : Lay} {s : Fs} {d1 : Nm → Dir} {w3 wr : World} {m : Nat} {st : St2} (h : Stand Kp B f p L0 s d1 w3 m st wr) : Stand Kp B f p L0 s d1 wr m st wr :=
  ⟨h.rep, h.box, Ch.refl _ _, h.dom, h.fit, h.used⟩
/-- No text lies where files are cut. -/
theorem Stand.text {Kp : Nat → Prop} {B f p : Nat} {L0 : Lay} {s : Fs} {d1 : Nm → Dir} {w3 wr : World} {m : Nat} {st : St2} (h : Stand Kp B f p L0 s d1 w3 m st wr) : ∀ i, (i = p ∨ i = f ∨ ∃ q, s.file i = some q) → ∀ d, ¬ Cells wr i d 9 := by
  obtain ⟨L', r, hM, hK, hN⟩ := h.rep
  rintro i (rfl | rfl | hq) d hd
  · obtain ⟨A', c', h1, _⟩ := h.box.box; exact hd.ne h1 (by decide) rfl
  · exact hd.ne r.fs (by decide) rfl
  · obtain ⟨⟨b, sf⟩, hq⟩ := (h.dom i).2 hq
    exact hd.ne (r.file i b sf hq).cells (by decide) rfl
theorem stepD_snoc (st : St2) (l : List (Nm × Nat)) (p : Nm × Nat) : stepD st (l ++ [p]) = step2 (stepD st l) p.2 := by simp [stepD]
theorem phase2_snoc (d : Nm → Dir) (st : St2) (ns : List Nm) (n : Nm) : phase2 d st (ns ++ [n]) = stepD (phase2 d st ns) (d n).now := by simp [phase2]
/-- What is known of the entries that last. -/
structure Lasts (s : Fs) (d1 : Nm → Dir) : Prop where
  rising : ∀ n ∈ s.names, Rising (d1 n).now
  len : ∀ n ∈ s.names, (d1 n).now.length ≤ 1000000
  has : ∀ n ∈ s.names, ∀ p ∈ (d1 n).now, (∃ q, s.file p.2 = some q) ∧ p.1.length ≤ 32
theorem lasts_of {s : Fs} (wf : Wf s) (ps : List Int) : Lasts s (phase1 s ps s.names).2 := by
  have key : ∀ n ∈ s.names, ∃ k, k ≤ (s.dir n).pend.length ∧ ((phase1 s ps s.names).2 n).now = replay ((s.dir n).pend.take k) (s.dir n).base := fun n hn => by
    obtain ⟨k, h1, h2⟩ := phase1_at s ps s.names (nodup_of_lt wf.names) n hn
    exact ⟨k, h1, by rw [h2]; rfl⟩
  refine ⟨fun n hn => ?_, fun n hn => ?_, fun n hn p hp => ?_⟩
  · obtain ⟨k, h1, h2⟩ := key n hn; rw [h2]; exact (wf.dirs n hn).2.2.replay _
  · obtain ⟨k, h1, h2⟩ := key n hn; rw [h2]
    have := replay_length ((s.dir n).pend.take k) (s.dir n).base
    have := (wf.dirs n hn).1
    rw [List.length_take] at *
    omega
  · obtain ⟨k, h1, h2⟩ := key n hn; rw [h2] at hp
    exact wf.there n hn k h1 p hp
theorem Stand.more {Kp : Nat → Prop} {B f p : Nat} {L0 : Lay} {s : Fs} {d1 : Nm → Dir} {w3 wr : World} {m m' : Nat} {st : St2} (h : Stand Kp B f p L0 s d1 w3 m st wr) (hm : m ≤ m') : Stand Kp B f p L0 s d1 w3 m' st wr :=
  ⟨h.rep, h.box, h.ch, h.dom, h.fit, h.used.1, by have := h.used.2; omega⟩
def lim (i : Nat) : Nat := 1000000 * i
theorem lim_zero : lim 0 = 0 := rfl
theorem lim_succ (i : Nat) : lim (i + 1) = lim i + 1000000 := Nat.mul_succ _ _
theorem lim_le (i : Nat) (h : i ≤ 64) : lim i ≤ 64000000 := Nat.mul_le_mul_left 1000000 h
/-- All that one round of the inner loop needs. -/
theorem Stand.round {Kp : Nat → Prop} {B f p : Nat} {L0 : Lay} {s : Fs} {d1 : Nm → Dir} {w4 wr : World} {m : Nat} {u : St2} (h : Stand Kp B f p L0 s d1 w4 m u wr) {x : Nat} {b : List UInt8} {sf : Nat} (hx : u.file x = some (b, sf)) (hBp : B ≤ p) (hBf : B ≤ f) (hB4 : B ≤ w4.heap.size) (hm : m ≤ 65000000) :
    ∃ (bl kk : Nat) (us : Int) (A : Option Addr) (c : Nat) (M : World → Prop), sf ≤ bl ∧ bl ≤ 16777216 ∧ sf + kk ≤ bl ∧ 0 ≤ us ∧ us ≤ 1152921504606846976 ∧ wr.cell? ⟨x, 0, none⟩ = some (.slice A bl c) ∧ wr.cell? ⟨x, 1, none⟩ = some (.int .i64 (sf : Int)) ∧
      Calls Tryz.prog 44 #[.int .i64 ((bl : Int) - (sf : Int)), .pointer (some ⟨p, 0, none⟩)] wr.drew (fun e w' => e = .returned (.int .i64 (kk : Int)) ∧ PickBox B w' p u.ps.tail ∧ Ch (· = p) wr.drew w') ∧
      (∀ wp, PickBox B wp p u.ps.tail → Ch (· = p) wr.drew wp → Calls Tryz.prog 48 #[.pointer (some ⟨x, 0, none⟩), .int .i64 (kk : Int)] wp fun e wc => e = .returned (.tuple #[]) ∧ M wc) ∧
      (∀ wc, M wc → Stand Kp B f p L0 s d1 w4 (m + 1) (step2 u x) (wc.setCell ⟨f, 2, none⟩ (.int .i64 (us + ((sf : Int) + (kk : Int))))).drew ∧ wc.cell? ⟨f, 2, none⟩ = some (.int .i64 us) ∧ wc.frozen? ⟨f, 2, none⟩ = false ∧ ∃ A2 c2, wc.cell? ⟨x, 0, none⟩ = some (.slice A2 (sf + kk) c2)) := by
  obtain ⟨L', r, hM', hK', hN'⟩ := h.rep
  have hf := (r.file x b sf hx).cells
  have hfit := h.fit x b sf hx
  have hu := h.used
  have hkl := pickK_le u.ps (b.length - sf)
  have hq := h.quiet ((Ch.refl _ wr).drew)
  refine ⟨b.length, pickK u.ps (b.length - sf), u.used, L'.fa x, L'.fc x, Mid Kp B f p L0 s d1 w4 u x (sf + pickK u.ps (b.length - sf)) (upd u.file x (some (b.take (sf + pickK u.ps (b.length - sf)), sf + pickK u.ps (b.length - sf)))), hfit.2, hfit.1, by omega, hu.1, by have := hu.2; omega, hf.cell 0, hf.cell 1, ?_, ?_, ?_⟩
  · have := pick_any hq.box hBp (b.length - sf) (by omega)
    rw [show ((b.length - sf : Nat) : Int) = (b.length : Int) - (sf : Int) by omega] at this
    exact this
  · intro wp h1 h2
    exact hq.cut hB4 hx wp h1 h2
  · intro wc hm2
    obtain ⟨L2, r2, _⟩ := hm2.rep
    have h3 := Mid.store h hx hm2 hBf
    rw [show ((sf + pickK u.ps (b.length - sf) : Nat) : Int) = (sf : Int) + (pickK u.ps (b.length - sf) : Int) by omega] at h3
    exact ⟨h3, r2.fs.cell 2, r2.fs.frozen 2, hm2.at_⟩
theorem crash_nil (A : Option Addr) (n c : Nat) (w : World) : Calls Tryz.prog 13 #[.pointer none, .slice A n c] w fun e w' => e = .returned (.int .i64 1) ∧ Below w.heap.size w w' := by
  go_enter Tryz.func13, Tryz.ntmps13
  go_wp2
  go_ret
  exact ⟨rfl, (Below.refl _ w).alloc (Nat.le_refl _) _⟩
set_option maxHeartbeats 2000000 in
theorem crash_any {Kp : Nat → Prop} {B f : Nat} {s : Fs} {w : World} (h : Rep Kp B f s w) (wf : Wf s) (hBw : B ≤ w.heap.size) (A : Option Addr) (n c : Nat) (ps : List Int) (hn : n = ps.length) (hc : n ≤ c) (hcm : c ≤ maxLen) (hp : PicksAt B w A ps) (hfit : ∀ x ∈ ps, in64 x) :
    Calls Tryz.prog 13 #[.pointer (some ⟨f, 0, none⟩), .slice A n c] w (Post Kp B f (0, crashS s ps) w) := by
  obtain ⟨L, h⟩ := h
  obtain ⟨W0, hW0⟩ : ∃ W0, (((w.setCell ⟨f, 5, none⟩ (.bool true)).setCell ⟨f, 4, none⟩ (.int .i64 (-1))).setCell ⟨f, 2, none⟩ (.int .i64 0)).alloc (.cells #[.slice A n c] 23) = W0 := ⟨_, rfl⟩
  have c5 : w.cell? ⟨f, 5, none⟩ = some (.bool s.on) := h.fs.cell 5
  have c4 : w.cell? ⟨f, 4, none⟩ = some (.int .i64 s.fuse) := h.fs.cell 4
  have c2 : w.cell? ⟨f, 2, none⟩ = some (.int .i64 s.used) := h.fs.cell 2
  have f5 := h.fs.frozen 5
  have f4 := h.fs.frozen 4
  have f2 := h.fs.frozen 2
  have hfw := h.fs.lt
  have hch0 : Ch (· = f) w (((w.setCell ⟨f, 5, none⟩ (.bool true)).setCell ⟨f, 4, none⟩ (.int .i64 (-1))).setCell ⟨f, 2, none⟩ (.int .i64 0)) :=
    (((Ch.refl (· = f) w).set (p := ⟨f, 5, none⟩) (.inl rfl) _).set (p := ⟨f, 4, none⟩) (.inl rfl) _).set (p := ⟨f, 2, none⟩) (.inl rfl) _
  have hszs : (((w.setCell ⟨f, 5, none⟩ (.bool true)).setCell ⟨f, 4, none⟩ (.int .i64 (-1))).setCell ⟨f, 2, none⟩ (.int .i64 0)).heap.size = w.heap.size := by simp [World.setCell]
  have hfs0 : FsAt (((w.setCell ⟨f, 5, none⟩ (.bool true)).setCell ⟨f, 4, none⟩ (.int .i64 (-1))).setCell ⟨f, 2, none⟩ (.int .i64 0)) f L.M s.room 0 s.steps (-1) true := ((h.fs.set 5 _).set 4 _).set 2 _
  have r0 : RepL Kp B f L { s with on := true, fuse := -1, used := 0 } W0 := by
    rw [← hW0]; exact (h.fsOnly hch0 hfs0).quiet ((Ch.refl _ _).alloc _)
  have hch : Ch (· = f) w W0 := by rw [← hW0]; exact hch0.alloc _
  have hpk : PickBox B W0 w.heap.size ps := by
    refine ⟨⟨A, c, ?_, by omega, hcm, ?_⟩, hfit⟩
    · have := Cells.new (((w.setCell ⟨f, 5, none⟩ (.bool true)).setCell ⟨f, 4, none⟩ (.int .i64 (-1))).setCell ⟨f, 2, none⟩ (.int .i64 0)) #[.slice A n c] 23
      rw [hszs] at this
      rw [← hn, ← hW0]; exact this
    · exact hp.ch hch fun i e => ⟨e ▸ h.low.1, fun d hd => by subst e; exact hd.ne h.fs (by decide) rfl⟩
  have hsW : W0.heap.size = w.heap.size + 1 := by rw [← hW0]; simp [World.setCell]
  have HSW := Lib.hid hsW
  have HR1 := Lib.hid (risingDir L.M (topOf L s.names) W0 r0.top (rising_top wf.names) (by unfold topOf; rw [List.length_map]; have := wf.many; omega))
  have HR := Lib.hid r0
  have HPK := Lib.hid hpk
  have HCH := Lib.hid hch
  have HF0 : W0.cell? ⟨f, 0, none⟩ = some (.map (some L.M)) := r0.fs.cell 0
  have HF00 := Lib.hid HF0
  obtain ⟨N, hN⟩ : ∃ N, s.names.length = N := ⟨_, rfl⟩
  have HN := Lib.hid hN
  have hN64 : N ≤ 64 := by rw [← hN]; exact wf.many
  have HND := Lib.hid (nodup_of_lt wf.names)
  have HWF := Lib.hid wf
  have hR1 : Hid (Calls Tryz.prog 45 #[.map (some L.M)] W0 fun e w' => ∃ v, e = .returned v ∧ w'.ownsRow W0.heap.size 9 1 v N (s.names.map encStr) ∧ Below W0.heap.size W0 w') := Lib.hid (by
    have := HR1.out
    unfold topOf at this
    rw [List.length_map, hN] at this
    have e : (s.names.map fun n => (n, L.blk n)).map (·.1) = s.names := top_names L s.names
    rw [e] at this
    exact this)
  have hfree : ∀ i, (i = w.heap.size ∨ ∃ n ∈ s.names, baseOf L n i) → ∀ d, ¬ Cells W0 i d 9 := by
    rintro i (rfl | ⟨n, hn, rfl | rfl⟩) d hd
    · obtain ⟨A', c', h1, _⟩ := hpk.box; exact hd.ne h1 (by decide) rfl
    · exact hd.ne (r0.dir n hn) (by decide) rfl
    · exact (r0.base n hn).ne hd rfl
  have HFREE := Lib.hid hfree
  have HFF := Lib.hid h.lowF
  have HPP := Lib.hid (show B ≤ w.heap.size ∧ ¬ Kp w.heap.size from ⟨hBw, h.fresh (Nat.le_refl _)⟩)
  clear HR1 r0 hpk hch hch0 hszs hfs0 hfree h hp hfit hn hc hN
  subst hW0
  go_enter Tryz.func13, Tryz.ntmps13
  go_wp2_with (go_at_call 45; go_loud (refine hR1.out.mono ?_); rintro e w2 ⟨v, rfl, h1, h2⟩; obtain ⟨A2, c2', rfl⟩ := own_slice h1; have H1 := Lib.hid h1; have H2 := Lib.hid h2; clear h1 h2)
  have hp0 : w.heap.size < w2.heap.size := by have := H2.out.size; have := HSW.out; omega
  have hBp : B ≤ w.heap.size := hBw
  have HRW := Lib.hid (fun wr (hb : Ch (fun _ => False) w2 wr) => True.intro)
  have HLT := Lib.hid (show ∀ i, (i = w.heap.size ∨ ∃ n ∈ s.names, baseOf L n i) → i < ((((w.setCell ⟨f, 5, none⟩ (.bool true)).setCell ⟨f, 4, none⟩ (.int .i64 (-1))).setCell ⟨f, 2, none⟩ (.int .i64 0)).alloc (.cells #[.slice A n c] 23)).heap.size from by
    rintro i (rfl | ⟨n, hn, rfl | rfl⟩)
    · have := HSW.out; omega
    · exact (HR.out.dir n hn).lt
    · exact (HR.out.base n hn).lt)
  have HFR2 := Lib.hid (show ∀ i, (i = w.heap.size ∨ ∃ n ∈ s.names, baseOf L n i) → ∀ d, ¬ Cells w2 i d 9 from fun i hi d hd => HFREE.out i hi d ((H2.out.block i (HLT.out i hi)).symm.trans hd))
  have HSTART := Lib.hid (show Loop1 Kp B f w.heap.size L s ps w2 0 w2 from
    ⟨⟨L, HR.out.quiet (Ch.of_below H2.out), rfl, rfl, rfl⟩, HPK.out.ch (Ch.of_below H2.out) (fun _ h => h.elim) (fun h => h), Ch.refl _ _⟩)
  go_loopw [35] (fun iv wr => ∃ j : Nat, j ≤ N ∧ iv = .int .i64 (j : Int) ∧ Hid (Loop1 Kp B f w.heap.size L s ps w2 j wr)) (fun iv _ => N - (intOf iv).toNat)
  case atStart => exact ⟨0, Nat.zero_le _, rfl, HSTART⟩
  case round =>
    obtain ⟨j, hj, rfl, HL⟩ := hrel
    by_cases hlt : j < N
    · have hjl : j < s.names.length := by rw [HN.out]; exact hlt
      obtain ⟨g, rfl, hcell, hcc, hcm2⟩ := row_at (str_row H1.out HL.out.ch HFR2.out) j hjl
      unfold maxLen at hcm2
      obtain ⟨nj, hnj⟩ : ∃ nj, s.names[j] = nj := ⟨_, rfl⟩
      have hmem : nj ∈ s.names := by rw [← hnj]; exact List.getElem_mem hjl
      have hdj : (phase1 s ps (s.names.take j)).2 nj = s.dir nj := by rw [← hnj]; exact phase1_other s ps _ _ (not_mem_take HND.out j hjl)
      have hsn : phase1 s ps (s.names.take (j + 1)) = step1 (phase1 s ps (s.names.take j)) nj := by rw [take_snoc s.names j hjl, phase1_snoc, hnj]
      rw [hnj] at hcell
      obtain ⟨L', r, hM, hK, hS⟩ := HL.out.rep
      obtain ⟨Ap, cp, hpv⟩ := pend_slice (r.pend nj hmem)
      have hd2 : wr.cell? ⟨L.blk nj, 2, none⟩ = some (.slice Ap (s.dir nj).pend.length cp) := by
        have := (r.dir nj hmem).cell 2
        rw [hK] at this
        have e : (phase1 s ps (s.names.take j)).2 nj = s.dir nj := hdj
        simp only [e] at hpv
        rw [← hpv]; exact this
      have hf0 : wr.cell? ⟨f, 0, none⟩ = some (.map (some L.M)) := by rw [← hM]; exact r.fs.cell 0
      have hlook : (Instr.lookup 51 (.map (some L.M)) (.string (txt nj)) false).run Tryz.prog wr = .ok (.pointer (some ⟨L.blk nj, 0, none⟩)) wr := by
        have := r.top.look1 (t := 51) Tryz.underlying51 zero_dir nj (by have := HWF.out.short nj hmem; unfold maxLen; omega)
        rw [mget_top, if_pos hmem, hM, hK] at this
        exact this
      have hpl := HWF.out.pendlen hmem
      have HPICK := Lib.hid (pick_any HL.out.box hBp (s.dir nj).pend.length (by omega))
      have HNEXT := Lib.hid (fun wp (hb1 : PickBox B wp w.heap.size (phase1 s ps (s.names.take j)).1.tail) (hc1 : Ch (· = w.heap.size) wr wp) => by
        obtain ⟨Ab, cb, hbox, _⟩ := HL.out.box.box
        have r1 := r.boxed hbox (by decide) hc1
        have hkl := pickK_le (phase1 s ps (s.names.take j)).1 (s.dir nj).pend.length
        have hsz1 : B ≤ wp.heap.size := by have := hc1.size; have := HL.out.ch.size; omega
        have hst := settle_rep r1 nj hmem (pickK (phase1 s ps (s.names.take j)).1 (s.dir nj).pend.length) (by simp only [hdj]; exact hkl) (by simp only [hdj]; exact (HWF.out.dirs nj hmem).1) (by simp only [hdj]; exact (HWF.out.dirs nj hmem).2.1) hsz1
        rw [hK] at hst
        refine (hst.mono fun e w3 hh => ?_ : Calls Tryz.prog 46 #[.pointer (some ⟨L.blk nj, 0, none⟩), .int .i64 (pickK (phase1 s ps (s.names.take j)).1 (s.dir nj).pend.length : Int)] wp fun e w3 => e = .returned (.tuple #[]) ∧ Loop1 Kp B f w.heap.size L s ps w2 (j + 1) w3)
        obtain ⟨he, L2, r2, hc2, hM2, hK2, hS2⟩ := hh
        have hbb : ∀ i, baseOf L' nj i ↔ baseOf L nj i := fun i => by unfold baseOf; rw [hK, hS]
        refine ⟨he, ⟨⟨L2, ?_, by rw [hM2, hM], hK2, by rw [hS2, hS]⟩, ?_, ?_⟩⟩
        · have e1 : (phase1 s ps (s.names.take (j + 1))).2 = upd (phase1 s ps (s.names.take j)).2 nj (settledDir ((phase1 s ps (s.names.take j)).2 nj) (pickK (phase1 s ps (s.names.take j)).1 (s.dir nj).pend.length)) := by
            rw [hsn]; unfold step1; simp only [hdj]
          rw [e1]
          exact r2
        · have e1 : (phase1 s ps (s.names.take (j + 1))).1 = (phase1 s ps (s.names.take j)).1.tail := by rw [hsn]; rfl
          rw [e1]
          refine hb1.ch hc2 (fun i hi => ⟨(r1.lowBase hmem i hi).1, fun d hd => ?_⟩) (fun hi => ?_)
          · rcases hi with rfl | rfl
            · exact hd.ne (r1.dir nj hmem) (by decide) rfl
            · exact (r1.base nj hmem).ne hd rfl
          · obtain ⟨A9, c9, hb9, _⟩ := hb1.box
            rcases hi with e | e
            · exact hb9.ne (r1.dir nj hmem) (by decide) e
            · exact (r1.base nj hmem).ne hb9 e.symm
        · exact ((HL.out.ch.then_ hc1 fun i _ e => .inl e).then_ hc2 fun i _ e => .inr ⟨nj, hmem, (hbb i).1 e⟩))
      clear r hpv hdj hsn hpl
      go_wp2_with (first
        | (go_at_call 44; go_loud (refine HPICK.out.mono ?_); rintro e wp ⟨rfl, h1, h2⟩; have HX := Lib.hid (HNEXT.out wp h1 h2); clear h1 h2)
        | (go_at_call 46; go_loud (refine HX.out.mono ?_); rintro e w3 ⟨rfl, h1⟩; have H3 := Lib.hid h1; clear h1))
      go_roundw
      case rel => exact ⟨j + 1, by omega, by go_num, H3⟩
      case measure => simp [intOf]; omega
    · obtain rfl : j = N := by omega
      obtain ⟨w3, rfl⟩ : ∃ x, x = wr := ⟨_, rfl⟩
      have htk : s.names.take j = s.names := List.take_of_length_le (by rw [HN.out]; omega)
      have hl1 := HL.out
      have HROW3 := Lib.hid (str_row H1.out hl1.ch HFR2.out)
      have hch23 := hl1.ch
      have hl1r := hl1.rep
      have hl1b := hl1.box
      rw [htk] at hl1r hl1b
      obtain ⟨L1, r, hM, hK, hS⟩ := hl1r
      obtain ⟨d1, hd1⟩ : ∃ d1, (phase1 s ps s.names).2 = d1 := ⟨_, rfl⟩
      obtain ⟨ps1, hps1⟩ : ∃ d1, (phase1 s ps s.names).1 = d1 := ⟨_, rfl⟩
      have HLA := Lib.hid (show Lasts s d1 from hd1 ▸ lasts_of HWF.out ps)
      have HCR := Lib.hid (show crashS s ps = { s with on := true, fuse := -1, dir := d1, file := (phase2 d1 ⟨ps1, s.file, 0⟩ s.names).file, used := (phase2 d1 ⟨ps1, s.file, 0⟩ s.names).used } by unfold crashS; rw [hd1, hps1])
      rw [hd1] at r
      rw [hps1] at hl1b
      have HST0 := Lib.hid (show Stand Kp B f w.heap.size L1 s d1 w3 0 ⟨ps1, s.file, 0⟩ w3 from ⟨⟨L1, r, rfl, rfl, rfl⟩, hl1b, Ch.refl _ _, fun _ => Iff.rfl, fun x b sf hx => HWF.out.files x b sf hx, ⟨Int.le_refl _, by simp⟩⟩)
      have HM1 := Lib.hid hM
      have HK1 := Lib.hid hK
      have HC23 := Lib.hid hch23
      have hBf := HR.out.low.1
      have hB3 : B ≤ w3.heap.size := by have := hch23.size; have := H2.out.size; have := HSW.out; omega
      obtain ⟨st0, hst0⟩ : ∃ st0, (⟨ps1, s.file, 0⟩ : St2) = st0 := ⟨_, rfl⟩
      rw [hst0] at HST0 HCR
      clear hl1 hl1b r htk hd1 hps1 hst0 hch23 HL HSTART
      go_wp2
      go_loopw [57] (fun iv wr => ∃ i : Nat, i ≤ j ∧ iv = .int .i64 (i : Int) ∧ Hid (∃ m, m ≤ lim i ∧ Stand Kp B f w.heap.size L1 s d1 w3 m (phase2 d1 st0 (s.names.take i)) wr)) (fun iv _ => j - (intOf iv).toNat)
      case atStart => exact ⟨0, Nat.zero_le _, rfl, Lib.hid ⟨0, Nat.zero_le _, HST0.out⟩⟩
      case round =>
        obtain ⟨i, hi, rfl, HS2x⟩ := hrel
        obtain ⟨m, hml, hS2⟩ := HS2x.out
        have HS2 := Lib.hid hS2
        have hm64 : m ≤ 64000000 := Nat.le_trans hml (lim_le i (by omega))
        clear hS2
        by_cases hlt2 : i < j
        · have hil : i < s.names.length := by rw [HN.out]; exact hlt2
          obtain ⟨g, rfl, hcell, hcc, hcm2⟩ := row_at (str_row HROW3.out HS2.out.ch HST0.out.text) i hil
          unfold maxLen at hcm2
          obtain ⟨nj, hnj⟩ : ∃ nj, s.names[i] = nj := ⟨_, rfl⟩
          have hmem : nj ∈ s.names := by rw [← hnj]; exact List.getElem_mem hil
          have HSN := Lib.hid (show phase2 d1 st0 (s.names.take (i + 1)) = stepD (phase2 d1 st0 (s.names.take i)) (d1 nj).now by rw [take_snoc s.names i hil, phase2_snoc, hnj])
          rw [hnj] at hcell
          obtain ⟨L', r, hM', hK', hN'⟩ := HS2.out.rep
          have hf0 : wr.cell? ⟨f, 0, none⟩ = some (.map (some L.M)) := by rw [← HM1.out, ← hM']; exact r.fs.cell 0
          have hlook : (Instr.lookup 51 (.map (some L.M)) (.string (txt nj)) false).run Tryz.prog wr = .ok (.pointer (some ⟨L.blk nj, 0, none⟩)) wr := by
            have := r.top.look1 (t := 51) Tryz.underlying51 zero_dir nj (by have := HWF.out.short nj hmem; unfold maxLen; omega)
            rw [mget_top, if_pos hmem, hM', HM1.out, hK', HK1.out] at this
            exact this
          have hd1c : wr.cell? ⟨L.blk nj, 1, none⟩ = some (.map (some (L1.nw nj))) := by
            have := (r.dir nj hmem).cell 1
            rw [hK', HK1.out, hN'] at this
            exact this
          have hmapn := r.now nj hmem
          rw [hN'] at hmapn
          have HRI := Lib.hid (risingFile (L1.nw nj) (d1 nj).now wr hmapn (HLA.out.rising nj hmem) (HLA.out.len nj hmem))
          clear r hmapn
          go_wp2_with (go_at_call 47; go_loud (refine HRI.out.mono ?_); rintro e w4 ⟨v4, rfl, k1, k2⟩; obtain ⟨A4, c4', rfl⟩ := own_slice k1; have K1 := Lib.hid k1; have K2 := Lib.hid k2; clear k1 k2)
          obtain ⟨wq, rfl⟩ : ∃ x, x = wr := ⟨_, rfl⟩
          obtain ⟨es, hes⟩ : ∃ es, (d1 nj).now = es := ⟨_, rfl⟩
          have HES := Lib.hid hes
          have hke : ((d1 nj).now.map (·.1)) = es.map (·.1) := by rw [hes]
          obtain ⟨K, hK0⟩ : ∃ K, (d1 nj).now.length = K := ⟨_, rfl⟩
          have HKL := Lib.hid (show es.length = K by rw [← hes, hK0])
          have hKm : K ≤ 1000000 := by rw [← hK0]; exact HLA.out.len nj hmem
          have hk1 := K1.out
          rw [hke, hK0] at hk1
          have HK1R := Lib.hid hk1
          have HRS := Lib.hid (hes ▸ HLA.out.rising nj hmem : Rising es)
          have HHAS := Lib.hid (fun p hp => HLA.out.has nj hmem p (hes ▸ hp) : ∀ p ∈ es, (∃ q, s.file p.2 = some q) ∧ p.1.length ≤ 32)
          rw [hK0]
          obtain ⟨st, hst⟩ : ∃ st, phase2 d1 st0 (s.names.take i) = st := ⟨_, rfl⟩
          have HSTI := Lib.hid hst
          have HS3 := Lib.hid (show Stand Kp B f w.heap.size L1 s d1 w4 m (stepD st (es.take 0)) w4 from by
            have := (HS2.out.quiet (Ch.of_below K2.out)).fresh
            rw [hst] at this
            exact this)
          have HC34 := Lib.hid (HS2.out.ch.then_ (Ch.of_below K2.out) fun _ _ h => h.elim)
          have HB4 := Lib.hid (show B ≤ w4.heap.size by have := K2.out.size; have := HS2.out.ch.size; omega)
          clear hes hke hk1 hK0 K1 hst hd1c hlook hcell hf0 HRI
          go_loopw [73] (fun iv wr => ∃ k : Nat, k ≤ K ∧ iv = .int .i64 (k : Int) ∧ Hid (Stand Kp B f w.heap.size L1 s d1 w4 (m + k) (stepD st (es.take k)) wr)) (fun iv _ => K - (intOf iv).toNat)
          case atStart => exact ⟨0, Nat.zero_le _, rfl, HS3⟩
          case round =>
            obtain ⟨k, hk, rfl, HT⟩ := hrel
            by_cases hlt3 : k < K
            · have hkl : k < es.length := by rw [HKL.out]; exact hlt3
              have hkl2 : k < (es.map (·.1)).length := by rw [List.length_map]; exact hkl
              obtain ⟨g4, rfl, hcell4, hcc4, hcm4⟩ := row_at (str_row HK1R.out HT.out.ch HS3.out.text) k hkl2
              unfold maxLen at hcm4
              obtain ⟨a, ha⟩ : ∃ a, es[k].1 = a := ⟨_, rfl⟩
              obtain ⟨x, hx⟩ : ∃ x, es[k].2 = x := ⟨_, rfl⟩
              have hmp : (a, x) ∈ es := by rw [← ha, ← hx]; exact List.getElem_mem hkl
              have hcell5 : wr.cell? ⟨g4, k, none⟩ = some (.string (txt a)) := by rw [List.getElem_map, ha] at hcell4; exact hcell4
              have HSN3 := Lib.hid (show stepD st (es.take (k + 1)) = step2 (stepD st (es.take k)) x by rw [take_snoc es k hkl, stepD_snoc, hx])
              obtain ⟨hq, hal0⟩ := HHAS.out _ hmp
              have hal : a.length ≤ 32 := hal0
              clear hal0
              obtain ⟨⟨b, sf⟩, hfx⟩ := (HT.out.dom x).2 hq
              obtain ⟨u, hu⟩ : ∃ u, stepD st (es.take k) = u := ⟨_, rfl⟩
              have HU := Lib.hid hu
              rw [hu] at hfx
              have hT := HT.out
              rw [hu] at hT
              have HT2 := Lib.hid hT
              obtain ⟨L', r, hM', hK', hN'⟩ := hT.rep
              have hd1c : wr.cell? ⟨L.blk nj, 1, none⟩ = some (.map (some (L1.nw nj))) := by
                have := (r.dir nj hmem).cell 1
                rw [hK', HK1.out, hN'] at this
                exact this
              have hlook : (Instr.lookup 94 (.map (some (L1.nw nj))) (.string (txt a)) false).run Tryz.prog wr = .ok (.pointer (some ⟨x, 0, none⟩)) wr := by
                have := (r.now nj hmem).look1 (t := 94) Tryz.underlying94 zero_file a (by unfold maxLen; omega)
                have hg : mget (d1 nj).now a = some x := by rw [HES.out]; exact mget_mem HRS.out hmp
                simp only [hg, hN'] at this
                exact this
              obtain ⟨bl, kk, us, Ax, cx, Mx, q1, q2, q3, q4, q5, hx0, hx1, hpick, hcut, hsto⟩ := hT.round hfx hBp hBf HB4.out (by omega)
              have HPICK := Lib.hid hpick
              have HCUT := Lib.hid hcut
              have HSTO := Lib.hid hsto
              have q6 : 0 ≤ (bl : Int) := by omega
              have q7 : (bl : Int) ≤ 16777216 := by omega
              have q8 : (sf : Int) ≤ (bl : Int) := by omega
              have q9 : 0 ≤ (sf : Int) := by omega
              have HWR := Lib.hid (show IntKind.i64.wrap ((bl : Int) - (sf : Int)) = (bl : Int) - (sf : Int) by rw [IntKind.wrap_i64]; omega)
              clear hfx hT hu ha hx hmp hq hcell4 r hpick hcut hsto
              go_wp2
              go_region_law (first
                | (go_simp; go_at_call 44; rw [HWR.out]; refine HPICK.out.mono ?_; rintro e wp ⟨rfl, h1, h2⟩; have HX := Lib.hid (HCUT.out wp h1 h2); clear h1 h2)
                | (go_simp; go_at_call 48; refine HX.out.mono ?_; rintro e wc ⟨rfl, h1⟩; obtain ⟨s1, s2, s3, A5, c5', s4⟩ := HSTO.out wc h1; have HS1 := Lib.hid s1; clear h1 s1))
              all_goals
                have p1 : 0 ≤ us + ((sf : Int) + (kk : Int)) := by omega
                have p2 : us + ((sf : Int) + (kk : Int)) ≤ 9223372036854775807 := by omega
                go_wp2
                go_region
                go_wp2
                go_roundw
                case rel =>
                  refine ⟨k + 1, by omega, by go_num, ?_⟩
                  have h9 := HS1.out
                  rw [← HU.out, ← HSN3.out] at h9
                  exact Lib.hid h9
                case measure => simp [intOf]; omega
            · obtain rfl : k = K := by omega
              go_wp2
              go_roundw
              case rel =>
                refine ⟨i + 1, by omega, by go_num, Lib.hid ⟨m + k, by rw [lim_succ]; omega, ?_⟩⟩
                have h9 := HT.out.rebase HC34.out
                rw [List.take_of_length_le (by rw [HKL.out]; omega), ← HSTI.out, ← HES.out, ← HSN.out] at h9
                exact h9
              case measure => simp [intOf]; omega
        · obtain rfl : i = j := by omega
          go_wp2
          go_ret
          have h9 := HS2.out
          rw [List.take_of_length_le (by rw [HN.out]; omega)] at h9
          obtain ⟨L9, r9, _⟩ := h9.rep
          refine ⟨rfl, ⟨L9, ?_⟩, ?_⟩
          · show RepL Kp B f L9 (crashS s ps) wr
            rw [HCR.out]
            exact r9
          · have hb0 := HCH.out.toTurn (Kp := Kp) (B := B) (fun k _ e => e ▸ HFF.out) hBw
            have hb1 := hb0.trans (Turn.of H2.out (by have := HSW.out; omega))
            have hb2 := hb1.trans (HC23.out.toTurn (Kp := Kp) (B := B) (fun k _ e => e.elim (fun e => e ▸ HPP.out) (fun ⟨n, hn, e⟩ => HR.out.lowBase hn k e)) (by have := H2.out.size; have := HSW.out; omega))
            exact hb2.trans (h9.ch.toTurn (Kp := Kp) (B := B) (fun k _ e => e.elim (fun e => e ▸ HPP.out) (fun e => e.elim (fun e => e ▸ HFF.out) (fun ⟨q, hq⟩ => HR.out.lowX hq))) hB3)
end Go.Proofs.YtnkhgajghfonhaaGreatDoor
