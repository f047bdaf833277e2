/- Several texts in one: FsSteps, FsSteps2, FsSteps3. -/
import Derived.Test.YtkcnmajjfljilaaGreatDoorFsFind
import Derived.Deep.RegionLaw
/- simfs: what the steps do, once they are done. -/
namespace Go.Proofs.YtkcnmajjfljilaaGreatDoor
open Go.ChangeShapes Go.WideShapes Go.ChangeAt Go.RowKit Go.ChangeMaps Go.MapKept
open Go.Lib (byteCells byteCells_length byteCells_append strCells)
set_option linter.unusedVariables false

def stepped (s : Fs) : Fs := { s with steps := s.steps + 1, fuse := if s.fuse = -1 then -1 else s.fuse - 1 }
def outed (s : Fs) : Fs := { s with on := false }
theorem step_any {Kp : Nat → Prop} {B f : Nat} {L : Lay} {s : Fs} {w : World} (h : RepL Kp B f L s w) (hs : 0 ≤ s.steps ∧ s.steps < 1000000000) (hfu : -1 ≤ s.fuse ∧ s.fuse ≤ 9223372036854775807) {R : World → Prop} (g : FuncId) (lb : Array Value) (eg : Enters Tryz.prog g)
    (hdo : ∀ w1, RepL Kp B f L (stepped s) w1 → Ch (· = f) w w1 → Calls Tryz.prog g lb w1 fun e w' => e = .returned (.tuple #[]) ∧ R w') :
    Calls Tryz.prog 70 #[.pointer (some ⟨f, 0, none⟩), .func (.func g) #[] lb] w fun e w' => ∃ E : Int, e = .returned (.int .i64 E) ∧ ((s.fuse = 0 ∧ E = 60 ∧ RepL Kp B f L (outed s) w' ∧ Ch (· = f) w w') ∨ (s.fuse ≠ 0 ∧ E = 0 ∧ R w')) := by
  by_cases h0 : s.fuse = 0
  · have hf := h.fs
    rw [h0] at hf
    refine (step_out (.func (.func g) #[] lb) hf).mono fun e w' ⟨he, hf', hch⟩ => ⟨60, he, .inl ⟨h0, rfl, ?_, hch⟩⟩
    have := h.fsOnly hch hf'
    unfold outed
    rw [← h0] at this
    exact this
  · refine (step_done (R := R) g lb eg h.fs h0 hs hfu fun w1 hf1 hch => hdo w1 (h.fsOnly hch hf1) hch).mono fun e w' ⟨he, hr⟩ => ⟨0, he, .inr ⟨h0, rfl, hr⟩⟩

set_option maxHeartbeats 4000000 in
theorem sync1_any {Kp : Nat → Prop} {B f : Nat} {L : Lay} {s : Fs} {w : World} (h : RepL Kp B f L s w) (b1 x : Nat) (h1 : Cells w b1 #[adr x] 124) (b : List UInt8) (sf : Nat) (hx : s.file x = some (b, sf)) (hBw : B ≤ w.heap.size) :
    Calls Tryz.prog 73 #[adr b1] w fun e w' => e = .returned (.tuple #[]) ∧ ∃ L', RepL Kp B f L' { s with file := upd s.file x (some (b, b.length)) } w' ∧ Ch (· = x) w w' := by
  have hf := h.file x b sf hx
  have c1 : w.cell? ⟨b1, 0, none⟩ = some (.pointer (some ⟨x, 0, none⟩)) := h1.cell 0
  have x0 : w.cell? ⟨x, 0, none⟩ = some (.slice (L.fa x) b.length (L.fc x)) := hf.cells.cell 0
  have x1 := hf.cells.frozen 1
  have x2 : w.cell? ⟨x, 1, none⟩ = some (.int .i64 (sf : Int)) := hf.cells.cell 1
  have HF := Lib.hid hf
  have H := Lib.hid h
  have HX := Lib.hid hx
  clear hf h h1 hx
  unfold adr
  go_enter Tryz.func73, Tryz.ntmps73
  go_wp2
  go_region
  go_end0
  have hch : Ch (· = x) w (w.setCell ⟨x, 1, none⟩ (.int .i64 (b.length : Int))).drew := ((Ch.refl (· = x) w).set (p := ⟨x, 1, none⟩) (.inl rfl) _).drew
  have hne : ¬ f = x := fun e => H.out.fs.ne HF.out.cells (by decide) e
  have hf2 : FsAt (w.setCell ⟨x, 1, none⟩ (.int .i64 (b.length : Int))).drew f L.M s.room s.used s.steps s.fuse s.on := H.out.fs.ch hch hne
  refine ⟨rfl, _, H.out.fileOnly (x := x) (A := L.fa x) (c := L.fc x) (b := b) (sf := b.length) (fun b0 s0 hx0 k hk => ?_) (fun hx0 => by rw [HX.out] at hx0; cases hx0) (hch.mono fun k _ e => .inr (.inl e)) hBw ⟨HF.out.cells.set 1 _, own_ch HF.out.row hch fun r hr e => ?_⟩ hf2, hch⟩
  · rw [HX.out] at hx0; injection hx0 with hx0; injection hx0 with h1 h2; subst h1
    exact .inl hk
  · obtain ⟨d, hd, _⟩ := HF.out.blk hr
    exact hd.ne HF.out.cells (by decide) e

/-- 'append' of bytes that lie somewhere, as one step of a region that draws. -/
theorem step_append_mem {ops : Array Oper} {o : Oper} {a : Act} {w : World} {K : Act → World → Prop} {Q : Exit → Act → World → Prop} {E : Prop}
    (hg : o.guard = none) (s x : Operand) (hop : o.op = Op.call { callee := Callee.builtin Builtin.append, args := #[s, x], argTypes := #[30, 30] })
    (B : Nat) (A : Option Addr) (n c : Nat) (bs : List UInt8) (hs : a.eval s = .slice A n c) (hb : w.ownsRow B 5 1 (.slice A n c) n (byteCells bs)) (hbl : n = bs.length) (hBw : B ≤ w.heap.size)
    (B2 : Nat) (a2 : Addr) (n2 c2 : Nat) (news : List UInt8) (hx : a.eval x = .slice (some a2) n2 c2) (hb2 : BytesAt w B2 (some a2) news) (hn2 : n2 = news.length) (hlen : bs.length + news.length ≤ 1099511627776)
    (hK : ∀ A' c' w', w'.ownsRow B 5 1 (.slice A' (n + n2) c') (n + n2) (byteCells (bs ++ news)) → w.grownBy w' (Value.slice A n c).ownBlock → (∀ k, (Value.slice A' (n + n2) c').ownBlock = some k → (Value.slice A n c).ownBlock = some k ∨ w.heap.size ≤ k) → K (a.put o.dst (.slice A' (n + n2) c')) w') :
    if Region.wanted o (yielded ops a.tmps) = true then Oper.wp Tryz.prog o a w K Q else E := by
  have hw : Region.wanted o (yielded ops a.tmps) = true := by simp [Region.wanted, hg]
  rw [if_pos hw]
  obtain ⟨i0, hi, hz0, hz1, hz2⟩ := info_parts infoByte
  subst hn2
  obtain ⟨v', w', hrun, r1, r2, _, r4⟩ := run_append_own_at (P := Tryz.prog) (w := w) B 30 o.type 5 i0 _ 1 1 Tryz.underlying30 hi hz0 hz1 hz2 rfl (by decide) (.slice A n c) n (byteCells bs) hb a2 news.length c2 (byteCells news)
    (by rw [byteCells_length, Nat.mul_one]) hb2.some_ (byte_one _) (by unfold maxLen; omega) (by omega) hBw
  obtain ⟨A', c', rfl⟩ := own_slice r1
  unfold Oper.wp
  simp [execOp, hop, resolve, invoke, builtin, hs, hx, hrun, Result.andThen]
  refine hK A' c' w' (by rw [byteCells_append]; exact r1) r2 fun k hk => ?_
  rcases r4 with h | h
  · exact .inl (h ▸ hk)
  · rw [h] at hk; injection hk with hk; exact .inr (by omega)
theorem grown_drew {w w' : World} {r : Option Nat} (h : w.drew.grownBy w' r) : w.grownBy w' r := ⟨h.os, h.tape, h.output, h.size, h.block⟩
/-- The row of a file's bytes. -/
def rowOf (L : Lay) (x n : Nat) : Nat → Prop := fun i => (Value.slice (L.fa x) n (L.fc x)).ownBlock = some i
theorem append1_end {Kp : Nat → Prop} {B f : Nat} {L : Lay} {s : Fs} {w w4 : World} (h : RepL Kp B f L s w) {x m n c4 : Nat} {A4 : Option Addr} {b news : List UInt8} {sf : Nat} (hx : s.file x = some (b, sf)) (hm : b.length = m) (hn : n = news.length) (hBw : B ≤ w.heap.size)
    (hg0 : w.drew.grownBy w4 (Value.slice (L.fa x) m (L.fc x)).ownBlock) (ho : w4.ownsRow B 5 1 (.slice A4 (m + n) c4) (m + n) (byteCells (b ++ news)))
    (ha : ∀ k, (Value.slice A4 (m + n) c4).ownBlock = some k → (Value.slice (L.fa x) m (L.fc x)).ownBlock = some k ∨ w.drew.heap.size ≤ k) (hx4 : Cells w4 x (fileCells (L.fa x) b.length (L.fc x) sf) 128) (hf4 : FsAt w4 f L.M s.room s.used s.steps s.fuse s.on) :
    ∃ L', RepL Kp B f L' { s with used := s.used + n, file := upd s.file x (some (b ++ news, sf)) } ((w4.setCell ⟨x, 0, none⟩ (.slice A4 (m + n) c4)).setCell ⟨f, 2, none⟩ (.int .i64 (s.used + n))).drew ∧
      Ch (fun i => i = f ∨ i = x ∨ rowOf L x b.length i) w ((w4.setCell ⟨x, 0, none⟩ (.slice A4 (m + n) c4)).setCell ⟨f, 2, none⟩ (.int .i64 (s.used + n))).drew := by
  subst hm
  have hg := grown_drew hg0
  have hf := h.file x b sf hx
  have hfx : f ≠ x := fun e => h.fs.ne hf.cells (by decide) e
  have hlen : (b ++ news).length = b.length + n := by rw [List.length_append, hn]
  have hch : Ch (fun i => i = f ∨ i = x ∨ rowOf L x b.length i) w ((w4.setCell ⟨x, 0, none⟩ (.slice A4 (b.length + n) c4)).setCell ⟨f, 2, none⟩ (.int .i64 (s.used + n))).drew :=
    (((((Ch.refl (fun i => i = f ∨ i = x ∨ rowOf L x b.length i) w).grown hg fun k hk => .inl (.inr (.inr hk))).set (p := ⟨x, 0, none⟩) (.inl (.inr (.inl rfl))) _).set (p := ⟨f, 2, none⟩) (.inl (.inl rfl)) _)).drew
  have hch2 : Ch (fun i => i = x ∨ i = f) w4 ((w4.setCell ⟨x, 0, none⟩ (.slice A4 (b.length + n) c4)).setCell ⟨f, 2, none⟩ (.int .i64 (s.used + n))).drew :=
    (((Ch.refl (fun i => i = x ∨ i = f) w4).set (p := ⟨x, 0, none⟩) (.inl (.inl rfl)) _).set (p := ⟨f, 2, none⟩) (.inl (.inr rfl)) _).drew
  refine ⟨_, h.fileOnly (x := x) (A := A4) (c := c4) (b := b ++ news) (sf := sf) (fun b0 s0 hx0 k hk => ?_) (fun hx0 => by rw [hx] at hx0; cases hx0) (hch.mono fun k _ e => ?_) hBw ⟨?_, ?_⟩ ?_, hch⟩
  · rw [hx] at hx0; injection hx0 with hx0; injection hx0 with h1 h2; subst h1
    rw [hlen] at hk
    exact ha k hk
  · rcases e with e | e | e
    · exact .inl e
    · exact .inr (.inl e)
    · exact .inr (.inr ⟨b, sf, hx, e⟩)
  · rw [hlen]
    exact ((hx4.set 0 _).set_other (p := ⟨f, 2, none⟩) (fun e => hfx e.symm) _)
  · rw [hlen]
    refine own_ch ho hch2 fun k hk e => ?_
    obtain ⟨d, hd, _⟩ := own_cells ho hk
    rcases e with e | e
    · exact hd.ne hx4 (by decide) e
    · exact hd.ne hf4 (by decide) e
  · exact ((hf4.set_other (p := ⟨x, 0, none⟩) hfx _).set 2 _)
set_option maxHeartbeats 8000000 in
theorem append1_any {Kp : Nat → Prop} {B f : Nat} {L : Lay} {s : Fs} {w : World} (h : RepL Kp B f L s w) (b1 b2 b3 x : Nat) (B2 n c : Nat) (a : Addr) (news : List UInt8) (h1 : Cells w b1 #[adr x] 124) (h2 : Cells w b2 #[.slice (some a) n c] 30) (h3 : Cells w b3 #[adr f] 32)
    (hsrc : BytesAt w B2 (some a) news) (hn : n = news.length) (b : List UInt8) (sf : Nat) (hx : s.file x = some (b, sf)) (hBw : B ≤ w.heap.size) (hlen : b.length + n ≤ 1099511627776) (hu : -1152921504606846976 ≤ s.used ∧ s.used ≤ 1152921504606846976) :
    Calls Tryz.prog 71 #[adr b1, adr b2, adr b3] w fun e w' => e = .returned (.tuple #[]) ∧ ∃ L', RepL Kp B f L' { s with used := s.used + n, file := upd s.file x (some (b ++ news, sf)) } w' ∧ Ch (fun i => i = f ∨ i = x ∨ rowOf L x b.length i) w w' := by
  have hf := h.file x b sf hx
  have c1 : w.cell? ⟨b1, 0, none⟩ = some (.pointer (some ⟨x, 0, none⟩)) := h1.cell 0
  have c2 : w.cell? ⟨b2, 0, none⟩ = some (.slice (some a) n c) := h2.cell 0
  have c3 : w.cell? ⟨b3, 0, none⟩ = some (.pointer (some ⟨f, 0, none⟩)) := h3.cell 0
  have x0 : w.cell? ⟨x, 0, none⟩ = some (.slice (L.fa x) b.length (L.fc x)) := hf.cells.cell 0
  have hfx : ¬ f = x := fun e => h.fs.ne hf.cells (by decide) e
  have hrow : ∀ k, rowOf L x b.length k → ∃ d, Cells w k d 5 ∧ B ≤ k := fun k hk => hf.blk hk
  have kx : ∀ k, rowOf L x b.length k → k ≠ x := fun k hk e => by obtain ⟨d, hd, _⟩ := hrow k hk; exact hd.ne hf.cells (by decide) e
  have kf : ∀ k, rowOf L x b.length k → k ≠ f := fun k hk e => by obtain ⟨d, hd, _⟩ := hrow k hk; exact hd.ne h.fs (by decide) e
  have hk1 : ¬ (rowOf L x b.length b1) := fun hk => by obtain ⟨d, hd, _⟩ := hrow b1 hk; exact hd.ne h1 (by decide) rfl
  have hk2 : ¬ (rowOf L x b.length b2) := fun hk => by obtain ⟨d, hd, _⟩ := hrow b2 hk; exact hd.ne h2 (by decide) rfl
  have hk3 : ¬ (rowOf L x b.length b3) := fun hk => by obtain ⟨d, hd, _⟩ := hrow b3 hk; exact hd.ne h3 (by decide) rfl
  have hb1x : b1 ≠ x := fun e => h1.ne hf.cells (by decide) e
  have hb2x : b2 ≠ x := fun e => h2.ne hf.cells (by decide) e
  have hb3x : b3 ≠ x := fun e => h3.ne hf.cells (by decide) e
  obtain ⟨m, hm⟩ : ∃ m, b.length = m := ⟨_, rfl⟩
  have HK := Lib.hid (fun w4 (hg0 : w.drew.grownBy w4 (Value.slice (L.fa x) m (L.fc x)).ownBlock) =>
    have hg : w.grownBy w4 (Value.slice (L.fa x) b.length (L.fc x)).ownBlock := grown_drew (by rw [hm]; exact hg0)
    have hx4 := hf.cells.grown hg (fun e => (kx x e.symm) rfl)
    (⟨h1.grown hg (fun e => hk1 e.symm), h2.grown hg (fun e => hk2 e.symm), h3.grown hg (fun e => hk3 e.symm), hx4, h.fs.grown hg (fun e => (kf f e.symm) rfl), hm ▸ hx4.cell 0⟩ :
      Cells w4 b1 #[adr x] 124 ∧ Cells w4 b2 #[.slice (some a) n c] 30 ∧ Cells w4 b3 #[adr f] 32 ∧ Cells w4 x (fileCells (L.fa x) b.length (L.fc x) sf) 128 ∧ FsAt w4 f L.M s.room s.used s.steps s.fuse s.on ∧ w4.cell? ⟨x, 0, none⟩ = some (.slice (L.fa x) m (L.fc x))))
  have HF := Lib.hid hf
  have H := Lib.hid h
  have HX := Lib.hid hx
  have HS := Lib.hid (show BytesAt w.drew B2 (some a) news from hsrc)
  have HN := Lib.hid hn
  have HB1 := Lib.hid hb1x
  have HB2 := Lib.hid hb2x
  have HB3 := Lib.hid hb3x
  have HFX := Lib.hid hfx
  have HKX := Lib.hid kx
  have HKF := Lib.hid kf
  have hl2 : Hid (b.length + news.length ≤ 1099511627776) := Lib.hid (by omega)
  have hns : 0 ≤ (n : Int) := by omega
  have hnm : (n : Int) ≤ 1099511627776 := by omega
  obtain ⟨hu0, hu1⟩ := hu
  have HM := Lib.hid hm
  have hrow0 := Lib.hid (show w.drew.ownsRow B 5 1 (.slice (L.fa x) m (L.fc x)) m (byteCells b) by rw [← hm]; exact hf.row)
  have hBw2 : Hid (B ≤ w.drew.heap.size) := Lib.hid hBw
  rw [hm] at x0
  clear hn hf h h1 h2 h3 hx hsrc hrow kx kf hk1 hk2 hk3 hb1x hb2x hb3x hfx hm
  unfold adr
  go_enter Tryz.func71, Tryz.ntmps71
  go_wp2
  go_region_law (first | (refine step_append_mem rfl _ _ rfl B (L.fa x) m (L.fc x) b rfl hrow0.out HM.out.symm hBw2.out B2 a n c news rfl HS.out HN.out hl2.out ?_; intro A4 n4 w4 ho4 hg4 ha4; have HO4 := Lib.hid ho4; have HG4 := Lib.hid hg4; have HA4 := Lib.hid ha4; have HK4 := Lib.hid (HK.out w4 hg4); have y1 : w4.cell? ⟨b1, 0, none⟩ = some (.pointer (some ⟨x, 0, none⟩)) := HK4.out.1.cell 0; have y2 : w4.cell? ⟨b2, 0, none⟩ = some (.slice (some a) n c) := HK4.out.2.1.cell 0; have y3 : w4.cell? ⟨b3, 0, none⟩ = some (.pointer (some ⟨f, 0, none⟩)) := HK4.out.2.2.1.cell 0; have x4 := HK4.out.2.2.2.2.2; have xf4 := HK4.out.2.2.2.1.frozen 0; clear ho4 hg4 ha4))
  all_goals
    have z2 : w4.cell? ⟨f, 2, none⟩ = some (.int .i64 s.used) := HK4.out.2.2.2.2.1.cell 2
    have z3 := HK4.out.2.2.2.2.1.frozen 2
    have q1 := HB1.out
    have q2 := HB2.out
    have q3 := HB3.out
    have q4 := HFX.out
    have q5 : ¬ x = f := fun e => HFX.out e.symm
    go_wp2
    go_region
    go_end0
    exact ⟨rfl, append1_end H.out HX.out HM.out HN.out hBw HG4.out HO4.out HA4.out HK4.out.2.2.2.1 HK4.out.2.2.2.2.1⟩
end Go.Proofs.YtkcnmajjfljilaaGreatDoor

/- simfs: what the steps do to a directory. -/
namespace Go.Proofs.YtkcnmajjfljilaaGreatDoor
open Go.ChangeShapes Go.WideShapes Go.ChangeAt Go.RowKit Go.ChangeMaps Go.MapKept
open Go.Lib (byteCells byteCells_length byteCells_append strCells)
set_option linter.unusedVariables false

/-- Fewer files. -/
theorem RepL.less {Kp : Nat → Prop} {B f : Nat} {L : Lay} {s : Fs} {w : World} (h : RepL Kp B f L s w) (g : Nat → Option (List UInt8 × Nat)) (hg : ∀ x p, g x = some p → s.file x = some p) : RepL Kp B f L { s with file := g } w :=
  { fs := h.fs, top := h.top, dir := h.dir, base := h.base, now := h.now, pend := h.pend, file := fun x b sf hx => h.file x b sf (hg x _ hx), low := h.low, lowd := h.lowd, lowf := fun x b sf hx => h.lowf x b sf (hg x _ hx), own := h.own, sep := h.sep
    fsep := fun x y bx sx b_y sy hx hy => h.fsep x y bx sx b_y sy (hg x _ hx) (hg y _ hy)
    kold := h.kold, kf := h.kf, kd := h.kd, kx := fun x b sf hx => h.kx x b sf (hg x _ hx) }
/-- The blocks of a directory that its operations turn. -/
def dirOf (L : Lay) (n : Nm) : Nat → Prop := fun i => i = L.blk n ∨ i = L.nw n ∨ (L.pv n).ownBlock = some i
def didDir (d : Dir) (o : FOp) : Dir := { d with now := o.on d.now, pend := d.pend ++ [o] }
theorem do_rep {Kp : Nat → Prop} {B f : Nat} {L : Lay} {s : Fs} {w : World} (h : RepL Kp B f L s w) (n : Nm) (hn : n ∈ s.names) (fv : Value) (o : FOp) (ho : OpAt Kp w fv o) (hBw : B ≤ w.heap.size) (hl : (s.dir n).now.length ≤ 1000000) (hp : (s.dir n).pend.length ≤ 1000000) :
    Calls Tryz.prog 99 #[.pointer (some ⟨L.blk n, 0, none⟩), fv] w fun e w' => e = .returned (.tuple #[]) ∧ ∃ L', RepL Kp B f L' { s with dir := upd s.dir n (didDir (s.dir n) o) } w' ∧ Ch (dirOf L n) w w' := by
  refine (do_any B (L.blk n) (L.bs n) (L.nw n) (L.pv n) fv (s.dir n).now (s.dir n).pend o w hBw (h.dir n hn) (h.now n hn) (h.pend n hn) ho hl hp).mono fun e w' ⟨he, v', hd⟩ => ⟨he, ?_⟩
  have hne : ¬ (f = L.blk n ∨ f = L.nw n ∨ (L.pv n).ownBlock = some f) := by
    rintro (e | e | e)
    · exact h.fs.ne (e ▸ h.dir n hn) (by decide) rfl
    · exact (e ▸ h.now n hn : MapAt w f _).ne h.fs rfl
    · obtain ⟨d, hd, _⟩ := (h.pend n hn).row e; exact hd.ne h.fs (by decide) rfl
  have hnb : ¬ (L.bs n = L.blk n ∨ L.bs n = L.nw n ∨ (L.pv n).ownBlock = some (L.bs n)) := by
    rintro (e | e | e)
    · exact (h.base n hn).ne (h.dir n hn) e
    · exact (h.own n hn).2.2 e
    · obtain ⟨d, hd, _⟩ := (h.pend n hn).row e; exact (h.base n hn).ne hd rfl
  have := h.dirOnly hn (d' := didDir (s.dir n) o) (hd.ch.mono fun k _ e => by
    rcases e with e | e | e
    · exact .inr (.inl e)
    · exact .inr (.inr (.inr (.inl e)))
    · exact .inr (.inr (.inr (.inr e)))) hd.dir ((h.base n hn).ch hd.ch hnb) hd.map hd.pend (.inl rfl) hd.at_ hBw (h.fs.ch hd.ch hne)
  exact ⟨_, this, hd.ch⟩

theorem fs_get {Kp : Nat → Prop} {B f : Nat} {L : Lay} {s : Fs} {w : World} (h : RepL Kp B f L s w) {n : Nm} (hn : n ∈ s.names) (t : TypeId) (ht : t ≠ 146 ∧ t ≠ 204) {b : Nat} {c : Array Value} (hb : Cells w b c t) : ¬ dirOf L n b := by
  rintro (e | e | e)
  · exact hb.ne (e ▸ h.dir n hn) ht.1 rfl
  · exact (e ▸ h.now n hn : MapAt w b _).ne hb rfl
  · obtain ⟨d, hd, _⟩ := (h.pend n hn).row e; exact hb.ne hd ht.2 rfl

set_option maxHeartbeats 4000000 in
theorem create1_any {Kp : Nat → Prop} {B f : Nat} {L : Lay} {s : Fs} {w : World} (h : RepL Kp B f L s w) (n name : Nm) (hn : n ∈ s.names) (b1 b2 b3 x : Nat) (h1 : Cells w b1 #[adr (L.blk n)] 123) (h2 : Cells w b2 #[adr x] 124) (h3 : Cells w b3 #[.string (txt name)] 9)
    (hname : name.length ≤ 32) (hBw : B ≤ w.heap.size) (hl : (s.dir n).now.length ≤ 1000000) (hp : (s.dir n).pend.length ≤ 1000000) (hk : ¬ Kp b2 ∧ ¬ Kp b3) :
    Calls Tryz.prog 98 #[adr b1, adr b2, adr b3] w fun e w' => e = .returned (.tuple #[]) ∧ ∃ L', RepL Kp B f L' { s with dir := upd s.dir n (didDir (s.dir n) (.create name x)) } w' ∧ Ch (dirOf L n) w w' := by
  have c1 : w.cell? ⟨b1, 0, none⟩ = some (.pointer (some ⟨L.blk n, 0, none⟩)) := h1.cell 0
  have HD := Lib.hid (do_rep h n hn (.func (.func 100) #[] #[adr b2, adr b3]) (.create name x) ⟨b2, b3, rfl, h2, h3, hname, hk.1, hk.2⟩ hBw hl hp)
  clear h h1 h2 h3
  unfold adr at *
  go_enter Tryz.func98, Tryz.ntmps98
  go_wp2_with (go_at_call 99; refine HD.out.mono ?_; rintro e w1 ⟨rfl, h1⟩; have H1 := Lib.hid h1; clear h1)
  go_end0
  exact ⟨rfl, H1.out⟩

set_option maxHeartbeats 8000000 in
theorem remove1_any {Kp : Nat → Prop} {B f : Nat} {L : Lay} {s : Fs} {w : World} (h : RepL Kp B f L s w) (n name : Nm) (hn : n ∈ s.names) (b1 b2 b3 b4 x : Nat) (h1 : Cells w b1 #[adr f] 32) (h2 : Cells w b2 #[adr x] 124) (h3 : Cells w b3 #[adr (L.blk n)] 123) (h4 : Cells w b4 #[.string (txt name)] 9)
    (b : List UInt8) (sf : Nat) (hx : s.file x = some (b, sf)) (hname : name.length ≤ 32) (hBw : B ≤ w.heap.size) (hl : (s.dir n).now.length ≤ 1000000) (hp : (s.dir n).pend.length ≤ 1000000) (hu : -1152921504606846976 ≤ s.used ∧ s.used ≤ 1152921504606846976) (hbl : b.length ≤ 1099511627776) (hk : ¬ Kp b4) :
    Calls Tryz.prog 133 #[adr b1, adr b2, adr b3, adr b4] w fun e w' => e = .returned (.tuple #[]) ∧ ∃ L', RepL Kp B f L' { s with used := s.used - b.length, dir := upd s.dir n (didDir (s.dir n) (.remove name)) } w' ∧ Ch (fun i => i = f ∨ dirOf L n i) w w' := by
  have hf := h.file x b sf hx
  have c1 : w.cell? ⟨b1, 0, none⟩ = some (.pointer (some ⟨f, 0, none⟩)) := h1.cell 0
  have c2 : w.cell? ⟨b2, 0, none⟩ = some (.pointer (some ⟨x, 0, none⟩)) := h2.cell 0
  have c3 : w.cell? ⟨b3, 0, none⟩ = some (.pointer (some ⟨L.blk n, 0, none⟩)) := h3.cell 0
  have x0 : w.cell? ⟨x, 0, none⟩ = some (.slice (L.fa x) b.length (L.fc x)) := hf.cells.cell 0
  have f2 : w.cell? ⟨f, 2, none⟩ = some (.int .i64 s.used) := h.fs.cell 2
  have ff2 := h.fs.frozen 2
  have hb1 : ¬ b1 = f := fun e => h1.ne h.fs (by decide) e
  have hb2 : ¬ b2 = f := fun e => h2.ne h.fs (by decide) e
  have hb3 : ¬ b3 = f := fun e => h3.ne h.fs (by decide) e
  have hb4 : ¬ b4 = f := fun e => h4.ne h.fs (by decide) e
  have hxf : ¬ x = f := fun e => hf.cells.ne h.fs (by decide) e
  obtain ⟨hu0, hu1⟩ := hu
  have HD := Lib.hid (fun w1 (hch : Ch (· = f) w w1) (hf1 : FsAt w1 f L.M s.room (s.used - b.length) s.steps s.fuse s.on) =>
    do_rep (h.fsOnly hch hf1) n hn (.func (.func 134) #[] #[adr b4]) (.remove name) ⟨b4, rfl, h4.ch hch hb4, hname, hk⟩ (Nat.le_trans hBw hch.size) hl hp)
  have HF := Lib.hid h.fs
  have hbn : 0 ≤ (b.length : Int) := by omega
  have hbm : (b.length : Int) ≤ 1099511627776 := by omega
  clear h h1 h2 h3 h4 hf hx hb4
  unfold adr at *
  go_enter Tryz.func133, Tryz.ntmps133
  go_wp2
  go_region
  have HC := Lib.hid (show Ch (· = f) w (w.setCell ⟨f, 2, none⟩ (.int .i64 (s.used - b.length))).drew from ((Ch.refl (· = f) w).set (p := ⟨f, 2, none⟩) (.inl rfl) _).drew)
  have HD2 := Lib.hid (HD.out _ HC.out (HF.out.set 2 _))
  clear HD
  go_wp2_with (go_at_call 99; refine HD2.out.mono ?_; rintro e w1 ⟨rfl, L', h1, h2⟩; have H1 := Lib.hid h1; have H2 := Lib.hid h2; clear h1 h2)
  go_end0
  refine ⟨rfl, L', H1.out, (HC.out.mono fun k _ e => .inl e).then_ H2.out fun i _ e => .inr e⟩

set_option maxHeartbeats 8000000 in
theorem rename1_any {Kp : Nat → Prop} {B f : Nat} {L : Lay} {s : Fs} {w : World} (h : RepL Kp B f L s w) (n a b : Nm) (hn : n ∈ s.names) (b1 b2 b3 b4 b5 b6 x : Nat) (g : Int) (h1 : Cells w b1 #[adr f] 32) (h2 : Cells w b2 #[.int .i64 g] 3) (h3 : Cells w b3 #[adr (L.blk n)] 123)
    (h4 : Cells w b4 #[.string (txt a)] 9) (h5 : Cells w b5 #[adr x] 124) (h6 : Cells w b6 #[.string (txt b)] 9)
    (ha : a.length ≤ 32) (hb : b.length ≤ 32) (hBw : B ≤ w.heap.size) (hl : (s.dir n).now.length ≤ 1000000) (hp : (s.dir n).pend.length ≤ 1000000) (hu : -1152921504606846976 ≤ s.used ∧ s.used ≤ 1152921504606846976) (hg : 0 ≤ g ∧ g ≤ 1099511627776) (hk : ¬ Kp b4 ∧ ¬ Kp b5 ∧ ¬ Kp b6) :
    Calls Tryz.prog 176 #[adr b1, adr b2, adr b3, adr b4, adr b5, adr b6] w fun e w' => e = .returned (.tuple #[]) ∧ ∃ L', RepL Kp B f L' { s with used := s.used - g, dir := upd s.dir n (didDir (s.dir n) (.rename a b x)) } w' ∧ Ch (fun i => i = f ∨ dirOf L n i) w w' := by
  have c1 : w.cell? ⟨b1, 0, none⟩ = some (.pointer (some ⟨f, 0, none⟩)) := h1.cell 0
  have c2 : w.cell? ⟨b2, 0, none⟩ = some (.int .i64 g) := h2.cell 0
  have c3 : w.cell? ⟨b3, 0, none⟩ = some (.pointer (some ⟨L.blk n, 0, none⟩)) := h3.cell 0
  have f2 : w.cell? ⟨f, 2, none⟩ = some (.int .i64 s.used) := h.fs.cell 2
  have ff2 := h.fs.frozen 2
  have hb1 : ¬ b1 = f := fun e => h1.ne h.fs (by decide) e
  have hb2 : ¬ b2 = f := fun e => h2.ne h.fs (by decide) e
  have hb3 : ¬ b3 = f := fun e => h3.ne h.fs (by decide) e
  have hb4 : ¬ b4 = f := fun e => h4.ne h.fs (by decide) e
  have hb5 : ¬ b5 = f := fun e => h5.ne h.fs (by decide) e
  have hb6 : ¬ b6 = f := fun e => h6.ne h.fs (by decide) e
  obtain ⟨hu0, hu1⟩ := hu
  obtain ⟨hg0, hg1⟩ := hg
  have HD := Lib.hid (fun w1 (hch : Ch (· = f) w w1) (hf1 : FsAt w1 f L.M s.room (s.used - g) s.steps s.fuse s.on) =>
    do_rep (h.fsOnly hch hf1) n hn (.func (.func 177) #[] #[adr b4, adr b5, adr b6]) (.rename a b x) ⟨b4, b5, b6, rfl, h4.ch hch hb4, h5.ch hch hb5, h6.ch hch hb6, ha, hb, hk.1, hk.2.1, hk.2.2⟩ (Nat.le_trans hBw hch.size) hl hp)
  have HF := Lib.hid h.fs
  clear h h1 h2 h3 h4 h5 h6 hb4 hb5 hb6
  unfold adr at *
  go_enter Tryz.func176, Tryz.ntmps176
  go_wp2
  go_region
  have HC := Lib.hid (show Ch (· = f) w (w.setCell ⟨f, 2, none⟩ (.int .i64 (s.used - g))).drew from ((Ch.refl (· = f) w).set (p := ⟨f, 2, none⟩) (.inl rfl) _).drew)
  have HD2 := Lib.hid (HD.out _ HC.out (HF.out.set 2 _))
  clear HD
  go_wp2_with (go_at_call 99; refine HD2.out.mono ?_; rintro e w1 ⟨rfl, L', h1, h2⟩; have H1 := Lib.hid h1; have H2 := Lib.hid h2; clear h1 h2)
  go_end0
  refine ⟨rfl, L', H1.out, (HC.out.mono fun k _ e => .inl e).then_ H2.out fun i _ e => .inr e⟩
/-- Settling, of a file system. -/
def settledDir (d : Dir) (k : Nat) : Dir := ⟨replay (d.pend.take k) d.base, replay (d.pend.take k) d.base, []⟩
def baseOf (L : Lay) (n : Nm) : Nat → Prop := fun i => i = L.blk n ∨ i = L.bs n
theorem settle_rep {Kp : Nat → Prop} {B f : Nat} {L : Lay} {s : Fs} {w : World} (h : RepL Kp B f L s w) (n : Nm) (hn : n ∈ s.names) (k : Nat) (hk : k ≤ (s.dir n).pend.length) (hlen : (s.dir n).base.length + (s.dir n).pend.length ≤ 1000000) (hnow : (s.dir n).now = replay (s.dir n).pend (s.dir n).base) (hBw : B ≤ w.heap.size) :
    Calls Tryz.prog 102 #[.pointer (some ⟨L.blk n, 0, none⟩), .int .i64 (k : Int)] w fun e w' => e = .returned (.tuple #[]) ∧ ∃ L', RepL Kp B f L' { s with dir := upd s.dir n (settledDir (s.dir n) k) } w' ∧ Ch (baseOf L n) w w' ∧ L'.M = L.M ∧ L'.blk = L.blk ∧ L'.bs = L.bs := by
  refine (settle_any B (L.blk n) (L.bs n) (L.nw n) k (L.pv n) (s.dir n).pend (s.dir n).base (s.dir n).now w (h.dir n hn) (h.base n hn) (h.now n hn) (h.own n hn).2.2 (h.pend n hn) hk hlen (fun _ => hnow.symm)).mono fun e w' ⟨he, nb', hs⟩ => ⟨he, ?_⟩
  have hne : ¬ (f = L.blk n ∨ f = L.bs n) := by
    rintro (e | e)
    · exact h.fs.ne (e ▸ h.dir n hn) (by decide) rfl
    · exact (e ▸ h.base n hn : MapAt w f _).ne h.fs rfl
  have := h.dirOnly hn (d' := settledDir (s.dir n) k) (hs.ch.mono fun k _ e => by
    rcases e with e | e
    · exact .inr (.inl e)
    · exact .inr (.inr (.inl e))) hs.dir hs.base hs.now ⟨[], World.ownsRow_nil _ _ _ 1, trivial⟩ hs.at_ (fun k hk => by simp [Value.ownBlock] at hk) hBw (h.fs.ch hs.ch hne)
  exact ⟨_, this, hs.ch, rfl, rfl, rfl⟩
end Go.Proofs.YtkcnmajjfljilaaGreatDoor

/- simfs: SyncDir's step, Mkdir's step. -/
namespace Go.Proofs.YtkcnmajjfljilaaGreatDoor
open Go.ChangeShapes Go.WideShapes Go.ChangeAt Go.RowKit Go.ChangeMaps Go.MapKept
set_option linter.unusedVariables false

theorem pend_slice {Kp : Nat → Prop} {B : Nat} {w : World} {v : Value} {os : List FOp} (h : PendAt Kp B w v os) : ∃ A c, v = .slice A os.length c := by
  obtain ⟨vs, hrow, _⟩ := h
  exact own_slice hrow
theorem RepL.drew {Kp : Nat → Prop} {B f : Nat} {L : Lay} {s : Fs} {w : World} (h : RepL Kp B f L s w) : RepL Kp B f L s w.drew := h.quiet ((Ch.refl _ w).drew)
set_option maxHeartbeats 4000000 in
theorem syncDir1_any {Kp : Nat → Prop} {B f : Nat} {L : Lay} {s : Fs} {w : World} (h : RepL Kp B f L s w) (n : Nm) (hn : n ∈ s.names) (b1 : Nat) (h1 : Cells w b1 #[adr (L.blk n)] 123) (hlen : (s.dir n).base.length + (s.dir n).pend.length ≤ 1000000) (hnow : (s.dir n).now = replay (s.dir n).pend (s.dir n).base) (hBw : B ≤ w.heap.size) :
    Calls Tryz.prog 101 #[adr b1] w fun e w' => e = .returned (.tuple #[]) ∧ ∃ L', RepL Kp B f L' { s with dir := upd s.dir n (settledDir (s.dir n) (s.dir n).pend.length) } w' ∧ Ch (baseOf L n) w w' := by
  have c1 : w.cell? ⟨b1, 0, none⟩ = some (.pointer (some ⟨L.blk n, 0, none⟩)) := h1.cell 0
  obtain ⟨A, c, hv⟩ := pend_slice (h.pend n hn)
  have d2 : w.cell? ⟨L.blk n, 2, none⟩ = some (.slice A (s.dir n).pend.length c) := by rw [← hv]; exact (h.dir n hn).cell 2
  have HD := Lib.hid (settle_rep h.drew n hn (s.dir n).pend.length (Nat.le_refl _) hlen hnow hBw)
  clear h h1 hv
  unfold adr at *
  go_enter Tryz.func101, Tryz.ntmps101
  go_wp2
  go_region_law (go_simp; go_at_call 102; refine HD.out.mono ?_; rintro e w1 ⟨rfl, L', h1, h2, _⟩; have H1 := Lib.hid h1; have H2 := Lib.hid h2; clear h1 h2)
  all_goals
    go_end0
    exact ⟨rfl, L', H1.out, (Ch.refl _ _).drew.then_ H2.out fun i _ e => e⟩

/-- A new directory. -/
theorem newDir_any (w : World) : Calls Tryz.prog 86 #[] w fun e w' => ∃ bb nb d, e = .returned (.pointer (some ⟨d, 0, none⟩)) ∧ w.heap.size ≤ bb ∧ w.heap.size ≤ nb ∧ w.heap.size ≤ d ∧ bb ≠ nb ∧ MapAt w' bb [] ∧ MapAt w' nb [] ∧ DirAt w' d bb nb (.slice none 0 0) ∧ Ch (fun _ => False) w w' := by
  have hm := @run_makeMap Tryz.prog
  go_enter Tryz.func86, Tryz.ntmps86
  go_wp2
  go_ret
  have h1 := MapAt.made w
  have h2 := MapAt.made (w.alloc (.map #[] 0))
  refine ⟨w.heap.size, w.heap.size + 1, w.heap.size + 2, rfl, Nat.le_refl _, by omega, by omega, by omega, ?_, ?_, ?_, (((Ch.refl _ w).alloc _).alloc _).alloc _⟩
  · exact (h1.ch ((Ch.refl (fun _ => False) _).alloc _) fun h => h).ch ((Ch.refl (fun _ => False) _).alloc _) fun h => h
  · have := h2.ch ((Ch.refl (fun _ => False) _).alloc (.cells #[.map (some w.heap.size), .map (some (w.heap.size + 1)), .slice none 0 0] 146)) fun h => h
    simpa using this
  · have := Cells.new ((w.alloc (.map #[] 0)).alloc (.map #[] 0)) (dirCells w.heap.size (w.heap.size + 1) (.slice none 0 0)) 146
    have e : ((w.alloc (.map #[] 0)).alloc (.map #[] 0)).heap.size = w.heap.size + 2 := by simp
    rw [e] at this
    exact this

def mdirT : TypeId := 65
/-- A name in its place. -/
def nins (n : Nm) : List Nm → List Nm
  | [] => [n]
  | m :: r => if bytesBefore n m then n :: m :: r else m :: nins n r
theorem nins_top (L : Lay) (n : Nm) (d : Nat) (ns : List Nm) (hn : n ∉ ns) : mset (topOf L ns) n d = topOf { L with blk := upd L.blk n d } (nins n ns) := by
  have h0 : mdel (topOf L ns) n = topOf L ns := by
    unfold mdel
    rw [List.filter_eq_self]
    intro p hp
    unfold topOf at hp
    rw [List.mem_map] at hp
    obtain ⟨m, hm, rfl⟩ := hp
    have : m ≠ n := fun e => hn (e ▸ hm)
    simpa using this
  unfold mset
  rw [h0]
  clear h0
  induction ns with
  | nil => unfold topOf nins mins; simp [upd_same]
  | cons m r ih =>
    have hne : m ≠ n := fun e => hn (by rw [e]; exact List.mem_cons_self ..)
    have hr : n ∉ r := fun h => hn (List.mem_cons_of_mem _ h)
    have hcong : ∀ l : List Nm, n ∉ l → topOf { L with blk := upd L.blk n d } l = topOf L l := fun l hl => by
      unfold topOf
      refine List.map_congr_left fun x hx => ?_
      have : x ≠ n := fun e => hl (e ▸ hx)
      simp [upd_other _ _ _ _ this]
    unfold topOf at ih ⊢
    simp only [List.map_cons, mins, nins]
    by_cases hb : bytesBefore n m = true
    · rw [if_pos hb, if_pos hb]
      simp only [List.map_cons, upd_same, upd_other _ _ _ _ hne]
      have := hcong r hr
      unfold topOf at this
      rw [this]
    · rw [if_neg hb, if_neg hb]
      simp only [List.map_cons, upd_other _ _ _ _ hne]
      rw [ih hr]
theorem mem_nins {n m : Nm} {ns : List Nm} : m ∈ nins n ns ↔ m = n ∨ m ∈ ns := by
  induction ns with
  | nil => simp [nins]
  | cons y r ih =>
    unfold nins
    split
    · simp
    · rw [List.mem_cons, ih, List.mem_cons]; exact or_left_comm
/-- A directory comes. -/
theorem RepL.newDir {Kp : Nat → Prop} {B f : Nat} {L : Lay} {s : Fs} {w w' : World} (h : RepL Kp B f L s w) {n : Nm} (hn : n ∉ s.names) {bb nb d : Nat} (hbb : w.heap.size ≤ bb) (hnb : w.heap.size ≤ nb) (hd0 : w.heap.size ≤ d) (hne : bb ≠ nb)
    (hb : MapAt w' bb []) (hnow : MapAt w' nb []) (hd : DirAt w' d bb nb (.slice none 0 0)) (hch : Ch (· = L.M) w w') (hM : MapAt w' L.M (mset (topOf L s.names) n d)) (hBw : B ≤ w.heap.size) :
    RepL Kp B f { L with blk := upd L.blk n d, bs := upd L.bs n bb, nw := upd L.nw n nb, pv := upd L.pv n (.slice none 0 0) } { s with names := nins n s.names, dir := upd s.dir n ⟨[], [], []⟩ } w' := by
  have old : ∀ m, m ∈ nins n s.names → m ≠ n → m ∈ s.names := fun m hm e => (mem_nins.1 hm).resolve_left e
  have cM : ∀ {i : Nat} {c : Array Value} {t : TypeId}, Cells w i c t → ¬ i = L.M := fun hc e => h.top.ne hc e.symm
  have hfreeM : ∀ t, Free w (· = L.M) t := fun t => Free.map h.top t
  exact
  { fs := h.fs.ch hch (cM h.fs)
    top := by have := nins_top L n d s.names hn; rw [this] at hM; exact hM
    dir := fun m hm => by
      by_cases e : m = n
      · subst e; simp only [upd_same]; exact hd
      · simp only [upd_other _ _ _ _ e]; exact (h.dir m (old m hm e)).ch hch (cM (h.dir m (old m hm e)))
    base := fun m hm => by
      by_cases e : m = n
      · subst e; simp only [upd_same]; exact hb
      · simp only [upd_other _ _ _ _ e]; exact (h.base m (old m hm e)).ch hch (h.own m (old m hm e)).1
    now := fun m hm => by
      by_cases e : m = n
      · subst e; simp only [upd_same]; exact hnow
      · simp only [upd_other _ _ _ _ e]; exact (h.now m (old m hm e)).ch hch (h.own m (old m hm e)).2.1
    pend := fun m hm => by
      by_cases e : m = n
      · subst e; simp only [upd_same]; exact ⟨[], World.ownsRow_nil _ _ _ 1, trivial⟩
      · simp only [upd_other _ _ _ _ e]
        exact (h.pend m (old m hm e)).ch hch (fun r hr e => by obtain ⟨c, hc, _⟩ := (h.pend m (old m hm ‹_›)).row hr; exact cM hc e) (hfreeM _).k (hfreeM _).k
    file := fun x b sf hx => (h.file x b sf hx).ch hch (cM (h.file x b sf hx).cells) fun r hr => by obtain ⟨c, hc, _⟩ := (h.file x b sf hx).blk hr; exact cM hc
    low := h.low
    lowd := fun m hm => by
      by_cases e : m = n
      · subst e; simp only [upd_same]; omega
      · simp only [upd_other _ _ _ _ e]; exact h.lowd m (old m hm e)
    lowf := h.lowf
    own := fun m hm => by
      have := h.top.lt
      by_cases e : m = n
      · subst e; simp only [upd_same]; exact ⟨by omega, by omega, hne⟩
      · simp only [upd_other _ _ _ _ e]; exact h.own m (old m hm e)
    sep := fun m hm q hq hmq => by
      by_cases e : m = n
      · subst e
        have e2 : q ≠ m := Ne.symm hmq
        have h1 := (h.dir q (old q hq e2)).lt
        have h2 := (h.base q (old q hq e2)).lt
        have h3 := (h.now q (old q hq e2)).lt
        simp only [upd_same, upd_other _ _ _ _ e2]
        exact ⟨by omega, by omega, by omega, by omega, fun k hk => by simp [Value.ownBlock] at hk⟩
      · by_cases e2 : q = n
        · subst e2
          have h1 := (h.dir m (old m hm e)).lt
          have h2 := (h.base m (old m hm e)).lt
          have h3 := (h.now m (old m hm e)).lt
          simp only [upd_same, upd_other _ _ _ _ e]
          exact ⟨by omega, by omega, by omega, by omega, fun k hk => by simp [Value.ownBlock]⟩
        · simp only [upd_other _ _ _ _ e, upd_other _ _ _ _ e2]
          exact h.sep m (old m hm e) q (old q hq e2) hmq
    fsep := h.fsep
    kold := fun i hi => Nat.lt_of_lt_of_le (h.kold i hi) hch.size, kf := h.kf, kx := h.kx
    kd := fun m hm => by
      by_cases e : m = n
      · subst e
        simp only [upd_same]
        exact ⟨fun hk => by have := h.kold _ hk; omega, fun hk => by have := h.kold _ hk; omega, fun hk => by have := h.kold _ hk; omega, fun k hk => by simp [Value.ownBlock] at hk⟩
      · simp only [upd_other _ _ _ _ e]; exact h.kd m (old m hm e) }
def mkdirS (s : Fs) (n : Nm) : Fs := { s with names := nins n s.names, dir := upd s.dir n ⟨[], [], []⟩ }
set_option maxHeartbeats 8000000 in
theorem mkdir1_any {Kp : Nat → Prop} {B f : Nat} {L : Lay} {s : Fs} {w : World} (h : RepL Kp B f L s w) (n : Nm) (hn : n ∉ s.names) (b1 b2 : Nat) (h1 : Cells w b1 #[adr f] 32) (h2 : Cells w b2 #[.string (txt n)] 9) (hl : n.length ≤ 32) (hm : s.names.length ≤ 1000000) (hBw : B ≤ w.heap.size) :
    Calls Tryz.prog 85 #[adr b1, adr b2] w fun e w' => e = .returned (.tuple #[]) ∧ ∃ L', RepL Kp B f L' (mkdirS s n) w' ∧ Ch (· = L.M) w w' := by
  have c1 : w.cell? ⟨b1, 0, none⟩ = some (.pointer (some ⟨f, 0, none⟩)) := h1.cell 0
  have c2 : w.cell? ⟨b2, 0, none⟩ = some (.string (txt n)) := h2.cell 0
  have f0 : w.cell? ⟨f, 0, none⟩ = some (.map (some L.M)) := h.fs.cell 0
  have HK := Lib.hid (fun w1 (hch0 : Ch (fun _ => False) w.drew w1) (d : Nat) => by
    have hch : Ch (fun _ => False) w w1 := (Ch.refl _ w).drew.then_ hch0 fun _ _ h => h
    have hM := h.top.ch hch (fun h => h)
    obtain ⟨w2, hrun, ho, ht⟩ := World.ownsMap.store hM key_law (t := 65) Tryz.underlying65 (by unfold topOf maxLen; rw [List.length_map]; omega) (key_nm n (by unfold maxLen; omega)) (val := .pointer (some ⟨d, 0, none⟩)) (d := blk d) (ps := []) rfl
    rw [put_ents] at ho
    exact (⟨w2, hrun, (h1.ch hch (fun h => h)).cell 0, (h2.ch hch (fun h => h)).cell 0, (h.fs.ch hch (fun h => h)).cell 0, own_tight ho, ht, hch⟩ :
      ∃ w2, (Instr.mapUpdate 65 (.map (some L.M)) (.string (txt n)) (.pointer (some ⟨d, 0, none⟩))).run Tryz.prog w1 = .ok () w2 ∧ w1.cell? ⟨b1, 0, none⟩ = some (.pointer (some ⟨f, 0, none⟩)) ∧ w1.cell? ⟨b2, 0, none⟩ = some (.string (txt n)) ∧ w1.cell? ⟨f, 0, none⟩ = some (.map (some L.M)) ∧ MapAt w2 L.M (mset (topOf L s.names) n d) ∧ w1.mapTurned w2 L.M ∧ Ch (fun _ => False) w w1))
  have HE := Lib.hid (fun w1 w2 bb nb d (hbb : w.heap.size ≤ bb) (hnb : w.heap.size ≤ nb) (hd0 : w.heap.size ≤ d) (hne : bb ≠ nb) (hb : MapAt w1 bb []) (hnow : MapAt w1 nb []) (hd : DirAt w1 d bb nb (.slice none 0 0)) (hch : Ch (fun _ => False) w w1) (ht : w1.mapTurned w2 L.M) (hM : MapAt w2 L.M (mset (topOf L s.names) n d)) => by
    have hlt := h.top.lt
    have h12 : Ch (· = L.M) w1 w2 := Ch.of_turned ht
    have hch2 : Ch (· = L.M) w w2 := (hch.mono fun _ _ h => h.elim).then_ h12 fun _ _ e => e
    exact (⟨_, h.newDir hn hbb hnb hd0 hne (hb.ch h12 (by omega)) (hnow.ch h12 (by omega)) (hd.ch h12 (by omega)) hch2 hM hBw, hch2⟩ : ∃ L', RepL Kp B f L' (mkdirS s n) w2 ∧ Ch (· = L.M) w w2))
  clear h h1 h2
  unfold adr at *
  go_enter Tryz.func85, Tryz.ntmps85
  go_wp2
  go_region_law (go_simp; go_at_call 86; refine (newDir_any _).mono ?_; rintro e w1 ⟨bb, nb, d, rfl, n1, n2, n3, n4, n5, n6, n7, n8⟩; obtain ⟨w2, hrun, y1, y2, y3, y4, y5, y6⟩ := HK.out w1 n8 d; have N := Lib.hid (HE.out w1 w2 bb nb d n1 n2 n3 n4 n5 n6 n7 y6 y5 y4); clear n1 n2 n3 n4 n5 n6 n7 n8 y4 y5 y6)
  all_goals
    go_end0
    exact ⟨rfl, N.out⟩
end Go.Proofs.YtkcnmajjfljilaaGreatDoor
