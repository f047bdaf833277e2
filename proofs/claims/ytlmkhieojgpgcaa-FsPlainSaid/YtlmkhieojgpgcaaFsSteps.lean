/- simfs: what the steps do, once they are done. -/
import Derived.Test.YtlmkhieojgpgcaaFsFind
import Derived.Deep.RegionLaw
namespace Go.Proofs.Ytlmkhieojgpgcaa
open Go.ChangeShapes Go.WideShapes Go.ChangeAt Go.RowKit Go.ChangeMaps Go.MapKept
open Go.Lib (byteCells byteCells_length byteCells_append strCells)
set_option linter.unusedVariables false

def stepped (s : Fs) : Fs := { s with steps := s.steps + 1, fuse := if s.fuse = -1 then -1 else s.fuse - 1 }
def outed (s : Fs) : Fs := { s with on := false }
theorem step_any {Kp : Nat → Prop} {B f : Nat} {L : Lay} {s : Fs} {w : World} (h : RepL Kp B f L s w) (hs : 0 ≤ s.steps ∧ s.steps < 1000000000) (hfu : -1 ≤ s.fuse ∧ s.fuse ≤ 9223372036854775807) {R : World → Prop} (g : FuncId) (lb : Array Value) (eg : Enters Try.prog g)
    (hdo : ∀ w1, RepL Kp B f L (stepped s) w1 → Ch (· = f) w w1 → Calls Try.prog g lb w1 fun e w' => e = .returned (.tuple #[]) ∧ R w') :
    Calls Try.prog 30 #[.pointer (some ⟨f, 0, none⟩), .func (.func g) #[] lb] w fun e w' => ∃ E : Int, e = .returned (.int .i64 E) ∧ ((s.fuse = 0 ∧ E = 60 ∧ RepL Kp B f L (outed s) w' ∧ Ch (· = f) w w') ∨ (s.fuse ≠ 0 ∧ E = 0 ∧ R w')) := by
  by_cases h0 : s.fuse = 0
  · have hf := h.fs
    rw [h0] at hf
    refine (step_out (.func (.func g) #[] lb) hf).mono fun e w' ⟨he, hf', hch⟩ => ⟨60, he, .inl ⟨h0, rfl, ?_, hch⟩⟩
    have := h.fsOnly hch hf'
    unfold outed
    rw [← h0] at this
    exact this
  · refine (step_done (R := R) g lb eg h.fs h0 hs hfu fun w1 hf1 hch => hdo w1 (h.fsOnly hch hf1) hch).mono fun e w' ⟨he, hr⟩ => ⟨0, he, .inr ⟨h0, rfl, hr⟩⟩

set_option maxHeartbeats 4000000 in
theorem sync1_any {Kp : Nat → Prop} {B f : Nat} {L : Lay} {s : Fs} {w : World} (h : RepL Kp B f L s w) (b1 x : Nat) (h1 : Cells w b1 #[adr x] 60) (b : List UInt8) (sf : Nat) (hx : s.file x = some (b, sf)) (hBw : B ≤ w.heap.size) :
    Calls Try.prog 38 #[adr b1] w fun e w' => e = .returned (.tuple #[]) ∧ ∃ L', RepL Kp B f L' { s with file := upd s.file x (some (b, b.length)) } w' ∧ Ch (· = x) w w' := by
  have hf := h.file x b sf hx
  have c1 : w.cell? ⟨b1, 0, none⟩ = some (.pointer (some ⟨x, 0, none⟩)) := h1.cell 0
  have x0 : w.cell? ⟨x, 0, none⟩ = some (.slice (L.fa x) b.length (L.fc x)) := hf.cells.cell 0
  have x1 := hf.cells.frozen 1
  have x2 : w.cell? ⟨x, 1, none⟩ = some (.int .i64 (sf : Int)) := hf.cells.cell 1
  have HF := Lib.hid hf
  have H := Lib.hid h
  have HX := Lib.hid hx
  clear hf h h1 hx
  unfold adr
  go_enter Try.func38, Try.ntmps38
  go_wp2
  go_region
  go_end0
  have hch : Ch (· = x) w (w.setCell ⟨x, 1, none⟩ (.int .i64 (b.length : Int))).drew := ((Ch.refl (· = x) w).set (p := ⟨x, 1, none⟩) (.inl rfl) _).drew
  have hne : ¬ f = x := fun e => H.out.fs.ne HF.out.cells (by decide) e
  have hf2 : FsAt (w.setCell ⟨x, 1, none⟩ (.int .i64 (b.length : Int))).drew f L.M s.room s.used s.steps s.fuse s.on := H.out.fs.ch hch hne
  refine ⟨rfl, _, H.out.fileOnly (x := x) (A := L.fa x) (c := L.fc x) (b := b) (sf := b.length) (fun b0 s0 hx0 k hk => ?_) (fun hx0 => by rw [HX.out] at hx0; cases hx0) (hch.mono fun k _ e => .inr (.inl e)) hBw ⟨HF.out.cells.set 1 _, own_ch HF.out.row hch fun r hr e => ?_⟩ hf2, hch⟩
  · rw [HX.out] at hx0; injection hx0 with hx0; injection hx0 with h1 h2; subst h1
    exact .inl hk
  · obtain ⟨d, hd, _⟩ := HF.out.blk hr
    exact hd.ne HF.out.cells (by decide) e

/-- 'append' of bytes that lie somewhere, as one step of a region that draws. -/
theorem step_append_mem {ops : Array Oper} {o : Oper} {a : Act} {w : World} {K : Act → World → Prop} {Q : Exit → Act → World → Prop} {E : Prop}
    (hg : o.guard = none) (s x : Operand) (hop : o.op = Op.call { callee := Callee.builtin Builtin.append, args := #[s, x], argTypes := #[31, 31] })
    (B : Nat) (A : Option Addr) (n c : Nat) (bs : List UInt8) (hs : a.eval s = .slice A n c) (hb : w.ownsRow B 5 1 (.slice A n c) n (byteCells bs)) (hbl : n = bs.length) (hBw : B ≤ w.heap.size)
    (B2 : Nat) (a2 : Addr) (n2 c2 : Nat) (news : List UInt8) (hx : a.eval x = .slice (some a2) n2 c2) (hb2 : BytesAt w B2 (some a2) news) (hn2 : n2 = news.length) (hlen : bs.length + news.length ≤ 1099511627776)
    (hK : ∀ A' c' w', w'.ownsRow B 5 1 (.slice A' (n + n2) c') (n + n2) (byteCells (bs ++ news)) → w.grownBy w' (Value.slice A n c).ownBlock → (∀ k, (Value.slice A' (n + n2) c').ownBlock = some k → (Value.slice A n c).ownBlock = some k ∨ w.heap.size ≤ k) → K (a.put o.dst (.slice A' (n + n2) c')) w') :
    if Region.wanted o (yielded ops a.tmps) = true then Oper.wp Try.prog o a w K Q else E := by
  have hw : Region.wanted o (yielded ops a.tmps) = true := by simp [Region.wanted, hg]
  rw [if_pos hw]
  obtain ⟨i0, hi, hz0, hz1, hz2⟩ := info_parts infoByte
  subst hn2
  obtain ⟨v', w', hrun, r1, r2, _, r4⟩ := run_append_own_at (P := Try.prog) (w := w) B 31 o.type 5 i0 _ 1 1 Try.underlying31 hi hz0 hz1 hz2 rfl (by decide) (.slice A n c) n (byteCells bs) hb a2 news.length c2 (byteCells news)
    (by rw [byteCells_length, Nat.mul_one]) hb2.some_ (byte_one _) (by unfold maxLen; omega) (by omega) hBw
  obtain ⟨A', c', rfl⟩ := own_slice r1
  unfold Oper.wp
  simp [execOp, hop, resolve, invoke, builtin, hs, hx, hrun, Result.andThen]
  refine hK A' c' w' (by rw [byteCells_append]; exact r1) r2 fun k hk => ?_
  rcases r4 with h | h
  · exact .inl (h ▸ hk)
  · rw [h] at hk; injection hk with hk; exact .inr (by omega)
theorem grown_drew {w w' : World} {r : Option Nat} (h : w.drew.grownBy w' r) : w.grownBy w' r := ⟨h.os, h.tape, h.output, h.size, h.block⟩
/-- The row of a file's bytes. -/
def rowOf (L : Lay) (x n : Nat) : Nat → Prop := fun i => (Value.slice (L.fa x) n (L.fc x)).ownBlock = some i
theorem append1_end {Kp : Nat → Prop} {B f : Nat} {L : Lay} {s : Fs} {w w4 : World} (h : RepL Kp B f L s w) {x m n c4 : Nat} {A4 : Option Addr} {b news : List UInt8} {sf : Nat} (hx : s.file x = some (b, sf)) (hm : b.length = m) (hn : n = news.length) (hBw : B ≤ w.heap.size)
    (hg0 : w.drew.grownBy w4 (Value.slice (L.fa x) m (L.fc x)).ownBlock) (ho : w4.ownsRow B 5 1 (.slice A4 (m + n) c4) (m + n) (byteCells (b ++ news)))
    (ha : ∀ k, (Value.slice A4 (m + n) c4).ownBlock = some k → (Value.slice (L.fa x) m (L.fc x)).ownBlock = some k ∨ w.drew.heap.size ≤ k) (hx4 : Cells w4 x (fileCells (L.fa x) b.length (L.fc x) sf) 67) (hf4 : FsAt w4 f L.M s.room s.used s.steps s.fuse s.on) :
    ∃ L', RepL Kp B f L' { s with used := s.used + n, file := upd s.file x (some (b ++ news, sf)) } ((w4.setCell ⟨x, 0, none⟩ (.slice A4 (m + n) c4)).setCell ⟨f, 2, none⟩ (.int .i64 (s.used + n))).drew ∧
      Ch (fun i => i = f ∨ i = x ∨ rowOf L x b.length i) w ((w4.setCell ⟨x, 0, none⟩ (.slice A4 (m + n) c4)).setCell ⟨f, 2, none⟩ (.int .i64 (s.used + n))).drew := by
  subst hm
  have hg := grown_drew hg0
  have hf := h.file x b sf hx
  have hfx : f ≠ x := fun e => h.fs.ne hf.cells (by decide) e
  have hlen : (b ++ news).length = b.length + n := by rw [List.length_append, hn]
  have hch : Ch (fun i => i = f ∨ i = x ∨ rowOf L x b.length i) w ((w4.setCell ⟨x, 0, none⟩ (.slice A4 (b.length + n) c4)).setCell ⟨f, 2, none⟩ (.int .i64 (s.used + n))).drew :=
    (((((Ch.refl (fun i => i = f ∨ i = x ∨ rowOf L x b.length i) w).grown hg fun k hk => .inl (.inr (.inr hk))).set (p := ⟨x, 0, none⟩) (.inl (.inr (.inl rfl))) _).set (p := ⟨f, 2, none⟩) (.inl (.inl rfl)) _)).drew
  have hch2 : Ch (fun i => i = x ∨ i = f) w4 ((w4.setCell ⟨x, 0, none⟩ (.slice A4 (b.length + n) c4)).setCell ⟨f, 2, none⟩ (.int .i64 (s.used + n))).drew :=
    (((Ch.refl (fun i => i = x ∨ i = f) w4).set (p := ⟨x, 0, none⟩) (.inl (.inl rfl)) _).set (p := ⟨f, 2, none⟩) (.inl (.inr rfl)) _).drew
  refine ⟨_, h.fileOnly (x := x) (A := A4) (c := c4) (b := b ++ news) (sf := sf) (fun b0 s0 hx0 k hk => ?_) (fun hx0 => by rw [hx] at hx0; cases hx0) (hch.mono fun k _ e => ?_) hBw ⟨?_, ?_⟩ ?_, hch⟩
  · rw [hx] at hx0; injection hx0 with hx0; injection hx0 with h1 h2; subst h1
    rw [hlen] at hk
    exact ha k hk
  · rcases e with e | e | e
    · exact .inl e
    · exact .inr (.inl e)
    · exact .inr (.inr ⟨b, sf, hx, e⟩)
  · rw [hlen]
    exact ((hx4.set 0 _).set_other (p := ⟨f, 2, none⟩) (fun e => hfx e.symm) _)
  · rw [hlen]
    refine own_ch ho hch2 fun k hk e => ?_
    obtain ⟨d, hd, _⟩ := own_cells ho hk
    rcases e with e | e
    · exact hd.ne hx4 (by decide) e
    · exact hd.ne hf4 (by decide) e
  · exact ((hf4.set_other (p := ⟨x, 0, none⟩) hfx _).set 2 _)
set_option maxHeartbeats 8000000 in
theorem append1_any {Kp : Nat → Prop} {B f : Nat} {L : Lay} {s : Fs} {w : World} (h : RepL Kp B f L s w) (b1 b2 b3 x : Nat) (B2 n c : Nat) (a : Addr) (news : List UInt8) (h1 : Cells w b1 #[adr x] 60) (h2 : Cells w b2 #[.slice (some a) n c] 31) (h3 : Cells w b3 #[adr f] 24)
    (hsrc : BytesAt w B2 (some a) news) (hn : n = news.length) (b : List UInt8) (sf : Nat) (hx : s.file x = some (b, sf)) (hBw : B ≤ w.heap.size) (hlen : b.length + n ≤ 1099511627776) (hu : -1152921504606846976 ≤ s.used ∧ s.used ≤ 1152921504606846976) :
    Calls Try.prog 37 #[adr b1, adr b2, adr b3] w fun e w' => e = .returned (.tuple #[]) ∧ ∃ L', RepL Kp B f L' { s with used := s.used + n, file := upd s.file x (some (b ++ news, sf)) } w' ∧ Ch (fun i => i = f ∨ i = x ∨ rowOf L x b.length i) w w' := by
  have hf := h.file x b sf hx
  have c1 : w.cell? ⟨b1, 0, none⟩ = some (.pointer (some ⟨x, 0, none⟩)) := h1.cell 0
  have c2 : w.cell? ⟨b2, 0, none⟩ = some (.slice (some a) n c) := h2.cell 0
  have c3 : w.cell? ⟨b3, 0, none⟩ = some (.pointer (some ⟨f, 0, none⟩)) := h3.cell 0
  have x0 : w.cell? ⟨x, 0, none⟩ = some (.slice (L.fa x) b.length (L.fc x)) := hf.cells.cell 0
  have hfx : ¬ f = x := fun e => h.fs.ne hf.cells (by decide) e
  have hrow : ∀ k, rowOf L x b.length k → ∃ d, Cells w k d 5 ∧ B ≤ k := fun k hk => hf.blk hk
  have kx : ∀ k, rowOf L x b.length k → k ≠ x := fun k hk e => by obtain ⟨d, hd, _⟩ := hrow k hk; exact hd.ne hf.cells (by decide) e
  have kf : ∀ k, rowOf L x b.length k → k ≠ f := fun k hk e => by obtain ⟨d, hd, _⟩ := hrow k hk; exact hd.ne h.fs (by decide) e
  have hk1 : ¬ (rowOf L x b.length b1) := fun hk => by obtain ⟨d, hd, _⟩ := hrow b1 hk; exact hd.ne h1 (by decide) rfl
  have hk2 : ¬ (rowOf L x b.length b2) := fun hk => by obtain ⟨d, hd, _⟩ := hrow b2 hk; exact hd.ne h2 (by decide) rfl
  have hk3 : ¬ (rowOf L x b.length b3) := fun hk => by obtain ⟨d, hd, _⟩ := hrow b3 hk; exact hd.ne h3 (by decide) rfl
  have hb1x : b1 ≠ x := fun e => h1.ne hf.cells (by decide) e
  have hb2x : b2 ≠ x := fun e => h2.ne hf.cells (by decide) e
  have hb3x : b3 ≠ x := fun e => h3.ne hf.cells (by decide) e
  obtain ⟨m, hm⟩ : ∃ m, b.length = m := ⟨_, rfl⟩
  have HK := Lib.hid (fun w4 (hg0 : w.drew.grownBy w4 (Value.slice (L.fa x) m (L.fc x)).ownBlock) =>
    have hg : w.grownBy w4 (Value.slice (L.fa x) b.length (L.fc x)).ownBlock := grown_drew (by rw [hm]; exact hg0)
    have hx4 := hf.cells.grown hg (fun e => (kx x e.symm) rfl)
    (⟨h1.grown hg (fun e => hk1 e.symm), h2.grown hg (fun e => hk2 e.symm), h3.grown hg (fun e => hk3 e.symm), hx4, h.fs.grown hg (fun e => (kf f e.symm) rfl), hm ▸ hx4.cell 0⟩ :
      Cells w4 b1 #[adr x] 60 ∧ Cells w4 b2 #[.slice (some a) n c] 31 ∧ Cells w4 b3 #[adr f] 24 ∧ Cells w4 x (fileCells (L.fa x) b.length (L.fc x) sf) 67 ∧ FsAt w4 f L.M s.room s.used s.steps s.fuse s.on ∧ w4.cell? ⟨x, 0, none⟩ = some (.slice (L.fa x) m (L.fc x))))
  have HF := Lib.hid hf
  have H := Lib.hid h
  have HX := Lib.hid hx
  have HS := Lib.hid (show BytesAt w.drew B2 (some a) news from hsrc)
  have HN := Lib.hid hn
  have HB1 := Lib.hid hb1x
  have HB2 := Lib.hid hb2x
  have HB3 := Lib.hid hb3x
  have HFX := Lib.hid hfx
  have HKX := Lib.hid kx
  have HKF := Lib.hid kf
  have hl2 : Hid (b.length + news.length ≤ 1099511627776) := Lib.hid (by omega)
  have hns : 0 ≤ (n : Int) := by omega
  have hnm : (n : Int) ≤ 1099511627776 := by omega
  obtain ⟨hu0, hu1⟩ := hu
  have HM := Lib.hid hm
  have hrow0 := Lib.hid (show w.drew.ownsRow B 5 1 (.slice (L.fa x) m (L.fc x)) m (byteCells b) by rw [← hm]; exact hf.row)
  have hBw2 : Hid (B ≤ w.drew.heap.size) := Lib.hid hBw
  rw [hm] at x0
  clear hn hf h h1 h2 h3 hx hsrc hrow kx kf hk1 hk2 hk3 hb1x hb2x hb3x hfx hm
  unfold adr
  go_enter Try.func37, Try.ntmps37
  go_wp2
  go_region_law (first | (refine step_append_mem rfl _ _ rfl B (L.fa x) m (L.fc x) b rfl hrow0.out HM.out.symm hBw2.out B2 a n c news rfl HS.out HN.out hl2.out ?_; intro A4 n4 w4 ho4 hg4 ha4; have HO4 := Lib.hid ho4; have HG4 := Lib.hid hg4; have HA4 := Lib.hid ha4; have HK4 := Lib.hid (HK.out w4 hg4); have y1 : w4.cell? ⟨b1, 0, none⟩ = some (.pointer (some ⟨x, 0, none⟩)) := HK4.out.1.cell 0; have y2 : w4.cell? ⟨b2, 0, none⟩ = some (.slice (some a) n c) := HK4.out.2.1.cell 0; have y3 : w4.cell? ⟨b3, 0, none⟩ = some (.pointer (some ⟨f, 0, none⟩)) := HK4.out.2.2.1.cell 0; have x4 := HK4.out.2.2.2.2.2; have xf4 := HK4.out.2.2.2.1.frozen 0; clear ho4 hg4 ha4))
  all_goals
    have z2 : w4.cell? ⟨f, 2, none⟩ = some (.int .i64 s.used) := HK4.out.2.2.2.2.1.cell 2
    have z3 := HK4.out.2.2.2.2.1.frozen 2
    have q1 := HB1.out
    have q2 := HB2.out
    have q3 := HB3.out
    have q4 := HFX.out
    have q5 : ¬ x = f := fun e => HFX.out e.symm
    go_wp2
    go_region
    go_end0
    exact ⟨rfl, append1_end H.out HX.out HM.out HN.out hBw HG4.out HO4.out HA4.out HK4.out.2.2.2.1 HK4.out.2.2.2.2.1⟩
end Go.Proofs.Ytlmkhieojgpgcaa
