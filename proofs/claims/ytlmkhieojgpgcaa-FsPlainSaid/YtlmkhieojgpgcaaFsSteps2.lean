/- simfs: what the steps do to a directory. -/
import Derived.Test.YtlmkhieojgpgcaaFsSteps
namespace Go.Proofs.Ytlmkhieojgpgcaa
open Go.ChangeShapes Go.WideShapes Go.ChangeAt Go.RowKit Go.ChangeMaps Go.MapKept
open Go.Lib (byteCells byteCells_length byteCells_append strCells)
set_option linter.unusedVariables false

/-- Fewer files. -/
theorem RepL.less {Kp : Nat → Prop} {B f : Nat} {L : Lay} {s : Fs} {w : World} (h : RepL Kp B f L s w) (g : Nat → Option (List UInt8 × Nat)) (hg : ∀ x p, g x = some p → s.file x = some p) : RepL Kp B f L { s with file := g } w :=
  { fs := h.fs, top := h.top, dir := h.dir, base := h.base, now := h.now, pend := h.pend, file := fun x b sf hx => h.file x b sf (hg x _ hx), low := h.low, lowd := h.lowd, lowf := fun x b sf hx => h.lowf x b sf (hg x _ hx), own := h.own, sep := h.sep
    fsep := fun x y bx sx b_y sy hx hy => h.fsep x y bx sx b_y sy (hg x _ hx) (hg y _ hy)
    kold := h.kold, kf := h.kf, kd := h.kd, kx := fun x b sf hx => h.kx x b sf (hg x _ hx) }
/-- The blocks of a directory that its operations turn. -/
def dirOf (L : Lay) (n : Nm) : Nat → Prop := fun i => i = L.blk n ∨ i = L.nw n ∨ (L.pv n).ownBlock = some i
def didDir (d : Dir) (o : FOp) : Dir := { d with now := o.on d.now, pend := d.pend ++ [o] }
theorem do_rep {Kp : Nat → Prop} {B f : Nat} {L : Lay} {s : Fs} {w : World} (h : RepL Kp B f L s w) (n : Nm) (hn : n ∈ s.names) (fv : Value) (o : FOp) (ho : OpAt Kp w fv o) (hBw : B ≤ w.heap.size) (hl : (s.dir n).now.length ≤ 1000000) (hp : (s.dir n).pend.length ≤ 1000000) :
    Calls Try.prog 34 #[.pointer (some ⟨L.blk n, 0, none⟩), fv] w fun e w' => e = .returned (.tuple #[]) ∧ ∃ L', RepL Kp B f L' { s with dir := upd s.dir n (didDir (s.dir n) o) } w' ∧ Ch (dirOf L n) w w' := by
  refine (do_any B (L.blk n) (L.bs n) (L.nw n) (L.pv n) fv (s.dir n).now (s.dir n).pend o w hBw (h.dir n hn) (h.now n hn) (h.pend n hn) ho hl hp).mono fun e w' ⟨he, v', hd⟩ => ⟨he, ?_⟩
  have hne : ¬ (f = L.blk n ∨ f = L.nw n ∨ (L.pv n).ownBlock = some f) := by
    rintro (e | e | e)
    · exact h.fs.ne (e ▸ h.dir n hn) (by decide) rfl
    · exact (e ▸ h.now n hn : MapAt w f _).ne h.fs rfl
    · obtain ⟨d, hd, _⟩ := (h.pend n hn).row e; exact hd.ne h.fs (by decide) rfl
  have hnb : ¬ (L.bs n = L.blk n ∨ L.bs n = L.nw n ∨ (L.pv n).ownBlock = some (L.bs n)) := by
    rintro (e | e | e)
    · exact (h.base n hn).ne (h.dir n hn) e
    · exact (h.own n hn).2.2 e
    · obtain ⟨d, hd, _⟩ := (h.pend n hn).row e; exact (h.base n hn).ne hd rfl
  have := h.dirOnly hn (d' := didDir (s.dir n) o) (hd.ch.mono fun k _ e => by
    rcases e with e | e | e
    · exact .inr (.inl e)
    · exact .inr (.inr (.inr (.inl e)))
    · exact .inr (.inr (.inr (.inr e)))) hd.dir ((h.base n hn).ch hd.ch hnb) hd.map hd.pend (.inl rfl) hd.at_ hBw (h.fs.ch hd.ch hne)
  exact ⟨_, this, hd.ch⟩

theorem fs_get {Kp : Nat → Prop} {B f : Nat} {L : Lay} {s : Fs} {w : World} (h : RepL Kp B f L s w) {n : Nm} (hn : n ∈ s.names) (t : TypeId) (ht : t ≠ 65 ∧ t ≠ 78) {b : Nat} {c : Array Value} (hb : Cells w b c t) : ¬ dirOf L n b := by
  rintro (e | e | e)
  · exact hb.ne (e ▸ h.dir n hn) ht.1 rfl
  · exact (e ▸ h.now n hn : MapAt w b _).ne hb rfl
  · obtain ⟨d, hd, _⟩ := (h.pend n hn).row e; exact hb.ne hd ht.2 rfl

set_option maxHeartbeats 4000000 in
theorem create1_any {Kp : Nat → Prop} {B f : Nat} {L : Lay} {s : Fs} {w : World} (h : RepL Kp B f L s w) (n name : Nm) (hn : n ∈ s.names) (b1 b2 b3 x : Nat) (h1 : Cells w b1 #[adr (L.blk n)] 55) (h2 : Cells w b2 #[adr x] 60) (h3 : Cells w b3 #[.string (txt name)] 9)
    (hname : name.length ≤ 32) (hBw : B ≤ w.heap.size) (hl : (s.dir n).now.length ≤ 1000000) (hp : (s.dir n).pend.length ≤ 1000000) (hk : ¬ Kp b2 ∧ ¬ Kp b3) :
    Calls Try.prog 33 #[adr b1, adr b2, adr b3] w fun e w' => e = .returned (.tuple #[]) ∧ ∃ L', RepL Kp B f L' { s with dir := upd s.dir n (didDir (s.dir n) (.create name x)) } w' ∧ Ch (dirOf L n) w w' := by
  have c1 : w.cell? ⟨b1, 0, none⟩ = some (.pointer (some ⟨L.blk n, 0, none⟩)) := h1.cell 0
  have HD := Lib.hid (do_rep h n hn (.func (.func 35) #[] #[adr b2, adr b3]) (.create name x) ⟨b2, b3, rfl, h2, h3, hname, hk.1, hk.2⟩ hBw hl hp)
  clear h h1 h2 h3
  unfold adr at *
  go_enter Try.func33, Try.ntmps33
  go_wp2_with (go_at_call 34; refine HD.out.mono ?_; rintro e w1 ⟨rfl, h1⟩; have H1 := Lib.hid h1; clear h1)
  go_end0
  exact ⟨rfl, H1.out⟩

set_option maxHeartbeats 8000000 in
theorem remove1_any {Kp : Nat → Prop} {B f : Nat} {L : Lay} {s : Fs} {w : World} (h : RepL Kp B f L s w) (n name : Nm) (hn : n ∈ s.names) (b1 b2 b3 b4 x : Nat) (h1 : Cells w b1 #[adr f] 24) (h2 : Cells w b2 #[adr x] 60) (h3 : Cells w b3 #[adr (L.blk n)] 55) (h4 : Cells w b4 #[.string (txt name)] 9)
    (b : List UInt8) (sf : Nat) (hx : s.file x = some (b, sf)) (hname : name.length ≤ 32) (hBw : B ≤ w.heap.size) (hl : (s.dir n).now.length ≤ 1000000) (hp : (s.dir n).pend.length ≤ 1000000) (hu : -1152921504606846976 ≤ s.used ∧ s.used ≤ 1152921504606846976) (hbl : b.length ≤ 1099511627776) (hk : ¬ Kp b4) :
    Calls Try.prog 51 #[adr b1, adr b2, adr b3, adr b4] w fun e w' => e = .returned (.tuple #[]) ∧ ∃ L', RepL Kp B f L' { s with used := s.used - b.length, dir := upd s.dir n (didDir (s.dir n) (.remove name)) } w' ∧ Ch (fun i => i = f ∨ dirOf L n i) w w' := by
  have hf := h.file x b sf hx
  have c1 : w.cell? ⟨b1, 0, none⟩ = some (.pointer (some ⟨f, 0, none⟩)) := h1.cell 0
  have c2 : w.cell? ⟨b2, 0, none⟩ = some (.pointer (some ⟨x, 0, none⟩)) := h2.cell 0
  have c3 : w.cell? ⟨b3, 0, none⟩ = some (.pointer (some ⟨L.blk n, 0, none⟩)) := h3.cell 0
  have x0 : w.cell? ⟨x, 0, none⟩ = some (.slice (L.fa x) b.length (L.fc x)) := hf.cells.cell 0
  have f2 : w.cell? ⟨f, 2, none⟩ = some (.int .i64 s.used) := h.fs.cell 2
  have ff2 := h.fs.frozen 2
  have hb1 : ¬ b1 = f := fun e => h1.ne h.fs (by decide) e
  have hb2 : ¬ b2 = f := fun e => h2.ne h.fs (by decide) e
  have hb3 : ¬ b3 = f := fun e => h3.ne h.fs (by decide) e
  have hb4 : ¬ b4 = f := fun e => h4.ne h.fs (by decide) e
  have hxf : ¬ x = f := fun e => hf.cells.ne h.fs (by decide) e
  obtain ⟨hu0, hu1⟩ := hu
  have HD := Lib.hid (fun w1 (hch : Ch (· = f) w w1) (hf1 : FsAt w1 f L.M s.room (s.used - b.length) s.steps s.fuse s.on) =>
    do_rep (h.fsOnly hch hf1) n hn (.func (.func 52) #[] #[adr b4]) (.remove name) ⟨b4, rfl, h4.ch hch hb4, hname, hk⟩ (Nat.le_trans hBw hch.size) hl hp)
  have HF := Lib.hid h.fs
  have hbn : 0 ≤ (b.length : Int) := by omega
  have hbm : (b.length : Int) ≤ 1099511627776 := by omega
  clear h h1 h2 h3 h4 hf hx hb4
  unfold adr at *
  go_enter Try.func51, Try.ntmps51
  go_wp2
  go_region
  have HC := Lib.hid (show Ch (· = f) w (w.setCell ⟨f, 2, none⟩ (.int .i64 (s.used - b.length))).drew from ((Ch.refl (· = f) w).set (p := ⟨f, 2, none⟩) (.inl rfl) _).drew)
  have HD2 := Lib.hid (HD.out _ HC.out (HF.out.set 2 _))
  clear HD
  go_wp2_with (go_at_call 34; refine HD2.out.mono ?_; rintro e w1 ⟨rfl, L', h1, h2⟩; have H1 := Lib.hid h1; have H2 := Lib.hid h2; clear h1 h2)
  go_end0
  refine ⟨rfl, L', H1.out, (HC.out.mono fun k _ e => .inl e).then_ H2.out fun i _ e => .inr e⟩

set_option maxHeartbeats 8000000 in
theorem rename1_any {Kp : Nat → Prop} {B f : Nat} {L : Lay} {s : Fs} {w : World} (h : RepL Kp B f L s w) (n a b : Nm) (hn : n ∈ s.names) (b1 b2 b3 b4 b5 b6 x : Nat) (g : Int) (h1 : Cells w b1 #[adr f] 24) (h2 : Cells w b2 #[.int .i64 g] 3) (h3 : Cells w b3 #[adr (L.blk n)] 55)
    (h4 : Cells w b4 #[.string (txt a)] 9) (h5 : Cells w b5 #[adr x] 60) (h6 : Cells w b6 #[.string (txt b)] 9)
    (ha : a.length ≤ 32) (hb : b.length ≤ 32) (hBw : B ≤ w.heap.size) (hl : (s.dir n).now.length ≤ 1000000) (hp : (s.dir n).pend.length ≤ 1000000) (hu : -1152921504606846976 ≤ s.used ∧ s.used ≤ 1152921504606846976) (hg : 0 ≤ g ∧ g ≤ 1099511627776) (hk : ¬ Kp b4 ∧ ¬ Kp b5 ∧ ¬ Kp b6) :
    Calls Try.prog 41 #[adr b1, adr b2, adr b3, adr b4, adr b5, adr b6] w fun e w' => e = .returned (.tuple #[]) ∧ ∃ L', RepL Kp B f L' { s with used := s.used - g, dir := upd s.dir n (didDir (s.dir n) (.rename a b x)) } w' ∧ Ch (fun i => i = f ∨ dirOf L n i) w w' := by
  have c1 : w.cell? ⟨b1, 0, none⟩ = some (.pointer (some ⟨f, 0, none⟩)) := h1.cell 0
  have c2 : w.cell? ⟨b2, 0, none⟩ = some (.int .i64 g) := h2.cell 0
  have c3 : w.cell? ⟨b3, 0, none⟩ = some (.pointer (some ⟨L.blk n, 0, none⟩)) := h3.cell 0
  have f2 : w.cell? ⟨f, 2, none⟩ = some (.int .i64 s.used) := h.fs.cell 2
  have ff2 := h.fs.frozen 2
  have hb1 : ¬ b1 = f := fun e => h1.ne h.fs (by decide) e
  have hb2 : ¬ b2 = f := fun e => h2.ne h.fs (by decide) e
  have hb3 : ¬ b3 = f := fun e => h3.ne h.fs (by decide) e
  have hb4 : ¬ b4 = f := fun e => h4.ne h.fs (by decide) e
  have hb5 : ¬ b5 = f := fun e => h5.ne h.fs (by decide) e
  have hb6 : ¬ b6 = f := fun e => h6.ne h.fs (by decide) e
  obtain ⟨hu0, hu1⟩ := hu
  obtain ⟨hg0, hg1⟩ := hg
  have HD := Lib.hid (fun w1 (hch : Ch (· = f) w w1) (hf1 : FsAt w1 f L.M s.room (s.used - g) s.steps s.fuse s.on) =>
    do_rep (h.fsOnly hch hf1) n hn (.func (.func 42) #[] #[adr b4, adr b5, adr b6]) (.rename a b x) ⟨b4, b5, b6, rfl, h4.ch hch hb4, h5.ch hch hb5, h6.ch hch hb6, ha, hb, hk.1, hk.2.1, hk.2.2⟩ (Nat.le_trans hBw hch.size) hl hp)
  have HF := Lib.hid h.fs
  clear h h1 h2 h3 h4 h5 h6 hb4 hb5 hb6
  unfold adr at *
  go_enter Try.func41, Try.ntmps41
  go_wp2
  go_region
  have HC := Lib.hid (show Ch (· = f) w (w.setCell ⟨f, 2, none⟩ (.int .i64 (s.used - g))).drew from ((Ch.refl (· = f) w).set (p := ⟨f, 2, none⟩) (.inl rfl) _).drew)
  have HD2 := Lib.hid (HD.out _ HC.out (HF.out.set 2 _))
  clear HD
  go_wp2_with (go_at_call 34; refine HD2.out.mono ?_; rintro e w1 ⟨rfl, L', h1, h2⟩; have H1 := Lib.hid h1; have H2 := Lib.hid h2; clear h1 h2)
  go_end0
  refine ⟨rfl, L', H1.out, (HC.out.mono fun k _ e => .inl e).then_ H2.out fun i _ e => .inr e⟩
/-- Settling, of a file system. -/
def settledDir (d : Dir) (k : Nat) : Dir := ⟨replay (d.pend.take k) d.base, replay (d.pend.take k) d.base, []⟩
def baseOf (L : Lay) (n : Nm) : Nat → Prop := fun i => i = L.blk n ∨ i = L.bs n
theorem settle_rep {Kp : Nat → Prop} {B f : Nat} {L : Lay} {s : Fs} {w : World} (h : RepL Kp B f L s w) (n : Nm) (hn : n ∈ s.names) (k : Nat) (hk : k ≤ (s.dir n).pend.length) (hlen : (s.dir n).base.length + (s.dir n).pend.length ≤ 1000000) (hnow : (s.dir n).now = replay (s.dir n).pend (s.dir n).base) (hBw : B ≤ w.heap.size) :
    Calls Try.prog 40 #[.pointer (some ⟨L.blk n, 0, none⟩), .int .i64 (k : Int)] w fun e w' => e = .returned (.tuple #[]) ∧ ∃ L', RepL Kp B f L' { s with dir := upd s.dir n (settledDir (s.dir n) k) } w' ∧ Ch (baseOf L n) w w' ∧ L'.M = L.M ∧ L'.blk = L.blk ∧ L'.bs = L.bs := by
  refine (settle_any B (L.blk n) (L.bs n) (L.nw n) k (L.pv n) (s.dir n).pend (s.dir n).base (s.dir n).now w (h.dir n hn) (h.base n hn) (h.now n hn) (h.own n hn).2.2 (h.pend n hn) hk hlen (fun _ => hnow.symm)).mono fun e w' ⟨he, nb', hs⟩ => ⟨he, ?_⟩
  have hne : ¬ (f = L.blk n ∨ f = L.bs n) := by
    rintro (e | e)
    · exact h.fs.ne (e ▸ h.dir n hn) (by decide) rfl
    · exact (e ▸ h.base n hn : MapAt w f _).ne h.fs rfl
  have := h.dirOnly hn (d' := settledDir (s.dir n) k) (hs.ch.mono fun k _ e => by
    rcases e with e | e
    · exact .inr (.inl e)
    · exact .inr (.inr (.inl e))) hs.dir hs.base hs.now ⟨[], World.ownsRow_nil _ _ _ 1, trivial⟩ hs.at_ (fun k hk => by simp [Value.ownBlock] at hk) hBw (h.fs.ch hs.ch hne)
  exact ⟨_, this, hs.ch, rfl, rfl, rfl⟩
end Go.Proofs.Ytlmkhieojgpgcaa
