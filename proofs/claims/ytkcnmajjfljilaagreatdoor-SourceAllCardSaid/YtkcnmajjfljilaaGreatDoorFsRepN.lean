/- Several texts in one: FsRep, FsName. -/
import Derived.Test.YtkcnmajjfljilaaGreatDoorFsDirs
/- simfs: what a file system in memory stands for. -/
namespace Go.Proofs.YtkcnmajjfljilaaGreatDoor
open Go.ChangeShapes Go.WideShapes Go.ChangeAt Go.RowKit Go.ChangeMaps Go.MapKept
open Go.Lib (byteCells byteCells_length byteCells_append strCells)
set_option linter.unusedVariables false

theorem settle_any {Kp : Nat → Prop} (B d bb nb k : Nat) (v : Value) (os : List FOp) (bl nl : List (Nm × Nat)) (w : World) (hd : DirAt w d bb nb v) (hb : MapAt w bb bl) (hn : MapAt w nb nl) (hne : bb ≠ nb) (hp : PendAt Kp B w v os)
    (hk : k ≤ os.length) (hlen : bl.length + os.length ≤ 1000000) (hlast : k = os.length → replay os bl = nl) :
    Calls Tryz.prog 102 #[.pointer (some ⟨d, 0, none⟩), .int .i64 (k : Int)] w fun e w' => e = .returned (.tuple #[]) ∧ ∃ nb', Settled d bb nb nb' (replay (os.take k) bl) (replay (os.take k) bl) w w' := by
  obtain ⟨vs, hrow, hops⟩ := hp
  rcases hrow.2 with ⟨rfl, h0⟩ | ⟨g, cap, cur, rfl, hg, hh, h1, h2, h3⟩
  · obtain rfl : os = [] := List.eq_nil_of_length_eq_zero h0
    obtain rfl : k = 0 := by simpa using hk
    refine (settle_nil d bb nb bl nl w hd hb hn).mono fun e w' ⟨he, hs⟩ => ⟨he, nb, ?_⟩
    have := hlast rfl
    simp only [replay, List.foldl_nil] at this
    subst this
    exact hs
  · refine settle_row (Kp := Kp) d bb nb g cap k os bl nl w hd hb hn hne (fun j hj => ?_) (fun e => ?_) h1 hk hlen h2 hlast
    · obtain ⟨fv, h4, h5⟩ := hops.get j hj
      have := hrow.cells (g := g) rfl j fv h4
      rw [add_at, Nat.zero_add] at this
      exact ⟨fv, this, h5⟩
    · exact hb.ne (show Cells w g cur 204 from hh) e.symm

def upd {ι α : Type} [DecidableEq ι] (g : ι → α) (i : ι) (a : α) : ι → α := fun j => if j = i then a else g j
theorem upd_same {ι α : Type} [DecidableEq ι] (g : ι → α) (i : ι) (a : α) : upd g i a i = a := if_pos rfl
theorem upd_other {ι α : Type} [DecidableEq ι] (g : ι → α) (i j : ι) (a : α) (h : j ≠ i) : upd g i a j = g j := if_neg h

structure Dir where
  base : List (Nm × Nat)
  now : List (Nm × Nat)
  pend : List FOp
/-- What a file system is, by blocks of files. -/
structure Fs where
  room : Int
  used : Int
  steps : Int
  fuse : Int
  on : Bool
  names : List Nm
  dir : Nm → Dir
  file : Nat → Option (List UInt8 × Nat)
/-- Where it lies. -/
structure Lay where
  M : Nat
  blk : Nm → Nat
  bs : Nm → Nat
  nw : Nm → Nat
  pv : Nm → Value
  fa : Nat → Option Addr
  fc : Nat → Nat
def Lay.fv (L : Lay) (x n : Nat) : Value := .slice (L.fa x) n (L.fc x)

def fileCells (A : Option Addr) (n c safe : Nat) : Array Value := #[.slice A n c, .int .i64 (safe : Int)]
structure FileAt (B : Nat) (w : World) (x : Nat) (A : Option Addr) (c : Nat) (b : List UInt8) (safe : Nat) : Prop where
  cells : Cells w x (fileCells A b.length c safe) 128
  row : w.ownsRow B 5 1 (.slice A b.length c) b.length (byteCells b)

def topOf (L : Lay) (ns : List Nm) : List (Nm × Nat) := ns.map fun n => (n, L.blk n)
/-- It lies there. -/
structure RepL (Kp : Nat → Prop) (B f : Nat) (L : Lay) (s : Fs) (w : World) : Prop where
  fs : FsAt w f L.M s.room s.used s.steps s.fuse s.on
  top : MapAt w L.M (topOf L s.names)
  dir : ∀ n ∈ s.names, DirAt w (L.blk n) (L.bs n) (L.nw n) (L.pv n)
  base : ∀ n ∈ s.names, MapAt w (L.bs n) (s.dir n).base
  now : ∀ n ∈ s.names, MapAt w (L.nw n) (s.dir n).now
  pend : ∀ n ∈ s.names, PendAt Kp B w (L.pv n) (s.dir n).pend
  file : ∀ x b sf, s.file x = some (b, sf) → FileAt B w x (L.fa x) (L.fc x) b sf
  low : B ≤ f ∧ B ≤ L.M
  lowd : ∀ n ∈ s.names, B ≤ L.blk n ∧ B ≤ L.bs n ∧ B ≤ L.nw n
  lowf : ∀ x b sf, s.file x = some (b, sf) → B ≤ x
  own : ∀ n ∈ s.names, L.bs n ≠ L.M ∧ L.nw n ≠ L.M ∧ L.bs n ≠ L.nw n
  sep : ∀ n ∈ s.names, ∀ m ∈ s.names, n ≠ m → L.blk n ≠ L.blk m ∧ L.bs n ≠ L.bs m ∧ L.nw n ≠ L.nw m ∧ L.bs n ≠ L.nw m ∧ ∀ k, (L.pv n).ownBlock = some k → (L.pv m).ownBlock ≠ some k
  fsep : ∀ x y bx sx b_y sy, s.file x = some (bx, sx) → s.file y = some (b_y, sy) → x ≠ y → ∀ k, (Value.slice (L.fa x) bx.length (L.fc x)).ownBlock = some k → (Value.slice (L.fa y) b_y.length (L.fc y)).ownBlock ≠ some k
  kold : ∀ k, Kp k → k < w.heap.size
  kf : ¬ Kp f ∧ ¬ Kp L.M
  kd : ∀ n ∈ s.names, ¬ Kp (L.blk n) ∧ ¬ Kp (L.bs n) ∧ ¬ Kp (L.nw n) ∧ ∀ k, (L.pv n).ownBlock = some k → ¬ Kp k
  kx : ∀ x b sf, s.file x = some (b, sf) → ¬ Kp x ∧ ∀ k, (Value.slice (L.fa x) b.length (L.fc x)).ownBlock = some k → ¬ Kp k
def Rep (Kp : Nat → Prop) (B f : Nat) (s : Fs) (w : World) : Prop := ∃ L, RepL Kp B f L s w

section
variable {Kp : Nat → Prop} {B f : Nat} {L : Lay} {s : Fs} {w w' : World} {S : Nat → Prop}
theorem FileAt.ch {x : Nat} {A : Option Addr} {c : Nat} {b : List UInt8} {sf : Nat} (h : FileAt B w x A c b sf) (k : Ch S w w') (h1 : ¬ S x) (h2 : ∀ r, (Value.slice A b.length c).ownBlock = some r → ¬ S r) : FileAt B w' x A c b sf :=
  ⟨h.cells.ch k h1, own_ch h.row k h2⟩
theorem PendAt.ch {v : Value} {os : List FOp} (h : PendAt Kp B w v os) (k : Ch S w w') (h1 : ∀ r, v.ownBlock = some r → ¬ S r) (h2 : FreeK Kp w S 9) (h3 : FreeK Kp w S 124) : PendAt Kp B w' v os := by
  obtain ⟨vs, a, b⟩ := h
  exact ⟨vs, own_ch a k h1, OpsAt.ch k h2 h3 b⟩
theorem own_block_nil {b : List UInt8} {A : Option Addr} {n m c : Nat} : (Value.slice A n c).ownBlock = (Value.slice A m c).ownBlock := by cases A <;> rfl

/-- All that a world is asked of lies where nothing turns. -/
structure Off (Kp S : Nat → Prop) (B f : Nat) (L : Lay) (s : Fs) (w : World) : Prop where
  top : ¬ S L.M
  dir : ∀ n ∈ s.names, ¬ S (L.blk n) ∧ ¬ S (L.bs n) ∧ ¬ S (L.nw n) ∧ ∀ k, (L.pv n).ownBlock = some k → ¬ S k
  file : ∀ x b sf, s.file x = some (b, sf) → ¬ S x ∧ ∀ k, (Value.slice (L.fa x) b.length (L.fc x)).ownBlock = some k → ¬ S k
  str : FreeK Kp w S 9
  ptr : FreeK Kp w S 124
/-- Where nothing but the cells of the file system itself turns. -/
theorem RepL.turned (h : RepL Kp B f L s w) (k : Ch S w w') (o : Off Kp S B f L s w) {room used steps fuse : Int} {on : Bool} (hf : FsAt w' f L.M room used steps fuse on) :
    RepL Kp B f L { s with room := room, used := used, steps := steps, fuse := fuse, on := on } w' :=
  { fs := hf, top := h.top.ch k o.top
    dir := fun n hn => (h.dir n hn).ch k (o.dir n hn).1
    base := fun n hn => (h.base n hn).ch k (o.dir n hn).2.1
    now := fun n hn => (h.now n hn).ch k (o.dir n hn).2.2.1
    pend := fun n hn => (h.pend n hn).ch k (o.dir n hn).2.2.2 o.str o.ptr
    file := fun x b sf hx => (h.file x b sf hx).ch k (o.file x b sf hx).1 (o.file x b sf hx).2
    low := h.low, lowd := h.lowd, lowf := h.lowf, own := h.own, sep := h.sep, fsep := h.fsep
    kold := fun i hi => Nat.lt_of_lt_of_le (h.kold i hi) k.size, kf := h.kf, kd := h.kd, kx := h.kx }
theorem PendAt.row {v : Value} {os : List FOp} (h : PendAt Kp B w v os) {k : Nat} (hk : v.ownBlock = some k) : ∃ c, Cells w k c 204 ∧ B ≤ k := by
  obtain ⟨vs, a, _⟩ := h
  exact own_cells a hk
theorem FileAt.blk {x : Nat} {A : Option Addr} {c : Nat} {b : List UInt8} {sf : Nat} (h : FileAt B w x A c b sf) {k : Nat} (hk : (Value.slice A b.length c).ownBlock = some k) : ∃ c, Cells w k c 5 ∧ B ≤ k := own_cells h.row hk
/-- Nothing of it lies in cells of another type. -/
theorem RepL.off_cells (h : RepL Kp B f L s w) (hS : ∀ k, k < w.heap.size → S k → ∃ c t, Cells w k c t ∧ t ≠ 146 ∧ t ≠ 204 ∧ t ≠ 128 ∧ t ≠ 5 ∧ t ≠ 9 ∧ t ≠ 124) (hlt : ∀ k, S k → k < w.heap.size) : Off Kp S B f L s w :=
  { top := fun hs => by obtain ⟨c, t, hc, _⟩ := hS _ (hlt _ hs) hs; exact h.top.ne hc rfl
    dir := fun n hn => ⟨fun hs => by obtain ⟨c, t, hc, ht, _⟩ := hS _ (hlt _ hs) hs; exact (h.dir n hn).ne hc (Ne.symm ht) rfl,
      fun hs => by obtain ⟨c, t, hc, _⟩ := hS _ (hlt _ hs) hs; exact (h.base n hn).ne hc rfl,
      fun hs => by obtain ⟨c, t, hc, _⟩ := hS _ (hlt _ hs) hs; exact (h.now n hn).ne hc rfl,
      fun k hk hs => by obtain ⟨c, t, hc, _, ht, _⟩ := hS _ (hlt _ hs) hs; obtain ⟨d, hd, _⟩ := (h.pend n hn).row hk; exact hd.ne hc (Ne.symm ht) rfl⟩
    file := fun x b sf hx => ⟨fun hs => by obtain ⟨c, t, hc, _, _, ht, _⟩ := hS _ (hlt _ hs) hs; exact (h.file x b sf hx).cells.ne hc (Ne.symm ht) rfl,
      fun k hk hs => by obtain ⟨c, t, hc, _, _, _, ht, _⟩ := hS _ (hlt _ hs) hs; obtain ⟨d, hd, _⟩ := (h.file x b sf hx).blk hk; exact hd.ne hc (Ne.symm ht) rfl⟩
    str := fun k hs _ c hc => by obtain ⟨d, t, hd, _, _, _, _, ht, _⟩ := hS _ (hlt _ hs) hs; exact hc.ne hd (Ne.symm ht) rfl
    ptr := fun k hs _ c hc => by obtain ⟨d, t, hd, _, _, _, _, _, ht⟩ := hS _ (hlt _ hs) hs; exact hc.ne hd (Ne.symm ht) rfl }
/-- Only the file system's own cells turn. -/
theorem RepL.fsOnly (h : RepL Kp B f L s w) (k : Ch (· = f) w w') {room used steps fuse : Int} {on : Bool} (hf : FsAt w' f L.M room used steps fuse on) :
    RepL Kp B f L { s with room := room, used := used, steps := steps, fuse := fuse, on := on } w' :=
  h.turned k (h.off_cells (fun i _ e => ⟨_, _, e ▸ h.fs, by decide, by decide, by decide, by decide, by decide, by decide⟩) (fun i e => e ▸ h.fs.lt)) hf
/-- Nothing turns but new blocks. -/
theorem RepL.quiet (h : RepL Kp B f L s w) (k : Ch (fun _ => False) w w') : RepL Kp B f L s w' :=
  h.turned k ⟨fun h => h, fun n hn => ⟨fun h => h, fun h => h, fun h => h, fun _ _ h => h⟩, fun x b sf hx => ⟨fun h => h, fun _ _ h => h⟩, fun _ h => h.elim, fun _ h => h.elim⟩ (h.fs.ch k fun h => h)

/-- One file turns, or comes. -/
theorem RepL.fileOnly (h : RepL Kp B f L s w) {x : Nat} {A : Option Addr} {c : Nat} {b : List UInt8} {sf : Nat}
    (hold : ∀ b0 s0, s.file x = some (b0, s0) → ∀ k, (Value.slice A b.length c).ownBlock = some k → (Value.slice (L.fa x) b0.length (L.fc x)).ownBlock = some k ∨ w.heap.size ≤ k)
    (hnew : s.file x = none → w.heap.size ≤ x ∧ ∀ k, (Value.slice A b.length c).ownBlock = some k → w.heap.size ≤ k)
    (hch : Ch (fun i => i = f ∨ i = x ∨ ∃ b0 s0, s.file x = some (b0, s0) ∧ (Value.slice (L.fa x) b0.length (L.fc x)).ownBlock = some i) w w') (hBw : B ≤ w.heap.size)
    (hx : FileAt B w' x A c b sf) {room used steps fuse : Int} {on : Bool} (hf : FsAt w' f L.M room used steps fuse on) :
    RepL Kp B f { L with fa := upd L.fa x A, fc := upd L.fc x c } { s with room := room, used := used, steps := steps, fuse := fuse, on := on, file := upd s.file x (some (b, sf)) } w' := by
  have kinds : ∀ i, i < w.heap.size → (i = f ∨ i = x ∨ ∃ b0 s0, s.file x = some (b0, s0) ∧ (Value.slice (L.fa x) b0.length (L.fc x)).ownBlock = some i) → ∃ d t, Cells w i d t ∧ t ≠ 146 ∧ t ≠ 204 ∧ t ≠ 9 ∧ t ≠ 124 := by
    rintro i hi (rfl | rfl | ⟨b0, s0, h1, h2⟩)
    · exact ⟨_, _, h.fs, by decide, by decide, by decide, by decide⟩
    · cases hfx : s.file i with
      | none => have := (hnew hfx).1; omega
      | some p => exact ⟨_, _, (h.file i p.1 p.2 hfx).cells, by decide, by decide, by decide, by decide⟩
    · obtain ⟨d, hd, _⟩ := (h.file x b0 s0 h1).blk h2
      exact ⟨_, _, hd, by decide, by decide, by decide, by decide⟩
  have k2 := hch.mono (T := fun i => i < w.heap.size ∧ (i = f ∨ i = x ∨ ∃ b0 s0, s.file x = some (b0, s0) ∧ (Value.slice (L.fa x) b0.length (L.fc x)).ownBlock = some i)) fun i hi hs => ⟨hi, hs⟩
  have fx : ∀ y by_ sy, s.file y = some (by_, sy) → y ≠ x → ¬ (y = f ∨ y = x ∨ ∃ b0 s0, s.file x = some (b0, s0) ∧ (Value.slice (L.fa x) b0.length (L.fc x)).ownBlock = some y) ∧ ∀ k, (Value.slice (L.fa y) by_.length (L.fc y)).ownBlock = some k → ¬ (k = f ∨ k = x ∨ ∃ b0 s0, s.file x = some (b0, s0) ∧ (Value.slice (L.fa x) b0.length (L.fc x)).ownBlock = some k) := by
    intro y by_ sy hy hne
    have hcy := (h.file y by_ sy hy).cells
    refine ⟨?_, fun k hk => ?_⟩
    · rintro (e | e | ⟨b0, s0, h1, h2⟩)
      · subst e; exact hcy.ne h.fs (by decide) rfl
      · exact hne e
      · obtain ⟨d, hd, _⟩ := (h.file x b0 s0 h1).blk h2
        exact hcy.ne hd (by decide) rfl
    · obtain ⟨d, hd, _⟩ := (h.file y by_ sy hy).blk hk
      rintro (e | e | ⟨b0, s0, h1, h2⟩)
      · subst e; exact hd.ne h.fs (by decide) rfl
      · subst e
        cases hfx : s.file k with
        | none => have := (hnew hfx).1; have := hd.lt; omega
        | some p => exact hd.ne (h.file k p.1 p.2 hfx).cells (by decide) rfl
      · exact h.fsep y x by_ sy b0 s0 hy h1 hne k hk h2
  have cross : ∀ y by_ sy, s.file y = some (by_, sy) → y ≠ x → ∀ k, (Value.slice A b.length c).ownBlock = some k → (Value.slice (L.fa y) by_.length (L.fc y)).ownBlock ≠ some k := by
    intro y by_ sy hy hne k hk hk2
    obtain ⟨d, hd, _⟩ := (h.file y by_ sy hy).blk hk2
    cases hfx : s.file x with
    | none => have := (hnew hfx).2 k hk; have := hd.lt; omega
    | some p =>
      rcases hold p.1 p.2 hfx k hk with h1 | h1
      · exact h.fsep x y p.1 p.2 by_ sy hfx hy (Ne.symm hne) k h1 hk2
      · have := hd.lt; omega
  exact
  { fs := hf
    top := h.top.ch k2 fun hs => by obtain ⟨d, t, hd, _⟩ := kinds _ hs.1 hs.2; exact h.top.ne hd rfl
    dir := fun n hn => (h.dir n hn).ch k2 fun hs => by obtain ⟨d, t, hd, ht, _⟩ := kinds _ hs.1 hs.2; exact (h.dir n hn).ne hd (Ne.symm ht) rfl
    base := fun n hn => (h.base n hn).ch k2 fun hs => by obtain ⟨d, t, hd, _⟩ := kinds _ hs.1 hs.2; exact (h.base n hn).ne hd rfl
    now := fun n hn => (h.now n hn).ch k2 fun hs => by obtain ⟨d, t, hd, _⟩ := kinds _ hs.1 hs.2; exact (h.now n hn).ne hd rfl
    pend := fun n hn => (h.pend n hn).ch k2 (fun r hr hs => by obtain ⟨d, t, hd, _, ht, _⟩ := kinds _ hs.1 hs.2; obtain ⟨e, he, _⟩ := (h.pend n hn).row hr; exact he.ne hd (Ne.symm ht) rfl)
      (fun i hs _ e he => by obtain ⟨d, t, hd, _, _, ht, _⟩ := kinds _ hs.1 hs.2; exact he.ne hd (Ne.symm ht) rfl) (fun i hs _ e he => by obtain ⟨d, t, hd, _, _, _, ht⟩ := kinds _ hs.1 hs.2; exact he.ne hd (Ne.symm ht) rfl)
    file := fun y by_ sy hy => by
      by_cases e : y = x
      · subst e
        simp only [upd_same] at hy ⊢
        injection hy with hy; injection hy with h1 h2; subst h1; subst h2
        exact hx
      · simp only [upd_other _ _ _ _ e] at hy ⊢
        exact (h.file y by_ sy hy).ch hch (fx y by_ sy hy e).1 (fx y by_ sy hy e).2
    low := h.low, lowd := h.lowd
    lowf := fun y by_ sy hy => by
      by_cases e : y = x
      · subst e
        cases hfx : s.file y with
        | none => have := (hnew hfx).1; omega
        | some p => exact h.lowf y p.1 p.2 hfx
      · simp only [upd_other _ _ _ _ e] at hy
        exact h.lowf y by_ sy hy
    own := h.own, sep := h.sep
    fsep := fun y z b1 s1 b2 s2 hy hz hne k hk => by
      by_cases e : y = x
      · subst e
        have e2 : z ≠ y := fun e => hne e.symm
        simp only [upd_same] at hy hk
        simp only [upd_other _ _ _ _ e2] at hz ⊢
        injection hy with hy; injection hy with h1 h2; subst h1; subst h2
        exact cross z b2 s2 hz e2 k hk
      · by_cases e2 : z = x
        · subst e2
          simp only [upd_same] at hz ⊢
          simp only [upd_other _ _ _ _ e] at hy hk
          injection hz with hz; injection hz with h1 h2; subst h1; subst h2
          exact fun h' => cross y b1 s1 hy e k h' hk
        · simp only [upd_other _ _ _ _ e] at hy hk
          simp only [upd_other _ _ _ _ e2] at hz ⊢
          exact h.fsep y z b1 s1 b2 s2 hy hz hne k hk
    kold := fun i hi => Nat.lt_of_lt_of_le (h.kold i hi) hch.size, kf := h.kf, kd := h.kd
    kx := fun y b1 s1 hy => by
      by_cases e : y = x
      · subst e
        simp only [upd_same] at hy ⊢
        injection hy with hy; injection hy with h1 h2; subst h1; subst h2
        cases hfx : s.file y with
        | none =>
          refine ⟨fun hk => ?_, fun k hk hkk => ?_⟩
          · have := h.kold _ hk; have := (hnew hfx).1; omega
          · have := h.kold _ hkk; have := (hnew hfx).2 k hk; omega
        | some p =>
          refine ⟨(h.kx y p.1 p.2 hfx).1, fun k hk hkk => ?_⟩
          rcases hold p.1 p.2 hfx k hk with h1 | h1
          · exact (h.kx y p.1 p.2 hfx).2 k h1 hkk
          · have := h.kold _ hkk; omega
      · simp only [upd_other _ _ _ _ e] at hy ⊢
        exact h.kx y b1 s1 hy }
/-- One directory turns. -/
theorem RepL.dirOnly (h : RepL Kp B f L s w) {n : Nm} (hn : n ∈ s.names) {nb' : Nat} {v' : Value} {d' : Dir}
    (hch : Ch (fun i => i = f ∨ i = L.blk n ∨ i = L.bs n ∨ i = L.nw n ∨ (L.pv n).ownBlock = some i) w w')
    (hd : DirAt w' (L.blk n) (L.bs n) nb' v') (hb : MapAt w' (L.bs n) d'.base) (hnow : MapAt w' nb' d'.now) (hp : PendAt Kp B w' v' d'.pend)
    (hnb : nb' = L.nw n ∨ w.heap.size ≤ nb') (hv : ∀ k, v'.ownBlock = some k → (L.pv n).ownBlock = some k ∨ w.heap.size ≤ k) (hBw : B ≤ w.heap.size) {room used steps fuse : Int} {on : Bool} (hf : FsAt w' f L.M room used steps fuse on) :
    RepL Kp B f { L with nw := upd L.nw n nb', pv := upd L.pv n v' } { s with room := room, used := used, steps := steps, fuse := fuse, on := on, dir := upd s.dir n d' } w' := by
  have kinds : ∀ i, (i = f ∨ i = L.blk n ∨ i = L.bs n ∨ i = L.nw n ∨ (L.pv n).ownBlock = some i) → (∃ d t, Cells w i d t ∧ t ≠ 128 ∧ t ≠ 5 ∧ t ≠ 9 ∧ t ≠ 124) ∨ ∃ l, MapAt w i l := by
    rintro i (rfl | rfl | rfl | rfl | e)
    · exact .inl ⟨_, _, h.fs, by decide, by decide, by decide, by decide⟩
    · exact .inl ⟨_, _, h.dir n hn, by decide, by decide, by decide, by decide⟩
    · exact .inr ⟨_, h.base n hn⟩
    · exact .inr ⟨_, h.now n hn⟩
    · obtain ⟨d, hd, _⟩ := (h.pend n hn).row e
      exact .inl ⟨_, _, hd, by decide, by decide, by decide, by decide⟩
  have notK : ∀ {i : Nat} {c : Array Value} {t : TypeId}, Cells w i c t → (t = 128 ∨ t = 5 ∨ t = 9 ∨ t = 124) → ¬ (i = f ∨ i = L.blk n ∨ i = L.bs n ∨ i = L.nw n ∨ (L.pv n).ownBlock = some i) := by
    intro i c t hc ht hs
    rcases kinds i hs with ⟨d, u, hd, h1, h2, h3, h4⟩ | ⟨l, hl⟩
    · refine hc.ne hd ?_ rfl
      rcases ht with rfl | rfl | rfl | rfl
      · exact h1.symm
      · exact h2.symm
      · exact h3.symm
      · exact h4.symm
    · exact hl.ne hc rfl
  have offM : ∀ m ∈ s.names, m ≠ n → ¬ (L.blk m = f ∨ L.blk m = L.blk n ∨ L.blk m = L.bs n ∨ L.blk m = L.nw n ∨ (L.pv n).ownBlock = some (L.blk m)) := by
    rintro m hm hne (e | e | e | e | e)
    · exact (h.dir m hm).ne (e ▸ h.fs) (by decide) rfl
    · exact (h.sep m hm n hn hne).1 e
    · exact (e ▸ h.base n hn : MapAt w (L.blk m) _).ne (h.dir m hm) rfl
    · exact (e ▸ h.now n hn : MapAt w (L.blk m) _).ne (h.dir m hm) rfl
    · obtain ⟨d, hd, _⟩ := (h.pend n hn).row e
      exact (h.dir m hm).ne hd (by decide) rfl
  have offMap : ∀ (i : Nat) (l : List (Nm × Nat)), MapAt w i l → i ≠ L.bs n → i ≠ L.nw n → ¬ (i = f ∨ i = L.blk n ∨ i = L.bs n ∨ i = L.nw n ∨ (L.pv n).ownBlock = some i) := by
    rintro i l hl h1 h2 (e | e | e | e | e)
    · exact hl.ne (e ▸ h.fs) rfl
    · exact hl.ne (e ▸ h.dir n hn) rfl
    · exact h1 e
    · exact h2 e
    · obtain ⟨d, hd, _⟩ := (h.pend n hn).row e
      exact hl.ne hd rfl
  have offR : ∀ m ∈ s.names, m ≠ n → ∀ r, (L.pv m).ownBlock = some r → ¬ (r = f ∨ r = L.blk n ∨ r = L.bs n ∨ r = L.nw n ∨ (L.pv n).ownBlock = some r) := by
    rintro m hm hne r hr hs
    obtain ⟨d, hd, _⟩ := (h.pend m hm).row hr
    rcases hs with e | e | e | e | e
    · exact hd.ne (e ▸ h.fs) (by decide) rfl
    · exact hd.ne (e ▸ h.dir n hn) (by decide) rfl
    · exact (e ▸ h.base n hn : MapAt w r _).ne hd rfl
    · exact (e ▸ h.now n hn : MapAt w r _).ne hd rfl
    · exact (h.sep m hm n hn hne).2.2.2.2 r hr e
  have hsepN : ∀ m ∈ s.names, m ≠ n → nb' ≠ L.nw m ∧ nb' ≠ L.bs m ∧ ∀ k, v'.ownBlock = some k → (L.pv m).ownBlock ≠ some k := by
    intro m hm hne
    refine ⟨?_, ?_, fun k hk hk2 => ?_⟩
    · rcases hnb with e | e
      · rw [e]; exact (h.sep n hn m hm (Ne.symm hne)).2.2.1
      · have := (h.now m hm).lt; omega
    · rcases hnb with e | e
      · rw [e]; exact fun e => (h.sep m hm n hn hne).2.2.2.1 e.symm
      · have := (h.base m hm).lt; omega
    · rcases hv k hk with h1 | h1
      · exact (h.sep n hn m hm (Ne.symm hne)).2.2.2.2 k h1 hk2
      · obtain ⟨d, hd, _⟩ := (h.pend m hm).row hk2
        have := hd.lt; omega
  exact
  { fs := hf
    top := h.top.ch hch (offMap _ _ h.top (h.own n hn).1.symm (h.own n hn).2.1.symm)
    dir := fun m hm => by
      by_cases e : m = n
      · subst e; simp only [upd_same]; exact hd
      · simp only [upd_other _ _ _ _ e]; exact (h.dir m hm).ch hch (offM m hm e)
    base := fun m hm => by
      by_cases e : m = n
      · subst e; simp only [upd_same]; exact hb
      · simp only [upd_other _ _ _ _ e]; exact (h.base m hm).ch hch (offMap _ _ (h.base m hm) (h.sep m hm n hn e).2.1 (h.sep m hm n hn e).2.2.2.1)
    now := fun m hm => by
      by_cases e : m = n
      · subst e; simp only [upd_same]; exact hnow
      · simp only [upd_other _ _ _ _ e]; exact (h.now m hm).ch hch (offMap _ _ (h.now m hm) (fun h' => (h.sep n hn m hm (Ne.symm e)).2.2.2.1 h'.symm) (h.sep m hm n hn e).2.2.1)
    pend := fun m hm => by
      by_cases e : m = n
      · subst e; simp only [upd_same]; exact hp
      · simp only [upd_other _ _ _ _ e]
        exact (h.pend m hm).ch hch (offR m hm e) (fun i hs _ c hc => notK hc (.inr (.inr (.inl rfl))) hs) (fun i hs _ c hc => notK hc (.inr (.inr (.inr rfl))) hs)
    file := fun x b sf hx => (h.file x b sf hx).ch hch (notK (h.file x b sf hx).cells (.inl rfl)) fun r hr => by
      obtain ⟨d, hd, _⟩ := (h.file x b sf hx).blk hr
      exact notK hd (.inr (.inl rfl))
    low := h.low
    lowd := fun m hm => by
      by_cases e : m = n
      · subst e
        simp only [upd_same]
        refine ⟨(h.lowd m hm).1, (h.lowd m hm).2.1, ?_⟩
        rcases hnb with e | e
        · rw [e]; exact (h.lowd m hm).2.2
        · omega
      · simp only [upd_other _ _ _ _ e]; exact h.lowd m hm
    lowf := h.lowf
    own := fun m hm => by
      by_cases e : m = n
      · subst e
        simp only [upd_same]
        refine ⟨(h.own m hm).1, ?_, ?_⟩
        · rcases hnb with e | e
          · rw [e]; exact (h.own m hm).2.1
          · have := h.top.lt; omega
        · rcases hnb with e | e
          · rw [e]; exact (h.own m hm).2.2
          · have := (h.base m hm).lt; omega
      · simp only [upd_other _ _ _ _ e]; exact h.own m hm
    sep := fun m hm q hq hne => by
      by_cases e : m = n
      · subst e
        have e2 : q ≠ m := Ne.symm hne
        simp only [upd_same, upd_other _ _ _ _ e2]
        exact ⟨(h.sep m hm q hq hne).1, (h.sep m hm q hq hne).2.1, (hsepN q hq e2).1, (h.sep m hm q hq hne).2.2.2.1, (hsepN q hq e2).2.2⟩
      · by_cases e2 : q = n
        · subst e2
          simp only [upd_same, upd_other _ _ _ _ e]
          exact ⟨(h.sep m hm q hq hne).1, (h.sep m hm q hq hne).2.1, (hsepN m hm e).1.symm, (hsepN m hm e).2.1.symm, fun k h1 h2 => (hsepN m hm e).2.2 k h2 h1⟩
        · simp only [upd_other _ _ _ _ e, upd_other _ _ _ _ e2]
          exact h.sep m hm q hq hne
    fsep := h.fsep
    kold := fun i hi => Nat.lt_of_lt_of_le (h.kold i hi) hch.size, kf := h.kf, kx := h.kx
    kd := fun m hm => by
      by_cases e : m = n
      · subst e
        simp only [upd_same]
        refine ⟨(h.kd m hm).1, (h.kd m hm).2.1, ?_, fun k hk hkk => ?_⟩
        · rcases hnb with e | e
          · rw [e]; exact (h.kd m hm).2.2.1
          · exact fun hk => by have := h.kold _ hk; omega
        · rcases hv k hk with h1 | h1
          · exact (h.kd m hm).2.2.2 k h1 hkk
          · have := h.kold _ hkk; omega
      · simp only [upd_other _ _ _ _ e]; exact h.kd m hm }
end
/-- Below B nothing has turned; nor has any block that is kept. -/
structure Turn (Kp : Nat → Prop) (B : Nat) (w w' : World) : Prop where
  below : Below B w w'
  ch : Ch (fun k => ¬ Kp k) w w'
theorem Turn.size {Kp : Nat → Prop} {B : Nat} {w w' : World} (h : Turn Kp B w w') : w.heap.size ≤ w'.heap.size := h.below.size
theorem Turn.trans {Kp : Nat → Prop} {B : Nat} {a b c : World} (h : Turn Kp B a b) (k : Turn Kp B b c) : Turn Kp B a c := ⟨h.below.trans k.below, h.ch.trans k.ch⟩
theorem Turn.of {Kp : Nat → Prop} {B : Nat} {w w' : World} (h : Below w.heap.size w w') (hB : B ≤ w.heap.size) : Turn Kp B w w' :=
  ⟨h.mono hB, ⟨h.os, h.tape, h.output, h.size, fun k hk _ => h.block k hk⟩⟩
theorem Ch.toTurn {Kp S : Nat → Prop} {B : Nat} {a w : World} (h : Ch S a w) (hB : ∀ k, k < a.heap.size → S k → B ≤ k ∧ ¬ Kp k) (hBs : B ≤ a.heap.size) : Turn Kp B a w :=
  ⟨h.toBelow (fun k hk hs => (hB k hk hs).1) hBs, h.mono fun k hk hs => (hB k hk hs).2⟩
section
variable {Kp : Nat → Prop} {B f : Nat} {L : Lay} {s : Fs} {w w' : World}
theorem RepL.lowF (h : RepL Kp B f L s w) : B ≤ f ∧ ¬ Kp f := ⟨h.low.1, h.kf.1⟩
theorem RepL.lowM (h : RepL Kp B f L s w) : B ≤ L.M ∧ ¬ Kp L.M := ⟨h.low.2, h.kf.2⟩
theorem RepL.lowX (h : RepL Kp B f L s w) {x : Nat} {b : List UInt8} {sf : Nat} (hx : s.file x = some (b, sf)) : B ≤ x ∧ ¬ Kp x := ⟨h.lowf x b sf hx, (h.kx x b sf hx).1⟩
/-- What is kept may turn as it likes. -/
theorem RepL.kept (h : RepL Kp B f L s w) {S : Nat → Prop} (k : Ch S w w') (hS : ∀ i, i < w.heap.size → S i → Kp i) : RepL Kp B f L s w' := by
  have k2 := k.mono (T := Kp) hS
  exact h.turned k2
    { top := h.kf.2
      dir := fun n hn => ⟨(h.kd n hn).1, (h.kd n hn).2.1, (h.kd n hn).2.2.1, (h.kd n hn).2.2.2⟩
      file := fun x b sf hx => h.kx x b sf hx
      str := fun i hi hn => (hn hi).elim
      ptr := fun i hi hn => (hn hi).elim } (h.fs.ch k2 h.kf.1)
/-- New blocks are kept from now on. -/
theorem RepL.more (h : RepL Kp B f L s w) (k : Ch (fun _ => False) w w') {Kq : Nat → Prop} (hq : ∀ i, Kq i → Kp i ∨ (w.heap.size ≤ i ∧ i < w'.heap.size)) : RepL Kq B f L s w' := by
  have h' := h.quiet k
  have big : ∀ {i : Nat}, i < w.heap.size → ¬ Kp i → ¬ Kq i := fun hi hn hk => by
    rcases hq _ hk with h1 | h1
    · exact hn h1
    · omega
  have ops : ∀ {vs : List Value} {os : List FOp}, OpsAt Kp w vs os → OpsAt Kq w vs os := by
    intro vs
    induction vs with
    | nil => intro os ho; cases os with
      | nil => trivial
      | cons o os => exact ho.elim
    | cons v vs ih => intro os ho; cases os with
      | nil => exact ho.elim
      | cons o os =>
        refine ⟨?_, ih ho.2⟩
        have h1 := ho.1
        cases o with
        | create a x => obtain ⟨p, q, e, a1, a2, a3, n1, n2⟩ := h1; exact ⟨p, q, e, a1, a2, a3, big a1.lt n1, big a2.lt n2⟩
        | rename a b x => obtain ⟨p, q, r, e, a1, a2, a3, a4, a5, n1, n2, n3⟩ := h1; exact ⟨p, q, r, e, a1, a2, a3, a4, a5, big a1.lt n1, big a2.lt n2, big a3.lt n3⟩
        | remove a => obtain ⟨p, e, a1, a2, n1⟩ := h1; exact ⟨p, e, a1, a2, big a1.lt n1⟩
  have fr : ∀ t, FreeK Kq w (fun _ => False) t := fun t i hi => hi.elim
  exact
  { fs := h'.fs, top := h'.top, dir := h'.dir, base := h'.base, now := h'.now
    pend := fun n hn => by
      obtain ⟨vs, h1, h2⟩ := h.pend n hn
      exact PendAt.ch ⟨vs, h1, ops h2⟩ k (fun _ _ hs => hs) (fr _) (fr _)
    file := h'.file, low := h'.low, lowd := h'.lowd, lowf := h'.lowf, own := h'.own, sep := h'.sep, fsep := h'.fsep
    kold := fun i hi => by
      rcases hq i hi with h1 | h1
      · exact h'.kold i h1
      · exact h1.2
    kf := ⟨big h.fs.lt h.kf.1, big h.top.lt h.kf.2⟩
    kd := fun n hn => ⟨big (h.dir n hn).lt (h.kd n hn).1, big (h.base n hn).lt (h.kd n hn).2.1, big (h.now n hn).lt (h.kd n hn).2.2.1, fun i hi => by
      obtain ⟨d, hd, _⟩ := (h.pend n hn).row hi
      exact big hd.lt ((h.kd n hn).2.2.2 i hi)⟩
    kx := fun x b sf hx => ⟨big (h.file x b sf hx).cells.lt (h.kx x b sf hx).1, fun i hi => by
      obtain ⟨d, hd, _⟩ := (h.file x b sf hx).blk hi
      exact big hd.lt ((h.kx x b sf hx).2 i hi)⟩ }
theorem Rep.kept (h : Rep Kp B f s w) {S : Nat → Prop} (k : Ch S w w') (hS : ∀ i, i < w.heap.size → S i → Kp i) : Rep Kp B f s w' := by
  obtain ⟨L, h⟩ := h; exact ⟨L, h.kept k hS⟩
theorem Rep.more (h : Rep Kp B f s w) (k : Ch (fun _ => False) w w') {Kq : Nat → Prop} (hq : ∀ i, Kq i → Kp i ∨ (w.heap.size ≤ i ∧ i < w'.heap.size)) : Rep Kq B f s w' := by
  obtain ⟨L, h⟩ := h; exact ⟨L, h.more k hq⟩
end
end Go.Proofs.YtkcnmajjfljilaaGreatDoor

/- simfs: what a name is; what a room is. -/
namespace Go.Proofs.YtkcnmajjfljilaaGreatDoor
open Go.ChangeShapes Go.WideShapes Go.ChangeAt Go.RowKit Go.ChangeMaps Go.MapKept
set_option linter.unusedVariables false

def okc (c : UInt8) : Bool := decide ((97 ≤ c.toNat ∧ c.toNat ≤ 122) ∨ (48 ≤ c.toNat ∧ c.toNat ≤ 57) ∨ c.toNat = 46)
def right (l : Nm) : Bool := decide (1 ≤ l.length ∧ l.length ≤ 32) && l.all okc
theorem take_snocS (s : ByteArray) (k : Nat) (h : k < s.size) : s.data.toList.take (k + 1) = s.data.toList.take k ++ [s[k]] := by
  have h' : k < s.data.toList.length := by simpa using h
  rw [take_snoc _ k h']
  simp
  rfl
set_option maxHeartbeats 2000000 in
theorem isName_any (s : ByteArray) (w : World) : Calls Tryz.prog 171 #[.string s] w fun e w' => e = .returned (.bool (right s.data.toList)) ∧ w = w' := by
  by_cases h0 : s = ByteArray.empty
  · subst h0
    have HR := Lib.hid (show right ByteArray.empty.data.toList = false from rfl)
    go_enter Tryz.func171, Tryz.ntmps171
    go_wp2
    rw [HR.out]
    go_ret
    exact ⟨rfl, rfl⟩
  · have hne := str_ne h0
    have he : s.toList.isEmpty = false := by
      rw [Lib.toList_data, List.isEmpty_eq_false_iff]
      exact fun e => h0 (str_ext (by rw [e]; rfl))
    clear hne
    have hsz : 1 ≤ s.size := by
      rcases Nat.eq_zero_or_pos s.size with h | h
      · exact absurd (str_ext (by rw [List.eq_nil_of_length_eq_zero (l := s.data.toList) (by simpa using h)]; rfl)) h0
      · exact h
    by_cases h32 : 32 < s.size
    · have HR := Lib.hid (show right s.data.toList = false by simp [right]; intro h; omega)
      have hg : decide ((32 : Int) < (s.size : Int)) = true := decide_eq_true (by omega)
      go_enter Tryz.func171, Tryz.ntmps171
      go_wp2
      rw [HR.out]
      go_ret
      exact ⟨rfl, rfl⟩
    · have hg : decide ((32 : Int) < (s.size : Int)) = false := decide_eq_false (by omega)
      have HB := Lib.hid (show ∀ k (h : k < s.size), okc s[k] = false → right s.data.toList = false from fun k h hk => by
        simp only [right, Bool.and_eq_false_iff]
        refine .inr ?_
        rw [List.all_eq_false]
        exact ⟨s[k], by show s.data[k] ∈ s.data.toList; simp, by simp [hk]⟩)
      have HG := Lib.hid (show s.data.toList.all okc = true → right s.data.toList = true from fun h => by
        simp only [right, h, Bool.and_true, decide_eq_true_eq]
        simp; omega)
      go_enter Tryz.func171, Tryz.ntmps171
      go_wp2
      go_loop [14] (fun i => ∃ k : Nat, k ≤ s.size ∧ i = .int .i64 (k : Int) ∧ (s.data.toList.take k).all okc = true) (fun i => s.size - (intOf i).toNat)
      case atStart => exact ⟨0, Nat.zero_le _, rfl, rfl⟩
      case round =>
        obtain ⟨k, hk, rfl, hall⟩ := hrel
        have HA := Lib.hid hall
        clear hall
        by_cases hlt : k < s.size
        · have HT := Lib.hid (take_snocS s k hlt)
          obtain ⟨c, hc⟩ : ∃ c, s[k] = c := ⟨_, rfl⟩
          have HC := Lib.hid hc
          obtain ⟨m, hm⟩ : ∃ m, c.toNat = m := ⟨_, rfl⟩
          have HM := Lib.hid hm
          have HN : Hid (s[k].toNat = m) := Lib.hid (by rw [hc, hm])
          have hm256 : m < 256 := by rw [← hm]; exact c.toNat_lt
          clear hc hm
          have hok : okc c = true → Hid ((s.data.toList.take (k + 1)).all okc = true) := fun h => Lib.hid (by rw [HT.out, HC.out, List.all_append, HA.out]; simp [h])
          have HBC := Lib.hid (fun h => HB.out k hlt (by rw [HC.out]; exact h))
          clear HT HB
          by_cases q1 : m < 97
          · have e1 : decide ((s[k].toNat : Int) < 97) = true := decide_eq_true (by have := HN.out; omega)
            by_cases q2 : m < 48
            · have e2 : decide ((s[k].toNat : Int) < 48) = true := decide_eq_true (by have := HN.out; omega)
              by_cases q3 : m = 46
              · have HO := hok (by unfold okc; rw [HM.out]; exact decide_eq_true (.inr (.inr q3)))
                have e3 : ((s[k].toNat : Int) != 46) = false := by rw [bne_eq_false_iff_eq]; have := HN.out; omega
                clear hok
                go_wp2
                go_round
                case rel => exact ⟨k + 1, by omega, by go_num, HO.out⟩
                case measure => simp [intOf]; omega
              · have HO := Lib.hid (HBC.out (by unfold okc; rw [HM.out]; exact decide_eq_false (by omega)))
                have e3 : ((s[k].toNat : Int) != 46) = true := by rw [bne_iff_ne]; have := HN.out; omega
                clear hok
                go_wp2
                go_ret
                exact ⟨by rw [HO.out]; rfl, rfl⟩
            · have e2 : decide ((s[k].toNat : Int) < 48) = false := decide_eq_false (by have := HN.out; omega)
              by_cases q3 : m ≤ 57
              · have HO := hok (by unfold okc; rw [HM.out]; exact decide_eq_true (.inr (.inl ⟨by omega, q3⟩)))
                have e3 : decide ((57 : Int) < (s[k].toNat : Int)) = false := decide_eq_false (by have := HN.out; omega)
                clear hok
                go_wp2
                go_round
                case rel => exact ⟨k + 1, by omega, by go_num, HO.out⟩
                case measure => simp [intOf]; omega
              · have HO := Lib.hid (HBC.out (by unfold okc; rw [HM.out]; exact decide_eq_false (by omega)))
                have e3 : decide ((57 : Int) < (s[k].toNat : Int)) = true := decide_eq_true (by have := HN.out; omega)
                have e4 : ((s[k].toNat : Int) != 46) = true := by rw [bne_iff_ne]; have := HN.out; omega
                clear hok
                go_wp2
                go_ret
                exact ⟨by rw [HO.out]; rfl, rfl⟩
          · have e1 : decide ((s[k].toNat : Int) < 97) = false := decide_eq_false (by have := HN.out; omega)
            by_cases q2 : m ≤ 122
            · have HO := hok (by unfold okc; rw [HM.out]; exact decide_eq_true (.inl ⟨by omega, q2⟩))
              have e2 : decide ((122 : Int) < (s[k].toNat : Int)) = false := decide_eq_false (by have := HN.out; omega)
              clear hok
              go_wp2
              go_round
              case rel => exact ⟨k + 1, by omega, by go_num, HO.out⟩
              case measure => simp [intOf]; omega
            · have HO := Lib.hid (HBC.out (by unfold okc; rw [HM.out]; exact decide_eq_false (by omega)))
              have e2 : decide ((122 : Int) < (s[k].toNat : Int)) = true := decide_eq_true (by have := HN.out; omega)
              have e3 : decide ((s[k].toNat : Int) < 48) = false := decide_eq_false (by have := HN.out; omega)
              have e4 : decide ((57 : Int) < (s[k].toNat : Int)) = true := decide_eq_true (by have := HN.out; omega)
              have e5 : ((s[k].toNat : Int) != 46) = true := by rw [bne_iff_ne]; have := HN.out; omega
              clear hok
              go_wp2
              go_ret
              exact ⟨by rw [HO.out]; rfl, rfl⟩
        · have hz := Lib.hid (List.take_of_length_le (l := s.data.toList) (i := k) (by simp; omega))
          go_wp2
          go_ret
          rw [hz.out] at HA
          exact ⟨by rw [HG.out HA.out]; rfl, rfl⟩

def isRoom (n : Int) : Bool := decide (0 ≤ n ∧ n ≤ 1073741824)
theorem isRoom_any (n : Int) (w : World) : Calls Tryz.prog 24 #[.int .i64 n] w fun e w' => e = .returned (.bool (isRoom n)) ∧ w = w' := by
  by_cases h0 : 0 ≤ n
  · by_cases h1 : n ≤ 1073741824
    · have HR := Lib.hid (show isRoom n = true by simp [isRoom, h0, h1])
      go_enter Tryz.func24, Tryz.ntmps24
      go_wp2
      rw [HR.out]
      go_ret
      exact ⟨rfl, rfl⟩
    · have HR := Lib.hid (show isRoom n = false by simp [isRoom, h0, h1])
      go_enter Tryz.func24, Tryz.ntmps24
      go_wp2
      rw [HR.out]
      go_ret
      exact ⟨rfl, rfl⟩
  · have HR := Lib.hid (show isRoom n = false by simp [isRoom, h0])
    go_enter Tryz.func24, Tryz.ntmps24
    go_wp2
    rw [HR.out]
    go_ret
    exact ⟨rfl, rfl⟩
end Go.Proofs.YtkcnmajjfljilaaGreatDoor
