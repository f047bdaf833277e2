/- The statement FsPlain: what lies in memory beside the file system. -/
import Derived.Test.YtlmkhieojgpgcaaFsPl
import Derived.Test.YtlmkhieojgpgcaaFsOut2
import Derived.Laws.OwnMore
namespace Go.Proofs.Ytlmkhieojgpgcaa
open Go.ChangeShapes Go.WideShapes Go.ChangeAt Go.RowKit Go.ChangeMaps Go.MapKept
set_option linter.unusedVariables false

/-- What is kept turns, and new blocks come, which are kept too. -/
theorem RepL.mine {Kp S : Nat → Prop} {B f : Nat} {L : Lay} {s : Fs} {w w' : World} (h : RepL Kp B f L s w) (k : Ch S w w') (hS : ∀ i, i < w.heap.size → S i → Kp i) : RepL (fun i => Kp i ∨ (w.heap.size ≤ i ∧ i < w'.heap.size)) B f L s w' := by
  have k2 := k.mono (T := Kp) hS
  have h' := h.kept k hS
  have big : ∀ {i : Nat}, i < w.heap.size → ¬ Kp i → ¬ (Kp i ∨ (w.heap.size ≤ i ∧ i < w'.heap.size)) := fun hi hn hk => by
    rcases hk with h1 | h1
    · exact hn h1
    · omega
  have ops : ∀ {vs : List Value} {os : List FOp}, OpsAt Kp w vs os → OpsAt (fun i => Kp i ∨ (w.heap.size ≤ i ∧ i < w'.heap.size)) w vs os := by
    intro vs
    induction vs with
    | nil => intro os ho; cases os with
      | nil => trivial
      | cons o os => exact ho.elim
    | cons v vs ih => intro os ho; cases os with
      | nil => exact ho.elim
      | cons o os =>
        refine ⟨?_, ih ho.2⟩
        have h1 := ho.1
        cases o with
        | create a x => obtain ⟨p, q, e, a1, a2, a3, n1, n2⟩ := h1; exact ⟨p, q, e, a1, a2, a3, big a1.lt n1, big a2.lt n2⟩
        | rename a b x => obtain ⟨p, q, r, e, a1, a2, a3, a4, a5, n1, n2, n3⟩ := h1; exact ⟨p, q, r, e, a1, a2, a3, a4, a5, big a1.lt n1, big a2.lt n2, big a3.lt n3⟩
        | remove a => obtain ⟨p, e, a1, a2, n1⟩ := h1; exact ⟨p, e, a1, a2, big a1.lt n1⟩
  have fr : ∀ t, FreeK (fun i => Kp i ∨ (w.heap.size ≤ i ∧ i < w'.heap.size)) w Kp t := fun t i hi hn => (hn (.inl hi)).elim
  exact
  { fs := h'.fs, top := h'.top, dir := h'.dir, base := h'.base, now := h'.now
    pend := fun n hn => by
      obtain ⟨vs, h1, h2⟩ := h.pend n hn
      exact PendAt.ch ⟨vs, h1, ops h2⟩ k2 (h.kd n hn).2.2.2 (fr _) (fr _)
    file := h'.file, low := h'.low, lowd := h'.lowd, lowf := h'.lowf, own := h'.own, sep := h'.sep, fsep := h'.fsep
    kold := fun i hi => by
      rcases hi with h1 | h1
      · exact h'.kold i h1
      · exact h1.2
    kf := ⟨big h.fs.lt h.kf.1, big h.top.lt h.kf.2⟩
    kd := fun n hn => ⟨big (h.dir n hn).lt (h.kd n hn).1, big (h.base n hn).lt (h.kd n hn).2.1, big (h.now n hn).lt (h.kd n hn).2.2.1, fun i hi => by
      obtain ⟨d, hd, _⟩ := (h.pend n hn).row hi
      exact big hd.lt ((h.kd n hn).2.2.2 i hi)⟩
    kx := fun x b sf hx => ⟨big (h.file x b sf hx).cells.lt (h.kx x b sf hx).1, fun i hi => by
      obtain ⟨d, hd, _⟩ := (h.file x b sf hx).blk hi
      exact big hd.lt ((h.kx x b sf hx).2 i hi)⟩ }

/-- The law's own memory: two variables, two rows of texts, and the call at hand. -/
structure MineK (Kp : Nat → Prop) (B cn cd : Nat) (nv dv : Value) (ns ds : List Nm) (w : World) : Prop where
  vn : Cells w cn #[nv] 35
  vd : Cells w cd #[dv] 35
  rn : w.ownsRow B 9 1 nv ns.length (ns.map encStr)
  rd : w.ownsRow B 9 1 dv ds.length (ds.map encStr)
  sep : ∀ k, nv.ownBlock = some k → dv.ownBlock ≠ some k
  kn : Kp cn ∧ B ≤ cn
  kd : Kp cd ∧ B ≤ cd
  krn : ∀ k, nv.ownBlock = some k → Kp k
  krd : ∀ k, dv.ownBlock = some k → Kp k
  ne : cn ≠ cd
theorem MineK.ch {Kp S : Nat → Prop} {B cn cd : Nat} {nv dv : Value} {ns ds : List Nm} {w w' : World} (h : MineK Kp B cn cd nv dv ns ds w) (k : Ch S w w') (hS : ∀ i, Kp i → ¬ S i) : MineK Kp B cn cd nv dv ns ds w' :=
  { vn := h.vn.ch k (hS _ h.kn.1), vd := h.vd.ch k (hS _ h.kd.1), rn := own_ch h.rn k fun b hb => hS _ (h.krn b hb), rd := own_ch h.rd k fun b hb => hS _ (h.krd b hb)
    sep := h.sep, kn := h.kn, kd := h.kd, krn := h.krn, krd := h.krd, ne := h.ne }
/-- All of it: the file system, and the law's own. -/
structure All (B f : Nat) (s : Fs) (cn cd : Nat) (nv dv : Value) (ns ds : List Nm) (ca : Nat) (av : Array Value) (ta : TypeId) (w0 w : World) : Prop where
  here : ∃ Kp, Rep Kp B f s w ∧ MineK Kp B cn cd nv dv ns ds w ∧ Kp ca
  av : Cells w ca av ta
  bel : Below B w0 w
  low : B ≤ w0.heap.size
section
variable {B f : Nat} {s s' : Fs} {cn cd ca : Nat} {nv dv : Value} {ns ds : List Nm} {av : Array Value} {ta : TypeId} {w0 w w' : World}
theorem All.size (h : All B f s cn cd nv dv ns ds ca av ta w0 w) : B ≤ w.heap.size := Nat.le_trans h.low h.bel.size
theorem All.mine (h : All B f s cn cd nv dv ns ds ca av ta w0 w) : ∃ Kp, MineK Kp B cn cd nv dv ns ds w := by
  obtain ⟨Kp, _, h, _⟩ := h.here
  exact ⟨Kp, h⟩
/-- A call of the file system. -/
theorem All.call (h : All B f s cn cd nv dv ns ds ca av ta w0 w) {r : Int × Fs} {P : Program} {g : FuncId} {args : Array Value} {W : World} (E : Int) (hE : r.1 = E) (hc : ∀ Kp, Rep Kp B f s w → Calls P g args W (Post Kp B f r w)) :
    Calls P g args W fun e w' => e = .returned (.int .i64 E) ∧ All B f r.2 cn cd nv dv ns ds ca av ta w0 w' := by
  obtain ⟨Kp, hr, hm, ha⟩ := h.here
  refine (hc Kp hr).mono fun e w' ⟨h1, h2, h3⟩ => ⟨by rw [h1, hE], ⟨⟨Kp, h2, hm.ch h3.ch fun i hi hn => hn hi, ha⟩, h.av.ch h3.ch fun hn => hn ha, h.bel.trans h3.below, h.low⟩⟩
theorem createE (s : Fs) (dir n : Nm) (x : Nat) : (createR s dir n x).1 = (createR s dir n 0).1 := by
  unfold createR
  by_cases h1 : liveE s dir [n] ≠ 0
  · rw [if_pos h1, if_pos h1]
  · rw [if_neg h1, if_neg h1]
    by_cases h2 : (mget (s.dir dir).now n).isSome
    · rw [if_pos h2, if_pos h2]
    · rw [if_neg h2, if_neg h2]
      by_cases h3 : 4096 ≤ (s.dir dir).now.length
      · rw [if_pos h3, if_pos h3]
      · rw [if_neg h3, if_neg h3]
        by_cases h4 : s.fuse = 0
        · rw [if_pos h4, if_pos h4]
        · rw [if_neg h4, if_neg h4]
theorem All.create (h : All B f s cn cd nv dv ns ds ca av ta w0 w) (wf : Wf s) (n : Nm) (E : Int) (hE : (createR s nd n 0).1 = E) :
    Calls Try.prog 10 #[.pointer (some ⟨f, 0, none⟩), .string (txt nd), .string (txt n)] w fun e w' => ∃ x, e = .returned (.int .i64 E) ∧ s.file x = none ∧ All B f (createR s nd n x).2 cn cd nv dv ns ds ca av ta w0 w' := by
  obtain ⟨Kp, hr, hm, ha⟩ := h.here
  refine (create_any hr wf (Nat.le_trans h.low h.bel.size) nd n).mono fun e w' ⟨x, hx, h1, h2, h3⟩ => ⟨x, by rw [h1, createE, hE], hx, ⟨⟨Kp, h2, hm.ch h3.ch fun i hi hn => hn hi, ha⟩, h.av.ch h3.ch fun hn => hn ha, h.bel.trans h3.below, h.low⟩⟩
theorem All.append (h : All B f s cn cd nv dv ns ds ca av ta w0 w) (wf : Wf s) (n : Nm) (t : List UInt8) (ht : t.length ≤ 1099494850000) (Lb : Nat) (hL : Lb = w.heap.size) (E : Int) (hE : (appendR s nd n t).1 = E) (cap cap' : Nat) (fr : Nat × Nat) :
    Calls Try.prog 11 #[.pointer (some ⟨f, 0, none⟩), .string (txt nd), .string (txt n), .slice (some ⟨Lb, 0, none⟩) (txt t).size cap] (w.alloc (.cells (bytesRow (txt t) cap') 5 fr)).drew fun e w' => e = .returned (.int .i64 E) ∧ All B f (appendR s nd n t).2 cn cd nv dv ns ds ca av ta w0 w' := by
  subst hL
  exact h.call (r := appendR s nd n t) E hE fun Kp hr => append_laid hr wf (Nat.le_trans h.low h.bel.size) nd n (txt t) (by rw [txt_size]; exact ht) cap cap' fr
/-- What the walk reads of it. -/
theorem All.reads (h : All B f s cn cd nv dv ns ds ca av ta w0 w) : (w.cell? ⟨cn, 0, none⟩ = some nv ∧ w.frozen? ⟨cn, 0, none⟩ = false ∧ w.cell? ⟨cd, 0, none⟩ = some dv ∧ w.frozen? ⟨cd, 0, none⟩ = false) ∧ ∀ i, w.cell? ⟨ca, i, none⟩ = av[i]? := by
  obtain ⟨Kp, _, hm, _⟩ := h.here
  exact ⟨⟨hm.vn.cell 0, hm.vn.frozen 0, hm.vd.cell 0, hm.vd.frozen 0⟩, fun i => h.av.cell i⟩
theorem All.forms (h : All B f s cn cd nv dv ns ds ca av ta w0 w) : (∃ A c, nv = .slice A ns.length c) ∧ ∃ A c, dv = .slice A ds.length c := by
  obtain ⟨Kp, _, hm, _⟩ := h.here
  exact ⟨own_slice hm.rn, own_slice hm.rd⟩
/-- An item of the second list. -/
theorem All.item (h : All B f s cn cd nv dv ns ds ca av ta w0 w) (i : Nat) (hi : i < ds.length) : ∃ g c, dv = .slice (some ⟨g, 0, none⟩) ds.length c ∧ ds.length ≤ c ∧ w.cell? ⟨g, i, none⟩ = some (.string (txt ds[i])) ∧ w.frozen? ⟨g, i, none⟩ = false := by
  obtain ⟨Kp, _, hm, _⟩ := h.here
  obtain ⟨A, c, rfl⟩ := own_slice hm.rd
  obtain ⟨h1, h2⟩ := own_strs hm.rd rfl
  obtain ⟨g, rfl, h3⟩ := h2 i hi
  exact ⟨g, c, rfl, h1, h3, hm.rd.frozenAt i⟩
theorem All.item2 {g n c : Nat} (h : All B f s cn cd nv (.slice (some ⟨g, 0, none⟩) n c) ns ds ca av ta w0 w) (i : Nat) (hi : i < ds.length) : w.cell? ⟨g, i, none⟩ = some (.string (txt ds[i])) ∧ w.frozen? ⟨g, i, none⟩ = false := by
  obtain ⟨g', c', e, _, h1, h2⟩ := h.item i hi
  cases e
  exact ⟨h1, h2⟩
theorem All.rn (h : All B f s cn cd nv dv ns ds ca av ta w0 w) : w.ownsRow B 9 1 nv ns.length (ns.map encStr) := by
  obtain ⟨Kp, _, hm, _⟩ := h.here
  exact hm.rn
theorem All.rd (h : All B f s cn cd nv dv ns ds ca av ta w0 w) : w.ownsRow B 9 1 dv ds.length (ds.map encStr) := by
  obtain ⟨Kp, _, hm, _⟩ := h.here
  exact hm.rd
/-- New blocks alone. -/
theorem All.later (h : All B f s cn cd nv dv ns ds ca av ta w0 w) (hb : Below w.heap.size w w') : All B f s cn cd nv dv ns ds ca av ta w0 w' := by
  obtain ⟨Kp, hr, hm, ha⟩ := h.here
  have k := Ch.of_below hb
  exact ⟨⟨Kp, hr.below hb, hm.ch k fun _ _ e => e, ha⟩, h.av.ch k fun e => e, h.bel.trans (hb.mono h.size), h.low⟩
/-- Without a call at hand. -/
structure St (B f : Nat) (s : Fs) (cn cd : Nat) (nv dv : Value) (ns ds : List Nm) (w0 w : World) : Prop where
  here : ∃ Kp, Rep Kp B f s w ∧ MineK Kp B cn cd nv dv ns ds w
  bel : Below B w0 w
  low : B ≤ w0.heap.size
theorem All.st (h : All B f s cn cd nv dv ns ds ca av ta w0 w) : St B f s cn cd nv dv ns ds w0 w := by
  obtain ⟨Kp, a, b, _⟩ := h.here
  exact ⟨⟨Kp, a, b⟩, h.bel, h.low⟩
theorem St.size (h : St B f s cn cd nv dv ns ds w0 w) : B ≤ w.heap.size := Nat.le_trans h.low h.bel.size
theorem St.start (hr : Rep (fun _ => False) B f s w) (hb : Below B w0 w) (hl : B ≤ w0.heap.size) : St B f s w.heap.size (w.heap.size + 1) (.slice none 0 0) (.slice none 0 0) [] [] w0 ((w.alloc (.cells #[.slice none 0 0] 35)).alloc (.cells #[.slice none 0 0] 35)) := by
  obtain ⟨L, hr⟩ := hr
  have hBw : B ≤ w.heap.size := Nat.le_trans hl hb.size
  have k : Ch (fun _ => False) w ((w.alloc (.cells #[.slice none 0 0] 35)).alloc (.cells #[.slice none 0 0] 35)) := ((Ch.refl _ w).alloc _).alloc _
  have h2 := Cells.new (w.alloc (.cells #[.slice none 0 0] 35)) #[.slice none 0 0] 35
  rw [show (w.alloc (.cells #[.slice none 0 0] 35)).heap.size = w.heap.size + 1 by simp] at h2
  exact ⟨⟨_, ⟨L, hr.mine k fun _ _ e => e⟩, { vn := (Cells.new w _ _).alloc _, vd := h2, rn := World.ownsRow_nil _ _ _ 1, rd := World.ownsRow_nil _ _ _ 1, sep := fun i hi => by simp [Value.ownBlock] at hi, kn := ⟨.inr ⟨Nat.le_refl _, by simp; omega⟩, hBw⟩, kd := ⟨.inr ⟨by omega, by simp⟩, by omega⟩, krn := fun i hi => by simp [Value.ownBlock] at hi, krd := fun i hi => by simp [Value.ownBlock] at hi, ne := by omega }⟩,
    hb.trans (k.toBelow (fun _ _ e => e.elim) hBw), hl⟩
/-- The call at hand is laid. -/
theorem St.lay (h : St B f s cn cd nv dv ns ds w0 w) (cs : Array Value) (t : TypeId) : All B f s cn cd nv dv ns ds w.heap.size cs t w0 (w.alloc (.cells cs t)) := by
  obtain ⟨Kp, ⟨L, hr⟩, hm⟩ := h.here
  have k : Ch (fun _ => False) w (w.alloc (.cells cs t)) := (Ch.refl _ w).alloc _
  refine ⟨⟨_, ⟨L, hr.mine k fun _ _ e => e.elim⟩, { vn := (hm.vn.ch k fun e => e), vd := (hm.vd.ch k fun e => e), rn := own_ch hm.rn k fun _ _ e => e, rd := own_ch hm.rd k fun _ _ e => e, sep := hm.sep, kn := ⟨.inl hm.kn.1, hm.kn.2⟩, kd := ⟨.inl hm.kd.1, hm.kd.2⟩, krn := fun i hi => .inl (hm.krn i hi), krd := fun i hi => .inl (hm.krd i hi), ne := hm.ne }, .inr ⟨Nat.le_refl _, by simp⟩⟩, Cells.new w _ _, h.bel.trans (Below.al (Below.refl B w) h.size _), h.low⟩
theorem own_lt {w : World} {B n size : Nat} {t : TypeId} {v : Value} {xs : List Value} (h : w.ownsRow B t size v n xs) {b : Nat} (hb : v.ownBlock = some b) : b < w.heap.size := (World.ownsRow.lt h b hb).2
/-- The law's own step: what it keeps may turn, new blocks come. -/
theorem All.step (h : All B f s cn cd nv dv ns ds ca av ta w0 w) {nv' dv' : Value} {ns' ds' : List Nm} (k : Ch (fun i => i = cn ∨ i = cd ∨ nv.ownBlock = some i ∨ dv.ownBlock = some i) w w') (hca : ta ≠ 35 ∧ ta ≠ 9)
    (h1 : Cells w' cn #[nv'] 35) (h2 : Cells w' cd #[dv'] 35) (h3 : w'.ownsRow B 9 1 nv' ns'.length (ns'.map encStr)) (h4 : w'.ownsRow B 9 1 dv' ds'.length (ds'.map encStr))
    (h5 : ∀ i, nv'.ownBlock = some i → dv'.ownBlock ≠ some i) (h6 : ∀ i, nv'.ownBlock = some i → nv.ownBlock = some i ∨ w.heap.size ≤ i) (h7 : ∀ i, dv'.ownBlock = some i → dv.ownBlock = some i ∨ w.heap.size ≤ i) :
    All B f s cn cd nv' dv' ns' ds' ca av ta w0 w' := by
  obtain ⟨Kp, ⟨L, hr⟩, hm, ha⟩ := h.here
  have hS : ∀ i, i < w.heap.size → (i = cn ∨ i = cd ∨ nv.ownBlock = some i ∨ dv.ownBlock = some i) → Kp i := by
    rintro i _ (rfl | rfl | e | e)
    · exact hm.kn.1
    · exact hm.kd.1
    · exact hm.krn i e
    · exact hm.krd i e
  have hB : ∀ i, i < w.heap.size → (i = cn ∨ i = cd ∨ nv.ownBlock = some i ∨ dv.ownBlock = some i) → B ≤ i := by
    rintro i _ (rfl | rfl | e | e)
    · exact hm.kn.2
    · exact hm.kd.2
    · exact (World.ownsRow.lt hm.rn i e).1
    · exact (World.ownsRow.lt hm.rd i e).1
  have hav : ¬ (ca = cn ∨ ca = cd ∨ nv.ownBlock = some ca ∨ dv.ownBlock = some ca) := by
    rintro (e | e | e | e)
    · exact h.av.ne hm.vn hca.1 e
    · exact h.av.ne hm.vd hca.1 e
    · obtain ⟨c, hc, _⟩ := own_cells hm.rn e; exact h.av.ne hc hca.2 rfl
    · obtain ⟨c, hc, _⟩ := own_cells hm.rd e; exact h.av.ne hc hca.2 rfl
  refine ⟨⟨_, ⟨L, hr.mine k hS⟩, { vn := h1, vd := h2, rn := h3, rd := h4, sep := h5, kn := ⟨.inl hm.kn.1, hm.kn.2⟩, kd := ⟨.inl hm.kd.1, hm.kd.2⟩, krn := fun i hi => ?_, krd := fun i hi => ?_, ne := hm.ne }, .inl ha⟩, h.av.ch k hav, h.bel.trans (k.toBelow hB h.size), h.low⟩
  · rcases h6 i hi with e | e
    · exact .inl (hm.krn i e)
    · exact .inr ⟨e, own_lt h3 hi⟩
  · rcases h7 i hi with e | e
    · exact .inl (hm.krd i e)
    · exact .inr ⟨e, own_lt h4 hi⟩
/-- What an append to one of the two lists leaves. -/
structure Pushed (B : Nat) (v : Value) (n : Nat) (ns : List Nm) (W w' : World) (v' : Value) : Prop where
  row : w'.ownsRow B 9 1 v' n (ns.map encStr)
  ch : Ch (fun k => v.ownBlock = some k) W w'
  at_ : ∀ k, v'.ownBlock = some k → v.ownBlock = some k ∨ W.heap.size ≤ k
theorem Pushed.reads {v v' : Value} {n : Nat} {l : List Nm} (h : All B f s cn cd nv dv ns ds ca av ta w0 w) (hp : Pushed B v n l w w' v') (hv : v = nv ∨ v = dv) : (∃ x, w'.cell? ⟨cn, 0, none⟩ = some x) ∧ w'.frozen? ⟨cn, 0, none⟩ = false ∧ (∃ x, w'.cell? ⟨cd, 0, none⟩ = some x) ∧ w'.frozen? ⟨cd, 0, none⟩ = false := by
  obtain ⟨Kp, _, hm, _⟩ := h.here
  have key : ∀ b, v.ownBlock = some b → b ≠ cn ∧ b ≠ cd := by
    intro b hb
    rcases hv with rfl | rfl
    · obtain ⟨c, hc, _⟩ := own_cells hm.rn hb
      exact ⟨hc.ne hm.vn (by decide), hc.ne hm.vd (by decide)⟩
    · obtain ⟨c, hc, _⟩ := own_cells hm.rd hb
      exact ⟨hc.ne hm.vn (by decide), hc.ne hm.vd (by decide)⟩
  have h1 := hm.vn.ch hp.ch fun e => (key _ e).1 rfl
  have h2 := hm.vd.ch hp.ch fun e => (key _ e).2 rfl
  exact ⟨⟨_, h1.cell 0⟩, h1.frozen 0, ⟨_, h2.cell 0⟩, h2.frozen 0⟩
theorem push_strs {ops : Array Oper} {rest : List Oper} {o : Oper} {a : Act} {Q : Exit → Act → World → Prop} (hgd : o.guard = none) (sl x : Operand)
    (ho : o.op = .call { callee := .builtin .append, args := #[sl, x], argTypes := #[35, 35] })
    (W : World) (v : Value) (n : Nat) (ns : List Nm) (hs : a.eval sl = v) (hown : W.ownsRow B 9 1 v n (ns.map encStr)) (y : ByteArray) (Lb : Nat) (hx : a.eval x = .slice (some ⟨Lb, 0, none⟩) 1 1) (hL : Lb = W.heap.size) (hlen : n + 1 ≤ 1000000) (hB : B ≤ W.heap.size)
    (h : ∀ A' c' w', Pushed B v (n + 1) (ns ++ [y.data.toList]) W w' (.slice A' (n + 1) c') → wpList Try.prog ops Q rest (a.put o.dst (.slice A' (n + 1) c')) w') :
    wpList Try.prog ops Q (o :: rest) a (W.alloc (.cells #[.string y] 9)) := by
  subst hL
  obtain ⟨i0, hi, hz0, hz1, hz2⟩ := info_parts infoStr
  refine wpList_append_own_at _ hgd sl x 35 ho B 9 i0 _ 1 16 Try.underlying35 hi hz0 hz1 hz2 rfl (by decide) v n (ns.map encStr) hs (hown.alloc _) ⟨W.heap.size, 0, none⟩ 1 1 [.string y] hx rfl (new_cells W [.string y] _) (by simp [Value.oneCell']) (by unfold maxLen; omega) (by omega) (by simp; omega) ?_
  intro v' w' hown' hg _ hat
  obtain ⟨A', c', rfl⟩ := own_slice hown'
  have e : ns.map encStr ++ [.string y] = (ns ++ [y.data.toList]).map encStr := by rw [List.map_append]; show _ = _ ++ [Value.string (txt y.data.toList)]; rw [txt_data]
  rw [e] at hown'
  refine h A' c' w' ⟨hown', ((Ch.refl _ W).alloc _).grown hg fun k hk => .inl hk, fun k hk => ?_⟩
  rcases hat with h1 | h1
  · exact .inl (h1 ▸ hk)
  · rw [h1] at hk
    injection hk with hk
    right
    rw [← hk]; simp
theorem All.push_n (h : All B f s cn cd nv dv ns ds ca av ta w0 w) (hca : ta ≠ 35 ∧ ta ≠ 9) {y : Nm} {A' : Option Addr} {n c' : Nat} (hn : n = ns.length) (hp : Pushed B nv (n + 1) (ns ++ [y]) w w' (.slice A' (n + 1) c')) :
    All B f s cn cd (.slice A' (n + 1) c') dv (ns ++ [y]) ds ca av ta w0 (w'.setCell ⟨cn, 0, none⟩ (.slice A' (n + 1) c')) := by
  subst hn
  obtain ⟨Kp, hm⟩ := h.mine
  have hne : nv.ownBlock ≠ some cn := fun e => by obtain ⟨c, hc, _⟩ := own_cells hm.rn e; exact hm.vn.ne hc (by decide) rfl
  have hned : nv.ownBlock ≠ some cd := fun e => by obtain ⟨c, hc, _⟩ := own_cells hm.rn e; exact hm.vd.ne hc (by decide) rfl
  have hcn' : Cells w' cn #[nv] 35 := hm.vn.ch hp.ch hne
  have k2 : Ch (· = cn) w' (w'.setCell ⟨cn, 0, none⟩ (.slice A' (ns.length + 1) c')) := (Ch.refl (· = cn) w').set (p := ⟨cn, 0, none⟩) (.inl rfl) _
  have hrd : (w'.setCell ⟨cn, 0, none⟩ (.slice A' (ns.length + 1) c')).ownsRow B 9 1 dv ds.length (ds.map encStr) := by
    refine own_ch (own_ch hm.rd hp.ch fun b hb e => hm.sep b e hb) k2 fun b hb e => ?_
    obtain ⟨c, hc, _⟩ := own_cells hm.rd hb
    subst e; exact hm.vn.ne hc (by decide) rfl
  refine h.step ((hp.ch.mono fun i _ e => .inr (.inr (.inl e))).then_ k2 fun i _ e => .inl e) hca (hcn'.set 0 _) ((hm.vd.ch hp.ch hned).ch k2 hm.ne.symm) ?_ hrd (fun i h1 h2 => ?_) hp.at_ (fun i hi => .inl hi)
  · rw [List.length_append]
    refine own_ch hp.row k2 fun b hb e => ?_
    obtain ⟨c, hc, _⟩ := own_cells hp.row hb
    subst e; exact hcn'.ne hc (by decide) rfl
  · rcases hp.at_ i h1 with e | e
    · exact hm.sep i e h2
    · have := own_lt hm.rd h2; omega
theorem All.push_d (h : All B f s cn cd nv dv ns ds ca av ta w0 w) (hca : ta ≠ 35 ∧ ta ≠ 9) {y : Nm} {A' : Option Addr} {n c' : Nat} (hn : n = ds.length) (hp : Pushed B dv (n + 1) (ds ++ [y]) w w' (.slice A' (n + 1) c')) :
    All B f s cn cd nv (.slice A' (n + 1) c') ns (ds ++ [y]) ca av ta w0 (w'.setCell ⟨cd, 0, none⟩ (.slice A' (n + 1) c')) := by
  subst hn
  obtain ⟨Kp, hm⟩ := h.mine
  have hne : dv.ownBlock ≠ some cd := fun e => by obtain ⟨c, hc, _⟩ := own_cells hm.rd e; exact hm.vd.ne hc (by decide) rfl
  have hned : dv.ownBlock ≠ some cn := fun e => by obtain ⟨c, hc, _⟩ := own_cells hm.rd e; exact hm.vn.ne hc (by decide) rfl
  have hcd' : Cells w' cd #[dv] 35 := hm.vd.ch hp.ch hne
  have k2 : Ch (· = cd) w' (w'.setCell ⟨cd, 0, none⟩ (.slice A' (ds.length + 1) c')) := (Ch.refl (· = cd) w').set (p := ⟨cd, 0, none⟩) (.inl rfl) _
  have hrn : (w'.setCell ⟨cd, 0, none⟩ (.slice A' (ds.length + 1) c')).ownsRow B 9 1 nv ns.length (ns.map encStr) := by
    refine own_ch (own_ch hm.rn hp.ch fun b hb e => hm.sep b hb e) k2 fun b hb e => ?_
    obtain ⟨c, hc, _⟩ := own_cells hm.rn hb
    subst e; exact hm.vd.ne hc (by decide) rfl
  refine h.step ((hp.ch.mono fun i _ e => .inr (.inr (.inr e))).then_ k2 fun i _ e => .inr (.inl e)) hca ((hm.vn.ch hp.ch hned).ch k2 hm.ne) (hcd'.set 0 _) hrn ?_ (fun i h1 h2 => ?_) (fun i hi => .inl hi) hp.at_
  · rw [List.length_append]
    refine own_ch hp.row k2 fun b hb e => ?_
    obtain ⟨c, hc, _⟩ := own_cells hp.row hb
    subst e; exact hcd'.ne hc (by decide) rfl
  · rcases hp.at_ i h2 with e | e
    · exact hm.sep i h1 e
    · have := own_lt hm.rn h1; omega
theorem All.out (h : All B f s cn cd nv dv ns ds ca av ta w0 w) (hca : ta ≠ 35 ∧ ta ≠ 9) (hl : ns.length = ds.length) (hl2 : ns.length ≤ 1000000) {i : Nat} (hi : i < ns.length) :
    Calls Try.prog 26 #[.int .i64 (i : Int), adr cn, adr cd] w fun e w' => e = .returned (.tuple #[]) ∧ ∃ nv' dv', All B f s cn cd nv' dv' (ns.eraseIdx i) (ds.eraseIdx i) ca av ta w0 w' := by
  obtain ⟨Kp, hm⟩ := h.mine
  refine (out_any ns ds cn cd ns.length i nv dv w rfl hl hi hl2 hm.vn hm.vd hm.ne hm.rn (by rw [hl]; exact hm.rd)).mono fun e w' ⟨h1, ⟨nv', dv', a1, a2, a3, a4, a5⟩, a6⟩ => ⟨h1, nv', dv', ?_⟩
  have e1 : (ns.eraseIdx i).length = ns.length - 1 := by rw [List.length_eraseIdx_of_lt hi]
  have e2 : (ds.eraseIdx i).length = ns.length - 1 := by rw [List.length_eraseIdx_of_lt (by omega), hl]
  exact h.step (a6.mono fun k _ e => e.elim .inl fun e => .inr (.inl e)) hca a1 a2 (by rw [e1]; exact a3.mono h.size) (by rw [e2]; exact a4.mono h.size) a5 (fun i hi => .inr (World.ownsRow.lt a3 i hi).1) (fun i hi => .inr (World.ownsRow.lt a4 i hi).1)
theorem All.find (h : All B f s cn cd nv dv ns ds ca av ta w0 w) (hl2 : ns.length ≤ 1000000) (n : Nm) :
    Calls Try.prog 25 #[.string (txt n), adr cn] w fun e w' => e = .returned (.int .i64 (idxI ns n)) ∧ w = w' := by
  obtain ⟨Kp, hm⟩ := h.mine
  exact find_any ns cn ns.length nv w rfl hm.vn hm.rn hl2 n
theorem All.store {g n c : Nat} (h : All B f s cn cd nv (.slice (some ⟨g, 0, none⟩) n c) ns ds ca av ta w0 w) (hca : ta ≠ 35 ∧ ta ≠ 9) (i : Nat) (hi : i < ds.length) (y : Nm) :
    All B f s cn cd nv (.slice (some ⟨g, 0, none⟩) n c) ns (ds.set i y) ca av ta w0 (w.setCell ⟨g, i, none⟩ (.string (txt y))) := by
  obtain ⟨Kp, hm⟩ := h.mine
  have hn : n = ds.length := by
    rcases hm.rd.2 with ⟨e, _⟩ | ⟨_, _, _, e, _⟩
    · injection e with e1 e2; cases e1
    · injection e with e1 e2
  subst hn
  have hst := hm.rd.stored i (.string (txt y))
  have hgb : (Value.slice (some ⟨g, 0, none⟩) ds.length c).ownBlock = some g := rfl
  obtain ⟨cc, hc, _⟩ := own_cells hm.rd hgb
  have k : Ch (· = g) w (w.setCell ⟨g, i, none⟩ (.string (txt y))) := (Ch.refl (· = g) w).set (p := ⟨g, i, none⟩) (.inl rfl) _
  have e : (ds.set i y).map encStr = (ds.map encStr).set i (.string (txt y)) := by rw [List.map_set]; rfl
  refine h.step (k.mono fun j _ e => .inr (.inr (.inr (hgb.trans (congrArg some e.symm))))) hca (hm.vn.ch k fun e => hm.vn.ne hc (by decide) e) (hm.vd.ch k fun e => hm.vd.ne hc (by decide) e) (own_ch hm.rn k fun b hb e => hm.sep b hb (hgb.trans (congrArg some e.symm))) (by rw [List.length_set, e]; exact hst.1) hm.sep (fun i hi => .inl hi) (fun i hi => .inl hi)
end
end Go.Proofs.Ytlmkhieojgpgcaa
