/- Several texts in one: PlBase, PlTurn. -/
import Derived.Test.YtkcnmajjfljilaaGreatDoorFsWfIs
/- place: what its calls do, plainly; what a caller keeps beside a file system. -/
namespace Go.Proofs.YtkcnmajjfljilaaGreatDoor
open Go.ChangeShapes Go.WideShapes Go.ChangeAt Go.RowKit Go.ChangeMaps Go.MapKept
set_option linter.unusedVariables false

section
variable {Kp Kq : Nat → Prop} {B f : Nat} {L : Lay} {s : Fs} {w w' : World}
theorem Rep.quiet (h : Rep Kp B f s w) (k : Ch (fun _ => False) w w') : Rep Kp B f s w' := by
  obtain ⟨L, h⟩ := h; exact ⟨L, h.quiet k⟩
theorem Rep.below (h : Rep Kp B f s w) (hb : Below w.heap.size w w') : Rep Kp B f s w' := h.quiet (Ch.of_below hb)
/-- Fewer are kept. -/
theorem RepL.fewer (h : RepL Kp B f L s w) (hq : ∀ i, Kq i → Kp i) : RepL Kq B f L s w := by
  have ops : ∀ {vs : List Value} {os : List FOp}, OpsAt Kp w vs os → OpsAt Kq w vs os := by
    intro vs
    induction vs with
    | nil => intro os ho; cases os with
      | nil => trivial
      | cons o os => exact ho.elim
    | cons v vs ih => intro os ho; cases os with
      | nil => exact ho.elim
      | cons o os =>
        refine ⟨?_, ih ho.2⟩
        have h1 := ho.1
        cases o with
        | create a x => obtain ⟨p, q, e, a1, a2, a3, n1, n2⟩ := h1; exact ⟨p, q, e, a1, a2, a3, fun k => n1 (hq _ k), fun k => n2 (hq _ k)⟩
        | rename a b x => obtain ⟨p, q, r, e, a1, a2, a3, a4, a5, n1, n2, n3⟩ := h1; exact ⟨p, q, r, e, a1, a2, a3, a4, a5, fun k => n1 (hq _ k), fun k => n2 (hq _ k), fun k => n3 (hq _ k)⟩
        | remove a => obtain ⟨p, e, a1, a2, n1⟩ := h1; exact ⟨p, e, a1, a2, fun k => n1 (hq _ k)⟩
  exact
  { fs := h.fs, top := h.top, dir := h.dir, base := h.base, now := h.now
    pend := fun n hn => by obtain ⟨vs, h1, h2⟩ := h.pend n hn; exact ⟨vs, h1, ops h2⟩
    file := h.file, low := h.low, lowd := h.lowd, lowf := h.lowf, own := h.own, sep := h.sep, fsep := h.fsep
    kold := fun i hi => h.kold i (hq i hi)
    kf := ⟨fun k => h.kf.1 (hq _ k), fun k => h.kf.2 (hq _ k)⟩
    kd := fun n hn => ⟨fun k => (h.kd n hn).1 (hq _ k), fun k => (h.kd n hn).2.1 (hq _ k), fun k => (h.kd n hn).2.2.1 (hq _ k), fun i hi k => (h.kd n hn).2.2.2 i hi (hq _ k)⟩
    kx := fun x b sf hx => ⟨fun k => (h.kx x b sf hx).1 (hq _ k), fun i hi k => (h.kx x b sf hx).2 i hi (hq _ k)⟩ }
theorem Rep.fewer (h : Rep Kp B f s w) (hq : ∀ i, Kq i → Kp i) : Rep Kq B f s w := by
  obtain ⟨L, h⟩ := h; exact ⟨L, h.fewer hq⟩
theorem Turn.fewer (h : Turn Kp B w w') (hq : ∀ i, Kq i → Kp i) : Turn Kq B w w' := ⟨h.below, h.ch.mono fun k _ hn hk => hn (hq k hk)⟩
theorem Rep.noFile (h : Rep Kp B f s w) : ∃ x, s.file x = none := by
  obtain ⟨L, h⟩ := h; exact ⟨w.heap.size, h.none_ (Nat.le_refl _)⟩
/-- What lies between two worlds is kept from now on. -/
def With (Kp : Nat → Prop) (a b : Nat) : Nat → Prop := fun i => Kp i ∨ (a ≤ i ∧ i < b)
theorem Rep.keep (h : Rep Kp B f s w) (hb : Below w.heap.size w w') : Rep (With Kp w.heap.size w'.heap.size) B f s w' := by
  obtain ⟨L, h⟩ := h
  exact ⟨L, h.more (Ch.of_below hb) (fun i hi => hi)⟩
theorem Turn.kept {a b : Nat} (h : Turn (With Kp a b) B w w') : Turn Kp B w w' := h.fewer fun i hi => .inl hi
theorem Rep.kept_ {a b : Nat} (h : Rep (With Kp a b) B f s w) : Rep Kp B f s w := h.fewer fun i hi => .inl hi
/-- A block that is kept. -/
theorem Turn.same {a b : Nat} (h : Turn (With Kp a b) B w w') {k : Nat} (hk : a ≤ k) (hb : k < b) (hw : k < w.heap.size) : w'.heap[k]? = w.heap[k]? := h.ch.block k hw fun hn => hn (.inr ⟨hk, hb⟩)
theorem Turn.cells {a b : Nat} (h : Turn (With Kp a b) B w w') {k : Nat} {c : Array Value} {t : TypeId} (hk : a ≤ k) (hb : k < b) (hc : Cells w k c t) : Cells w' k c t := (h.same hk hb hc.lt).trans hc
end

/-! ### what the calls do -/
def tmpN (name : Nm) : Nm := [116, 109, 112, 46] ++ name
def thn (r : Int × Fs) (k : Fs → Int × Fs) : Int × Fs := if r.1 = 0 then k r.2 else r
theorem thn_ok {r : Int × Fs} {k : Fs → Int × Fs} (h : r.1 = 0) : thn r k = k r.2 := if_pos h
theorem thn_bad {r : Int × Fs} {k : Fs → Int × Fs} (h : r.1 ≠ 0) : thn r k = r := if_neg h
def rmListedR (s : Fs) (dir name : Nm) : Int × Fs := if liveE s dir [] = 0 ∧ name ∈ listN s dir then removeR s dir name else (liveE s dir [], s)
/-- The steps of Raw, one by one. -/
def rawStep (dir name : Nm) (b : List UInt8) (x : Nat) : Nat → Fs → Int × Fs
  | 0 => fun s => rmListedR s dir (tmpN name)
  | 1 => fun s => createR s dir (tmpN name) x
  | 2 => fun s => appendR s dir (tmpN name) b
  | 3 => fun s => syncR s dir (tmpN name)
  | 4 => fun s => renameR s dir (tmpN name) name
  | _ => fun s => syncDirR s dir
/-- .. and so many of them. -/
def rawK (s : Fs) (dir name : Nm) (b : List UInt8) (x : Nat) : Nat → Int × Fs
  | 0 => (0, s)
  | k + 1 => thn (rawK s dir name b x k) (rawStep dir name b x k)
theorem rawK_bad {s : Fs} {dir name : Nm} {b : List UInt8} {x k : Nat} (h : (rawK s dir name b x k).1 ≠ 0) (j : Nat) : rawK s dir name b x (k + j) = rawK s dir name b x k := by
  induction j with
  | zero => rfl
  | succ j ih => rw [← Nat.add_assoc, rawK, ih, thn_bad h]
theorem rawK_six {s : Fs} {dir name : Nm} {b : List UInt8} {x k : Nat} (hk : k ≤ 6) (h : (rawK s dir name b x k).1 ≠ 0) : rawK s dir name b x 6 = rawK s dir name b x k := by
  have := rawK_bad h (6 - k)
  rwa [show k + (6 - k) = 6 by omega] at this
def rawR (s : Fs) (dir name : Nm) (b : List UInt8) (x : Nat) : Int × Fs := if 28 < name.length then (65, s) else rawK s dir name b x 6
theorem wfk_thn {K : Nat} {r : Int × Fs} {k : Fs → Int × Fs} (h : WfK K r.2) (hk : ∀ s, WfK K s → WfK (K + 1) (k s).2) : WfK (K + 1) (thn r k).2 := by
  unfold thn
  split
  · exact hk _ h
  · exact h.mono (Nat.le_succ _)
theorem wfk_rmListed {K : Nat} {s : Fs} (h : WfK K s) (dir name : Nm) : WfK (K + 1) (rmListedR s dir name).2 := by
  unfold rmListedR
  split
  · exact wfk_remove h dir name
  · exact h.mono (Nat.le_succ _)
theorem wfk_rawStep {K : Nat} {s : Fs} (h : WfK K s) (dir name : Nm) (b : List UInt8) (x k : Nat) : WfK (K + 1) (rawStep dir name b x k s).2 := by
  rcases k with _ | _ | _ | _ | _ | k
  · exact wfk_rmListed h dir (tmpN name)
  · exact wfk_create h dir (tmpN name) x
  · exact wfk_append h dir (tmpN name) b
  · exact wfk_sync h dir (tmpN name)
  · exact wfk_rename h dir (tmpN name) name
  · exact wfk_syncDir h dir
theorem wfk_rawK {K : Nat} {s : Fs} (h : WfK K s) (dir name : Nm) (b : List UInt8) (x k : Nat) : WfK (K + k) (rawK s dir name b x k).2 := by
  induction k with
  | zero => exact h
  | succ k ih => exact wfk_thn ih fun s hs => wfk_rawStep hs dir name b x k
theorem wfk_raw {K : Nat} {s : Fs} (h : WfK K s) (dir name : Nm) (b : List UInt8) (x : Nat) : WfK (K + 6) (rawR s dir name b x).2 := by
  unfold rawR
  split
  · exact h.mono (by omega)
  · exact wfk_rawK h dir name b x 6
theorem rm_file (s : Fs) (dir name : Nm) : (rmListedR s dir name).2.file = s.file := by
  unfold rmListedR removeR
  split
  · split
    · rfl
    · split
      · rfl
      · rfl
  · rfl
end Go.Proofs.YtkcnmajjfljilaaGreatDoor

/- place.inTurn: steps till one fails. -/
namespace Go.Proofs.YtkcnmajjfljilaaGreatDoor
open Go.ChangeShapes Go.WideShapes Go.ChangeAt Go.RowKit Go.ChangeMaps Go.MapKept
set_option linter.unusedVariables false

def StepPost (St : World → Prop) (Fin : Int → World → Prop) (e : Ending) (w' : World) : Prop := ∃ E : Int, e = .returned (.int .i64 E) ∧ ((E = 0 ∧ St w') ∨ (E ≠ 0 ∧ Fin E w'))
set_option maxHeartbeats 1000000 in
theorem inTurn_any (n q : Nat) (G : Nat → FuncId) (LB : Nat → Array Value) (eg : ∀ k, k < n → Enters Tryz.prog (G k)) (St : Nat → World → Prop) (Fin : Int → World → Prop)
    (hcell : ∀ k, k < n → ∀ W, St k W → W.cell? ⟨q, k, none⟩ = some (.func (.func (G k)) #[] (LB k)))
    (hstep : ∀ k, k < n → ∀ W, St k W → Calls Tryz.prog (G k) (LB k) W (StepPost (St (k + 1)) Fin))
    (hend : ∀ W, St n W → Fin 0 W) (hn : n ≤ 1000) (w : World) (h0 : St 0 w) :
    Calls Tryz.prog 135 #[.slice (some ⟨q, 0, none⟩) n n] w fun e w' => ∃ E : Int, e = .returned (.int .i64 E) ∧ Fin E w' := by
  have HE := Lib.hid eg
  have HC := Lib.hid hcell
  have HS := Lib.hid hstep
  have HD := Lib.hid hend
  have H0 := Lib.hid h0
  clear eg hcell hstep hend h0
  go_enter Tryz.func135, Tryz.ntmps135
  go_wp2
  go_loopw [8] (fun i wr => ∃ k : Nat, k ≤ n ∧ i = .int .i64 (k : Int) ∧ Hid (St k wr)) (fun i _ => n - (intOf i).toNat)
  case atStart => exact ⟨0, Nat.zero_le _, rfl, H0⟩
  case round =>
    obtain ⟨k, hk, rfl, HK⟩ := hrel
    by_cases hlt : k < n
    · have hc := HC.out k hlt _ HK.out
      have HR := Lib.hid (HS.out k hlt _ HK.out)
      have hen : ∀ args W, (callFunc (G k) args).run Tryz.prog W = .ok (.enter (G k) args) W := HE.out k hlt
      obtain ⟨g, hg⟩ : ∃ g, G k = g := ⟨_, rfl⟩
      obtain ⟨lb, hlb⟩ : ∃ lb, LB k = lb := ⟨_, rfl⟩
      rw [hg, hlb] at hc HR
      rw [hg] at hen
      clear hg hlb
      go_wp2_with (go_at_fn g; refine HR.out.mono ?_; rintro e w' ⟨E, rfl, (⟨rfl, hs⟩ | ⟨hE, hs⟩)⟩; all_goals (have HN := Lib.hid hs; clear hs))
      · refine ⟨⟨k + 1, by omega, rfl, HN⟩, by simp [intOf]; omega⟩
      · go_ret
        exact ⟨E, rfl, HN.out⟩
    · obtain rfl : k = n := by omega
      go_wp2
      go_ret
      exact ⟨0, rfl, HD.out _ HK.out⟩
end Go.Proofs.YtkcnmajjfljilaaGreatDoor
