/- What a seat needs of several texts. -/
import Derived.Test.YtkcnmajjfljilaaGreatDoorFsM4
/- From FsCrashA. -/
namespace Go.Proofs.YtkcnmajjfljilaaGreatDoor
open Go.ChangeShapes Go.WideShapes Go.ChangeAt Go.RowKit Go.ChangeMaps Go.MapKept
open Go.Lib (byteCells byteCells_length byteCells_append strCells)
set_option linter.unusedVariables false
/-- The next pick, of 0 to n, and what is left. -/
def pickK (ps : List Int) (n : Nat) : Nat := match ps with
  | [] => 0
  | p :: _ => ((p % 18446744073709551616) % ((n : Int) + 1)).toNat
theorem pickK_le (ps : List Int) (n : Nat) : pickK ps n ≤ n := by
  cases ps with
  | nil => exact Nat.zero_le _
  | cons p r =>
    have h1 := Int.emod_nonneg (p % 18446744073709551616) (show (n : Int) + 1 ≠ 0 by omega)
    have h2 := Int.emod_lt_of_pos (p % 18446744073709551616) (show 0 < (n : Int) + 1 by omega)
    show ((p % 18446744073709551616) % ((n : Int) + 1)).toNat ≤ n
    omega
theorem own_take {w : World} {B n c : Nat} {A : Option Addr} {b : List UInt8} (h : w.ownsRow B 5 1 (.slice A n c) n (byteCells b)) (k : Nat) (hk : k ≤ n) : w.ownsRow B 5 1 (.slice A k c) k (byteCells (b.take k)) := by
  have hl := h.1
  rw [byteCells_length, Nat.mul_one] at hl
  refine ⟨by rw [byteCells_length, List.length_take]; omega, ?_⟩
  rcases h.2 with ⟨hv, h0⟩ | ⟨g, cap, cur, hv, hg, hh, h1, h2, h3, h4⟩
  · injection hv with e1 e2 e3
    have : k = 0 := by omega
    subst this; subst e1; subst e3
    exact .inl ⟨rfl, rfl⟩
  · injection hv with e1 e2 e3
    subst e1; subst e3
    refine .inr ⟨g, c, cur, rfl, hg, hh, by omega, h2, h3, ?_⟩
    have : byteCells (b.take k) = (byteCells b).take k := by unfold byteCells; rw [List.map_take]
    rw [this, ← h4, List.take_take]
    congr 1
    omega
end Go.Proofs.YtkcnmajjfljilaaGreatDoor
namespace Go.Proofs.YtkcnmajjfljilaaGreatDoor
open Go.ChangeShapes Go.WideShapes Go.ChangeAt Go.RowKit Go.ChangeMaps Go.MapKept
open Go.Lib (byteCells byteCells_length byteCells_append strCells)
set_option linter.unusedVariables false
/-- One directory is settled. -/
def step1 (st : List Int × (Nm → Dir)) (n : Nm) : List Int × (Nm → Dir) := (st.1.tail, upd st.2 n (settledDir (st.2 n) (pickK st.1 (st.2 n).pend.length)))
def phase1 (s : Fs) (ps : List Int) (ns : List Nm) : List Int × (Nm → Dir) := ns.foldl step1 (ps, s.dir)
structure St2 where
  ps : List Int
  file : Nat → Option (List UInt8 × Nat)
  used : Int
/-- One file is cut. -/
def step2 (st : St2) (x : Nat) : St2 :=
  match st.file x with
  | some (b, sf) => ⟨st.ps.tail, upd st.file x (some (b.take (sf + pickK st.ps (b.length - sf)), sf + pickK st.ps (b.length - sf))), st.used + ((sf + pickK st.ps (b.length - sf) : Nat) : Int)⟩
  | none => st
def stepD (st : St2) (l : List (Nm × Nat)) : St2 := l.foldl (fun st p => step2 st p.2) st
def phase2 (dir : Nm → Dir) (st : St2) (ns : List Nm) : St2 := ns.foldl (fun st n => stepD st (dir n).now) st
def crashS (s : Fs) (ps : List Int) : Fs :=
  { s with on := true, fuse := -1, dir := (phase1 s ps s.names).2
           file := (phase2 (phase1 s ps s.names).2 ⟨(phase1 s ps s.names).1, s.file, 0⟩ s.names).file
           used := (phase2 (phase1 s ps s.names).2 ⟨(phase1 s ps s.names).1, s.file, 0⟩ s.names).used }
theorem phase1_snoc (s : Fs) (ps : List Int) (ns : List Nm) (n : Nm) : phase1 s ps (ns ++ [n]) = step1 (phase1 s ps ns) n := by simp [phase1]
theorem phase1_other (s : Fs) (ps : List Int) (ns : List Nm) (n : Nm) (h : n ∉ ns) : (phase1 s ps ns).2 n = s.dir n := by
  unfold phase1
  suffices ∀ st : List Int × (Nm → Dir), (ns.foldl step1 st).2 n = st.2 n from this _
  intro st
  induction ns generalizing st with
  | nil => rfl
  | cons m r ih =>
    rw [List.foldl_cons, ih (fun h' => h (List.mem_cons_of_mem _ h'))]
    exact upd_other _ _ _ _ (fun e => h (by rw [e]; exact List.mem_cons_self ..))
theorem rising_top {L : Lay} {ns : List Nm} (h : ns.Pairwise (· < ·)) : Rising (topOf L ns) := by
  unfold Rising topOf
  rw [List.pairwise_map]
  exact h
theorem top_names (L : Lay) (ns : List Nm) : (topOf L ns).map (·.1) = ns := by
  unfold topOf
  rw [List.map_map]
  exact List.map_id' ns
theorem nodup_of_lt {ns : List Nm} (h : ns.Pairwise (· < ·)) : ns.Nodup := h.imp fun {a b} (hab : a < b) => by rintro rfl; exact List.lt_irrefl _ hab
theorem not_mem_take {ns : List Nm} (h : ns.Nodup) (j : Nat) (hj : j < ns.length) : ns[j] ∉ ns.take j := by
  intro hm
  rw [List.mem_take_iff_getElem] at hm
  obtain ⟨i, hi, e⟩ := hm
  have := (List.getElem_inj h).1 e
  omega
theorem str_row {w w' : World} {S : Nat → Prop} {B n c : Nat} {A : Option Addr} {l : List Nm} (h : w.ownsRow B 9 1 (.slice A n c) n (l.map encStr)) (k : Ch S w w') (hS : ∀ i, S i → ∀ d, ¬ Cells w i d 9) : w'.ownsRow B 9 1 (.slice A n c) n (l.map encStr) :=
  own_ch h k fun b hb hs => by obtain ⟨d, hd, _⟩ := own_cells h hb; exact hS b hs d hd
theorem row_at {w : World} {B n c : Nat} {A : Option Addr} {l : List Nm} (h : w.ownsRow B 9 1 (.slice A n c) n (l.map encStr)) (j : Nat) (hj : j < l.length) : ∃ g, A = some ⟨g, 0, none⟩ ∧ w.cell? ⟨g, j, none⟩ = some (.string (txt l[j])) ∧ n ≤ c ∧ c ≤ maxLen := by
  have hl := h.1
  rw [List.length_map, Nat.mul_one] at hl
  rcases h.2 with ⟨hv, h0⟩ | ⟨g, cap, cur, hv, hg, hh, h1, h2, h3, h4⟩
  · omega
  · injection hv with e1 e2 e3
    subst e1; subst e3
    have := h.cells (g := g) rfl j (.string (txt l[j])) (by rw [List.getElem?_map, List.getElem?_eq_getElem hj]; rfl)
    rw [add_at, Nat.zero_add] at this
    exact ⟨g, rfl, this, h1, h2⟩
theorem phase1_at (s : Fs) (ps : List Int) (ns : List Nm) (hn : ns.Nodup) (n : Nm) (hm : n ∈ ns) : ∃ k, k ≤ (s.dir n).pend.length ∧ (phase1 s ps ns).2 n = settledDir (s.dir n) k := by
  unfold phase1
  suffices ∀ st : List Int × (Nm → Dir), ∃ k, k ≤ (st.2 n).pend.length ∧ (ns.foldl step1 st).2 n = settledDir (st.2 n) k from this (ps, s.dir)
  intro st
  induction ns generalizing st with
  | nil => simp at hm
  | cons m r ih =>
    have hnd := List.nodup_cons.1 hn
    rw [List.foldl_cons]
    rcases List.mem_cons.1 hm with rfl | hm
    · have : (r.foldl step1 (step1 st n)).2 n = (step1 st n).2 n := by
        have gen : ∀ (l : List Nm) (u : List Int × (Nm → Dir)), n ∉ l → (l.foldl step1 u).2 n = u.2 n := by
          intro l
          induction l with
          | nil => intro _ _; rfl
          | cons a l ih2 =>
            intro u h
            rw [List.foldl_cons, ih2 _ (fun h' => h (List.mem_cons_of_mem _ h'))]
            exact upd_other _ _ _ _ (fun e => h (by rw [e]; exact List.mem_cons_self ..))
        exact gen r _ hnd.1
      rw [this]
      exact ⟨_, pickK_le _ _, upd_same _ _ _⟩
    · have hne : n ≠ m := fun e => hnd.1 (e ▸ hm)
      obtain ⟨k, h1, h2⟩ := ih hnd.2 hm (step1 st m)
      have e : (step1 st m).2 n = st.2 n := upd_other _ _ _ _ hne
      rw [e] at h1 h2
      exact ⟨k, h1, h2⟩
theorem stepD_snoc (st : St2) (l : List (Nm × Nat)) (p : Nm × Nat) : stepD st (l ++ [p]) = step2 (stepD st l) p.2 := by simp [stepD]
theorem phase2_snoc (d : Nm → Dir) (st : St2) (ns : List Nm) (n : Nm) : phase2 d st (ns ++ [n]) = stepD (phase2 d st ns) (d n).now := by simp [phase2]
/-- What is known of the entries that last. -/
structure Lasts (s : Fs) (d1 : Nm → Dir) : Prop where
  rising : ∀ n ∈ s.names, Rising (d1 n).now
  len : ∀ n ∈ s.names, (d1 n).now.length ≤ 1000000
  has : ∀ n ∈ s.names, ∀ p ∈ (d1 n).now, (∃ q, s.file p.2 = some q) ∧ p.1.length ≤ 32
theorem lasts_of {s : Fs} (wf : Wf s) (ps : List Int) : Lasts s (phase1 s ps s.names).2 := by
  have key : ∀ n ∈ s.names, ∃ k, k ≤ (s.dir n).pend.length ∧ ((phase1 s ps s.names).2 n).now = replay ((s.dir n).pend.take k) (s.dir n).base := fun n hn => by
    obtain ⟨k, h1, h2⟩ := phase1_at s ps s.names (nodup_of_lt wf.names) n hn
    exact ⟨k, h1, by rw [h2]; rfl⟩
  refine ⟨fun n hn => ?_, fun n hn => ?_, fun n hn p hp => ?_⟩
  · obtain ⟨k, h1, h2⟩ := key n hn; rw [h2]; exact (wf.dirs n hn).2.2.replay _
  · obtain ⟨k, h1, h2⟩ := key n hn; rw [h2]
    have := replay_length ((s.dir n).pend.take k) (s.dir n).base
    have := (wf.dirs n hn).1
    rw [List.length_take] at *
    omega
  · obtain ⟨k, h1, h2⟩ := key n hn; rw [h2] at hp
    exact wf.there n hn k h1 p hp
def lim (i : Nat) : Nat := 1000000 * i
theorem lim_zero : lim 0 = 0 := rfl
theorem lim_succ (i : Nat) : lim (i + 1) = lim i + 1000000 := Nat.mul_succ _ _
theorem lim_le (i : Nat) (h : i ≤ 64) : lim i ≤ 64000000 := Nat.mul_le_mul_left 1000000 h
end Go.Proofs.YtkcnmajjfljilaaGreatDoor
