/- metalog: removals. -/
import Derived.Test.YtnkhgajghfonhaaGreatDoorMlG
import Derived.Test.YtnkhgajghfonhaaGreatDoorRegRound
namespace Go.Proofs.YtnkhgajghfonhaaGreatDoor
attribute [local go_sem] Oper.semAt_some
open Go Go.ChangeShapes Go.WideShapes Go.ChangeAt Go.RowKit Go.ChangeMaps Go.MapKept
set_option linter.unusedVariables false
set_option linter.unusedSimpArgs false

/-- The files of these names are removed, and that is made safe. -/
def remR (dir : Nm) (ns : List Nm) (s : Fs) : Int × Fs := if ns = [] then (0, s) else thn (rmAll dir ns s) fun s => syncDirR s dir
theorem rmAll_ok {dir : Nm} {a b : List Nm} {s : Fs} (h : (rmAll dir a s).1 ≠ 0) : rmAll dir (a ++ b) s = rmAll dir a s := rmAll_bad h b
/-- While names come: what is removed, and the loop's own memory. -/
structure RmI (K : Nat → Prop) (B f l a hi : Nat) (dir : Nm) (s : Fs) (w : World) (pre : List Nm) (U : World) : Prop where
  ok : (rmAll dir pre s).1 = 0
  rep : Rep (fun i => K i ∨ (a ≤ i ∧ i < hi ∧ i < U.heap.size)) B f (rmAll dir pre s).2 U
  turn : Turn K B w U
  box : Cells U a #[.pointer (some ⟨l, 0, none⟩)] 29
  res : Cells U (a + 1) #[.int .i64 0] 26
structure RmX (K : Nat → Prop) (B f l a hi : Nat) (dir : Nm) (s : Fs) (w : World) (pre : List Nm) (U : World) : Prop where
  bad : (rmAll dir pre s).1 ≠ 0
  rep : Rep (fun i => K i ∨ (a ≤ i ∧ i < hi ∧ i < U.heap.size)) B f (rmAll dir pre s).2 U
  turn : Turn K B w U
  res : Cells U (a + 1) #[.int .i64 (rmAll dir pre s).1] 26
section
variable {K : Nat → Prop} {B f l a hi D : Nat} {dir : Nm} {s : Fs} {w U V : World} {pre : List Nm} {row : Option Nat}
theorem turn_books (h : Turn K B w U) (hK : ∀ i, K i → i < w.heap.size) (hw : w.heap.size ≤ D) (hBw : B ≤ w.heap.size) (hg : U.grownBy V row) (hr : ∀ r, row = some r → D ≤ r ∧ ∃ o, U.heap[r]? = some o ∧ bookish o) : Turn K B w V :=
  h.trans ((ch_of_grown hg).toTurn (fun k hk e => ⟨by have := (hr k e).1; omega, fun hk => by have := hK k hk; have := (hr k e).1; omega⟩) (Nat.le_trans hBw h.size))
theorem rep_books {s' : Fs} (h : Rep (fun i => K i ∨ (a ≤ i ∧ i < hi ∧ i < U.heap.size)) B f s' U) (hg : U.grownBy V row) (hr : ∀ r, row = some r → D ≤ r ∧ ∃ o, U.heap[r]? = some o ∧ bookish o) : Rep (fun i => K i ∨ (a ≤ i ∧ i < hi ∧ i < V.heap.size)) B f s' V :=
  h.books hg (fun r e => (hr r e).2) (fun i hi => hi.elim (fun h => .inl (.inl h)) (fun ⟨h1, h2, h3⟩ => by
    by_cases h4 : i < U.heap.size
    · exact .inl (.inr ⟨h1, h2, h4⟩)
    · exact .inr ⟨by omega, h3⟩))
theorem cells_books {k : Nat} {c : Array Value} {t : TypeId} (h : Cells U k c t) (hg : U.grownBy V row) (hr : ∀ r, row = some r → D ≤ r ∧ ∃ o, U.heap[r]? = some o ∧ bookish o) : Cells V k c t :=
  h.ch (ch_of_grown hg) (fun e => by obtain ⟨_, o, ho, hb⟩ := hr k e; exact bookish_cells ho hb h)
theorem RmI.books (hK : ∀ i, K i → i < w.heap.size) (hw : w.heap.size ≤ D) (hBw : B ≤ w.heap.size) : LoopOwn D (RmI K B f l a hi dir s w) := fun pre U V row h hg hr =>
  ⟨h.ok, rep_books h.rep hg hr, turn_books h.turn hK hw hBw hg hr, cells_books h.box hg hr, cells_books h.res hg hr⟩
theorem RmX.books (hK : ∀ i, K i → i < w.heap.size) (hw : w.heap.size ≤ D) (hBw : B ≤ w.heap.size) : LoopOwn D (RmX K B f l a hi dir s w) := fun pre U V row h hg hr =>
  ⟨h.bad, rep_books h.rep hg hr, turn_books h.turn hK hw hBw hg hr, cells_books h.res hg hr⟩
end
def rmW (w : World) (l : Nat) : World := (w.alloc (.cells #[.pointer (some ⟨l, 0, none⟩)] 29)).alloc (.cells #[.int .i64 0] 26)
theorem rm_mem (w : World) (l : Nat) {w1 : World} (hb : Below (rmW w l).heap.size (rmW w l) w1) :
    Cells w1 w.heap.size #[.pointer (some ⟨l, 0, none⟩)] 29 ∧ Cells w1 (w.heap.size + 1) #[.int .i64 0] 26 ∧ Below w.heap.size w w1 ∧ w.heap.size + 2 ≤ w1.heap.size := by
  have hs : (rmW w l).heap.size = w.heap.size + 2 := by simp [rmW]
  have hb0 : Below w.heap.size w (rmW w l) := ((Below.refl _ w).alloc (Nat.le_refl _) _).alloc (by simp) _
  refine ⟨((Cells.new w _ _).alloc _).ch (chb hb) (fun h => h), (cells_at _ _ (by simp) _ _).ch (chb hb) (fun h => h), hb0.trans (hb.mono hb0.size), by rw [← hs]; exact hb.size⟩
theorem turn_same {K : Nat → Prop} {B k : Nat} {w V : World} (h : Turn K B w V) (hk : k < B ∨ K k) (hw : k < w.heap.size) : V.heap[k]? = w.heap[k]? :=
  hk.elim (fun h1 => h.below.block k h1) (fun h1 => h.ch.block k hw (fun hn => hn h1))
theorem turn_undrew {K : Nat → Prop} {B : Nat} {V W : World} (h : Turn K B V.drew W) : Turn K B V W := ⟨⟨h.below.os, h.below.tape, h.below.output, h.below.size, h.below.block⟩, ⟨h.ch.os, h.ch.tape, h.ch.output, h.ch.size, h.ch.block⟩⟩
theorem rm_kept {K S : Nat → Prop} {B a hi D : Nat} {V V2 : World} (h : Turn (fun i => K i ∨ (a ≤ i ∧ i < hi ∧ i < V.heap.size)) B V V2) (hS : ∀ k, S k → k < B ∨ K k) (ha : a ≤ D) (hhi : D + 6 ≤ hi) (hV : D + 6 ≤ V.heap.size) :
    (Kept (fun k => S k ∨ (D + 2 ≤ k ∧ k < D + 6)) V V2) ∧ BookKept D V V2 := by
  have key : ∀ k, k < V.heap.size → (k < B ∨ K k ∨ (a ≤ k ∧ k < hi)) → V2.heap[k]? = V.heap[k]? := fun k hk hc => by
    rcases hc with h1 | h1 | h1
    · exact h.below.block k h1
    · exact h.ch.block k hk (fun hn => hn (.inl h1))
    · exact h.ch.block k hk (fun hn => hn (.inr ⟨h1.1, h1.2, hk⟩))
  refine ⟨⟨h.ch.os, h.ch.tape, h.ch.output, h.ch.size, fun k hk hn => ?_⟩, key D (by omega) (.inr (.inr ⟨ha, by omega⟩)), key (D + 1) (by omega) (.inr (.inr ⟨by omega, by omega⟩))⟩
  rcases Classical.not_not.1 hn with h1 | h1
  · exact key k hk ((hS k h1).elim .inl (fun h2 => .inr (.inl h2)))
  · exact key k hk (.inr (.inr ⟨by omega, by omega⟩))
theorem rm_set {K S : Nat → Prop} {B f hi D : Nat} {s : Fs} {w V V2 : World} {E : Int} (hr : Cells V2 (w.heap.size + 1) #[.int .i64 0] 26) (hk : (Kept (fun k => S k ∨ (D + 2 ≤ k ∧ k < D + 6)) V V2) ∧ BookKept D V V2) (hS : ∀ k, S k → k < w.heap.size + 1) (hD : w.heap.size + 1 < D)
    (hrep : Rep (fun i => K i ∨ (w.heap.size ≤ i ∧ i < hi ∧ i < V2.heap.size)) B f s V2) (ht : Turn K B w V2) (hBw : B ≤ w.heap.size) (hhi : w.heap.size + 1 < hi) :
    BookKept D V (V2.setCell ⟨w.heap.size + 1, 0, none⟩ (.int .i64 E)) ∧ Kept (fun k => S k ∨ (D + 2 ≤ k ∧ k < D + 6)) V (V2.setCell ⟨w.heap.size + 1, 0, none⟩ (.int .i64 E)) ∧ Rep (fun i => K i ∨ (w.heap.size ≤ i ∧ i < hi ∧ i < (V2.setCell ⟨w.heap.size + 1, 0, none⟩ (.int .i64 E)).heap.size)) B f s (V2.setCell ⟨w.heap.size + 1, 0, none⟩ (.int .i64 E)) ∧
      Turn K B w (V2.setCell ⟨w.heap.size + 1, 0, none⟩ (.int .i64 E)) ∧ Cells (V2.setCell ⟨w.heap.size + 1, 0, none⟩ (.int .i64 E)) (w.heap.size + 1) #[.int .i64 E] 26 := by
  have hch : Ch (· = w.heap.size + 1) V2 (V2.setCell ⟨w.heap.size + 1, 0, none⟩ (.int .i64 E)) := (Ch.refl (· = w.heap.size + 1) V2).set (p := ⟨w.heap.size + 1, 0, none⟩) (.inl rfl) _
  have hsame : ∀ k, k ≠ w.heap.size + 1 → (V2.setCell ⟨w.heap.size + 1, 0, none⟩ (.int .i64 E)).heap[k]? = V2.heap[k]? := fun k hk => Below.heap_setCell V2 ⟨w.heap.size + 1, 0, none⟩ _ k hk
  refine ⟨⟨(hsame D (by omega)).trans hk.2.1, (hsame (D + 1) (by omega)).trans hk.2.2⟩, hk.1.trans (hch.mono fun k _ e hh => ?_), ?_, ⟨ht.below.setCell (p := ⟨w.heap.size + 1, 0, none⟩) (by show B ≤ w.heap.size + 1; omega) _, ?_⟩, by simpa using hr.set 0 (.int .i64 E)⟩
  · subst e
    exact hh.elim (fun h => by have := hS _ h; omega) (fun h => by omega)
  · have hlt := hr.lt
    have h1 := hrep.kept hch (fun i hi2 e => .inr (by subst e; exact ⟨by omega, hhi, hlt⟩))
    have hs : (V2.setCell ⟨w.heap.size + 1, 0, none⟩ (.int .i64 E)).heap.size = V2.heap.size := by simp
    rw [hs]
    exact h1
  · exact ht.ch.set (p := ⟨w.heap.size + 1, 0, none⟩) (.inr (by show w.heap.size ≤ w.heap.size + 1; omega)) _
theorem rm_set3 {K : Nat → Prop} {B f hi : Nat} {s : Fs} {w V2 : World} {E : Int} (hr : Cells V2 (w.heap.size + 1) #[.int .i64 0] 26)
    (hrep : Rep (fun i => K i ∨ (w.heap.size ≤ i ∧ i < hi ∧ i < V2.heap.size)) B f s V2) (ht : Turn K B w V2) (hBw : B ≤ w.heap.size) (hhi : w.heap.size + 1 < hi) :
    Rep (fun i => K i ∨ (w.heap.size ≤ i ∧ i < hi ∧ i < (V2.setCell ⟨w.heap.size + 1, 0, none⟩ (.int .i64 E)).heap.size)) B f s (V2.setCell ⟨w.heap.size + 1, 0, none⟩ (.int .i64 E)) ∧
      Turn K B w (V2.setCell ⟨w.heap.size + 1, 0, none⟩ (.int .i64 E)) ∧ Cells (V2.setCell ⟨w.heap.size + 1, 0, none⟩ (.int .i64 E)) (w.heap.size + 1) #[.int .i64 E] 26 := by
  have hch : Ch (· = w.heap.size + 1) V2 (V2.setCell ⟨w.heap.size + 1, 0, none⟩ (.int .i64 E)) := (Ch.refl (· = w.heap.size + 1) V2).set (p := ⟨w.heap.size + 1, 0, none⟩) (.inl rfl) _
  refine ⟨?_, ⟨ht.below.setCell (p := ⟨w.heap.size + 1, 0, none⟩) (by show B ≤ w.heap.size + 1; omega) _, ?_⟩, by simpa using hr.set 0 (.int .i64 E)⟩
  · have hlt := hr.lt
    have h1 := hrep.kept hch (fun i hi2 e => .inr (by subst e; exact ⟨by omega, hhi, hlt⟩))
    have hs : (V2.setCell ⟨w.heap.size + 1, 0, none⟩ (.int .i64 E)).heap.size = V2.heap.size := by simp
    rw [hs]
    exact h1
  · exact ht.ch.set (p := ⟨w.heap.size + 1, 0, none⟩) (.inr (by show w.heap.size ≤ w.heap.size + 1; omega)) _
theorem rm_end {K : Nat → Prop} {B f hi D : Nat} {s : Fs} {w V : World} (hw : ∀ i, K i → i < w.heap.size) (hBw : B ≤ w.heap.size) (hwD : w.heap.size ≤ D) {o : Obj} (ho : V.heap[D]? = some o) (hb : bookish o) (hrep : Rep (fun i => K i ∨ (w.heap.size ≤ i ∧ i < hi ∧ i < V.heap.size)) B f s V) (ht : Turn K B w V) (o2 : Obj) :
    Rep K B f s (V.putObj D o2) ∧ Turn K B w (V.putObj D o2) :=
  ⟨(rep_books (D := D) hrep (grown_put V D o2) (fun r e => by cases e; exact ⟨Nat.le_refl _, _, ho, hb⟩)).fewer (fun i hi => .inl hi), turn_books (D := D) ht hw hwD hBw (grown_put V D o2) (fun r e => by cases e; exact ⟨Nat.le_refl _, _, ho, hb⟩)⟩
section
variable {K : Nat → Prop} {B f l p1 p2 p3 q : Nat} {dir : Nm} {s : Fs} {S : Nat → Prop} {rs : List Mr} {fs : List Int} {rA fA : Option Addr} {rc fc : Nat} {N : Int} {w : World}
set_option maxRecDepth 100000 in
set_option maxHeartbeats 4000000 in
theorem remove_any2 {M : Nat} (hr : Rep K B f s w) (wf : WfK M s) (hM : M + (lvN (leI N) (neI N) rs fs).length + 1 ≤ 1000000) (hBw : B ≤ w.heap.size) (hrl : rs.length ≤ 1000000000) (hfl : fs.length ≤ 1000000000) (hin : ∀ r ∈ rs, in64 r.id) (hfn : ∀ i ∈ fs, in64 i)
    (h : LvAt B l p1 p2 p3 q S rs fs rA rc fA fc N w) (hSK : ∀ k, S k → k < B ∨ K k) (hl0 : w.cell? ⟨l, 0, none⟩ = some (adr f)) (hl1 : w.cell? ⟨l, 1, none⟩ = some (.string (txt dir))) :
    Calls Tryz.prog 35 #[.pointer (some ⟨l, 0, none⟩), .func (.func 66) #[] #[.pointer (some ⟨p1, 0, none⟩), .pointer (some ⟨p2, 0, none⟩), .pointer (some ⟨p3, 0, none⟩)]] w
      (Post K B f (remR dir (lvN (leI N) (neI N) rs fs) s) w) := by
  have HNN := Lib.hid (fun W (hb : Below w.heap.size w W) => none_any hrl hfl hin hfn (h.kept (Kept.grown (grown_of_below hb))))
  have HH := Lib.hid h
  have HSL := Lib.hid h.lt
  have HREP := Lib.hid hr
  have HKO := Lib.hid (show ∀ i, K i → i < w.heap.size from fun i hi => by obtain ⟨L, hL⟩ := hr; exact hL.kold i hi)
  have HSK := Lib.hid hSK
  have HWF := Lib.hid wf
  have HL0 := Lib.hid hl0
  have HL1 := Lib.hid hl1
  obtain ⟨ns, hns⟩ : ∃ ns, lvN (leI N) (neI N) rs fs = ns := ⟨_, rfl⟩
  rw [hns] at HNN hM ⊢
  have HNS := Lib.hid hns
  clear hr wf h hSK hl0 hl1 hns
  refine (callsIn_wide (n := 8)).1 ?_
  refine callsIn_of_wp_marks Tryz.func35 rfl trivial ?_ rfl
  simp only [Tryz.ntmps35, List.size_toArray, List.length_cons, List.length_nil, Nat.reduceAdd, Nat.reduceSub, Array.replicate_succ, Array.replicate_zero, List.push_toArray, List.append_toArray, List.nil_append, List.cons_append]
  by_cases hne : ns = []
  · subst hne
    have HNN0 := fun W (hb : Below w.heap.size w W) => (HNN.out W hb).mono (R := fun e w' => e = .returned (.bool true) ∧ Below W.heap.size W w') (fun _ _ h => h)
    gi_wp2_with (first
      | (refine ⟨trivial, ?_⟩; gi_at_call 33; refine (callsIn_wide.2 (HNN0 _ (((Below.refl _ w).alloc (Nat.le_refl _) _).alloc (by simp) _))).mono ?_; rintro e w1 ⟨rfl, hb1⟩; obtain ⟨m1, m2, m3, m4⟩ := rm_mem w l hb1; have z0 : w1.cell? ⟨w.heap.size + 1, 0, none⟩ = some (.int .i64 0) := m2.cell 0; have z1 := m2.frozen 0; have M2 := Lib.hid m2; have M3 := Lib.hid m3; clear m1 m2 m3 m4 hb1))
    have r2 : (w1.setCell ⟨w.heap.size + 1, 0, none⟩ (.int .i64 0)).cell? ⟨w.heap.size + 1, 0, none⟩ = some (.int .i64 0) := (M2.out.set 0 (.int .i64 0)).cell 0
    have hb2 : Below w.heap.size w (w1.setCell ⟨w.heap.size + 1, 0, none⟩ (.int .i64 0)) := M3.out.setCell (Nat.le_succ _) _
    refine ⟨.int .i64 0, by simp [results, Tryz.results35, go_sem, r2], rfl, HREP.out.below hb2, Turn.of hb2 hBw⟩
  · have hem : ns.isEmpty = false := by cases ns with | nil => exact absurd rfl hne | cons _ _ => rfl
    rw [hem] at HNN
    have HNE := Lib.hid hne
    clear hem hne
    gi_wp2_with (first
      | (refine ⟨trivial, ?_⟩; gi_at_call 33; refine (callsIn_wide.2 (HNN.out _ (((Below.refl _ w).alloc (Nat.le_refl _) _).alloc (by simp) _))).mono ?_; rintro e w1 ⟨rfl, hb1⟩; have MM := Lib.hid (rm_mem w l hb1); clear hb1))
    obtain ⟨D, hD⟩ : ∃ D, w1.heap.size = D := ⟨_, rfl⟩
    obtain ⟨m1, m2, m3, m4⟩ := MM.out
    have HM1 := Lib.hid m1
    have HM2 := Lib.hid m2
    have HM3 := Lib.hid m3
    rw [hD] at m4
    have HM4 := Lib.hid m4
    clear m1 m2 m3 m4
    refine range_nest rfl (by omega) (gf := 66) (lb := #[.pointer (some ⟨p1, 0, none⟩), .pointer (some ⟨p2, 0, none⟩), .pointer (some ⟨p3, 0, none⟩)]) rfl trivial (enters_of Tryz.func66 (by kernel_rfl) rfl)
      (fun W1 hg hs1 => leave_seqD _ (by omega) (D + 2) hrl hfl hin hfn (HH.out.kept (Kept.trans (Kept.grown (grown_of_below HM3.out)) (Kept.grown hg))) (by rw [hs1, hD])) (fun _ => rfl)
      Kept.trans (fun hg => Kept.grown hg) (fun U o => (ch_put U _ o).mono fun k _ e hk => hk.elim (fun h => by have h8 := HSL.out k h; have h9 := HM4.out; have h7 : k = w1.heap.size + 1 := e; omega) (fun h => by have h7 : k = w1.heap.size + 1 := e; omega))
      (RmI K B f l w.heap.size (D + 6) dir s w) (fun c pre U => c = .ret ∧ RmX K B f l w.heap.size (D + 6) dir s w pre U ∧ ∃ ys, ns = pre ++ ys)
      (RmI.books HKO.out (by have := HM4.out; omega) hBw) (fun c pre U V row h1 hg hr => ⟨h1.1, RmX.books HKO.out (by have := HM4.out; omega) hBw pre U V row h1.2.1 hg hr, h1.2.2⟩)
      (fun pre => (LoopOwn.pure_ (fun _ => _)).and LoopOwn.size_) ?start (fun _ U => U) (fun x U => grown_of_below (Below.refl _ U)) (fun _ _ _ => True) (fun _ _ _ _ _ => trivial) ?a1 ?assign ?body ?done ?stop
    case start =>
      intro W1 hg hs1
      have hb := HM3.out.trans (show Below w.heap.size w1 W1 from ⟨hg.os, hg.tape, hg.output, hg.size, fun k hk => hg.block k (Nat.lt_of_lt_of_le hk HM3.out.size) (by simp)⟩)
      exact ⟨rfl, HREP.out.more (Ch.of_below hb) (fun i hi => hi.elim .inl (fun h => .inr ⟨h.1, h.2.2⟩)), Turn.of hb hBw, HM1.out.ch (ch_grown hg) (fun h => h), HM2.out.ch (ch_grown hg) (fun h => h)⟩
    case assign =>
      intro l0 x U K' hK
      gi_wp2
      exact hK
    case body =>
      rintro l0 pre x U V hI ⟨⟨post, hpre⟩, hVs⟩ _
      have hpl : pre.length + 1 ≤ ns.length := by
        rw [← HNS.out, hpre]; simp
      have hsn := rmAll_snoc dir pre x s
      rw [thn_ok hI.ok] at hsn
      have HSN := Lib.hid hsn
      have HR := Lib.hid (remove_any (hI.rep.quiet ((Ch.refl _ V).drew)) ((wfk_rmAll dir pre HWF.out).wf (by omega)) (Nat.le_trans hBw hI.turn.size) dir x)
      have x0 : V.cell? ⟨w.heap.size, 0, none⟩ = some (.pointer (some ⟨l, 0, none⟩)) := hI.box.cell 0
      have hlw : l < w.heap.size := HSL.out _ HH.out.s.2.2.2.2.1
      have hlV := turn_same hI.turn (HSK.out _ HH.out.s.2.2.2.2.1) hlw
      have x1 : V.cell? ⟨l, 0, none⟩ = some (adr f) := (World.cell?_of_block (a := ⟨l, 0, none⟩) hlV).trans HL0.out
      have x2 : V.cell? ⟨l, 1, none⟩ = some (.string (txt dir)) := (World.cell?_of_block (a := ⟨l, 1, none⟩) hlV).trans HL1.out
      have HI := Lib.hid hI
      have HVS := Lib.hid hVs
      have HY := Lib.hid (show ∃ ys, ns = (pre ++ [x]) ++ ys from ⟨post, by rw [← HNS.out, hpre]; simp⟩)
      obtain ⟨R, hR⟩ : ∃ R, removeR (rmAll dir pre s).2 dir x = R := ⟨_, rfl⟩
      obtain ⟨E, s2⟩ := R
      rw [hR] at HR hsn
      have HSN2 := Lib.hid hsn
      clear hI hlV hpre hsn hR HSN hVs
      gi_wp2
      refine wpIn_mono ?_ noPanic_le
      refine held_round 11 (fun W => W.cell? ⟨w.heap.size, 0, none⟩ = some (.pointer (some ⟨l, 0, none⟩)) ∧ W.cell? ⟨l, 0, none⟩ = some (adr f) ∧ W.cell? ⟨l, 1, none⟩ = some (.string (txt dir))) rfl (by kernel_rfl) (by simp) (fun ⟨_, _, h⟩ => h) ?_
      have hS : V.drew.cell? ⟨w.heap.size, 0, none⟩ = some (.pointer (some ⟨l, 0, none⟩)) ∧ V.drew.cell? ⟨l, 0, none⟩ = some (adr f) ∧ V.drew.cell? ⟨l, 1, none⟩ = some (.string (txt dir)) := ⟨x0, x1, x2⟩
      refine held_take (i := 0) (t := 11) (v := (.pointer (some ⟨l, 0, none⟩))) (fuel := 10) rfl rfl (by kernel_rfl) (by kernel_rfl) (by kernel_rfl) (fun _ _ _ h => h) (.inl ⟨rfl, fun W hW => by obtain ⟨w1, w2, w3⟩ := hW; simp [execOp, Act.eval, go_sem, adr, w1, w2, w3]⟩) hS ?_
      simp only [List.setIfInBounds_toArray, List.set_cons_succ, List.set_cons_zero]
      refine held_take (i := 1) (t := 12) (v := (.pointer (some ⟨l, 0, none⟩))) (fuel := 9) rfl rfl (by kernel_rfl) (by kernel_rfl) (by kernel_rfl) (fun _ _ _ h => h) (.inl ⟨rfl, fun W hW => by obtain ⟨w1, w2, w3⟩ := hW; simp [execOp, Act.eval, go_sem, adr, w1, w2, w3]⟩) hS ?_
      simp only [List.setIfInBounds_toArray, List.set_cons_succ, List.set_cons_zero]
      refine held_take (i := 2) (t := 13) (v := (.pointer (some ⟨l, 0, none⟩))) (fuel := 8) rfl rfl (by kernel_rfl) (by kernel_rfl) (by kernel_rfl) (fun _ _ _ h => h) (.inl ⟨rfl, fun W hW => by obtain ⟨w1, w2, w3⟩ := hW; simp [execOp, Act.eval, go_sem, adr, w1, w2, w3]⟩) hS ?_
      simp only [List.setIfInBounds_toArray, List.set_cons_succ, List.set_cons_zero]
      refine held_take (i := 3) (t := 14) (v := (adr f)) (fuel := 7) rfl rfl (by kernel_rfl) (by kernel_rfl) (by kernel_rfl) (fun _ _ _ h => h) (.inl ⟨rfl, fun W hW => by obtain ⟨w1, w2, w3⟩ := hW; simp [execOp, Act.eval, go_sem, adr, w1, w2, w3]⟩) hS ?_
      simp only [List.setIfInBounds_toArray, List.set_cons_succ, List.set_cons_zero]
      refine held_take (i := 4) (t := 15) (v := (.pointer (some ⟨l, 0, none⟩))) (fuel := 6) rfl rfl (by kernel_rfl) (by kernel_rfl) (by kernel_rfl) (fun _ _ _ h => h) (.inl ⟨rfl, fun W hW => by obtain ⟨w1, w2, w3⟩ := hW; simp [execOp, Act.eval, go_sem, adr, w1, w2, w3]⟩) hS ?_
      simp only [List.setIfInBounds_toArray, List.set_cons_succ, List.set_cons_zero]
      refine held_take (i := 5) (t := 16) (v := (.pointer (some ⟨l, 0, none⟩))) (fuel := 5) rfl rfl (by kernel_rfl) (by kernel_rfl) (by kernel_rfl) (fun _ _ _ h => h) (.inl ⟨rfl, fun W hW => by obtain ⟨w1, w2, w3⟩ := hW; simp [execOp, Act.eval, go_sem, adr, w1, w2, w3]⟩) hS ?_
      simp only [List.setIfInBounds_toArray, List.set_cons_succ, List.set_cons_zero]
      refine held_take (i := 6) (t := 17) (v := (.pointer (some ⟨l, 1, none⟩))) (fuel := 4) rfl rfl (by kernel_rfl) (by kernel_rfl) (by kernel_rfl) (fun _ _ _ h => h) (.inl ⟨rfl, fun W hW => by obtain ⟨w1, w2, w3⟩ := hW; simp [execOp, Act.eval, go_sem, adr, w1, w2, w3]⟩) hS ?_
      simp only [List.setIfInBounds_toArray, List.set_cons_succ, List.set_cons_zero]
      refine held_take (i := 7) (t := 18) (v := (.string (txt dir))) (fuel := 3) rfl rfl (by kernel_rfl) (by kernel_rfl) (by kernel_rfl) (fun _ _ _ h => h) (.inl ⟨rfl, fun W hW => by obtain ⟨w1, w2, w3⟩ := hW; simp [execOp, Act.eval, go_sem, adr, w1, w2, w3]⟩) hS ?_
      simp only [List.setIfInBounds_toArray, List.set_cons_succ, List.set_cons_zero]
      refine held_take (i := 8) (t := 19) (v := (.string (txt x))) (fuel := 2) rfl rfl (by kernel_rfl) (by kernel_rfl) (by kernel_rfl) (fun _ _ _ h => h) (.inl ⟨rfl, fun W hW => by obtain ⟨w1, w2, w3⟩ := hW; simp [execOp, Act.eval, go_sem, adr, w1, w2, w3]⟩) hS ?_
      simp only [List.setIfInBounds_toArray, List.set_cons_succ, List.set_cons_zero]
      refine held_call (i := 9) rfl (by kernel_rfl) (by kernel_rfl) ?_
      simp [Oper.wp, execOp, Act.eval, Act.put, go_sem, adr]
      refine HR.out.mono ?_
      rintro e V2 ⟨rfl, hr, ht⟩
      replace ht := turn_undrew ht
      have hk2 := rm_kept (D := D) ht HSK.out (by have := HM4.out; omega) (Nat.le_refl _) (by have := HVS.out; omega)
      have hVlt := HI.out.box.lt
      have hbox : Cells V2 w.heap.size #[.pointer (some ⟨l, 0, none⟩)] 29 := (turn_same ht (.inr (.inr ⟨Nat.le_refl _, by have := HM4.out; omega, hVlt⟩)) hVlt).trans HI.out.box
      have hVlt2 := HI.out.res.lt
      have hres : Cells V2 (w.heap.size + 1) #[.int .i64 0] 26 := (turn_same ht (.inr (.inr ⟨Nat.le_succ _, by have := HM4.out; omega, hVlt2⟩)) hVlt2).trans HI.out.res
      have hlV2 : V2.heap[l]? = V.heap[l]? := turn_same ht ((HSK.out _ HH.out.s.2.2.2.2.1).elim .inl (fun h => .inr (.inl h))) (Nat.lt_of_lt_of_le hlw HI.out.turn.size)
      have hS : V2.cell? ⟨w.heap.size, 0, none⟩ = some (.pointer (some ⟨l, 0, none⟩)) ∧ V2.cell? ⟨l, 0, none⟩ = some (adr f) ∧ V2.cell? ⟨l, 1, none⟩ = some (.string (txt dir)) := ⟨hbox.cell 0, (World.cell?_of_block (a := ⟨l, 0, none⟩) hlV2).trans x1, (World.cell?_of_block (a := ⟨l, 1, none⟩) hlV2).trans x2⟩
      have hr2 : Rep (fun i => K i ∨ (w.heap.size ≤ i ∧ i < D + 6 ∧ i < V2.heap.size)) B f s2 V2 := hr.fewer (fun i hi => hi.elim .inl (fun h => .inr ⟨h.1, h.2.1, by have := HVS.out; show i < V.heap.size; omega⟩))
      have ht2 : Turn K B w V2 := HI.out.turn.trans ⟨ht.below, ht.ch.mono (fun k _ hn hk => hn (.inl hk))⟩
      have HK2 := Lib.hid hk2
      have HBX := Lib.hid hbox
      have HRS := Lib.hid hres
      have HR2 := Lib.hid hr2
      have HT2 := Lib.hid ht2
      refine ⟨hS, ?_⟩
      try simp only [List.setIfInBounds_toArray, List.set_cons_succ, List.set_cons_zero]
      refine held_take (i := 10) (t := 6) (v := (.int .i64 E)) (fuel := 0) rfl rfl (by kernel_rfl) (by kernel_rfl) (by kernel_rfl) (fun _ _ _ h => h) (.inl ⟨rfl, fun W hW => by simp [execOp, Act.eval, go_sem]⟩) hS ?_
      simp only [List.setIfInBounds_toArray, List.set_cons_succ, List.set_cons_zero]
      refine wpAnyH_done (by kernel_rfl) ?_ 0
      unfold noPanic
      clear hS hr ht hk2 hbox hres hlV2 hr2 ht2 hVlt hVlt2
      by_cases h0 : E = 0
      · subst h0
        gi_wp2
        rw [hD]
        exact ⟨HK2.out.2, HK2.out.1, by rw [HSN2.out], by rw [HSN2.out]; exact HR2.out, HT2.out, HBX.out, HRS.out⟩
      · have hne : (E != 0) = true := by rw [bne_iff_ne]; exact h0
        have z0 : V2.cell? ⟨w.heap.size + 1, 0, none⟩ = some (.int .i64 0) := HRS.out.cell 0
        have z1 := HRS.out.frozen 0
        gi_wp2
        rw [hD]
        have hset := rm_set (V2 := V2) (E := E) HRS.out HK2.out (fun k hk => by have := HSL.out k hk; omega) (by have := HM4.out; omega) HR2.out HT2.out hBw (by have := HM4.out; omega)
        exact ⟨hset.1, hset.2.1, rfl, ⟨by rw [HSN2.out]; exact h0, by rw [HSN2.out]; exact hset.2.2.1, hset.2.2.2.1, by rw [HSN2.out]; exact hset.2.2.2.2⟩, HY.out⟩
    case done =>
      rintro xs V hxs hI hK
      rw [hD] at hK ⊢
      rw [hxs, HNS.out] at hI
      have x0 : V.cell? ⟨w.heap.size, 0, none⟩ = some (.pointer (some ⟨l, 0, none⟩)) := hI.box.cell 0
      have hlw : l < w.heap.size := HSL.out _ HH.out.s.2.2.2.2.1
      have hlV := turn_same hI.turn (HSK.out _ HH.out.s.2.2.2.2.1) hlw
      have x1 : V.cell? ⟨l, 0, none⟩ = some (adr f) := (World.cell?_of_block (a := ⟨l, 0, none⟩) hlV).trans HL0.out
      have x2 : V.cell? ⟨l, 1, none⟩ = some (.string (txt dir)) := (World.cell?_of_block (a := ⟨l, 1, none⟩) hlV).trans HL1.out
      have HI := Lib.hid hI
      have HK := Lib.hid hK
      have HR := Lib.hid (syncDir_any (hI.rep.quiet ((Ch.refl _ V).drew)) ((wfk_rmAll dir ns HWF.out).wf (by omega)) (Nat.le_trans hBw hI.turn.size) dir)
      have HRM := Lib.hid (show remR dir ns s = syncDirR (rmAll dir ns s).2 dir by unfold remR; rw [if_neg HNE.out, thn_ok hI.ok])
      obtain ⟨R, hR⟩ : ∃ R, syncDirR (rmAll dir ns s).2 dir = R := ⟨_, rfl⟩
      obtain ⟨E, s2⟩ := R
      rw [hR] at HR HRM
      clear hI hlV hR hK hxs
      gi_wp2
      refine wpIn_mono ?_ noPanic_le
      refine wpIn_wide.2 ?_
      refine held_begin 10 (fun W => W.cell? ⟨w.heap.size, 0, none⟩ = some (.pointer (some ⟨l, 0, none⟩)) ∧ W.cell? ⟨l, 0, none⟩ = some (adr f) ∧ W.cell? ⟨l, 1, none⟩ = some (.string (txt dir))) rfl (by kernel_rfl) ?_
      have hS : V.drew.cell? ⟨w.heap.size, 0, none⟩ = some (.pointer (some ⟨l, 0, none⟩)) ∧ V.drew.cell? ⟨l, 0, none⟩ = some (adr f) ∧ V.drew.cell? ⟨l, 1, none⟩ = some (.string (txt dir)) := ⟨x0, x1, x2⟩
      refine held_take (i := 0) (t := 24) (v := (.pointer (some ⟨l, 0, none⟩))) (fuel := 9) rfl rfl (by kernel_rfl) (by kernel_rfl) (by kernel_rfl) (fun _ _ _ h => h) (.inl ⟨rfl, fun W hW => by obtain ⟨w1, w2, w3⟩ := hW; simp [execOp, Act.eval, go_sem, adr, w1, w2, w3]⟩) hS ?_
      simp only [List.setIfInBounds_toArray, List.set_cons_succ, List.set_cons_zero]
      refine held_take (i := 1) (t := 25) (v := (.pointer (some ⟨l, 0, none⟩))) (fuel := 8) rfl rfl (by kernel_rfl) (by kernel_rfl) (by kernel_rfl) (fun _ _ _ h => h) (.inl ⟨rfl, fun W hW => by obtain ⟨w1, w2, w3⟩ := hW; simp [execOp, Act.eval, go_sem, adr, w1, w2, w3]⟩) hS ?_
      simp only [List.setIfInBounds_toArray, List.set_cons_succ, List.set_cons_zero]
      refine held_take (i := 2) (t := 26) (v := (.pointer (some ⟨l, 0, none⟩))) (fuel := 7) rfl rfl (by kernel_rfl) (by kernel_rfl) (by kernel_rfl) (fun _ _ _ h => h) (.inl ⟨rfl, fun W hW => by obtain ⟨w1, w2, w3⟩ := hW; simp [execOp, Act.eval, go_sem, adr, w1, w2, w3]⟩) hS ?_
      simp only [List.setIfInBounds_toArray, List.set_cons_succ, List.set_cons_zero]
      refine held_take (i := 3) (t := 27) (v := (adr f)) (fuel := 6) rfl rfl (by kernel_rfl) (by kernel_rfl) (by kernel_rfl) (fun _ _ _ h => h) (.inl ⟨rfl, fun W hW => by obtain ⟨w1, w2, w3⟩ := hW; simp [execOp, Act.eval, go_sem, adr, w1, w2, w3]⟩) hS ?_
      simp only [List.setIfInBounds_toArray, List.set_cons_succ, List.set_cons_zero]
      refine held_take (i := 4) (t := 28) (v := (.pointer (some ⟨l, 0, none⟩))) (fuel := 5) rfl rfl (by kernel_rfl) (by kernel_rfl) (by kernel_rfl) (fun _ _ _ h => h) (.inl ⟨rfl, fun W hW => by obtain ⟨w1, w2, w3⟩ := hW; simp [execOp, Act.eval, go_sem, adr, w1, w2, w3]⟩) hS ?_
      simp only [List.setIfInBounds_toArray, List.set_cons_succ, List.set_cons_zero]
      refine held_take (i := 5) (t := 29) (v := (.pointer (some ⟨l, 0, none⟩))) (fuel := 4) rfl rfl (by kernel_rfl) (by kernel_rfl) (by kernel_rfl) (fun _ _ _ h => h) (.inl ⟨rfl, fun W hW => by obtain ⟨w1, w2, w3⟩ := hW; simp [execOp, Act.eval, go_sem, adr, w1, w2, w3]⟩) hS ?_
      simp only [List.setIfInBounds_toArray, List.set_cons_succ, List.set_cons_zero]
      refine held_take (i := 6) (t := 30) (v := (.pointer (some ⟨l, 1, none⟩))) (fuel := 3) rfl rfl (by kernel_rfl) (by kernel_rfl) (by kernel_rfl) (fun _ _ _ h => h) (.inl ⟨rfl, fun W hW => by obtain ⟨w1, w2, w3⟩ := hW; simp [execOp, Act.eval, go_sem, adr, w1, w2, w3]⟩) hS ?_
      simp only [List.setIfInBounds_toArray, List.set_cons_succ, List.set_cons_zero]
      refine held_take (i := 7) (t := 31) (v := (.string (txt dir))) (fuel := 2) rfl rfl (by kernel_rfl) (by kernel_rfl) (by kernel_rfl) (fun _ _ _ h => h) (.inl ⟨rfl, fun W hW => by obtain ⟨w1, w2, w3⟩ := hW; simp [execOp, Act.eval, go_sem, adr, w1, w2, w3]⟩) hS ?_
      simp only [List.setIfInBounds_toArray, List.set_cons_succ, List.set_cons_zero]
      refine held_call (i := 8) rfl (by kernel_rfl) (by kernel_rfl) ?_
      simp [Oper.wp, execOp, Act.eval, Act.put, go_sem, adr]
      refine HR.out.mono ?_
      rintro e V2 ⟨rfl, hr, ht⟩
      replace ht := turn_undrew ht
      have hDV : D < V.heap.size := (Array.getElem?_eq_some_iff.1 HK.out).1
      have hVlt := HI.out.box.lt
      have hbox : Cells V2 w.heap.size #[.pointer (some ⟨l, 0, none⟩)] 29 := (turn_same ht (.inr (.inr ⟨Nat.le_refl _, by have := HM4.out; omega, hVlt⟩)) hVlt).trans HI.out.box
      have hVlt2 := HI.out.res.lt
      have hres : Cells V2 (w.heap.size + 1) #[.int .i64 0] 26 := (turn_same ht (.inr (.inr ⟨Nat.le_succ _, by have := HM4.out; omega, hVlt2⟩)) hVlt2).trans HI.out.res
      have hdf : V2.heap[D]? = some (.deferred (some [])) := (turn_same ht (.inr (.inr ⟨by have := HM4.out; omega, by omega, hDV⟩)) hDV).trans HK.out
      have hlV2 : V2.heap[l]? = V.heap[l]? := turn_same ht ((HSK.out _ HH.out.s.2.2.2.2.1).elim .inl (fun h => .inr (.inl h))) (Nat.lt_of_lt_of_le hlw HI.out.turn.size)
      have hS : V2.cell? ⟨w.heap.size, 0, none⟩ = some (.pointer (some ⟨l, 0, none⟩)) ∧ V2.cell? ⟨l, 0, none⟩ = some (adr f) ∧ V2.cell? ⟨l, 1, none⟩ = some (.string (txt dir)) := ⟨hbox.cell 0, (World.cell?_of_block (a := ⟨l, 0, none⟩) hlV2).trans x1, (World.cell?_of_block (a := ⟨l, 1, none⟩) hlV2).trans x2⟩
      have hr2 : Rep (fun i => K i ∨ (w.heap.size ≤ i ∧ i < min (D + 6) V.heap.size ∧ i < V2.heap.size)) B f s2 V2 := hr.fewer (fun i hi => hi.elim .inl (fun h => .inr ⟨h.1, by have := h.2.1; omega, by have := h.2.1; show i < V.heap.size; omega⟩))
      have ht2 : Turn K B w V2 := HI.out.turn.trans ⟨ht.below, ht.ch.mono (fun k _ hn hk => hn (.inl hk))⟩
      obtain ⟨r3, r4, r5⟩ := rm_set3 (E := E) hres hr2 ht2 hBw (by have := HM4.out; omega)
      have hdf2 : (V2.setCell ⟨w.heap.size + 1, 0, none⟩ (.int .i64 E)).heap[D]? = some (.deferred (some [])) := (Below.heap_setCell V2 ⟨w.heap.size + 1, 0, none⟩ _ D (by show D ≠ w.heap.size + 1; have := HM4.out; omega)).trans hdf
      obtain ⟨r6, r7⟩ := rm_end HKO.out hBw (by have := HM4.out; omega) hdf2 trivial r3 r4 (.deferred none)
      have r8 : ((V2.setCell ⟨w.heap.size + 1, 0, none⟩ (.int .i64 E)).putObj D (.deferred none)).cell? ⟨w.heap.size + 1, 0, none⟩ = some (.int .i64 E) := (World.cell?_of_block (a := ⟨w.heap.size + 1, 0, none⟩) (World.putObj_heap_other (by show w.heap.size + 1 ≠ D; have := HM4.out; omega))).trans (r5.cell 0)
      have z0 : V2.cell? ⟨w.heap.size + 1, 0, none⟩ = some (.int .i64 0) := hres.cell 0
      have z1 := hres.frozen 0
      refine ⟨hS, ?_⟩
      try simp only [List.setIfInBounds_toArray, List.set_cons_succ, List.set_cons_zero]
      refine held_call (i := 9) rfl (by kernel_rfl) (by kernel_rfl) ?_
      simp [Oper.wp, execOp, Act.eval, Act.put, go_sem, z0, z1]
      have hne1 : ∀ k, k ≠ w.heap.size + 1 → (V2.setCell ⟨w.heap.size + 1, 0, none⟩ (.int .i64 E)).heap[k]? = V2.heap[k]? := fun k hk => Below.heap_setCell V2 ⟨w.heap.size + 1, 0, none⟩ _ k hk
      refine ⟨⟨?_, ?_, ?_⟩, ?_⟩
      · first | exact hS.1 | exact (World.cell?_of_block (a := ⟨w.heap.size, 0, none⟩) (hne1 _ (by show w.heap.size ≠ _; omega))).trans hS.1
      · first | exact hS.2.1 | exact (World.cell?_of_block (a := ⟨l, 0, none⟩) (hne1 _ (by show l ≠ _; omega))).trans hS.2.1
      · first | exact hS.2.2 | exact (World.cell?_of_block (a := ⟨l, 1, none⟩) (hne1 _ (by show l ≠ _; omega))).trans hS.2.2
      refine wpAnyH_done (by kernel_rfl) ?_ 0
      unfold noPanic
      gi_wp2
      refine ⟨by simp, .inl ⟨_, _, rfl, run_takeDeferred hdf2, ?_⟩⟩
      rw [HRM.out]
      exact ⟨.int .i64 E, by simp [results, Tryz.results35, go_sem, r8], rfl, r6, r7⟩
    case stop =>
      rintro c pre V ⟨rfl, hX, ys, hys⟩ hK
      rw [hD] at hK ⊢
      have HX := Lib.hid hX
      have HK := Lib.hid hK
      have HRM := Lib.hid (show remR dir ns s = ((rmAll dir pre s).1, (rmAll dir pre s).2) by
        have e := rmAll_bad hX.bad ys
        unfold remR
        rw [if_neg HNE.out, hys, e, thn_bad hX.bad])
      clear hX hK
      gi_wp2
      refine ⟨by simp, .inl ⟨_, _, rfl, run_takeDeferred HK.out, ?_⟩⟩
      have hlt := HX.out.res.lt
      have r2 : (V.putObj D (.deferred none)).cell? ⟨w.heap.size + 1, 0, none⟩ = some (.int .i64 (rmAll dir pre s).1) := (World.cell?_of_block (a := ⟨w.heap.size + 1, 0, none⟩) (World.putObj_heap_other (by show w.heap.size + 1 ≠ D; have := HM4.out; omega))).trans (HX.out.res.cell 0)
      obtain ⟨r3, r4⟩ := rm_end (hi := D + 6) HKO.out hBw (by have := HM4.out; omega) HK.out trivial HX.out.rep HX.out.turn (.deferred none)
      rw [HRM.out]
      exact ⟨.int .i64 (rmAll dir pre s).1, by simp [results, Tryz.results35, go_sem, r2], rfl, r3, r4⟩
end
end Go.Proofs.YtnkhgajghfonhaaGreatDoor
