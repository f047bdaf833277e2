/- Several texts in one: PlClean, PlClean2, PlClean3, PlReady. -/
import Derived.Test.YtkcnmajjfljilaaGreatDoorPlIter
import Derived.Test.YtkcnmajjfljilaaGreatDoorPlPut
/- place.Clean, place.Ready. -/
namespace Go.Proofs.YtkcnmajjfljilaaGreatDoor
attribute [local go_sem] Oper.semAt_some
open Go Go.ChangeShapes Go.WideShapes Go.ChangeAt Go.RowKit Go.ChangeMaps Go.MapKept
set_option linter.unusedVariables false

/-- Removals, one behind the other. -/
def rmAll (dir : Nm) : List Nm → Fs → Int × Fs
  | [], s => (0, s)
  | x :: r, s => thn (removeR s dir x) (rmAll dir r)
theorem rmAll_snoc (dir : Nm) (l : List Nm) (x : Nm) (s : Fs) : rmAll dir (l ++ [x]) s = thn (rmAll dir l s) fun s => removeR s dir x := by
  induction l generalizing s with
  | nil =>
    show thn (removeR s dir x) (rmAll dir []) = thn (0, s) _
    rw [thn_ok (r := (0, s)) rfl]
    unfold thn
    split
    · rename_i h; show (0, _) = _; rw [← h]
    · rfl
  | cons y l ih =>
    rw [List.cons_append, rmAll, rmAll]
    unfold thn
    by_cases h : (removeR s dir y).1 = 0
    · rw [if_pos h, if_pos h, ih]; rfl
    · rw [if_neg h, if_neg h, if_neg h]
theorem rmAll_bad {dir : Nm} {l : List Nm} {s : Fs} (h : (rmAll dir l s).1 ≠ 0) (r : List Nm) : rmAll dir (l ++ r) s = rmAll dir l s := by
  induction l generalizing s with
  | nil => exact absurd rfl h
  | cons y l ih =>
    rw [List.cons_append, rmAll, rmAll] at *
    unfold thn at *
    by_cases h1 : (removeR s dir y).1 = 0
    · rw [if_pos h1] at h; rw [if_pos h1, if_pos h1, ih h]
    · rw [if_neg h1, if_neg h1]
theorem wfk_rmAll {K : Nat} (dir : Nm) (l : List Nm) {s : Fs} (h : WfK K s) : WfK (K + l.length) (rmAll dir l s).2 := by
  induction l generalizing K s with
  | nil => exact h
  | cons y l ih =>
    rw [rmAll]
    unfold thn
    split
    · have := ih (wfk_remove h dir y)
      rw [List.length_cons, show K + (l.length + 1) = K + 1 + l.length by omega]
      exact this
    · exact (wfk_remove h dir y).mono (by simp)
/-- What Clean answers and leaves. -/
def cleanR (s : Fs) (dir : Nm) : Int × Int × Fs :=
  if liveE s dir [] ≠ 0 then (0, liveE s dir [], s)
  else if (rmAll dir (tmps (listN s dir)) s).1 ≠ 0 then (0, rmAll dir (tmps (listN s dir)) s)
  else if tmps (listN s dir) = [] then (0, rmAll dir (tmps (listN s dir)) s)
  else if (syncDirR (rmAll dir (tmps (listN s dir)) s).2 dir).1 ≠ 0 then (0, syncDirR (rmAll dir (tmps (listN s dir)) s).2 dir)
  else ((tmps (listN s dir)).length, syncDirR (rmAll dir (tmps (listN s dir)) s).2 dir)
theorem tmps_len (ns : List Nm) : (tmps ns).length ≤ ns.length := List.length_filter_le _ _
theorem wfk_clean {K : Nat} {s : Fs} (h : WfK K s) (dir : Nm) : WfK (K + (listN s dir).length + 1) (cleanR s dir).2.2 := by
  have h1 := wfk_rmAll dir (tmps (listN s dir)) h
  have h2 := tmps_len (listN s dir)
  unfold cleanR
  split
  · exact h.mono (by omega)
  · split
    · exact h1.mono (by omega)
    · split
      · exact h1.mono (by omega)
      · split
        · exact (wfk_syncDir h1 dir).mono (by omega)
        · exact (wfk_syncDir h1 dir).mono (by omega)
theorem begun_any (A : Option Addr) (n c : Nat) (W : World) : Calls Tryz.prog 87 #[.slice A n c] W fun e w' => e = .returned (.func (.func 131) #[] #[.pointer (some ⟨W.heap.size, 0, none⟩)]) ∧ W.alloc (.cells #[.slice A n c] 92) = w' := by
  go_enter Tryz.func87, Tryz.ntmps87
  go_wp2
  go_ret
  exact ⟨rfl, rfl⟩
def CleanPost (Kp : Nat → Prop) (B f : Nat) (r : Int × Int × Fs) (w : World) (e : Ending) (w' : World) : Prop := e = .returned (.tuple #[.int .i64 r.1, .int .i64 r.2.1]) ∧ Rep Kp B f r.2.2 w' ∧ Turn Kp B w w'
/-- Clean's own memory: where the file system is, the name, and the two answers. -/
structure ClMem (p f : Nat) (dir : Nm) (r E : Int) (W : World) : Prop where
  c0 : Cells W p #[adr f] 32
  c1 : Cells W (p + 1) #[.string (txt dir)] 9
  c2 : Cells W (p + 2) #[.int .i64 r] 3
  c3 : Cells W (p + 3) #[.int .i64 E] 33
def clW (w : World) (f : Nat) (dir : Nm) : World := (((w.alloc (.cells #[.pointer (some ⟨f, 0, none⟩)] 32)).alloc (.cells #[.string (txt dir)] 9)).alloc (.cells #[.int .i64 0] 3)).alloc (.cells #[.int .i64 0] 33)
theorem clW_mem (w : World) (f : Nat) (dir : Nm) : ClMem w.heap.size f dir 0 0 (clW w f dir) := by
  unfold clW
  exact ⟨(((cells_at w _ rfl _ _).alloc _).alloc _).alloc _, ((cells_at _ _ (by simp) _ _).alloc _).alloc _, (cells_at _ _ (by simp) _ _).alloc _, cells_at _ _ (by simp) _ _⟩
theorem clW_below (w : World) (f : Nat) (dir : Nm) : Below w.heap.size w (clW w f dir) := by
  unfold clW
  exact Below.al (Below.al (Below.al (Below.al (Below.refl _ w) (Nat.le_refl _) _) (Nat.le_refl _) _) (Nat.le_refl _) _) (Nat.le_refl _) _
theorem clW_size (w : World) (f : Nat) (dir : Nm) : (clW w f dir).heap.size = w.heap.size + 4 := by simp [clW]
theorem ClMem.below {p f : Nat} {dir : Nm} {r E : Int} {W W' : World} (h : ClMem p f dir r E W) (hb : Below W.heap.size W W') : ClMem p f dir r E W' :=
  ⟨h.c0.below hb h.c0.lt, h.c1.below hb h.c1.lt, h.c2.below hb h.c2.lt, h.c3.below hb h.c3.lt⟩
/-- The two answers are stored. -/
theorem ClMem.store {p f : Nat} {dir : Nm} {r E : Int} {W : World} (h : ClMem p f dir r E W) (r' E' : Int) : ClMem p f dir r' E' ((W.setCell ⟨p + 2, 0, none⟩ (.int .i64 r')).setCell ⟨p + 3, 0, none⟩ (.int .i64 E')) :=
  ⟨(h.c0.set_other (by simp) _).set_other (by simp) _, (h.c1.set_other (by simp) _).set_other (by simp) _, (h.c2.set 0 _).set_other (by simp) _, (h.c3.set_other (by simp) _).set 0 _⟩
theorem Ch.store2 {S : Nat → Prop} {W0 W : World} (h : Ch S W0 W) {p : Nat} (hp : S (p + 2) ∧ S (p + 3)) (r' E' : Int) : Ch S W0 ((W.setCell ⟨p + 2, 0, none⟩ (.int .i64 r')).setCell ⟨p + 3, 0, none⟩ (.int .i64 E')) :=
  (h.set (p := ⟨p + 2, 0, none⟩) (.inl hp.1) _).set (p := ⟨p + 3, 0, none⟩) (.inl hp.2) _
theorem Rep.fresh {Kp : Nat → Prop} {B f : Nat} {s : Fs} {w : World} (h : Rep Kp B f s w) {k : Nat} (hk : w.heap.size ≤ k) : ¬ Kp k := by
  obtain ⟨L, h⟩ := h; exact h.fresh hk
/-- A caller's own cells turn: the file system doesn't. -/
theorem Rep.own {Kp S : Nat → Prop} {B f a b : Nat} {s s' : Fs} {w W W' : World} (h0 : Rep Kp B f s w) (ha : w.heap.size ≤ a) (hB : B ≤ w.heap.size) (h : Rep (With Kp a b) B f s' W) (ht : Turn Kp B w W) (k : Ch S W W') (hS : ∀ i, S i → a ≤ i ∧ i < b) :
    Rep (With Kp a b) B f s' W' ∧ Turn Kp B w W' :=
  ⟨h.kept k (fun i _ hs => .inr (hS i hs)), ht.trans (k.toTurn (fun i hi hs => ⟨by have := hS i hs; omega, h0.fresh (Nat.le_trans ha (hS i hs).1)⟩) (Nat.le_trans hB ht.size))⟩
section
variable {Kp : Nat → Prop} {B f : Nat} {s : Fs} {w : World}
set_option maxHeartbeats 1000000 in
theorem clean_bad (h : Rep Kp B f s w) (wf : Wf s) (hBw : B ≤ w.heap.size) (dir : Nm) (hE : liveE s dir [] ≠ 0) :
    Calls Tryz.prog 59 #[.pointer (some ⟨f, 0, none⟩), .string (txt dir)] w (CleanPost Kp B f (cleanR s dir) w) := by
  have HC := Lib.hid (show cleanR s dir = (0, liveE s dir [], s) from if_pos hE)
  have HBb := Lib.hid (clW_below w f dir)
  have HM := Lib.hid (fun w1 (hb : Below (clW w f dir).heap.size (clW w f dir) w1) => (clW_mem w f dir).below hb)
  have hsz := clW_size w f dir
  have HSZ := Lib.hid hsz
  have HL := Lib.hid (list_any (h.below HBb.out) wf dir)
  have HQ := Lib.hid (fun w1 (hb : Below w.heap.size w w1) => h.below hb)
  have HT := Lib.hid (fun w1 (hb : Below w.heap.size w w1) => (Turn.of hb hBw : Turn Kp B w w1))
  have HK := Lib.hid (fun w1 (hb : Below w.heap.size w w1) => h.keep hb)
  have H0 := Lib.hid h
  obtain ⟨E, hEE⟩ : ∃ E, liveE s dir [] = E := ⟨_, rfl⟩
  rw [hEE] at HL hE HC
  have hne : (E != 0) = true := by rw [bne_iff_ne]; exact hE
  have hLL := HL.out
  unfold clW at hLL
  have HLL := Lib.hid hLL
  clear h wf hEE hLL hsz
  go_enter Tryz.func59, Tryz.ntmps59
  go_wp2_with (first
    | (go_at_call 57; refine HLL.out.mono ?_; rintro e w1 ⟨v, rfl, hown, hb⟩; have HB := Lib.hid (show Below (clW w f dir).heap.size (clW w f dir) w1 from hb); have x2 := (HM.out w1 HB.out).c2.cell 0; have x2f := (HM.out w1 HB.out).c2.frozen 0; have x3 := (HM.out w1 HB.out).c3.cell 0; have x3f := (HM.out w1 HB.out).c3.frozen 0; clear hown hb))
  have hm := (HM.out w1 HB.out).store 0 E
  have r2 := hm.c2.cell 0
  have r3 := hm.c3.cell 0
  have hbw := HBb.out.trans (HB.out.mono HBb.out.size)
  have hs1 := HSZ.out
  have hs2 := HB.out.size
  obtain ⟨g1, g2⟩ := H0.out.own (Nat.le_refl _) hBw (HK.out w1 hbw) (HT.out w1 hbw) (Ch.store2 (S := fun i => i = w.heap.size + 2 ∨ i = w.heap.size + 3) (Ch.refl _ w1) (p := w.heap.size) ⟨.inl rfl, .inr rfl⟩ 0 E) (fun i hi => by omega)
  refine bodyPost_ret (v := .tuple #[.int .i64 0, .int .i64 E]) (by simp [results, Tryz.results59, go_sem, r2, r3]) rfl ?_
  rw [HC.out]
  exact ⟨rfl, g1.kept_, g2⟩
end
end Go.Proofs.YtkcnmajjfljilaaGreatDoor

/- place.Clean, where there is the directory. -/
namespace Go.Proofs.YtkcnmajjfljilaaGreatDoor
attribute [local go_sem] Oper.semAt_some
open Go Go.ChangeShapes Go.WideShapes Go.ChangeAt Go.RowKit Go.ChangeMaps Go.MapKept
set_option linter.unusedVariables false

theorem ch_put (U : World) (l : Nat) (o : Obj) : Ch (· = l) U (U.putObj l o) :=
  ⟨rfl, rfl, rfl, by simp, fun k _ hk => World.putObj_heap_other (fun e => hk e)⟩
theorem ch_grown {U V : World} (h : U.grownBy V none) : Ch (fun _ => False) U V := (Ch.refl _ U).grown h (fun k e => by cases e)
theorem ClMem.ch {p f : Nat} {dir : Nm} {r E : Int} {S : Nat → Prop} {W W' : World} (h : ClMem p f dir r E W) (k : Ch S W W') (hs : ∀ i, p ≤ i → i < p + 4 → ¬ S i) : ClMem p f dir r E W' :=
  ⟨h.c0.ch k (hs _ (by omega) (by omega)), h.c1.ch k (hs _ (by omega) (by omega)), h.c2.ch k (hs _ (by omega) (by omega)), h.c3.ch k (hs _ (by omega) (by omega))⟩
/-- Between two rounds: all of pre is gone. a: Clean's first block; q: the count's; D: the loop's first. -/
structure ClI (Kp : Nat → Prop) (B f q D : Nat) (s : Fs) (dir : Nm) (w : World) (pre : List Nm) (W : World) : Prop where
  ok : (rmAll dir pre s).1 = 0
  rep : Rep (With Kp w.heap.size (D + 2)) B f (rmAll dir pre s).2 W
  turn : Turn Kp B w W
  mem : ClMem w.heap.size f dir 0 0 W
  cnt : Cells W q #[.int .i64 (pre.length : Int)] 3
  size : D + 2 ≤ W.heap.size
/-- One could not be removed. -/
structure ClX (Kp : Nat → Prop) (B f D : Nat) (s : Fs) (dir : Nm) (w : World) (pre : List Nm) (W : World) : Prop where
  bad : (rmAll dir pre s).1 ≠ 0
  rep : Rep (With Kp w.heap.size (D + 2)) B f (rmAll dir pre s).2 W
  turn : Turn Kp B w W
  mem : ClMem w.heap.size f dir 0 (rmAll dir pre s).1 W
  size : D + 2 ≤ W.heap.size
section
variable {Kp : Nat → Prop} {B f q D : Nat} {s : Fs} {dir : Nm} {w : World} {pre : List Nm} {U V : World}
theorem ClI.grown (h : ClI Kp B f q D s dir w pre U) (hg : U.grownBy V none) (hBw : B ≤ w.heap.size) : ClI Kp B f q D s dir w pre V :=
  have k := ch_grown hg
  ⟨h.ok, h.rep.quiet k, h.turn.trans (k.toTurn (fun _ _ hf => hf.elim) (Nat.le_trans hBw h.turn.size)), h.mem.ch k (fun _ _ _ h => h), h.cnt.ch k (fun h => h), Nat.le_trans h.size k.size⟩
theorem ClX.grown (h : ClX Kp B f D s dir w pre U) (hg : U.grownBy V none) (hBw : B ≤ w.heap.size) : ClX Kp B f D s dir w pre V :=
  have k := ch_grown hg
  ⟨h.bad, h.rep.quiet k, h.turn.trans (k.toTurn (fun _ _ hf => hf.elim) (Nat.le_trans hBw h.turn.size)), h.mem.ch k (fun _ _ _ h => h), Nat.le_trans h.size k.size⟩
theorem ClI.put (h : ClI Kp B f q D s dir w pre U) (h0 : Rep Kp B f s w) (hBw : B ≤ w.heap.size) (hq : w.heap.size + 4 ≤ q ∧ q < D) (o : Obj) : ClI Kp B f q D s dir w pre (U.putObj (D + 1) o) := by
  have k := ch_put U (D + 1) o
  obtain ⟨g1, g2⟩ := h0.own (Nat.le_refl _) hBw h.rep h.turn k (fun i hi => by omega)
  exact ⟨h.ok, g1, g2, h.mem.ch k (fun i _ _ => by omega), h.cnt.ch k (by omega), Nat.le_trans h.size k.size⟩
theorem ClX.put (h : ClX Kp B f D s dir w pre U) (h0 : Rep Kp B f s w) (hBw : B ≤ w.heap.size) (hq : w.heap.size + 4 ≤ D) (o : Obj) : ClX Kp B f D s dir w pre (U.putObj (D + 1) o) := by
  have k := ch_put U (D + 1) o
  obtain ⟨g1, g2⟩ := h0.own (Nat.le_refl _) hBw h.rep h.turn k (fun i hi => by omega)
  exact ⟨h.bad, g1, g2, h.mem.ch k (fun i _ _ => by omega), Nat.le_trans h.size k.size⟩
/-- At the end: what the rounds deferred is taken. -/
theorem cl_end {s' : Fs} {r E : Int} (h0 : Rep Kp B f s w) (hBw : B ≤ w.heap.size) (hD : w.heap.size + 4 ≤ D) (rep : Rep (With Kp w.heap.size (D + 2)) B f s' U) (turn : Turn Kp B w U) (mem : ClMem w.heap.size f dir r E U) (o : Obj) :
    (U.putObj D o).cell? ⟨w.heap.size + 2, 0, none⟩ = some (.int .i64 r) ∧ (U.putObj D o).cell? ⟨w.heap.size + 3, 0, none⟩ = some (.int .i64 E) ∧ Rep Kp B f s' (U.putObj D o) ∧ Turn Kp B w (U.putObj D o) := by
  have k := ch_put U D o
  obtain ⟨g1, g2⟩ := h0.own (Nat.le_refl _) hBw rep turn k (fun i hi => by omega)
  have m := mem.ch k (fun i _ _ => by omega)
  exact ⟨m.c2.cell 0, m.c3.cell 0, g1.kept_, g2⟩
/-- A call of the file system's, in a round. -/
theorem ClI.call (h : ClI Kp B f q D s dir w pre U) (hq : w.heap.size + 4 ≤ q ∧ q < D) (t : Turn (With Kp w.heap.size (D + 2)) B U V) :
    Turn Kp B w V ∧ ClMem w.heap.size f dir 0 0 V ∧ Cells V q #[.int .i64 (pre.length : Int)] 3 ∧ D + 2 ≤ V.heap.size ∧ BookKept D U V ∧ Kept (fun k => w.heap.size ≤ k ∧ k < D) U V := by
  have hs := h.size
  exact ⟨h.turn.trans t.kept, ⟨t.cells (Nat.le_refl _) (by omega) h.mem.c0, t.cells (by omega) (by omega) h.mem.c1, t.cells (by omega) (by omega) h.mem.c2, t.cells (by omega) (by omega) h.mem.c3⟩, t.cells (by omega) (by omega) h.cnt,
    Nat.le_trans h.size t.size, ⟨t.same (by omega) (by omega) (by omega), t.same (by omega) (by omega) (by omega)⟩, t.ch.mono fun k _ hn hk => hn (.inr ⟨hk.1, by omega⟩)⟩
theorem BookKept.ch {D : Nat} {S : Nat → Prop} {A U V : World} (h : BookKept D A U) (k : Ch S U V) (hs : D + 2 ≤ U.heap.size) (h1 : ¬ S D ∧ ¬ S (D + 1)) : BookKept D A V :=
  ⟨(k.block D (by omega) h1.1).trans h.1, (k.block (D + 1) (by omega) h1.2).trans h.2⟩
/-- A round's end: counted. -/
theorem cl_next {s1 : Fs} {n v : Int} (h0 : Rep Kp B f s w) (hBw : B ≤ w.heap.size) (hq : w.heap.size + 4 ≤ q ∧ q < D)
    (h : Turn Kp B w V ∧ ClMem w.heap.size f dir 0 0 V ∧ Cells V q #[.int .i64 n] 3 ∧ D + 2 ≤ V.heap.size ∧ BookKept D U V ∧ Kept (fun k => w.heap.size ≤ k ∧ k < D) U V) (hr : Rep (With Kp w.heap.size (D + 2)) B f s1 V) :
    BookKept D U (V.setCell ⟨q, 0, none⟩ (.int .i64 v)) ∧ Kept (fun k => w.heap.size + 4 ≤ k ∧ k < D ∧ k ≠ q) U (V.setCell ⟨q, 0, none⟩ (.int .i64 v)) ∧ Rep (With Kp w.heap.size (D + 2)) B f s1 (V.setCell ⟨q, 0, none⟩ (.int .i64 v)) ∧ Turn Kp B w (V.setCell ⟨q, 0, none⟩ (.int .i64 v)) ∧
      ClMem w.heap.size f dir 0 0 (V.setCell ⟨q, 0, none⟩ (.int .i64 v)) ∧ Cells (V.setCell ⟨q, 0, none⟩ (.int .i64 v)) q #[.int .i64 v] 3 ∧ D + 2 ≤ (V.setCell ⟨q, 0, none⟩ (.int .i64 v)).heap.size := by
  obtain ⟨t, m, c, hs, b, kk⟩ := h
  have k : Ch (· = q) V (V.setCell ⟨q, 0, none⟩ (.int .i64 v)) := (Ch.refl (· = q) V).set (p := ⟨q, 0, none⟩) (.inl rfl) _
  obtain ⟨g1, g2⟩ := h0.own (Nat.le_refl _) hBw hr t k (fun i hi => by omega)
  refine ⟨b.ch k hs (by omega), Ch.then_ (Ch.mono kk fun i _ hn hk => hn ⟨by omega, by omega⟩) k (fun i _ e hk => hk.2.2 e), g1, g2, m.ch k (fun i _ _ => by omega), c.set 0 _, Nat.le_trans hs k.size⟩
/-- A round's end: an error is stored. -/
theorem cl_leave {s1 : Fs} {n r E : Int} (h0 : Rep Kp B f s w) (hBw : B ≤ w.heap.size) (hq : w.heap.size + 4 ≤ q ∧ q < D)
    (h : Turn Kp B w V ∧ ClMem w.heap.size f dir 0 0 V ∧ Cells V q #[.int .i64 n] 3 ∧ D + 2 ≤ V.heap.size ∧ BookKept D U V ∧ Kept (fun k => w.heap.size ≤ k ∧ k < D) U V) (hr : Rep (With Kp w.heap.size (D + 2)) B f s1 V) :
    BookKept D U ((V.setCell ⟨w.heap.size + 2, 0, none⟩ (.int .i64 r)).setCell ⟨w.heap.size + 3, 0, none⟩ (.int .i64 E)) ∧ Rep (With Kp w.heap.size (D + 2)) B f s1 ((V.setCell ⟨w.heap.size + 2, 0, none⟩ (.int .i64 r)).setCell ⟨w.heap.size + 3, 0, none⟩ (.int .i64 E)) ∧
      Turn Kp B w ((V.setCell ⟨w.heap.size + 2, 0, none⟩ (.int .i64 r)).setCell ⟨w.heap.size + 3, 0, none⟩ (.int .i64 E)) ∧ ClMem w.heap.size f dir r E ((V.setCell ⟨w.heap.size + 2, 0, none⟩ (.int .i64 r)).setCell ⟨w.heap.size + 3, 0, none⟩ (.int .i64 E)) ∧
      D + 2 ≤ ((V.setCell ⟨w.heap.size + 2, 0, none⟩ (.int .i64 r)).setCell ⟨w.heap.size + 3, 0, none⟩ (.int .i64 E)).heap.size := by
  obtain ⟨t, m, c, hs, b, kk⟩ := h
  have k := Ch.store2 (S := fun i => i = w.heap.size + 2 ∨ i = w.heap.size + 3) (Ch.refl _ V) (p := w.heap.size) ⟨.inl rfl, .inr rfl⟩ r E
  obtain ⟨g1, g2⟩ := h0.own (Nat.le_refl _) hBw hr t k (fun i hi => by omega)
  exact ⟨b.ch k hs (by omega), g1, g2, m.store r E, Nat.le_trans hs k.size⟩
theorem ClI.six (h : ClI Kp B f q D s dir w pre V) : Turn Kp B w V ∧ ClMem w.heap.size f dir 0 0 V ∧ Cells V q #[.int .i64 (pre.length : Int)] 3 ∧ D + 2 ≤ V.heap.size ∧ BookKept D V V ∧ Kept (fun k => w.heap.size ≤ k ∧ k < D) V V :=
  ⟨h.turn, h.mem, h.cnt, h.size, ⟨rfl, rfl⟩, Ch.refl _ _⟩
end
end Go.Proofs.YtkcnmajjfljilaaGreatDoor

/- place.Clean: the walk. -/
namespace Go.Proofs.YtkcnmajjfljilaaGreatDoor
attribute [local go_sem] Oper.semAt_some
open Go Go.ChangeShapes Go.WideShapes Go.ChangeAt Go.RowKit Go.ChangeMaps Go.MapKept
set_option linter.unusedVariables false

section
variable {Kp : Nat → Prop} {B f : Nat} {s : Fs} {w : World}
set_option maxRecDepth 100000 in
set_option maxHeartbeats 4000000 in
theorem clean_good {K : Nat} (h : Rep Kp B f s w) (wf : WfK K s) (dir : Nm) (hK : K + (listN s dir).length + 1 ≤ 1000000) (hBw : B ≤ w.heap.size) (hE : liveE s dir [] = 0) :
    Calls Tryz.prog 59 #[.pointer (some ⟨f, 0, none⟩), .string (txt dir)] w (CleanPost Kp B f (cleanR s dir) w) := by
  have HBb := Lib.hid (clW_below w f dir)
  have HSZ := Lib.hid (clW_size w f dir)
  have HM := Lib.hid (fun w1 (hb : Below (clW w f dir).heap.size (clW w f dir) w1) => (clW_mem w f dir).below hb)
  have HL := list_any (h.below HBb.out) (wf.wf (by omega)) dir
  rw [hE] at HL
  have H0 := Lib.hid h
  have HWF := Lib.hid wf
  have HE := Lib.hid hE
  obtain ⟨ns, hns⟩ : ∃ ns, listN s dir = ns := ⟨_, rfl⟩
  rw [hns] at HL hK
  have HNS := Lib.hid hns
  have HTL := Lib.hid (tmps_len ns)
  unfold clW at HL
  have HLL := Lib.hid HL
  clear h wf hE hns HL
  refine (callsIn_wide (n := 6)).1 ?_
  refine callsIn_of_wp_marks Tryz.func59 rfl trivial ?_ rfl
  simp only [Tryz.ntmps59, List.size_toArray, List.length_cons, List.length_nil, Nat.reduceAdd, Nat.reduceSub, Array.replicate_succ, Array.replicate_zero, List.push_toArray, List.append_toArray, List.nil_append, List.cons_append]
  gi_wp2_with (first
    | (refine ⟨trivial, ?_⟩; gi_at_call 57; refine (callsIn_wide.2 HLL.out).mono ?_; rintro e w1 ⟨v, rfl, hown, hb⟩; obtain ⟨A, c, rfl, hat, hob⟩ := names_own hown; have HAT := Lib.hid hat; have HOB := Lib.hid hob; have HB := Lib.hid (show Below (clW w f dir).heap.size (clW w f dir) w1 from hb); clear hown hb hat hob)
    | (refine ⟨trivial, ?_⟩; gi_at_call 87; refine (callsIn_wide.2 (begun_any _ _ _ _)).mono ?_; rintro e w2 ⟨rfl, rfl⟩))
  obtain ⟨q, hq⟩ : ∃ q, w1.heap.size = q := ⟨_, rfl⟩
  obtain ⟨W0, hW0⟩ : ∃ W0, (w1.alloc (.cells #[.int .i64 0] 3)).alloc (.cells #[.slice A ns.length c] 92) = W0 := ⟨_, rfl⟩
  have hsz : W0.heap.size = q + 2 := by rw [← hW0, ← hq]; simp
  have hbW : Below (clW w f dir).heap.size (clW w f dir) W0 := by rw [← hW0]; exact Below.al (Below.al HB.out (Nat.le_refl _) _) (Nat.le_refl _) _
  have hqw : w.heap.size + 4 ≤ q := by rw [← hq, ← HSZ.out]; exact HB.out.size
  have hcnt : Cells W0 q #[.int .i64 0] 3 := by rw [← hW0, ← hq]; exact (Cells.new w1 _ _).alloc _
  have hbox : Cells W0 (q + 1) #[.slice A ns.length c] 92 := by rw [← hW0, ← hq]; exact cells_at _ _ (by simp) _ _
  have hnk : NamesK (fun k => w.heap.size + 4 ≤ k ∧ k < q + 2 ∧ k ≠ q) W0 A ns := by
    have hb1 : Below w1.heap.size w1 W0 := by rw [← hW0]; exact Below.al (Below.al (Below.refl _ w1) (Nat.le_refl _) _) (Nat.le_refl _) _
    refine ⟨fun j hj => ?_, fun j hj x hx => ?_⟩
    · obtain ⟨g, e, hc⟩ := HAT.out j hj
      subst e
      have hl := (HOB.out g rfl).2
      exact ⟨g, rfl, (hb1.cell (p := ⟨g, j, none⟩) hl).trans hc⟩
    · obtain ⟨g, e, hc⟩ := HAT.out j hj
      rw [e] at hx
      injection hx with hx
      subst hx
      subst e
      have hl : (clW w f dir).heap.size ≤ g ∧ g < w1.heap.size := HOB.out g rfl
      rw [HSZ.out] at hl
      rw [hsz]
      show (w.heap.size + 4 ≤ g ∧ g < q + 2 ∧ g ≠ q) ∧ g < q + 2
      omega
  have hmem := HM.out W0 hbW
  have hbw := HBb.out.trans (hbW.mono HBb.out.size)
  have hrep := H0.out.keep hbw
  rw [hq, hW0]
  have HCNT := Lib.hid hcnt
  have HMEM := Lib.hid hmem
  have HBW := Lib.hid hbw
  have HQW := Lib.hid hqw
  have HNL := Lib.hid (show ns.length ≤ 9223372036854775807 by omega)
  have hKt := HTL.out
  clear hW0 hbW hmem hcnt hrep
  refine range_keep rfl (by omega) (gf := 131) (lb := #[.pointer (some ⟨q + 1, 0, none⟩)]) rfl trivial (enters_of Tryz.func131 (by kernel_rfl) rfl)
    (begun_seq _ (by omega) ns HNL.out (q + 1) c (fun k => w.heap.size + 4 ≤ k ∧ k < q + 2 ∧ k ≠ q) A W0 ⟨by omega, by omega, by omega⟩ hbox hnk) (fun _ => rfl)
    Kept.trans (Ch.refl _ W0) (fun _ hg => Kept.grown hg) (fun U o => (ch_put U _ o).mono fun k _ e hk => by omega)
    (fun pre W => ClI Kp B f q (q + 2) s dir w pre W) (fun c pre W => c = .ret ∧ ClX Kp B f (q + 2) s dir w pre W ∧ ∃ ys, tmps ns = pre ++ ys)
    (fun _ _ _ hi hg => hi.grown hg hBw) (fun _ _ _ _ hi hg => ⟨hi.1, hi.2.1.grown hg hBw, hi.2.2⟩) (fun _ _ _ _ hi _ => by rw [hsz]; exact hi.put H0.out hBw ⟨hqw, by omega⟩ _) (fun _ _ _ _ _ hi _ => by rw [hsz]; exact ⟨hi.1, hi.2.1.put H0.out hBw (by omega) _, hi.2.2⟩)
    (fun _ _ _ _ _ hy _ => hy) ?start ?a1 ?assign ?body ?done ?stop
  case start =>
    intro W1 hg hs1
    have k := ch_grown hg
    have hb1 : Below W0.heap.size W0 W1 := k.toBelow (fun _ _ hf => hf.elim) (Nat.le_refl _)
    have hb2 := HBW.out.trans (hb1.mono HBW.out.size)
    have hr := H0.out.keep hb2
    rw [hs1, hsz] at hr
    exact ⟨rfl, hr, Turn.of hb2 hBw, HMEM.out.ch k (fun _ _ _ h => h), HCNT.out.ch k (fun h => h), by omega⟩
  case assign =>
    intro l0 x W K hK
    gi_wp2
    exact hK
  case body =>
    rintro l0 pre x W hI ⟨post, hy⟩
    have hpl : pre.length + 1 ≤ ns.length := by
      have := hKt
      rw [hy] at this
      simp at this; omega
    have hsn := rmAll_snoc dir pre x s
    rw [thn_ok hI.ok] at hsn
    have HR := Lib.hid (remove_any hI.rep ((wfk_rmAll dir pre HWF.out).wf (by omega)) (Nat.le_trans hBw hI.turn.size) dir x)
    have x0 := hI.mem.c0.cell 0
    have x1 := hI.mem.c1.cell 0
    have HCALL := Lib.hid (fun V (t : Turn (With Kp w.heap.size (q + 2 + 2)) B W V) => hI.call ⟨hqw, by omega⟩ t)
    have HSN := Lib.hid hsn
    have HY := Lib.hid (show ∃ ys, tmps ns = (pre ++ [x]) ++ ys from ⟨post, by rw [hy]; simp⟩)
    obtain ⟨E, hEE⟩ : ∃ E, (removeR (rmAll dir pre s).2 dir x).1 = E := ⟨_, rfl⟩
    have HEE := Lib.hid hEE
    unfold Post at HR
    rw [hEE] at HR
    clear hI hsn hEE hy
    by_cases h0 : E = 0
    · subst h0
      gi_wp2_with (first
        | (refine ⟨trivial, ?_⟩; gi_at_call 88; refine (CallsIn.inRound l0 (callsIn_wide.2 HR.out)).mono ?_; rintro e V ⟨rfl, hr, ht⟩; have HRV := Lib.hid hr; have HV := Lib.hid (HCALL.out V ht); have y0 := HV.out.2.2.1.cell 0; have y0f := HV.out.2.2.1.frozen 0; clear hr ht))
      obtain ⟨g1, g2, g3, g4, g5, g6, g7⟩ := cl_next (v := (pre.length : Int) + 1) H0.out hBw ⟨HQW.out, by omega⟩ HV.out HRV.out
      rw [hsz]
      refine ⟨g1, g2, ⟨by rw [HSN.out, HEE.out], by rw [HSN.out]; exact g3, g4, g5, ?_, g7⟩⟩
      rw [List.length_append, List.length_singleton]
      exact g6
    · have hne : (E != 0) = true := by rw [bne_iff_ne]; exact h0
      gi_wp2_with (first
        | (refine ⟨trivial, ?_⟩; gi_at_call 88; refine (CallsIn.inRound l0 (callsIn_wide.2 HR.out)).mono ?_; rintro e V ⟨rfl, hr, ht⟩; have HRV := Lib.hid hr; have HV := Lib.hid (HCALL.out V ht); have y2 := HV.out.2.1.c2.cell 0; have y2f := HV.out.2.1.c2.frozen 0; have y3 := HV.out.2.1.c3.cell 0; have y3f := HV.out.2.1.c3.frozen 0; clear hr ht))
      obtain ⟨g1, g3, g4, g5, g7⟩ := cl_leave (r := 0) (E := E) H0.out hBw ⟨HQW.out, by omega⟩ HV.out HRV.out
      rw [hsz]
      exact ⟨g1, rfl, ⟨by rw [HSN.out, HEE.out]; exact h0, by rw [HSN.out]; exact g3, g4, by rw [HSN.out, HEE.out]; exact g5, g7⟩, HY.out⟩
  case done =>
    rintro xs W rfl hI hK
    have HI := Lib.hid hI
    rw [hsz] at hK
    have HKK := Lib.hid hK
    have y0 := hI.cnt.cell 0
    have y2 := hI.mem.c2.cell 0
    have y2f := hI.mem.c2.frozen 0
    have y3 := hI.mem.c3.cell 0
    have y3f := hI.mem.c3.frozen 0
    have x0 := hI.mem.c0.cell 0
    have x1 := hI.mem.c1.cell 0
    obtain ⟨N, hN⟩ : ∃ N, (tmps ns).length = N := ⟨_, rfl⟩
    rw [hN] at y0
    have HN := Lib.hid hN
    clear hI hK hN
    by_cases hN0 : N = 0
    · subst hN0
      have HC := Lib.hid (show cleanR s dir = (0, 0, (rmAll dir (tmps ns) s).2) by
        have h1 := HI.out.ok
        have h2 : tmps ns = [] := List.eq_nil_of_length_eq_zero HN.out
        unfold cleanR
        rw [HNS.out, if_neg (fun h => h HE.out), if_neg (fun h => h h1), if_pos h2, h2]; rfl)
      gi_wp2
      obtain ⟨g1, g3, g4, g5, g7⟩ := cl_leave (r := 0) (E := 0) H0.out hBw ⟨HQW.out, by omega⟩ HI.out.six HI.out.rep
      rw [hsz]
      refine ⟨by simp, .inl ⟨_, _, rfl, run_takeDeferred (g1.1.trans HKK.out), ?_⟩⟩
      obtain ⟨r2, r3, r4, r5⟩ := cl_end H0.out hBw (by omega) g3 g4 g5 (.deferred none)
      rw [HC.out]
      exact ⟨.tuple #[.int .i64 0, .int .i64 0], by simp [results, Tryz.results59, go_sem, r2, r3], rfl, r4, r5⟩
    · have hSD := syncDir_any HI.out.rep ((wfk_rmAll dir (tmps ns) HWF.out).wf (by have := HTL.out; omega)) (Nat.le_trans hBw HI.out.turn.size) dir
      have HCALL := Lib.hid (fun V (t : Turn (With Kp w.heap.size (q + 2 + 2)) B W V) => HI.out.call ⟨hqw, by omega⟩ t)
      obtain ⟨R, hR⟩ : ∃ R, syncDirR (rmAll dir (tmps ns) s).2 dir = R := ⟨_, rfl⟩
      rw [hR] at hSD
      obtain ⟨E, s2⟩ := R
      have HSD := Lib.hid hSD
      unfold Post at HSD
      have HC0 := Lib.hid (show cleanR s dir = if E ≠ 0 then (0, E, s2) else ((N : Int), E, s2) by
        have h1 := HI.out.ok
        have h2 : tmps ns ≠ [] := fun e => hN0 (by rw [← HN.out, e]; rfl)
        unfold cleanR
        rw [HNS.out, if_neg (fun h => h HE.out), if_neg (fun h => h h1), if_neg h2, hR, HN.out])
      clear hSD hR
      by_cases h0 : E = 0
      · subst h0
        have HC := Lib.hid (show cleanR s dir = ((N : Int), 0, s2) by rw [HC0.out, if_neg (fun h => h rfl)])
        clear HC0
        gi_wp2_with (first
          | (refine ⟨trivial, ?_⟩; gi_at_call 68; refine (callsIn_wide.2 HSD.out).mono ?_; rintro e V ⟨rfl, hr, ht⟩; have HRV := Lib.hid hr; have HV := Lib.hid (HCALL.out V ht); have z0 : V.cell? ⟨q, 0, none⟩ = some (.int .i64 (N : Int)) := (by have z := HV.out.2.2.1.cell 0; rw [HN.out] at z; exact z); have z2 := HV.out.2.1.c2.cell 0; have z2f := HV.out.2.1.c2.frozen 0; have z3 := HV.out.2.1.c3.cell 0; have z3f := HV.out.2.1.c3.frozen 0; clear hr ht))
        obtain ⟨g1, g3, g4, g5, g7⟩ := cl_leave (r := (N : Int)) (E := 0) H0.out hBw ⟨HQW.out, by omega⟩ HV.out HRV.out
        try rw [hsz]
        refine ⟨by simp, .inl ⟨_, _, rfl, run_takeDeferred (g1.1.trans HKK.out), ?_⟩⟩
        obtain ⟨r2, r3, r4, r5⟩ := cl_end H0.out hBw (by omega) g3 g4 g5 (.deferred none)
        rw [HC.out]
        exact ⟨.tuple #[.int .i64 (N : Int), .int .i64 0], by simp [results, Tryz.results59, go_sem, r2, r3], rfl, r4, r5⟩
      · have hne : (E != 0) = true := by rw [bne_iff_ne]; exact h0
        have HC := Lib.hid (show cleanR s dir = (0, E, s2) by rw [HC0.out, if_pos h0])
        clear HC0
        gi_wp2_with (first
          | (refine ⟨trivial, ?_⟩; gi_at_call 68; refine (callsIn_wide.2 HSD.out).mono ?_; rintro e V ⟨rfl, hr, ht⟩; have HRV := Lib.hid hr; have HV := Lib.hid (HCALL.out V ht); have z2 := HV.out.2.1.c2.cell 0; have z2f := HV.out.2.1.c2.frozen 0; have z3 := HV.out.2.1.c3.cell 0; have z3f := HV.out.2.1.c3.frozen 0; clear hr ht))
        obtain ⟨g1, g3, g4, g5, g7⟩ := cl_leave (r := 0) (E := E) H0.out hBw ⟨HQW.out, by omega⟩ HV.out HRV.out
        try rw [hsz]
        refine ⟨by simp, .inl ⟨_, _, rfl, run_takeDeferred (g1.1.trans HKK.out), ?_⟩⟩
        obtain ⟨r2, r3, r4, r5⟩ := cl_end H0.out hBw (by omega) g3 g4 g5 (.deferred none)
        rw [HC.out]
        exact ⟨.tuple #[.int .i64 0, .int .i64 E], by simp [results, Tryz.results59, go_sem, r2, r3], rfl, r4, r5⟩
  case stop =>
    rintro c pre W ⟨rfl, hX, hpre⟩ hK
    rw [hsz] at hK
    obtain ⟨ys, hys⟩ := hpre
    have HC := Lib.hid (show cleanR s dir = (0, (rmAll dir pre s).1, (rmAll dir pre s).2) by
      have h1 := hX.bad
      have h2 : rmAll dir (tmps ns) s = rmAll dir pre s := by rw [hys]; exact rmAll_bad h1 ys
      unfold cleanR
      rw [HNS.out, if_neg (fun h => h HE.out), h2, if_pos h1])
    gi_wp2
    rw [hsz]
    refine ⟨by simp, .inl ⟨_, _, rfl, run_takeDeferred hK, ?_⟩⟩
    obtain ⟨r2, r3, r4, r5⟩ := cl_end H0.out hBw (by omega) hX.rep hX.turn hX.mem (.deferred none)
    rw [HC.out]
    exact ⟨.tuple #[.int .i64 0, .int .i64 (rmAll dir pre s).1], by simp [results, Tryz.results59, go_sem, r2, r3], rfl, r4, r5⟩
end
end Go.Proofs.YtkcnmajjfljilaaGreatDoor

/- place.Clean and place.Ready, whole; of no file system. -/
namespace Go.Proofs.YtkcnmajjfljilaaGreatDoor
open Go Go.ChangeShapes Go.WideShapes Go.ChangeAt Go.RowKit Go.ChangeMaps Go.MapKept
set_option linter.unusedVariables false

theorem listN_K {K : Nat} {s : Fs} (wf : WfK K s) (dir : Nm) : (listN s dir).length ≤ K := by
  unfold listN
  split
  · rename_i h
    rcases live_cases ⟨0, fun _ => 0, fun _ => 0, fun _ => 0, fun _ => .nilIface, fun _ => none, fun _ => 0⟩ s dir [] with ⟨_, _, _, _, hin⟩ | ⟨h2, _⟩
    · rw [List.length_map, wf.now dir hin]
      have := replay_length (s.dir dir).pend (s.dir dir).base
      have := wf.size dir hin
      omega
    · exact absurd h h2
  · simp
section
variable {Kp : Nat → Prop} {B f : Nat} {s : Fs} {w : World}
theorem clean_any {K : Nat} (h : Rep Kp B f s w) (wf : WfK K s) (dir : Nm) (hK : K + (listN s dir).length + 1 ≤ 1000000) (hBw : B ≤ w.heap.size) :
    Calls Tryz.prog 59 #[.pointer (some ⟨f, 0, none⟩), .string (txt dir)] w (CleanPost Kp B f (cleanR s dir) w) := by
  by_cases hE : liveE s dir [] = 0
  · exact clean_good h wf dir hK hBw hE
  · exact clean_bad h (wf.wf (by omega)) hBw dir hE

/-! ### Ready -/
def readyM (s : Fs) (dir : Nm) : Int × Fs := if liveE s dir [] = 61 then mkdirR s dir else (0, s)
def readyR (s : Fs) (dir : Nm) : List Nm × Int × Fs :=
  if (readyM s dir).1 ≠ 0 then ([], readyM s dir)
  else if (cleanR (readyM s dir).2 dir).2.1 ≠ 0 then ([], (cleanR (readyM s dir).2 dir).2)
  else (listN (cleanR (readyM s dir).2 dir).2.2 dir, liveE (cleanR (readyM s dir).2 dir).2.2 dir [], (cleanR (readyM s dir).2 dir).2.2)
def ReadyPost (Kp : Nat → Prop) (B f : Nat) (r : List Nm × Int × Fs) (w : World) (e : Ending) (w' : World) : Prop :=
  ∃ v, e = .returned (.tuple #[v, .int .i64 r.2.1]) ∧ w'.ownsRow w.heap.size 9 1 v r.1.length (r.1.map encStr) ∧ Rep Kp B f r.2.2 w' ∧ Turn Kp B w w'
theorem wfk_readyM {K : Nat} (h : WfK K s) (dir : Nm) : WfK (K + 1) (readyM s dir).2 := by
  unfold readyM
  split
  · exact wfk_mkdir h dir
  · exact h.mono (by omega)
theorem wfk_ready {K : Nat} (h : WfK K s) (dir : Nm) : WfK (K + 1 + (listN (readyM s dir).2 dir).length + 1) (readyR s dir).2.2 := by
  have h1 := wfk_readyM h dir
  unfold readyR
  split
  · exact h1.mono (by omega)
  · split
    · exact wfk_clean h1 dir
    · exact wfk_clean h1 dir
theorem ready_tail {K : Nat} (h : Rep Kp B f s w) (wf : WfK K s) (dir : Nm) (hK : K + 1 + (listN (readyM s dir).2 dir).length + 1 ≤ 1000000) (hBw : B ≤ w.heap.size) (W : World) (hr : Rep Kp B f (readyM s dir).2 W) (ht : Turn Kp B w W) :
    Calls Tryz.prog 59 #[.pointer (some ⟨f, 0, none⟩), .string (txt dir)] W fun e w' => e = .returned (.tuple #[.int .i64 (cleanR (readyM s dir).2 dir).1, .int .i64 (cleanR (readyM s dir).2 dir).2.1]) ∧ Rep Kp B f (cleanR (readyM s dir).2 dir).2.2 w' ∧ Turn Kp B w w' :=
  (clean_any hr (wfk_readyM wf dir) dir hK (Nat.le_trans hBw ht.size)).mono fun e w' ⟨h1, h2, h3⟩ => ⟨h1, h2, ht.trans h3⟩
set_option maxHeartbeats 1000000 in
theorem ready_any {K : Nat} (h : Rep Kp B f s w) (wf : WfK K s) (dir : Nm) (hK : K + 1 + (listN (readyM s dir).2 dir).length + 1 ≤ 1000000) (hBw : B ≤ w.heap.size) :
    Calls Tryz.prog 38 #[.pointer (some ⟨f, 0, none⟩), .string (txt dir)] w (ReadyPost Kp B f (readyR s dir) w) := by
  have HL := Lib.hid (list_any h (wf.wf (by omega)) dir)
  have HT := Lib.hid (ready_tail h wf dir hK hBw)
  have HQ := Lib.hid (fun w1 (hb : Below w.heap.size w w1) => h.below hb)
  have HTN := Lib.hid (fun w1 (hb : Below w.heap.size w w1) => (Turn.of hb hBw : Turn Kp B w w1))
  have HMK := Lib.hid (fun w1 (hb : Below w.heap.size w w1) => (mkdir_any (h.below hb) (wf.wf (by omega)) (Nat.le_trans hBw hb.size) dir).mono fun e w' ⟨h1, h2, h3⟩ => (⟨h1, h2, (Turn.of hb hBw).trans h3⟩ : Post Kp B f (mkdirR s dir) w e w'))
  have HW2 := Lib.hid ((wfk_ready wf dir).wf hK)
  obtain ⟨E0, hE0⟩ : ∃ E0, liveE s dir [] = E0 := ⟨_, rfl⟩
  obtain ⟨R, hR⟩ : ∃ R, readyM s dir = R := ⟨_, rfl⟩
  obtain ⟨C, hC⟩ : ∃ C, cleanR R.2 dir = C := ⟨_, rfl⟩
  obtain ⟨E1, s1⟩ := R
  obtain ⟨n2, E2, s2⟩ := C
  have HRM := Lib.hid (show (E0 = 61 → mkdirR s dir = (E1, s1)) ∧ (E0 ≠ 61 → E1 = 0 ∧ s1 = s) by
    unfold readyM at hR
    rw [hE0] at hR
    refine ⟨fun e => by rw [if_pos e] at hR; exact hR, fun e => by rw [if_neg e] at hR; injection hR with a b; exact ⟨a.symm, b.symm⟩⟩)
  have HRR := Lib.hid (show readyR s dir = if E1 ≠ 0 then ([], E1, s1) else if E2 ≠ 0 then ([], E2, s2) else (listN s2 dir, liveE s2 dir [], s2) by
    unfold readyR
    rw [hR, hC])
  rw [hE0] at HL
  rw [hR] at HT
  rw [hC] at HT
  clear h wf hE0 hR hC
  have HTT := Lib.hid (fun W (hr : Rep Kp B f s1 W) (ht : Turn Kp B w W) => HT.out W hr ht)
  by_cases hE : E0 = 61
  · subst hE
    have hmk := HRM.out.1 rfl
    rw [hmk] at HMK
    have HMK := Lib.hid (show ∀ w1, Below w.heap.size w w1 → Calls Tryz.prog 58 #[.pointer (some ⟨f, 0, none⟩), .string (txt dir)] w1 fun e w' => e = .returned (.int .i64 E1) ∧ Rep Kp B f s1 w' ∧ Turn Kp B w w' from HMK.out)
    clear hmk
    by_cases h1 : E1 = 0
    · subst h1
      by_cases h2 : E2 = 0
      · subst h2
        have HF := Lib.hid (show readyR s dir = (listN s2 dir, liveE s2 dir [], s2) by rw [HRR.out, if_neg (fun h => h rfl), if_neg (fun h => h rfl)])
        have HW := Lib.hid (show Wf s2 by have := HW2.out; rw [HF.out] at this; exact this)
        clear HW2
        go_enter Tryz.func38, Tryz.ntmps38
        have HFIRST := Lib.hid True.intro
        go_wp2_with (first
          | (have HSEC := HDONE; go_at_call 57; refine (list_any HR3.out HW.out dir).mono ?_; rintro e w4 ⟨v4, rfl, ho4, hb4⟩; have HO4 := Lib.hid ho4; have HB4 := Lib.hid hb4; clear ho4 hb4)
          | (have HF1 := HFIRST; go_at_call 57; refine HL.out.mono ?_; rintro e w1 ⟨v, rfl, hown, hb⟩; have HB := Lib.hid hb; clear hown hb HFIRST HF1)
          | (go_at_call 58; refine (HMK.out w1 HB.out).mono ?_; rintro e w2 ⟨rfl, hr, ht⟩; have HR2 := Lib.hid hr; have HT2 := Lib.hid ht; clear hr ht)
          | (go_at_call 59; refine (HTT.out w2 HR2.out HT2.out).mono ?_; rintro e w3 ⟨rfl, hr, ht⟩; have HR3 := Lib.hid hr; have HT3 := Lib.hid ht; have HDONE := Lib.hid True.intro; clear hr ht))
        go_ret2
        rw [HF.out]
        exact ⟨_, rfl, HO4.out.mono HT3.out.size, HR3.out.below HB4.out, HT3.out.trans (Turn.of HB4.out (Nat.le_trans hBw HT3.out.size))⟩
      · have HF := Lib.hid (show readyR s dir = ([], E2, s2) by rw [HRR.out, if_neg (fun h => h rfl), if_pos h2])
        have hne : (E2 != 0) = true := by rw [bne_iff_ne]; exact h2
        clear HW2
        go_enter Tryz.func38, Tryz.ntmps38
        have HFIRST := Lib.hid True.intro
        go_wp2_with (first
          | (have HF1 := HFIRST; go_at_call 57; refine HL.out.mono ?_; rintro e w1 ⟨v, rfl, hown, hb⟩; have HB := Lib.hid hb; clear hown hb HFIRST HF1)
          | (go_at_call 58; refine (HMK.out w1 HB.out).mono ?_; rintro e w2 ⟨rfl, hr, ht⟩; have HR2 := Lib.hid hr; have HT2 := Lib.hid ht; clear hr ht)
          | (go_at_call 59; refine (HTT.out w2 HR2.out HT2.out).mono ?_; rintro e w3 ⟨rfl, hr, ht⟩; have HR3 := Lib.hid hr; have HT3 := Lib.hid ht; have HDONE := Lib.hid True.intro; clear hr ht))
        go_ret2
        rw [HF.out]
        exact ⟨_, rfl, own_none _ _, HR3.out, HT3.out⟩
    · have HF := Lib.hid (show readyR s dir = ([], E1, s1) by rw [HRR.out, if_pos h1])
      have hne : (E1 != 0) = true := by rw [bne_iff_ne]; exact h1
      clear HW2
      go_enter Tryz.func38, Tryz.ntmps38
      have HFIRST := Lib.hid True.intro
      go_wp2_with (first
        | (have HF1 := HFIRST; go_at_call 57; refine HL.out.mono ?_; rintro e w1 ⟨v, rfl, hown, hb⟩; have HB := Lib.hid hb; clear hown hb HFIRST HF1)
        | (go_at_call 58; refine (HMK.out w1 HB.out).mono ?_; rintro e w2 ⟨rfl, hr, ht⟩; have HR2 := Lib.hid hr; have HT2 := Lib.hid ht; clear hr ht))
      go_ret2
      rw [HF.out]
      exact ⟨_, rfl, own_none _ _, HR2.out, HT2.out⟩
  · obtain ⟨rfl, rfl⟩ := HRM.out.2 hE
    have hne1 : (E0 == 61) = false := by rw [beq_eq_false_iff_ne]; exact hE
    by_cases h2 : E2 = 0
    · subst h2
      have HF := Lib.hid (show readyR s1 dir = (listN s2 dir, liveE s2 dir [], s2) by rw [HRR.out, if_neg (fun h => h rfl), if_neg (fun h => h rfl)])
      have HW := Lib.hid (show Wf s2 by have := HW2.out; rw [HF.out] at this; exact this)
      clear HW2
      go_enter Tryz.func38, Tryz.ntmps38
      have HFIRST := Lib.hid True.intro
      go_wp2_with (first
        | (have HSEC := HDONE; go_at_call 57; refine (list_any HR3.out HW.out dir).mono ?_; rintro e w4 ⟨v4, rfl, ho4, hb4⟩; have HO4 := Lib.hid ho4; have HB4 := Lib.hid hb4; clear ho4 hb4)
        | (have HF1 := HFIRST; go_at_call 57; refine HL.out.mono ?_; rintro e w1 ⟨v, rfl, hown, hb⟩; have HB := Lib.hid hb; clear hown hb HFIRST HF1)
        | (go_at_call 59; refine (HTT.out w1 (HQ.out w1 HB.out) (HTN.out w1 HB.out)).mono ?_; rintro e w3 ⟨rfl, hr, ht⟩; have HR3 := Lib.hid hr; have HT3 := Lib.hid ht; have HDONE := Lib.hid True.intro; clear hr ht))
      go_ret2
      rw [HF.out]
      exact ⟨_, rfl, HO4.out.mono HT3.out.size, HR3.out.below HB4.out, HT3.out.trans (Turn.of HB4.out (Nat.le_trans hBw HT3.out.size))⟩
    · have HF := Lib.hid (show readyR s1 dir = ([], E2, s2) by rw [HRR.out, if_neg (fun h => h rfl), if_pos h2])
      have hne : (E2 != 0) = true := by rw [bne_iff_ne]; exact h2
      clear HW2
      go_enter Tryz.func38, Tryz.ntmps38
      have HFIRST := Lib.hid True.intro
      go_wp2_with (first
        | (have HF1 := HFIRST; go_at_call 57; refine HL.out.mono ?_; rintro e w1 ⟨v, rfl, hown, hb⟩; have HB := Lib.hid hb; clear hown hb HFIRST HF1)
        | (go_at_call 59; refine (HTT.out w1 (HQ.out w1 HB.out) (HTN.out w1 HB.out)).mono ?_; rintro e w3 ⟨rfl, hr, ht⟩; have HR3 := Lib.hid hr; have HT3 := Lib.hid ht; have HDONE := Lib.hid True.intro; clear hr ht))
      go_ret2
      rw [HF.out]
      exact ⟨_, rfl, own_none _ _, HR3.out, HT3.out⟩
end
end Go.Proofs.YtkcnmajjfljilaaGreatDoor
