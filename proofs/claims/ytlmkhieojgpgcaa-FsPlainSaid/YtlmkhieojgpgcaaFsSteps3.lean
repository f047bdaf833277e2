/- simfs: SyncDir's step, Mkdir's step. -/
import Derived.Test.YtlmkhieojgpgcaaFsSteps2
namespace Go.Proofs.Ytlmkhieojgpgcaa
open Go.ChangeShapes Go.WideShapes Go.ChangeAt Go.RowKit Go.ChangeMaps Go.MapKept
set_option linter.unusedVariables false

theorem pend_slice {Kp : Nat → Prop} {B : Nat} {w : World} {v : Value} {os : List FOp} (h : PendAt Kp B w v os) : ∃ A c, v = .slice A os.length c := by
  obtain ⟨vs, hrow, _⟩ := h
  exact own_slice hrow
theorem RepL.drew {Kp : Nat → Prop} {B f : Nat} {L : Lay} {s : Fs} {w : World} (h : RepL Kp B f L s w) : RepL Kp B f L s w.drew := h.quiet ((Ch.refl _ w).drew)
set_option maxHeartbeats 4000000 in
theorem syncDir1_any {Kp : Nat → Prop} {B f : Nat} {L : Lay} {s : Fs} {w : World} (h : RepL Kp B f L s w) (n : Nm) (hn : n ∈ s.names) (b1 : Nat) (h1 : Cells w b1 #[adr (L.blk n)] 55) (hlen : (s.dir n).base.length + (s.dir n).pend.length ≤ 1000000) (hnow : (s.dir n).now = replay (s.dir n).pend (s.dir n).base) (hBw : B ≤ w.heap.size) :
    Calls Try.prog 39 #[adr b1] w fun e w' => e = .returned (.tuple #[]) ∧ ∃ L', RepL Kp B f L' { s with dir := upd s.dir n (settledDir (s.dir n) (s.dir n).pend.length) } w' ∧ Ch (baseOf L n) w w' := by
  have c1 : w.cell? ⟨b1, 0, none⟩ = some (.pointer (some ⟨L.blk n, 0, none⟩)) := h1.cell 0
  obtain ⟨A, c, hv⟩ := pend_slice (h.pend n hn)
  have d2 : w.cell? ⟨L.blk n, 2, none⟩ = some (.slice A (s.dir n).pend.length c) := by rw [← hv]; exact (h.dir n hn).cell 2
  have HD := Lib.hid (settle_rep h.drew n hn (s.dir n).pend.length (Nat.le_refl _) hlen hnow hBw)
  clear h h1 hv
  unfold adr at *
  go_enter Try.func39, Try.ntmps39
  go_wp2
  go_region_law (go_simp; go_at_call 40; refine HD.out.mono ?_; rintro e w1 ⟨rfl, L', h1, h2, _⟩; have H1 := Lib.hid h1; have H2 := Lib.hid h2; clear h1 h2)
  all_goals
    go_end0
    exact ⟨rfl, L', H1.out, (Ch.refl _ _).drew.then_ H2.out fun i _ e => e⟩

/-- A new directory. -/
theorem newDir_any (w : World) : Calls Try.prog 32 #[] w fun e w' => ∃ bb nb d, e = .returned (.pointer (some ⟨d, 0, none⟩)) ∧ w.heap.size ≤ bb ∧ w.heap.size ≤ nb ∧ w.heap.size ≤ d ∧ bb ≠ nb ∧ MapAt w' bb [] ∧ MapAt w' nb [] ∧ DirAt w' d bb nb (.slice none 0 0) ∧ Ch (fun _ => False) w w' := by
  have hm := @run_makeMap Try.prog
  go_enter Try.func32, Try.ntmps32
  go_wp2
  go_ret
  have h1 := MapAt.made w
  have h2 := MapAt.made (w.alloc (.map #[] 0))
  refine ⟨w.heap.size, w.heap.size + 1, w.heap.size + 2, rfl, Nat.le_refl _, by omega, by omega, by omega, ?_, ?_, ?_, (((Ch.refl _ w).alloc _).alloc _).alloc _⟩
  · exact (h1.ch ((Ch.refl (fun _ => False) _).alloc _) fun h => h).ch ((Ch.refl (fun _ => False) _).alloc _) fun h => h
  · have := h2.ch ((Ch.refl (fun _ => False) _).alloc (.cells #[.map (some w.heap.size), .map (some (w.heap.size + 1)), .slice none 0 0] 65)) fun h => h
    simpa using this
  · have := Cells.new ((w.alloc (.map #[] 0)).alloc (.map #[] 0)) (dirCells w.heap.size (w.heap.size + 1) (.slice none 0 0)) 65
    have e : ((w.alloc (.map #[] 0)).alloc (.map #[] 0)).heap.size = w.heap.size + 2 := by simp
    rw [e] at this
    exact this

def mdirT : TypeId := 52
/-- A name in its place. -/
def nins (n : Nm) : List Nm → List Nm
  | [] => [n]
  | m :: r => if bytesBefore n m then n :: m :: r else m :: nins n r
theorem nins_top (L : Lay) (n : Nm) (d : Nat) (ns : List Nm) (hn : n ∉ ns) : mset (topOf L ns) n d = topOf { L with blk := upd L.blk n d } (nins n ns) := by
  have h0 : mdel (topOf L ns) n = topOf L ns := by
    unfold mdel
    rw [List.filter_eq_self]
    intro p hp
    unfold topOf at hp
    rw [List.mem_map] at hp
    obtain ⟨m, hm, rfl⟩ := hp
    have : m ≠ n := fun e => hn (e ▸ hm)
    simpa using this
  unfold mset
  rw [h0]
  clear h0
  induction ns with
  | nil => unfold topOf nins mins; simp [upd_same]
  | cons m r ih =>
    have hne : m ≠ n := fun e => hn (by rw [e]; exact List.mem_cons_self ..)
    have hr : n ∉ r := fun h => hn (List.mem_cons_of_mem _ h)
    have hcong : ∀ l : List Nm, n ∉ l → topOf { L with blk := upd L.blk n d } l = topOf L l := fun l hl => by
      unfold topOf
      refine List.map_congr_left fun x hx => ?_
      have : x ≠ n := fun e => hl (e ▸ hx)
      simp [upd_other _ _ _ _ this]
    unfold topOf at ih ⊢
    simp only [List.map_cons, mins, nins]
    by_cases hb : bytesBefore n m = true
    · rw [if_pos hb, if_pos hb]
      simp only [List.map_cons, upd_same, upd_other _ _ _ _ hne]
      have := hcong r hr
      unfold topOf at this
      rw [this]
    · rw [if_neg hb, if_neg hb]
      simp only [List.map_cons, upd_other _ _ _ _ hne]
      rw [ih hr]
theorem mem_nins {n m : Nm} {ns : List Nm} : m ∈ nins n ns ↔ m = n ∨ m ∈ ns := by
  induction ns with
  | nil => simp [nins]
  | cons y r ih =>
    unfold nins
    split
    · simp
    · rw [List.mem_cons, ih, List.mem_cons]; exact or_left_comm
/-- A directory comes. -/
theorem RepL.newDir {Kp : Nat → Prop} {B f : Nat} {L : Lay} {s : Fs} {w w' : World} (h : RepL Kp B f L s w) {n : Nm} (hn : n ∉ s.names) {bb nb d : Nat} (hbb : w.heap.size ≤ bb) (hnb : w.heap.size ≤ nb) (hd0 : w.heap.size ≤ d) (hne : bb ≠ nb)
    (hb : MapAt w' bb []) (hnow : MapAt w' nb []) (hd : DirAt w' d bb nb (.slice none 0 0)) (hch : Ch (· = L.M) w w') (hM : MapAt w' L.M (mset (topOf L s.names) n d)) (hBw : B ≤ w.heap.size) :
    RepL Kp B f { L with blk := upd L.blk n d, bs := upd L.bs n bb, nw := upd L.nw n nb, pv := upd L.pv n (.slice none 0 0) } { s with names := nins n s.names, dir := upd s.dir n ⟨[], [], []⟩ } w' := by
  have old : ∀ m, m ∈ nins n s.names → m ≠ n → m ∈ s.names := fun m hm e => (mem_nins.1 hm).resolve_left e
  have cM : ∀ {i : Nat} {c : Array Value} {t : TypeId}, Cells w i c t → ¬ i = L.M := fun hc e => h.top.ne hc e.symm
  have hfreeM : ∀ t, Free w (· = L.M) t := fun t => Free.map h.top t
  exact
  { fs := h.fs.ch hch (cM h.fs)
    top := by have := nins_top L n d s.names hn; rw [this] at hM; exact hM
    dir := fun m hm => by
      by_cases e : m = n
      · subst e; simp only [upd_same]; exact hd
      · simp only [upd_other _ _ _ _ e]; exact (h.dir m (old m hm e)).ch hch (cM (h.dir m (old m hm e)))
    base := fun m hm => by
      by_cases e : m = n
      · subst e; simp only [upd_same]; exact hb
      · simp only [upd_other _ _ _ _ e]; exact (h.base m (old m hm e)).ch hch (h.own m (old m hm e)).1
    now := fun m hm => by
      by_cases e : m = n
      · subst e; simp only [upd_same]; exact hnow
      · simp only [upd_other _ _ _ _ e]; exact (h.now m (old m hm e)).ch hch (h.own m (old m hm e)).2.1
    pend := fun m hm => by
      by_cases e : m = n
      · subst e; simp only [upd_same]; exact ⟨[], World.ownsRow_nil _ _ _ 1, trivial⟩
      · simp only [upd_other _ _ _ _ e]
        exact (h.pend m (old m hm e)).ch hch (fun r hr e => by obtain ⟨c, hc, _⟩ := (h.pend m (old m hm ‹_›)).row hr; exact cM hc e) (hfreeM _).k (hfreeM _).k
    file := fun x b sf hx => (h.file x b sf hx).ch hch (cM (h.file x b sf hx).cells) fun r hr => by obtain ⟨c, hc, _⟩ := (h.file x b sf hx).blk hr; exact cM hc
    low := h.low
    lowd := fun m hm => by
      by_cases e : m = n
      · subst e; simp only [upd_same]; omega
      · simp only [upd_other _ _ _ _ e]; exact h.lowd m (old m hm e)
    lowf := h.lowf
    own := fun m hm => by
      have := h.top.lt
      by_cases e : m = n
      · subst e; simp only [upd_same]; exact ⟨by omega, by omega, hne⟩
      · simp only [upd_other _ _ _ _ e]; exact h.own m (old m hm e)
    sep := fun m hm q hq hmq => by
      by_cases e : m = n
      · subst e
        have e2 : q ≠ m := Ne.symm hmq
        have h1 := (h.dir q (old q hq e2)).lt
        have h2 := (h.base q (old q hq e2)).lt
        have h3 := (h.now q (old q hq e2)).lt
        simp only [upd_same, upd_other _ _ _ _ e2]
        exact ⟨by omega, by omega, by omega, by omega, fun k hk => by simp [Value.ownBlock] at hk⟩
      · by_cases e2 : q = n
        · subst e2
          have h1 := (h.dir m (old m hm e)).lt
          have h2 := (h.base m (old m hm e)).lt
          have h3 := (h.now m (old m hm e)).lt
          simp only [upd_same, upd_other _ _ _ _ e]
          exact ⟨by omega, by omega, by omega, by omega, fun k hk => by simp [Value.ownBlock]⟩
        · simp only [upd_other _ _ _ _ e, upd_other _ _ _ _ e2]
          exact h.sep m (old m hm e) q (old q hq e2) hmq
    fsep := h.fsep
    kold := fun i hi => Nat.lt_of_lt_of_le (h.kold i hi) hch.size, kf := h.kf, kx := h.kx
    kd := fun m hm => by
      by_cases e : m = n
      · subst e
        simp only [upd_same]
        exact ⟨fun hk => by have := h.kold _ hk; omega, fun hk => by have := h.kold _ hk; omega, fun hk => by have := h.kold _ hk; omega, fun k hk => by simp [Value.ownBlock] at hk⟩
      · simp only [upd_other _ _ _ _ e]; exact h.kd m (old m hm e) }
def mkdirS (s : Fs) (n : Nm) : Fs := { s with names := nins n s.names, dir := upd s.dir n ⟨[], [], []⟩ }
set_option maxHeartbeats 8000000 in
theorem mkdir1_any {Kp : Nat → Prop} {B f : Nat} {L : Lay} {s : Fs} {w : World} (h : RepL Kp B f L s w) (n : Nm) (hn : n ∉ s.names) (b1 b2 : Nat) (h1 : Cells w b1 #[adr f] 24) (h2 : Cells w b2 #[.string (txt n)] 9) (hl : n.length ≤ 32) (hm : s.names.length ≤ 1000000) (hBw : B ≤ w.heap.size) :
    Calls Try.prog 31 #[adr b1, adr b2] w fun e w' => e = .returned (.tuple #[]) ∧ ∃ L', RepL Kp B f L' (mkdirS s n) w' ∧ Ch (· = L.M) w w' := by
  have c1 : w.cell? ⟨b1, 0, none⟩ = some (.pointer (some ⟨f, 0, none⟩)) := h1.cell 0
  have c2 : w.cell? ⟨b2, 0, none⟩ = some (.string (txt n)) := h2.cell 0
  have f0 : w.cell? ⟨f, 0, none⟩ = some (.map (some L.M)) := h.fs.cell 0
  have HK := Lib.hid (fun w1 (hch0 : Ch (fun _ => False) w.drew w1) (d : Nat) => by
    have hch : Ch (fun _ => False) w w1 := (Ch.refl _ w).drew.then_ hch0 fun _ _ h => h
    have hM := h.top.ch hch (fun h => h)
    obtain ⟨w2, hrun, ho, ht⟩ := World.ownsMap.store hM key_law (t := 52) Try.underlying52 (by unfold topOf maxLen; rw [List.length_map]; omega) (key_nm n (by unfold maxLen; omega)) (val := .pointer (some ⟨d, 0, none⟩)) (d := blk d) (ps := []) rfl
    rw [put_ents] at ho
    exact (⟨w2, hrun, (h1.ch hch (fun h => h)).cell 0, (h2.ch hch (fun h => h)).cell 0, (h.fs.ch hch (fun h => h)).cell 0, own_tight ho, ht, hch⟩ :
      ∃ w2, (Instr.mapUpdate 52 (.map (some L.M)) (.string (txt n)) (.pointer (some ⟨d, 0, none⟩))).run Try.prog w1 = .ok () w2 ∧ w1.cell? ⟨b1, 0, none⟩ = some (.pointer (some ⟨f, 0, none⟩)) ∧ w1.cell? ⟨b2, 0, none⟩ = some (.string (txt n)) ∧ w1.cell? ⟨f, 0, none⟩ = some (.map (some L.M)) ∧ MapAt w2 L.M (mset (topOf L s.names) n d) ∧ w1.mapTurned w2 L.M ∧ Ch (fun _ => False) w w1))
  have HE := Lib.hid (fun w1 w2 bb nb d (hbb : w.heap.size ≤ bb) (hnb : w.heap.size ≤ nb) (hd0 : w.heap.size ≤ d) (hne : bb ≠ nb) (hb : MapAt w1 bb []) (hnow : MapAt w1 nb []) (hd : DirAt w1 d bb nb (.slice none 0 0)) (hch : Ch (fun _ => False) w w1) (ht : w1.mapTurned w2 L.M) (hM : MapAt w2 L.M (mset (topOf L s.names) n d)) => by
    have hlt := h.top.lt
    have h12 : Ch (· = L.M) w1 w2 := Ch.of_turned ht
    have hch2 : Ch (· = L.M) w w2 := (hch.mono fun _ _ h => h.elim).then_ h12 fun _ _ e => e
    exact (⟨_, h.newDir hn hbb hnb hd0 hne (hb.ch h12 (by omega)) (hnow.ch h12 (by omega)) (hd.ch h12 (by omega)) hch2 hM hBw, hch2⟩ : ∃ L', RepL Kp B f L' (mkdirS s n) w2 ∧ Ch (· = L.M) w w2))
  clear h h1 h2
  unfold adr at *
  go_enter Try.func31, Try.ntmps31
  go_wp2
  go_region_law (go_simp; go_at_call 32; refine (newDir_any _).mono ?_; rintro e w1 ⟨bb, nb, d, rfl, n1, n2, n3, n4, n5, n6, n7, n8⟩; obtain ⟨w2, hrun, y1, y2, y3, y4, y5, y6⟩ := HK.out w1 n8 d; have N := Lib.hid (HE.out w1 w2 bb nb d n1 n2 n3 n4 n5 n6 n7 y6 y5 y4); clear n1 n2 n3 n4 n5 n6 n7 n8 y4 y5 y6)
  all_goals
    go_end0
    exact ⟨rfl, N.out⟩
end Go.Proofs.Ytlmkhieojgpgcaa
