/- Several texts in one: PlRaw, PlRaw2, PlRaw3. -/
import Derived.Test.YtkcnmajjfljilaaGreatDoorPlA
import Derived.Test.YtkcnmajjfljilaaGreatDoorPlShelf
import Derived.Lib.SlicesS
import Derived.Test.YtkcnmajjfljilaaGreatDoorFraFA
import Derived.Deep.DeepFit
/- place.Raw: its steps, and all of it. -/
namespace Go.Proofs.YtkcnmajjfljilaaGreatDoor
open Go.ChangeShapes Go.WideShapes Go.ChangeAt Go.RowKit Go.ChangeMaps Go.MapKept
set_option linter.unusedVariables false

theorem txt_inj {a b : Nm} (h : txt a = txt b) : a = b := by
  have := congrArg (fun s : ByteArray => s.data.toList) h
  simpa [txt] using this
/-- Names lie in a row. -/
def NamesAt (w : World) (A : Option Addr) (ns : List Nm) : Prop := ∀ j (h : j < ns.length), ∃ g, A = some ⟨g, 0, none⟩ ∧ w.cell? ⟨g, j, none⟩ = some (.string (txt ns[j]))
theorem names_own {w : World} {B : Nat} {v : Value} {ns : List Nm} (h : w.ownsRow B 9 1 v ns.length (ns.map encStr)) : ∃ A c, v = .slice A ns.length c ∧ NamesAt w A ns ∧ ∀ k, v.ownBlock = some k → B ≤ k ∧ k < w.heap.size := by
  obtain ⟨A, c, rfl⟩ := own_slice h
  refine ⟨A, c, rfl, fun j hj => ?_, fun k hk => ?_⟩
  · obtain ⟨g, h1, h2, _⟩ := row_at h j hj
    exact ⟨g, h1, h2⟩
  · obtain ⟨c, hc, hB⟩ := own_cells h hk
    exact ⟨hB, hc.lt⟩
theorem contains_any (ns : List Nm) (hns : ns.length ≤ 9223372036854775807) (x : Nm) (A : Option Addr) (c : Nat) (w : World) (h : NamesAt w A ns) :
    Calls Tryz.prog 175 #[.slice A ns.length c, .string (txt x)] w fun e w' => e = .returned (.bool (decide (x ∈ ns))) ∧ w = w' := by
  cases hn : ns with
  | nil => exact (Tryz.slices_Contains_string_empty A c (txt x) w).mono fun e w' ⟨h1, h2⟩ => ⟨by rw [h1]; simp, h2.symm⟩
  | cons y r =>
    rw [← hn]
    obtain ⟨g, rfl, _⟩ := h 0 (by rw [hn]; simp)
    have hc := Tryz.slices_Contains_string g 0 ns.length c (ns.map txt) (txt x) w (by simp) hns (fun j hj => by
      have hj' : j < ns.length := by simpa using hj
      obtain ⟨g', e, hcell⟩ := h j hj'
      injection e with e; injection e with e _; subst e
      rw [Nat.zero_add, hcell]
      simp [List.getD, hj'])
    refine hc.mono fun e w' ⟨h1, h2⟩ => ⟨?_, h2.symm⟩
    rw [h1]
    congr 2
    rw [List.take_of_length_le (by simp)]
    cases hd : decide (x ∈ ns) with
    | true =>
      rw [Lib.containsS_iff]
      exact List.mem_map_of_mem (of_decide_eq_true hd)
    | false =>
      cases hb : Lib.containsS (ns.map txt) (txt x) with
      | false => rfl
      | true =>
        rw [Lib.containsS_iff] at hb
        obtain ⟨y, hy, e⟩ := List.mem_map.1 hb
        rw [txt_inj e] at hy
        exact absurd hy (of_decide_eq_false hd)
section
variable {Kp : Nat → Prop} {B f : Nat} {s : Fs} {w : World}
theorem listN_len {s : Fs} (wf : Wf s) (dir : Nm) : (listN s dir).length ≤ 1000000 := by
  unfold listN
  split
  · rename_i h
    rcases live_cases ⟨0, fun _ => 0, fun _ => 0, fun _ => 0, fun _ => .nilIface, fun _ => none, fun _ => 0⟩ s dir [] with ⟨_, _, _, _, hin⟩ | ⟨h2, _⟩
    · rw [List.length_map]; exact wf.nowlen hin
    · exact absurd h h2
  · simp
set_option maxHeartbeats 1000000 in
theorem rmListed_any (h : Rep Kp B f s w) (wf : Wf s) (hBw : B ≤ w.heap.size) (dir t : Nm) :
    Calls Tryz.prog 137 #[.pointer (some ⟨f, 0, none⟩), .string (txt dir), .string (txt t)] w (Post Kp B f (rmListedR s dir t) w) := by
  have HL := Lib.hid (list_any h wf dir)
  have HR := Lib.hid h
  have HLEN := Lib.hid (show (listN s dir).length ≤ 9223372036854775807 from Nat.le_trans (listN_len wf dir) (by omega))
  have HRM := Lib.hid (fun (w1 : World) (hb : Below w.heap.size w w1) => (remove_any (h.below hb) wf (Nat.le_trans hBw hb.size) dir t).mono fun e w' ⟨h1, h2, h3⟩ => (⟨h1, h2, (Turn.of hb hBw).trans h3⟩ : Post Kp B f (removeR s dir t) w e w'))
  have HTN := Lib.hid (fun w1 (hb : Below w.heap.size w w1) => (Turn.of hb hBw : Turn Kp B w w1))
  clear h wf
  obtain ⟨E, hE⟩ : ∃ E, liveE s dir [] = E := ⟨_, rfl⟩
  obtain ⟨ns, hns⟩ : ∃ ns, listN s dir = ns := ⟨_, rfl⟩
  rw [hE, hns] at HL
  rw [hns] at HLEN
  unfold rmListedR
  rw [hE, hns]
  by_cases h0 : E = 0
  · subst h0
    by_cases hin : t ∈ ns
    · rw [if_pos ⟨rfl, hin⟩]
      have hd : decide (t ∈ ns) = true := decide_eq_true hin
      clear hin hE hns
      go_enter Tryz.func137, Tryz.ntmps137
      go_wp2_with (first
        | (go_at_call 57; refine HL.out.mono ?_; rintro e w1 ⟨v, rfl, hown, hb⟩; obtain ⟨A, c, rfl, hat, _⟩ := names_own hown; have HAT := Lib.hid hat; have HB := Lib.hid hb; clear hown hb hat)
        | (go_at_call 175; refine (contains_any ns HLEN.out t A c w1 HAT.out).mono ?_; rintro e w2 ⟨rfl, rfl⟩)
        | (go_at_call 88; refine (HRM.out w1 HB.out).mono ?_; rintro e w3 ⟨rfl, h2, h3⟩; have H2 := Lib.hid h2; have H3 := Lib.hid h3; clear h2 h3))
      go_ret
      exact ⟨rfl, H2.out, H3.out⟩
    · rw [if_neg fun h => hin h.2]
      have hd : decide (t ∈ ns) = false := decide_eq_false hin
      clear hin hE hns
      go_enter Tryz.func137, Tryz.ntmps137
      go_wp2_with (first
        | (go_at_call 57; refine HL.out.mono ?_; rintro e w1 ⟨v, rfl, hown, hb⟩; obtain ⟨A, c, rfl, hat, _⟩ := names_own hown; have HAT := Lib.hid hat; have HB := Lib.hid hb; clear hown hb hat)
        | (go_at_call 175; refine (contains_any ns HLEN.out t A c w1 HAT.out).mono ?_; rintro e w2 ⟨rfl, rfl⟩))
      go_ret
      exact ⟨rfl, HR.out.below HB.out, HTN.out _ HB.out⟩
  · rw [if_neg fun h => h0 h.1]
    have hne : (E != 0) = true := by rw [bne_iff_ne]; exact h0
    clear hE hns
    go_enter Tryz.func137, Tryz.ntmps137
    go_wp2_with (first
      | (go_at_call 57; refine HL.out.mono ?_; rintro e w1 ⟨v, rfl, hown, hb⟩; have HB := Lib.hid hb; clear hown hb))
    go_ret
    exact ⟨rfl, HR.out.below HB.out, HTN.out _ HB.out⟩
end
end Go.Proofs.YtkcnmajjfljilaaGreatDoor

/- place.Raw, place.Put. -/
namespace Go.Proofs.YtkcnmajjfljilaaGreatDoor
open Go.ChangeShapes Go.WideShapes Go.ChangeAt Go.RowKit Go.ChangeMaps Go.MapKept
set_option linter.unusedVariables false

section
variable {S : World → Prop} {F : Int → World → Prop} {w : World} {f p d q z : Nat} {dir t : Nm}
theorem raw1_any (c1 : Cells w p #[adr f] 32) (c2 : Cells w d #[.string (txt dir)] 9) (c3 : Cells w q #[.string (txt t)] 9)
    (h : Calls Tryz.prog 137 #[.pointer (some ⟨f, 0, none⟩), .string (txt dir), .string (txt t)] w (StepPost S F)) : Calls Tryz.prog 136 #[adr p, adr d, adr q] w (StepPost S F) := by
  have x1 : w.cell? ⟨p, 0, none⟩ = some (.pointer (some ⟨f, 0, none⟩)) := c1.cell 0
  have x2 : w.cell? ⟨d, 0, none⟩ = some (.string (txt dir)) := c2.cell 0
  have x3 : w.cell? ⟨q, 0, none⟩ = some (.string (txt t)) := c3.cell 0
  have H := Lib.hid h
  clear c1 c2 c3 h
  unfold adr
  go_enter Tryz.func136, Tryz.ntmps136
  go_wp2_with (go_at_call 137; refine H.out.mono ?_; rintro e w1 ⟨E, rfl, hd⟩; have HD := Lib.hid hd; clear hd)
  go_ret
  exact ⟨E, rfl, HD.out⟩
theorem raw2_any (c1 : Cells w p #[adr f] 32) (c2 : Cells w d #[.string (txt dir)] 9) (c3 : Cells w q #[.string (txt t)] 9)
    (h : Calls Tryz.prog 67 #[.pointer (some ⟨f, 0, none⟩), .string (txt dir), .string (txt t)] w (StepPost S F)) : Calls Tryz.prog 138 #[adr p, adr d, adr q] w (StepPost S F) := by
  have x1 : w.cell? ⟨p, 0, none⟩ = some (.pointer (some ⟨f, 0, none⟩)) := c1.cell 0
  have x2 : w.cell? ⟨d, 0, none⟩ = some (.string (txt dir)) := c2.cell 0
  have x3 : w.cell? ⟨q, 0, none⟩ = some (.string (txt t)) := c3.cell 0
  have H := Lib.hid h
  clear c1 c2 c3 h
  unfold adr
  go_enter Tryz.func138, Tryz.ntmps138
  go_wp2_with (go_at_call 67; refine H.out.mono ?_; rintro e w1 ⟨E, rfl, hd⟩; have HD := Lib.hid hd; clear hd)
  go_ret
  exact ⟨E, rfl, HD.out⟩
theorem raw3_any {V : Value} (c1 : Cells w p #[adr f] 32) (c2 : Cells w d #[.string (txt dir)] 9) (c3 : Cells w q #[.string (txt t)] 9) (c4 : Cells w z #[V] 30)
    (h : Calls Tryz.prog 44 #[.pointer (some ⟨f, 0, none⟩), .string (txt dir), .string (txt t), V] w (StepPost S F)) : Calls Tryz.prog 139 #[adr p, adr d, adr q, adr z] w (StepPost S F) := by
  have x1 : w.cell? ⟨p, 0, none⟩ = some (.pointer (some ⟨f, 0, none⟩)) := c1.cell 0
  have x2 : w.cell? ⟨d, 0, none⟩ = some (.string (txt dir)) := c2.cell 0
  have x3 : w.cell? ⟨q, 0, none⟩ = some (.string (txt t)) := c3.cell 0
  have x4 : w.cell? ⟨z, 0, none⟩ = some V := c4.cell 0
  have H := Lib.hid h
  clear c1 c2 c3 c4 h
  unfold adr
  go_enter Tryz.func139, Tryz.ntmps139
  go_wp2_with (go_at_call 44; refine H.out.mono ?_; rintro e w1 ⟨E, rfl, hd⟩; have HD := Lib.hid hd; clear hd)
  go_ret
  exact ⟨E, rfl, HD.out⟩
theorem raw4_any (c1 : Cells w p #[adr f] 32) (c2 : Cells w d #[.string (txt dir)] 9) (c3 : Cells w q #[.string (txt t)] 9)
    (h : Calls Tryz.prog 47 #[.pointer (some ⟨f, 0, none⟩), .string (txt dir), .string (txt t)] w (StepPost S F)) : Calls Tryz.prog 140 #[adr p, adr d, adr q] w (StepPost S F) := by
  have x1 : w.cell? ⟨p, 0, none⟩ = some (.pointer (some ⟨f, 0, none⟩)) := c1.cell 0
  have x2 : w.cell? ⟨d, 0, none⟩ = some (.string (txt dir)) := c2.cell 0
  have x3 : w.cell? ⟨q, 0, none⟩ = some (.string (txt t)) := c3.cell 0
  have H := Lib.hid h
  clear c1 c2 c3 h
  unfold adr
  go_enter Tryz.func140, Tryz.ntmps140
  go_wp2_with (go_at_call 47; refine H.out.mono ?_; rintro e w1 ⟨E, rfl, hd⟩; have HD := Lib.hid hd; clear hd)
  go_ret
  exact ⟨E, rfl, HD.out⟩
theorem raw5_any {name : Nm} (c1 : Cells w p #[adr f] 32) (c2 : Cells w d #[.string (txt dir)] 9) (c3 : Cells w q #[.string (txt t)] 9) (c4 : Cells w z #[.string (txt name)] 9)
    (h : Calls Tryz.prog 142 #[.pointer (some ⟨f, 0, none⟩), .string (txt dir), .string (txt t), .string (txt name)] w (StepPost S F)) : Calls Tryz.prog 141 #[adr p, adr d, adr q, adr z] w (StepPost S F) := by
  have x1 : w.cell? ⟨p, 0, none⟩ = some (.pointer (some ⟨f, 0, none⟩)) := c1.cell 0
  have x2 : w.cell? ⟨d, 0, none⟩ = some (.string (txt dir)) := c2.cell 0
  have x3 : w.cell? ⟨q, 0, none⟩ = some (.string (txt t)) := c3.cell 0
  have x4 : w.cell? ⟨z, 0, none⟩ = some (.string (txt name)) := c4.cell 0
  have H := Lib.hid h
  clear c1 c2 c3 c4 h
  unfold adr
  go_enter Tryz.func141, Tryz.ntmps141
  go_wp2_with (go_at_call 142; refine H.out.mono ?_; rintro e w1 ⟨E, rfl, hd⟩; have HD := Lib.hid hd; clear hd)
  go_ret
  exact ⟨E, rfl, HD.out⟩
theorem raw6_any (c1 : Cells w p #[adr f] 32) (c2 : Cells w d #[.string (txt dir)] 9)
    (h : Calls Tryz.prog 68 #[.pointer (some ⟨f, 0, none⟩), .string (txt dir)] w (StepPost S F)) : Calls Tryz.prog 143 #[adr p, adr d] w (StepPost S F) := by
  have x1 : w.cell? ⟨p, 0, none⟩ = some (.pointer (some ⟨f, 0, none⟩)) := c1.cell 0
  have x2 : w.cell? ⟨d, 0, none⟩ = some (.string (txt dir)) := c2.cell 0
  have H := Lib.hid h
  clear c1 c2 h
  unfold adr
  go_enter Tryz.func143, Tryz.ntmps143
  go_wp2_with (go_at_call 68; refine H.out.mono ?_; rintro e w1 ⟨E, rfl, hd⟩; have HD := Lib.hid hd; clear hd)
  go_ret
  exact ⟨E, rfl, HD.out⟩
end

/-- Between two steps of Raw: W1 is the world in which they begin, D its first new block. -/
structure RawAt (Kp : Nat → Prop) (B f D : Nat) (s : Fs) (dir name : Nm) (b : List UInt8) (W1 : World) (k : Nat) (W : World) : Prop where
  at_ : ∃ x, s.file x = none ∧ (rawK s dir name b x k).1 = 0 ∧ Rep (With Kp D W1.heap.size) B f (rawK s dir name b x k).2 W
  turn : Turn (With Kp D W1.heap.size) B W1 W
/-- What Raw leaves. -/
def RawFin (Kp : Nat → Prop) (B f : Nat) (s : Fs) (dir name : Nm) (b : List UInt8) (W1 : World) (E : Int) (W : World) : Prop :=
  ∃ x, s.file x = none ∧ E = (rawK s dir name b x 6).1 ∧ Rep Kp B f (rawK s dir name b x 6).2 W ∧ Turn Kp B W1 W
section
variable {Kp : Nat → Prop} {B f D : Nat} {s : Fs} {dir name : Nm} {b : List UInt8} {W1 W : World}
theorem RawAt.step {k x : Nat} (hk : k < 6) (hx : s.file x = none) (h0 : (rawK s dir name b x k).1 = 0) (ht : Turn (With Kp D W1.heap.size) B W1 W) {e : Ending} {W' : World}
    (hp : Post (With Kp D W1.heap.size) B f (rawStep dir name b x k (rawK s dir name b x k).2) W e W') : StepPost (RawAt Kp B f D s dir name b W1 (k + 1)) (RawFin Kp B f s dir name b W1) e W' := by
  obtain ⟨he, hr, htt⟩ := hp
  have hn : rawK s dir name b x (k + 1) = rawStep dir name b x k (rawK s dir name b x k).2 := by rw [rawK, thn_ok h0]
  rw [← hn] at he hr
  refine ⟨_, he, ?_⟩
  by_cases h1 : (rawK s dir name b x (k + 1)).1 = 0
  · exact .inl ⟨h1, ⟨x, hx, h1, hr⟩, ht.trans htt⟩
  · refine .inr ⟨h1, x, hx, by rw [rawK_six (by omega) h1], ?_, (ht.trans htt).kept⟩
    rw [rawK_six (by omega) h1]
    exact hr.kept_
end
/-- The closures, and what they have at hand. -/
def rawG : Nat → FuncId
  | 0 => 136 | 1 => 138 | 2 => 139 | 3 => 140 | 4 => 141 | _ => 143
def rawL (p : Nat) : Nat → Array Value
  | 0 => #[adr p, adr (p + 1), adr (p + 4)] | 1 => #[adr p, adr (p + 1), adr (p + 4)] | 2 => #[adr p, adr (p + 1), adr (p + 4), adr (p + 3)]
  | 3 => #[adr p, adr (p + 1), adr (p + 4)] | 4 => #[adr p, adr (p + 1), adr (p + 4), adr (p + 2)] | _ => #[adr p, adr (p + 1)]
theorem rawG_enters : ∀ k, k < 6 → Enters Tryz.prog (rawG k)
  | 0, _ => enters_of Tryz.func136 (by kernel_rfl) rfl
  | 1, _ => enters_of Tryz.func138 (by kernel_rfl) rfl
  | 2, _ => enters_of Tryz.func139 (by kernel_rfl) rfl
  | 3, _ => enters_of Tryz.func140 (by kernel_rfl) rfl
  | 4, _ => enters_of Tryz.func141 (by kernel_rfl) rfl
  | 5, _ => enters_of Tryz.func143 (by kernel_rfl) rfl
/-- Raw's own memory. -/
structure RawMem (p f : Nat) (dir name : Nm) (V : Value) (W : World) : Prop where
  c0 : Cells W p #[adr f] 32
  c1 : Cells W (p + 1) #[.string (txt dir)] 9
  c2 : Cells W (p + 2) #[.string (txt name)] 9
  c3 : Cells W (p + 3) #[V] 30
  c4 : Cells W (p + 4) #[.string (txt (tmpN name))] 9
  row : Cells W (p + 5) #[.func (.func (rawG 0)) #[] (rawL p 0), .func (.func (rawG 1)) #[] (rawL p 1), .func (.func (rawG 2)) #[] (rawL p 2), .func (.func (rawG 3)) #[] (rawL p 3), .func (.func (rawG 4)) #[] (rawL p 4), .func (.func (rawG 5)) #[] (rawL p 5)] 77
theorem RawMem.turn {Kp : Nat → Prop} {B p f D : Nat} {dir name : Nm} {V : Value} {W W' : World} {S : Nat} (h : RawMem p f dir name V W) (hD : D ≤ p) (hS : p + 5 < S) (k : Turn (With Kp D S) B W W') : RawMem p f dir name V W' :=
  ⟨k.cells hD (by omega) h.c0, k.cells (by omega) (by omega) h.c1, k.cells (by omega) (by omega) h.c2, k.cells (by omega) (by omega) h.c3, k.cells (by omega) (by omega) h.c4, k.cells (by omega) (by omega) h.row⟩
set_option maxHeartbeats 1000000 in
theorem raw_steps {Kp : Nat → Prop} {B f D K : Nat} {s : Fs} {dir name : Nm} {b : List UInt8} {W1 : World} {n c : Nat} {a : Addr} (wf : WfK K s) (hK : K + 6 ≤ 1000000) (hDB : B ≤ D) (hD : D + 5 < W1.heap.size)
    (hm : RawMem D f dir name (.slice (some a) n c) W1) (hn : n = b.length) (hnm : n ≤ 1099494850000) (hsrc : ∀ W, Turn (With Kp D W1.heap.size) B W1 W → BytesAt W W.heap.size (some a) b) :
    ∀ k, k < 6 → ∀ W, RawAt Kp B f D s dir name b W1 k W → Calls Tryz.prog (rawG k) (rawL D k) W (StepPost (RawAt Kp B f D s dir name b W1 (k + 1)) (RawFin Kp B f s dir name b W1)) := by
  intro k hk W ⟨⟨x, hx, h0, hr⟩, ht⟩
  have hmW := hm.turn (Nat.le_refl _) hD ht
  have hwf : Wf (rawK s dir name b x k).2 := (wfk_rawK wf dir name b x k).wf (by omega)
  have hBW : B ≤ W.heap.size := Nat.le_trans hDB (Nat.le_trans (by omega) ht.size)
  rcases k with _ | _ | _ | _ | _ | _ | k
  · exact raw1_any hmW.c0 hmW.c1 hmW.c4 ((rmListed_any hr hwf hBW dir (tmpN name)).mono fun e w' hp => RawAt.step hk hx h0 ht hp)
  · refine raw2_any hmW.c0 hmW.c1 hmW.c4 ((create_any hr hwf hBW dir (tmpN name)).mono fun e w' ⟨x', hx', hp⟩ => ?_)
    have hf : (rawK s dir name b x 1).2.file = s.file := by
      show (thn (0, s) _).2.file = _
      rw [thn_ok rfl]; exact rm_file _ _ _
    rw [hf] at hx'
    exact RawAt.step (k := 1) hk hx' h0 ht hp
  · exact raw3_any hmW.c0 hmW.c1 hmW.c4 hmW.c3 ((append_any hr hwf hBW dir (tmpN name) n c a b hn (hsrc W ht) hnm).mono fun e w' hp => RawAt.step hk hx h0 ht hp)
  · exact raw4_any hmW.c0 hmW.c1 hmW.c4 ((sync_any hr hwf hBW dir (tmpN name)).mono fun e w' hp => RawAt.step hk hx h0 ht hp)
  · exact raw5_any hmW.c0 hmW.c1 hmW.c4 hmW.c2 ((rename_any hr hwf hBW dir (tmpN name) name).mono fun e w' hp => RawAt.step hk hx h0 ht hp)
  · exact raw6_any hmW.c0 hmW.c1 ((syncDir_any hr hwf hBW dir).mono fun e w' hp => RawAt.step hk hx h0 ht hp)
  · omega
end Go.Proofs.YtkcnmajjfljilaaGreatDoor

/- place.Raw, place.Put: all of it. -/
namespace Go.Proofs.YtkcnmajjfljilaaGreatDoor
open Go.ChangeShapes Go.WideShapes Go.ChangeAt Go.RowKit Go.ChangeMaps Go.MapKept
set_option linter.unusedVariables false

/-- The world in which Raw's steps begin. -/
def rawW (w : World) (f : Nat) (dir name : Nm) (V : Value) : World :=
  (((((w.alloc (.cells #[adr f] 32)).alloc (.cells #[.string (txt dir)] 9)).alloc (.cells #[.string (txt name)] 9)).alloc (.cells #[V] 30)).alloc (.cells #[.string (txt (tmpN name))] 9)).alloc
    (.cells #[.func (.func (rawG 0)) #[] (rawL w.heap.size 0), .func (.func (rawG 1)) #[] (rawL w.heap.size 1), .func (.func (rawG 2)) #[] (rawL w.heap.size 2), .func (.func (rawG 3)) #[] (rawL w.heap.size 3), .func (.func (rawG 4)) #[] (rawL w.heap.size 4), .func (.func (rawG 5)) #[] (rawL w.heap.size 5)] 77)
theorem rawW_size (w : World) (f : Nat) (dir name : Nm) (V : Value) : (rawW w f dir name V).heap.size = w.heap.size + 6 := by simp [rawW]
theorem rawW_below (w : World) (f : Nat) (dir name : Nm) (V : Value) : Below w.heap.size w (rawW w f dir name V) := by
  unfold rawW
  exact Below.al (Below.al (Below.al (Below.al (Below.al (Below.al (Below.refl _ w) (Nat.le_refl _) _) (Nat.le_refl _) _) (Nat.le_refl _) _) (Nat.le_refl _) _) (Nat.le_refl _) _) (Nat.le_refl _) _
theorem cells_at (W : World) (k : Nat) (hk : W.heap.size = k) (c : Array Value) (t : TypeId) : Cells (W.alloc (.cells c t)) k c t := by subst hk; exact Cells.new W c t
theorem rawW_mem (w : World) (f : Nat) (dir name : Nm) (V : Value) : RawMem w.heap.size f dir name V (rawW w f dir name V) := by
  unfold rawW
  exact ⟨((((((cells_at w _ rfl _ _).alloc _).alloc _).alloc _).alloc _).alloc _), (((((cells_at _ _ (by simp) _ _).alloc _).alloc _).alloc _).alloc _), ((((cells_at _ _ (by simp) _ _).alloc _).alloc _).alloc _), (((cells_at _ _ (by simp) _ _).alloc _).alloc _), ((cells_at _ _ (by simp) _ _).alloc _), cells_at _ _ (by simp) _ _⟩
def RawPost (Kp : Nat → Prop) (B f : Nat) (s : Fs) (dir name : Nm) (b : List UInt8) (w : World) (e : Ending) (w' : World) : Prop := ∃ x, s.file x = none ∧ Post Kp B f (rawR s dir name b x) w e w'
section
variable {Kp : Nat → Prop} {B f : Nat} {s : Fs} {w : World}
theorem row_six {q : Nat} {v0 v1 v2 v3 v4 v5 : Value} {t : TypeId} {W : World} (G : Nat → Value) (h : Cells W q #[v0, v1, v2, v3, v4, v5] t) (h0 : v0 = G 0) (h1 : v1 = G 1) (h2 : v2 = G 2) (h3 : v3 = G 3) (h4 : v4 = G 4) (h5 : v5 = G 5) :
    ∀ k, k < 6 → W.cell? ⟨q, k, none⟩ = some (G k) := by
  intro k hk
  rw [h.cell k]
  rcases k with _ | _ | _ | _ | _ | _ | k
  · rw [← h0]; rfl
  · rw [← h1]; rfl
  · rw [← h2]; rfl
  · rw [← h3]; rfl
  · rw [← h4]; rfl
  · rw [← h5]; rfl
  · omega
theorem raw_turns {K : Nat} (h : Rep Kp B f s w) (wf : WfK K s) (hK : K + 6 ≤ 1000000) (hBw : B ≤ w.heap.size) (dir name : Nm) (n c : Nat) (a : Addr) (b : List UInt8) (hn : n = b.length) (hnm : n ≤ 1099494850000)
    (hsrc : ∀ W, Turn Kp B w W → BytesAt W W.heap.size (some a) b) (hl : ¬ 28 < name.length) :
    Calls Tryz.prog 135 #[.slice (some ⟨w.heap.size + 5, 0, none⟩) 6 6] (rawW w f dir name (.slice (some a) n c)) (RawPost Kp B f s dir name b w) := by
  have hb := rawW_below w f dir name (.slice (some a) n c)
  have hsz := rawW_size w f dir name (.slice (some a) n c)
  have hm := rawW_mem w f dir name (.slice (some a) n c)
  obtain ⟨W1, hW1⟩ : ∃ W1, rawW w f dir name (.slice (some a) n c) = W1 := ⟨_, rfl⟩
  rw [hW1] at hb hsz hm ⊢
  have ht0 : Turn Kp B w W1 := Turn.of hb hBw
  have hKq : ∀ W, Turn (With Kp w.heap.size W1.heap.size) B W1 W → Turn Kp B w W := fun W ht => ht0.trans ht.kept
  refine (inTurn_any 6 (w.heap.size + 5) rawG (rawL w.heap.size) rawG_enters (RawAt Kp B f w.heap.size s dir name b W1) (RawFin Kp B f s dir name b W1) ?_ ?_ ?_ (by omega) W1 ?_).mono ?_
  · intro k hk W hW
    exact row_six (fun k => .func (.func (rawG k)) #[] (rawL w.heap.size k)) (hm.turn (Nat.le_refl _) (by omega) hW.turn).row rfl rfl rfl rfl rfl rfl k hk
  · exact raw_steps (n := n) (c := c) (a := a) wf hK hBw (by omega) hm hn hnm (fun W ht => hsrc W (hKq W ht))
  · rintro W ⟨⟨x, hx, h0, hr⟩, ht⟩
    exact ⟨x, hx, h0.symm, hr.kept_, ht.kept⟩
  · obtain ⟨x, hx⟩ := h.noFile
    exact ⟨⟨x, hx, rfl, h.keep hb⟩, Turn.of (Below.refl _ _) (Nat.le_trans hBw hb.size)⟩
  · rintro e w' ⟨E, rfl, x, hx, rfl, hr, ht⟩
    refine ⟨x, hx, ?_⟩
    unfold rawR
    rw [if_neg hl]
    exact ⟨rfl, hr, ht0.trans ht⟩
set_option maxHeartbeats 2000000 in
theorem raw_any {K : Nat} (h : Rep Kp B f s w) (wf : WfK K s) (hK : K + 6 ≤ 1000000) (hBw : B ≤ w.heap.size) (dir name : Nm) (n c : Nat) (a : Addr) (b : List UInt8) (hn : n = b.length) (hnm : n ≤ 1099494850000)
    (hsrc : ∀ W, Turn Kp B w W → BytesAt W W.heap.size (some a) b) :
    Calls Tryz.prog 89 #[.pointer (some ⟨f, 0, none⟩), .string (txt dir), .string (txt name), .slice (some a) n c] w (RawPost Kp B f s dir name b w) := by
  have hsz := txt_size name
  have htmp : (⟨#[116, 109, 112, 46]⟩ : ByteArray) ++ txt name = txt (tmpN name) := by
    rw [show (⟨#[116, 109, 112, 46]⟩ : ByteArray) = txt [116, 109, 112, 46] from rfl]
    apply str_ext
    rw [ByteArray.data_append]
    simp [txt, tmpN]
  by_cases hl : 28 < name.length
  · have hd : decide ((28 : Int) < (name.length : Int)) = true := decide_eq_true (by omega)
    have HQ := Lib.hid (fun w1 (hb : Below w.heap.size w w1) => h.below hb)
    have HT := Lib.hid (fun w1 (hb : Below w.heap.size w w1) => (Turn.of hb hBw : Turn Kp B w w1))
    have HX := Lib.hid h.noFile
    have HR := Lib.hid (show ∀ x, rawR s dir name b x = (65, s) from fun x => by unfold rawR; rw [if_pos hl])
    clear h wf hsrc hl hn
    go_enter Tryz.func89, Tryz.ntmps89
    go_wp2
    go_ret
    obtain ⟨x, hx⟩ := HX.out
    refine ⟨x, hx, ?_⟩
    rw [HR.out]
    have hb4 := Below.al (Below.al (Below.al (Below.al (Below.refl _ w) (Nat.le_refl _) (.cells #[.pointer (some ⟨f, 0, none⟩)] 32)) (Nat.le_refl _) (.cells #[.string (txt dir)] 9)) (Nat.le_refl _) (.cells #[.string (txt name)] 9)) (Nat.le_refl _) (.cells #[.slice (some a) n c] 30)
    exact ⟨rfl, HQ.out _ hb4, HT.out _ hb4⟩
  · have hd : decide ((28 : Int) < (name.length : Int)) = false := decide_eq_false (by omega)
    have HT := Lib.hid (raw_turns h wf hK hBw dir name n c a b hn hnm hsrc hl)
    have hsum : ¬ 9223372036854775807 < 4 + name.length := by omega
    unfold rawW rawL rawG adr at HT
    simp only [] at HT
    clear h wf hsrc hl hn
    go_enter Tryz.func89, Tryz.ntmps89
    go_wp2_with (go_at_call 135; refine HT.out.mono ?_; rintro e w' ⟨x, hx, rfl, hr, ht⟩; have HX := Lib.hid (And.intro hx (And.intro hr ht)); clear hx hr ht)
    go_ret
    exact ⟨x, HX.out.1, rfl, HX.out.2⟩
end
end Go.Proofs.YtkcnmajjfljilaaGreatDoor
