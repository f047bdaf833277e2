/- Layer 17: what tables of ints are asked; the chapter's example, alive. -/
import Derived.Test.YtmeoednndfgffaaTaN
namespace Go.Proofs.Ytmeoednndfgffaa
attribute [local go_sem] Oper.semAt_some
open Go Go.ChangeShapes Go.WideShapes Go.ChangeAt Go.RowKit
set_option linter.unusedVariables false
set_option linter.unusedSimpArgs false
/-- Entries of ints, side by side. -/
def ERowI (w : World) (B : Nat) (A : Option Addr) (l : List (KV Int)) : Prop :=
  ∀ (j : Nat) (h : j < l.length), ∃ b off, A = some ⟨b, off, none⟩ ∧ b < B ∧ w.cell? ⟨b, off + j * 2, none⟩ = some (.string l[j].k) ∧ w.cell? ⟨b, off + j * 2 + 1, none⟩ = some (.int .i64 l[j].v)
/-- Changes, side by side. -/
def CRowG {α : Type} (enc : α → Value) (w : World) (B : Nat) (A : Option Addr) (l : List (KC α)) : Prop :=
  ∀ (j : Nat) (h : j < l.length), ∃ b off, A = some ⟨b, off, none⟩ ∧ b < B ∧ w.cell? ⟨b, off + j * 3, none⟩ = some (.string l[j].k) ∧ w.cell? ⟨b, off + j * 3 + 1, none⟩ = some (enc l[j].v) ∧ w.cell? ⟨b, off + j * 3 + 2, none⟩ = some (.bool l[j].g)
def newK {α : Type} (es : List (KV α)) : List (KV α) := es.foldl (fun l e => setK l e.k e.v) []
/-- A table of ints. -/
structure TabI (TabSI : World → Value → List (KV Int) → Prop) : Prop where
  on : ∀ {w w' v l}, TabSI w v l → Below w.heap.size w w' → TabSI w' v l
  new : ∀ (es : List (KV Int)) (A : Option Addr) (n c : Nat) (w : World), n = es.length → es.length ≤ 10 → ERowI w w.heap.size A es → Calls Try.prog 33 #[.slice A n c] w fun e w' => ∃ v, e = .returned v ∧ TabSI w' v (newK es) ∧ Below w.heap.size w w'
  diff : ∀ {w v v' l m}, TabSI w v l → TabSI w v' m → l.length + m.length ≤ 20 → Calls Try.prog 34 #[v, v'] w fun e w' => ∃ A c, e = .returned (.slice A (diffK 0 l m).length c) ∧ CRowG (fun x => .int .i64 x) w' w'.heap.size A (diffK 0 l m) ∧ Below w.heap.size w w'
def kA : ByteArray := ⟨#[97]⟩
def kB : ByteArray := ⟨#[98]⟩
theorem newK_a : newK [(⟨kA, 1⟩ : KV Int), ⟨kB, 2⟩] = [⟨kA, 1⟩, ⟨kB, 2⟩] := by
  have h : ltK kA kB := by decide
  simp [newK, setK, h]
theorem newK_b : newK [(⟨kB, 3⟩ : KV Int)] = [⟨kB, 3⟩] := rfl
theorem diff_ab : diffK (0 : Int) [⟨kA, 1⟩, ⟨kB, 2⟩] [⟨kB, 3⟩] = [⟨kA, 0, true⟩, ⟨kB, 3, false⟩] := by
  have h : ltK kA kB := by decide
  have h2 : ¬ ltK kB kB := ltK_irrefl _
  simp [diffK, h, h2]
theorem eRow2 (w : World) (t : TypeId) : ERowI (w.alloc (.cells #[.string kA, .int .i64 1, .string kB, .int .i64 2] t)) (w.alloc (.cells #[.string kA, .int .i64 1, .string kB, .int .i64 2] t)).heap.size (some ⟨w.heap.size, 0, none⟩) [⟨kA, 1⟩, ⟨kB, 2⟩] := by
  intro j hj
  obtain ⟨U, hU⟩ : ∃ U, w.alloc (.cells #[.string kA, .int .i64 1, .string kB, .int .i64 2] t) = U := ⟨_, rfl⟩
  have h : U.heap[w.heap.size]? = some (.cells #[.string kA, .int .i64 1, .string kB, .int .i64 2] t) := by rw [← hU]; exact World.alloc_heap_new w _
  rw [hU]
  refine ⟨_, _, rfl, lt_of_heap h, ?_⟩
  match j, hj with
  | 0, _ => exact ⟨by simp [World.cell?, h], by simp [World.cell?, h]⟩
  | 1, _ => exact ⟨by simp [World.cell?, h], by simp [World.cell?, h]⟩
theorem eRow1 (w : World) (t : TypeId) : ERowI (w.alloc (.cells #[.string kB, .int .i64 3] t)) (w.alloc (.cells #[.string kB, .int .i64 3] t)).heap.size (some ⟨w.heap.size, 0, none⟩) [⟨kB, 3⟩] := by
  intro j hj
  obtain ⟨U, hU⟩ : ∃ U, w.alloc (.cells #[.string kB, .int .i64 3] t) = U := ⟨_, rfl⟩
  have h : U.heap[w.heap.size]? = some (.cells #[.string kB, .int .i64 3] t) := by rw [← hU]; exact World.alloc_heap_new w _
  rw [hU]
  refine ⟨_, _, rfl, lt_of_heap h, ?_⟩
  match j, hj with
  | 0, _ => exact ⟨by simp [World.cell?, h], by simp [World.cell?, h]⟩
theorem alive_cells {U : World} {B : Nat} {A : Option Addr} (h : CRowG (fun x : Int => .int .i64 x) U B A [⟨kA, 0, true⟩, ⟨kB, 3, false⟩]) : ∃ b off, A = some ⟨b, off, none⟩ ∧ U.cell? ⟨b, off, none⟩ = some (.string ⟨#[97]⟩) ∧ U.cell? ⟨b, off + 1, none⟩ = some (.int .i64 0) ∧ U.cell? ⟨b, off + 2, none⟩ = some (.bool true) ∧ U.cell? ⟨b, off + 3, none⟩ = some (.string ⟨#[98]⟩) ∧ U.cell? ⟨b, off + 3 + 1, none⟩ = some (.int .i64 3) ∧ U.cell? ⟨b, off + 3 + 2, none⟩ = some (.bool false) := by
  obtain ⟨b, off, e, _, h0, h1, h2⟩ := h 0 (by decide)
  obtain ⟨b', off', e', _, g0, g1, g2⟩ := h 1 (by decide)
  rw [e] at e'
  cases e'
  exact ⟨b, off, e, h0, h1, h2, g0, g1, g2⟩
set_option maxHeartbeats 4000000 in
set_option maxRecDepth 40000 in
theorem alive_any {TabSI : World → Value → List (KV Int) → Prop} (HI : TabI TabSI) (w : World) : Calls Try.prog 8 #[] w fun e w' => e = .returned (.bool true) ∧ Below w.heap.size w w' := by
  go_enter Try.func8, Try.ntmps8
  go_wp2_with (first
    | (have HSEC := HT1; go_at_call 33; clear HSEC; go_loud (refine (HI.new [⟨kB, 3⟩] _ _ _ _ rfl (by decide) (eRow1 w1 _)).mono ?_; rintro en w2 ⟨v2, rfl, ht2, hb2⟩; have hb := (Below.refl w1.heap.size w1).alloc (Nat.le_refl _) (.cells #[.string kB, .int .i64 3] 73); rw [newK_b] at ht2; have HT2 := Lib.hid ht2; have HT12 := Lib.hid (HI.on (HI.on HT1.out hb) hb2); have HB2 := Lib.hid (hop0 (hop0 HB1.out hb) hb2); clear ht2 hb hb2))
    | (go_at_call 33; go_loud (refine (HI.new [⟨kA, 1⟩, ⟨kB, 2⟩] _ _ _ _ rfl (by decide) (eRow2 w _)).mono ?_; rintro en w1 ⟨v1, rfl, ht1, hb1⟩; rw [newK_a] at ht1; have HT1 := Lib.hid ht1; have HB1 := Lib.hid (hop0 ((Below.refl w.heap.size w).alloc (Nat.le_refl _) _) hb1); clear ht1 hb1))
    | (go_at_call 34; go_loud (refine (HI.diff HT12.out HT2.out (by decide)).mono ?_; rintro en w3 ⟨A, c, rfl, hr, hb3⟩; have HB3 := Lib.hid (hop0 HB2.out hb3); rw [diff_ab] at hr ⊢; have hx := alive_cells hr; clear hr hb3; obtain ⟨b, off, rfl, a0, a1, a2, b0, b1, b2⟩ := hx)))
  go_ret
  exact ⟨by simp, HB3.out⟩
end Go.Proofs.Ytmeoednndfgffaa
