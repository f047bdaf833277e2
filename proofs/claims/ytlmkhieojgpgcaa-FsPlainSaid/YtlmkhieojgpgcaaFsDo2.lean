/- Do's Append: the bytes that were handed in are turned behind it. -/
import Derived.Test.YtlmkhieojgpgcaaFsNils
namespace Go.Proofs.Ytlmkhieojgpgcaa
open Go.ChangeShapes Go.WideShapes Go.ChangeAt Go.RowKit Go.ChangeMaps Go.MapKept
set_option linter.unusedVariables false

theorem bytesRow_ge (s : ByteArray) (cap : Nat) : s.size ≤ (bytesRow s cap).size := by unfold bytesRow; simp
structure Flip (n q : Nat) (w0 wr : World) : Prop where
  cells : ∀ j, j < n → ∃ v : Int, wr.cell? ⟨q, j, none⟩ = some (.int .u8 v)
  free : ∀ j, j < n → wr.frozen? ⟨q, j, none⟩ = false
  ch : Ch (· = q) w0 wr
theorem Flip.next {n q : Nat} {w0 wr : World} (h : Flip n q w0 wr) (k : Nat) (hk : k < n) (v : Int) : Flip n q w0 (wr.setCell ⟨q, k, none⟩ (.int .u8 v)) where
  cells := by
    intro j hj
    obtain ⟨u, hu⟩ := h.cells j hj
    by_cases e : k = j
    · subst e
      exact ⟨v, World.cell?_setCell_same _ _ _ hu⟩
    · exact ⟨u, by rw [World.cell?_setCell_other _ _ _ _ (by simp <;> omega), hu]⟩
  free := by
    intro j hj
    rw [World.frozen?_setCell]
    exact h.free j hj
  ch := h.ch.set (.inl rfl) _
theorem Flip.start {s : ByteArray} {cap q : Nat} {fr : Nat × Nat} {w : World} (h : w.heap[q]? = some (.cells (bytesRow s cap) 5 fr)) (hf : s.size ≤ fr.1) : Flip s.size q w w where
  cells := by
    intro j hj
    have hj' : j < s.data.size := by simpa using hj
    refine ⟨s.data[j].toNat, ?_⟩
    simp only [World.cell?, h]
    unfold bytesRow
    rw [Array.getElem?_append_left (by simpa using hj')]
    have e : s.data[j]? = some s.data[j] := Array.getElem?_eq_getElem hj'
    simp [e]
  free := by
    intro j hj
    obtain ⟨lo, hi⟩ := fr
    have : ¬ lo ≤ j := by simp at hf; omega
    simp [World.frozen?, h, this]
  ch := Ch.refl _ _
def acV (k : Int) (d n b : ByteArray) (N T : Int) (A : Option Addr) (len c : Nat) : Value := .agg #[.int .i64 k, .string d, .string n, .string b, .int .i64 N, .int .u8 T, .slice A len c]
def acC (k : Int) (d n b : ByteArray) (N T : Int) (A : Option Addr) (len c : Nat) : Array Value := #[.int .i64 k, .string d, .string n, .string b, .int .i64 N, .int .u8 T, .slice A len c]
set_option maxHeartbeats 1000000 in
theorem do2_any (p : Value) (d n b : ByteArray) (N T : Int) (A : Option Addr) (len c : Nat) (w : World) (hb : b.size ≤ 9223372036854775807) (Q : Int → World → Prop)
    (hA : ∀ cap cap' fr, b.size ≤ fr.1 → Calls Try.prog 11 #[p, .string d, .string n, .slice (some ⟨w.heap.size + 1, 0, none⟩) b.size cap] ((w.alloc (.cells (acC 2 d n b N T A len c) 43)).alloc (.cells (bytesRow b cap') 5 fr)).drew
      fun e w2 => ∃ E : Int, e = .returned (.int .i64 E) ∧ Q E w2 ∧ w2.heap[w.heap.size + 1]? = some (.cells (bytesRow b cap') 5 fr))
    (hQ : ∀ E w2 w3 cs fr, Q E w2 → w2.heap[w.heap.size + 1]? = some (.cells cs 5 fr) → Ch (· = w.heap.size + 1) w2 w3 → Q E w3) :
    Calls Try.prog 21 #[p, acV 2 d n b N T A len c] w fun e w' => ∃ E : Int, e = .returned (.int .i64 E) ∧ Q E w' := by
  have hcv := fun W => run_bytes_of_string (P := Try.prog) W 9 31 5 b Try.underlying9 Try.underlying31 Try.underlying5
  have HA := Lib.hid hA
  have HQ := Lib.hid hQ
  clear hA hQ
  unfold acV
  unfold acC at HA
  obtain ⟨q, hq⟩ : ∃ q, w.heap.size + 1 = q := ⟨_, rfl⟩
  have HQQ := Lib.hid hq
  rw [hq] at HA HQ
  go_enter Try.func21, Try.ntmps21
  go_wp2_with (go_at_call 11; go_loud (refine (HA.out _ _ _ ?_).mono ?_); rotate_left; rintro e w2 ⟨E, rfl, hQ2, hc2⟩; have HQ2 := Lib.hid hQ2; have HC2 := Lib.hid hc2; clear hQ2 hc2)
  · obtain ⟨cs0, fr0, hf0⟩ : ∃ cs0 fr0, w2.heap[q]? = some (.cells cs0 5 fr0) := ⟨_, _, HC2.out⟩
    have HFL := Lib.hid (Flip.start HC2.out (bytesRow_ge b _))
    have HQE := Lib.hid (fun w3 (h : Ch (· = q) w2 w3) => HQ.out E w2 w3 cs0 fr0 HQ2.out hf0 h)
    clear HA HQ HC2 HQ2 hcv hf0 HQQ hq
    go_loopw [7] (fun i wr => ∃ k : Nat, k ≤ b.size ∧ i = .int .i64 (k : Int) ∧ Hid (Flip b.size q w2 wr)) (fun i _ => b.size - (intOf i).toNat)
    case atStart => exact ⟨0, Nat.zero_le _, rfl, HFL⟩
    case round =>
      obtain ⟨k, hk, rfl, HT⟩ := hrel
      by_cases hlt : k < b.size
      · obtain ⟨v, hcell⟩ := HT.out.cells k hlt
        have hfree := HT.out.free k hlt
        have HN := Lib.hid (fun v => HT.out.next k hlt v)
        go_wp2
        go_roundw
        case rel => exact ⟨k + 1, by omega, by go_num, Lib.hid (HN.out _)⟩
        case measure => simp [intOf]; omega
      · have hkn : k = b.size := by omega
        subst hkn
        have HR := Lib.hid (HQE.out _ HT.out.ch)
        clear HT HFL
        go_wp2
        go_ret
        exact ⟨E, rfl, HR.out⟩
  · exact bytesRow_ge b _
theorem do2_nil (d n b : ByteArray) (N T : Int) (A : Option Addr) (len c : Nat) (w : World) (hb : b.size ≤ 9223372036854775807) :
    Calls Try.prog 21 #[.pointer none, acV 2 d n b N T A len c] w (NilPost w) := by
  have hw : ∀ cap' fr, Below w.heap.size w ((w.alloc (.cells (acC 2 d n b N T A len c) 43)).alloc (.cells (bytesRow b cap') 5 fr)).drew := fun cap' fr => (Below.al (Below.al (Below.refl _ w) (Nat.le_refl _) _) (Nat.le_refl _) _).drew
  refine (do2_any (.pointer none) d n b N T A len c w hb (fun E w' => E = 1 ∧ Below w.heap.size w w') (fun cap cap' fr _ => (append_nil d n _ _ _ _).mono fun e w2 ⟨h1, h2⟩ => ⟨1, h1, ⟨rfl, (hw cap' fr).trans (h2.mono (hw cap' fr).size)⟩, ?_⟩) (fun E w2 w3 cs fr ⟨h1, h2⟩ _ hch => ⟨h1, h2.trans (hch.toBelow (fun k _ e => by omega) h2.size)⟩)).mono fun e w' ⟨E, h1, h2, h3⟩ => ⟨by rw [h1, h2], h3⟩
  refine (h2.block _ (by simp [World.drew])).trans ?_
  have e : ∀ (W : World) (o : Obj), (W.alloc o).drew.heap[W.heap.size]? = some o := fun W o => by
    show (W.heap.push o)[W.heap.size]? = _
    simp
  have := e (w.alloc (.cells (acC 2 d n b N T A len c) 43)) (.cells (bytesRow b cap') 5 fr)
  rwa [show (w.alloc (.cells (acC 2 d n b N T A len c) 43)).heap.size = w.heap.size + 1 by simp] at this
end Go.Proofs.Ytlmkhieojgpgcaa
