/- Layer 13, walked: expressions in memory; within, deeper. -/
import Derived.Test.YtclcabdekeegdaaGreatExO
import Derived.Test.YtclcabdekeegdaaGreatDecW4
import Derived.Test.YtclcabdekeegdaaGreatRegAll
namespace Go.Proofs.YtclcabdekeegdaaGreat
open Go.ChangeShapes Go.WideShapes Go.ChangeAt Go.RowKit
set_option linter.unusedVariables false

/-- An expression as a value. -/
def X.val (e : X) (A : Option Addr) (c : Nat) : Value := .agg #[.int .i64 e.op, .string e.nm, .int .i64 e.v.k, .int .i64 e.v.n, .string e.v.s, .slice A e.ks.length c]
/-- An expression in a block of its own. -/
def X.obj (e : X) (A : Option Addr) (c : Nat) : Obj := .cells #[.int .i64 e.op, .string e.nm, .int .i64 e.v.k, .int .i64 e.v.n, .string e.v.s, .slice A e.ks.length c] 26
theorem KidsAt.len {w : World} {B : Nat} {e : X} {A : Option Addr} {c : Nat} (h : KidsAt w B e A c) : e.ks.length ≤ c ∧ c ≤ maxLen := by
  cases e; simp only [KidsAt] at h; exact ⟨h.1, h.2.1⟩
theorem KidsAt.at {w : World} {B : Nat} {e : X} {A : Option Addr} {c : Nat} (h : KidsAt w B e A c) (j : Nat) (hj : j < e.ks.length) :
    ∃ b off A2 c2, A = some ⟨b, off, none⟩ ∧ b < B ∧ (∀ q (hq : q < 6), w.cell? ⟨b, off + j * 6 + q, none⟩ = some ((e.ks[j].cells A2 c2)[q]'(by simpa [X.cells] using hq))) ∧ KidsAt w B e.ks[j] A2 c2 := by
  cases e; simp only [KidsAt] at h
  have := KidsL.at h.2.2 j hj
  rw [Nat.zero_add] at this
  exact this
theorem KidsAt.at6 {w : World} {B : Nat} {e : X} {A : Option Addr} {c : Nat} (h : KidsAt w B e A c) (j : Nat) (hj : j < e.ks.length) :
    ∃ b off A2 c2, A = some ⟨b, off, none⟩ ∧ b < B ∧ KidsAt w B e.ks[j] A2 c2 ∧ w.cell? ⟨b, off + j * 6, none⟩ = some (.int .i64 e.ks[j].op) ∧ w.cell? ⟨b, off + j * 6 + 1, none⟩ = some (.string e.ks[j].nm) ∧ w.cell? ⟨b, off + j * 6 + 2, none⟩ = some (.int .i64 e.ks[j].v.k) ∧
      w.cell? ⟨b, off + j * 6 + 3, none⟩ = some (.int .i64 e.ks[j].v.n) ∧ w.cell? ⟨b, off + j * 6 + 4, none⟩ = some (.string e.ks[j].v.s) ∧ w.cell? ⟨b, off + j * 6 + 5, none⟩ = some (.slice A2 e.ks[j].ks.length c2) := by
  obtain ⟨b, off, A2, c2, h1, h2, h3, h4⟩ := h.at j hj
  exact ⟨b, off, A2, c2, h1, h2, h4, h3 0 (by decide), h3 1 (by decide), h3 2 (by decide), h3 3 (by decide), h3 4 (by decide), h3 5 (by decide)⟩
theorem KidsAt.at6m {w : World} {B : Nat} {o : Int} {n : ByteArray} {v : V} {ks : List X} {A : Option Addr} {c : Nat} (h : KidsAt w B (.mk o n v ks) A c) (j : Nat) (hj : j < ks.length) :
    ∃ b off A2 c2, A = some ⟨b, off, none⟩ ∧ b < B ∧ KidsAt w B ks[j] A2 c2 ∧ w.cell? ⟨b, off + j * 6, none⟩ = some (.int .i64 ks[j].op) ∧ w.cell? ⟨b, off + j * 6 + 1, none⟩ = some (.string ks[j].nm) ∧ w.cell? ⟨b, off + j * 6 + 2, none⟩ = some (.int .i64 ks[j].v.k) ∧
      w.cell? ⟨b, off + j * 6 + 3, none⟩ = some (.int .i64 ks[j].v.n) ∧ w.cell? ⟨b, off + j * 6 + 4, none⟩ = some (.string ks[j].v.s) ∧ w.cell? ⟨b, off + j * 6 + 5, none⟩ = some (.slice A2 ks[j].ks.length c2) := h.at6 j hj
theorem depL_lt {m : Int} (h0 : 0 ≤ m) : ∀ {l : List X}, m < (depL l : Int) ↔ ∃ j, ∃ h : j < l.length, m - 1 < (dep l[j] : Int)
  | [] => by
    constructor
    · intro h; simp only [depL] at h; omega
    · rintro ⟨j, hj, _⟩; simp at hj
  | k :: ks => by
    have ih := depL_lt h0 (l := ks)
    simp only [depL]
    constructor
    · intro h
      by_cases hk : m - 1 < (dep k : Int)
      · exact ⟨0, by simp, hk⟩
      · have h2 : m < (depL ks : Int) := by omega
        obtain ⟨j, hj, hh⟩ := ih.1 h2
        exact ⟨j + 1, by simpa using hj, by simpa using hh⟩
    · rintro ⟨j, hj, hh⟩
      cases j with
      | zero => simp at hh; omega
      | succ j =>
        have := ih.2 ⟨j, by simpa using hj, by simpa using hh⟩
        omega

theorem within_any (e : X) (A : Option Addr) (c : Nat) (w : World) :
    Calls Tryz.prog 34 #[e.val A c] w fun en w' => en = .returned (.func (.func 89) #[] #[.pointer (some ⟨w.heap.size, 0, none⟩)]) ∧ w' = w.alloc (e.obj A c) := by
  unfold X.val X.obj
  have hmf : ∀ (fn : Fn) (first cap : Array Value) (w : World), (Instr.makeFunc fn first cap).run Tryz.prog w = .ok (.func fn first cap) w := fun _ _ _ _ => rfl
  go_enter Tryz.func34, Tryz.ntmps34
  go_wp2
  go_ret
  exact ⟨rfl, rfl⟩

set_option maxHeartbeats 1000000 in
set_option maxRecDepth 20000 in
theorem deeper_any : ∀ (e : X) (most : Int) (A : Option Addr) (c : Nat) (w : World), -1 ≤ most → most ≤ 1000 → KidsAt w w.heap.size e A c →
    Calls Tryz.prog 32 #[e.val A c, .int .i64 most] w fun en w' => en = .returned (.bool (decide (most < (dep e : Int)))) ∧ Below w.heap.size w w' := by
  refine X.ind ?_
  intro o n v ks ih most A c w h1 h2 hk
  obtain ⟨E, hE⟩ : ∃ E : Bool, decide (most < (dep (.mk o n v ks) : Int)) = E := ⟨_, rfl⟩
  rw [hE]
  have HE := Lib.hid hE
  have HK := Lib.hid hk
  have hlen := hk.len
  have HIH := Lib.hid ih
  unfold maxLen at hlen
  simp only [X.ks] at hlen
  obtain ⟨hl1, hl2⟩ := hlen
  clear hE hk ih
  unfold X.val
  simp only [X.op, X.nm, X.v, X.ks]
  by_cases hneg : most < 0
  · have HX := Lib.hid (show E = true by rw [← HE.out]; exact decide_eq_true (by omega))
    have p1 : decide (most < 0) = true := decide_eq_true hneg
    go_enter Tryz.func32, Tryz.ntmps32
    go_wp2
    go_ret
    rw [HX.out]
    exact ⟨rfl, (Below.refl _ w).alloc (Nat.le_refl _) _⟩
  · have p1 : decide (most < 0) = false := decide_eq_false hneg
    have HIFF := Lib.hid (show E = true ↔ ∃ j, ∃ h : j < ks.length, most - 1 < (dep ks[j] : Int) by
      rw [← HE.out, decide_eq_true_eq, ← depL_lt (by omega)]; rfl)
    have hbw : Below w.heap.size w (w.alloc (.cells #[.int .i64 o, .string n, .int .i64 v.k, .int .i64 v.n, .string v.s, .slice A ks.length c] 26)) := (Below.refl _ w).alloc (Nat.le_refl _) _
    have HBW := Lib.hid hbw
    clear hbw
    go_enter Tryz.func32, Tryz.ntmps32
    go_wp2
    clear p1
    go_loopw [12] (fun i wr => ∃ k : Nat, k ≤ ks.length ∧ i = .int .i64 k ∧ Hid (∀ j, ∀ h : j < ks.length, j < k → (dep ks[j] : Int) ≤ most - 1) ∧ Below w.heap.size w wr) (fun i _ => ks.length - (intOf i).toNat)
    case atStart => exact ⟨0, Nat.zero_le _, rfl, Lib.hid (fun j _ h => by omega), HBW.out⟩
    case round =>
      obtain ⟨k, hkk, rfl, HA, hbel⟩ := hrel
      have HB0 := Lib.hid hbel
      by_cases hlt : k < ks.length
      · obtain ⟨b, off, A2, c2, rfl, hB, hk2, c0, c1, c2', c3, c4, c5⟩ := ((HK.out.below hbel).at6 k hlt)
        simp only [X.ks] at hk2 c0 c1 c2' c3 c4 c5
        have HM := Lib.hid (List.getElem_mem hlt)
        have HP := Lib.hid (show ks[k]'hlt = ks[k] from rfl)
        have HIHk := Lib.hid (HIH.out ks[k] (List.getElem_mem hlt))
        have HBAD := Lib.hid (show most - 1 < (dep ks[k] : Int) → E = true from fun h => HIFF.out.2 ⟨k, hlt, h⟩)
        have HGO := Lib.hid (show (dep ks[k] : Int) ≤ most - 1 → ∀ j, ∀ h : j < ks.length, j < k + 1 → (dep ks[j] : Int) ≤ most - 1 from fun h j hj hjk => by
          by_cases e : j = k
          · subst e; exact h
          · exact HA.out j hj (by omega))
        obtain ⟨x, hx⟩ : ∃ x, ks[k] = x := ⟨_, rfl⟩
        rw [hx] at hk2 c0 c1 c2' c3 c4 c5 HIHk HBAD HGO
        clear hx HM HP
        have HC := Lib.hid (fun (W : World) (hb : Below wr.heap.size wr W) => HIHk.out (most - 1) A2 c2 W (by omega) (by omega) (KidsAt.more (Nat.le_trans hbel.size hb.size) (KidsAt.below (hb.mono hbel.size) hk2)))
        have HBX := Lib.hid ((Below.refl wr.heap.size wr).alloc (Nat.le_refl _) (.cells #[.int .i64 x.op, .string x.nm, .int .i64 x.v.k, .int .i64 x.v.n, .string x.v.s, .slice A2 x.ks.length c2] 26))
        obtain ⟨D, hD⟩ : ∃ D : Bool, decide (most - 1 < (dep x : Int)) = D := ⟨_, rfl⟩
        rw [hD] at HC
        have HD := Lib.hid hD
        clear hD hk2 hbel
        have hw1 : wrap64 (most - 1) = most - 1 := by unfold wrap64; omega
        unfold X.val at HC
        cases D
        · have HA2 := Lib.hid (HGO.out (by have := HD.out; simpa using this))
          go_wp2_with (go_at_call 32; refine (HC.out _ HBX.out).mono ?_; rintro e w2 ⟨rfl, hb⟩)
          go_roundw
          case rel => exact ⟨k + 1, by omega, by go_num, HA2, hop (HB0.out.trans (HBX.out.mono HB0.out.size)) hb (by exact Nat.le_refl _)⟩
          case measure => simp [intOf]; omega
        · have HX := Lib.hid (HBAD.out (by have := HD.out; simpa using this))
          go_wp2_with (go_at_call 32; refine (HC.out _ HBX.out).mono ?_; rintro e w2 ⟨rfl, hb⟩)
          go_ret
          rw [HX.out]
          exact ⟨rfl, hop (HB0.out.trans (HBX.out.mono HB0.out.size)) hb (by exact Nat.le_refl _)⟩
      · have HX := Lib.hid (show E = false by
          cases hEE : E with
          | false => rfl
          | true =>
            obtain ⟨j, hj, h⟩ := HIFF.out.1 hEE
            have := HA.out j hj (by omega); omega)
        go_wp2
        go_ret
        rw [HX.out]
        exact ⟨rfl, HB0.out⟩
end Go.Proofs.YtclcabdekeegdaaGreat
