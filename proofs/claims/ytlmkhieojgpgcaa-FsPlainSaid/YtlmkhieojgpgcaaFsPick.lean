/- simfs: the next pick; cut. -/
import Derived.Test.YtlmkhieojgpgcaaFsM4
namespace Go.Proofs.Ytlmkhieojgpgcaa
open Go.ChangeShapes Go.WideShapes Go.ChangeAt Go.RowKit Go.ChangeMaps Go.MapKept
open Go.Lib (byteCells byteCells_length byteCells_append strCells)
set_option linter.unusedVariables false

/-- The next pick, of 0 to n, and what is left. -/
def pickK (ps : List Int) (n : Nat) : Nat := match ps with
  | [] => 0
  | p :: _ => ((p % 18446744073709551616) % ((n : Int) + 1)).toNat
theorem pickK_le (ps : List Int) (n : Nat) : pickK ps n ≤ n := by
  cases ps with
  | nil => exact Nat.zero_le _
  | cons p r =>
    have h1 := Int.emod_nonneg (p % 18446744073709551616) (show (n : Int) + 1 ≠ 0 by omega)
    have h2 := Int.emod_lt_of_pos (p % 18446744073709551616) (show 0 < (n : Int) + 1 by omega)
    show ((p % 18446744073709551616) % ((n : Int) + 1)).toNat ≤ n
    omega
/-- Numbers that lie somewhere: below B, or in a row of numbers. -/
def PicksAt (B : Nat) (w : World) (A : Option Addr) (ps : List Int) : Prop :=
  ∀ (j : Nat) (h : j < ps.length), ∃ b off, A = some ⟨b, off, none⟩ ∧ (b < B ∨ ∃ c, Cells w b c 3) ∧ w.cell? ⟨b, off + j, none⟩ = some (.int .i64 ps[j])
theorem PicksAt.ch {B : Nat} {S : Nat → Prop} {w w' : World} {A : Option Addr} {ps : List Int} (h : PicksAt B w A ps) (k : Ch S w w') (hS : ∀ i, S i → B ≤ i ∧ ∀ c, ¬ Cells w i c 3) : PicksAt B w' A ps := by
  intro j hj
  obtain ⟨b, off, rfl, hb, hc⟩ := h j hj
  have hne : ¬ S b := fun hs => by
    rcases hb with hb | ⟨c, hb⟩
    · have := (hS b hs).1; omega
    · exact (hS b hs).2 c hb
  have hlt : b < w.heap.size := World.block_lt_of_cell? w _ hc
  exact ⟨b, off, rfl, hb.imp id (fun ⟨c, h⟩ => ⟨c, h.ch k hne⟩), (World.cell?_of_block (w := w) (a := ⟨b, off + j, none⟩) (k.block b hlt hne)).trans hc⟩
theorem PicksAt.tail {B : Nat} {w : World} {A : Option Addr} {p : Int} {r : List Int} (h : PicksAt B w A (p :: r)) (c : Nat) (hc : r.length + 1 ≤ c) : PicksAt B w (if c = 1 then A else A.map (·.add 1)) r := by
  intro j hj
  obtain ⟨b, off, rfl, hb, hx⟩ := h (j + 1) (by simpa using hj)
  rw [if_neg (by omega)]
  refine ⟨b, off + 1, by simp [add_at], hb, ?_⟩
  rw [show off + 1 + j = off + (j + 1) by omega]
  simpa using hx
/-- The variable that holds the picks. -/
structure PickBox (B : Nat) (w : World) (p : Nat) (ps : List Int) : Prop where
  box : ∃ A c, Cells w p #[.slice A ps.length c] 22 ∧ ps.length ≤ c ∧ c ≤ maxLen ∧ PicksAt B w A ps
  fit : ∀ x ∈ ps, in64 x
theorem PickBox.ch {B : Nat} {S : Nat → Prop} {w w' : World} {p : Nat} {ps : List Int} (h : PickBox B w p ps) (k : Ch S w w') (hS : ∀ i, S i → B ≤ i ∧ ∀ c, ¬ Cells w i c 3) (hp : ¬ S p) : PickBox B w' p ps := by
  obtain ⟨⟨A, c, h1, h2, h3, h4⟩, h5⟩ := h
  exact ⟨⟨A, c, h1.ch k hp, h2, h3, h4.ch k hS⟩, h5⟩
set_option maxHeartbeats 1000000 in
theorem pick_any {B : Nat} {w : World} {p : Nat} {ps : List Int} (h : PickBox B w p ps) (hB : B ≤ p) (n : Nat) (hn : n ≤ 1099511627776) :
    Calls Try.prog 43 #[.int .i64 (n : Int), adr p] w fun e w' => e = .returned (.int .i64 (pickK ps n : Int)) ∧ PickBox B w' p ps.tail ∧ Ch (· = p) w w' := by
  obtain ⟨⟨A, c, h1, h2, h3, h4⟩, h5⟩ := h
  have c0 : w.cell? ⟨p, 0, none⟩ = some (.slice A ps.length c) := h1.cell 0
  have f0 := h1.frozen 0
  cases ps with
  | nil =>
    have H := Lib.hid (show PickBox B w p [] from ⟨⟨A, c, h1, h2, h3, h4⟩, h5⟩)
    simp only [List.length_nil] at c0
    clear h1 h2 h3 h4 h5
    unfold adr
    go_enter Try.func43, Try.ntmps43
    go_wp2
    go_ret
    exact ⟨rfl, H.out, Ch.refl _ _⟩
  | cons q r =>
    obtain ⟨b, off, rfl, hb, hx⟩ := h4 0 (by simp)
    have hx0 : w.cell? ⟨b, off, none⟩ = some (.int .i64 q) := by simpa using hx
    have H1 := Lib.hid h1
    have H4 := Lib.hid h4
    have H5 := Lib.hid h5
    have hc1 : 1 ≤ c := by simp at h2; omega
    have HT := Lib.hid (h4.tail c (by simpa using h2))
    have hq := h5 q (List.mem_cons_self ..)
    obtain ⟨m, hm⟩ : ∃ m, (q :: r).length = m + 1 := ⟨r.length, by simp⟩
    have HM := Lib.hid (show r.length = m by simpa using hm)
    rw [hm] at c0
    have hmc : m + 1 ≤ c := by rw [← hm]; exact h2
    have HK := Lib.hid (show (pickK (q :: r) n : Int) = (q % 18446744073709551616) % ((n : Int) + 1) by
      unfold pickK
      exact Int.toNat_of_nonneg (Int.emod_nonneg _ (by omega)))
    have HKL := Lib.hid (pickK_le (q :: r) n)
    have hne : ¬ ((n : Int) + 1 = 0) := by omega
    have HWR := Lib.hid (show wrap64 ((IntKind.u64.wrap q).tmod ((n : Int) + 1)) = (pickK (q :: r) n : Int) by
      have e1 : IntKind.u64.wrap q = q % 18446744073709551616 := by rw [IntKind.wrap_u64]
      have e2 := Int.emod_nonneg q (show (18446744073709551616 : Int) ≠ 0 by omega)
      rw [e1, Int.tmod_eq_emod_of_nonneg e2, ← HK.out]
      have := HKL.out
      unfold wrap64
      omega)
    have H3 := Lib.hid h3
    unfold maxLen at h3
    clear h1 h2 h4 h5 hb hx hm
    unfold adr
    have hch : ∀ v, Ch (· = p) w (w.setCell ⟨p, 0, none⟩ v) := fun v => (Ch.refl (· = p) w).set (p := ⟨p, 0, none⟩) (.inl rfl) _
    have HFIN := Lib.hid (show ∀ A', A' = (if c = 1 then some ⟨b, off, none⟩ else some ⟨b, off + 1, none⟩) → PickBox B (w.setCell ⟨p, 0, none⟩ (.slice A' m (c - 1))) p r from fun A' hA' => by
      have h0 : ∀ i, i = p → B ≤ i ∧ ∀ d, ¬ Cells w i d 3 := fun i e => ⟨by omega, fun d hd => by subst e; exact hd.ne H1.out (by decide) rfl⟩
      refine ⟨⟨A', c - 1, ?_, by rw [HM.out]; omega, by have := H3.out; omega, ?_⟩, fun x hx => H5.out x (List.mem_cons_of_mem _ hx)⟩
      · rw [HM.out]; exact H1.out.set 0 _
      · have := HT.out.ch (hch (.slice A' m (c - 1))) h0
        rw [hA']
        by_cases e : c = 1
        · rw [if_pos e] at this ⊢; rw [hA', if_pos e] at this; exact this
        · rw [if_neg e] at this ⊢; rw [hA', if_neg e] at this; simpa [add_at] using this)
    have HCH := Lib.hid hch
    clear hch
    by_cases hcc : c = 1
    · subst hcc
      obtain rfl : m = 0 := by omega
      go_enter Try.func43, Try.ntmps43
      go_wp2
      go_ret
      exact ⟨by rw [← HWR.out]; rfl, HFIN.out (some ⟨b, off, none⟩) (by simp), HCH.out _⟩
    · go_enter Try.func43, Try.ntmps43
      go_wp2
      go_ret
      exact ⟨by rw [← HWR.out]; rfl, HFIN.out (some ⟨b, off + 1, none⟩) (by simp [hcc]), HCH.out _⟩

/-! ### cut -/
theorem own_take {w : World} {B n c : Nat} {A : Option Addr} {b : List UInt8} (h : w.ownsRow B 5 1 (.slice A n c) n (byteCells b)) (k : Nat) (hk : k ≤ n) : w.ownsRow B 5 1 (.slice A k c) k (byteCells (b.take k)) := by
  have hl := h.1
  rw [byteCells_length, Nat.mul_one] at hl
  refine ⟨by rw [byteCells_length, List.length_take]; omega, ?_⟩
  rcases h.2 with ⟨hv, h0⟩ | ⟨g, cap, cur, hv, hg, hh, h1, h2, h3, h4⟩
  · injection hv with e1 e2 e3
    have : k = 0 := by omega
    subst this; subst e1; subst e3
    exact .inl ⟨rfl, rfl⟩
  · injection hv with e1 e2 e3
    subst e1; subst e3
    refine .inr ⟨g, c, cur, rfl, hg, hh, by omega, h2, h3, ?_⟩
    have : byteCells (b.take k) = (byteCells b).take k := by unfold byteCells; rw [List.map_take]
    rw [this, ← h4, List.take_take]
    congr 1
    omega
set_option maxHeartbeats 1000000 in
theorem cut_any {Kp : Nat → Prop} {B f : Nat} {L : Lay} {s : Fs} {w : World} (h : RepL Kp B f L s w) (x : Nat) (b : List UInt8) (sf k : Nat) (hx : s.file x = some (b, sf)) (hk : sf + k ≤ b.length) (hb : b.length ≤ 16777216) (hBw : B ≤ w.heap.size) :
    Calls Try.prog 46 #[.pointer (some ⟨x, 0, none⟩), .int .i64 (k : Int)] w fun e w' => e = .returned (.tuple #[]) ∧ (∃ L', RepL Kp B f L' { s with file := upd s.file x (some (b.take (sf + k), sf + k)) } w' ∧ L'.M = L.M ∧ L'.blk = L.blk ∧ L'.nw = L.nw) ∧ Ch (· = x) w w' := by
  have hf := h.file x b sf hx
  have x0 : w.cell? ⟨x, 0, none⟩ = some (.slice (L.fa x) b.length (L.fc x)) := hf.cells.cell 0
  have x1 : w.cell? ⟨x, 1, none⟩ = some (.int .i64 (sf : Int)) := hf.cells.cell 1
  have f0 := hf.cells.frozen 0
  have f1 := hf.cells.frozen 1
  have hne : ¬ f = x := fun e => h.fs.ne hf.cells (by decide) e
  have hcap : b.length ≤ L.fc x ∧ L.fc x ≤ maxLen := by
    rcases hf.row.2 with ⟨hv, h0⟩ | ⟨g, cap, cur, hv, hg, hh, h1, h2, h3, h4⟩
    · injection hv with _ e2 e3; rw [e3]; exact ⟨by omega, by decide⟩
    · injection hv with _ _ e3; rw [e3]; exact ⟨h1, h2⟩
  obtain ⟨hc1, hc2⟩ := hcap
  unfold maxLen at hc2
  have HE := Lib.hid (fun (w' : World) (hw' : w' = ((w.setCell ⟨x, 1, none⟩ (.int .i64 ((sf + k : Nat) : Int))).setCell ⟨x, 0, none⟩ (.slice (L.fa x) (sf + k) (L.fc x))).drew) => by
    have hch : Ch (· = x) w w' := by rw [hw']; exact (((Ch.refl (· = x) w).set (p := ⟨x, 1, none⟩) (.inl rfl) _).set (p := ⟨x, 0, none⟩) (.inl rfl) _).drew
    have hlen : (b.take (sf + k)).length = sf + k := by rw [List.length_take]; omega
    refine (⟨⟨_, h.fileOnly (x := x) (A := L.fa x) (c := L.fc x) (b := b.take (sf + k)) (sf := sf + k) (fun b0 s0 hx0 j hj => ?_) (fun hx0 => by rw [hx] at hx0; cases hx0) (hch.mono fun k _ e => .inr (.inl e)) hBw ⟨?_, ?_⟩ (h.fs.ch hch hne), rfl, rfl, rfl⟩, hch⟩ : (∃ L', RepL Kp B f L' { s with file := upd s.file x (some (b.take (sf + k), sf + k)) } w' ∧ L'.M = L.M ∧ L'.blk = L.blk ∧ L'.nw = L.nw) ∧ Ch (· = x) w w')
    · rw [hx] at hx0; injection hx0 with hx0; injection hx0 with h1 h2; subst h1
      exact .inl (by rw [own_block_nil (b := []) (m := (b.take (sf + k)).length)]; exact hj)
    · rw [hlen, hw']; exact (hf.cells.set 1 _).set 0 _
    · rw [hlen]
      refine own_ch (own_take hf.row (sf + k) hk) hch fun j hj e => ?_
      obtain ⟨d, hd, _⟩ := hf.blk (by rw [own_block_nil (b := []) (m := sf + k)]; exact hj)
      exact hd.ne hf.cells (by decide) e)
  obtain ⟨m, hm⟩ : ∃ m, b.length = m := ⟨_, rfl⟩
  rw [hm] at x0 hk hb hc1
  have hkc : sf + k ≤ L.fc x := by omega
  clear h hf hx hm hne
  go_enter Try.func46, Try.ntmps46
  go_wp2
  go_region
  go_end0
  have h := HE.out _ rfl
  have e : ((sf + k : Nat) : Int) = (sf : Int) + (k : Int) := by omega
  rw [e] at h
  exact ⟨rfl, h⟩
end Go.Proofs.Ytlmkhieojgpgcaa
