/- Layer 17: the law TableInts, walked over what tables of bytes are asked. -/
import Derived.Test.YtmeoednndfgffaaTaI
import Derived.Laws.IdiomStrings
namespace Go.Proofs.Ytmeoednndfgffaa
attribute [local go_sem] Oper.semAt_some
open Go Go.ChangeShapes Go.WideShapes Go.ChangeAt Go.RowKit
set_option linter.unusedVariables false
set_option linter.unusedSimpArgs false
section
variable {TabSU : Blks → Blks → World → Value → List Ku → Prop}
/-- The key of a byte. -/
def kU (u : Nat) : ByteArray := ⟨#[UInt8.ofNat u]⟩
def Keys9 (l : List Ku) : Prop := ∀ c ∈ l, ∃ u : Nat, u < 9 ∧ c.k = kU u
theorem kU_lt {a b : Nat} (ha : a < 9) (hb : b < 9) (h : ltK (kU a) (kU b)) : a < b := by
  have h2 : ([UInt8.ofNat a] : List UInt8) < [UInt8.ofNat b] := h
  have h3 : UInt8.ofNat a < UInt8.ofNat b := by
    rcases List.cons_lt_cons_iff.1 h2 with h4 | ⟨_, h4⟩
    · exact h4
    · exact absurd h4 (List.lt_irrefl _)
  have h5 := UInt8.lt_iff_toNat_lt.1 h3
  simp only [UInt8.toNat_ofNat'] at h5
  omega
theorem nine_from : ∀ (l : List Ku) (lo : Nat), RiseK l → (∀ c ∈ l, ∃ u : Nat, lo ≤ u ∧ u < 9 ∧ c.k = kU u) → l.length + lo ≤ 9 ∨ l = []
  | [], _, _, _ => .inr rfl
  | c :: r, lo, hr, hk => by
    obtain ⟨h1, h2⟩ := List.pairwise_cons.1 hr
    obtain ⟨u, hu0, hu, hc⟩ := hk c (by simp)
    refine .inl ?_
    have h3 : ∀ d ∈ r, ∃ x : Nat, u + 1 ≤ x ∧ x < 9 ∧ d.k = kU x := fun d hd => by
      obtain ⟨x, _, hx, hdk⟩ := hk d (by simp [hd])
      have h4 := h1 d hd
      rw [hc, hdk] at h4
      exact ⟨x, kU_lt hu hx h4, hx, hdk⟩
    rcases nine_from r (u + 1) h2 h3 with h5 | h5
    · simp only [List.length_cons]; omega
    · subst h5
      simp only [List.length_cons, List.length_nil]; omega
theorem nine_len {l : List Ku} (hr : RiseK l) (hk : Keys9 l) : l.length ≤ 9 := by
  rcases nine_from l 0 hr (fun c hc => by obtain ⟨u, h1, h2⟩ := hk c hc; exact ⟨u, Nat.zero_le _, h1, h2⟩) with h | h
  · omega
  · rw [h]; decide
theorem Keys9.set {l : List Ku} (h : Keys9 l) {u : Nat} (hu : u < 9) (x : Int) : Keys9 (setK l (kU u) x) := fun c hc => by
  rcases setK_mem hc with rfl | hc
  · exact ⟨u, hu, rfl⟩
  · exact h c hc
theorem Ui.rise1 (HU : TabU TabSU) {w U : World} {v1 v2 : Value} {l1 l2 : List Ku} (h : Ui TabSU w v1 v2 l1 l2 U) : RiseK l1 := by
  obtain ⟨D1, R1, D2, R2, t1, t2, h1, h2⟩ := h.ex
  exact HU.rise t1
theorem Ui.rise2 (HU : TabU TabSU) {w U : World} {v1 v2 : Value} {l1 l2 : List Ku} (h : Ui TabSU w v1 v2 l1 l2 U) : RiseK l2 := h.swap.rise1 HU
def limL : Nat := 9223372036854775807
theorem wrapU (x : Int) (h0 : 0 ≤ x) (h1 : x ≤ 255) : IntKind.u8.wrap x = x := by
  simp only [IntKind.wrap, IntKind.bits, IntKind.signed]
  simp
  omega
set_option maxRecDepth 100000 in
theorem ints_key (w : World) (y : Int) (h0 : 0 ≤ y) (h1 : y < 9) : (convert 60 9 (.slice (some ⟨w.heap.size, 0, none⟩) 1 1)).run Try.prog (w.alloc (.cells #[.int .u8 y] 5)).drew = .ok (.string (kU y.toNat)) (w.alloc (.cells #[.int .u8 y] 5)).drew := by
  obtain ⟨U, hU⟩ : ∃ U, (w.alloc (.cells #[.int .u8 y] 5)).drew = U := ⟨_, rfl⟩
  have h : U.heap[w.heap.size]? = some (.cells #[.int .u8 y] 5) := by rw [← hU]; exact World.alloc_heap_new w _
  rw [hU]
  refine run_convert_bytes_back (P := Try.prog) U 60 9 5 ⟨w.heap.size, 0, none⟩ 1 [UInt8.ofNat y.toNat] Try.underlying60 Try.underlying5 Try.underlying9 (fun j hj => ?_)
  have h0 : j = 0 := by simp at hj; omega
  subst h0
  have e : ((UInt8.ofNat y.toNat).toNat : Int) = y := by simp only [UInt8.toNat_ofNat']; omega
  have h2 := cell_heap h
  rw [← e] at h2
  exact h2
set_option maxRecDepth 100000 in
theorem ints_key2 (w : World) (y : Int) (h0 : 0 ≤ y) (h1 : y < 9) : (convert 60 9 (.slice (some ⟨w.heap.size, 0, none⟩) 1 1)).run Try.prog (w.alloc (.cells #[.int .u8 y] 5)) = .ok (.string (kU y.toNat)) (w.alloc (.cells #[.int .u8 y] 5)) := by
  obtain ⟨U, hU⟩ : ∃ U, (w.alloc (.cells #[.int .u8 y] 5)) = U := ⟨_, rfl⟩
  have h : U.heap[w.heap.size]? = some (.cells #[.int .u8 y] 5) := by rw [← hU]; exact World.alloc_heap_new w _
  rw [hU]
  refine run_convert_bytes_back (P := Try.prog) U 60 9 5 ⟨w.heap.size, 0, none⟩ 1 [UInt8.ofNat y.toNat] Try.underlying60 Try.underlying5 Try.underlying9 (fun j hj => ?_)
  have h0 : j = 0 := by simp at hj; omega
  subst h0
  have e : ((UInt8.ofNat y.toNat).toNat : Int) = y := by simp only [UInt8.toNat_ofNat']; omega
  have h2 := cell_heap h
  rw [← e] at h2
  exact h2
set_option maxHeartbeats 8000000 in
set_option maxRecDepth 100000 in
theorem ints_walk (HU : TabU TabSU) (hal : ∀ W : World, Calls Try.prog 8 #[] W fun e w' => e = .returned (.bool true) ∧ Below W.heap.size W w') (a b : List Int) (na ca nb cb : Nat) (Aa Ab : Option Addr) (w : World) (hla : na = a.length) (hlb : nb = b.length) (hna : na ≤ maxLen) (hnb : nb ≤ maxLen) (hra : ∀ x ∈ a, 0 ≤ x ∧ x ≤ 255) (hrb : ∀ x ∈ b, 0 ≤ x ∧ x ≤ 255) (hA : URow w w.heap.size Aa a) (hB : URow w w.heap.size Ab b) :
    Calls Try.prog 7 #[.slice Aa na ca, .slice Ab nb cb] w fun e w' => e = .returned (.bool true) ∧ Below w.heap.size w w' := by
  have HAL := Lib.hid hal
  have HA := Lib.hid hA
  have HB := Lib.hid hB
  have HRA := Lib.hid (show ∀ (i : Nat) (h : i < a.length), 0 ≤ a[i] ∧ a[i] ≤ 255 from fun i h => hra _ (List.getElem_mem h))
  have HRB := Lib.hid (show ∀ (i : Nat) (h : i < b.length), 0 ≤ b[i] ∧ b[i] ≤ 255 from fun i h => hrb _ (List.getElem_mem h))
  have HLA := Lib.hid hla
  have HLB := Lib.hid hlb
  clear hal hA hB hra hrb hla hlb
  unfold maxLen at hna hnb
  have HNA := Lib.hid (show na ≤ limL by unfold limL; omega)
  have HNB := Lib.hid (show nb ≤ limL by unfold limL; omega)
  obtain ⟨S, hS⟩ : ∃ S, wrap64 ((na : Int) + (nb : Int)) = S := ⟨_, rfl⟩
  by_cases h600 : (600 : Int) < S
  · have q : decide ((600 : Int) < S) = true := decide_eq_true h600
    clear h600 hna hnb
    go_enter Try.func7, Try.ntmps7
    go_wp2_with (go_at_call 8; go_loud (refine (HAL.out _).mono ?_; rintro en w1 ⟨rfl, hb1⟩; have HB1 := Lib.hid hb1; clear hb1))
    go_ret
    exact ⟨by simp, HB1.out⟩
  have q : decide ((600 : Int) < S) = false := decide_eq_false h600
  clear h600 hna hnb
  go_enter Try.func7, Try.ntmps7
  go_wp2_with (first
    | (go_at_call 8; go_loud (refine (HAL.out _).mono ?_; rintro en w1 ⟨rfl, hb1⟩; have HB1 := Lib.hid hb1; clear hb1))
    | (have HSEC := HT2; go_at_call 27; clear HSEC; go_loud (refine (HU.new _).mono ?_; rintro en w3 ⟨D3, R3, v2, rfl, ht3, hf3, hb3⟩; have HUI := Lib.hid (ui_start HU HT2.out HF2.out HB1.out HB2.out ht3 hf3 hb3); clear ht3 hf3 hb3))
    | (go_at_call 27; go_loud (refine (HU.new _).mono ?_; rintro en w2 ⟨D2, R2, v1, rfl, ht2, hf2, hb2⟩; have HT2 := Lib.hid ht2; have HF2 := Lib.hid hf2; have HB2 := Lib.hid hb2; clear ht2 hf2 hb2)))
  clear HAL HT2 HF2 HB2 HB1 q hS
  go_loopw [7] (fun iv wr => ∃ (i : Nat) (l1 : List Ku), iv = .int .i64 (i : Int) ∧ i ≤ na ∧ Hid (Keys9 l1) ∧ Hid (Ui TabSU w v1 v2 l1 [] wr)) (fun iv _ => na - (intOf iv).toNat)
  case atStart => exact ⟨0, [], rfl, Nat.zero_le _, Lib.hid (fun c h => by cases h), HUI⟩
  case round =>
    obtain ⟨i, l1, rfl, hi, HLN, HX⟩ := hrel
    by_cases hlt : i < na
    · have hil : i < a.length := by rw [← HLA.out]; exact hlt
      obtain ⟨hx0, hx1⟩ := HRA.out i hil
      obtain ⟨bb, off, rfl, hb, k0⟩ := (HA.out.below HX.out.bel) i hil
      obtain ⟨x, hx⟩ : ∃ x, a[i]'hil = x := ⟨_, rfl⟩
      rw [hx] at k0 hx0 hx1
      have i1 : (0 : Int) ≤ (i : Int) := by omega
      have i2 : (i : Int) < (na : Int) := by omega
      have i3 : i + 1 ≤ 9223372036854775807 := by have := HNA.out; unfold limL at this; omega
      clear hx hil
      have HXD := Lib.hid (HX.out.on HU (Below.refl _ wr).drew)
      have HLE := Lib.hid (nine_len (HX.out.rise1 HU) HLN.out)
      have y0 : 0 ≤ x.tmod 9 := Int.tmod_nonneg _ hx0
      have y1 : x.tmod 9 < 9 := Int.tmod_lt_of_pos _ (by decide)
      have y2 : 0 ≤ x.tdiv 9 := Int.tdiv_nonneg hx0 (by decide)
      have y3 : x.tdiv 9 ≤ 255 := by rw [Int.tdiv_eq_ediv_of_nonneg hx0]; omega
      have y4 := wrapU (x.tdiv 9) y2 y3
      go_wp2
      have hS : wr.drew.cell? ⟨bb, off + i, none⟩ = some (.int .u8 x) := k0
      refine held_begin 14 (fun W => W.cell? ⟨bb, off + i, none⟩ = some (.int .u8 x)) rfl (by kernel_rfl) ?_
      refine held_take (i := 0) (t := 31) (v := v1) (fuel := 13) rfl rfl (by kernel_rfl) (by kernel_rfl) (by kernel_rfl) (fun _ _ _ h => h) (.inl ⟨rfl, fun W hW => by have s0 := hW; simp [execOp, Act.eval, go_sem, s0]⟩) hS ?_
      simp only [List.setIfInBounds_toArray, List.set_cons_succ, List.set_cons_zero]
      refine held_take (i := 1) (t := 32) (v := (.slice (some ⟨bb, off, none⟩) na ca)) (fuel := 12) rfl rfl (by kernel_rfl) (by kernel_rfl) (by kernel_rfl) (fun _ _ _ h => h) (.inl ⟨rfl, fun W hW => by have s0 := hW; simp [execOp, Act.eval, go_sem, s0]⟩) hS ?_
      simp only [List.setIfInBounds_toArray, List.set_cons_succ, List.set_cons_zero]
      refine held_take (i := 2) (t := 33) (v := (.int .i64 (i : Int))) (fuel := 11) rfl rfl (by kernel_rfl) (by kernel_rfl) (by kernel_rfl) (fun _ _ _ h => h) (.inl ⟨rfl, fun W hW => by have s0 := hW; simp [execOp, Act.eval, go_sem, s0]⟩) hS ?_
      simp only [List.setIfInBounds_toArray, List.set_cons_succ, List.set_cons_zero]
      refine held_take (i := 3) (t := 34) (v := (.pointer (some ⟨bb, off + i, none⟩))) (fuel := 10) rfl rfl (by kernel_rfl) (by kernel_rfl) (by kernel_rfl) (fun _ _ _ h => h) (.inl ⟨rfl, fun W hW => by have s0 := hW; simp [execOp, Act.eval, go_sem, s0, i1, i2, hlt]⟩) hS ?_
      simp only [List.setIfInBounds_toArray, List.set_cons_succ, List.set_cons_zero]
      refine held_take (i := 4) (t := 35) (v := (.int .u8 x)) (fuel := 9) rfl rfl (by kernel_rfl) (by kernel_rfl) (by kernel_rfl) (fun _ _ _ h => h) (.inl ⟨rfl, fun W hW => by have s0 := hW; simp [execOp, Act.eval, go_sem, s0]⟩) hS ?_
      simp only [List.setIfInBounds_toArray, List.set_cons_succ, List.set_cons_zero]
      refine held_take (i := 5) (t := 36) (v := (.int .u8 (x.tmod 9))) (fuel := 8) rfl rfl (by kernel_rfl) (by kernel_rfl) (by kernel_rfl) (fun _ _ _ h => h) (.inl ⟨rfl, fun W hW => by have s0 := hW; simp [execOp, Act.eval, go_sem, s0, y0, y1]⟩) hS ?_
      simp only [List.setIfInBounds_toArray, List.set_cons_succ, List.set_cons_zero]
      refine held_take (i := 8) (t := 39) (v := (.slice (some ⟨bb, off, none⟩) na ca)) (fuel := 7) rfl rfl (by kernel_rfl) (by kernel_rfl) (by kernel_rfl) (fun _ _ _ h => h) (.inl ⟨rfl, fun W hW => by have s0 := hW; simp [execOp, Act.eval, go_sem, s0]⟩) hS ?_
      simp only [List.setIfInBounds_toArray, List.set_cons_succ, List.set_cons_zero]
      refine held_take (i := 9) (t := 40) (v := (.int .i64 (i : Int))) (fuel := 6) rfl rfl (by kernel_rfl) (by kernel_rfl) (by kernel_rfl) (fun _ _ _ h => h) (.inl ⟨rfl, fun W hW => by have s0 := hW; simp [execOp, Act.eval, go_sem, s0]⟩) hS ?_
      simp only [List.setIfInBounds_toArray, List.set_cons_succ, List.set_cons_zero]
      refine held_take (i := 10) (t := 41) (v := (.pointer (some ⟨bb, off + i, none⟩))) (fuel := 5) rfl rfl (by kernel_rfl) (by kernel_rfl) (by kernel_rfl) (fun _ _ _ h => h) (.inl ⟨rfl, fun W hW => by have s0 := hW; simp [execOp, Act.eval, go_sem, s0, i1, i2, hlt]⟩) hS ?_
      simp only [List.setIfInBounds_toArray, List.set_cons_succ, List.set_cons_zero]
      refine held_take (i := 11) (t := 42) (v := (.int .u8 x)) (fuel := 4) rfl rfl (by kernel_rfl) (by kernel_rfl) (by kernel_rfl) (fun _ _ _ h => h) (.inl ⟨rfl, fun W hW => by have s0 := hW; simp [execOp, Act.eval, go_sem, s0]⟩) hS ?_
      simp only [List.setIfInBounds_toArray, List.set_cons_succ, List.set_cons_zero]
      refine held_take (i := 12) (t := 43) (v := (.int .u8 (x.tdiv 9))) (fuel := 3) rfl rfl (by kernel_rfl) (by kernel_rfl) (by kernel_rfl) (fun _ _ _ h => h) (.inl ⟨rfl, fun W hW => by have s0 := hW; simp [execOp, Act.eval, go_sem, s0, y4]⟩) hS ?_
      simp only [List.setIfInBounds_toArray, List.set_cons_succ, List.set_cons_zero]
      refine held_call (i := 6) rfl (by kernel_rfl) (by kernel_rfl) ?_
      simp [Oper.wp, execOp, Act.eval, Act.put, go_sem]
      have hS2 : (wr.alloc (.cells #[.int .u8 (x.tmod 9)] 5)).cell? ⟨bb, off + i, none⟩ = some (.int .u8 x) := (Below.cell ((Below.refl _ wr).alloc (Nat.le_refl _) _) (p := ⟨bb, off + i, none⟩) (World.block_lt_of_cell? _ _ k0)).trans k0
      refine ⟨hS2, ?_⟩
      try simp only [List.setIfInBounds_toArray, List.set_cons_succ, List.set_cons_zero]
      refine held_call (i := 7) rfl (by kernel_rfl) (by kernel_rfl) ?_
      have hcv := ints_key wr (x.tmod 9) y0 y1
      simp [Oper.wp, execOp, Act.eval, Act.put, go_sem, hcv]
      refine ⟨hS2, ?_⟩
      try simp only [List.setIfInBounds_toArray, List.set_cons_succ, List.set_cons_zero]
      refine held_call (i := 13) rfl (by kernel_rfl) (by kernel_rfl) ?_
      simp [Oper.wp, execOp, Act.eval, Act.put, go_sem]
      refine ((HX.out.on HU (((Below.refl _ wr).alloc (Nat.le_refl _) _).drew)).put HU (by have := HLE.out; omega) _ _).mono ?_
      rintro e w4 ⟨rfl, h4⟩
      have H4 := Lib.hid h4
      have HK4 := Lib.hid (HLN.out.set (u := (x.tmod 9).toNat) (by omega) (x.tdiv 9))
      refine ⟨(h4.bel.cell (p := ⟨bb, _, none⟩) hb).trans ((HX.out.bel.cell (p := ⟨bb, _, none⟩) hb).symm.trans k0), ?_⟩
      clear h4 hS hS2 hcv
      try simp only [List.setIfInBounds_toArray, List.set_cons_succ, List.set_cons_zero]
      refine wpAnyH_done (by kernel_rfl) ?_ 0
      go_wp2
      go_roundw
      case rel => exact ⟨i + 1, setK l1 (kU (x.tmod 9).toNat) (x.tdiv 9), by go_num, by omega, HK4, H4⟩
      case measure => simp [intOf]; omega
    · go_wp2
      obtain ⟨w0, rfl⟩ : ∃ x, x = wr := ⟨_, rfl⟩
      have HK1 := Lib.hid HLN.out
      have HX1 := Lib.hid HX.out
      clear HLN HX hi hlt
      go_loopw [8] (fun iv wr => ∃ (i : Nat) (l2 : List Ku), iv = .int .i64 (i : Int) ∧ i ≤ nb ∧ Hid (Keys9 l2) ∧ Hid (Ui TabSU w v1 v2 l1 l2 wr)) (fun iv _ => nb - (intOf iv).toNat)
      case atStart => exact ⟨0, [], rfl, Nat.zero_le _, Lib.hid (fun c h => by cases h), HX1⟩
      case round =>
        obtain ⟨i, l2, rfl, hi, HLN, HX⟩ := hrel
        by_cases hlt : i < nb
        · have hil : i < b.length := by rw [← HLB.out]; exact hlt
          obtain ⟨hx0, hx1⟩ := HRB.out i hil
          obtain ⟨bb, off, rfl, hb, k0⟩ := (HB.out.below HX.out.bel) i hil
          obtain ⟨x, hx⟩ : ∃ x, b[i]'hil = x := ⟨_, rfl⟩
          rw [hx] at k0 hx0 hx1
          have i1 : (0 : Int) ≤ (i : Int) := by omega
          have i2 : (i : Int) < (nb : Int) := by omega
          have i3 : i + 1 ≤ 9223372036854775807 := by have := HNB.out; unfold limL at this; omega
          clear hx hil
          have HXD := Lib.hid (HX.out.on HU (Below.refl _ wr).drew)
          have HLE := Lib.hid (nine_len (HX.out.rise2 HU) HLN.out)
          have y0 : 0 ≤ x.tmod 9 := Int.tmod_nonneg _ hx0
          have y1 : x.tmod 9 < 9 := Int.tmod_lt_of_pos _ (by decide)
          have y2 : 0 ≤ x.tdiv 9 := Int.tdiv_nonneg hx0 (by decide)
          have y3 : x.tdiv 9 ≤ 255 := by rw [Int.tdiv_eq_ediv_of_nonneg hx0]; omega
          have y4 := wrapU (x.tdiv 9) y2 y3
          go_wp2
          have hS : wr.drew.cell? ⟨bb, off + i, none⟩ = some (.int .u8 x) := k0
          refine held_begin 14 (fun W => W.cell? ⟨bb, off + i, none⟩ = some (.int .u8 x)) rfl (by kernel_rfl) ?_
          refine held_take (i := 0) (t := 51) (v := v2) (fuel := 13) rfl rfl (by kernel_rfl) (by kernel_rfl) (by kernel_rfl) (fun _ _ _ h => h) (.inl ⟨rfl, fun W hW => by have s0 := hW; simp [execOp, Act.eval, go_sem, s0]⟩) hS ?_
          simp only [List.setIfInBounds_toArray, List.set_cons_succ, List.set_cons_zero]
          refine held_take (i := 1) (t := 52) (v := (.slice (some ⟨bb, off, none⟩) nb cb)) (fuel := 12) rfl rfl (by kernel_rfl) (by kernel_rfl) (by kernel_rfl) (fun _ _ _ h => h) (.inl ⟨rfl, fun W hW => by have s0 := hW; simp [execOp, Act.eval, go_sem, s0]⟩) hS ?_
          simp only [List.setIfInBounds_toArray, List.set_cons_succ, List.set_cons_zero]
          refine held_take (i := 2) (t := 53) (v := (.int .i64 (i : Int))) (fuel := 11) rfl rfl (by kernel_rfl) (by kernel_rfl) (by kernel_rfl) (fun _ _ _ h => h) (.inl ⟨rfl, fun W hW => by have s0 := hW; simp [execOp, Act.eval, go_sem, s0]⟩) hS ?_
          simp only [List.setIfInBounds_toArray, List.set_cons_succ, List.set_cons_zero]
          refine held_take (i := 3) (t := 54) (v := (.pointer (some ⟨bb, off + i, none⟩))) (fuel := 10) rfl rfl (by kernel_rfl) (by kernel_rfl) (by kernel_rfl) (fun _ _ _ h => h) (.inl ⟨rfl, fun W hW => by have s0 := hW; simp [execOp, Act.eval, go_sem, s0, i1, i2, hlt]⟩) hS ?_
          simp only [List.setIfInBounds_toArray, List.set_cons_succ, List.set_cons_zero]
          refine held_take (i := 4) (t := 55) (v := (.int .u8 x)) (fuel := 9) rfl rfl (by kernel_rfl) (by kernel_rfl) (by kernel_rfl) (fun _ _ _ h => h) (.inl ⟨rfl, fun W hW => by have s0 := hW; simp [execOp, Act.eval, go_sem, s0]⟩) hS ?_
          simp only [List.setIfInBounds_toArray, List.set_cons_succ, List.set_cons_zero]
          refine held_take (i := 5) (t := 56) (v := (.int .u8 (x.tmod 9))) (fuel := 8) rfl rfl (by kernel_rfl) (by kernel_rfl) (by kernel_rfl) (fun _ _ _ h => h) (.inl ⟨rfl, fun W hW => by have s0 := hW; simp [execOp, Act.eval, go_sem, s0, y0, y1]⟩) hS ?_
          simp only [List.setIfInBounds_toArray, List.set_cons_succ, List.set_cons_zero]
          refine held_take (i := 8) (t := 59) (v := (.slice (some ⟨bb, off, none⟩) nb cb)) (fuel := 7) rfl rfl (by kernel_rfl) (by kernel_rfl) (by kernel_rfl) (fun _ _ _ h => h) (.inl ⟨rfl, fun W hW => by have s0 := hW; simp [execOp, Act.eval, go_sem, s0]⟩) hS ?_
          simp only [List.setIfInBounds_toArray, List.set_cons_succ, List.set_cons_zero]
          refine held_take (i := 9) (t := 60) (v := (.int .i64 (i : Int))) (fuel := 6) rfl rfl (by kernel_rfl) (by kernel_rfl) (by kernel_rfl) (fun _ _ _ h => h) (.inl ⟨rfl, fun W hW => by have s0 := hW; simp [execOp, Act.eval, go_sem, s0]⟩) hS ?_
          simp only [List.setIfInBounds_toArray, List.set_cons_succ, List.set_cons_zero]
          refine held_take (i := 10) (t := 61) (v := (.pointer (some ⟨bb, off + i, none⟩))) (fuel := 5) rfl rfl (by kernel_rfl) (by kernel_rfl) (by kernel_rfl) (fun _ _ _ h => h) (.inl ⟨rfl, fun W hW => by have s0 := hW; simp [execOp, Act.eval, go_sem, s0, i1, i2, hlt]⟩) hS ?_
          simp only [List.setIfInBounds_toArray, List.set_cons_succ, List.set_cons_zero]
          refine held_take (i := 11) (t := 62) (v := (.int .u8 x)) (fuel := 4) rfl rfl (by kernel_rfl) (by kernel_rfl) (by kernel_rfl) (fun _ _ _ h => h) (.inl ⟨rfl, fun W hW => by have s0 := hW; simp [execOp, Act.eval, go_sem, s0]⟩) hS ?_
          simp only [List.setIfInBounds_toArray, List.set_cons_succ, List.set_cons_zero]
          refine held_take (i := 12) (t := 63) (v := (.int .u8 (x.tdiv 9))) (fuel := 3) rfl rfl (by kernel_rfl) (by kernel_rfl) (by kernel_rfl) (fun _ _ _ h => h) (.inl ⟨rfl, fun W hW => by have s0 := hW; simp [execOp, Act.eval, go_sem, s0, y4]⟩) hS ?_
          simp only [List.setIfInBounds_toArray, List.set_cons_succ, List.set_cons_zero]
          refine held_call (i := 6) rfl (by kernel_rfl) (by kernel_rfl) ?_
          simp [Oper.wp, execOp, Act.eval, Act.put, go_sem]
          have hS2 : (wr.alloc (.cells #[.int .u8 (x.tmod 9)] 5)).cell? ⟨bb, off + i, none⟩ = some (.int .u8 x) := (Below.cell ((Below.refl _ wr).alloc (Nat.le_refl _) _) (p := ⟨bb, off + i, none⟩) (World.block_lt_of_cell? _ _ k0)).trans k0
          refine ⟨hS2, ?_⟩
          try simp only [List.setIfInBounds_toArray, List.set_cons_succ, List.set_cons_zero]
          refine held_call (i := 7) rfl (by kernel_rfl) (by kernel_rfl) ?_
          have hcv := ints_key wr (x.tmod 9) y0 y1
          simp [Oper.wp, execOp, Act.eval, Act.put, go_sem, hcv]
          refine ⟨hS2, ?_⟩
          try simp only [List.setIfInBounds_toArray, List.set_cons_succ, List.set_cons_zero]
          refine held_call (i := 13) rfl (by kernel_rfl) (by kernel_rfl) ?_
          simp [Oper.wp, execOp, Act.eval, Act.put, go_sem]
          refine ((HX.out.on HU (((Below.refl _ wr).alloc (Nat.le_refl _) _).drew)).swap.put HU (by have := HLE.out; omega) _ _).mono ?_
          rintro e w4 ⟨rfl, h4⟩
          replace h4 := h4.swap
          have H4 := Lib.hid h4
          have HK4 := Lib.hid (HLN.out.set (u := (x.tmod 9).toNat) (by omega) (x.tdiv 9))
          refine ⟨(h4.bel.cell (p := ⟨bb, _, none⟩) hb).trans ((HX.out.bel.cell (p := ⟨bb, _, none⟩) hb).symm.trans k0), ?_⟩
          clear h4 hS hS2 hcv
          try simp only [List.setIfInBounds_toArray, List.set_cons_succ, List.set_cons_zero]
          refine wpAnyH_done (by kernel_rfl) ?_ 0
          go_wp2
          go_roundw
          case rel => exact ⟨i + 1, setK l2 (kU (x.tmod 9).toNat) (x.tdiv 9), by go_num, by omega, HK4, H4⟩
          case measure => simp [intOf]; omega
        · have HLE1 := Lib.hid (nine_len (HX.out.rise1 HU) HK1.out)
          have HLE2 := Lib.hid (nine_len (HX.out.rise2 HU) HLN.out)
          go_wp2_with (first
            | (go_at_call 30; go_loud (refine (HX.out.diff HU (by have h1 := HLE1.out; have h2 := HLE2.out; omega)).mono ?_; rintro en w5 ⟨A5, c5, rfl, hr5, hb5⟩; have HR5 := Lib.hid hr5; have HX5 := Lib.hid (HX.out.on HU hb5); clear hr5 hb5))
            | (go_at_call 29; go_loud (refine (HX5.out.apply HU (by have h1 := HLE1.out; have h2 := HLE2.out; omega) HR5.out).mono ?_; rintro en w6 ⟨v6, rfl, h6⟩; have HJ6 := Lib.hid h6; clear h6)))
          obtain ⟨w00, rfl⟩ : ∃ x, x = wr := ⟨_, rfl⟩
          clear hi hlt
          go_loopw [10] (fun iv wr => ∃ k : Nat, iv = .int .i64 (k : Int) ∧ k ≤ 9 ∧ Hid (Uj TabSU w v6 v2 l2 wr)) (fun iv _ => 9 - (intOf iv).toNat)
          case atStart => exact ⟨0, rfl, by omega, HJ6⟩
          case round =>
            obtain ⟨k, rfl, hk, HJ⟩ := hrel
            by_cases hlt : k < 9
            · have y0 : (0 : Int) ≤ (k : Int) := by omega
              have y1 : (k : Int) < 9 := by omega
              have y4 := wrapU (k : Int) y0 (by omega)
              have hcv := ints_key2 wr (k : Int) y0 y1
              go_wp2_with (first
                | (have HSEC := HJ7; go_at_call 31; clear HSEC; go_loud (refine ((HJ7.out.on HU ((Below.refl _ w7).alloc (Nat.le_refl _) _)).get2 HU (by have := HLE2.out; omega) _).mono ?_; rintro en w8 ⟨rfl, hb8⟩; have HJ8 := Lib.hid ((HJ7.out.on HU ((Below.refl _ w7).alloc (Nat.le_refl _) _)).on HU hb8); clear hb8 hcv))
                | (go_at_call 31; go_loud (refine ((HJ.out.on HU ((Below.refl _ wr).alloc (Nat.le_refl _) _)).get1 HU (by have := HLE2.out; omega) _).mono ?_; rintro en w7 ⟨rfl, hb7⟩; have HJ7 := Lib.hid ((HJ.out.on HU ((Below.refl _ wr).alloc (Nat.le_refl _) _)).on HU hb7); clear hb7 hcv; have hcv := ints_key2 w7 (k : Int) y0 y1)))
              go_roundw
              case rel => exact ⟨k + 1, by go_num, by omega, HJ8⟩
              case measure => simp [intOf]; omega
            · go_wp2_with (first
                | (have HSEC := HJ7; go_at_call 32; clear HSEC; go_loud (refine (HJ7.out.len2 HU (by have := HLE2.out; omega)).mono ?_; rintro en w8 ⟨rfl, hb8⟩; have HJ8 := Lib.hid (HJ7.out.on HU hb8); clear hb8))
                | (go_at_call 32; go_loud (refine (HJ.out.len1 HU (by have := HLE2.out; omega)).mono ?_; rintro en w7 ⟨rfl, hb7⟩; have HJ7 := Lib.hid (HJ.out.on HU hb7); clear hb7)))
              go_ret
              exact ⟨by simp, HJ8.out.bel⟩
end
end Go.Proofs.Ytmeoednndfgffaa
