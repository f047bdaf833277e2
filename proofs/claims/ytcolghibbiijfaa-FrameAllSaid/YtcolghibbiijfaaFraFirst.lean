/- The walks of frame's own: a word of four bytes, the first frame, the copy of bytes. -/
import Derived.Test.YtcolghibbiijfaaFraCrc
import Derived.Lib.EndianMore
namespace Go.Proofs.Ytcolghibbiijfaa
open Go.ChangeShapes Go.WideShapes Go.ChangeAt Go.RowKit
open Go.Lib (byteCells byteCells_length byteCells_append strCells)
set_option linter.unusedVariables false

/-- The number of the first k bytes. -/
def nbK (l : List UInt8) : Nat → Nat
  | 0 => 0
  | k + 1 => nbK l k * 256 + (l.getD k 0).toNat
theorem nbK_four (l : List UInt8) : nbK l 4 = nb l := by
  simp only [nbK, nb, Nat.zero_mul, Nat.zero_add]; omega
theorem nbK_lt (l : List UInt8) (k : Nat) : nbK l k < 256 ^ k := by
  induction k with
  | zero => simp [nbK]
  | succ k ih =>
    have := (l.getD k 0).toNat_lt
    simp only [nbK, Nat.pow_succ]; omega
theorem or_byte (m x : Nat) (hm : m < 16777216) (hx : x < 256) : bits .or .u32 ((m : Int) * 256) (x : Int) = ((m * 256 + x : Nat) : Int) := by
  rw [show (m : Int) * 256 = ((m * 256 : Nat) : Int) by omega, u32_or_nat _ _ (by omega) (by omega)]
  congr 1
  have := Nat.two_pow_add_eq_or_of_lt (i := 8) (b := x) (by omega) m
  rw [show m * 256 = 2 ^ 8 * m by omega]
  exact this.symm

theorem number_any (l : List UInt8) (len cap : Nat) (hl : len = l.length) (h4 : 4 ≤ len) (hc : len ≤ cap) (hs : cap ≤ maxLen) (B : Nat) (A : Option Addr) (w : World) (hb : BytesAt w B A l) :
    Calls Try.prog 27 #[.slice A len cap] w fun e w' => e = .returned (.int .u32 (nb l)) ∧ w = w' := by
  unfold maxLen at hs
  have HB := Lib.hid hb
  have HL := Lib.hid hl
  clear hb hl
  have h4c : 4 ≤ cap := by omega
  go_enter Try.func27, Try.ntmps27
  go_wp2
  go_loop [3, 9] (fun c i => ∃ k : Nat, k ≤ 4 ∧ i = .int .i64 k ∧ c = .int .u32 (nbK l k)) (fun _ i => 4 - (intOf i).toNat)
  case atStart => exact ⟨0, Nat.zero_le _, rfl, rfl⟩
  case round =>
    obtain ⟨k, hk, rfl, rfl⟩ := hrel
    by_cases hlt : k < 4
    · have hkl : k < l.length := by rw [← HL.out]; omega
      have hm : nbK l k < 16777216 := by
        have := nbK_lt l k
        have h3 : 256 ^ k ≤ 256 ^ 3 := Nat.pow_le_pow_right (by omega) (by omega)
        omega
      have HS := Lib.hid (show nbK l (k + 1) = nbK l k * 256 + l[k].toNat by simp [nbK, List.getD, List.getElem?_eq_getElem hkl])
      obtain ⟨b, off, rfl, _, hcell⟩ := HB.out k hkl
      obtain ⟨x, HX0⟩ : ∃ x, Hid (l[k] = x) := ⟨_, Lib.hid rfl⟩
      rw [HX0.out] at hcell HS
      have hx : x.toNat < 256 := x.toNat_lt
      have HX := Lib.hid (or_byte _ _ hm hx)
      obtain ⟨m, hM⟩ : ∃ m, nbK l k = m := ⟨_, rfl⟩
      rw [hM] at hm HX HS ⊢
      go_wp2
      go_round
      case rel => exact ⟨k + 1, by omega, by go_num, by rw [HS.out, HX.out]⟩
      case measure => simp [intOf]; omega
    · obtain rfl : k = 4 := by omega
      rw [nbK_four]
      go_wp2
      go_ret
      exact ⟨rfl, rfl⟩

theorem BytesAt.drewN {w : World} {B : Nat} {A : Option Addr} {l : List UInt8} (h : BytesAt w B A l) (k : Nat) : BytesAt (w.drewN k) B A l := h
/-- What the search for the first frame leaves. -/
def FstPost (l : List UInt8) (B : Nat) (w : World) (e : Ending) (w' : World) : Prop :=
  (∃ k, w' = w.drewN k) ∧ ((fst l = none ∧ e = .returned (.tuple #[.slice none 0 0, .bool false])) ∨
    ∃ x a c, fst l = some x ∧ e = .returned (.tuple #[.slice (some a) x.length c, .bool true]) ∧ x.length ≤ c ∧ c ≤ maxLen ∧ BytesAt w B (some a) x)
theorem quiet_mine {P : Program} {f : FuncId} {args : Array Value} {w : World} {n : Nat} {v : Value}
    (h : Calls P f args (w.drewN n) fun e w' => e = .returned v ∧ w.drewN n = w') : Calls P f args (w.drewN n) fun e w'' => e = .returned v ∧ ∃ m, w'' = w.drewN m :=
  h.mono fun _ _ ⟨he, hm⟩ => ⟨he, n, hm.symm⟩
theorem quiet_mine2 {P : Program} {f : FuncId} {args : Array Value} {w : World} {k n : Nat} {v : Value}
    (h : Calls P f args (w.drewN (k + n)) fun e w' => e = .returned v ∧ w.drewN (k + n) = w') : Calls P f args (w.drewN (k + n)) fun e w'' => e = .returned v ∧ ∃ m, w'' = w.drewN (k + m) :=
  h.mono fun _ _ ⟨he, hm⟩ => ⟨he, n, hm.symm⟩
theorem first_short (l : List UInt8) (len cap : Nat) (hl : len = l.length) (h8 : len < 8) (B : Nat) (A : Option Addr) (w : World) :
    Calls Try.prog 22 #[.slice A len cap] w (FstPost l B w) := by
  have HF := Lib.hid (fst_none_short (l := l) (by omega))
  clear hl
  go_enter Try.func22, Try.ntmps22
  go_wp2
  go_ret2
  exact ⟨⟨0, rfl⟩, .inl ⟨HF.out, rfl⟩⟩
set_option maxHeartbeats 1000000 in
theorem first_long (l : List UInt8) (len cap : Nat) (hl : len = l.length) (h8 : ¬ len < 8) (hc : len ≤ cap) (hs : cap ≤ maxLen) (B : Nat) (A : Option Addr) (w : World) (hb : BytesAt w B A l) :
    Calls Try.prog 22 #[.slice A len cap] w (FstPost l B w) := by
  obtain ⟨b, off, rfl, hbb, hcc⟩ := hb 0 (by omega)
  clear hbb hcc
  have HB := Lib.hid hb
  have HL := Lib.hid hl
  have HS := Lib.hid hs
  have hcap : cap ≤ 9223372036854775807 := by unfold maxLen at hs; omega
  obtain ⟨n, hn⟩ : ∃ n, nb l = n := ⟨_, rfl⟩
  have HNB := Lib.hid hn
  have hlt : n < 4294967296 := by rw [← hn]; exact nb_lt l
  have h48 : 4 ≤ len := by omega
  have h4c : 4 ≤ cap := by omega
  have h8c : 8 ≤ cap := by omega
  have h8l : 8 ≤ len := by omega
  have HB4 := Lib.hid (show BytesAt w B (some ⟨b, off + 4, none⟩) (l.drop 4) by
    have := hb.drop 4 cap (by omega) (by omega)
    rw [if_neg (by omega)] at this
    simpa [add_at] using this)
  have HT4 := Lib.hid (hb.take 4)
  obtain ⟨A8, hA8⟩ : ∃ A8, A8 = (if cap = 8 then some (⟨b, off, none⟩ : Addr) else some ⟨b, off + 8, none⟩) := ⟨_, rfl⟩
  have HB8 := Lib.hid (show BytesAt w B A8 ((l.drop 8).take n) by
    have := (hb.drop 8 cap (by omega) (by omega)).take n
    rw [hA8]
    by_cases h : cap = 8
    · rw [if_pos h] at this ⊢; exact this
    · rw [if_neg h] at this ⊢; simpa [add_at] using this)
  have HF8 := Lib.hid (show len - 8 < n → fst l = none from fun h => fst_none_far (by omega) (by omega))
  have HLS := Lib.hid (show ¬ len - 8 < n → ((l.drop 8).take n).length = n from fun h => by rw [List.length_take, List.length_drop]; omega)
  have HL4 := Lib.hid (show len - 4 = (l.drop 4).length by rw [List.length_drop]; omega)
  have HT := Lib.hid (show 4 = (l.take 4).length by rw [List.length_take]; omega)
  obtain ⟨S, hS⟩ : ∃ S, moreN 0 (l.take 4 ++ (l.drop 8).take n) = S := ⟨_, rfl⟩
  obtain ⟨T, hT⟩ : ∃ T, nb (l.drop 4) = T := ⟨_, rfl⟩
  have HSS := Lib.hid hS
  have HTT := Lib.hid hT
  have HFN := Lib.hid (show T ≠ S → fst l = none from fun h => fst_none_sum (by rw [hn, hS, hT]; exact h))
  have HFS := Lib.hid (show ¬ len - 8 < n → T = S → fst l = some ((l.drop 8).take n) from fun h1 h2 => by
    have := fst_some (l := l) (by omega) (by omega) (by rw [hn, hS, hT]; exact h2)
    rwa [hn] at this)
  clear hb hl hn hs hS hT
  have hI : decide ((len : Int) < 8) = false := decide_eq_false (by omega)
  have hW : IntKind.u64.wrap ((len - 8 : Nat) : Int) = ((len - 8 : Nat) : Int) := by rw [IntKind.wrap_u64]; omega
  clear h8
  by_cases hcn : cap = 8
  · rw [if_pos hcn] at hA8
    subst hA8
    subst hcn
    obtain rfl : len = 8 := by omega
    go_enter Try.func22, Try.ntmps22
    go_wp2
    go_quiet (first | (go_at_call 27; refine quiet_mine (number_any l 8 8 HL.out h48 hc HS.out B (some ⟨b, off, none⟩) _ (HB.out.drewN _))))
    rw [HNB.out]
    by_cases hf : 8 - 8 < n
    · go_wp2
      go_ret2
      exact ⟨⟨_, rfl⟩, .inl ⟨HF8.out hf, rfl⟩⟩
    · obtain rfl : n = 0 := by omega
      go_wp2
      go_quiet (first | (go_at_call 27; refine quiet_mine2 (number_any (l.drop 4) _ _ HL4.out (by omega) (by omega) (by have := HS.out; omega) B (some ⟨b, off + 4, none⟩) _ (HB4.out.drewN _))) | (go_at_call 19; refine quiet_mine2 (sum_any (l.take 4) ((l.drop 8).take 0) 4 0 HT.out (HLS.out hf).symm (by unfold maxLen; omega) (by have := HS.out; omega) B B (some ⟨b, off, none⟩) (some ⟨b, off, none⟩) 8 0 _ (HT4.out.drewN _) (HB8.out.drewN _))))
      have HSS2 : moreN 0 (l.take 4) = S := by have := HSS.out; simpa using this
      rw [HSS.out, HTT.out]
      try rw [HSS2]
      clear HSS2
      by_cases hts : T = S
      · subst hts
        have HOK := Lib.hid (HFS.out hf rfl)
        go_wp2
        go_ret2
        refine ⟨⟨_, rfl⟩, .inr ⟨_, _, _, HOK.out, by rw [HLS.out hf]; rfl, by rw [HLS.out hf]; exact Nat.zero_le _, by have := HS.out; omega, HB8.out⟩⟩
      · have hne : ((T : Int) != (S : Int)) = true := by rw [bne_iff_ne]; omega
        go_wp2
        go_ret2
        refine ⟨⟨_, by rw [World.drewN_drewN]⟩, .inl ⟨HFN.out hts, rfl⟩⟩
  · rw [if_neg hcn] at hA8
    subst hA8
    have hcn4 : ¬ cap = 4 := by omega
    have hi4 : (4 : Int) ≤ (len : Int) := by omega
    go_enter Try.func22, Try.ntmps22
    go_wp2
    go_quiet (first | (go_at_call 27; refine quiet_mine (number_any l len cap HL.out h48 hc HS.out B (some ⟨b, off, none⟩) _ (HB.out.drewN _))))
    rw [HNB.out]
    by_cases hf : len - 8 < n
    · go_wp2
      go_ret2
      exact ⟨⟨_, rfl⟩, .inl ⟨HF8.out hf, rfl⟩⟩
    · have hnl : n ≤ len - 8 := by omega
      have hnc : n ≤ cap - 8 := by omega
      go_wp2
      go_quiet (first | (go_at_call 27; refine quiet_mine2 (number_any (l.drop 4) _ _ HL4.out (by omega) (by omega) (by have := HS.out; omega) B (some ⟨b, off + 4, none⟩) _ (HB4.out.drewN _))) | (go_at_call 19; refine quiet_mine2 (sum_any (l.take 4) ((l.drop 8).take n) 4 n HT.out (HLS.out hf).symm (by unfold maxLen; omega) (by have := HS.out; omega) B B (some ⟨b, off, none⟩) (some ⟨b, off + 8, none⟩) cap (cap - 8) _ (HT4.out.drewN _) (HB8.out.drewN _))))
      rw [HSS.out, HTT.out]
      by_cases hts : T = S
      · subst hts
        have HOK := Lib.hid (HFS.out hf rfl)
        go_wp2
        go_ret2
        refine ⟨⟨_, rfl⟩, .inr ⟨_, _, _, HOK.out, by rw [HLS.out hf]; rfl, by rw [HLS.out hf]; exact hnc, by have := HS.out; omega, HB8.out⟩⟩
      · have hne : ((T : Int) != (S : Int)) = true := by rw [bne_iff_ne]; omega
        go_wp2
        go_ret2
        refine ⟨⟨_, by rw [World.drewN_drewN]⟩, .inl ⟨HFN.out hts, rfl⟩⟩
theorem first_any (l : List UInt8) (len cap : Nat) (hl : len = l.length) (hc : len ≤ cap) (hs : cap ≤ maxLen) (B : Nat) (A : Option Addr) (w : World) (hb : BytesAt w B A l) :
    Calls Try.prog 22 #[.slice A len cap] w (FstPost l B w) := by
  by_cases h8 : len < 8
  · exact first_short l len cap hl h8 B A w
  · exact first_long l len cap hl h8 hc hs B A w hb

theorem FstPost.none_ {l : List UInt8} {B : Nat} {w w' : World} {e : Ending} (h : FstPost l B w e w') (hf : fst l = none) : ∃ k, w' = w.drewN k ∧ e = .returned (.tuple #[.slice none 0 0, .bool false]) := by
  obtain ⟨⟨k, hk⟩, (⟨_, h⟩ | ⟨y, a, c, h, _⟩)⟩ := h
  · exact ⟨k, hk, h⟩
  · rw [hf] at h; cases h
theorem FstPost.some_ {l x : List UInt8} {B : Nat} {w w' : World} {e : Ending} (h : FstPost l B w e w') (hf : fst l = some x) : ∃ k a c, w' = w.drewN k ∧ e = .returned (.tuple #[.slice (some a) x.length c, .bool true]) ∧ x.length ≤ c ∧ c ≤ maxLen ∧ BytesAt w B (some a) x := by
  obtain ⟨⟨k, hk⟩, (⟨h, _⟩ | ⟨y, a, c, h, h2⟩)⟩ := h
  · rw [hf] at h; cases h
  · rw [hf] at h; injection h with h; subst h
    exact ⟨k, a, c, hk, h2⟩
theorem BytesAt.none_ {w : World} {B : Nat} {l : List UInt8} (h : BytesAt w B none l) : l = [] := by
  cases l with
  | nil => rfl
  | cons v l => obtain ⟨b, off, e, _⟩ := h 0 (by simp); cases e
theorem BytesAt.some_ {w : World} {B : Nat} {a : Addr} {l : List UInt8} (h : BytesAt w B (some a) l) : ∀ j u, (byteCells l)[j]? = some u → w.cell? (a.add j) = some u := by
  intro j u hu
  have hj : j < l.length := by rw [← byteCells_length l]; exact (List.getElem?_eq_some_iff.1 hu).1
  obtain ⟨b, off, e, _, hc⟩ := h j hj
  injection e with e
  subst e
  simp only [byteCells, List.getElem?_map, List.getElem?_eq_getElem hj, Option.map_some, Option.some.injEq] at hu
  rw [add_at, hc, ← hu]

/-- Bytes in new memory, or none at all. -/
def ClonePost (l : List UInt8) (w : World) (e : Ending) (w' : World) : Prop :=
  ∃ A c, e = .returned (.slice A l.length c) ∧ Buf w.heap.size A l.length c l w' ∧ Below w.heap.size w w'
set_option maxHeartbeats 1000000 in
theorem clone_any (l : List UInt8) (len c : Nat) (A : Option Addr) (w : World) (hl : len = l.length) (hm : len ≤ 1099511627776) (B : Nat) (hB : B ≤ w.heap.size) (hr : BytesAt w B A l) :
    Calls Try.prog 23 #[.slice A len c] w (ClonePost l w) := by
  replace hr := hr.more hB
  cases A with
  | none =>
    obtain rfl : l = [] := hr.none_
    obtain rfl : len = 0 := hl
    clear hr
    have hnil : ∀ W, (binOp .eql 23 (.slice none 0 c) (.slice none 0 0)).run Try.prog W = .ok (.bool true) W := fun W => Lib.run_eql_slice_nil_nil W _ _ Try.underlying23
    go_enter Try.func23, Try.ntmps23
    go_wp2
    go_ret
    exact ⟨none, 0, rfl, Buf.nil _ _ (Nat.le_refl _), Below.refl _ _⟩
  | some a =>
    have HL := Lib.hid hl
    have HR := Lib.hid hr
    clear hr hl
    obtain ⟨i0, hi, hz0, hz1, hz2⟩ := info_parts infoByte
    have HI := Lib.hid hi
    have HZ0 := Lib.hid hz0
    have HZ1 := Lib.hid hz1
    have HZ2 := Lib.hid hz2
    clear hi hz0 hz1 hz2
    have hnil : ∀ W, (binOp .eql 23 (.slice (some a) len c) (.slice none 0 0)).run Try.prog W = .ok (.bool false) W := fun W => Lib.run_eql_slice_some_nil W _ _ _ Try.underlying23
    go_enter Try.func23, Try.ntmps23
    go_wp2_with (at_builtin; go_loud (refine wpList_append_own_at _ rfl _ _ 23 rfl w.heap.size 5 i0 _ 1 1 Try.underlying23 HI.out HZ0.out HZ1.out HZ2.out rfl (by decide) _ 0 [] rfl (World.ownsRow_made w #[] 0 (Nat.le_refl _) (by decide) rfl) a len c (byteCells l) rfl (by rw [byteCells_length, HL.out, Nat.mul_one]) ((HR.out.below ((Below.refl _ w).alloc (Nat.le_refl _) _)).some_) (byte_one _) (by unfold maxLen; omega) (by omega) (by simp) ?_); intro v1 w1 hown hg _ _; have HO := Lib.hid hown; have HG := Lib.hid hg; clear hown hg)
    go_ret
    have hn := HL.out
    subst hn
    obtain ⟨A', c', rfl⟩ := own_slice HO.out
    have hbel := ((Below.refl _ w).alloc (Nat.le_refl _) (.cells #[] 5)).grown HG.out (by simp) (fun k e => by cases e; exact Nat.le_refl _)
    refine ⟨A', c', by simp, ⟨rfl, hbel.size, by simpa using HO.out⟩, hbel⟩
end Go.Proofs.Ytcolghibbiijfaa
