/- What a seat needs of several texts. -/
import Derived.Test.YtkcnmajjfljilaaGreatDoorFraB
import Derived.Lib.EndianMore
import Derived.Test.YtkcnmajjfljilaaGreatDoorFsClone
import Derived.Laws.MakeOwn
/- From FraFA. -/
namespace Go.Proofs.YtkcnmajjfljilaaGreatDoor
open Go.ChangeShapes Go.WideShapes Go.ChangeAt Go.RowKit
open Go.Lib (byteCells byteCells_length byteCells_append strCells)
set_option linter.unusedVariables false
/-- The number of the first k bytes. -/
def nbK (l : List UInt8) : Nat → Nat
  | 0 => 0
  | k + 1 => nbK l k * 256 + (l.getD k 0).toNat
theorem nbK_four (l : List UInt8) : nbK l 4 = nb l := by
  simp only [nbK, nb, Nat.zero_mul, Nat.zero_add]; omega
theorem nbK_lt (l : List UInt8) (k : Nat) : nbK l k < 256 ^ k := by
  induction k with
  | zero => simp [nbK]
  | succ k ih =>
    have := (l.getD k 0).toNat_lt
    simp only [nbK, Nat.pow_succ]; omega
theorem or_byte (m x : Nat) (hm : m < 16777216) (hx : x < 256) : bits .or .u32 ((m : Int) * 256) (x : Int) = ((m * 256 + x : Nat) : Int) := by
  rw [show (m : Int) * 256 = ((m * 256 : Nat) : Int) by omega, u32_or_nat _ _ (by omega) (by omega)]
  congr 1
  have := Nat.two_pow_add_eq_or_of_lt (i := 8) (b := x) (by omega) m
  rw [show m * 256 = 2 ^ 8 * m by omega]
  exact this.symm
theorem number_any (l : List UInt8) (len cap : Nat) (hl : len = l.length) (h4 : 4 ≤ len) (hc : len ≤ cap) (hs : cap ≤ maxLen) (B : Nat) (A : Option Addr) (w : World) (hb : BytesAt w B A l) :
    Calls Tryz.prog 190 #[.slice A len cap] w fun e w' => e = .returned (.int .u32 (nb l)) ∧ w = w' := by
  unfold maxLen at hs
  have HB := Lib.hid hb
  have HL := Lib.hid hl
  clear hb hl
  have h4c : 4 ≤ cap := by omega
  go_enter Tryz.func190, Tryz.ntmps190
  go_wp2
  go_loop [3, 9] (fun c i => ∃ k : Nat, k ≤ 4 ∧ i = .int .i64 k ∧ c = .int .u32 (nbK l k)) (fun _ i => 4 - (intOf i).toNat)
  case atStart => exact ⟨0, Nat.zero_le _, rfl, rfl⟩
  case round =>
    obtain ⟨k, hk, rfl, rfl⟩ := hrel
    by_cases hlt : k < 4
    · have hkl : k < l.length := by rw [← HL.out]; omega
      have hm : nbK l k < 16777216 := by
        have := nbK_lt l k
        have h3 : 256 ^ k ≤ 256 ^ 3 := Nat.pow_le_pow_right (by omega) (by omega)
        omega
      have HS := Lib.hid (show nbK l (k + 1) = nbK l k * 256 + l[k].toNat by simp [nbK, List.getD, List.getElem?_eq_getElem hkl])
      obtain ⟨b, off, rfl, _, hcell⟩ := HB.out k hkl
      obtain ⟨x, HX0⟩ : ∃ x, Hid (l[k] = x) := ⟨_, Lib.hid rfl⟩
      rw [HX0.out] at hcell HS
      have hx : x.toNat < 256 := x.toNat_lt
      have HX := Lib.hid (or_byte _ _ hm hx)
      obtain ⟨m, hM⟩ : ∃ m, nbK l k = m := ⟨_, rfl⟩
      rw [hM] at hm HX HS ⊢
      go_wp2
      go_round
      case rel => exact ⟨k + 1, by omega, by go_num, by rw [HS.out, HX.out]⟩
      case measure => simp [intOf]; omega
    · obtain rfl : k = 4 := by omega
      rw [nbK_four]
      go_wp2
      go_ret
      exact ⟨rfl, rfl⟩
theorem BytesAt.drewN {w : World} {B : Nat} {A : Option Addr} {l : List UInt8} (h : BytesAt w B A l) (k : Nat) : BytesAt (w.drewN k) B A l := h
/-- What the search for the first frame leaves. -/
def FstPost (l : List UInt8) (B : Nat) (w : World) (e : Ending) (w' : World) : Prop :=
  (∃ k, w' = w.drewN k) ∧ ((fst l = none ∧ e = .returned (.tuple #[.slice none 0 0, .bool false])) ∨
    ∃ x a c, fst l = some x ∧ e = .returned (.tuple #[.slice (some a) x.length c, .bool true]) ∧ x.length ≤ c ∧ c ≤ maxLen ∧ BytesAt w B (some a) x)
theorem quiet_mine {P : Program} {f : FuncId} {args : Array Value} {w : World} {n : Nat} {v : Value}
    (h : Calls P f args (w.drewN n) fun e w' => e = .returned v ∧ w.drewN n = w') : Calls P f args (w.drewN n) fun e w'' => e = .returned v ∧ ∃ m, w'' = w.drewN m :=
  h.mono fun _ _ ⟨he, hm⟩ => ⟨he, n, hm.symm⟩
theorem quiet_mine2 {P : Program} {f : FuncId} {args : Array Value} {w : World} {k n : Nat} {v : Value}
    (h : Calls P f args (w.drewN (k + n)) fun e w' => e = .returned v ∧ w.drewN (k + n) = w') : Calls P f args (w.drewN (k + n)) fun e w'' => e = .returned v ∧ ∃ m, w'' = w.drewN (k + m) :=
  h.mono fun _ _ ⟨he, hm⟩ => ⟨he, n, hm.symm⟩
theorem first_short (l : List UInt8) (len cap : Nat) (hl : len = l.length) (h8 : len < 8) (B : Nat) (A : Option Addr) (w : World) :
    Calls Tryz.prog 160 #[.slice A len cap] w (FstPost l B w) := by
  have HF := Lib.hid (fst_none_short (l := l) (by omega))
  clear hl
  go_enter Tryz.func160, Tryz.ntmps160
  go_wp2
  go_ret2
  exact ⟨⟨0, rfl⟩, .inl ⟨HF.out, rfl⟩⟩
set_option maxHeartbeats 1000000 in
theorem first_long (l : List UInt8) (len cap : Nat) (hl : len = l.length) (h8 : ¬ len < 8) (hc : len ≤ cap) (hs : cap ≤ maxLen) (B : Nat) (A : Option Addr) (w : World) (hb : BytesAt w B A l) :
    Calls Tryz.prog 160 #[.slice A len cap] w (FstPost l B w) := by
  obtain ⟨b, off, rfl, hbb, hcc⟩ := hb 0 (by omega)
  clear hbb hcc
  have HB := Lib.hid hb
  have HL := Lib.hid hl
  have HS := Lib.hid hs
  have hcap : cap ≤ 9223372036854775807 := by unfold maxLen at hs; omega
  obtain ⟨n, hn⟩ : ∃ n, nb l = n := ⟨_, rfl⟩
  have HNB := Lib.hid hn
  have hlt : n < 4294967296 := by rw [← hn]; exact nb_lt l
  have h48 : 4 ≤ len := by omega
  have h4c : 4 ≤ cap := by omega
  have h8c : 8 ≤ cap := by omega
  have h8l : 8 ≤ len := by omega
  have HB4 := Lib.hid (show BytesAt w B (some ⟨b, off + 4, none⟩) (l.drop 4) by
    have := hb.drop 4 cap (by omega) (by omega)
    rw [if_neg (by omega)] at this
    simpa [add_at] using this)
  have HT4 := Lib.hid (hb.take 4)
  obtain ⟨A8, hA8⟩ : ∃ A8, A8 = (if cap = 8 then some (⟨b, off, none⟩ : Addr) else some ⟨b, off + 8, none⟩) := ⟨_, rfl⟩
  have HB8 := Lib.hid (show BytesAt w B A8 ((l.drop 8).take n) by
    have := (hb.drop 8 cap (by omega) (by omega)).take n
    rw [hA8]
    by_cases h : cap = 8
    · rw [if_pos h] at this ⊢; exact this
    · rw [if_neg h] at this ⊢; simpa [add_at] using this)
  have HF8 := Lib.hid (show len - 8 < n → fst l = none from fun h => fst_none_far (by omega) (by omega))
  have HLS := Lib.hid (show ¬ len - 8 < n → ((l.drop 8).take n).length = n from fun h => by rw [List.length_take, List.length_drop]; omega)
  have HL4 := Lib.hid (show len - 4 = (l.drop 4).length by rw [List.length_drop]; omega)
  have HT := Lib.hid (show 4 = (l.take 4).length by rw [List.length_take]; omega)
  obtain ⟨S, hS⟩ : ∃ S, moreN 0 (l.take 4 ++ (l.drop 8).take n) = S := ⟨_, rfl⟩
  obtain ⟨T, hT⟩ : ∃ T, nb (l.drop 4) = T := ⟨_, rfl⟩
  have HSS := Lib.hid hS
  have HTT := Lib.hid hT
  have HFN := Lib.hid (show T ≠ S → fst l = none from fun h => fst_none_sum (by rw [hn, hS, hT]; exact h))
  have HFS := Lib.hid (show ¬ len - 8 < n → T = S → fst l = some ((l.drop 8).take n) from fun h1 h2 => by
    have := fst_some (l := l) (by omega) (by omega) (by rw [hn, hS, hT]; exact h2)
    rwa [hn] at this)
  clear hb hl hn hs hS hT
  have hI : decide ((len : Int) < 8) = false := decide_eq_false (by omega)
  have hW : IntKind.u64.wrap ((len - 8 : Nat) : Int) = ((len - 8 : Nat) : Int) := by rw [IntKind.wrap_u64]; omega
  clear h8
  by_cases hcn : cap = 8
  · rw [if_pos hcn] at hA8
    subst hA8
    subst hcn
    obtain rfl : len = 8 := by omega
    go_enter Tryz.func160, Tryz.ntmps160
    go_wp2
    go_quiet (first | (go_at_call 190; refine quiet_mine (number_any l 8 8 HL.out h48 hc HS.out B (some ⟨b, off, none⟩) _ (HB.out.drewN _))))
    rw [HNB.out]
    by_cases hf : 8 - 8 < n
    · go_wp2
      go_ret2
      exact ⟨⟨_, rfl⟩, .inl ⟨HF8.out hf, rfl⟩⟩
    · obtain rfl : n = 0 := by omega
      go_wp2
      go_quiet (first | (go_at_call 190; refine quiet_mine2 (number_any (l.drop 4) _ _ HL4.out (by omega) (by omega) (by have := HS.out; omega) B (some ⟨b, off + 4, none⟩) _ (HB4.out.drewN _))) | (go_at_call 66; refine quiet_mine2 (sum_any (l.take 4) ((l.drop 8).take 0) 4 0 HT.out (HLS.out hf).symm (by unfold maxLen; omega) (by have := HS.out; omega) B B (some ⟨b, off, none⟩) (some ⟨b, off, none⟩) 8 0 _ (HT4.out.drewN _) (HB8.out.drewN _))))
      have HSS2 : moreN 0 (l.take 4) = S := by have := HSS.out; simpa using this
      rw [HSS.out, HTT.out]
      try rw [HSS2]
      clear HSS2
      by_cases hts : T = S
      · subst hts
        have HOK := Lib.hid (HFS.out hf rfl)
        go_wp2
        go_ret2
        refine ⟨⟨_, rfl⟩, .inr ⟨_, _, _, HOK.out, by rw [HLS.out hf]; rfl, by rw [HLS.out hf]; exact Nat.zero_le _, by have := HS.out; omega, HB8.out⟩⟩
      · have hne : ((T : Int) != (S : Int)) = true := by rw [bne_iff_ne]; omega
        go_wp2
        go_ret2
        refine ⟨⟨_, by rw [World.drewN_drewN]⟩, .inl ⟨HFN.out hts, rfl⟩⟩
  · rw [if_neg hcn] at hA8
    subst hA8
    have hcn4 : ¬ cap = 4 := by omega
    have hi4 : (4 : Int) ≤ (len : Int) := by omega
    go_enter Tryz.func160, Tryz.ntmps160
    go_wp2
    go_quiet (first | (go_at_call 190; refine quiet_mine (number_any l len cap HL.out h48 hc HS.out B (some ⟨b, off, none⟩) _ (HB.out.drewN _))))
    rw [HNB.out]
    by_cases hf : len - 8 < n
    · go_wp2
      go_ret2
      exact ⟨⟨_, rfl⟩, .inl ⟨HF8.out hf, rfl⟩⟩
    · have hnl : n ≤ len - 8 := by omega
      have hnc : n ≤ cap - 8 := by omega
      go_wp2
      go_quiet (first | (go_at_call 190; refine quiet_mine2 (number_any (l.drop 4) _ _ HL4.out (by omega) (by omega) (by have := HS.out; omega) B (some ⟨b, off + 4, none⟩) _ (HB4.out.drewN _))) | (go_at_call 66; refine quiet_mine2 (sum_any (l.take 4) ((l.drop 8).take n) 4 n HT.out (HLS.out hf).symm (by unfold maxLen; omega) (by have := HS.out; omega) B B (some ⟨b, off, none⟩) (some ⟨b, off + 8, none⟩) cap (cap - 8) _ (HT4.out.drewN _) (HB8.out.drewN _))))
      rw [HSS.out, HTT.out]
      by_cases hts : T = S
      · subst hts
        have HOK := Lib.hid (HFS.out hf rfl)
        go_wp2
        go_ret2
        refine ⟨⟨_, rfl⟩, .inr ⟨_, _, _, HOK.out, by rw [HLS.out hf]; rfl, by rw [HLS.out hf]; exact hnc, by have := HS.out; omega, HB8.out⟩⟩
      · have hne : ((T : Int) != (S : Int)) = true := by rw [bne_iff_ne]; omega
        go_wp2
        go_ret2
        refine ⟨⟨_, by rw [World.drewN_drewN]⟩, .inl ⟨HFN.out hts, rfl⟩⟩
theorem first_any (l : List UInt8) (len cap : Nat) (hl : len = l.length) (hc : len ≤ cap) (hs : cap ≤ maxLen) (B : Nat) (A : Option Addr) (w : World) (hb : BytesAt w B A l) :
    Calls Tryz.prog 160 #[.slice A len cap] w (FstPost l B w) := by
  by_cases h8 : len < 8
  · exact first_short l len cap hl h8 B A w
  · exact first_long l len cap hl h8 hc hs B A w hb
theorem FstPost.none_ {l : List UInt8} {B : Nat} {w w' : World} {e : Ending} (h : FstPost l B w e w') (hf : fst l = none) : ∃ k, w' = w.drewN k ∧ e = .returned (.tuple #[.slice none 0 0, .bool false]) := by
  obtain ⟨⟨k, hk⟩, (⟨_, h⟩ | ⟨y, a, c, h, _⟩)⟩ := h
  · exact ⟨k, hk, h⟩
  · rw [hf] at h; cases h
theorem FstPost.some_ {l x : List UInt8} {B : Nat} {w w' : World} {e : Ending} (h : FstPost l B w e w') (hf : fst l = some x) : ∃ k a c, w' = w.drewN k ∧ e = .returned (.tuple #[.slice (some a) x.length c, .bool true]) ∧ x.length ≤ c ∧ c ≤ maxLen ∧ BytesAt w B (some a) x := by
  obtain ⟨⟨k, hk⟩, (⟨h, _⟩ | ⟨y, a, c, h, h2⟩)⟩ := h
  · rw [hf] at h; cases h
  · rw [hf] at h; injection h with h; subst h
    exact ⟨k, a, c, hk, h2⟩
end Go.Proofs.YtkcnmajjfljilaaGreatDoor
namespace Go.Proofs.YtkcnmajjfljilaaGreatDoor
open Go.ChangeShapes Go.WideShapes Go.ChangeAt Go.RowKit
open Go.Lib (byteCells byteCells_length byteCells_append strCells)
set_option linter.unusedVariables false
theorem be4_cells (n : Nat) (h : n < 4294967296) : [Value.int .u8 ((n : Int) / 16777216), .int .u8 ((n : Int) / 65536 % 256), .int .u8 ((n : Int) / 256 % 256), .int .u8 ((n : Int) % 256)] = byteCells (be4 n) := by
  simp only [byteCells, be4, List.map_cons, List.map_nil, u8n, List.cons.injEq, Value.int.injEq, true_and, and_true]
  omega
/-- What is put behind bytes of the call's own. -/
def OntoPost (B : Nat) (bs : List UInt8) (w : World) (e : Ending) (w' : World) : Prop :=
  ∃ A n c, e = .returned (.slice A n c) ∧ Buf B A n c bs w' ∧ Keep B w w'
set_option maxHeartbeats 1000000 in
theorem with_any (n : Nat) (hn : n < 4294967296) (bs : List UInt8) (B : Nat) (A : Option Addr) (len c : Nat) (w : World) (hl : bs.length ≤ 1099511627770) (hb : Buf B A len c bs w) :
    Calls Tryz.prog 65 #[.slice A len c, .int .u32 (n : Int)] w (OntoPost B (bs ++ be4 n) w) := by
  have HB := Lib.hid hb
  have HC := Lib.hid (be4_cells n hn)
  clear hb
  go_enter Tryz.func65, Tryz.ntmps65
  go_wp2_with (at_builtin; go_loud (refine append_bytes rfl _ _ rfl B _ _ _ bs rfl w (be4 n) 4 HB.out w.heap.size rfl rfl rfl _ (HC.out) (by rw [be4_length]; omega) ?_); intro A1 n1 c1 w1 hn1 hb1 hk1; have HB1 := Lib.hid hb1; have HK1 := Lib.hid hk1; clear hb1 hk1 hn1)
  go_ret
  exact ⟨_, _, _, rfl, HB1.out, HK1.out⟩
theorem Buf.keepBytes {w w' : World} {B : Nat} {A : Option Addr} {l : List UInt8} (h : BytesAt w B A l) (hk : Keep B w w') : BytesAt w' B A l := h.below hk.below
set_option maxHeartbeats 2000000 in
theorem pack_any (l : List UInt8) (len c : Nat) (a : Addr) (w : World) (hl : len = l.length) (hm : len ≤ 16777208) (hr : BytesAt w w.heap.size (some a) l) :
    Calls Tryz.prog 42 #[.slice (some a) len c] w fun e w' => ∃ A n c', e = .returned (.tuple #[.slice A n c', .int .i64 0]) ∧ Buf w.heap.size A n c' (fr l) w' ∧ Below w.heap.size w w' := by
  obtain ⟨i0, hi, hz0, hz1, hz2⟩ := info_parts infoByte
  obtain ⟨M, hM⟩ : ∃ M, M = madeCells (Value.int .u8 0).cells ((8 + len) * i0.size) := ⟨_, rfl⟩
  have hMs : M.size = 8 + len := by rw [hM, size_madeCells, hz1, Nat.mul_one]
  have hmk : ∀ W : World, (Instr.makeSlice 30 (.int .i64 0) (.int .i64 (8 + (len : Int)))).run Tryz.prog W = .ok (.slice (some ⟨W.heap.size, 0, none⟩) 0 (8 + len)) (W.alloc (.cells M 5)) := fun W => by
    have h := run_make (P := Tryz.prog) W 30 5 i0 (.int .u8 0) Tryz.underlying30 hi hz0 .i64 .i64 0 (8 + (len : Int)) (by omega) (by omega) (by rw [hz2]; omega) (by omega)
    rw [show (8 + (len : Int)).toNat = 8 + len by omega, ← hM] at h
    simpa using h
  have HI := Lib.hid hi
  have HZ0 := Lib.hid hz0
  have HZ1 := Lib.hid hz1
  have HZ2 := Lib.hid hz2
  have HM := Lib.hid hMs
  have HL := Lib.hid hl
  have HR := Lib.hid hr
  have HB0 := Lib.hid (show Buf w.heap.size (some ⟨w.heap.size, 0, none⟩) 0 (8 + len) [] (w.alloc (.cells M 5)) from
    ⟨rfl, by simp, World.ownsRow_made w M (8 + len) (Nat.le_refl _) (by unfold maxLen; omega) (by rw [hMs, Nat.mul_one])⟩)
  have HK0 := Lib.hid ((Keep.refl w.heap.size w).alloc (Nat.le_refl _) (.cells M 5))
  obtain ⟨S, hS⟩ : ∃ S, moreN 0 (be4 len ++ l) = S := ⟨_, rfl⟩
  have hSl : S < 4294967296 := by rw [← hS]; exact moreN_lt _ _
  have HS := Lib.hid hS
  have HFR := Lib.hid (show fr l = ([] ++ be4 len ++ be4 S) ++ l by unfold fr; rw [← hl, hS]; simp)
  clear hi hz0 hz1 hz2 hM hMs hl hr hS
  have hd : decide ((16777208 : Int) < (len : Int)) = false := decide_eq_false (by omega)
  have hn32 : len < 4294967296 := by omega
  go_enter Tryz.func42, Tryz.ntmps42
  go_wp2_with (first
    | (go_at_call 66; go_loud (refine (sum_any ([] ++ be4 len) l _ len HB1.out.1 HL.out (by have := HB1.out.1; simp [be4_length] at this; unfold maxLen; omega) (by unfold maxLen; omega) _ w.heap.size _ (some a) _ c _ HB1.out.bytes (HR.out.below HK1.out.below)).mono ?_); rw [List.nil_append, HS.out]; rintro e w' ⟨rfl, rfl⟩)
    | (go_at_call 65; have HT := HB1; refine (with_any S hSl ([] ++ be4 len) w.heap.size _ _ _ _ (by simp [be4_length]) HB1.out).mono ?_; rintro e w2 ⟨A2, n2, c2, rfl, hb2, hk2⟩; have HB2 := Lib.hid hb2; have HK2 := Lib.hid (HK1.out.trans hk2); clear hb2 hk2)
    | (go_at_call 65; refine (with_any len hn32 [] w.heap.size _ _ _ _ (by simp) HB0.out).mono ?_; rintro e w1 ⟨A1, n1, c1, rfl, hb1, hk1⟩; have HB1 := Lib.hid hb1; have HK1 := Lib.hid (HK0.out.trans hk1); clear hb1 hk1)
    | (at_builtin; go_loud (refine wpList_append_own_at _ rfl _ _ 30 rfl w.heap.size 5 i0 _ 1 1 Tryz.underlying30 HI.out HZ0.out HZ1.out HZ2.out rfl (by decide) _ n2 (byteCells ([] ++ be4 len ++ be4 S)) rfl HB2.out.2.2 a len c (byteCells l) rfl (by rw [byteCells_length, HL.out, Nat.mul_one]) ((HR.out.below HK2.out.below).some_) (byte_one _) (by have := HB2.out.1; simp [be4_length] at this; unfold maxLen; omega) (by have := HB2.out.1; simp [be4_length] at this; omega) HB2.out.2.1 ?_); intro v3 w3 hown hg _ _; have HO := Lib.hid hown; have HG := Lib.hid (Keep.grown HB2.out hg); clear hown hg))
  go_ret2
  obtain ⟨A3, c3, rfl⟩ := own_slice HO.out
  have hbel := HK2.out.trans HG.out
  refine ⟨A3, n2 + len, c3, rfl, ⟨?_, hbel.size, ?_⟩, hbel.below⟩
  · rw [HFR.out, List.length_append, ← HB2.out.1, HL.out]
  · rw [HFR.out, byteCells_append]; exact HO.out
/-- What One answers. -/
def OnePost (l : List UInt8) (w : World) (e : Ending) (w' : World) : Prop :=
  Below w.heap.size w w' ∧ ((∃ x A c, fst l = some x ∧ 8 + x.length = l.length ∧ e = .returned (.tuple #[.slice A x.length c, .int .i64 0]) ∧ Buf w.heap.size A x.length c x w') ∨
    ((∀ x, fst l = some x → 8 + x.length ≠ l.length) ∧ e = .returned (.tuple #[.slice none 0 0, .int .i64 52])))
theorem OnePost.some_ {l x : List UInt8} {w w' : World} {e : Ending} (h : OnePost l w e w') (hf : fst l = some x) (h8 : 8 + x.length = l.length) : ∃ A c, e = .returned (.tuple #[.slice A x.length c, .int .i64 0]) ∧ Buf w.heap.size A x.length c x w' ∧ Below w.heap.size w w' := by
  obtain ⟨hb, (⟨y, A, c, h1, _, h2, h3⟩ | ⟨h1, _⟩)⟩ := h
  · rw [hf] at h1; injection h1 with h1; subst h1
    exact ⟨A, c, h2, h3, hb⟩
  · exact absurd h8 (h1 x hf)
theorem OnePost.none_ {l : List UInt8} {w w' : World} {e : Ending} (h : OnePost l w e w') (hf : ∀ x, fst l = some x → 8 + x.length ≠ l.length) : e = .returned (.tuple #[.slice none 0 0, .int .i64 52]) ∧ Below w.heap.size w w' := by
  obtain ⟨hb, (⟨y, A, c, h1, h8, _⟩ | ⟨_, h2⟩)⟩ := h
  · exact absurd h8 (hf y h1)
  · exact ⟨h2, hb⟩
end Go.Proofs.YtkcnmajjfljilaaGreatDoor
