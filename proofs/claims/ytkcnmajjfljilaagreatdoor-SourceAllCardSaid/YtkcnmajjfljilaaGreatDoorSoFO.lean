/- Several texts in one: SoOpen, SoF. -/
import Derived.Test.YtkcnmajjfljilaaGreatDoorOpen
import Derived.Test.YtkcnmajjfljilaaGreatDoorSoXN
/- source: arguments that are slices of numbers. -/
namespace Go.Proofs.YtkcnmajjfljilaaGreatDoor
open Go Go.ChangeShapes Go.WideShapes Go.Deep Go.RowKit Go.Joins
set_option linter.unusedVariables false
def kC (k : IntKind) (x : Int) : List Value := [.int k x]
theorem kC_length (k : IntKind) (x : Int) : (kC k x).length = 1 := rfl
section
variable {H : Type} {enc : TypeId × Value → H} {w : World} {base : Nat} {spare : Nat → Bool} {held : Bool}
theorem trod_i {m : Nat} {cs : List Value} {x : DataW H × List MemPlace} (h : DataW.trod enc Tryz.prog w base spare held m 2 cs = some x) : ∃ a : Int, (-9223372036854775808 ≤ a ∧ a ≤ 9223372036854775807) ∧ cs = iC a := by
  obtain ⟨k, e0, _, w0⟩ := DataW.trod_int Tryz.underlying2 h
  exact ⟨k, by simpa [Lit.wf, IntKind.min, IntKind.max, IntKind.signed, IntKind.bits] using w0, e0⟩
theorem trod_i32 {m : Nat} {cs : List Value} {x : DataW H × List MemPlace} (h : DataW.trod enc Tryz.prog w base spare held m 21 cs = some x) : ∃ a : Int, (-2147483648 ≤ a ∧ a ≤ 2147483647) ∧ cs = kC .i32 a := by
  obtain ⟨k, e0, _, w0⟩ := DataW.trod_int Tryz.underlying21 h
  exact ⟨k, by simpa [Lit.wf, IntKind.min, IntKind.max, IntKind.signed, IntKind.bits] using w0, e0⟩
theorem trod_u16 {m : Nat} {cs : List Value} {x : DataW H × List MemPlace} (h : DataW.trod enc Tryz.prog w base spare held m 45 cs = some x) : ∃ a : Int, (0 ≤ a ∧ a ≤ 65535) ∧ cs = kC .u16 a := by
  obtain ⟨k, e0, _, w0⟩ := DataW.trod_int Tryz.underlying45 h
  exact ⟨k, by simpa [Lit.wf, IntKind.min, IntKind.max, IntKind.signed, IntKind.bits] using w0, e0⟩
theorem trod_u8 {m : Nat} {cs : List Value} {x : DataW H × List MemPlace} (h : DataW.trod enc Tryz.prog w base spare held m 5 cs = some x) : ∃ a : Int, (0 ≤ a ∧ a ≤ 255) ∧ cs = kC .u8 a := by
  obtain ⟨k, e0, _, w0⟩ := DataW.trod_int Tryz.underlying5 h
  exact ⟨k, by simpa [Lit.wf, IntKind.min, IntKind.max, IntKind.signed, IntKind.bits] using w0, e0⟩
end
end Go.Proofs.YtkcnmajjfljilaaGreatDoor

/- source: the walk of SourceFair. -/
namespace Go.Proofs.YtkcnmajjfljilaaGreatDoor
open Go Go.ChangeShapes Go.WideShapes Go.ChangeAt Go.RowKit Go.ChangeMaps Go.MapKept
set_option linter.unusedVariables false
set_option linter.unusedSimpArgs false

theorem posS_take {xs : List Int} {k : Nat} (hk : k < xs.length) : posS (xs.take (k + 1)) = posS (xs.take k) + max xs[k] 0 := by
  unfold posS
  rw [List.take_add_one, List.getElem?_eq_getElem hk, Option.toList_some, List.map_append, List.sum_append]
  simp only [List.map_cons, List.map_nil, List.sum_cons, List.sum_nil, Int.add_zero]
theorem posS_in {C : Int} (hC : 0 ≤ C) : ∀ {xs : List Int}, (∀ x ∈ xs, x ≤ C) → 0 ≤ posS xs ∧ posS xs ≤ C * (xs.length : Int)
  | [], _ => by simp [posS]
  | a :: t, h => by
    rw [posS_cons, List.length_cons]
    have h1 := posS_in hC (xs := t) (fun x hx => h x (List.mem_cons_of_mem _ hx))
    have h2 := h a (List.mem_cons_self ..)
    have : C * ((t.length + 1 : Nat) : Int) = C * (t.length : Int) + C := by rw [Int.natCast_add, Int.mul_add]; simp
    omega
theorem sum_take {L : List Int} {k : Nat} (hk : k < L.length) : (L.take (k + 1)).sum = (L.take k).sum + L[k] := by
  rw [List.take_add_one, List.getElem?_eq_getElem hk, Option.toList_some, List.sum_append]
  simp only [List.sum_cons, List.sum_nil, Int.add_zero]
theorem sum_in {C : Int} (hC : 0 ≤ C) : ∀ {xs : List Int}, (∀ x ∈ xs, 0 ≤ x ∧ x ≤ C) → 0 ≤ xs.sum ∧ xs.sum ≤ C * (xs.length : Int)
  | [], _ => by simp
  | a :: t, h => by
    rw [List.sum_cons, List.length_cons]
    have h1 := sum_in hC (xs := t) (fun x hx => h x (List.mem_cons_of_mem _ hx))
    have h2 := h a (List.mem_cons_self ..)
    have : C * ((t.length + 1 : Nat) : Int) = C * (t.length : Int) + C := by rw [Int.natCast_add, Int.mul_add]; simp
    omega
/-- What Fair asks of what is dealt. -/
structure Fairs (xs L : List Int) (most : Int) : Prop where
  len : L.length = xs.length
  in_ : ∀ i (h : i < xs.length) (h2 : i < L.length), 0 ≤ L[i] ∧ L[i] ≤ max xs[i] 0
  two : ∀ i k (h : i < xs.length) (h2 : i < L.length) (hk : k < i), L[i] < xs[i] → L[k] < xs[k] → L[i] ≤ L[k] ∧ L[k] ≤ L[i] + 1
  sum : L.sum = min (posS xs) (max most 0)
theorem fairs (xs : List Int) (most : Int) : Fairs xs (dealL xs (rW xs most) (rM xs most)) most := by
  have hf := rfit xs most
  refine ⟨dealL_length _ _ _, fun i h h2 => deal_in hf h (List.getElem?_eq_getElem h2), fun i k h h2 hk => ?_, hf.sum⟩
  exact (deal_fair hf h hk (List.getElem?_eq_getElem h2) (List.getElem?_eq_getElem (by omega))).2.2
theorem kC_r {k : IntKind} {w : World} {B : Nat} {A : Option Addr} {xs : List Int} (h : RowC (kC k) 1 w B A xs) (j : Nat) (hj : j < xs.length) : ∃ b off, A = some ⟨b, off, none⟩ ∧ b < B ∧ w.cell? ⟨b, off + j, none⟩ = some (.int k xs[j]) := by
  obtain ⟨b, off, h1, h2, h3⟩ := h j hj
  refine ⟨b, off, h1, h2, ?_⟩
  have := h3 0 _ rfl
  simpa using this
set_option maxHeartbeats 16000000 in
set_option maxRecDepth 100000 in
theorem sfair_so (xs : List Int) (hin : ∀ x ∈ xs, -2147483648 ≤ x ∧ x ≤ 2147483647) (A : Option Addr) (c : Nat) (hmax : xs.length ≤ 9223372036854775807) (most : Int) (hm : -9223372036854775808 ≤ most ∧ most ≤ 9223372036854775807) (w : World) (hA : RowC (kC .i32) 1 w w.heap.size A xs) (hT : Tab w.heap.size w) :
    Calls Tryz.prog 4 #[.slice A xs.length c, .int .i64 most] w fun e w' => e = .returned (.bool true) ∧ Below w.heap.size w w' := by
  have HA := Lib.hid (alive_so w hT)
  clear hT
  by_cases e2 : 40 < xs.length
  · have d2 : decide ((40 : Int) < (xs.length : Int)) = true := decide_eq_true (by omega)
    clear hin hA e2
    go_enter Tryz.func4, Tryz.ntmps4
    go_wp2_with (go_at_call 7; refine HA.out.mono ?_; rintro e w1 ⟨rfl, h1⟩; have HB1 := Lib.hid h1; clear h1)
    go_ret
    exact ⟨rfl, HB1.out⟩
  have d2 : decide ((40 : Int) < (xs.length : Int)) = false := decide_eq_false (by omega)
  have hx40 : xs.length ≤ 40 := by omega
  have HDL := Lib.hid (fun A2 c2 W (h : RowC iC 1 W W.heap.size A2 xs) => deal_i xs (fun x hx => by have := hin x hx; omega) (by omega) c2 A2 most hm.2 W h)
  have HFA := Lib.hid (fairs xs most)
  obtain ⟨L, hL⟩ : ∃ L, dealL xs (rW xs most) (rM xs most) = L := ⟨_, rfl⟩
  have HL := Lib.hid hL
  rw [hL] at HFA
  have HIN := Lib.hid hin
  have HROW := Lib.hid hA
  have HPIN := Lib.hid (fun k => posS_in (C := 2147483647) (by decide) (xs := xs.take k) (fun x hx => (hin x (List.mem_of_mem_take hx)).2))
  have hlen := HFA.out.len
  have HSIN := Lib.hid (fun k => sum_in (C := 2147483647) (by decide) (xs := L.take k) (fun x hx => by
    obtain ⟨i, hi, rfl⟩ := List.getElem_of_mem (List.mem_of_mem_take hx)
    have h1 := HFA.out.in_ i (by omega) hi
    have h2 := hin _ (List.getElem_mem (show i < xs.length by omega))
    omega))
  have HLEN := Lib.hid hlen
  clear hin hA hL e2 hlen
  go_enter Tryz.func4, Tryz.ntmps4
  go_wp2_with (go_at_call 7; refine HA.out.mono ?_; rintro e w1 ⟨rfl, h1⟩; have HB1 := Lib.hid h1; clear h1)
  go_loopw [5, 6, 7] (fun lv av iv wr => ∃ (k : Nat) (A2 : Option Addr) (c2 : Nat), lv = .slice A2 k c2 ∧ av = .int .i64 (posS (xs.take k)) ∧ iv = .int .i64 (k : Int) ∧ k ≤ xs.length ∧ Hid (wr.ownsRow w1.heap.size 3 1 (.slice A2 k c2) k ((xs.take k).flatMap iC)) ∧ Hid (Below w1.heap.size w1 wr)) (fun _ _ iv _ => xs.length - (intOf iv).toNat)
  case atStart => exact ⟨0, none, 0, rfl, by simp [posS], rfl, Nat.zero_le _, Lib.hid (World.ownsRow_nil _ _ _ 1), Lib.hid (Below.refl _ _)⟩
  case round =>
    obtain ⟨k, A2, c2, rfl, rfl, rfl, hk, HO, HB⟩ := hrel
    by_cases hlt : k < xs.length
    · have hbw := HB1.out.trans (HB.out.mono HB1.out.size)
      obtain ⟨b, off, rfl, hb, hcell⟩ := kC_r (HROW.out.below hbw) k hlt
      have hx1 := HIN.out _ (List.getElem_mem hlt)
      have HP := Lib.hid (posS_take hlt)
      have HT := Lib.hid (show xs.take (k + 1) = xs.take k ++ [xs[k]] by rw [List.take_add_one, List.getElem?_eq_getElem hlt]; rfl)
      have hp := HPIN.out k
      rw [List.length_take] at hp
      obtain ⟨x, hx⟩ : ∃ x, xs[k] = x := ⟨_, rfl⟩
      rw [hx] at hcell hx1 HP HT
      obtain ⟨S, hS⟩ : ∃ S, posS (xs.take k) = S := ⟨_, rfl⟩
      rw [hS] at HP hp ⊢
      have hSb : 0 ≤ S ∧ S ≤ 2147483647 * 40 := by omega
      have s1 : IntKind.i64.wrap (S + max x 0) = S + max x 0 := wrap_id (by omega)
      have s2 : IntKind.i64.wrap x = x := wrap_id (by omega)
      have hlt2 : (k : Int) < (xs.length : Int) := by omega
      have hbb : b < w1.heap.size := Nat.lt_of_lt_of_le hb HB1.out.size
      clear hbw hx hS hp
      go_wp2_with (at_builtin; go_loud (refine append_item Tryz.underlying27 info_i rfl (by decide) iC_length iC_one rfl _ _ rfl w1.heap.size A2 k c2 (xs.take k) rfl wr x HO.out HB.out.size wr.heap.size rfl rfl (by omega) (by unfold maxLen; omega) _ rfl ?_; rintro A5 n5 c5 w7 rfl hown hb7 hg7; have HO7 := Lib.hid hown; have HB7 := Lib.hid (HB.out.trans hb7); have hc7 := (hb7.cell (p := ⟨b, off + k, none⟩) hbb).trans hcell; clear hown hb7 hg7))
      go_roundw
      case rel => exact ⟨k + 1, A5, c5, rfl, by rw [HP.out], by go_num, hlt, Lib.hid (by rw [HT.out]; exact HO7.out), HB7⟩
      case measure => simp [intOf]; omega
    · obtain rfl : k = xs.length := by omega
      have hlt2 : ¬ (xs.length : Int) < (xs.length : Int) := by omega
      have ho := HO.out
      rw [List.take_length] at ho ⊢
      have HR2 := Lib.hid (RowC.iown ho).2
      have HPI := Lib.hid (by have := HPIN.out xs.length; rwa [List.take_length] at this : 0 ≤ posS xs ∧ posS xs ≤ 2147483647 * (xs.length : Int))
      obtain ⟨P, hP⟩ : ∃ P, posS xs = P := ⟨_, rfl⟩
      have HSUM := Lib.hid (show L.sum = min P (max most 0) by rw [HFA.out.sum, hP])
      rw [hP] at HPI ⊢
      clear ho hP
      go_wp2_with (go_at_call 10; go_loud (refine (HDL.out A2 c2 wr HR2.out).mono ?_; rintro e w2 ⟨D, rfl, _, h2, h3⟩; rw [HL.out] at h2; have HC2 := Lib.hid h2; have HB2 := Lib.hid (HB1.out.trans ((HB.out.trans (h3.mono HB.out.size)).mono HB1.out.size)); have HR3 := Lib.hid ((HR2.out.below h3).more h3.size); clear h2 h3))
      go_loopw [9, 10] (fun sv iv wr => ∃ (k : Nat), sv = .int .i64 (L.take k).sum ∧ iv = .int .i64 (k : Int) ∧ k ≤ xs.length ∧ Hid (Below w2.heap.size w2 wr)) (fun _ iv _ => xs.length - (intOf iv).toNat)
      case atStart => exact ⟨0, by simp, rfl, Nat.zero_le _, Lib.hid (Below.refl _ _)⟩
      case round =>
        obtain ⟨k, rfl, rfl, hk, HBk⟩ := hrel
        by_cases hlt : k < xs.length
        · have hkl : k < L.length := by rw [HLEN.out]; exact hlt
          obtain ⟨b, off, hA2, hb, hcell⟩ := ints_r (HR3.out.below HBk.out) k hlt
          have c1 : wr.cell? ⟨D, k, none⟩ = some (.int .i64 L[k]) := (show Cells wr D (iA L) 3 from (HBk.out.block D HC2.out.lt).trans HC2.out).iat hkl
          have hi := HFA.out.in_ k hlt hkl
          have HTWO := Lib.hid (fun j (hj : j < k) => HFA.out.two k j hlt hkl hj)
          have HS1 := Lib.hid (sum_take hkl)
          have hs := HSIN.out k
          rw [List.length_take] at hs
          have hx1 := HIN.out _ (List.getElem_mem hlt)
          obtain ⟨x, hx⟩ : ∃ x, xs[k] = x := ⟨_, rfl⟩
          obtain ⟨y, hy⟩ : ∃ y, L[k] = y := ⟨_, rfl⟩
          obtain ⟨T, hT⟩ : ∃ T, (L.take k).sum = T := ⟨_, rfl⟩
          rw [hx] at hcell hi hx1 HTWO
          rw [hy] at c1 hi HS1 HTWO
          rw [hT] at HS1 hs ⊢
          have HX := Lib.hid (fun (h : k < xs.length) => hx)
          have HY := Lib.hid (fun (h : k < L.length) => hy)
          have e1 : ¬ y < 0 := by omega
          have e2 : ¬ max x 0 < y := by omega
          have hTb : 0 ≤ T ∧ T ≤ 2147483647 * 40 := by omega
          have s1 : IntKind.i64.wrap (T + y) = T + y := wrap_id (by omega)
          have hlt2 : (k : Int) < (xs.length : Int) := by omega
          have hyb : y ≤ 2147483647 := by omega
          clear hx hy hT hs hi
          subst hA2
          go_wp2_with fail
          go_quiet (fail)
          go_wp2_with fail
          obtain ⟨w0, rfl⟩ : ∃ w0, w0 = wr := ⟨_, rfl⟩
          go_loopw [11] (fun jv wr => ∃ (j : Nat), jv = .int .i64 (j : Int) ∧ j ≤ k ∧ Hid (Below w2.heap.size w2 wr)) (fun jv _ => k - (intOf jv).toNat)
          case atStart => exact ⟨0, rfl, Nat.zero_le _, Lib.hid (below_more HBk.out _)⟩
          case round =>
            obtain ⟨j, rfl, hj, HBj⟩ := hrel
            by_cases hjk : j < k
            · have hjl : j < L.length := by rw [HLEN.out]; omega
              have hjx : j < xs.length := by omega
              have hkl : k < L.length := by rw [HLEN.out]; omega
              have hck := (show Cells wr D (iA L) 3 from (HBj.out.block D HC2.out.lt).trans HC2.out)
              obtain ⟨b2, off2, hA2, hb2, hk1⟩ := ints_r (HR3.out.below HBj.out) k hlt
              obtain ⟨b3, off3, hA3, hb3, hk2⟩ := ints_r (HR3.out.below HBj.out) j hjx
              obtain ⟨rfl, rfl⟩ : b2 = b ∧ off2 = off := by injection hA2 with h; injection h with h1 h2; exact ⟨h1.symm, h2.symm⟩
              obtain ⟨rfl, rfl⟩ : b3 = b2 ∧ off3 = off2 := by injection hA3 with h; injection h with h1 h2; exact ⟨h1.symm, h2.symm⟩
              have g1 := hck.iat hkl
              have g2 := hck.iat hjl
              have h2 := HTWO.out j hjk
              have hxe := HX.out hlt
              have hye := HY.out hkl
              rw [hxe] at hk1
              rw [hye] at g1
              obtain ⟨z, hz⟩ : ∃ z, L[j] = z := ⟨_, rfl⟩
              obtain ⟨v, hv⟩ : ∃ z, xs[j] = z := ⟨_, rfl⟩
              rw [hv] at hk2
              rw [hz] at g2
              rw [hz, hv] at h2
              have hjk2 : (j : Int) < (k : Int) := by omega
              have hjx2 : (j : Int) < (xs.length : Int) := by omega
              have s5 : IntKind.i64.wrap (y + 1) = y + 1 := wrap_id (by omega)
              clear hz hv hxe hye hck hA2 hA3
              by_cases f1 : y < x
              · by_cases f2 : z < v
                · obtain ⟨f3, f4⟩ := h2 f1 f2
                  have q1 : decide (y < x) = true := decide_eq_true f1
                  have q2 : decide (z < v) = true := decide_eq_true f2
                  have q3 : decide (z < y) = false := decide_eq_false (by omega)
                  have q4 : decide (y + 1 < z) = false := decide_eq_false (by omega)
                  clear h2 f3 f4
                  go_wp2_with fail
                  go_quiet (fail)
                  go_wp2_with fail
                  go_roundw
                  case rel => exact ⟨j + 1, by go_num, hjk, Lib.hid (below_more HBj.out _)⟩
                  case measure => simp [intOf]; omega
                · have q1 : decide (y < x) = true := decide_eq_true f1
                  have q2 : decide (z < v) = false := decide_eq_false f2
                  clear h2
                  go_wp2_with fail
                  go_quiet (fail)
                  go_wp2_with fail
                  go_roundw
                  case rel => exact ⟨j + 1, by go_num, hjk, Lib.hid (below_more HBj.out _)⟩
                  case measure => simp [intOf]; omega
              · have q1 : decide (y < x) = false := decide_eq_false f1
                clear h2
                go_wp2_with fail
                go_quiet (fail)
                go_wp2_with fail
                go_roundw
                case rel => exact ⟨j + 1, by go_num, hjk, Lib.hid (below_more HBj.out _)⟩
                case measure => simp [intOf]; omega
            · obtain rfl : j = k := by omega
              have hjk2 : ¬ (j : Int) < (j : Int) := by omega
              go_wp2_with fail
              go_roundw
              case rel => exact ⟨j + 1, by rw [HS1.out], by go_num, hlt, HBj⟩
              case measure => simp [intOf]; omega
        · obtain rfl : k = xs.length := by omega
          have hlt2 : ¬ (xs.length : Int) < (xs.length : Int) := by omega
          have hts : (L.take xs.length).sum = L.sum := by rw [← HLEN.out, List.take_length]
          rw [hts]
          have hs := HSUM.out
          obtain ⟨T, hT⟩ : ∃ T, L.sum = T := ⟨_, rfl⟩
          rw [hT] at hs ⊢
          have q1 : (T == min P (max most 0)) = true := by rw [hs]; simp
          have q2 : decide (T = min P (max most 0)) = true := decide_eq_true hs
          clear hts hT hs
          go_wp2_with fail
          go_ret
          exact ⟨rfl, HB2.out.trans (HBk.out.mono HB2.out.size)⟩
end Go.Proofs.YtkcnmajjfljilaaGreatDoor
