/- Layer 14, walked: the document's Of; the examples. -/
import Derived.Test.YtjgbpbjgcniieaaWnF
import Derived.BigQuiet
namespace Go.Proofs.Ytjgbpbjgcniieaa
open Go Go.ChangeShapes Go.WideShapes Go.ChangeAt Go.RowKit
set_option linter.unusedVariables false
set_option linter.unusedSimpArgs false
set_option maxRecDepth 100000 in
set_option maxHeartbeats 4000000 in
theorem rof_any (t size slide : Int) (ht : In64 t) (hz : In64 size) (hs : In64 slide) (w : World) :
    Calls Try.prog 9 #[.int .i64 t, .int .i64 size, .int .i64 slide] w (OfPost t size slide w) := by
  have HR := Lib.hid (fun W => rright_any size slide hz hs W)
  by_cases h0 : winE t size slide = 0
  · obtain ⟨hr, hti⟩ := winE_zero.1 h0
    obtain ⟨r1, r2, r3, r4⟩ := rightW_iff.1 hr
    rw [hr] at HR
    have HN := Lib.hid (show winN t size slide = winJ t size slide + 1 by unfold winN; rw [if_pos h0])
    have HO := Lib.hid (show winO t size slide = winL t size slide by unfold winO; rw [if_neg (by simp [h0])])
    have HE := Lib.hid h0
    unfold isTime at hti
    rw [Bool.and_eq_true, decide_eq_true_eq, decide_eq_true_eq] at hti
    obtain ⟨hti1, hti2⟩ := hti
    have HF := Lib.hid (fun W => reffloor_any t slide ht r1 W)
    have d1 := div_bd (n := t) r1 (by omega) (by omega) (by omega)
    have HS0 := Lib.hid (show wrap64 (t / slide * slide) = sB t slide 0 by unfold sB; rw [IntWalk.wrap64_in _ (by unfold In64 at d1; omega)]; simp)
    have HHAS := Lib.hid (fun (j : Nat) (h : j ≤ winJ t size slide) => sB_has (t := t) r1 r2 h)
    have HNOT := Lib.hid (sB_not (t := t) r1 r2)
    have HNX := Lib.hid (fun (j : Nat) => sB_next t slide j)
    have HLOW := Lib.hid (fun (i j : Nat) (h : j ≤ i) => sB_low (t := t) r1 h)
    have HW := Lib.hid (wsR_all (t := t) (size := size) (slide := slide))
    have HJ64 := Lib.hid (show winJ t size slide < lim64 from winJ_lt hr)
    have hs2 : slide ≤ 72057594037927936 := by omega
    obtain ⟨q, hq⟩ : ∃ q, t / slide = q := ⟨_, rfl⟩
    rw [hq] at HF HS0
    obtain ⟨K, hK⟩ : ∃ K, winJ t size slide = K := ⟨_, rfl⟩
    rw [hK] at HN HHAS HNOT HW HJ64
    clear h0 hr r4 ht hz hs hq hK d1
    go_enter Try.func9, Try.ntmps9
    go_wp2_with (first
      | (go_at_call 11; go_loud (refine (HR.out _).mono ?_; rintro en w1 ⟨rfl, rfl⟩))
      | (go_at_call 16; go_loud (refine (HF.out _).mono ?_; rintro en w1 ⟨rfl, rfl⟩)))
    rw [HS0.out]
    go_loopw [10, 11] (fun lv sv wr => ∃ (j c : Nat) (A : Option Addr), lv = .slice A j c ∧ sv = .int .i64 (sB t slide j) ∧ j ≤ K + 1 ∧ Hid (wr.ownsRow w.heap.size 2 1 (.slice A j c) j ((wsR t slide j).flatMap iC)) ∧ Hid ((wsR t slide j).length = j) ∧ Hid (Below w.heap.size w wr)) (fun _ sv _ => (intOf sv - sB t slide (K + 1)).toNat)
    case atStart => exact ⟨0, 0, none, rfl, rfl, Nat.zero_le _, Lib.hid (World.ownsRow_nil _ _ _ _), Lib.hid rfl, Lib.hid (Below.refl _ _)⟩
    case round =>
      obtain ⟨j, c, A, rfl, rfl, hj, HOW, HLE, HB⟩ := hrel
      by_cases hlt : j ≤ K
      · obtain ⟨h1, h2⟩ := HHAS.out j hlt
        have hn1 := HNX.out j
        have hl1 := HLOW.out (K + 1) (j + 1) (by omega)
        have HN1 := Lib.hid hn1
        obtain ⟨x, hx⟩ : ∃ x, sB t slide j = x := ⟨_, rfl⟩
        have HX := Lib.hid hx
        rw [hx] at h1 h2 hn1 HN1 ⊢
        have hlo : -216172782113783808 ≤ x - slide := by omega
        rw [hn1] at hl1
        clear hx hn1
        go_wp2_with (at_builtin; go_loud ((refine prepend_item rfl _ _ rfl wr x rfl w.heap.size A j c (wsR t slide j) rfl HOW.out HB.out.size HLE.out (by have := HJ64.out; unfold lim64 at this; omega) ?_); intro A2 c2 w3 hown hb; have HOW2 := Lib.hid hown; have HB2 := Lib.hid (HB.out.trans hb); clear hown hb))
        go_roundw
        case rel => exact ⟨j + 1, c2, A2, rfl, by rw [HN1.out], by omega, Lib.hid (by rw [wsR, HX.out]; exact HOW2.out), Lib.hid (by rw [wsR, List.length_cons, HLE.out]), HB2⟩
        case measure => simp [intOf]; omega
      · have hke : j = K + 1 := by omega
        subst hke
        have hno := HNOT.out
        have hl1 := HLOW.out (K + 1) 0 (by omega)
        have hlo : -216172782113783808 ≤ sB t slide (K + 1) := by
          have := HHAS.out K (Nat.le_refl _)
          have := HNX.out K
          omega
        have hhi : sB t slide (K + 1) ≤ 72057594037927936 := by
          have := HHAS.out 0 (Nat.zero_le _)
          omega
        obtain ⟨N, hN⟩ : ∃ N, K + 1 = N := ⟨_, rfl⟩
        rw [hN] at HN HW hj HOW HLE hno hl1 hlo hhi ⊢
        clear hlt hN HHAS HNOT HJ64
        go_wp2
        go_ret2
        have hr := (RowC.own iC_length (by decide) HOW.out).2
        rw [HW.out, ← HO.out] at hr
        exact ⟨A, c, by rw [HN.out, HE.out]; rfl, hr, HB.out⟩
  · have HN := Lib.hid (show winN t size slide = 0 by unfold winN; rw [if_neg h0])
    have HO := Lib.hid (show winO t size slide = [] by unfold winO; rw [if_pos h0])
    by_cases hr : rightW size slide = true
    · rw [hr] at HR
      have hti : ¬ isTime t = true := fun h => h0 (winE_zero.2 ⟨hr, h⟩)
      have HE := Lib.hid (show winE t size slide = 2 by unfold winE; rw [if_neg (by simp [hr]), if_pos (by simpa using hti)])
      unfold In64 at ht
      unfold isTime at hti
      rw [Bool.and_eq_true, decide_eq_true_eq, decide_eq_true_eq] at hti
      clear h0 hr
      by_cases h1 : -72057594037927936 ≤ t
      · have h2 : ¬ t ≤ 72057594037927936 := fun h => hti ⟨h1, h⟩
        clear hti
        go_enter Try.func9, Try.ntmps9
        go_wp2_with (go_at_call 11; go_loud (refine (HR.out _).mono ?_; rintro en w1 ⟨rfl, rfl⟩))
        go_ret2
        exact ⟨none, 0, by rw [HN.out, HE.out]; rfl, by rw [HO.out]; exact RowC.nil _ _ _, Below.refl _ _⟩
      · clear hti
        go_enter Try.func9, Try.ntmps9
        go_wp2_with (go_at_call 11; go_loud (refine (HR.out _).mono ?_; rintro en w1 ⟨rfl, rfl⟩))
        go_ret2
        exact ⟨none, 0, by rw [HN.out, HE.out]; rfl, by rw [HO.out]; exact RowC.nil _ _ _, Below.refl _ _⟩
    · have hr2 : rightW size slide = false := by simpa using hr
      rw [hr2] at HR
      have HE := Lib.hid (show winE t size slide = 140 by unfold winE; rw [if_pos hr2])
      clear h0 hr hr2 ht
      go_enter Try.func9, Try.ntmps9
      go_wp2_with (go_at_call 11; go_loud (refine (HR.out _).mono ?_; rintro en w1 ⟨rfl, rfl⟩))
      go_ret2
      exact ⟨none, 0, by rw [HN.out, HE.out]; rfl, by rw [HO.out]; exact RowC.nil _ _ _, Below.refl _ _⟩
end Go.Proofs.Ytjgbpbjgcniieaa
