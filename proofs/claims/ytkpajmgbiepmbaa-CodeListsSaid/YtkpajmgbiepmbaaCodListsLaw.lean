/- The walk of the law on lists. -/
import Derived.Test.YtkpajmgbiepmbaaCodLists
namespace Go.Proofs.Ytkpajmgbiepmbaa
open Go.ChangeShapes Go.WideShapes Go.ChangeAt Go.RowKit
open Go.Lib (byteCells byteCells_length byteCells_append strCells)
set_option linter.unusedVariables false

def cnt : List ByteArray → Nat
  | [] => 0
  | s :: l => 1 + min s.size 4000 + cnt l
theorem cnt_append : ∀ (a b : List ByteArray), cnt (a ++ b) = cnt a + cnt b
  | [], b => by simp [cnt]
  | s :: a, b => by rw [List.cons_append, cnt, cnt, cnt_append a b]; omega
theorem cnt_next {l : List ByteArray} {k : Nat} (h : k < l.length) : cnt (l.take (k + 1)) = cnt (l.take k) + 1 + min l[k].size 4000 := by
  rw [List.take_succ_eq_append_getElem h, cnt_append]
  simp only [cnt]
  omega
theorem cnt_facts : ∀ (l : List ByteArray), cnt l ≤ 4000 → l.length ≤ cnt l ∧ (∀ s ∈ l, s.size ≤ 3999) ∧ (l.flatMap semi).length = cnt l
  | [], _ => by simp [cnt]
  | s :: l, h => by
    rw [cnt] at h
    obtain ⟨h1, h2, h3⟩ := cnt_facts l (by omega)
    have hs : s.size ≤ 3999 := by omega
    refine ⟨by simp [cnt]; omega, fun t ht => ?_, ?_⟩
    · rcases List.mem_cons.1 ht with rfl | ht
      · exact hs
      · exact h2 t ht
    · rw [List.flatMap_cons, List.length_append, h3, cnt, semi_length]
      omega
theorem PastB.low {r B : Nat} {w w' : World} (h : PastB r B w w') (hr : r ≤ B) : Below r w w' := ⟨h.1, h.2.1, h.2.2.1, h.2.2.2.1, fun k hk => h.2.2.2.2 k (by omega) (by omega)⟩
theorem semi_txt (l : List UInt8) (x : ByteArray) : txt l ++ x ++ ⟨#[59]⟩ = txt (l ++ semi x) := by
  apply str_ext
  simp [txt, semi]

set_option maxRecDepth 4000 in
set_option maxHeartbeats 4000000 in
theorem codelists_walk (l : List ByteArray) (A : Option Addr) (n c : Nat) (w : World) (hn : n = l.length) (hm : n ≤ maxLen) (hsz : ∀ s ∈ l, s.size ≤ maxLen) (hat : RowC sCells 1 w w.heap.size A l) :
    Calls Try.prog 8 #[.slice A n c] w fun e w' => e = .returned (.bool true) ∧ Below w.heap.size w w' := by
  have hmf : ∀ (fn : Fn) (first cap : Array Value) (w : World), (Instr.makeFunc fn first cap).run Try.prog w = .ok (.func fn first cap) w := fun _ _ _ _ => rfl
  have hm2 : n ≤ 9223372036854775807 := by unfold maxLen at hm; omega
  have HN := Lib.hid hn
  have HA := Lib.hid hat
  have HSZ := Lib.hid hsz
  clear hn hat hsz hm
  go_enter Try.func8, Try.ntmps8
  go_wp2_with (go_at_call 9; refine (alive_any _).mono ?_; rintro e w1 ⟨rfl, hb1⟩; have HB1 := Lib.hid hb1; clear hb1)
  go_loop [3, 4] (fun nv iv => ∃ (k q : Nat), k ≤ n ∧ iv = .int .i64 (k : Int) ∧ nv = .int .i64 (q : Int) ∧ q ≤ 4000 ∧ Hid (cnt (l.take k) = q)) (fun _ iv => n - (intOf iv).toNat)
  case atStart => exact ⟨0, 0, Nat.zero_le _, rfl, rfl, by omega, Lib.hid rfl⟩
  case round =>
    obtain ⟨k, q, hk, rfl, rfl, hq, HQ⟩ := hrel
    by_cases hlt : k < n
    · have hkl : k < l.length := by rw [← HN.out]; exact hlt
      obtain ⟨b, off, rfl, hB, hc⟩ := (HA.out.below HB1.out) k hkl
      have c0 := hc 0 _ rfl
      rw [Nat.mul_one, Nat.add_zero] at c0
      obtain ⟨x, hx⟩ : ∃ x, l[k] = x := ⟨_, rfl⟩
      simp only [hx] at c0
      have hxs : x.size ≤ 9223372036854775807 := by have := HSZ.out x (by rw [← hx]; exact List.getElem_mem hkl); unfold maxLen at this; omega
      have HC := Lib.hid (show cnt (l.take (k + 1)) = q + 1 + min x.size 4000 by rw [cnt_next hkl, HQ.out, hx])
      obtain ⟨m, hm4⟩ : ∃ m, min x.size 4000 = m := ⟨_, rfl⟩
      have hmin : (if (4000 : Int) < (x.size : Int) then (4000 : Int) else (x.size : Int)) = (m : Int) := by split <;> omega
      have hml : m ≤ 4000 := by omega
      rw [hm4] at HC
      clear hc hx hm4
      by_cases hbig : 4000 < q + 1 + m
      · go_wp2
        go_ret
        exact ⟨rfl, HB1.out⟩
      · go_wp2
        go_round
        case rel => exact ⟨k + 1, q + 1 + m, by omega, by go_num, by go_num, by omega, HC⟩
        case measure => simp [intOf]; omega
    · have hkn : k = l.length := by rw [← HN.out]; omega
      have hcq : cnt l ≤ 4000 := by have := HQ.out; rw [hkn, List.take_length] at this; omega
      obtain ⟨f1, f2, f3⟩ := cnt_facts l hcq
      have HS2 := Lib.hid (show ∀ s ∈ l, s.size ≤ 4096 from fun s hs => by have := f2 s hs; omega)
      have hn4 : n ≤ 4000 := by rw [HN.out]; omega
      have HT := Lib.hid (show (listL semi l).length ≤ 8192 by
        have := numL_len64 (n := l.length) (by omega)
        unfold listL
        rw [List.length_append, f3]
        omega)
      have HP := Lib.hid (show n < 128 ^ 10 by
        have e : (128 : Nat) ^ 10 = 1180591620717411303424 := by decide
        omega)
      have hW : IntKind.u64.wrap (n : Int) = (n : Int) := u64_in _ (by omega)
      have HAr := Lib.hid (show RowC sCells 1 (w1.alloc (.cells #[.int .i64 0] 3)) w1.heap.size A l from (((HA.out.below HB1.out).more HB1.out.size).below ((Below.refl _ _).alloc (Nat.le_refl _) _)))
      clear hkn hcq f1 f2 f3 HQ hq
      go_wp2_with (first | (go_at_call 34; refine (list_str l A n c w1.heap.size _ HN.out (by omega) (by simp) HAr.out HS2.out (by have := HT.out; omega) (by simp [go_sem]) (by simp [go_sem])).mono ?_; rintro e w2 ⟨A2, n2, c2, rfl, htd⟩; have HTD := Lib.hid htd; clear htd) | (go_at_call 13; refine (rnum_walk 10 n HP.out (by omega) _).mono ?_; rintro e w3 ⟨rfl, hb3⟩; have HB3 := Lib.hid hb3; clear hb3))
      have HBf := Lib.hid (HTD.out.buf.below HB3.out)
      have HCell := Lib.hid (later_cell HB3.out HTD.out.cell)
      have HLow := Lib.hid (show Below w1.heap.size w1 w3 from ((((Below.refl _ w1).alloc (Nat.le_refl _) _).trans (HTD.out.past.low (by simp))).trans (HB3.out.mono (by have := HTD.out.past.2.2.2.1; simp at this; omega))))
      have HA3 := Lib.hid (((HA.out.below HB1.out).more HB1.out.size).below HLow.out)
      go_loop [7, 8] (fun wv iv => ∃ (k : Nat) (T : ByteArray), k ≤ n ∧ iv = .int .i64 (k : Int) ∧ wv = .string T ∧ Hid (T = txt (upTo semi l k))) (fun _ iv => n - (intOf iv).toNat)
      case atStart => exact ⟨0, txt (numL n), Nat.zero_le _, rfl, rfl, Lib.hid (by rw [upTo_zero, HN.out])⟩
      case round =>
        obtain ⟨k, T, hk, rfl, rfl, HTx⟩ := hrel
        have hTs : T.size ≤ 8192 := by
          have h1 := upTo_le (enc := semi) (l := l) k
          have h2 := HT.out
          rw [HTx.out, txt_size]
          omega
        by_cases hlt : k < n
        · have hkl : k < l.length := by rw [← HN.out]; exact hlt
          obtain ⟨b, off, rfl, hB, hc⟩ := HA3.out k hkl
          have c0 := hc 0 _ rfl
          rw [Nat.mul_one, Nat.add_zero] at c0
          obtain ⟨x, hx⟩ : ∃ x, l[k] = x := ⟨_, rfl⟩
          simp only [hx] at c0
          have hxs : x.size ≤ 4096 := HS2.out x (by rw [← hx]; exact List.getElem_mem hkl)
          have HU := Lib.hid (show T ++ x ++ ⟨#[59]⟩ = txt (upTo semi l (k + 1)) by rw [HTx.out, semi_txt, upTo_next hkl, hx])
          clear hc hx
          go_wp2
          go_round
          case rel => exact ⟨k + 1, T ++ x ++ ⟨#[59]⟩, by omega, by go_num, rfl, HU⟩
          case measure => simp [intOf]; omega
        · have hkn : k = l.length := by rw [← HN.out]; omega
          have hcv := string_of_buf HBf.out
          rw [← hkn, ← HTx.out] at hcv
          have hcell := HCell.out
          rw [← HN.out] at hcell
          clear hkn
          go_wp2
          go_ret
          exact ⟨rfl, HB1.out.trans (HLow.out.mono HB1.out.size)⟩
end Go.Proofs.Ytkpajmgbiepmbaa
