/- The walk of the document's own key of a row. -/
import Derived.Test.YtnginemabkecmaaDoorValWith
namespace Go.Proofs.YtnginemabkecmaaDoor
open Go.ChangeShapes Go.WideShapes Go.ChangeAt Go.RowKit
open Go.Lib (byteCells byteCells_length byteCells_append strCells)
set_option linter.unusedVariables false

theorem plus_top (x : Int) (h : in64 x) : IntKind.u64.wrap (IntKind.u64.wrap x + 9223372036854775808) = ((x + 9223372036854775808).toNat : Int) := by
  unfold in64 at h
  rw [IntKind.wrap_u64, IntKind.wrap_u64]
  omega
theorem byte_back (N i : Nat) (hi : i < 8) : [Value.int .u8 ((N : Int) / 2 ^ (56 - 8 * i) % 256)] = byteCells [UInt8.ofNat (N / 256 ^ (7 - i) % 256)] := by
  rw [show 56 - 8 * i = 8 * (7 - i) by omega]
  exact byte_eq N (7 - i)

/-- The row so far: what is there is the key of the values so far; nothing else has turned. -/
def Keyed (B : Nat) (w : World) (bs : List UInt8) (A : Option Addr) (n c : Nat) (wr : World) : Prop := Buf B A n c bs wr ∧ Keep B w wr

theorem esc_take (s : ByteArray) (k : Nat) (h : k < s.size) : esc (s.data.toList.take (k + 1)) = esc (s.data.toList.take k) ++ (if s[k] = 0 then [0, 255] else [s[k]]) := by
  have e : ∀ (a : List UInt8) (c : UInt8), esc (a ++ [c]) = esc a ++ (if c = 0 then [0, 255] else [c]) := by
    intro a c
    induction a with
    | nil =>
      by_cases hc : c = 0
      · subst hc; rfl
      · simp [esc, hc]
    | cons d a ih =>
      by_cases hd : d = 0
      · subst hd; simp [esc, ih]
      · simp [esc, hd, ih]
  have := List.take_succ_eq_append_getElem (l := s.data.toList) (i := k) (by simpa using h)
  rw [this]
  exact e _ _

set_option maxHeartbeats 4000000 in
set_option maxRecDepth 100000 in
theorem rkey_walk (l : List V) (hw : ∀ v ∈ l, v.wf) (ha : allB l = true) (len c : Nat) (A : Option Addr) (w : World) (hl : len = l.length) (hm : len ≤ 12) (hr : Row3 w w.heap.size A l) :
    Calls Tryd.prog 24 #[.slice A len c] w fun e w' => e = .returned (.string (txt (keyL l))) ∧ Below w.heap.size w w' := by
  have HL := Lib.hid hl
  have HR := Lib.hid hr
  have HW := Lib.hid hw
  have HA := Lib.hid ha
  clear hl hr hw ha
  go_enter Tryd.func24, Tryd.ntmps24
  go_wp2
  go_loopw [3, 4] (fun sv i wr => ∃ (k : Nat) (A' : Option Addr) (n' c' : Nat), k ≤ len ∧ i = .int .i64 k ∧ sv = .slice A' n' c' ∧ Hid (Keyed w.heap.size w (keyL (l.take k)) A' n' c' wr)) (fun _ i _ => len - (intOf i).toNat)
  case atStart =>
    refine ⟨0, _, _, _, Nat.zero_le _, rfl, rfl, Lib.hid ⟨⟨rfl, by simp, ?_⟩, (Keep.refl _ _).alloc (Nat.le_refl _) _⟩⟩
    exact World.ownsRow_made w #[] 0 (Nat.le_refl _) (by decide) rfl
  case round =>
    obtain ⟨k, A', n', c', hk, rfl, rfl, HK⟩ := hrel
    have hbel := HK.out.2.below
    have hsz := HK.out.2.size
    by_cases hlt : k < len
    · have hkl : k < l.length := by rw [← HL.out]; exact hlt
      obtain ⟨b, off, rfl, hB, c0, c1, c2⟩ := (HR.out.below hbel) k hkl
      obtain ⟨v, HV⟩ : ∃ v, Hid (l[k] = v) := ⟨_, Lib.hid rfl⟩
      rw [HV.out] at c0 c1 c2
      have hwv : v.wf := HW.out v (by rw [← HV.out]; exact List.getElem_mem hkl)
      have hcv : chk v = 0 := by
        have := HA.out
        unfold allB at this
        rw [List.all_eq_true] at this
        have h2 := this l[k] (List.getElem_mem hkl)
        rw [HV.out] at h2
        simpa using h2
      have HS := Lib.hid (show keyL (l.take (k + 1)) = keyL (l.take k) ++ keyV v by rw [List.take_succ_eq_append_getElem hkl, keyL_snoc, HV.out])
      have hbl : (keyL (l.take k)).length ≤ 403 * 12 := by
        have h1 : allB (l.take k) = true := by
          have := HA.out
          unfold allB at this ⊢
          rw [List.all_eq_true] at this ⊢
          exact fun x hx => this x (List.mem_of_mem_take hx)
        have h2 := keyL_length h1
        rw [List.length_take] at h2
        have h3 : min k l.length ≤ 12 := by omega
        have h4 : 403 * min k l.length ≤ 403 * 12 := Nat.mul_le_mul_left _ h3
        omega
      obtain ⟨bs, hbs⟩ : ∃ bs, keyL (l.take k) = bs := ⟨_, rfl⟩
      rw [hbs] at HK HS hbl
      clear hbs
      obtain ⟨vk, x, s⟩ := v
      dsimp only at c0 c1 c2
      have q1 : b < wr.heap.size := by omega
      rcases chk_kinds hcv with h | h | h | h <;> dsimp only at h
      · obtain ⟨rfl, rfl, hs0⟩ := h
        obtain rfl := empty_of_size hs0
        go_wp2_with (at_builtin; go_loud (refine append_bytes rfl _ _ rfl w.heap.size A' n' c' bs rfl _ [1] 1 (HK.out.1.alloc _) _ rfl (by simp) rfl [.int .u8 1] rfl (by simp; omega) ?_); intro A1 n1 c3 w1 hn1 hb1 hk1; have H1 := Lib.hid hb1; have K1 := Lib.hid ((HK.out.2.alloc hsz _).trans hk1); have X := (Box.new wr ⟨0, 0, ⟨#[]⟩⟩).keep hk1; have x0 := X.k; have x1 := X.n; have x2 := X.s; clear hb1 hk1 X; subst hn1)
        go_roundw
        case rel => exact ⟨k + 1, A1, _, c3, by omega, by go_num, rfl, Lib.hid ⟨by rw [HS.out]; exact H1.out, K1.out⟩⟩
        case measure => simp [intOf]; omega
      · obtain ⟨rfl, hs0⟩ := h
        obtain rfl := empty_of_size hs0
        have HN := plus_top x hwv.2.1
        have hxi := hwv.2.1
        simp only [in64] at hxi
        generalize hN : (x + 9223372036854775808).toNat = N at HN
        have HNN := Lib.hid hN
        have hN2 : N < 18446744073709551616 := by omega
        clear hN
        go_wp2_with (at_builtin; go_loud (refine append_bytes rfl _ _ rfl w.heap.size A' n' c' bs rfl _ [2] 1 (HK.out.1.alloc _) _ rfl (by simp) rfl [.int .u8 2] rfl (by simp; omega) ?_); intro A1 n1 c3 w1 hn1 hb1 hk1; have H1 := Lib.hid hb1; have K1 := Lib.hid ((HK.out.2.alloc hsz _).trans hk1); have X := (Box.new wr ⟨1, x, ⟨#[]⟩⟩).keep hk1; have HX := Lib.hid X; have x0 := X.k; have x1 := X.n; have x2 := X.s; clear hb1 hk1 X; subst hn1)
        clear HN HK
        go_loopw [3, 7] (fun v3 v7 wr2 => ∃ (i : Nat) (A2 : Option Addr) (n2 c4 : Nat), i ≤ 8 ∧ v7 = .int .i64 (i : Int) ∧ v3 = .slice A2 n2 c4 ∧ Hid (Numbered w.heap.size w N (bs ++ [2] ++ be N 8) (8 - i) A2 n2 c4 wr2)) (fun _ v7 _ => 8 - (intOf v7).toNat)
        case atStart => exact ⟨0, A1, _, c3, by omega, rfl, rfl, Lib.hid ⟨_, H1.out, K1.out, rfl⟩⟩
        case round =>
          obtain ⟨i, A2, n2, c4, hi, rfl, rfl, HR2⟩ := hrel
          by_cases hi8 : i < 8
          · obtain ⟨L, hL1, hL2, hL3⟩ := HR2.out
            have hLl : L.length ≤ 403 * 12 + 9 := by have := num_short hL3; simp [be_length] at this; omega
            have HL1 := Lib.hid hL1
            have HL2 := Lib.hid hL2
            have HL3 := Lib.hid (show L ++ be N ((7 - i) + 1) = bs ++ [2] ++ be N 8 by rw [show 7 - i + 1 = 8 - i by omega]; exact hL3)
            clear hL1 hL2 hL3 HR2
            go_wp2_with (at_builtin; go_loud (refine append_bytes rfl _ _ rfl w.heap.size A2 n2 c4 L rfl _ [UInt8.ofNat (N / 256 ^ (7 - i) % 256)] 1 HL1.out _ rfl (by simp) rfl [_] (byte_back N i hi8) (by simp; omega) ?_); intro A3 n3 c5 w2 hn3 hb3 hk3; have H2 := Lib.hid (Numbered.next hb3 hk3 HL2.out HL3.out); clear hb3 hk3; subst hn3)
            go_roundw
            case rel => exact ⟨i + 1, A3, _, c5, by omega, by go_num, rfl, by rw [show 8 - (i + 1) = 7 - i by omega]; exact H2⟩
            case measure => simp [intOf]; omega
          · obtain rfl : i = 8 := by omega
            obtain ⟨L, hL1, hL2, hL3⟩ := HR2.out
            have HE := Lib.hid (show L = bs ++ keyV ⟨1, x, ⟨#[]⟩⟩ by
              rw [← List.append_nil L, show ([] : List UInt8) = be N (8 - 8) from rfl, hL3, ← HNN.out]
              simp [keyV])
            have HL1 := Lib.hid hL1
            have HL2 := Lib.hid hL2
            clear hL1 hL2 hL3 HR2
            go_wp2
            go_roundw
            case rel => exact ⟨k + 1, A2, n2, c4, by omega, by go_num, rfl, Lib.hid ⟨by rw [HS.out, ← HE.out]; exact HL1.out, HL2.out⟩⟩
            case measure => simp [intOf]; omega
      · obtain ⟨rfl, hx, hs0⟩ := h
        obtain rfl := empty_of_size hs0
        rcases hx with rfl | rfl
        · go_wp2_with (first | (at_builtin; refine append_bytes rfl _ _ rfl w.heap.size A' n' c' bs rfl _ [3] 1 (HK.out.1.alloc _) _ rfl (by simp) rfl [.int .u8 3] rfl (by simp; omega) ?_; intro A1 n1 c3 w1 hn1 hb1 hk1; have H1 := Lib.hid hb1; have K1 := Lib.hid ((HK.out.2.alloc hsz _).trans hk1); have X := (Box.new wr ⟨2, 0, ⟨#[]⟩⟩).keep hk1; have x0 := X.k; have x1 := X.n; have x2 := X.s; clear hb1 hk1 X HK; subst hn1) | (at_builtin; refine append_bytes rfl _ _ rfl w.heap.size A1 _ c3 _ rfl _ [0] 1 (H1.out) _ rfl (by simp) rfl [.int .u8 0] rfl (by simp; omega) ?_; intro A2 n2 c4 w2 hn2 hb2 hk2; have H2 := Lib.hid hb2; have K2 := Lib.hid (K1.out.trans hk2); clear hb2 hk2; subst hn2))
          go_roundw
          case rel => exact ⟨k + 1, A2, _, c4, by omega, by go_num, rfl, Lib.hid ⟨by rw [HS.out]; have := H2.out; rw [List.append_assoc] at this; exact this, K2.out⟩⟩
          case measure => simp [intOf]; omega
        · go_wp2_with (first | (at_builtin; refine append_bytes rfl _ _ rfl w.heap.size A' n' c' bs rfl _ [3] 1 (HK.out.1.alloc _) _ rfl (by simp) rfl [.int .u8 3] rfl (by simp; omega) ?_; intro A1 n1 c3 w1 hn1 hb1 hk1; have H1 := Lib.hid hb1; have K1 := Lib.hid ((HK.out.2.alloc hsz _).trans hk1); have X := (Box.new wr ⟨2, 1, ⟨#[]⟩⟩).keep hk1; have x0 := X.k; have x1 := X.n; have x2 := X.s; clear hb1 hk1 X HK; subst hn1) | (at_builtin; refine append_bytes rfl _ _ rfl w.heap.size A1 _ c3 _ rfl _ [1] 1 (H1.out) _ rfl (by simp) rfl [.int .u8 1] rfl (by simp; omega) ?_; intro A2 n2 c4 w2 hn2 hb2 hk2; have H2 := Lib.hid hb2; have K2 := Lib.hid (K1.out.trans hk2); clear hb2 hk2; subst hn2))
          go_roundw
          case rel => exact ⟨k + 1, A2, _, c4, by omega, by go_num, rfl, Lib.hid ⟨by rw [HS.out]; have := H2.out; rw [List.append_assoc] at this; exact this, K2.out⟩⟩
          case measure => simp [intOf]; omega
      · obtain ⟨rfl, rfl, hs2⟩ := h
        go_wp2_with (at_builtin; go_loud (refine append_bytes rfl _ _ rfl w.heap.size A' n' c' bs rfl _ [4] 1 (HK.out.1.alloc _) _ rfl (by simp) rfl [.int .u8 4] rfl (by simp; omega) ?_); intro A1 n1 c3 w1 hn1 hb1 hk1; have H1 := Lib.hid hb1; have K1 := Lib.hid ((HK.out.2.alloc hsz _).trans hk1); have X := (Box.new wr ⟨3, 0, s⟩).keep hk1; have HX := Lib.hid X; have x0 := X.k; have x1 := X.n; have x2 := X.s; clear hb1 hk1 X; subst hn1)
        clear HK
        go_loopw [3, 8] (fun v3 v8 wr2 => ∃ (j : Nat) (A2 : Option Addr) (n2 c4 : Nat), j ≤ s.size ∧ v8 = .int .i64 (j : Int) ∧ v3 = .slice A2 n2 c4 ∧ Hid (Buf w.heap.size A2 n2 c4 (bs ++ [4] ++ esc (s.data.toList.take j)) wr2 ∧ Keep w.heap.size w wr2 ∧ Box wr2 wr.heap.size ⟨3, 0, s⟩)) (fun _ v8 _ => s.size - (intOf v8).toNat)
        case atStart => exact ⟨0, A1, _, c3, Nat.zero_le _, rfl, rfl, Lib.hid ⟨by have := H1.out; simpa [esc] using this, K1.out, HX.out⟩⟩
        case round =>
          obtain ⟨j, A2, n2, c4, hj, rfl, rfl, HR2⟩ := hrel
          have y2 := HR2.out.2.2.s
          by_cases hj2 : j < s.size
          · have HT := Lib.hid (esc_take s j hj2)
            have hel : (bs ++ [4] ++ esc (s.data.toList.take j)).length ≤ 403 * 12 + 500 := by
              have := esc_length (s.data.toList.take j)
              rw [List.length_take] at this
              simp
              omega
            have hb : s[j].toNat < 256 := s[j].toNat_lt
            by_cases hz : s[j] = 0
            · have e1 : (s[j].toNat : Int) = 0 := by rw [hz]; rfl
              have HZ := Lib.hid hz
              clear hz
              go_wp2_with (first | (at_builtin; refine append_bytes rfl _ _ rfl w.heap.size A2 n2 c4 _ rfl _ [0] 1 HR2.out.1 _ rfl (by simp) rfl [.int .u8 0] rfl (by have := hel; simp at this ⊢; omega) ?_; intro A3 n3 c5 w2 hn3 hb3 hk3; have H2 := Lib.hid hb3; have K2 := Lib.hid (HR2.out.2.1.trans hk3); have X := HR2.out.2.2.keep hk3; have HX3 := Lib.hid X; have z2 := X.s; clear hb3 hk3 X HR2; subst hn3) | (at_builtin; refine append_bytes rfl _ _ rfl w.heap.size A3 _ c5 _ rfl _ [255] 1 H2.out _ rfl (by simp) rfl [.int .u8 255] rfl (by have := hel; simp at this ⊢; omega) ?_; intro A4 n4 c6 w3 hn4 hb4 hk4; have H3 := Lib.hid hb4; have K3 := Lib.hid (K2.out.trans hk4); have HX4 := Lib.hid (HX3.out.keep hk4); clear hb4 hk4; subst hn4))
              go_roundw
              case rel => exact ⟨j + 1, A4, _, c6, by omega, by go_num, rfl, Lib.hid ⟨by rw [HT.out, if_pos HZ.out]; have := H3.out; simpa using this, K3.out, HX4.out⟩⟩
              case measure => simp [intOf]; omega
            · have q : s[j].toNat ≠ 0 := fun e => hz (UInt8.toNat_inj.1 e)
              have e1 : ((s[j].toNat : Int) == 0) = false := by simpa using q
              go_wp2_with (at_builtin; refine append_bytes rfl _ _ rfl w.heap.size A2 n2 c4 _ rfl _ [s[j]] 1 HR2.out.1 _ rfl (by simp) rfl [.int .u8 (s[j].toNat : Int)] rfl (by have := hel; simp at this ⊢; omega) ?_; intro A3 n3 c5 w2 hn3 hb3 hk3; have H2 := Lib.hid hb3; have K2 := Lib.hid (HR2.out.2.1.trans hk3); have X := HR2.out.2.2.keep hk3; have HX3 := Lib.hid X; have z2 := X.s; clear hb3 hk3 X HR2; subst hn3)
              go_roundw
              case rel => exact ⟨j + 1, A3, _, c5, by omega, by go_num, rfl, Lib.hid ⟨by rw [HT.out, if_neg hz]; have := H2.out; simpa using this, K2.out, HX3.out⟩⟩
              case measure => simp [intOf]; omega
          · have HT := Lib.hid (show s.data.toList.take j = s.data.toList from List.take_of_length_le (by rw [← size_eq]; omega))
            have hel : (bs ++ [4] ++ esc (s.data.toList.take j)).length ≤ 403 * 12 + 500 := by
              have := esc_length (s.data.toList.take j)
              rw [List.length_take] at this
              simp
              omega
            go_wp2_with (at_builtin; refine append_bytes rfl _ _ rfl w.heap.size A2 n2 c4 _ rfl _ [0, 0] 2 HR2.out.1 _ rfl (by simp) rfl [.int .u8 0, .int .u8 0] rfl (by have := hel; simp at this ⊢; omega) ?_; intro A3 n3 c5 w2 hn3 hb3 hk3; have H2 := Lib.hid hb3; have K2 := Lib.hid (HR2.out.2.1.trans hk3); clear hb3 hk3 HR2; subst hn3)
            go_roundw
            case rel => exact ⟨k + 1, A3, _, c5, by omega, by go_num, rfl, Lib.hid ⟨by rw [HS.out]; have := H2.out; rw [HT.out] at this; simpa [keyV] using this, K2.out⟩⟩
            case measure => simp [intOf]; omega
    · have hk2 : k = len := by omega
      have hcs := string_of_buf HK.out.1
      have HE := Lib.hid (show keyL (l.take k) = keyL l by rw [hk2, HL.out, List.take_length])
      rw [HE.out] at hcs
      clear HK
      go_wp2
      go_ret
      exact ⟨rfl, hbel⟩
end Go.Proofs.YtnginemabkecmaaDoor
