/- Layer 12, walked: the document's fields. -/
import Derived.Test.YtfkfgabepjpdlaaDoorDecA
namespace Go.Proofs.YtfkfgabepjpdlaaDoor
open Go.ChangeShapes Go.WideShapes Go.ChangeAt Go.RowKit
set_option linter.unusedVariables false

theorem own_other {w w' : World} {base : Nat} {e : TypeId} {size : Nat} {v : Value} {n : Nat} {xs : List Value} {row : Option Nat} (h : w.ownsRow base e size v n xs) (hg : w.grownBy w' row) (hne : ∀ g, v.ownBlock = some g → row ≠ some g) : w'.ownsRow base e size v n xs := by
  refine ⟨h.1, ?_⟩
  rcases h.2 with h2 | ⟨g, cap, cur, rfl, hb, hh, r⟩
  · exact .inl h2
  · exact .inr ⟨g, cap, cur, rfl, hb, (hg.block g (lt_of_block hh) (fun e => hne g rfl e.symm)).trans hh, r⟩
theorem own_apart {w : World} {base base2 : Nat} {e e2 : TypeId} {size size2 : Nat} {v v2 : Value} {n n2 : Nat} {xs xs2 : List Value} (h : w.ownsRow base e size v n xs) (h2 : w.ownsRow base2 e2 size2 v2 n2 xs2) (hne : e ≠ e2) : ∀ g, v.ownBlock = some g → v2.ownBlock ≠ some g := by
  intro g hg hg2
  rcases h.2 with ⟨rfl, _⟩ | ⟨g1, cap, cur, rfl, hb, hh, r⟩
  · simp [Value.ownBlock] at hg
  · rcases h2.2 with ⟨rfl, _⟩ | ⟨g3, cap3, cur3, rfl, hb3, hh3, r3⟩
    · simp [Value.ownBlock] at hg2
    · simp only [Value.ownBlock, Option.some.injEq] at hg hg2
      subst hg; subst hg2
      rw [hh] at hh3
      simp only [Option.some.injEq, Obj.cells.injEq] at hh3
      exact hne hh3.2.1
theorem own_keepZ {w w' : World} {B base : Nat} {e : TypeId} {size : Nat} {v : Value} {n : Nat} {xs : List Value} (h : w.ownsRow base e size v n xs) (hk : Keep B w w') (he : e ≠ 5) : w'.ownsRow base e size v n xs := by
  refine ⟨h.1, ?_⟩
  rcases h.2 with h2 | ⟨g, cap, cur, rfl, hb, hh, r⟩
  · exact .inl h2
  · refine .inr ⟨g, cap, cur, rfl, hb, hk.block _ _ hh (fun cur2 f e2 => ?_), r⟩
    simp only [Obj.cells.injEq] at e2
    exact he e2.2.1
/-- The fields so far, and the field under way. -/
structure SpS (w : World) (A : Option Addr) (n c : Nat) (done : List (List UInt8)) (A2 : Option Addr) (n2 c2 : Nat) (field : List UInt8) (wr : World) : Prop where
  below : Below w.heap.size w wr
  own : wr.ownsRow w.heap.size 9 1 (.slice A n c) n ((done.map txt).flatMap sCells)
  buf : Buf w.heap.size A2 n2 c2 field wr
section
variable {w wr w1 : World} {A A2 A3 : Option Addr} {n c n2 c2 n3 c3 : Nat} {done : List (List UInt8)} {field f2 : List UInt8}
theorem SpS.byte (h : SpS w A n c done A2 n2 c2 field wr) (hk : Keep w.heap.size wr w1) (hb : Buf w.heap.size A3 n3 c3 f2 w1) : SpS w A n c done A3 n3 c3 f2 w1 :=
  ⟨h.below.trans hk.below, own_keepZ h.own hk (by decide), hb⟩
theorem SpS.more (h : SpS w A n c done A2 n2 c2 field wr) (hb : Below w.heap.size wr w1) (ho : w1.ownsRow w.heap.size 9 1 (.slice A3 n3 c3) n3 ((done.map txt ++ [txt field]).flatMap sCells)) : SpS w A3 n3 c3 (done ++ [field]) none 0 0 [] w1 :=
  ⟨h.below.trans hb, by rw [List.map_append]; exact ho, Buf.nil _ _ (Nat.le_trans h.below.size hb.size)⟩
end
/-- What is left to be read, the fields so far, the field under way. -/
def Sp (l : List UInt8) (k : Nat) (t : Bool) (done : List (List UInt8)) (field : List UInt8) : Prop := splitL l = done ++ splitT t field (l.drop k)
theorem Sp.cut {l : List UInt8} {k : Nat} {done : List (List UInt8)} {field : List UInt8} (h : Sp l k false done field) (hk : k < l.length) (hc : l[k] = 44) : Sp l (k + 1) false (done ++ [field]) [] := by
  unfold Sp at h ⊢
  rw [h, List.drop_eq_getElem_cons hk, hc, splitT_cut]
  simp
theorem Sp.go {l : List UInt8} {k : Nat} {t : Bool} {done : List (List UInt8)} {field : List UInt8} (h : Sp l k t done field) (hk : k < l.length) (hc : ¬ (t = false ∧ l[k] = 44)) : Sp l (k + 1) (!t && l[k] == 92) done (field ++ [l[k]]) := by
  unfold Sp at h ⊢
  rw [h, List.drop_eq_getElem_cons hk, splitT_go _ _ _ _ hc]
theorem Sp.end_ {l : List UInt8} {k : Nat} {t : Bool} {done : List (List UInt8)} {field : List UInt8} (h : Sp l k t done field) (hk : l.length ≤ k) : splitL l = done ++ [field] := by
  unfold Sp at h
  rw [h, List.drop_of_length_le hk, splitT_nil]
set_option maxHeartbeats 2000000 in
set_option maxRecDepth 20000 in
theorem rsplit_any (s : ByteArray) (hs : s.size ≤ 16777216) (w : World) :
    Calls Tryd.prog 19 #[.string s] w (StrsPost ((splitL s.data.toList).map txt) w) := by
  have HSZ := Lib.hid (size_eq s)
  obtain ⟨l, hl⟩ : ∃ l, s.data.toList = l := ⟨_, rfl⟩
  have HLS := Lib.hid hl
  rw [hl] at HSZ ⊢
  clear hl
  have HS0 := Lib.hid (show SpS w none 0 0 [] (some ⟨w.heap.size, 0, none⟩) 0 0 [] (w.alloc (.cells #[] 5)) from
    ⟨(Below.refl _ _).alloc (Nat.le_refl _) _, World.ownsRow_nil _ _ _ 1, ⟨rfl, by simp, World.ownsRow_made w #[] 0 (Nat.le_refl _) (by decide) rfl⟩⟩)
  have HP0 := Lib.hid (show Sp l 0 false [] [] from rfl)
  go_enter Tryd.func19, Tryd.ntmps19
  go_wp2
  go_loopw [3, 4, 5, 6] (fun lv fv tv iv wr => ∃ A n c done A2 n2 c2 field k t, lv = .slice A n c ∧ fv = .slice A2 n2 c2 ∧ tv = .bool t ∧ iv = .int .i64 ((k : Nat) : Int) ∧ k ≤ s.size ∧ Hid (n = done.length ∧ n ≤ k) ∧ Hid (field.length ≤ k) ∧ Hid (SpS w A n c done A2 n2 c2 field wr) ∧ Hid (Sp l k t done field)) (fun _ _ _ iv _ => s.size - (intOf iv).toNat)
  case atStart => exact ⟨_, _, _, [], _, _, _, [], 0, false, rfl, rfl, rfl, rfl, Nat.zero_le _, Lib.hid ⟨rfl, Nat.le_refl _⟩, Lib.hid (Nat.le_refl _), HS0, HP0⟩
  case round =>
    obtain ⟨A, n, c, done, A2, n2, c2, field, k, t, rfl, rfl, rfl, rfl, hk, HDN, HFL, HS, HP⟩ := hrel
    by_cases hlt : k < s.size
    · have hkl : k < l.length := by rw [← HSZ.out]; exact hlt
      have HDL := Lib.hid (show n = done.length ∧ n ≤ k + 1 from ⟨HDN.out.1, by have := HDN.out.2; omega⟩)
      obtain ⟨d, hd⟩ : ∃ d, s[k] = d := ⟨_, rfl⟩
      have HD := Lib.hid (show l[k] = d by rw [← hd, ← list_at hlt]; simp only [HLS.out])
      cases t
      · by_cases h44 : d = 44
        · have q1 : ((d.toNat : Int) == 44) = true := by rw [h44]; rfl
          have HP2 := Lib.hid (HP.out.cut hkl (by rw [HD.out]; exact h44))
          have HN2 := Lib.hid (show n + 1 = (done ++ [field]).length ∧ n + 1 ≤ k + 1 from ⟨by rw [List.length_append, ← HDN.out.1]; rfl, by have := HDN.out.2; omega⟩)
          have HF2 := Lib.hid (show ([] : List UInt8).length ≤ k + 1 from Nat.zero_le _)
          have hcv := string_of_buf HS.out.buf
          clear h44
          go_wp2_with (at_builtin; go_loud (refine append_item Tryd.underlying39 infoStr rfl (by decide) sCells_length sCells_one rfl _ _ rfl w.heap.size A n c (done.map txt) rfl _ (txt field) HS.out.own HS.out.below.size _ rfl rfl (by have := HDN.out.2; omega) (by have := HDN.out.2; unfold maxLen; omega) [_] rfl ?_); intro A3 n3 c3 w2 hn3 ho3 hb3 _; have HS2 := Lib.hid (HS.out.more hb3 ho3); clear ho3 hb3; subst hn3)
          go_roundw
          case rel => exact ⟨_, _, _, done ++ [field], _, _, _, [], k + 1, false, rfl, rfl, rfl, by go_num, by omega, HN2, HF2, HS2, HP2⟩
          case measure => simp [intOf]; omega
        · have q1 : ((d.toNat : Int) == 44) = false := beq44 h44
          by_cases h92 : d = 92
          · have q2 : ((d.toNat : Int) == 92) = true := by rw [h92]; rfl
            have HP2 := Lib.hid (show Sp l (k + 1) true done (field ++ [d]) by
              have := HP.out.go hkl (by rw [HD.out]; simp [h44])
              rw [HD.out] at this; simpa [h92] using this)
            clear h44 h92
            have HND := Lib.hid (show (field ++ [d]).length ≤ k + 1 by simp; have := HFL.out; omega)
            go_wp2_with (at_builtin; go_loud (refine append_bytes rfl _ _ rfl w.heap.size A2 n2 c2 field rfl _ [d] 1 HS.out.buf _ rfl (by simp) rfl [.int .u8 (d.toNat : Int)] rfl (by simp; have := HFL.out; omega) ?_); intro A3 n3 c3 w2 hn3 hb3 hk3; have HS2 := Lib.hid (HS.out.byte hk3 hb3); clear hb3 hk3 hn3)
            go_roundw
            case rel => exact ⟨_, _, _, done, _, _, _, field ++ [d], k + 1, true, rfl, rfl, rfl, by go_num, by omega, HDL, HND, HS2, HP2⟩
            case measure => simp [intOf]; omega
          · have q2 : ((d.toNat : Int) == 92) = false := beq92 h92
            have HP2 := Lib.hid (show Sp l (k + 1) false done (field ++ [d]) by
              have := HP.out.go hkl (by rw [HD.out]; simp [h44])
              rw [HD.out, show (d == 92) = false by simpa using h92] at this; exact this)
            clear h44 h92
            have HND := Lib.hid (show (field ++ [d]).length ≤ k + 1 by simp; have := HFL.out; omega)
            go_wp2_with (at_builtin; go_loud (refine append_bytes rfl _ _ rfl w.heap.size A2 n2 c2 field rfl _ [d] 1 HS.out.buf _ rfl (by simp) rfl [.int .u8 (d.toNat : Int)] rfl (by simp; have := HFL.out; omega) ?_); intro A3 n3 c3 w2 hn3 hb3 hk3; have HS2 := Lib.hid (HS.out.byte hk3 hb3); clear hb3 hk3 hn3)
            go_roundw
            case rel => exact ⟨_, _, _, done, _, _, _, field ++ [d], k + 1, false, rfl, rfl, rfl, by go_num, by omega, HDL, HND, HS2, HP2⟩
            case measure => simp [intOf]; omega
      · have HP2 := Lib.hid (show Sp l (k + 1) false done (field ++ [d]) by
          have := HP.out.go hkl (by simp)
          rw [HD.out] at this; simpa using this)
        have HND := Lib.hid (show (field ++ [d]).length ≤ k + 1 by simp; have := HFL.out; omega)
        go_wp2_with (at_builtin; go_loud (refine append_bytes rfl _ _ rfl w.heap.size A2 n2 c2 field rfl _ [d] 1 HS.out.buf _ rfl (by simp) rfl [.int .u8 (d.toNat : Int)] rfl (by simp; have := HFL.out; omega) ?_); intro A3 n3 c3 w2 hn3 hb3 hk3; have HS2 := Lib.hid (HS.out.byte hk3 hb3); clear hb3 hk3 hn3)
        go_roundw
        case rel => exact ⟨_, _, _, done, _, _, _, field ++ [d], k + 1, false, rfl, rfl, rfl, by go_num, by omega, HDL, HND, HS2, HP2⟩
        case measure => simp [intOf]; omega
    · have HE := Lib.hid (HP.out.end_ (by rw [← HSZ.out]; omega))
      have hcv := string_of_buf HS.out.buf
      go_wp2_with (at_builtin; go_loud (refine append_item Tryd.underlying39 infoStr rfl (by decide) sCells_length sCells_one rfl _ _ rfl w.heap.size A n c (done.map txt) rfl _ (txt field) HS.out.own HS.out.below.size _ rfl rfl (by have := HDN.out.2; omega) (by have := HDN.out.2; unfold maxLen; omega) [_] rfl ?_); intro A3 n3 c3 w2 hn3 ho3 hb3 _; have HS2 := Lib.hid (HS.out.more hb3 ho3); clear ho3 hb3; subst hn3)
      go_ret
      have h1 := HE.out
      have h2 := HDN.out.1
      have h3 := HS2.out
      exact ⟨_, _, _, rfl, by rw [h1]; simp; omega, by rw [h1]; exact h3.own, h3.below⟩
end Go.Proofs.YtfkfgabepjpdlaaDoor
