/- Layer 12, walked: the text that a field says. -/
import Derived.Test.YtfkfgabepjpdlaaDoorDecW6
import Derived.BigRegion
namespace Go.Proofs.YtfkfgabepjpdlaaDoor
open Go.ChangeShapes Go.WideShapes Go.ChangeAt Go.RowKit
set_option linter.unusedVariables false

/-- A value and whether it is one. -/
def SayPost (o : Option V) (w : World) (e : Ending) (w' : World) : Prop :=
  ∃ (v : V) (ok : Bool), e = .returned (.tuple #[.agg #[.int .i64 v.k, .int .i64 v.n, .string v.s], .bool ok]) ∧ (ok = true → o = some v) ∧ (ok = false → o = none) ∧ Below w.heap.size w w'
theorem say_yes {o : Option V} {w w' : World} {v : V} (h : o = some v) (hb : Below w.heap.size w w') : SayPost o w (.returned (.tuple #[.agg #[.int .i64 v.k, .int .i64 v.n, .string v.s], .bool true])) w' :=
  ⟨v, true, rfl, fun _ => h, (fun h => by cases h), hb⟩
theorem say_no {o : Option V} {w w' : World} (v : V) (h : o = none) (hb : Below w.heap.size w w') : SayPost o w (.returned (.tuple #[.agg #[.int .i64 v.k, .int .i64 v.n, .string v.s], .bool false])) w' :=
  ⟨v, false, rfl, (fun h => by cases h), fun _ => h, hb⟩
/-- A value's own block. -/
def Box3 (w : World) (g : Nat) (v : V) : Prop := w.heap[g]? = some (.cells #[.int .i64 v.k, .int .i64 v.n, .string v.s] 53 (0, 0))
theorem set_block {w : World} {g : Nat} {arr : Array Value} {t : TypeId} (h : w.heap[g]? = some (.cells arr t (0, 0))) (i : Nat) (v : Value) : (w.setCell ⟨g, i, none⟩ v).heap[g]? = some (.cells (arr.setIfInBounds i v) t (0, 0)) := by
  have hlt := lt_of_block h
  have h' : w.heap[g] = .cells arr t (0, 0) := by simpa [Array.getElem?_eq_getElem hlt] using h
  show (w.heap.modify g _)[g]? = _
  rw [Array.getElem?_eq_getElem (by simpa using hlt), Array.getElem_modify_self, h']
  rfl
section
variable {w : World} {g : Nat} {v : V}
theorem Box3.lt (h : Box3 w g v) : g < w.heap.size := lt_of_block h
theorem Box3.set (h : Box3 w g v) (u : V) : Box3 (((w.setCell ⟨g, 0, none⟩ (.int .i64 u.k)).setCell ⟨g, 1, none⟩ (.int .i64 u.n)).setCell ⟨g, 2, none⟩ (.string u.s)) g u := by
  have h1 := set_block h 0 (.int .i64 u.k)
  have h2 := set_block h1 1 (.int .i64 u.n)
  exact set_block h2 2 (.string u.s)
theorem Box3.c0 (h : Box3 w g v) : w.cell? ⟨g, 0, none⟩ = some (.int .i64 v.k) := by simp [World.cell?, show w.heap[g]? = _ from h]
theorem Box3.c1 (h : Box3 w g v) : w.cell? ⟨g, 1, none⟩ = some (.int .i64 v.n) := by simp [World.cell?, show w.heap[g]? = _ from h]
theorem Box3.c2 (h : Box3 w g v) : w.cell? ⟨g, 2, none⟩ = some (.string v.s) := by simp [World.cell?, show w.heap[g]? = _ from h]
theorem Box3.free (h : Box3 w g v) (i : Nat) : w.frozen? ⟨g, i, none⟩ = false := by simp [World.frozen?, show w.heap[g]? = _ from h]
theorem Box3.below {w2 : World} (h : Box3 w g v) (hb : Below w.heap.size w w2) : Box3 w2 g v := (hb.block g h.lt).trans h
theorem Box3.new (w : World) (v : V) : Box3 (w.alloc (.cells #[.int .i64 v.k, .int .i64 v.n, .string v.s] 53)) w.heap.size v := World.alloc_heap_new _ _
end
def set3 (w : World) (g : Nat) (u : V) : World := ((w.setCell ⟨g, 0, none⟩ (.int .i64 u.k)).setCell ⟨g, 1, none⟩ (.int .i64 u.n)).setCell ⟨g, 2, none⟩ (.string u.s)
theorem below_set3 {B : Nat} {w a : World} {g : Nat} (h : Below B w a) (hg : B ≤ g) (u : V) : Below B w (((a.setCell ⟨g, 0, none⟩ (.int .i64 u.k)).setCell ⟨g, 1, none⟩ (.int .i64 u.n)).setCell ⟨g, 2, none⟩ (.string u.s)) :=
  ((h.setCell (p := ⟨g, 0, none⟩) hg _).setCell (p := ⟨g, 1, none⟩) hg _).setCell (p := ⟨g, 2, none⟩) hg _
def zV : V := ⟨0, 0, ⟨#[]⟩⟩
def textO (l : List UInt8) : Option V := (textV l).map fun b => ⟨3, 0, txt b⟩
theorem drop_two {l : List UInt8} {k : Nat} (h : k < l.length) (h2 : k + 1 < l.length) : l.drop k = l[k] :: l[k + 1] :: l.drop (k + 2) := by
  rw [List.drop_eq_getElem_cons h, List.drop_eq_getElem_cons h2]
theorem drop_one {l : List UInt8} {k : Nat} (h : k < l.length) (h2 : l.length ≤ k + 1) : l.drop k = [l[k]] := by
  rw [List.drop_eq_getElem_cons h, List.drop_of_length_le h2]
/-- What is left to be read, and what there is so far. -/
def Un (l : List UInt8) (k : Nat) (done : List UInt8) : Prop := unesc l = (unesc (l.drop k)).map (done ++ ·)
theorem Un.start (l : List UInt8) : Un l 0 [] := by
  unfold Un
  rw [List.drop_zero]
  cases unesc l <;> simp
theorem Un.end_ {l : List UInt8} {k : Nat} {done : List UInt8} (h : Un l k done) (hk : l.length ≤ k) : unesc l = some done := by
  unfold Un at h
  rw [h, List.drop_of_length_le hk, unesc_nil]
  simp
theorem Un.go {l : List UInt8} {k : Nat} {done : List UInt8} (h : Un l k done) (hk : k < l.length) (hc : l[k] ≠ 92) : Un l (k + 1) (done ++ [l[k]]) := by
  unfold Un at h ⊢
  rw [h, List.drop_eq_getElem_cons hk, unesc_go _ _ hc, Option.map_map]
  congr 1
  funext x
  simp
theorem Un.pair {l : List UInt8} {k : Nat} {done : List UInt8} (h : Un l k done) (hk : k + 1 < l.length) (hc : l[k] = 92) (hd : l[k + 1] = 44 ∨ l[k + 1] = 92) : Un l (k + 2) (done ++ [l[k + 1]]) := by
  unfold Un at h ⊢
  rw [h, drop_two (by omega) hk, hc, unesc_pair _ _ hd, Option.map_map]
  congr 1
  funext x
  simp
theorem Un.bad {l : List UInt8} {k : Nat} {done : List UInt8} (h : Un l k done) (hk : k + 1 < l.length) (hc : l[k] = 92) (hd : ¬ (l[k + 1] = 44 ∨ l[k + 1] = 92)) : textO l = none := by
  unfold Un at h
  rw [drop_two (by omega) hk, hc, unesc_bad _ _ hd] at h
  unfold textO textV
  rw [h]
  rfl
theorem Un.last {l : List UInt8} {k : Nat} {done : List UInt8} (h : Un l k done) (hk : k < l.length) (hk2 : l.length ≤ k + 1) (hc : l[k] = 92) : textO l = none := by
  unfold Un at h
  rw [drop_one hk hk2, hc, unesc_last] at h
  unfold textO textV
  rw [h]
  rfl
theorem textO_some {l done : List UInt8} (h : unesc l = some done) (hd : done.length ≤ 200) : textO l = some ⟨3, 0, txt done⟩ := by
  unfold textO textV
  rw [h]
  simp [hd]
theorem textO_long {l done : List UInt8} (h : unesc l = some done) (hd : ¬ done.length ≤ 200) : textO l = none := by
  unfold textO textV
  rw [h]
  simp [hd]
/-- The result's own block beside the bytes. -/
structure TxS (w : World) (A : Option Addr) (n c : Nat) (done : List UInt8) (wr : World) : Prop where
  below : Below w.heap.size w wr
  size : w.heap.size + 1 ≤ wr.heap.size
  box : Box3 wr w.heap.size zV
  buf : Buf (w.heap.size + 1) A n c done wr
section
variable {w wr : World} {A : Option Addr} {n c : Nat} {done : List UInt8}
theorem TxS.start (w : World) : TxS w none 0 0 [] (w.alloc (.cells #[.int .i64 0, .int .i64 0, .string ⟨#[]⟩] 53)) :=
  ⟨(Below.refl _ _).alloc (Nat.le_refl _) _, by simp, World.alloc_heap_new _ _, Buf.nil _ _ (by simp)⟩
theorem TxS.more {A2 : Option Addr} {n2 c2 : Nat} {done2 : List UInt8} {w2 : World} (h : TxS w A n c done wr) (hb : Below (w.heap.size + 1) wr w2) (ho : Buf (w.heap.size + 1) A2 n2 c2 done2 w2) : TxS w A2 n2 c2 done2 w2 :=
  ⟨h.below.trans (hb.mono (by omega)), Nat.le_trans h.size hb.size, (hb.block _ (by omega)).trans h.box, ho⟩
end
set_option maxHeartbeats 2000000 in
set_option maxRecDepth 20000 in
theorem textf_any (s : ByteArray) (hs : s.size ≤ 68719476736) (w : World) :
    Calls Tryd.prog 41 #[.string s] w (SayPost (textO s.data.toList) w) := by
  have HSZ := Lib.hid (size_eq s)
  obtain ⟨l, hl⟩ : ∃ l, s.data.toList = l := ⟨_, rfl⟩
  have HLS := Lib.hid hl
  rw [hl] at HSZ ⊢
  clear hl
  go_enter Tryd.func41, Tryd.ntmps41
  go_wp2
  go_loopw [4, 5] (fun lv iv wr => ∃ A n c done k, lv = .slice A n c ∧ iv = .int .i64 ((k : Nat) : Int) ∧ k ≤ s.size ∧ n ≤ k ∧ n = done.length ∧ Hid (TxS w A n c done wr) ∧ Hid (Un l k done)) (fun _ iv _ => s.size - (intOf iv).toNat)
  case atStart => exact ⟨none, 0, 0, [], 0, rfl, rfl, Nat.zero_le _, Nat.zero_le _, rfl, Lib.hid (TxS.start w), Lib.hid (Un.start l)⟩
  case round =>
    obtain ⟨A, n, c, done, k, rfl, rfl, hk, hnk, hnd, HT, HU⟩ := hrel
    have HND := Lib.hid hnd
    clear hnd
    by_cases hlt : k < s.size
    · have hkl : k < l.length := by rw [← HSZ.out]; exact hlt
      obtain ⟨d, hd⟩ : ∃ d, s[k] = d := ⟨_, rfl⟩
      have HD := Lib.hid (show l[k] = d by rw [← hd, ← list_at hlt]; simp only [HLS.out])
      by_cases h92 : d = 92
      · have q2 : ((d.toNat : Int) == 92) = true := by rw [h92]; rfl
        have HD92 := Lib.hid h92
        clear h92
        by_cases hl1 : k + 1 < s.size
        · have hk1l : k + 1 < l.length := by rw [← HSZ.out]; exact hl1
          obtain ⟨x, hx⟩ : ∃ x, s[k + 1] = x := ⟨_, rfl⟩
          have HX := Lib.hid (show l[k + 1] = x by rw [← hx, ← list_at hl1]; simp only [HLS.out])
          have q3 : ((k : Int) + 1 == (s.size : Int)) = false := by rw [beq_eq_false_iff_ne]; omega
          by_cases hx44 : x = 44
          · have q4 : ((x.toNat : Int) != 44) = false := by rw [hx44]; rfl
            have HU2 := Lib.hid (show Un l (k + 2) (done ++ [x]) by rw [← HX.out]; exact HU.out.pair hk1l (by rw [HD.out, HD92.out]) (.inl (by rw [HX.out, hx44])))
            clear hx44
            go_wp2_with (at_builtin; go_loud (refine append_bytes rfl _ _ rfl (w.heap.size + 1) A n c done rfl _ [x] 1 HT.out.buf _ rfl (by simp) rfl [.int .u8 (x.toNat : Int)] rfl (by simp; have := HND.out; omega) ?_); intro A2 n2 c2 w2 hn2 hb2 hk2; have HT2 := Lib.hid (HT.out.more hk2.below hb2); clear hb2 hk2; subst hn2)
            have HLE := Lib.hid (show (done ++ [x]).length = n + 1 by rw [List.length_append]; have := HND.out; simp; omega)
            go_roundw
            case rel => exact ⟨_, _, _, _, k + 2, rfl, by go_num, by omega, by omega, HLE.out.symm, HT2, HU2⟩
            case measure => simp [intOf]; omega
          · have q4 : ((x.toNat : Int) != 44) = true := bne44 hx44
            by_cases hx92 : x = 92
            · have q5 : ((x.toNat : Int) != 92) = false := by rw [hx92]; rfl
              have HU2 := Lib.hid (show Un l (k + 2) (done ++ [x]) by rw [← HX.out]; exact HU.out.pair hk1l (by rw [HD.out, HD92.out]) (.inr (by rw [HX.out, hx92])))
              clear hx44 hx92
              go_wp2_with (at_builtin; go_loud (refine append_bytes rfl _ _ rfl (w.heap.size + 1) A n c done rfl _ [x] 1 HT.out.buf _ rfl (by simp) rfl [.int .u8 (x.toNat : Int)] rfl (by simp; have := HND.out; omega) ?_); intro A2 n2 c2 w2 hn2 hb2 hk2; have HT2 := Lib.hid (HT.out.more hk2.below hb2); clear hb2 hk2; subst hn2)
              have HLE := Lib.hid (show (done ++ [x]).length = n + 1 by rw [List.length_append]; have := HND.out; simp; omega)
              go_roundw
              case rel => exact ⟨_, _, _, _, k + 2, rfl, by go_num, by omega, by omega, HLE.out.symm, HT2, HU2⟩
              case measure => simp [intOf]; omega
            · have q5 : ((x.toNat : Int) != 92) = true := bne92 hx92
              have HBAD := Lib.hid (HU.out.bad hk1l (by rw [HD.out, HD92.out]) (by rw [HX.out]; rintro (h | h) <;> contradiction))
              clear hx44 hx92
              have HB3 := Lib.hid (HT.out.box.set zV)
              have HBL := Lib.hid (below_set3 HT.out.below (Nat.le_refl _) zV)
              have c0 := HT.out.box.c0
              have c1 := HT.out.box.c1
              have c2 := HT.out.box.c2
              have f0 := HT.out.box.free 0
              have f1 := HT.out.box.free 1
              have f2 := HT.out.box.free 2
              have hlt2 : w.heap.size < wr.heap.size := by have := HT.out.size; omega
              go_wp2
              clear c0 c1 c2
              have c0 := HB3.out.c0
              have c1 := HB3.out.c1
              have c2 := HB3.out.c2
              unfold zV at c0 c1 c2
              exact bodyPost_ret (by simp [results, Tryd.results41, go_sem, c0, c1, c2]) rfl (say_no ⟨0, 0, ⟨#[]⟩⟩ HBAD.out HBL.out)
        · have hlen1 : k + 1 = s.size := by omega
          have HBAD := Lib.hid (HU.out.last hkl (by rw [← HSZ.out]; omega) (by rw [HD.out, HD92.out]))
          have q3 : ((k : Int) + 1 == (s.size : Int)) = true := by rw [beq_iff_eq]; omega
          clear hlen1
          have HB3 := Lib.hid (HT.out.box.set zV)
          have HBL := Lib.hid (below_set3 HT.out.below (Nat.le_refl _) zV)
          have c0 := HT.out.box.c0
          have c1 := HT.out.box.c1
          have c2 := HT.out.box.c2
          have f0 := HT.out.box.free 0
          have f1 := HT.out.box.free 1
          have f2 := HT.out.box.free 2
          have hlt2 : w.heap.size < wr.heap.size := by have := HT.out.size; omega
          go_wp2
          clear c0 c1 c2
          have c0 := HB3.out.c0
          have c1 := HB3.out.c1
          have c2 := HB3.out.c2
          unfold zV at c0 c1 c2
          exact bodyPost_ret (by simp [results, Tryd.results41, go_sem, c0, c1, c2]) rfl (say_no ⟨0, 0, ⟨#[]⟩⟩ HBAD.out HBL.out)
      · have q2 : ((d.toNat : Int) == 92) = false := beq92 h92
        have HU2 := Lib.hid (show Un l (k + 1) (done ++ [d]) by rw [← HD.out]; exact HU.out.go hkl (by rw [HD.out]; exact h92))
        clear h92
        go_wp2_with (at_builtin; go_loud (refine append_bytes rfl _ _ rfl (w.heap.size + 1) A n c done rfl _ [d] 1 HT.out.buf _ rfl (by simp) rfl [.int .u8 (d.toNat : Int)] rfl (by simp; have := HND.out; omega) ?_); intro A2 n2 c2 w2 hn2 hb2 hk2; have HT2 := Lib.hid (HT.out.more hk2.below hb2); clear hb2 hk2; subst hn2)
        have HLE := Lib.hid (show (done ++ [d]).length = n + 1 by rw [List.length_append]; have := HND.out; simp; omega)
        go_roundw
        case rel => exact ⟨_, _, _, _, k + 1, rfl, by go_num, by omega, by omega, HLE.out.symm, HT2, HU2⟩
        case measure => simp [intOf]; omega
    · have HE := Lib.hid (HU.out.end_ (by rw [← HSZ.out]; omega))
      have hcv := string_of_buf HT.out.buf
      have HB3 := Lib.hid (fun w2 (h : Below wr.heap.size wr w2) => (HT.out.box.below h).set ⟨3, 0, txt done⟩)
      have HBL := Lib.hid (fun w2 (h : Below wr.heap.size wr w2) => below_set3 (hop0 HT.out.below h) (Nat.le_refl _) ⟨3, 0, txt done⟩)
      have HLT := Lib.hid (fun w2 (h : Below wr.heap.size wr w2) => (show w.heap.size < w2.heap.size by have := HT.out.size; have := h.size; omega))
      by_cases h200 : n ≤ 200
      · have q1 : decide ((n : Int) ≤ 200) = true := decide_eq_true (by omega)
        have HX := Lib.hid (textO_some HE.out (by rw [← HND.out]; exact h200))
        go_wp2_with (go_at_call 51; refine (text_any _ _).mono ?_; unfold V.val; rintro e w2 ⟨rfl, hb⟩; have HB2 := Lib.hid hb; have c0 := (HT.out.box.below hb).c0; have c1 := (HT.out.box.below hb).c1; have c2 := (HT.out.box.below hb).c2; have f0 := (HT.out.box.below hb).free 0; have f1 := (HT.out.box.below hb).free 1; have f2 := (HT.out.box.below hb).free 2; have hlt2 := HLT.out w2 hb; clear hb)
        clear c0 c1 c2
        have c0 := (HB3.out _ HB2.out).c0
        have c1 := (HB3.out _ HB2.out).c1
        have c2 := (HB3.out _ HB2.out).c2
        exact bodyPost_ret (by simp [results, Tryd.results41, go_sem, c0, c1, c2]) rfl (say_yes HX.out (HBL.out _ HB2.out))
      · have q1 : decide ((n : Int) ≤ 200) = false := decide_eq_false (by omega)
        have HX := Lib.hid (textO_long HE.out (by rw [← HND.out]; exact h200))
        go_wp2_with (go_at_call 51; refine (text_any _ _).mono ?_; unfold V.val; rintro e w2 ⟨rfl, hb⟩; have HB2 := Lib.hid hb; have c0 := (HT.out.box.below hb).c0; have c1 := (HT.out.box.below hb).c1; have c2 := (HT.out.box.below hb).c2; have f0 := (HT.out.box.below hb).free 0; have f1 := (HT.out.box.below hb).free 1; have f2 := (HT.out.box.below hb).free 2; have hlt2 := HLT.out w2 hb; clear hb)
        clear c0 c1 c2
        have c0 := (HB3.out _ HB2.out).c0
        have c1 := (HB3.out _ HB2.out).c1
        have c2 := (HB3.out _ HB2.out).c2
        exact bodyPost_ret (by simp [results, Tryd.results41, go_sem, c0, c1, c2]) rfl (say_no ⟨3, 0, txt done⟩ HX.out (HBL.out _ HB2.out))
end Go.Proofs.YtfkfgabepjpdlaaDoor
