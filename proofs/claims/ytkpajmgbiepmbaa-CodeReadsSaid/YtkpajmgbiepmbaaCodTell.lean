/- The walks of Rows, Cols, Pairs, Nums. -/
import Derived.Test.YtkpajmgbiepmbaaCodWithin
namespace Go.Proofs.Ytkpajmgbiepmbaa
open Go.ChangeShapes Go.WideShapes Go.ChangeAt Go.RowKit
open Go.Lib (byteCells byteCells_length byteCells_append strCells)
set_option linter.unusedVariables false

def TellPost (o : Option (List UInt8)) (w : World) (e : Ending) (w' : World) : Prop :=
  match o with
  | none => e = .returned (.tuple #[.slice none 0 0, .int .i64 41]) ∧ Below w.heap.size w w'
  | some bs => ∃ A n c, e = .returned (.tuple #[.slice A n c, .int .i64 0]) ∧ Buf w.heap.size A n c bs w' ∧ Below w.heap.size w w'

theorem intL_len {n : Int} (h : in64 n) : (intL n).length ≤ 10 := numL_len64 (zig_lt h)
theorem wordL_len {s : ByteArray} (h : s.size < 18446744073709551616) : (wordL s).length ≤ 10 + s.size := by
  have := numL_len64 h
  unfold wordL
  rw [List.length_append, ← size_eq]
  omega
theorem valL_len {v : V} (h : okV v) : (valL v).length ≤ 211 := by
  obtain ⟨k, n, s⟩ := v
  obtain ⟨hc, wk, wn, ws⟩ := h
  simp only at wk wn ws
  have h1 := intL_len wn
  have h2 := wordL_len (s := s) (by omega)
  rcases chk_kinds hc with ⟨h, _⟩ | ⟨h, _⟩ | ⟨h, _⟩ | ⟨h, _, h3⟩
  · simp only at h; subst h; simp [valL]
  · simp only at h; subst h; simp [valL]; omega
  · simp only at h; subst h; simp [valL]
  · simp only at h h3; subst h; simp [valL]; omega
theorem flat_le {α : Type} {enc : α → List UInt8} {m : Nat} : ∀ (l : List α), (∀ a ∈ l, (enc a).length ≤ m) → (l.flatMap enc).length ≤ m * l.length
  | [], _ => by simp
  | a :: l, h => by
    have h1 := flat_le l (fun x hx => h x (by simp [hx]))
    have h2 := h a (by simp)
    simp only [List.flatMap_cons, List.length_append, List.length_cons, Nat.mul_add, Nat.mul_one]
    omega
theorem listL_le {α : Type} {enc : α → List UInt8} {m : Nat} {l : List α} (hl : l.length < 18446744073709551616) (h : ∀ a ∈ l, (enc a).length ≤ m) : (listL enc l).length ≤ 10 + m * l.length := by
  have h1 := numL_len64 hl
  have h2 := flat_le l h
  unfold listL
  rw [List.length_append]
  omega
theorem rowL_len {l : List V} (h : okR l) : (rowL l).length ≤ 2542 := by
  have := listL_le (enc := valL) (m := 211) (l := l) (by have := h.1; omega) (fun a ha => valL_len (h.2 a ha))
  have := h.1
  unfold rowL
  omega
theorem rowL_pos (l : List V) : 0 < (rowL l).length := by
  have := numL_pos l.length
  unfold rowL listL
  rw [List.length_append]
  omega
theorem valL_pos (v : V) : 0 < (valL v).length := by simp [valL]
theorem okR_of {l : List V} (hb : rowB l = true) (hw : ∀ v ∈ l, v.wf) : okR l := by
  unfold rowB allB at hb
  simp only [Bool.and_eq_true, decide_eq_true_eq, List.all_eq_true, beq_iff_eq] at hb
  exact ⟨hb.1, fun v hv => ⟨hb.2 v hv, hw v hv⟩⟩
theorem rowB_of {l : List V} (h : okR l) : rowB l = true := by
  unfold rowB allB
  simp only [Bool.and_eq_true, decide_eq_true_eq, List.all_eq_true, beq_iff_eq]
  exact ⟨h.1, fun v hv => (h.2 v hv).1⟩

theorem run_equalIn_func_nil (w : World) (d : Nat) (t : TypeId) (x y : Array TypeId) (z : Bool) (fn : Fn) (a b : Array Value) (h : Try.prog.underlying t = some (.func x y z)) : (Op.equalIn (d + 1) t (.func fn a b) .nilFunc).run Try.prog w = .ok false w := by
  simp [Op.equalIn, run_underlying h]
theorem run_eql_func_nil (w : World) (t : TypeId) (x y : Array TypeId) (z : Bool) (fn : Fn) (a b : Array Value) (h : Try.prog.underlying t = some (.func x y z)) : (binOp .eql t (.func fn a b) .nilFunc).run Try.prog w = .ok (.bool false) w := by
  simp only [binOp]
  simp [Op.equal, Op.maxDepth, run_equalIn_func_nil w 9999 t x y z fn a b h]
set_option maxRecDepth 4000 in
set_option maxHeartbeats 1000000 in
theorem vlist_walk (l : List V) (h : okR l) (A : Option Addr) (n c : Nat) (w : World) (hn : n = l.length) (hat : Row3 w w.heap.size A l) :
    Calls Try.prog 65 #[.slice A n c, .func (.func 66) #[] #[]] w (BufPost (rowL l) w) := by
  have H := Lib.hid (within_val l A n c w hn (by have := h.1; omega) hat.c (fun j hj W _ => value_walk l[j] (h.2 _ (List.getElem_mem hj)) W) (fun a _ => valL_pos a) (by have := rowL_len h; unfold rowL at this; omega))
  have hnil : ∀ w, (binOp .eql 111 (.func (.func 66) #[] #[]) .nilFunc).run Try.prog w = .ok (.bool false) w := fun w => run_eql_func_nil w _ _ _ _ _ _ _ Try.underlying111
  clear hn hat
  go_enter Try.func65, Try.ntmps65
  go_wp2_with (go_at_call 85; refine H.out.mono ?_; rintro e w1 ⟨A1, n1, c1, rfl, hb1, hbel1⟩; have HB1 := Lib.hid hb1; have HBel1 := Lib.hid hbel1; clear hb1 hbel1)
  go_ret
  exact ⟨A1, n1, c1, rfl, HB1.out, HBel1.out⟩
theorem rowbytes_walk (l : List V) (h : okR l) (A : Option Addr) (n c : Nat) (w : World) (hn : n = l.length) (hat : Row3 w w.heap.size A l) :
    Calls Try.prog 39 #[.slice A n c] w (BufPost (rowL l) w) := by
  have H := Lib.hid (vlist_walk l h A n c w hn hat)
  clear hn hat
  go_enter Try.func39, Try.ntmps39
  go_wp2_with (go_at_call 65; refine H.out.mono ?_; rintro e w1 ⟨A1, n1, c1, rfl, hb1, hbel1⟩; have HB1 := Lib.hid hb1; have HBel1 := Lib.hid hbel1; clear hb1 hbel1)
  go_ret
  exact ⟨A1, n1, c1, rfl, HB1.out, HBel1.out⟩

set_option maxRecDepth 4000 in
theorem nums_walk (l : List Int) (hw : ∀ n ∈ l, in64 n) (A : Option Addr) (n c : Nat) (w : World) (hn : n = l.length) (hm : n ≤ 1048576) (hat : RowC iCells 1 w w.heap.size A l) :
    Calls Try.prog 22 #[.slice A n c] w (TellPost (some (listL intL l)) w) := by
  have H := Lib.hid (within_int l A n c w hn (by omega) hat (fun j hj W _ => int_walk l[j] (hw _ (List.getElem_mem hj)) W) (fun a _ => numL_pos _) (by have := listL_le (enc := intL) (m := 10) (l := l) (by omega) (fun a ha => intL_len (hw a ha)); omega))
  clear hn hat
  go_enter Try.func22, Try.ntmps22
  go_wp2_with (go_at_call 47; refine H.out.mono ?_; rintro e w1 ⟨A1, n1, c1, rfl, hb1, hbel1⟩; have HB1 := Lib.hid hb1; have HBel1 := Lib.hid hbel1; clear hb1 hbel1)
  go_ret2
  exact ⟨A1, n1, c1, rfl, HB1.out, HBel1.out⟩
set_option maxRecDepth 4000 in
theorem pairs_walk (l : List Pa) (hw : ∀ p ∈ l, p.s.size ≤ 274877906944 ∧ p.t.size ≤ 274877906944) (htot : (listL pairL l).length ≤ 16777216) (A : Option Addr) (n c : Nat) (w : World) (hn : n = l.length) (hm : n ≤ 1099511627776) (hat : RowC pCells 2 w w.heap.size A l) :
    Calls Try.prog 20 #[.slice A n c] w (TellPost (some (listL pairL l)) w) := by
  have H := Lib.hid (within_pair l A n c w hn hm hat (fun j hj W _ => pair_walk l[j] (hw _ (List.getElem_mem hj)).1 (hw _ (List.getElem_mem hj)).2 W) (fun a ha => pair_codec.pos a ⟨by have := (hw a ha).1; omega, by have := (hw a ha).2; omega⟩) htot)
  clear hn hat
  go_enter Try.func20, Try.ntmps20
  go_wp2_with (go_at_call 45; refine H.out.mono ?_; rintro e w1 ⟨A1, n1, c1, rfl, hb1, hbel1⟩; have HB1 := Lib.hid hb1; have HBel1 := Lib.hid hbel1; clear hb1 hbel1)
  go_ret2
  exact ⟨A1, n1, c1, rfl, HB1.out, HBel1.out⟩

def colB (c : Co) : Bool := decide (0 ≤ c.k) && decide (c.k ≤ 255)
def colsO (l : List Co) : Option (List UInt8) := if l.all colB then some (listL colL l) else none
theorem colsO_bad {l : List Co} {c : Co} (hm : c ∈ l) (h : ¬ (0 ≤ c.k ∧ c.k ≤ 255)) : colsO l = none := by
  unfold colsO
  rw [if_neg]
  intro h2
  have := List.all_eq_true.1 h2 c hm
  unfold colB at this
  simp at this
  omega
theorem colsO_all {l : List Co} (h : ∀ c ∈ l, 0 ≤ c.k ∧ c.k ≤ 255) : colsO l = some (listL colL l) := by
  unfold colsO
  rw [if_pos]
  rw [List.all_eq_true]
  intro c hc
  have := h c hc
  unfold colB
  simp
  omega
set_option maxHeartbeats 1000000 in
theorem cols_walk (l : List Co) (hw : ∀ c ∈ l, c.s.size ≤ 274877906944) (htot : (listL colL l).length ≤ 16777216) (A : Option Addr) (n c : Nat) (w : World) (hn : n = l.length) (hm : n ≤ 1099511627776) (hat : RowC cCells 2 w w.heap.size A l) :
    Calls Try.prog 18 #[.slice A n c] w (TellPost (colsO l) w) := by
  have HN := Lib.hid hn
  have HA := Lib.hid hat
  have HT := Lib.hid htot
  have HW := Lib.hid hw
  clear hn hat htot hw
  go_enter Try.func18, Try.ntmps18
  go_wp2
  go_loopw [8] (fun iv wr => ∃ (k : Nat), k ≤ n ∧ iv = .int .i64 (k : Int) ∧ Hid (∀ j (h : j < l.length), j < k → 0 ≤ l[j].k ∧ l[j].k ≤ 255) ∧ Hid (Below w.heap.size w wr)) (fun iv _ => n - (intOf iv).toNat)
  case atStart => exact ⟨0, Nat.zero_le _, rfl, Lib.hid (fun j _ h => by omega), Lib.hid (Below.refl _ _)⟩
  case round =>
    obtain ⟨k, hk, rfl, HK, HBel⟩ := hrel
    by_cases hlt : k < n
    · have hkl : k < l.length := by rw [← HN.out]; exact hlt
      obtain ⟨b, off, rfl, hB, hc⟩ := (HA.out.below HBel.out) k hkl
      have c0 := hc 0 _ rfl
      have c1 := hc 1 _ rfl
      rw [Nat.add_zero] at c0
      obtain ⟨x, hx⟩ : ∃ x, l[k] = x := ⟨_, rfl⟩
      simp only [hx] at c0 c1
      have hbs := HBel.out.size
      have HX := Lib.hid hx
      clear hx hc
      by_cases h0 : 0 ≤ x.k ∧ x.k ≤ 255
      · have HK2 := Lib.hid (show ∀ j (h : j < l.length), j < k + 1 → 0 ≤ l[j].k ∧ l[j].k ≤ 255 by
          intro j hj hjk
          by_cases e : j = k
          · subst e
            rw [HX.out]
            exact h0
          · exact HK.out j hj (by omega))
        have g0 : ¬ x.k < 0 := by omega
        have g1 : ¬ (255 : Int) < x.k := by omega
        clear h0
        go_wp2
        go_roundw
        case rel => exact ⟨k + 1, by omega, by go_num, HK2, Lib.hid (HBel.out.alloc hbs _)⟩
        case measure => simp [intOf]; omega
      · have HF := Lib.hid (colsO_bad (by rw [← HX.out]; exact List.getElem_mem hkl) h0)
        by_cases g0 : x.k < 0
        · clear h0
          go_wp2
          go_ret2
          rw [HF.out]
          exact ⟨rfl, HBel.out.alloc hbs _⟩
        · have g1 : (255 : Int) < x.k := by omega
          clear h0
          go_wp2
          go_ret2
          rw [HF.out]
          exact ⟨rfl, HBel.out.alloc hbs _⟩
    · have hall : ∀ c ∈ l, 0 ≤ c.k ∧ c.k ≤ 255 := by
        intro c hc
        obtain ⟨j, hj, rfl⟩ := List.getElem_of_mem hc
        exact HK.out j hj (by rw [← HN.out] at hj; omega)
      have HF := Lib.hid (colsO_all hall)
      have H := Lib.hid (within_col l A n c wr HN.out hm ((HA.out.below HBel.out).more HBel.out.size) (fun j hj W _ => col_walk l[j] (HW.out _ (List.getElem_mem hj)) (hall _ (List.getElem_mem hj)).1 (hall _ (List.getElem_mem hj)).2 W) (fun a ha => col_codec.pos a ⟨by have := HW.out a ha; omega, (hall a ha).1, (hall a ha).2⟩) HT.out)
      clear hall
      go_wp2_with (go_at_call 42; refine H.out.mono ?_; rintro e w1 ⟨A1, n1, c1, rfl, hb1, hbel1⟩; have HB1 := Lib.hid hb1; have HBel1 := Lib.hid hbel1; clear hb1 hbel1)
      go_ret2
      rw [HF.out]
      exact ⟨A1, n1, c1, rfl, HB1.out.more HBel.out.size, HBel.out.trans (HBel1.out.mono HBel.out.size)⟩

def rowsO (l : List Rw) : Option (List UInt8) := if l.all (fun r => rowB r.l) then some (listL rwL l) else none
theorem rowsO_bad {l : List Rw} {r : Rw} (hm : r ∈ l) (h : rowB r.l = false) : rowsO l = none := by
  unfold rowsO
  rw [if_neg]
  intro h2
  have := List.all_eq_true.1 h2 r hm
  rw [h] at this
  cases this
theorem rowsO_all {l : List Rw} (h : ∀ r ∈ l, rowB r.l = true) : rowsO l = some (listL rwL l) := by
  unfold rowsO
  rw [if_pos]
  rw [List.all_eq_true]
  exact h
/-- What is known of rows that lie in memory. -/
def RowsIn (w : World) (B : Nat) (A : Option Addr) (l : List Rw) : Prop := RowC rCells 1 w B A l ∧ ∀ r ∈ l, Row3 w B r.a r.l ∧ (∀ v ∈ r.l, v.wf) ∧ r.l.length ≤ maxLen
theorem RowsIn.below {w w' : World} {B : Nat} {A : Option Addr} {l : List Rw} (h : RowsIn w B A l) (hb : Below B w w') : RowsIn w' B A l := ⟨h.1.below hb, fun r hr => ⟨(h.2 r hr).1.below hb, (h.2 r hr).2⟩⟩
theorem RowsIn.more {w : World} {B B' : Nat} {A : Option Addr} {l : List Rw} (h : RowsIn w B A l) (hb : B ≤ B') : RowsIn w B' A l := ⟨h.1.more hb, fun r hr => ⟨(h.2 r hr).1.more hb, (h.2 r hr).2⟩⟩
set_option maxHeartbeats 1000000 in
theorem rows_walk (l : List Rw) (A : Option Addr) (n c : Nat) (w : World) (hn : n = l.length) (hm : n ≤ 4096) (hat : RowsIn w w.heap.size A l) :
    Calls Try.prog 15 #[.slice A n c] w (TellPost (rowsO l) w) := by
  have HN := Lib.hid hn
  have HA := Lib.hid hat
  clear hn hat
  go_enter Try.func15, Try.ntmps15
  go_wp2
  go_loopw [8] (fun iv wr => ∃ (k : Nat), k ≤ n ∧ iv = .int .i64 (k : Int) ∧ Hid (∀ j (h : j < l.length), j < k → rowB l[j].l = true) ∧ Hid (Below w.heap.size w wr)) (fun iv _ => n - (intOf iv).toNat)
  case atStart => exact ⟨0, Nat.zero_le _, rfl, Lib.hid (fun j _ h => by omega), Lib.hid (Below.refl _ _)⟩
  case round =>
    obtain ⟨k, hk, rfl, HK, HBel⟩ := hrel
    by_cases hlt : k < n
    · have hkl : k < l.length := by rw [← HN.out]; exact hlt
      obtain ⟨b, off, rfl, hB, hc⟩ := (HA.out.1.below HBel.out) k hkl
      have c0 := hc 0 _ rfl
      rw [Nat.mul_one, Nat.add_zero] at c0
      obtain ⟨x, hx⟩ : ∃ x, l[k] = x := ⟨_, rfl⟩
      simp only [hx, Rw.val] at c0
      have hbs := HBel.out.size
      have HR := Lib.hid (HA.out.2 x (by rw [← hx]; exact List.getElem_mem hkl))
      have HX := Lib.hid hx
      clear hx hc
      have HC := Lib.hid (row_any x.l HR.out.2.1 x.l.length x.c x.a wr rfl HR.out.2.2 ((HR.out.1.below HBel.out).more hbs))
      cases hb : rowB x.l
      · have HF := Lib.hid (rowsO_bad (by rw [← HX.out]; exact List.getElem_mem hkl) hb)
        rw [hb] at HC
        clear hb
        go_wp2_with (go_at_call 37; refine HC.out.mono ?_; rintro e w1 ⟨rfl, hbel1⟩; have HBel1 := Lib.hid hbel1; clear hbel1)
        go_ret2
        rw [HF.out]
        exact ⟨rfl, hop HBel.out HBel1.out⟩
      · have HK2 := Lib.hid (show ∀ j (h : j < l.length), j < k + 1 → rowB l[j].l = true by
          intro j hj hjk
          by_cases e : j = k
          · subst e
            rw [HX.out]
            exact hb
          · exact HK.out j hj (by omega))
        rw [hb] at HC
        clear hb
        go_wp2_with (go_at_call 37; refine HC.out.mono ?_; rintro e w1 ⟨rfl, hbel1⟩; have HBel1 := Lib.hid hbel1; clear hbel1)
        go_roundw
        case rel => exact ⟨k + 1, by omega, by go_num, HK2, Lib.hid (hop HBel.out HBel1.out)⟩
        case measure => simp [intOf]; omega
    · have hall : ∀ r ∈ l, rowB r.l = true := by
        intro c hc
        obtain ⟨j, hj, rfl⟩ := List.getElem_of_mem hc
        exact HK.out j hj (by rw [← HN.out] at hj; omega)
      have HF := Lib.hid (rowsO_all hall)
      have hok : ∀ r ∈ l, okR r.l := fun r hr => okR_of (hall r hr) (HA.out.2 r hr).2.1
      have H := Lib.hid (within_row l A n c wr HN.out (by omega) ((HA.out.1.below HBel.out).more HBel.out.size) (fun j hj W hbW => rowbytes_walk l[j].l (hok _ (List.getElem_mem hj)) l[j].a l[j].l.length l[j].c W rfl (((HA.out.2 _ (List.getElem_mem hj)).1.below (hop HBel.out hbW)).more (hop HBel.out hbW).size)) (fun a ha => rowL_pos _) (by
        have := listL_le (enc := rwL) (m := 2542) (l := l) (by rw [← HN.out]; omega) (fun a ha => rowL_len (hok a ha))
        rw [← HN.out] at this
        omega))
      clear hall hok
      go_wp2_with (go_at_call 38; refine H.out.mono ?_; rintro e w1 ⟨A1, n1, c1, rfl, hb1, hbel1⟩; have HB1 := Lib.hid hb1; have HBel1 := Lib.hid hbel1; clear hb1 hbel1)
      go_ret2
      rw [HF.out]
      exact ⟨A1, n1, c1, rfl, HB1.out.more HBel.out.size, HBel.out.trans (HBel1.out.mono HBel.out.size)⟩
end Go.Proofs.Ytkpajmgbiepmbaa
