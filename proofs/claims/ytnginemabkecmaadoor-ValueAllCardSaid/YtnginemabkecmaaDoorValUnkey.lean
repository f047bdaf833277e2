/- The walk of Unkey. -/
import Derived.Test.YtnginemabkecmaaDoorValFirst
namespace Go.Proofs.YtnginemabkecmaaDoor
open Go.ChangeShapes Go.WideShapes Go.ChangeAt Go.RowKit
open Go.Lib (byteCells byteCells_length byteCells_append strCells)
set_option linter.unusedVariables false

/-- 'l = append(l, v)' of one value that has just been laid. -/
theorem append_val {ops : Array Oper} {rest : List Oper} {o : Oper} {a : Act} {Q : Exit → Act → World → Prop} (hgd : o.guard = none) (s x : Operand)
    (ho : o.op = .call { callee := .builtin .append, args := #[s, x], argTypes := #[24, 24] })
    (B : Nat) (A : Option Addr) (n c : Nat) (l : List V) (hs : a.eval s = .slice A n c) (w0 : World) (v : V) (hb : w0.ownsRow B 23 3 (.slice A n c) n (cellsOf l)) (hB : B ≤ w0.heap.size)
    (L : Nat) (hx : a.eval x = .slice (some ⟨L, 0, none⟩) 1 1) (hL : L = w0.heap.size) (hlen : n ≤ 65536) (cells : List Value) (hcells : cells = v.cells)
    (h : ∀ A' n' c' w', n' = n + 1 → w'.ownsRow B 23 3 (.slice A' n' c') n' (cellsOf (l ++ [v])) → Below B w0 w' → wpList Tryd.prog ops Q rest (a.put o.dst (.slice A' n' c')) w') :
    wpList Tryd.prog ops Q (o :: rest) a (w0.alloc (.cells cells.toArray 23)) := by
  subst hL
  subst hcells
  obtain ⟨i0, hi, hz0, hz1, hz2⟩ := info_parts infoVal
  have hb1 := hb.alloc (.cells v.cells.toArray 23)
  have hc : cellsOf [v] = v.cells := by simp [cellsOf]
  refine wpList_append_own_at _ hgd s x 24 ho B 23 i0 _ 3 32 Tryd.underlying24 hi hz0 hz1 hz2 rfl (by decide) (.slice A n c) n (cellsOf l) hs hb1 ⟨w0.heap.size, 0, none⟩ 1 1 v.cells hx rfl
    (new_cells w0 _ _) (by rw [← hc]; exact cells_one _) (by unfold maxLen; omega) (by omega) (by simp; omega) ?_
  intro v' w' hown hg _ _
  obtain ⟨A', c', rfl⟩ := own_slice hown
  refine h A' (n + 1) c' w' rfl (by rw [cellsOf_append, hc]; exact hown) ?_
  exact ((Below.refl B w0).alloc hB _).grown hg (by simp; omega) (fun k e => (hb.lt k e).1)

theorem first_no (s : ByteArray) (hs : s.size ≤ 1099511627776) (h0 : 0 < s.size) (w : World) (h : firstL s.data.toList = none) :
    Calls Tryd.prog 36 #[.string s] w fun e w' => e = .returned (.tuple #[.agg #[.int .i64 0, .int .i64 0, .string ⟨#[]⟩], .string ⟨#[]⟩, .bool false]) ∧ Below w.heap.size w w' := by
  have := first_any s hs h0 w
  rw [h] at this
  exact this
theorem first_yes (s : ByteArray) (hs : s.size ≤ 1099511627776) (h0 : 0 < s.size) (w : World) (v : V) (l : List UInt8) (h : firstL s.data.toList = some (v, l)) :
    Calls Tryd.prog 36 #[.string s] w fun e w' => e = .returned (.tuple #[.agg #[.int .i64 v.k, .int .i64 v.n, .string v.s], .string (txt l), .bool true]) ∧ Below w.heap.size w w' := by
  have := first_any s hs h0 w
  rw [h] at this
  exact this

def UnkeyPost (o : Option (List V)) (w : World) (e : Ending) (w' : World) : Prop :=
  match o with
  | none => e = .returned (.tuple #[.slice none 0 0, .int .i64 31]) ∧ Below w.heap.size w w'
  | some l => ∃ A c, e = .returned (.tuple #[.slice A l.length c, .int .i64 0]) ∧ w'.ownsRow w.heap.size 23 3 (.slice A l.length c) l.length (cellsOf l) ∧ Below w.heap.size w w'

/-- Between two rounds: l has been read; cs is left. -/
def Unkeying (s0 : List UInt8) (w : World) (l : List V) (cs : ByteArray) (A : Option Addr) (n c : Nat) (wr : World) : Prop :=
  n = l.length ∧ unkeyG 12 s0 = (unkeyG (12 - n) cs.data.toList).map (l ++ ·) ∧ wr.ownsRow w.heap.size 23 3 (.slice A n c) n (cellsOf l)

set_option maxHeartbeats 1000000 in
theorem unkey_any (s : ByteArray) (hs : s.size ≤ 1099511627776) (w : World) :
    Calls Tryd.prog 25 #[.string s] w (UnkeyPost (unkeyG 12 s.data.toList) w) := by
  obtain ⟨R, hR⟩ : ∃ R, unkeyG 12 s.data.toList = R := ⟨_, rfl⟩
  rw [hR]
  have HR := Lib.hid hR
  clear hR
  go_enter Tryd.func25, Tryd.ntmps25
  go_wp2
  go_loopw [0, 4] (fun sv lv wr => ∃ (l : List V) (cs : ByteArray) (A : Option Addr) (n c : Nat), cs.size ≤ s.size ∧ n ≤ 12 ∧ sv = .string cs ∧ lv = .slice A n c ∧ Below w.heap.size w wr ∧ Hid (Unkeying s.data.toList w l cs A n c wr)) (fun sv _ _ => (match sv with | .string b => b.size | _ => 0))
  case atStart =>
    refine ⟨[], s, none, 0, 0, Nat.le_refl _, by omega, rfl, rfl, Below.refl _ _, Lib.hid ⟨rfl, ?_, World.ownsRow_nil _ _ _ _⟩⟩
    simp
  case round =>
    obtain ⟨l, cs, A, n, c, hcs, hn, rfl, rfl, hbel, HU⟩ := hrel
    have hbs := hbel.size
    by_cases h0 : cs.size = 0
    · have he : cs.toList.isEmpty = true := by rw [isEmpty_size, decide_eq_true h0]
      have hne : cs.toList = [] := by rw [toList_nil, h0]
      have HF := Lib.hid (show UnkeyPost R w (.returned (.tuple #[.slice A n c, .int .i64 0])) wr from by
        obtain ⟨hnl, hu, ho⟩ := HU.out
        rw [show cs.data.toList = [] from List.eq_nil_of_length_eq_zero (by rw [← size_eq]; exact h0), unkeyG_nil, HR.out] at hu
        simp only [Option.map_some, List.append_nil] at hu
        rw [hu]
        subst hnl
        exact ⟨A, c, rfl, ho, hbel⟩)
      clear HU h0
      go_wp2
      go_ret2
      exact HF.out
    · have h1 : 0 < cs.size := by omega
      have he : cs.toList.isEmpty = false := by rw [isEmpty_size, decide_eq_false h0]
      have hne : ¬ cs.toList = [] := by rw [toList_nil]; exact h0
      have hcb : cs.size ≤ 1099511627776 := by omega
      have hnn : cs.data.toList ≠ [] := fun h => h0 (by rw [size_eq, h]; rfl)
      rcases hF : firstL cs.data.toList with _ | ⟨v, r⟩
      · have HE := Lib.hid hF
        have HF := Lib.hid (show R = none from by
          obtain ⟨hnl, hu, ho⟩ := HU.out
          rw [unkeyG_bad hnn hF, HR.out] at hu
          exact hu)
        clear HU hF hnn h0
        rw [HF.out]
        go_wp2_with (go_at_call 36; refine (first_no cs hcb h1 _ HE.out).mono ?_; rintro e w2 ⟨rfl, hb⟩; have HB2 := Lib.hid hb; clear hb)
        go_ret2
        exact ⟨rfl, (hbel.trans (HB2.out.mono hbs)).alloc (by have := HB2.out.size; omega) _⟩
      · have HE := Lib.hid hF
        have hlen := first_len hF
        by_cases h12 : n = 12
        · have e12 : ((n : Int) == 12) = true := by rw [beq_iff_eq]; omega
          have HF := Lib.hid (show R = none from by
            obtain ⟨hnl, hu, ho⟩ := HU.out
            rw [h12, Nat.sub_self, unkeyG_zero hnn, HR.out] at hu
            exact hu)
          clear HU hF hnn h0 h12
          rw [HF.out]
          go_wp2_with (go_at_call 36; refine (first_yes cs hcb h1 _ v r HE.out).mono ?_; rintro e w2 ⟨rfl, hb⟩; have HB2 := Lib.hid hb; clear hb)
          go_ret2
          exact ⟨rfl, (hbel.trans (HB2.out.mono hbs)).alloc (by have := HB2.out.size; omega) _⟩
        · have e12 : ((n : Int) == 12) = false := by rw [beq_eq_false_iff_ne]; omega
          have hrl : (txt r).size < cs.size := by rw [txt_size, size_eq]; exact hlen
          have HUU := Lib.hid (show unkeyG 12 s.data.toList = (unkeyG (12 - (n + 1)) (txt r).data.toList).map ((l ++ [v]) ++ ·) from by
            obtain ⟨hnl, hu, ho⟩ := HU.out
            rw [hu, show 12 - n = (12 - (n + 1)) + 1 by omega, unkeyG_step hF, txt_list]
            cases unkeyG (12 - (n + 1)) r <;> simp)
          have HO := Lib.hid HU.out.2.2
          have HN := Lib.hid HU.out.1
          have hn2 : n + 1 ≤ 12 := by omega
          have hrs : (txt r).size ≤ s.size := by omega
          clear HU hF hnn h0 h12 hlen
          go_wp2_with (first | (go_at_call 36; refine (first_yes cs hcb h1 _ v r HE.out).mono ?_; rintro e w2 ⟨rfl, hb⟩; have HB2 := Lib.hid (hbel.trans (hb.mono hbs)); have HO2 := Lib.hid (own_below HO.out hb); clear hb) | (at_builtin; go_loud (refine append_val rfl _ _ rfl w.heap.size A n c l rfl _ v (HO2.out.alloc _) (by have := HB2.out.size; simp; omega) _ rfl (by simp) (by omega) [_, _, _] rfl ?_); intro A3 n3 c3 w3 hn3 ho3 hb3; have HO3 := Lib.hid ho3; have HB3 := Lib.hid (((HB2.out.alloc (by have := HB2.out.size; omega) _)).trans hb3); clear ho3 hb3; subst hn3))
          go_roundw
          case rel => exact ⟨l ++ [v], txt r, A3, n + 1, c3, hrs, hn2, rfl, rfl, HB3.out, Lib.hid ⟨by rw [HN.out]; simp, HUU.out, HO3.out⟩⟩
          case measure => exact hrl
end Go.Proofs.YtnginemabkecmaaDoor
