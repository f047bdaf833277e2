/- Several texts in one: MlA, MlB. -/
import Derived.Test.YtnkhgajghfonhaaGreatDoorFsMem
/- metalog: the table's rows, where they stand. -/
namespace Go.Proofs.YtnkhgajghfonhaaGreatDoor
open Go.ChangeShapes Go.WideShapes Go.ChangeAt Go.RowKit
set_option linter.unusedVariables false

/-- A row of a table: a number, bytes, whether they are in the greatest fold or a single; and where the bytes lie. -/
structure Mr where
  id : Int
  b : List UInt8
  fo : Bool
  si : Bool
  A : Option Addr
  c : Nat
def mrVal (r : Mr) : Value := .agg #[.slice r.A r.b.length r.c, .bool r.fo, .bool r.si]
def mrCells (r : Mr) : List Value := [.int .i64 r.id, .slice r.A r.b.length r.c, .bool r.fo, .bool r.si]
theorem mrCells_length (r : Mr) : (mrCells r).length = 4 := rfl
theorem mrCells_one (r : Mr) : ∀ u ∈ mrCells r, u.oneCell' = true := by simp [mrCells, Value.oneCell']
theorem infoMr : (Tryz.prog.info? 123).map (fun i => (i.zero, i.size, i.bytes)) = some (some (Value.agg #[.int .i64 0, .slice none 0 0, .bool false, .bool false]), 4, 40) := by kernel_rfl

/-- The rows rise. -/
def Rise (l : List Mr) : Prop := ∀ i j (hi : i < l.length) (hj : j < l.length), i < j → l[i].id < l[j].id
/-- Where a number stands, or would. -/
def atI (l : List Mr) (t : Int) : Nat := (l.filter fun r => decide (r.id < t)).length
def hasI (l : List Mr) (t : Int) : Bool := l.any fun r => decide (r.id = t)
structure IsAt (l : List Mr) (t : Int) (k : Nat) : Prop where
  le : k ≤ l.length
  lt : ∀ j (h : j < l.length), j < k → l[j].id < t
  ge : ∀ j (h : j < l.length), k ≤ j → t ≤ l[j].id
theorem IsAt.eq {l : List Mr} {t : Int} {k : Nat} (h : IsAt l t k) : atI l t = k := by
  have h1 : l = l.take k ++ l.drop k := (List.take_append_drop k l).symm
  unfold atI
  rw [h1, List.filter_append, List.length_append]
  have e1 : (l.take k).filter (fun r => decide (r.id < t)) = l.take k := by
    rw [List.filter_eq_self]
    intro r hr
    obtain ⟨j, hj, rfl⟩ := List.getElem_of_mem hr
    have hj' := hj
    rw [List.length_take] at hj'
    rw [List.getElem_take]
    exact decide_eq_true (h.lt j (by omega) (by omega))
  have e2 : (l.drop k).filter (fun r => decide (r.id < t)) = [] := by
    rw [List.filter_eq_nil_iff]
    intro r hr
    obtain ⟨j, hj, rfl⟩ := List.getElem_of_mem hr
    have hj' := hj
    rw [List.length_drop] at hj'
    rw [List.getElem_drop]
    have := h.ge (k + j) (by omega) (by omega)
    simp only [decide_eq_true_eq]
    omega
  rw [e1, e2, List.length_take]
  have := h.le
  simp
  omega
theorem Rise.at_ {l : List Mr} (hr : Rise l) (t : Int) : IsAt l t (atI l t) := by
  have key : ∃ k, IsAt l t k := by
    induction l with
    | nil => exact ⟨0, Nat.le_refl _, fun j h => absurd h (by simp), fun j h => absurd h (by simp)⟩
    | cons a l ih =>
      have hl : Rise l := fun i j hi hj hij => hr (i + 1) (j + 1) (by simp; omega) (by simp; omega) (by omega)
      obtain ⟨k, hk⟩ := ih hl
      by_cases ha : a.id < t
      · refine ⟨k + 1, by have := hk.le; simp; omega, fun j h hj => ?_, fun j h hj => ?_⟩
        · cases j with
          | zero => exact ha
          | succ j => exact hk.lt j (by simp at h; omega) (by omega)
        · cases j with
          | zero => omega
          | succ j => exact hk.ge j (by simp at h; omega) (by omega)
      · refine ⟨0, Nat.zero_le _, fun j h hj => absurd hj (by omega), fun j h hj => ?_⟩
        cases j with
        | zero => simpa using ha
        | succ j =>
          have := hr 0 (j + 1) (by simp) h (by omega)
          simp only [List.getElem_cons_zero] at this
          omega
  obtain ⟨k, hk⟩ := key
  rw [hk.eq]
  exact hk
theorem IsAt.has {l : List Mr} {t : Int} {k : Nat} (h : IsAt l t k) (hr : Rise l) : hasI l t = (if hk : k < l.length then decide (l[k].id = t) else false) := by
  unfold hasI
  split
  · rename_i hk
    by_cases e : l[k].id = t
    · rw [decide_eq_true e, List.any_eq_true]
      exact ⟨l[k], List.getElem_mem hk, decide_eq_true e⟩
    · rw [decide_eq_false e, List.any_eq_false]
      intro r hr'
      obtain ⟨j, hj, rfl⟩ := List.getElem_of_mem hr'
      simp only [decide_eq_true_eq]
      intro e2
      by_cases hjk : j < k
      · have := h.lt j hj hjk; omega
      · by_cases hjk2 : j = k
        · subst hjk2; exact e e2
        · have h1 := h.ge k hk (Nat.le_refl _)
          have h2 := hr k j hk hj (by omega)
          omega
  · rename_i hk
    rw [List.any_eq_false]
    intro r hr'
    obtain ⟨j, hj, rfl⟩ := List.getElem_of_mem hr'
    simp only [decide_eq_true_eq]
    have := h.lt j hj (by omega)
    omega

theorem isNaN_i (x : Int) (w : World) : Calls Tryz.prog 140 #[.int .i64 x] w fun e w' => e = .returned (.bool false) ∧ w = w' := by
  go_enter Tryz.func140, Tryz.ntmps140
  go_wp2
  go_ret
  exact ⟨by simp, rfl⟩
def cmpI (x y : Int) : Int := if x < y then -1 else if y < x then 1 else 0
theorem compare_i (x y : Int) (w : World) : Calls Tryz.prog 94 #[.int .i64 x, .int .i64 y] w fun e w' => e = .returned (.int .i64 (cmpI x y)) ∧ w = w' := by
  unfold cmpI
  by_cases h1 : x < y
  · rw [if_pos h1]
    go_enter Tryz.func94, Tryz.ntmps94
    go_wp2_with (go_at_call 140; refine (isNaN_i _ _).mono ?_; rintro e w' ⟨rfl, rfl⟩)
    go_ret
    exact ⟨rfl, rfl⟩
  · rw [if_neg h1]
    by_cases h2 : y < x
    · rw [if_pos h2]
      go_enter Tryz.func94, Tryz.ntmps94
      go_wp2_with (go_at_call 140; refine (isNaN_i _ _).mono ?_; rintro e w' ⟨rfl, rfl⟩)
      go_ret
      exact ⟨rfl, rfl⟩
    · rw [if_neg h2]
      go_enter Tryz.func94, Tryz.ntmps94
      go_wp2_with (go_at_call 140; refine (isNaN_i _ _).mono ?_; rintro e w' ⟨rfl, rfl⟩)
      go_ret
      exact ⟨rfl, rfl⟩
theorem find1_any (r : Mr) (t : Int) (w : World) : Calls Tryz.prog 93 #[.agg #[.int .i64 r.id, .slice r.A r.b.length r.c, .bool r.fo, .bool r.si], .int .i64 t] w fun e w' => e = .returned (.int .i64 (cmpI r.id t)) ∧ Below w.heap.size w w' := by
  go_enter Tryz.func93, Tryz.ntmps93
  go_wp2_with (go_at_call 94; refine (compare_i _ _ _).mono ?_; rintro e w' ⟨rfl, rfl⟩)
  go_ret
  exact ⟨rfl, (Below.refl _ w).alloc (Nat.le_refl _) _⟩
theorem cmpI_lt {x y : Int} (h : x < y) : cmpI x y = -1 := if_pos h
theorem cmpI_ge {x y : Int} (h : ¬ x < y) : ¬ cmpI x y < 0 := by unfold cmpI; rw [if_neg h]; split <;> omega
theorem cmpI_eq {x y : Int} : cmpI x y = 0 ↔ x = y := by
  unfold cmpI
  split
  · omega
  · split <;> omega

set_option maxRecDepth 4000 in
set_option maxHeartbeats 2000000 in
theorem search_any (l : List Mr) (hr : Rise l) (t : Int) (A : Option Addr) (n c : Nat) (w : World) (hn : n = l.length) (hm : n ≤ 1000000000000) (hat : RowC mrCells 4 w w.heap.size A l) :
    Calls Tryz.prog 92 #[.slice A n c, .int .i64 t, .func (.func 93) #[] #[]] w fun e w' => e = .returned (.tuple #[.int .i64 (atI l t : Int), .bool (hasI l t)]) ∧ Below w.heap.size w w' := by
  have HN := Lib.hid hn
  have HA := Lib.hid hat
  have HR := Lib.hid hr
  have HC := fun (r : Mr) (W : World) => find1_any r t W
  clear hat hn hr
  go_enter Tryz.func92, Tryz.ntmps92
  go_wp2
  go_loopw [9, 10] (fun iv jv wr => ∃ i j : Nat, i ≤ j ∧ j ≤ n ∧ iv = .int .i64 (i : Int) ∧ jv = .int .i64 (j : Int) ∧ Hid (∀ u (h : u < l.length), u < i → l[u].id < t) ∧ Hid (∀ u (h : u < l.length), j ≤ u → t ≤ l[u].id) ∧ Hid (Below w.heap.size w wr)) (fun iv jv _ => (intOf jv).toNat - (intOf iv).toNat)
  case atStart => exact ⟨0, n, Nat.zero_le _, Nat.le_refl _, rfl, rfl, Lib.hid (fun u _ h => absurd h (by omega)), Lib.hid (fun u h1 h2 => absurd h2 (by rw [HN.out]; omega)), Lib.hid (Below.refl _ _)⟩
  case round =>
    obtain ⟨i, j, hij, hj, rfl, rfl, HL, HG, HB⟩ := hrel
    by_cases hlt : i < j
    · have l1 : (i : Int) < (j : Int) := by omega
      obtain ⟨m, hmd⟩ : ∃ m : Nat, (i + j) / 2 = m := ⟨_, rfl⟩
      have em : ((i : Int) + (j : Int)) / 2 = (m : Int) := by omega
      have hml : m < l.length := by rw [← HN.out]; omega
      have hmi : i ≤ m := by omega
      have hmj : m < j := by omega
      have hmn : m < n := by omega
      clear hmd
      obtain ⟨b, off, rfl, hb, hc⟩ := (HA.out.below HB.out) m hml
      have c0 := hc 0 _ rfl
      have c1 := hc 1 _ rfl
      have c2 := hc 2 _ rfl
      have c3 := hc 3 _ rfl
      rw [Nat.add_zero] at c0
      have HX := Lib.hid (fun (h : l[m].id < t) u (hu : u < l.length) (hum : u < m + 1) => show l[u].id < t by
        by_cases e : u = m
        · subst e; exact h
        · have := HR.out u m hu hml (by omega); omega)
      have HY := Lib.hid (fun (h : ¬ l[m].id < t) u (hu : u < l.length) (hum : m ≤ u) => show t ≤ l[u].id by
        by_cases e : u = m
        · subst e; omega
        · have := HR.out m u hml hu (by omega); omega)
      obtain ⟨x, hx⟩ : ∃ x, l[m] = x := ⟨_, rfl⟩
      rw [hx] at HX HY
      simp only [hx] at c0 c1 c2 c3
      have i1 : (0 : Int) ≤ (m : Int) := by omega
      have i2 : (m : Int) < (n : Int) := by omega
      have i3 : (m : Int) + 1 ≤ (n : Int) := by omega
      clear hx hc hml
      by_cases hxt : x.id < t
      · have HK := Lib.hid (HX.out hxt)
        have hcmp := cmpI_lt hxt
        clear hxt
        go_wp2_with (go_at_call 93; refine (HC x _).mono ?_; rw [hcmp]; rintro e w2 ⟨rfl, hb2⟩)
        go_roundw
        case rel => exact ⟨m + 1, j, by omega, by omega, by go_num, rfl, HK, HG, Lib.hid (HB.out.trans (hb2.mono HB.out.size))⟩
        case measure => simp [intOf]; omega
      · have HK := Lib.hid (HY.out hxt)
        have hcmp : decide (cmpI x.id t < 0) = false := decide_eq_false (cmpI_ge hxt)
        clear hxt
        obtain ⟨q, hq⟩ : ∃ q, cmpI x.id t = q := ⟨_, rfl⟩
        rw [hq] at hcmp
        have HC' := HC x
        rw [hq] at HC'
        go_wp2_with (go_at_call 93; refine (HC' _).mono ?_; rintro e w2 ⟨rfl, hb2⟩)
        go_roundw
        case rel => exact ⟨i, m, by omega, by omega, rfl, rfl, HL, HK, Lib.hid (HB.out.trans (hb2.mono HB.out.size))⟩
        case measure => simp [intOf]; omega
    · obtain rfl : i = j := by omega
      have hat : IsAt l t i := ⟨by rw [← HN.out]; exact hj, HL.out, HG.out⟩
      have HE := Lib.hid hat.eq
      have HH := Lib.hid (hat.has HR.out)
      clear hat
      by_cases hin : i < n
      · have hil : i < l.length := by rw [← HN.out]; omega
        rw [dif_pos hil] at HH
        obtain ⟨b, off, rfl, hb, hc⟩ := (HA.out.below HB.out) i hil
        have c0 := hc 0 _ rfl
        have c1 := hc 1 _ rfl
        have c2 := hc 2 _ rfl
        have c3 := hc 3 _ rfl
        rw [Nat.add_zero] at c0
        obtain ⟨x, hx⟩ : ∃ x, l[i] = x := ⟨_, rfl⟩
        rw [hx] at HH
        simp only [hx] at c0 c1 c2 c3
        have i1 : (0 : Int) ≤ (i : Int) := by omega
        have i2 : (i : Int) < (n : Int) := by omega
        clear hx hc hil
        have hdec : decide (cmpI x.id t = 0) = decide (x.id = t) := decide_eq_decide.2 cmpI_eq
        obtain ⟨q, hq⟩ : ∃ q, cmpI x.id t = q := ⟨_, rfl⟩
        have HC' := HC x
        rw [hq] at HC' hdec
        have HD := Lib.hid hdec
        clear hdec hq
        go_wp2_with (go_at_call 93; refine (HC' _).mono ?_; rintro e w2 ⟨rfl, hb2⟩)
        go_ret2
        exact ⟨by show Ending.returned (Value.tuple #[.int .i64 (i : Int), .bool (q == 0)]) = _; rw [HE.out, HH.out, ← HD.out]; rfl, HB.out.trans (hb2.mono HB.out.size)⟩
      · rw [dif_neg (by rw [← HN.out]; exact hin)] at HH
        go_wp2
        go_ret2
        exact ⟨by show Ending.returned (Value.tuple #[.int .i64 (i : Int), .bool false]) = _; rw [HE.out, HH.out], HB.out⟩
end Go.Proofs.YtnkhgajghfonhaaGreatDoor

/- metalog: a table's calls that only read. -/
namespace Go.Proofs.YtnkhgajghfonhaaGreatDoor
open Go.ChangeShapes Go.WideShapes Go.ChangeAt Go.RowKit
set_option linter.unusedVariables false

/-- A table's cell, and its rows. -/
structure Tb (w : World) (pb po : Nat) (A : Option Addr) (c : Nat) (l : List Mr) : Prop where
  cell : w.cell? ⟨pb, po, none⟩ = some (.slice A l.length c)
  row : RowC mrCells 4 w w.heap.size A l
  rise : Rise l
  len : l.length ≤ 1000000000
theorem Tb.lt {w : World} {pb po c : Nat} {A : Option Addr} {l : List Mr} (h : Tb w pb po A c l) : pb < w.heap.size := World.block_lt_of_cell? _ _ h.cell
theorem Tb.below {w w' : World} {pb po c : Nat} {A : Option Addr} {l : List Mr} (h : Tb w pb po A c l) (hb : Below w.heap.size w w') : Tb w' pb po A c l :=
  ⟨cell_later hb h.cell, (h.row.below hb).more hb.size, h.rise, h.len⟩
theorem chb {w0 w1 : World} (hb : Below w0.heap.size w0 w1) : Ch (fun _ => False) w0 w1 := Ch.below (Ch.refl (fun _ => False) w0) hb (fun k h1 h2 => absurd h1 (by omega))
theorem three {w : World} {b : Nat} {x y z : Value} {t : TypeId} (h : Cells w b #[x, y, z] t) : (w.cell? ⟨b, 0, none⟩ = some x ∧ w.cell? ⟨b, 1, none⟩ = some y ∧ w.cell? ⟨b, 2, none⟩ = some z) ∧ w.frozen? ⟨b, 0, none⟩ = false ∧ w.frozen? ⟨b, 1, none⟩ = false ∧ w.frozen? ⟨b, 2, none⟩ = false :=
  ⟨⟨h.cell 0, h.cell 1, h.cell 2⟩, h.frozen 0, h.frozen 1, h.frozen 2⟩
theorem three_set {w : World} {b : Nat} {x0 y0 z0 : Value} {t : TypeId} (h : Cells w b #[x0, y0, z0] t) (x y z : Value) : Cells (((w.setCell ⟨b, 0, none⟩ x).setCell ⟨b, 1, none⟩ y).setCell ⟨b, 2, none⟩ z) b #[x, y, z] t := by
  simpa using ((h.set 0 x).set 1 y).set 2 z
theorem quiet_ml {P : Program} {f : FuncId} {args : Array Value} {w : World} {n : Nat} {v : Value}
    (h : Calls P f args (w.drewN n) fun e w' => e = .returned v ∧ w.drewN n = w') : Calls P f args (w.drewN n) fun e w'' => e = .returned v ∧ ∃ m, w'' = w.drewN m :=
  h.mono fun _ _ ⟨he, hm⟩ => ⟨he, n, hm.symm⟩
section
variable {w : World} {pb po c : Nat} {A : Option Addr} {l : List Mr}
theorem len_any (h : Tb w pb po A c l) : Calls Tryz.prog 49 #[.pointer (some ⟨pb, po, none⟩)] w fun e w' => e = .returned (.int .i64 (l.length : Int)) ∧ w = w' := by
  have c0 := h.cell
  clear h
  go_enter Tryz.func49, Tryz.ntmps49
  go_wp2
  go_ret
  exact ⟨rfl, rfl⟩
theorem find_at (h : Tb w pb po A c l) (t : Int) : Calls Tryz.prog 65 #[.pointer (some ⟨pb, po, none⟩), .int .i64 t] w fun e w' => e = .returned (.tuple #[.int .i64 (atI l t : Int), .bool (hasI l t)]) ∧ Below w.heap.size w w' := by
  have c0 := h.cell
  have HS := search_any l h.rise t A l.length c w rfl (by have := h.len; omega) h.row
  clear h
  go_enter Tryz.func65, Tryz.ntmps65
  go_wp2_with (go_at_call 92; refine HS.mono ?_; rintro e w' ⟨rfl, hb⟩)
  go_ret2
  exact ⟨rfl, hb⟩
def upI (l : List Mr) (t : Int) : Nat := if hasI l t = true then atI l t + 1 else atI l t
theorem upTo_any (h : Tb w pb po A c l) (t : Int) : Calls Tryz.prog 28 #[.pointer (some ⟨pb, po, none⟩), .int .i64 t] w fun e w' => e = .returned (.int .i64 (upI l t : Int)) ∧ Below w.heap.size w w' := by
  have HF := find_at h t
  have hk : atI l t ≤ 1000000000 := Nat.le_trans (h.rise.at_ t).le h.len
  clear h
  unfold upI
  obtain ⟨k, e⟩ : ∃ k, atI l t = k := ⟨_, rfl⟩
  rw [e] at HF hk ⊢
  obtain ⟨b, e2⟩ : ∃ b, hasI l t = b := ⟨_, rfl⟩
  rw [e2] at HF ⊢
  clear e e2
  cases b with
  | true =>
    go_enter Tryz.func28, Tryz.ntmps28
    go_wp2_with (go_at_call 65; refine HF.mono ?_; rintro e w' ⟨rfl, hb⟩)
    go_ret
    exact ⟨by simp, hb⟩
  | false =>
    go_enter Tryz.func28, Tryz.ntmps28
    go_wp2_with (go_at_call 65; refine HF.mono ?_; rintro e w' ⟨rfl, hb⟩)
    go_ret
    exact ⟨by simp, hb⟩
def lastI (l : List Mr) : Int := match l.getLast? with | some r => r.id | none => 0
def hasAny (l : List Mr) : Bool := !l.isEmpty
theorem last_any (h : Tb w pb po A c l) : Calls Tryz.prog 29 #[.pointer (some ⟨pb, po, none⟩)] w fun e w' => e = .returned (.tuple #[.int .i64 (lastI l), .bool (hasAny l)]) ∧ Below w.heap.size w w' := by
  have c0 := h.cell
  have hl := h.len
  have hat := h.row
  have HL := fun n => len_any (h.below (below_drewN w n))
  have HL0 := len_any h
  clear h
  by_cases h0 : l.length = 0
  · have hr : lastI l = 0 ∧ hasAny l = false := by
      obtain rfl := List.length_eq_zero_iff.1 h0
      exact ⟨rfl, rfl⟩
    rw [hr.1, hr.2]
    rw [h0] at HL0 c0
    clear h0 hl hat hr
    go_enter Tryz.func29, Tryz.ntmps29
    go_wp2_with (go_at_call 49; refine HL0.mono ?_; rintro e w' ⟨rfl, rfl⟩)
    go_ret2
    exact ⟨rfl, Below.refl _ _⟩
  · have hlt : l.length - 1 < l.length := by omega
    have hr : lastI l = l[l.length - 1].id ∧ hasAny l = true := by
      unfold lastI hasAny
      rw [List.getLast?_eq_getElem?, List.getElem?_eq_getElem hlt]
      exact ⟨rfl, by cases l with | nil => simp at h0 | cons a b => rfl⟩
    rw [hr.1, hr.2]
    obtain ⟨b, off, rfl, hb, hc⟩ := hat _ hlt
    have k0 := hc 0 _ rfl
    obtain ⟨v, hv⟩ : ∃ v, l[l.length - 1].id = v := ⟨_, rfl⟩
    rw [hv] at k0 ⊢
    obtain ⟨n, hn⟩ : ∃ n : Nat, l.length = n + 1 := ⟨l.length - 1, by omega⟩
    rw [hn] at HL0 c0 hl
    simp only [hn] at HL
    rw [hn, Nat.add_sub_cancel, Nat.add_zero] at k0
    clear hc hb hr hlt hv hat hn
    have i1 : ¬ ((n : Int) + 1 = 0) := by omega
    have i2 : (0 : Int) ≤ (n : Int) := by omega
    have i3 : (n : Int) < (n : Int) + 1 := by omega
    go_enter Tryz.func29, Tryz.ntmps29
    go_wp2_with (go_at_call 49; refine HL0.mono ?_; rintro e w' ⟨rfl, rfl⟩)
    go_quiet (first | (go_at_call 49; refine quiet_ml (HL _)))
    go_wp2
    go_ret2
    exact ⟨rfl, below_drewN _ _⟩
def lkI (l : List Mr) (t : Int) : Option Mr := l.find? fun r => decide (r.id = t)
def lkV (o : Option Mr) : Value := match o with | some r => mrVal r | none => .agg #[.slice none 0 0, .bool false, .bool false]
theorem IsAt.look {l : List Mr} {t : Int} {k : Nat} (h : IsAt l t k) (hr : Rise l) (hh : hasI l t = true) : ∃ hk : k < l.length, l[k].id = t ∧ lkI l t = some l[k] := by
  rw [h.has hr] at hh
  by_cases hk : k < l.length
  · rw [dif_pos hk] at hh
    have e := of_decide_eq_true hh
    refine ⟨hk, e, ?_⟩
    unfold lkI
    rw [List.find?_eq_some_iff_getElem]
    exact ⟨decide_eq_true e, k, hk, rfl, fun j hj => by
      have := h.lt j (by omega) hj
      simp only [Bool.not_eq_true', decide_eq_false_iff_not]
      omega⟩
  · rw [dif_neg hk] at hh; cases hh
theorem look_none {l : List Mr} {t : Int} (hh : hasI l t = false) : lkI l t = none := by
  unfold lkI
  rw [List.find?_eq_none]
  intro r hr
  unfold hasI at hh
  rw [List.any_eq_false] at hh
  exact hh r hr
theorem get_at (h : Tb w pb po A c l) (t : Int) : Calls Tryz.prog 38 #[.pointer (some ⟨pb, po, none⟩), .int .i64 t] w fun e w' =>
    (∃ x y z, lkV (lkI l t) = .agg #[x, y, z] ∧ e = .returned (.tuple #[.agg #[x, y, z], .bool (hasI l t)])) ∧ Below w.heap.size w w' := by
  have c0 := h.cell
  have HF := find_at (h.below ((Below.refl _ w).alloc (Nat.le_refl _) (.cells #[.slice none 0 0, .bool false, .bool false] 71))) t
  have hl := h.len
  cases hh : hasI l t with
  | false =>
    rw [look_none hh]
    rw [hh] at HF
    clear hh h hl
    go_enter Tryz.func38, Tryz.ntmps38
    go_wp2_with (go_at_call 65; go_loud (refine HF.mono ?_; rintro e w' ⟨rfl, hb⟩; have HB := Lib.hid (((Below.refl _ w).alloc (Nat.le_refl _) _).trans (hb.mono (by simp))); have b0 := Cells.new w #[.slice none 0 0, .bool false, .bool false] 71; replace b0 := b0.ch (chb hb) (fun h => h); have hs := Nat.lt_of_succ_le (by simpa using hb.size); have HZ := Lib.hid b0; obtain ⟨⟨b1, b2, b3⟩, f1, f2, f3⟩ := three b0; clear hb b0))
    go_wp2
    obtain ⟨⟨g1, g2, g3⟩, _⟩ := three ((three_set HZ.out (.slice none 0 0) (.bool false) (.bool false)).alloc (.cells #[.slice none 0 0, .bool false, .bool false] 71))
    refine bodyPost_ret (v := .tuple #[.agg #[.slice none 0 0, .bool false, .bool false], .bool false]) (by simp [results, Tryz.results38, go_sem, g1, g2, g3]) rfl ⟨⟨_, _, _, rfl, rfl⟩, (((HB.out.setCell (Nat.le_refl _) _).setCell (Nat.le_refl _) _).setCell (Nat.le_refl _) _).alloc (by simpa using HB.out.size) _⟩
  | true =>
    obtain ⟨hk, _, hlk⟩ := (h.rise.at_ t).look h.rise hh
    rw [hlk]
    rw [hh] at HF
    obtain ⟨b, off, rfl, hb, hc⟩ := h.row _ hk
    have k1 := hc 1 _ rfl
    have k2 := hc 2 _ rfl
    have k3 := hc 3 _ rfl
    obtain ⟨x, hx⟩ : ∃ x, l[atI l t] = x := ⟨_, rfl⟩
    simp only [hx] at k1 k2 k3 ⊢
    clear hc hb hlk hx
    obtain ⟨m, hm⟩ : ∃ m, atI l t = m := ⟨_, rfl⟩
    rw [hm] at HF hk k1 k2 k3
    have i1 : (0 : Int) ≤ (m : Int) := by omega
    have i2 : (m : Int) < (l.length : Int) := by omega
    clear hm h hh hl hk
    go_enter Tryz.func38, Tryz.ntmps38
    go_wp2_with (go_at_call 65; go_loud (refine HF.mono ?_; rintro e w' ⟨rfl, hb⟩; have HB := Lib.hid (((Below.refl _ w).alloc (Nat.le_refl _) _).trans (hb.mono (by simp))); have b0 := Cells.new w #[.slice none 0 0, .bool false, .bool false] 71; replace b0 := b0.ch (chb hb) (fun h => h); have hs := Nat.lt_of_succ_le (by simpa using hb.size); have HZ := Lib.hid b0; obtain ⟨⟨b1, b2, b3⟩, f1, f2, f3⟩ := three b0; replace c0 := cell_later HB.out c0; replace k1 := cell_later HB.out k1; replace k2 := cell_later HB.out k2; replace k3 := cell_later HB.out k3; clear hb b0))
    obtain ⟨⟨g1, g2, g3⟩, _⟩ := three (three_set HZ.out (.slice x.A x.b.length x.c) (.bool x.fo) (.bool x.si))
    refine bodyPost_ret (v := .tuple #[.agg #[.slice x.A x.b.length x.c, .bool x.fo, .bool x.si], .bool true]) (by simp [results, Tryz.results38, go_sem, g1, g2, g3]) rfl ⟨⟨_, _, _, rfl, rfl⟩, ((HB.out.setCell (Nat.le_refl _) _).setCell (Nat.le_refl _) _).setCell (Nat.le_refl _) _⟩
end
end Go.Proofs.YtnkhgajghfonhaaGreatDoor
