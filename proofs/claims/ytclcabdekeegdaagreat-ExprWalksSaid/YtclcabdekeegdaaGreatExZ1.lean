/- Layer 13: rows of expressions; Clone of them. -/
import Derived.Test.YtclcabdekeegdaaGreatExY3
import Derived.Test.YtclcabdekeegdaaGreatExQa
namespace Go.Proofs.YtclcabdekeegdaaGreat
open Go Go.ChangeShapes Go.WideShapes Go.ChangeAt Go.RowKit
set_option linter.unusedVariables false
set_option linter.unusedSimpArgs false
def xaCells (x : XA) : List Value := x.e.cells x.A x.c
theorem xa_len (x : XA) : (xaCells x).length = 6 := rfl
theorem xa_one (x : XA) : ∀ u ∈ xaCells x, u.oneCell' = true := by simp [xaCells, X.cells, Value.oneCell']
/-- Expressions side by side, their Kids behind them. -/
structure XRow (w : World) (B : Nat) (A : Option Addr) (l : List XA) : Prop where
  row : RowC xaCells 6 w B A l
  kids : ∀ x ∈ l, KidsAt w B x.e x.A x.c
theorem XRow.below {w w' : World} {B : Nat} {A : Option Addr} {l : List XA} (h : XRow w B A l) (hb : Below B w w') : XRow w' B A l := ⟨h.row.below hb, fun x hx => (h.kids x hx).below hb⟩
theorem XRow.more {w : World} {B B' : Nat} {A : Option Addr} {l : List XA} (h : XRow w B A l) (hb : B ≤ B') : XRow w B' A l := ⟨h.row.more hb, fun x hx => (h.kids x hx).more hb⟩
theorem kids_rowL {w : World} {B : Nat} : ∀ {ks : List X} {A : Option Addr} {i : Nat}, KidsL w B ks A i →
    ∃ l : List XA, l.map XA.e = ks ∧ (∀ (j : Nat) (hj : j < l.length), ∃ b off, A = some ⟨b, off, none⟩ ∧ b < B ∧ ∀ q v, (xaCells l[j])[q]? = some v → w.cell? ⟨b, off + (i + j) * 6 + q, none⟩ = some v) ∧ ∀ x ∈ l, KidsAt w B x.e x.A x.c
  | [], A, i, _ => ⟨[], rfl, fun j hj => by simp at hj, by simp⟩
  | k :: ks, A, i, h => by
    simp only [KidsL] at h
    obtain ⟨⟨b, off, A2, c2, hA, hB, hc, hk⟩, h2⟩ := h
    obtain ⟨l, hl, hr, hks⟩ := kids_rowL h2
    refine ⟨⟨k, A2, c2⟩ :: l, by simp [hl], fun j hj => ?_, fun x hx => ?_⟩
    · cases j with
      | zero =>
        refine ⟨b, off, hA, hB, fun q v hv => ?_⟩
        have hq : q < 6 := (List.getElem?_eq_some_iff.1 hv).1
        have h1 := hc q hq
        have h3 : (k.cells A2 c2)[q]? = some v := hv
        rw [List.getElem?_eq_getElem (by simpa [X.cells] using hq)] at h3
        injection h3 with h3
        rw [Nat.add_zero, h1, h3]
      | succ j =>
        obtain ⟨b2, off2, e1, e2, e3⟩ := hr j (by simpa using hj)
        refine ⟨b2, off2, e1, e2, fun q v hv => ?_⟩
        have := e3 q v (by simpa using hv)
        rwa [show i + 1 + j = i + (j + 1) by omega] at this
    · rcases List.mem_cons.1 hx with rfl | hx
      · exact hk
      · exact hks x hx
theorem kids_row {w : World} {B : Nat} {e : X} {A : Option Addr} {c : Nat} (h : KidsAt w B e A c) : ∃ l : List XA, l.map XA.e = e.ks ∧ XRow w B A l := by
  obtain ⟨o, n, v, ks⟩ := e
  simp only [KidsAt] at h
  obtain ⟨l, h1, h2, h3⟩ := kids_rowL h.2.2
  exact ⟨l, h1, ⟨fun j hj => by simpa using h2 j hj, h3⟩⟩
theorem row_kidsL {w : World} {B : Nat} {A : Option Addr} : ∀ {l : List XA} {i : Nat}, (∀ (j : Nat) (hj : j < l.length), ∃ b off, A = some ⟨b, off, none⟩ ∧ b < B ∧ ∀ q v, (xaCells l[j])[q]? = some v → w.cell? ⟨b, off + (i + j) * 6 + q, none⟩ = some v) → (∀ x ∈ l, KidsAt w B x.e x.A x.c) → KidsL w B (l.map XA.e) A i
  | [], i, _, _ => by simp only [List.map_nil, KidsL]
  | x :: l, i, h, hk => by
    simp only [List.map_cons, KidsL]
    obtain ⟨b, off, h1, h2, h3⟩ := h 0 (by simp)
    refine ⟨⟨b, off, x.A, x.c, h1, h2, fun q hq => ?_, hk x (by simp)⟩, row_kidsL (fun j hj => ?_) fun y hy => hk y (by simp [hy])⟩
    · exact h3 q _ (List.getElem?_eq_getElem (by simpa [xaCells, X.cells] using hq))
    · obtain ⟨b2, off2, e1, e2, e3⟩ := h (j + 1) (by simpa using hj)
      refine ⟨b2, off2, e1, e2, fun q v hv => ?_⟩
      have := e3 q v (by simpa using hv)
      rwa [show i + (j + 1) = i + 1 + j by omega] at this
theorem row_kids {w : World} {B : Nat} {o : Int} {n : ByteArray} {v : V} {ks : List X} {A : Option Addr} {c : Nat} {l : List XA} (h : XRow w B A l) (hl : l.map XA.e = ks) (hc : ks.length ≤ c) (hm : c ≤ maxLen) : KidsAt w B (.mk o n v ks) A c := by
  subst hl
  simp only [KidsAt]
  exact ⟨hc, hm, row_kidsL (fun j hj => by simpa using h.row j hj) h.kids⟩
theorem XRow.own {w : World} {base : Nat} {A : Option Addr} {n c : Nat} {l : List XA} (h : w.ownsRow base 26 6 (.slice A n c) n (l.flatMap xaCells)) (hk : ∀ x ∈ l, KidsAt w w.heap.size x.e x.A x.c) : n = l.length ∧ XRow w w.heap.size A l :=
  ⟨(RowC.own xa_len (by decide) h).1, (RowC.own xa_len (by decide) h).2, hk⟩
theorem own_cap {w : World} {base : Nat} {E : TypeId} {sz : Nat} {A : Option Addr} {n c : Nat} {xs : List Value} (h : w.ownsRow base E sz (.slice A n c) n xs) : n ≤ c ∧ c ≤ maxLen := by
  rcases h.2 with ⟨hv, h0⟩ | ⟨g, cap, cur, hv, _, _, h1, h2, _⟩
  · injection hv with _ h1 h2
    subst h2
    exact ⟨by omega, by decide⟩
  · injection hv with _ _ h3
    subst h3
    exact ⟨h1, h2⟩
theorem infoX : (Tryz.prog.info? 26).map (fun i => (i.zero, i.size, i.bytes)) = some (some (Value.agg #[.int .i64 0, .string ⟨#[]⟩, .int .i64 0, .int .i64 0, .string ⟨#[]⟩, .slice none 0 0]), 6, 80) := by kernel_rfl
theorem row_cells6 {w : World} {B : Nat} {a : Addr} {l : List XA} (h : RowC xaCells 6 w B (some a) l) : ∀ j u, (l.flatMap xaCells)[j]? = some u → w.cell? (a.add j) = some u := by
  intro j u hu
  have hlt := (List.getElem?_eq_some_iff.1 hu).1
  rw [flat_length xa_len] at hlt
  have hq : j / 6 < l.length := by omega
  obtain ⟨b, off, e, hb, hc⟩ := h (j / 6) hq
  have h6 : j % 6 < (xaCells l[j / 6]).length := by rw [xa_len]; omega
  have h2 := flat_at xa_len l (j / 6) hq (j % 6) _ (List.getElem?_eq_getElem h6)
  rw [show j / 6 * 6 + j % 6 = j by omega] at h2
  have := hc (j % 6) u (by rw [List.getElem?_eq_getElem h6]; rw [← h2]; exact hu)
  injection e with e
  subst e
  rw [add_at]
  rwa [Nat.add_assoc, show j / 6 * 6 + j % 6 = j by omega] at this
theorem xclone_any (l : List XA) (len c : Nat) (A : Option Addr) (w : World) (hl : len = l.length) (hm : len ≤ 1000000) (hr : RowC xaCells 6 w w.heap.size A l) :
    Calls Tryz.prog 103 #[.slice A len c] w fun e w' => ∃ A' c', e = .returned (.slice A' len c') ∧ w'.ownsRow w.heap.size 26 6 (.slice A' len c') len (l.flatMap xaCells) ∧ Below w.heap.size w w' := by
  cases A with
  | none =>
    obtain rfl : l = [] := by
      cases l with
      | nil => rfl
      | cons p l => obtain ⟨_, _, e, _⟩ := hr 0 (by simp); cases e
    obtain rfl : len = 0 := hl
    clear hr
    have hnil : ∀ W, (binOp .eql 24 (.slice none 0 c) (.slice none 0 0)).run Tryz.prog W = .ok (.bool true) W := fun W => Lib.run_eql_slice_nil_nil W _ _ Tryz.underlying24
    go_enter Tryz.func103, Tryz.ntmps103
    go_wp2
    go_ret
    exact ⟨none, 0, rfl, World.ownsRow_nil _ _ _ 6, Below.refl _ _⟩
  | some a =>
    have HL := Lib.hid hl
    have HR := Lib.hid hr
    clear hr hl
    obtain ⟨i0, hi, hz0, hz1, hz2⟩ := info_parts infoX
    have HI := Lib.hid hi
    have HZ0 := Lib.hid hz0
    have HZ1 := Lib.hid hz1
    have HZ2 := Lib.hid hz2
    clear hi hz0 hz1 hz2
    have hnil : ∀ W, (binOp .eql 24 (.slice (some a) len c) (.slice none 0 0)).run Tryz.prog W = .ok (.bool false) W := fun W => Lib.run_eql_slice_some_nil W _ _ _ Tryz.underlying24
    go_enter Tryz.func103, Tryz.ntmps103
    go_wp2_with (at_builtin; go_loud (refine wpList_append_own_at _ rfl _ _ 24 rfl w.heap.size 26 i0 _ 6 80 Tryz.underlying24 HI.out HZ0.out HZ1.out HZ2.out rfl (by decide) _ 0 [] rfl (World.ownsRow_made w #[] 0 (Nat.le_refl _) (by decide) rfl) a len c (l.flatMap xaCells) rfl (by rw [flat_length xa_len, HL.out]) (row_cells6 (HR.out.below ((Below.refl _ w).alloc (Nat.le_refl _) _))) (flat_one xa_one l) (by unfold maxLen; omega) (by omega) (by simp) ?_; intro v1 w1 hown hg _ _; have HO := Lib.hid hown; have HG := Lib.hid hg; clear hown hg))
    go_ret
    have hn := HL.out
    subst hn
    obtain ⟨A', c', rfl⟩ := own_slice HO.out
    have hbel := ((Below.refl _ w).alloc (Nat.le_refl _) (.cells #[] 26)).grown HG.out (by simp) (fun k e => by cases e; exact Nat.le_refl _)
    refine ⟨A', c', by simp, by simpa using HO.out, hbel⟩
/-- One of them turned. -/
theorem flat_set6 (x : XA) : ∀ (l : List XA) (k : Nat) (hk : k < l.length), ((((((l.flatMap xaCells).set (k * 6) (.int .i64 x.e.op)).set (k * 6 + 1) (.string x.e.nm)).set (k * 6 + 2) (.int .i64 x.e.v.k)).set (k * 6 + 3) (.int .i64 x.e.v.n)).set (k * 6 + 4) (.string x.e.v.s)).set (k * 6 + 5) (.slice x.A x.e.ks.length x.c) = (l.set k x).flatMap xaCells
  | y :: l, 0, hk => by simp [xaCells, X.cells]
  | y :: l, k + 1, hk => by
    have ih := flat_set6 x l k (by simpa using hk)
    have hs : ∀ (t : List Value) (i : Nat) (u : Value), (xaCells y ++ t).set (6 + i) u = xaCells y ++ t.set i u := fun t i u => by
      rw [List.set_append_right _ _ (by rw [xa_len]; omega), xa_len, Nat.add_sub_cancel_left]
    rw [List.set_cons_succ, List.flatMap_cons, List.flatMap_cons, ← ih]
    rw [show (k + 1) * 6 = 6 + k * 6 by omega]
    simp only [Nat.add_assoc, hs]
end Go.Proofs.YtclcabdekeegdaaGreat
