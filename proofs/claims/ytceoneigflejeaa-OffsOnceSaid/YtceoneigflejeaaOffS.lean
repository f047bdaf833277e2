/- Lists of ranges: which tile; the iterator over neighbours among them. -/
import Derived.Test.YtceoneigflejeaaOffF
namespace Go.Proofs.Ytceoneigflejeaa
attribute [local go_sem] Oper.semAt_some
open Go.ChangeShapes Go.WideShapes Go.ChangeAt Go.RowKit Go.Shelf
set_option linter.unusedVariables false

/-- A slice of ranges: where it lies, its capacity, what it holds. -/
structure Rs where
  a : Option Addr
  c : Nat
  l : List Rg
def rsCells (r : Rs) : List Value := [.slice r.a r.l.length r.c]
theorem rsCells_length (r : Rs) : (rsCells r).length = 1 := rfl
theorem rsCells_one (r : Rs) : ∀ u ∈ rsCells r, u.oneCell' = true := by simp [rsCells, Value.oneCell']
def goodRs (w : World) (B : Nat) (r : Rs) : Prop := RowC rgCells 2 w B r.a r.l ∧ r.l.length ≤ maxLen
def AllRs (w : World) (B : Nat) (rs : List Rs) : Prop := ∀ r ∈ rs, goodRs w B r
theorem AllRs.below {w W : World} {B : Nat} {rs : List Rs} (h : AllRs w B rs) (hb : Below B w W) (hB : B ≤ W.heap.size) : AllRs W W.heap.size rs :=
  fun r hr => ⟨((h r hr).1.below hb).more hB, (h r hr).2⟩
theorem AllRs.low {w W : World} {B : Nat} {rs : List Rs} (h : AllRs w B rs) (hb : Low B w W) (hB : B ≤ W.heap.size) : AllRs W W.heap.size rs :=
  fun r hr => ⟨(hb.row (h r hr).1).more hB, (h r hr).2⟩

def prevL (ls : List (List Rg)) (j : Nat) : List Rg := if j = 0 then List.replicate (ls.getD 0 []).length noRg else ls.getD (j - 1) []
def TileTo (ls : List (List Rg)) (k : Nat) : Prop := ∀ j, j < k → j < ls.length → folB (prevL ls j) (ls.getD j []) = true
def tileB (ls : List (List Rg)) : Bool := (List.range ls.length).all fun j => folB (prevL ls j) (ls.getD j [])
section
variable {ls : List (List Rg)} {k : Nat}
theorem tile_iff : tileB ls = true ↔ ∀ j, j < ls.length → folB (prevL ls j) (ls.getD j []) = true := by
  unfold tileB
  simp only [List.all_eq_true, List.mem_range]
theorem tile_at (hk : k < ls.length) (h : folB (prevL ls k) (ls.getD k []) = false) : tileB ls = false := by
  cases ht : tileB ls with
  | false => rfl
  | true => rw [tile_iff.1 ht k hk] at h; cases h
theorem TileTo.next (h : TileTo ls k) (hf : folB (prevL ls k) (ls.getD k []) = true) : TileTo ls (k + 1) := by
  intro j hj hl
  by_cases e : j = k
  · subst e; exact hf
  · exact h j (by omega) hl
theorem TileTo.all (h : TileTo ls k) (hk : ls.length ≤ k) : tileB ls = true := tile_iff.2 fun j hj => h j (by omega) hj
theorem tile_nil : tileB [] = true := rfl
end
def lsOf (rs : List Rs) : List (List Rg) := rs.map Rs.l
theorem lsOf_len (rs : List Rs) : (lsOf rs).length = rs.length := by simp [lsOf]
theorem lsOf_get {rs : List Rs} {k : Nat} (h : k < rs.length) : (lsOf rs).getD k [] = rs[k].l := by
  unfold lsOf
  simp [List.getD, List.getElem?_map, List.getElem?_eq_getElem h]
/-- The lists ahead of those. -/
def aheadS (st : Rs) (rs : List Rs) : List Rs := st :: rs.take (rs.length - 1)
theorem aheadS_len {st : Rs} {rs : List Rs} (h : 0 < rs.length) : (aheadS st rs).length = rs.length := by simp [aheadS]; omega
theorem aheadS_get {st : Rs} {rs : List Rs} (hst : st.l = List.replicate ((lsOf rs).getD 0 []).length noRg) {k : Nat} (h : k < (aheadS st rs).length) (hk : k < rs.length) : (aheadS st rs)[k].l = prevL (lsOf rs) k := by
  unfold prevL
  cases k with
  | zero => rw [if_pos rfl]; exact hst
  | succ k =>
    rw [if_neg (by omega), Nat.add_sub_cancel, lsOf_get (by omega)]
    simp [aheadS]

theorem RowC.take {α : Type} {f : α → List Value} {sz : Nat} {w : World} {B : Nat} {A : Option Addr} {l : List α} (h : RowC f sz w B A l) (n : Nat) : RowC f sz w B A (l.take n) := by
  intro j hj
  have hj2 : j < l.length := by rw [List.length_take] at hj; omega
  rw [List.getElem_take]
  exact h j hj2
theorem row_cells {α : Type} {f : α → List Value} (h1 : ∀ a, (f a).length = 1) {w : World} {B b off : Nat} {l : List α} (h : RowC f 1 w B (some ⟨b, off, none⟩) l) :
    ∀ j u, (l.flatMap f)[j]? = some u → w.cell? ((⟨b, off, none⟩ : Addr).add j) = some u := by
  intro j u hu
  have hj : j < l.length := by
    have := (List.getElem?_eq_some_iff.1 hu).1
    rwa [flat_length h1, Nat.mul_one] at this
  obtain ⟨b', off', e, _, hc⟩ := h j hj
  injection e with e
  injection e with e1 e2 _
  subst e1 e2
  have hl := h1 l[j]
  obtain ⟨v, hv⟩ : ∃ v, f l[j] = [v] := by
    match hx : f l[j], hl with
    | [v], _ => exact ⟨v, rfl⟩
  have h2 := flat_at h1 l j hj 0 v (by rw [hv]; rfl)
  rw [Nat.mul_one, Nat.add_zero, hu] at h2
  injection h2 with h2
  subst h2
  have := hc 0 u (by rw [hv]; rfl)
  rw [add_at]
  rwa [Nat.mul_one, Nat.add_zero] at this

abbrev encS (x : Rs × Rs) : Array Value := #[.slice x.1.a x.1.l.length x.1.c, .slice x.2.a x.2.l.length x.2.c]
set_option maxRecDepth 100000 in
set_option maxHeartbeats 2000000 in
theorem nbS_seq (n : Nat) (hn : 1 ≤ n) (l m : List Rs) (len : Nat) (hl : len = l.length) (hm : len = m.length) (hlen : len ≤ 9223372036854775807) (g1 g2 c1 c2 D : Nat) (A1 A2 : Option Addr) (w0 : World)
    (h1 : g1 < D) (h2 : g2 < D) (hD : D ≤ w0.heap.size) (hb1 : w0.cell? ⟨g1, 0, none⟩ = some (.slice A1 len c1)) (hb2 : w0.cell? ⟨g2, 0, none⟩ = some (.slice A2 len c2)) (hr1 : RowC rsCells 1 w0 D A1 l) (hr2 : RowC rsCells 1 w0 D A2 m) :
    SeqMem Fence.wide n Try.prog 29 #[.pointer (some ⟨g1, 0, none⟩), .pointer (some ⟨g2, 0, none⟩)] encS (fun pre x _ => NextIn l m pre x) (Low D) (fun xs => xs.length = len) w0 := by
  intro L J Jx W hW hJ hJx hY h0
  have HL := Lib.hid hl
  have HM := Lib.hid hm
  have HR1 := Lib.hid hr1
  have HR2 := Lib.hid hr2
  have HJ := Lib.hid hJ
  have HY := Lib.hid hY
  have HG2 := Lib.hid (fun V (h : Low D w0 V) => h.cell (p := ⟨g2, 0, none⟩) h2 hb2)
  have x0 := hW.cell (p := ⟨g1, 0, none⟩) h1 hb1
  have HD := Lib.hid hD
  clear hl hm hr1 hr2 hJ hJx hY h1 h2 hb1 hb2 hD
  refine callsIn_of_wp Try.func29 rfl trivial ?_ rfl
  simp only [Try.ntmps29, List.size_toArray, List.length_cons, List.length_nil, Nat.reduceAdd, Nat.reduceSub, Array.replicate_succ, Array.replicate_zero, List.push_toArray, List.append_toArray, List.nil_append, List.cons_append]
  gi_wp2
  gi_loopw [8] (fun i wr => ∃ pre : List (Rs × Rs), i = .int .i64 (pre.length : Int) ∧ pre.length ≤ len ∧ J pre wr ∧ Low D w0 wr) (fun i _ => len - (intOf i).toNat)
  case atStart => exact ⟨[], rfl, Nat.zero_le _, h0, hW⟩
  case round =>
    obtain ⟨pre, rfl, hk, hJp, hmid⟩ := hrel
    have HJP := Lib.hid hJp
    have HMID := Lib.hid hmid
    clear hJp hmid
    obtain ⟨k, hkk⟩ : ∃ k, pre.length = k := ⟨_, rfl⟩
    rw [hkk] at hk ⊢
    have HK := Lib.hid hkk
    by_cases hlt : k < len
    · have hkl : k < l.length := by rw [← HL.out]; exact hlt
      have hkm : k < m.length := by rw [← HM.out]; exact hlt
      obtain ⟨b, off, rfl, hB, hc⟩ := (HMID.out.row HR1.out) k hkl
      obtain ⟨b2, off2, rfl, hB2, hd⟩ := (HMID.out.row HR2.out) k hkm
      have HNX := Lib.hid (show NextIn l m pre (l[k], m[k]) from by subst hkk; exact ⟨hkl, hkm, rfl⟩)
      have c0 := hc 0 _ rfl
      have d0 := hd 0 _ rfl
      rw [Nat.add_zero, Nat.mul_one] at c0 d0
      obtain ⟨x, hx⟩ : ∃ x, l[k] = x := ⟨_, rfl⟩
      obtain ⟨y, hy⟩ : ∃ y, m[k] = y := ⟨_, rfl⟩
      rw [hx, hy] at HNX
      simp only [hx] at c0
      simp only [hy] at d0
      clear hx hy hc hd hkk
      have y0 := HG2.out wr HMID.out
      have i1 : (0 : Int) ≤ (k : Int) := by omega
      have i2 : (k : Int) < (len : Int) := by omega
      obtain ⟨fn, tmps, assign, body, hy, hR⟩ := HY.out pre (x, y) wr HJP.out HNX.out
      have HR := Lib.hid hR
      have HPL := Lib.hid (show (pre ++ [(x, y)]).length = k + 1 by rw [List.length_append, HK.out]; rfl)
      dsimp only [encS] at hy
      clear hR
      gi_wp2
      refine HR.out.mono ?_
      rintro e W3 (⟨rfl, hJ3, hk3⟩ | ⟨rfl, hJx3⟩)
      · have HJ3 := Lib.hid hJ3
        have HM3 := Lib.hid (HMID.out.trans hk3)
        clear hJ3 hk3
        gi_wp2
        go_roundw
        case rel => exact ⟨pre ++ [(x, y)], by rw [HPL.out]; go_num, by rw [HPL.out]; omega, HJ3.out, HM3.out⟩
        case measure => simp [intOf]; omega
      · have HJ3 := Lib.hid hJx3
        clear hJx3
        gi_wp2
        refine bodyPost_ret (results_none rfl _ _ _) rfl ?_
        exact ⟨⟨_, rfl⟩, .inr ⟨_, HJ3.out⟩⟩
    · have hke : k = len := by omega
      have HE := Lib.hid (HK.out.trans hke)
      clear hke hkk
      gi_wp2
      go_end0
      exact ⟨⟨_, rfl⟩, .inl ⟨_, HE.out, HJP.out⟩⟩
theorem nbS_walk (A1 A2 : Option Addr) (n1 c1 n2 c2 : Nat) (w : World) :
    Calls Try.prog 23 #[.slice A1 n1 c1, .slice A2 n2 c2] w fun e w' => e = .returned (.func (.func 29) #[] #[.pointer (some ⟨w.heap.size, 0, none⟩), .pointer (some ⟨w.heap.size + 1, 0, none⟩)]) ∧
      w' = (w.alloc (.cells #[.slice A1 n1 c1] 35)).alloc (.cells #[.slice A2 n2 c2] 35) := by
  go_enter Try.func23, Try.ntmps23
  go_wp2
  go_ret
  exact ⟨rfl, rfl⟩
end Go.Proofs.Ytceoneigflejeaa
