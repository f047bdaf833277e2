/- Several texts in one: MlD, MlE. -/
import Derived.Test.YtnkhgajghfonhaaGreatDoorMlAB
import Derived.Test.YtnkhgajghfonhaaGreatDoorRangeN
import Derived.Test.YtnkhgajghfonhaaGreatDoorPlIter
import Derived.Test.YtnkhgajghfonhaaGreatDoorHexB
import Derived.Test.YtnkhgajghfonhaaGreatDoorPlC
/- metalog: the iterator over a table. -/
namespace Go.Proofs.YtnkhgajghfonhaaGreatDoor
open Go Go.ChangeShapes Go.WideShapes Go.ChangeAt Go.RowKit
set_option linter.unusedVariables false

def mrEnc (x : Mr) : Array Value := #[.int .i64 x.id, .agg #[.slice x.A x.b.length x.c, .bool x.fo, .bool x.si]]
set_option maxRecDepth 100000 in
set_option maxHeartbeats 2000000 in
theorem all_seq (n : Nat) (hn : 1 ≤ n) (l : List Mr) (hlen : l.length ≤ 1000000000) (pb po c g : Nat) (A : Option Addr) (S : Nat → Prop) (W : World) (hbox : Cells W g #[.pointer (some ⟨pb, po, none⟩)] 68)
    (hcell : W.cell? ⟨pb, po, none⟩ = some (.slice A l.length c)) (hrow : RowC mrCells 4 W W.heap.size A l) (hS : ∀ a, A = some a → S a.block) :
    SeqAt Fence.wide n Tryz.prog 79 #[.pointer (some ⟨g, 0, none⟩)] mrEnc (fun pre x _ => ∃ post, l = pre ++ x :: post) (Kept S) (fun xs => xs = l) W := by
  intro L J Jx hJ hJx hY h0
  have HJ := Lib.hid hJ
  have HY := Lib.hid hY
  have HS := Lib.hid hS
  have HR := Lib.hid hrow
  have c0 := hbox.cell 0
  clear hbox hJ hJx hY hS hrow
  refine callsIn_of_wp Tryz.func79 rfl trivial ?_ rfl
  simp only [Tryz.ntmps79, List.size_toArray, List.length_cons, List.length_nil, Nat.reduceAdd, Nat.reduceSub, Array.replicate_succ, Array.replicate_zero, List.push_toArray, List.append_toArray, List.nil_append, List.cons_append]
  gi_wp2
  gi_loopw [10] (fun i wr => ∃ k : Nat, i = .int .i64 (k : Int) ∧ k ≤ l.length ∧ J (l.take k) wr ∧ Kept S W wr) (fun i _ => l.length - (intOf i).toNat)
  case atStart => exact ⟨0, rfl, Nat.zero_le _, h0, Ch.refl _ _⟩
  case round =>
    obtain ⟨k, rfl, hk, hJp, hmid⟩ := hrel
    have HJP := Lib.hid hJp
    have HMID := Lib.hid hmid
    clear hJp hmid
    by_cases hlt : k < l.length
    · obtain ⟨b, off, rfl, hb, hc⟩ := HR.out k hlt
      have hsame : ∀ o, wr.cell? ⟨b, o, none⟩ = W.cell? ⟨b, o, none⟩ := fun o => World.cell?_of_block (a := ⟨b, o, none⟩) (HMID.out.same (HS.out ⟨b, off, none⟩ rfl) hb)
      have k0 := (hsame _).trans (hc 0 _ rfl)
      have k1 := (hsame _).trans (hc 1 _ rfl)
      have k2 := (hsame _).trans (hc 2 _ rfl)
      have k3 := (hsame _).trans (hc 3 _ rfl)
      rw [Nat.add_zero] at k0
      have HT := Lib.hid (List.take_succ_eq_append_getElem hlt)
      have hall : ∃ post, l = l.take k ++ l[k] :: post := ⟨l.drop (k + 1), by rw [← List.drop_eq_getElem_cons hlt, List.take_append_drop]⟩
      obtain ⟨x, hx⟩ : ∃ x, l[k] = x := ⟨_, rfl⟩
      simp only [hx] at k0 k1 k2 k3
      rw [hx] at HT hall
      have HALL := Lib.hid hall
      have i1 : (0 : Int) ≤ (k : Int) := by omega
      have i2 : (k : Int) < (l.length : Int) := by omega
      clear hx hc hall hsame
      have HGW := Lib.hid (fun (V : World) (hg : wr.grownBy V none) => HY.out _ x V (HJ.out.grow HJP.out hg) HALL.out)
      obtain ⟨fn, tmps_, assign, body, hy, hR⟩ := HGW.out _ (World.grownBy_alloc wr (.cells #[.int .i64 x.id, .slice x.A x.b.length x.c, .bool x.fo, .bool x.si] 123) none)
      unfold mrEnc at hy
      have HR2 := Lib.hid hR
      clear hR
      gi_wp2
      refine HR2.out.mono ?_
      rintro e W3 (⟨rfl, hJ3, hk3⟩ | ⟨rfl, hJx3, _⟩)
      · have HJ3 := Lib.hid hJ3
        have HM3 := Lib.hid (HMID.out.trans ((Kept.grown (World.grownBy_alloc wr _ none)).trans hk3))
        clear hJ3 hk3
        gi_wp2
        go_roundw
        case rel => exact ⟨k + 1, by go_num, by omega, by rw [HT.out]; exact HJ3.out, HM3.out⟩
        case measure => simp [intOf]; omega
      · have HJ3 := Lib.hid hJx3
        clear hJx3
        gi_wp2
        refine bodyPost_ret (results_none rfl _ _ _) rfl ?_
        exact ⟨⟨_, rfl⟩, .inr ⟨_, HJ3.out⟩⟩
    · have hke : k = l.length := by omega
      have h := HJP.out
      rw [List.take_of_length_le (by omega)] at h
      have HE := Lib.hid h
      clear h hke
      gi_wp2
      go_end0
      exact ⟨⟨_, rfl⟩, .inl ⟨_, rfl, HE.out⟩⟩
end Go.Proofs.YtnkhgajghfonhaaGreatDoor

/- metalog: which files leave, and the iterator over their names. -/
namespace Go.Proofs.YtnkhgajghfonhaaGreatDoor
open Go Go.ChangeShapes Go.WideShapes Go.ChangeAt Go.RowKit
set_option linter.unusedVariables false

def bN (n : Int) : Nm := [98, 46] ++ hexL n
def fN (n : Int) : Nm := [102, 46] ++ hexL n
theorem bN_txt (n : Int) : (⟨#[98, 46]⟩ : ByteArray) ++ txt (hexL n) = txt (bN n) := by
  unfold bN txt; apply ByteArray.ext; simp
theorem fN_txt (n : Int) : (⟨#[102, 46]⟩ : ByteArray) ++ txt (hexL n) = txt (fN n) := by
  unfold fN txt; apply ByteArray.ext; simp
def bNames (pS : Int → Bool) (rs : List Mr) : List Nm := (rs.filter fun r => r.si && pS r.id).map fun r => bN r.id
def fNames (pF : Int → Bool) (fs : List Int) : List Nm := (fs.filter pF).map fN
def lvN (pS pF : Int → Bool) (rs : List Mr) (fs : List Int) : List Nm := bNames pS rs ++ fNames pF fs
theorem bNames_snoc (pS : Int → Bool) (rs : List Mr) (x : Mr) : bNames pS (rs ++ [x]) = bNames pS rs ++ (if x.si && pS x.id then [bN x.id] else []) := by
  unfold bNames
  rw [List.filter_append, List.map_append]
  cases h : (x.si && pS x.id) <;> simp [h]
theorem fNames_take (pF : Int → Bool) (fs : List Int) (k : Nat) (h : k < fs.length) : fNames pF (fs.take (k + 1)) = fNames pF (fs.take k) ++ (if pF fs[k] then [fN fs[k]] else []) := by
  unfold fNames
  rw [List.take_succ_eq_append_getElem h, List.filter_append, List.map_append]
  cases h : pF fs[k] <;> simp [h]
def leI (N : Int) (i : Int) : Bool := decide (i ≤ N)
def neI (N : Int) (i : Int) : Bool := decide (i ≠ N)
theorem fold1_any (i N : Int) (q : Nat) (w : World) (h : w.cell? ⟨q, 0, none⟩ = some (.int .i64 N)) : Calls Tryz.prog 31 #[.int .i64 i, .pointer (some ⟨q, 0, none⟩)] w fun e w' => e = .returned (.bool (leI N i)) ∧ w = w' := by
  unfold leI
  go_enter Tryz.func31, Tryz.ntmps31
  go_wp2
  go_ret
  exact ⟨by simp, rfl⟩
theorem fold2_any (i N : Int) (q : Nat) (w : World) (h : w.cell? ⟨q, 0, none⟩ = some (.int .i64 N)) : Calls Tryz.prog 32 #[.int .i64 i, .pointer (some ⟨q, 0, none⟩)] w fun e w' => e = .returned (.bool (neI N i)) ∧ w = w' := by
  unfold neI
  by_cases e : i = N
  · subst e
    go_enter Tryz.func32, Tryz.ntmps32
    go_wp2
    go_ret
    exact ⟨by simp, rfl⟩
  · have hne : (i != N) = true := by rw [bne_iff_ne]; exact e
    go_enter Tryz.func32, Tryz.ntmps32
    go_wp2
    go_ret
    exact ⟨by simp [e], rfl⟩
theorem all_any (w : World) (b o : Nat) : Calls Tryz.prog 51 #[.pointer (some ⟨b, o, none⟩)] w fun e w' =>
    e = .returned (.func (.func 79) #[] #[.pointer (some ⟨w.heap.size, 0, none⟩)]) ∧ w' = w.alloc (.cells #[.pointer (some ⟨b, o, none⟩)] 68) := by
  go_enter Tryz.func51, Tryz.ntmps51
  go_wp2
  go_ret
  exact ⟨rfl, rfl⟩

/-- A list of numbers in cells. -/
def IntsC (w : World) (B : Nat) (A : Option Addr) (fs : List Int) : Prop := ∀ j (h : j < fs.length), ∃ b off, A = some ⟨b, off, none⟩ ∧ b < B ∧ w.cell? ⟨b, off + j, none⟩ = some (.int .i64 fs[j])
def boxE (x : Mr) (W : World) : World := W.alloc (.cells #[.slice x.A x.b.length x.c, .bool x.fo, .bool x.si] 71)
structure AtE (x : Mr) (U W : World) : Prop where
  lt : U.heap.size < W.heap.size
  c0 : W.cell? ⟨U.heap.size, 0, none⟩ = some (.slice x.A x.b.length x.c)
  c1 : W.cell? ⟨U.heap.size, 1, none⟩ = some (.bool x.fo)
  c2 : W.cell? ⟨U.heap.size, 2, none⟩ = some (.bool x.si)
theorem AtE.made {x : Mr} {W : World} {D : Nat} (h : D + 1 < W.heap.size) (o : Obj) : AtE x W ((boxE x W).putObj (D + 1) o) := by
  have hc : ∀ i v, (#[Value.slice x.A x.b.length x.c, .bool x.fo, .bool x.si])[i]? = some v → ((boxE x W).putObj (D + 1) o).cell? ⟨W.heap.size, i, none⟩ = some v := fun i v hv => by
    refine (World.cell?_of_block (a := ⟨W.heap.size, i, none⟩) (World.putObj_heap_other (by show W.heap.size ≠ _; omega))).trans ?_
    exact ((Cells.new W _ _).cell i).trans hv
  exact ⟨by simp [boxE, World.putObj], hc 0 _ rfl, hc 1 _ rfl, hc 2 _ rfl⟩

/-- What the iterator over the names of a fold's leavers finds. -/
structure LvAt (B l p1 p2 p3 q : Nat) (S : Nat → Prop) (rs : List Mr) (fs : List Int) (rA : Option Addr) (rc : Nat) (fA : Option Addr) (fc : Nat) (N : Int) (W : World) : Prop where
  x1 : Cells W p1 #[.pointer (some ⟨l, 0, none⟩)] 29
  x2 : Cells W p2 #[.func (.func 31) #[] #[.pointer (some ⟨q, 0, none⟩)]] 76
  x3 : Cells W p3 #[.func (.func 32) #[] #[.pointer (some ⟨q, 0, none⟩)]] 76
  n : W.cell? ⟨q, 0, none⟩ = some (.int .i64 N)
  rows : W.cell? ⟨l, 2, none⟩ = some (.slice rA rs.length rc)
  folds : W.cell? ⟨l, 3, none⟩ = some (.slice fA fs.length fc)
  row : RowC mrCells 4 W W.heap.size rA rs
  ints : IntsC W W.heap.size fA fs
  tab : Tab B W
  s : S p1 ∧ S p2 ∧ S p3 ∧ S q ∧ S l ∧ (∀ a, rA = some a → S a.block) ∧ (∀ a, fA = some a → S a.block) ∧ ∀ k, k < B → S k
  lt : ∀ k, S k → k < W.heap.size
theorem LvAt.kept {B l p1 p2 p3 q : Nat} {S : Nat → Prop} {rs : List Mr} {fs : List Int} {rA fA : Option Addr} {rc fc : Nat} {N : Int} {W V : World} (h : LvAt B l p1 p2 p3 q S rs fs rA rc fA fc N W) (k : Kept S W V) : LvAt B l p1 p2 p3 q S rs fs rA rc fA fc N V := by
  obtain ⟨s1, s2, s3, s4, s5, s6, s7, s8⟩ := h.s
  have hc : ∀ a : Addr, S a.block → V.cell? a = W.cell? a := fun a ha => World.cell?_of_block (a := a) (k.same ha (h.lt _ ha))
  refine ⟨k.cells s1 h.x1, k.cells s2 h.x2, k.cells s3 h.x3, (hc _ s4).trans h.n, (hc _ s5).trans h.rows, (hc _ s5).trans h.folds, fun j hj => ?_, fun j hj => ?_, ⟨h.tab.1, (hc _ (s8 _ h.tab.1)).trans h.tab.2⟩, h.s, fun i hi => Nat.lt_of_lt_of_le (h.lt i hi) k.size⟩
  · obtain ⟨b, off, e, hlt, hh⟩ := h.row j hj
    exact ⟨b, off, e, Nat.lt_of_lt_of_le hlt k.size, fun i v hv => (hc ⟨b, off + j * 4 + i, none⟩ (s6 ⟨b, off, none⟩ e)).trans (hh i v hv)⟩
  · obtain ⟨b, off, e, hlt, hh⟩ := h.ints j hj
    exact ⟨b, off, e, Nat.lt_of_lt_of_le hlt k.size, (hc ⟨b, off + j, none⟩ (s7 ⟨b, off, none⟩ e)).trans hh⟩
end Go.Proofs.YtnkhgajghfonhaaGreatDoor
