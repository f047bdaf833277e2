/- Layer 17, walked: the document's Diff, Apply. -/
import Derived.Test.YtmeoednndfgffaaTaR1
namespace Go.Proofs.Ytmeoednndfgffaa
open Go Go.ChangeShapes Go.WideShapes Go.ChangeAt Go.RowKit
set_option linter.unusedVariables false
set_option linter.unusedSimpArgs false
abbrev Kc := KC ByteArray
def kcC (c : Kc) : List Value := [.string c.k, .string c.v, .bool c.g]
theorem kc_len (c : Kc) : (kcC c).length = 3 := rfl
theorem kc_one (c : Kc) : ∀ u ∈ kcC c, u.oneCell' = true := by simp [kcC, Value.oneCell']
theorem op_append_items {α : Type} {f : α → List Value} {sz bytes : Nat} {T E : TypeId} {z : Value} (hT : Try.prog.underlying T = some (.slice E)) (hinfo : (Try.prog.info? E).map (fun i => (i.zero, i.size, i.bytes)) = some (some z, sz, bytes)) (hz : z.cells.size = sz) (hsz : 0 < sz)
    (hl : ∀ a, (f a).length = sz) (h1 : ∀ a, ∀ u ∈ f a, u.oneCell' = true) (w : World)
    {o : Oper} {a : Act} {K : Act → World → Prop} {Q : Exit → Act → World → Prop} (s x : Operand)
    (ho : o.op = .call { callee := .builtin .append, args := #[s, x], argTypes := #[T, T] })
    (B : Nat) (A : Option Addr) (n c : Nat) (l : List α) (hs : a.eval s = .slice A n c) (vs : List α) (m : Nat) (hm : m = vs.length) (hb : w.ownsRow B E sz (.slice A n c) n (l.flatMap f)) (hB : B ≤ w.heap.size)
    (ad : Addr) (c2 : Nat) (hx : a.eval x = .slice (some ad) m c2) (hnews : ∀ j u, (vs.flatMap f)[j]? = some u → w.cell? (ad.add j) = some u) (hlen : (n + m) * bytes ≤ 140737488355328) (hn : n + m ≤ maxLen)
    (h : ∀ A' c' w', w'.ownsRow B E sz (.slice A' (n + m) c') (n + m) ((l ++ vs).flatMap f) → Below B w w' → K (a.put o.dst (.slice A' (n + m) c')) w') :
    Oper.wp Try.prog o a w K Q := by
  obtain ⟨i0, hi, hz0, hz1, hz2⟩ := info_parts hinfo
  obtain ⟨v', w', hr, h2, h3, _, h5⟩ := run_append_own_at (P := Try.prog) w B T o.type E i0 _ sz bytes hT hi hz0 hz1 hz2 hz hsz (.slice A n c) n (l.flatMap f) hb ad m c2 (vs.flatMap f) (by rw [flat_length hl, hm]) hnews
    (fun u hu => by obtain ⟨v, _, hv⟩ := List.mem_flatMap.1 hu; exact h1 v u hv) hn hlen hB
  obtain ⟨A', c', rfl⟩ := own_slice h2
  unfold Oper.wp execOp
  simp only [ho, resolve, invoke, builtin, Sem.run_bind, Sem.run_pure, Result.andThen_ok, List.map_toArray, List.map_cons, List.map_nil, hs, hx, hr]
  exact h A' c' w' (by rw [List.flatMap_append]; exact h2) ((Below.refl B w).grown h3 hB (fun k e => (hb.lt k e).1))

theorem infoChange : (Try.prog.info? 52).map (fun i => (i.zero, i.size, i.bytes)) = some (some (Value.agg #[.string ⟨#[]⟩, .string ⟨#[]⟩, .bool false]), 3, 40) := by kernel_rfl
/-- Changes, side by side. -/
def CRow (w : World) (B : Nat) (A : Option Addr) (l : List Kc) : Prop :=
  ∀ (j : Nat) (h : j < l.length), ∃ b off, A = some ⟨b, off, none⟩ ∧ b < B ∧ w.cell? ⟨b, off + j * 3, none⟩ = some (.string l[j].k) ∧ w.cell? ⟨b, off + j * 3 + 1, none⟩ = some (.string l[j].v) ∧ w.cell? ⟨b, off + j * 3 + 2, none⟩ = some (.bool l[j].g)
theorem CRow.of {w : World} {B : Nat} {A : Option Addr} {l : List Kc} (h : RowC kcC 3 w B A l) : CRow w B A l := by
  intro j hj
  obtain ⟨b, off, e, hlt, h0⟩ := h j hj
  exact ⟨b, off, e, hlt, h0 0 _ rfl, h0 1 _ rfl, h0 2 _ rfl⟩
theorem CRow.below {w w' : World} {B : Nat} {A : Option Addr} {l : List Kc} (h : CRow w B A l) (hb : Below B w w') : CRow w' B A l := by
  intro j hj
  obtain ⟨b, off, e, hlt, h0, h1, h2⟩ := h j hj
  have C : ∀ i, w'.cell? ⟨b, i, none⟩ = w.cell? ⟨b, i, none⟩ := fun i => hb.cell (p := ⟨b, i, none⟩) hlt
  exact ⟨b, off, e, hlt, (C _).trans h0, (C _).trans h1, (C _).trans h2⟩
theorem CRow.more {w : World} {B B' : Nat} {A : Option Addr} {l : List Kc} (h : CRow w B A l) (hb : B ≤ B') : CRow w B' A l := by
  intro j hj
  obtain ⟨b, off, e, hlt, h0⟩ := h j hj
  exact ⟨b, off, e, by omega, h0⟩
theorem CRow.on {w w' : World} {A : Option Addr} {l : List Kc} (h : CRow w w.heap.size A l) (hb : Below w.heap.size w w') : CRow w' w'.heap.size A l := (h.below hb).more hb.size
structure OutC (w : World) (A : Option Addr) (n c : Nat) (m : List Kc) (U : World) : Prop where
  own : U.ownsRow w.heap.size 52 3 (.slice A n c) n (m.flatMap kcC)
  bel : Below w.heap.size w U
theorem OutC.rows {w : World} {A : Option Addr} {n c : Nat} {m : List Kc} {U : World} (h : OutC w A n c m U) : n = m.length ∧ CRow U U.heap.size A m := by
  obtain ⟨h1, h2⟩ := RowC.own kc_len (by decide) h.own
  exact ⟨h1, CRow.of h2⟩
theorem OutC.more {w : World} {A A' : Option Addr} {n c n' c' : Nat} {m m' : List Kc} {U V : World} (h : OutC w A n c m U) (hb : Below w.heap.size U V) (ho : V.ownsRow w.heap.size 52 3 (.slice A' n' c') n' (m'.flatMap kcC)) : OutC w A' n' c' m' V := ⟨ho, h.bel.trans hb⟩
theorem OutC.drew {w : World} {A : Option Addr} {n c : Nat} {m : List Kc} {U : World} (h : OutC w A n c m U) : OutC w A n c m U.drew := ⟨own_below h.own ((Below.refl _ _).drew), h.bel.drew⟩
/-- Changes in new memory. -/
def ChangesPost (w : World) (m : List Kc) (e : Ending) (w' : World) : Prop := ∃ A c, e = .returned (.slice A m.length c) ∧ CRow w' w'.heap.size A m ∧ Below w.heap.size w w'
theorem OutC.post {w : World} {A : Option Addr} {n c : Nat} {m : List Kc} {U : World} (h : OutC w A n c m U) : ChangesPost w m (.returned (.slice A n c)) U := by
  obtain ⟨h1, h2⟩ := h.rows
  subst h1
  exact ⟨A, c, rfl, h2, h.bel⟩
def zB : ByteArray := ⟨#[]⟩
section
variable {a b : List Kp} {i k : Nat} {o : List Kc}
/-- How far Diff has come. -/
def DfI (a b : List Kp) (i k : Nat) (o : List Kc) : Prop := diffK zB a b = o ++ diffK zB (a.drop i) (b.drop k)
theorem DfI.gone (h : DfI a b i k o) (hi : i < a.length) (hk : b.length ≤ k) : DfI a b (i + 1) k (o ++ [⟨a[i].k, zB, true⟩]) := by
  unfold DfI at h ⊢
  rw [h, List.drop_eq_getElem_cons hi, List.drop_of_length_le hk, diffK]
  simp
theorem DfI.put (h : DfI a b i k o) (hi : a.length ≤ i) (hk : k < b.length) : DfI a b i (k + 1) (o ++ [⟨b[k].k, b[k].v, false⟩]) := by
  unfold DfI at h ⊢
  rw [h, List.drop_eq_getElem_cons hk, List.drop_of_length_le hi, diffK]
  simp
theorem DfI.gone2 (h : DfI a b i k o) (hi : i < a.length) (hk : k < b.length) (hl : ltK a[i].k b[k].k) : DfI a b (i + 1) k (o ++ [⟨a[i].k, zB, true⟩]) := by
  unfold DfI at h ⊢
  rw [h, List.drop_eq_getElem_cons hi, List.drop_eq_getElem_cons hk, diffK, if_pos hl, ← List.drop_eq_getElem_cons hk]
  simp
theorem DfI.put2 (h : DfI a b i k o) (hi : i < a.length) (hk : k < b.length) (hl : ltK b[k].k a[i].k) : DfI a b i (k + 1) (o ++ [⟨b[k].k, b[k].v, false⟩]) := by
  unfold DfI at h ⊢
  rw [h, List.drop_eq_getElem_cons hi, List.drop_eq_getElem_cons hk, diffK, if_neg (ltK_asymm hl), if_pos hl, ← List.drop_eq_getElem_cons hi]
  simp
theorem DfI.other (h : DfI a b i k o) (hi : i < a.length) (hk : k < b.length) (he : a[i].k = b[k].k) (hv : ¬ a[i].v = b[k].v) : DfI a b (i + 1) (k + 1) (o ++ [⟨b[k].k, b[k].v, false⟩]) := by
  unfold DfI at h ⊢
  rw [h, List.drop_eq_getElem_cons hi, List.drop_eq_getElem_cons hk, diffK, if_neg (by rw [he]; exact ltK_irrefl _), if_neg (by rw [he]; exact ltK_irrefl _), if_pos hv]
  simp
theorem DfI.both (h : DfI a b i k o) (hi : i < a.length) (hk : k < b.length) (he : a[i].k = b[k].k) (hv : a[i].v = b[k].v) : DfI a b (i + 1) (k + 1) o := by
  unfold DfI at h ⊢
  rw [h, List.drop_eq_getElem_cons hi, List.drop_eq_getElem_cons hk, diffK, if_neg (by rw [he]; exact ltK_irrefl _), if_neg (by rw [he]; exact ltK_irrefl _), if_neg (by simp [hv])]
theorem DfI.done (h : DfI a b i k o) (hi : a.length ≤ i) (hk : b.length ≤ k) : diffK zB a b = o := by
  unfold DfI at h
  rw [h, List.drop_of_length_le hi, List.drop_of_length_le hk, diffK, List.append_nil]
end
set_option maxHeartbeats 8000000 in
set_option maxRecDepth 40000 in
theorem rdiff_any (a b : List Kp) (na ca nb cb : Nat) (Aa Ab : Option Addr) (w : World) (hla : na = a.length) (hlb : nb = b.length) (hna : na + nb ≤ 999) (hA : PRow w w.heap.size Aa a) (hB : PRow w w.heap.size Ab b) :
    Calls Try.prog 22 #[.slice Aa na ca, .slice Ab nb cb] w (ChangesPost w (diffK zB a b)) := by
  have HA := Lib.hid hA
  have HB := Lib.hid hB
  have HLA := Lib.hid hla
  have HLB := Lib.hid hlb
  have HN0 := Lib.hid (show na + nb + 1 ≤ limT by unfold limT; omega)
  have HS0 := Lib.hid (show OutC w none 0 0 [] w from ⟨World.ownsRow_nil _ _ _ 3, Below.refl _ _⟩)
  clear hA hB hla hlb hna
  go_enter Try.func22, Try.ntmps22
  go_wp2
  go_loopw [5, 6, 7] (fun ov iv kv wr => ∃ A n c o i k, ov = .slice A n c ∧ iv = .int .i64 ((i : Nat) : Int) ∧ kv = .int .i64 ((k : Nat) : Int) ∧ i ≤ na ∧ k ≤ nb ∧ Hid (n ≤ i + k) ∧ Hid (DfI a b i k o) ∧ Hid (OutC w A n c o wr)) (fun _ iv kv _ => (na - (intOf iv).toNat) + (nb - (intOf kv).toNat))
  case atStart => exact ⟨none, 0, 0, [], 0, 0, rfl, rfl, rfl, Nat.zero_le _, Nat.zero_le _, Lib.hid (Nat.zero_le _), Lib.hid (by unfold DfI; simp), HS0⟩
  case round =>
    obtain ⟨A, n, c, o, i, k, rfl, rfl, rfl, hi, hk, HNO, HI, HS⟩ := hrel
    have HS1 := HS
    have HN := Lib.hid (show n ≤ i + k ∧ i + k < limT from ⟨HNO.out, by have := HN0.out; omega⟩)
    have i5 : i + 1 ≤ 9223372036854775807 := by have := HN.out.2; unfold limT at this; omega
    have i6 : k + 1 ≤ 9223372036854775807 := by have := HN.out.2; unfold limT at this; omega
    have i1 : (0 : Int) ≤ (i : Int) := by omega
    have i3 : (0 : Int) ≤ (k : Int) := by omega
    by_cases hlt : i < na
    · have hil : i < a.length := by rw [← HLA.out]; exact hlt
      obtain ⟨ba, oa, rfl, hba, a0, a1⟩ := (HA.out.below HS.out.bel) i hil
      have i2 : (i : Int) < (na : Int) := by omega
      by_cases hkt : k < nb
      · have hkl : k < b.length := by rw [← HLB.out]; exact hkt
        obtain ⟨bb, ob, rfl, hbb, b0, b1⟩ := (HB.out.below HS.out.bel) k hkl
        have i4 : (k : Int) < (nb : Int) := by omega
        have i7 : ¬ (nb : Int) ≤ (k : Int) := by omega
        have i8 : ¬ (na : Int) ≤ (i : Int) := by omega
        have X1 := Lib.hid (fun h => HI.out.gone2 hil hkl h)
        have X2 := Lib.hid (fun h => HI.out.put2 hil hkl h)
        have X3 := Lib.hid (fun h h2 => HI.out.other hil hkl h h2)
        have X4 := Lib.hid (fun h h2 => HI.out.both hil hkl h h2)
        obtain ⟨x, hx⟩ : ∃ x, a[i]'hil = x := ⟨_, rfl⟩
        obtain ⟨y, hy⟩ : ∃ x, b[k]'hkl = x := ⟨_, rfl⟩
        rw [hx] at a0 a1 X1 X2 X3 X4
        rw [hy] at b0 b1 X1 X2 X3 X4
        have HSK := Lib.hid (show ∀ U : World, Below w.heap.size wr U → U.cell? ⟨ba, oa + i * 2, none⟩ = some (.string x.k) ∧ U.cell? ⟨ba, oa + i * 2 + 1, none⟩ = some (.string x.v) ∧ U.cell? ⟨bb, ob + k * 2, none⟩ = some (.string y.k) ∧ U.cell? ⟨bb, ob + k * 2 + 1, none⟩ = some (.string y.v) from fun U hU => ⟨(hU.cell (p := ⟨ba, _, none⟩) hba).trans a0, (hU.cell (p := ⟨ba, _, none⟩) hba).trans a1, (hU.cell (p := ⟨bb, _, none⟩) hbb).trans b0, (hU.cell (p := ⟨bb, _, none⟩) hbb).trans b1⟩)
        have j7 : ¬ nb ≤ k := by omega
        have j8 : ¬ na ≤ i := by omega
        clear hx hy hil hkl hba hbb HI
        rcases ltK_tri x.k y.k with h | h | h
        · have HI2 := Lib.hid (X1.out h)
          have q1 := lk_yes h
          clear X1 X2 X3 X4 h
          go_wp2
          have hS := HSK.out wr.drew ((Below.refl w.heap.size wr).drew)
          refine held_begin 24 (fun W => W.cell? ⟨ba, oa + i * 2, none⟩ = some (.string x.k) ∧ W.cell? ⟨ba, oa + i * 2 + 1, none⟩ = some (.string x.v) ∧ W.cell? ⟨bb, ob + k * 2, none⟩ = some (.string y.k) ∧ W.cell? ⟨bb, ob + k * 2 + 1, none⟩ = some (.string y.v)) rfl (by kernel_rfl) ?_
          refine held_take (i := 0) (t := 48) (v := (.int .i64 (k : Int))) (fuel := 23) rfl rfl (by kernel_rfl) (by kernel_rfl) (by kernel_rfl) (fun _ _ _ h => h) (.inl ⟨rfl, fun W hW => by obtain ⟨s0, s1, s2, s3⟩ := hW; simp [execOp, Act.eval, go_sem, s0, s1, s2, s3]⟩) hS ?_
          simp only [List.setIfInBounds_toArray, List.set_cons_succ, List.set_cons_zero]
          refine held_take (i := 1) (t := 49) (v := (.slice (some ⟨bb, ob, none⟩) nb cb)) (fuel := 22) rfl rfl (by kernel_rfl) (by kernel_rfl) (by kernel_rfl) (fun _ _ _ h => h) (.inl ⟨rfl, fun W hW => by obtain ⟨s0, s1, s2, s3⟩ := hW; simp [execOp, Act.eval, go_sem, s0, s1, s2, s3]⟩) hS ?_
          simp only [List.setIfInBounds_toArray, List.set_cons_succ, List.set_cons_zero]
          refine held_take (i := 2) (t := 50) (v := (.int .i64 (nb : Int))) (fuel := 21) rfl rfl (by kernel_rfl) (by kernel_rfl) (by kernel_rfl) (fun _ _ _ h => h) (.inl ⟨rfl, fun W hW => by obtain ⟨s0, s1, s2, s3⟩ := hW; simp [execOp, Act.eval, go_sem, s0, s1, s2, s3]⟩) hS ?_
          simp only [List.setIfInBounds_toArray, List.set_cons_succ, List.set_cons_zero]
          refine held_take (i := 3) (t := 51) (v := (.bool false)) (fuel := 20) rfl rfl (by kernel_rfl) (by kernel_rfl) (by kernel_rfl) (fun _ _ _ h => h) (.inl ⟨rfl, fun W hW => by obtain ⟨s0, s1, s2, s3⟩ := hW; simp [execOp, Act.eval, go_sem, s0, s1, s2, s3, i7, j7]⟩) hS ?_
          simp only [List.setIfInBounds_toArray, List.set_cons_succ, List.set_cons_zero]
          refine held_take (i := 4) (t := 52) (v := (.bool false)) (fuel := 19) rfl rfl (by kernel_rfl) (by kernel_rfl) (by kernel_rfl) (fun _ _ _ h => h) (.inl ⟨rfl, fun W hW => by obtain ⟨s0, s1, s2, s3⟩ := hW; simp [execOp, Act.eval, go_sem, s0, s1, s2, s3]⟩) hS ?_
          simp only [List.setIfInBounds_toArray, List.set_cons_succ, List.set_cons_zero]
          refine held_take (i := 5) (t := 53) (v := (.int .i64 (i : Int))) (fuel := 18) rfl rfl (by kernel_rfl) (by kernel_rfl) (by kernel_rfl) (fun _ _ _ h => h) (.inl ⟨rfl, fun W hW => by obtain ⟨s0, s1, s2, s3⟩ := hW; simp [execOp, Act.eval, go_sem, s0, s1, s2, s3]⟩) hS ?_
          simp only [List.setIfInBounds_toArray, List.set_cons_succ, List.set_cons_zero]
          refine held_take (i := 6) (t := 54) (v := (.slice (some ⟨ba, oa, none⟩) na ca)) (fuel := 17) rfl rfl (by kernel_rfl) (by kernel_rfl) (by kernel_rfl) (fun _ _ _ h => h) (.inl ⟨rfl, fun W hW => by obtain ⟨s0, s1, s2, s3⟩ := hW; simp [execOp, Act.eval, go_sem, s0, s1, s2, s3]⟩) hS ?_
          simp only [List.setIfInBounds_toArray, List.set_cons_succ, List.set_cons_zero]
          refine held_take (i := 7) (t := 55) (v := (.int .i64 (na : Int))) (fuel := 16) rfl rfl (by kernel_rfl) (by kernel_rfl) (by kernel_rfl) (fun _ _ _ h => h) (.inl ⟨rfl, fun W hW => by obtain ⟨s0, s1, s2, s3⟩ := hW; simp [execOp, Act.eval, go_sem, s0, s1, s2, s3]⟩) hS ?_
          simp only [List.setIfInBounds_toArray, List.set_cons_succ, List.set_cons_zero]
          refine held_take (i := 8) (t := 56) (v := (.bool true)) (fuel := 15) rfl rfl (by kernel_rfl) (by kernel_rfl) (by kernel_rfl) (fun _ _ _ h => h) (.inl ⟨rfl, fun W hW => by obtain ⟨s0, s1, s2, s3⟩ := hW; simp [execOp, Act.eval, go_sem, s0, s1, s2, s3, i2, hlt]⟩) hS ?_
          simp only [List.setIfInBounds_toArray, List.set_cons_succ, List.set_cons_zero]
          refine held_take (i := 9) (t := 57) (v := (.bool true)) (fuel := 14) rfl rfl (by kernel_rfl) (by kernel_rfl) (by kernel_rfl) (fun _ _ _ h => h) (.inl ⟨rfl, fun W hW => by obtain ⟨s0, s1, s2, s3⟩ := hW; simp [execOp, Act.eval, go_sem, s0, s1, s2, s3]⟩) hS ?_
          simp only [List.setIfInBounds_toArray, List.set_cons_succ, List.set_cons_zero]
          refine held_take (i := 10) (t := 58) (v := (.slice (some ⟨ba, oa, none⟩) na ca)) (fuel := 13) rfl rfl (by kernel_rfl) (by kernel_rfl) (by kernel_rfl) (fun _ _ _ h => h) (.inl ⟨rfl, fun W hW => by obtain ⟨s0, s1, s2, s3⟩ := hW; simp [execOp, Act.eval, go_sem, s0, s1, s2, s3]⟩) hS ?_
          simp only [List.setIfInBounds_toArray, List.set_cons_succ, List.set_cons_zero]
          refine held_take (i := 11) (t := 59) (v := (.int .i64 (i : Int))) (fuel := 12) rfl rfl (by kernel_rfl) (by kernel_rfl) (by kernel_rfl) (fun _ _ _ h => h) (.inl ⟨rfl, fun W hW => by obtain ⟨s0, s1, s2, s3⟩ := hW; simp [execOp, Act.eval, go_sem, s0, s1, s2, s3]⟩) hS ?_
          simp only [List.setIfInBounds_toArray, List.set_cons_succ, List.set_cons_zero]
          refine held_take (i := 12) (t := 60) (v := (.pointer (some ⟨ba, oa + i * 2, none⟩))) (fuel := 11) rfl rfl (by kernel_rfl) (by kernel_rfl) (by kernel_rfl) (fun _ _ _ h => h) (.inl ⟨rfl, fun W hW => by obtain ⟨s0, s1, s2, s3⟩ := hW; simp [execOp, Act.eval, go_sem, s0, s1, s2, s3, i1, i2, hlt]⟩) hS ?_
          simp only [List.setIfInBounds_toArray, List.set_cons_succ, List.set_cons_zero]
          refine held_take (i := 13) (t := 61) (v := (.pointer (some ⟨ba, oa + i * 2, none⟩))) (fuel := 10) rfl rfl (by kernel_rfl) (by kernel_rfl) (by kernel_rfl) (fun _ _ _ h => h) (.inl ⟨rfl, fun W hW => by obtain ⟨s0, s1, s2, s3⟩ := hW; simp [execOp, Act.eval, go_sem, s0, s1, s2, s3]⟩) hS ?_
          simp only [List.setIfInBounds_toArray, List.set_cons_succ, List.set_cons_zero]
          refine held_take (i := 14) (t := 62) (v := (.string x.k)) (fuel := 9) rfl rfl (by kernel_rfl) (by kernel_rfl) (by kernel_rfl) (fun _ _ _ h => h) (.inl ⟨rfl, fun W hW => by obtain ⟨s0, s1, s2, s3⟩ := hW; simp [execOp, Act.eval, go_sem, s0, s1, s2, s3]⟩) hS ?_
          simp only [List.setIfInBounds_toArray, List.set_cons_succ, List.set_cons_zero]
          refine held_take (i := 15) (t := 63) (v := (.slice (some ⟨bb, ob, none⟩) nb cb)) (fuel := 8) rfl rfl (by kernel_rfl) (by kernel_rfl) (by kernel_rfl) (fun _ _ _ h => h) (.inl ⟨rfl, fun W hW => by obtain ⟨s0, s1, s2, s3⟩ := hW; simp [execOp, Act.eval, go_sem, s0, s1, s2, s3]⟩) hS ?_
          simp only [List.setIfInBounds_toArray, List.set_cons_succ, List.set_cons_zero]
          refine held_take (i := 16) (t := 64) (v := (.int .i64 (k : Int))) (fuel := 7) rfl rfl (by kernel_rfl) (by kernel_rfl) (by kernel_rfl) (fun _ _ _ h => h) (.inl ⟨rfl, fun W hW => by obtain ⟨s0, s1, s2, s3⟩ := hW; simp [execOp, Act.eval, go_sem, s0, s1, s2, s3]⟩) hS ?_
          simp only [List.setIfInBounds_toArray, List.set_cons_succ, List.set_cons_zero]
          refine held_take (i := 17) (t := 65) (v := (.pointer (some ⟨bb, ob + k * 2, none⟩))) (fuel := 6) rfl rfl (by kernel_rfl) (by kernel_rfl) (by kernel_rfl) (fun _ _ _ h => h) (.inl ⟨rfl, fun W hW => by obtain ⟨s0, s1, s2, s3⟩ := hW; simp [execOp, Act.eval, go_sem, s0, s1, s2, s3, i3, i4, hkt]⟩) hS ?_
          simp only [List.setIfInBounds_toArray, List.set_cons_succ, List.set_cons_zero]
          refine held_take (i := 18) (t := 66) (v := (.pointer (some ⟨bb, ob + k * 2, none⟩))) (fuel := 5) rfl rfl (by kernel_rfl) (by kernel_rfl) (by kernel_rfl) (fun _ _ _ h => h) (.inl ⟨rfl, fun W hW => by obtain ⟨s0, s1, s2, s3⟩ := hW; simp [execOp, Act.eval, go_sem, s0, s1, s2, s3]⟩) hS ?_
          simp only [List.setIfInBounds_toArray, List.set_cons_succ, List.set_cons_zero]
          refine held_take (i := 19) (t := 67) (v := (.string y.k)) (fuel := 4) rfl rfl (by kernel_rfl) (by kernel_rfl) (by kernel_rfl) (fun _ _ _ h => h) (.inl ⟨rfl, fun W hW => by obtain ⟨s0, s1, s2, s3⟩ := hW; simp [execOp, Act.eval, go_sem, s0, s1, s2, s3]⟩) hS ?_
          simp only [List.setIfInBounds_toArray, List.set_cons_succ, List.set_cons_zero]
          refine held_take (i := 20) (t := 68) (v := (.bool true)) (fuel := 3) rfl rfl (by kernel_rfl) (by kernel_rfl) (by kernel_rfl) (fun _ _ _ h => h) (.inl ⟨rfl, fun W hW => by obtain ⟨s0, s1, s2, s3⟩ := hW; simp [execOp, Act.eval, go_sem, s0, s1, s2, s3, q1]⟩) hS ?_
          simp only [List.setIfInBounds_toArray, List.set_cons_succ, List.set_cons_zero]
          refine held_take (i := 21) (t := 69) (v := (.bool true)) (fuel := 2) rfl rfl (by kernel_rfl) (by kernel_rfl) (by kernel_rfl) (fun _ _ _ h => h) (.inl ⟨rfl, fun W hW => by obtain ⟨s0, s1, s2, s3⟩ := hW; simp [execOp, Act.eval, go_sem, s0, s1, s2, s3]⟩) hS ?_
          simp only [List.setIfInBounds_toArray, List.set_cons_succ, List.set_cons_zero]
          refine held_take (i := 22) (t := 70) (v := (.bool true)) (fuel := 1) rfl rfl (by kernel_rfl) (by kernel_rfl) (by kernel_rfl) (fun _ _ _ h => h) (.inl ⟨rfl, fun W hW => by obtain ⟨s0, s1, s2, s3⟩ := hW; simp [execOp, Act.eval, go_sem, s0, s1, s2, s3]⟩) hS ?_
          simp only [List.setIfInBounds_toArray, List.set_cons_succ, List.set_cons_zero]
          refine held_take (i := 23) (t := 47) (v := (.bool true)) (fuel := 0) rfl rfl (by kernel_rfl) (by kernel_rfl) (by kernel_rfl) (fun _ _ _ h => h) (.inl ⟨rfl, fun W hW => by obtain ⟨s0, s1, s2, s3⟩ := hW; simp [execOp, Act.eval, go_sem, s0, s1, s2, s3]⟩) hS ?_
          simp only [List.setIfInBounds_toArray, List.set_cons_succ, List.set_cons_zero]
          refine wpAnyH_done (by kernel_rfl) ?_ 0
          clear hS
          replace HS1 := Lib.hid HS1.out.drew
          go_wp2_with (at_builtin; have HFS := HS1; go_loud (refine append_item Try.underlying44 infoChange rfl (by decide) kc_len kc_one rfl _ _ rfl w.heap.size A n c o rfl _ ⟨x.k, zB, true⟩ HS1.out.own HS1.out.bel.size _ rfl rfl (by have := HN.out; unfold limT at this; omega) (by have := HN.out; unfold limT at this; unfold maxLen; omega) [_, _, _] rfl ?_); intro A3 n3 c3 w3 hn3 ho3 hb3 _; have HS3 := Lib.hid (HS1.out.more hb3 ho3); clear ho3 hb3 HS1; subst hn3)
          go_roundw
          case rel => exact ⟨_, _, _, _, i + 1, k, rfl, by go_num, by go_num, by omega, by omega, Lib.hid (by have := HNO.out; omega), HI2, HS3⟩
          case measure => simp [intOf]; omega

        · have q1 := lk_no (show ¬ ltK x.k y.k by rw [h]; exact ltK_irrefl _)
          have q2 := lk_no (show ¬ ltK y.k x.k by rw [h]; exact ltK_irrefl _)
          by_cases hv : x.v = y.v
          · have HI2 := Lib.hid (X4.out h hv)
            have qv := sk_eq hv
            clear X1 X2 X3 X4 h hv
            go_wp2
            have hS := HSK.out wr.drew ((Below.refl w.heap.size wr).drew)
            refine held_begin 24 (fun W => W.cell? ⟨ba, oa + i * 2, none⟩ = some (.string x.k) ∧ W.cell? ⟨ba, oa + i * 2 + 1, none⟩ = some (.string x.v) ∧ W.cell? ⟨bb, ob + k * 2, none⟩ = some (.string y.k) ∧ W.cell? ⟨bb, ob + k * 2 + 1, none⟩ = some (.string y.v)) rfl (by kernel_rfl) ?_
            refine held_take (i := 0) (t := 48) (v := (.int .i64 (k : Int))) (fuel := 23) rfl rfl (by kernel_rfl) (by kernel_rfl) (by kernel_rfl) (fun _ _ _ h => h) (.inl ⟨rfl, fun W hW => by obtain ⟨s0, s1, s2, s3⟩ := hW; simp [execOp, Act.eval, go_sem, s0, s1, s2, s3]⟩) hS ?_
            simp only [List.setIfInBounds_toArray, List.set_cons_succ, List.set_cons_zero]
            refine held_take (i := 1) (t := 49) (v := (.slice (some ⟨bb, ob, none⟩) nb cb)) (fuel := 22) rfl rfl (by kernel_rfl) (by kernel_rfl) (by kernel_rfl) (fun _ _ _ h => h) (.inl ⟨rfl, fun W hW => by obtain ⟨s0, s1, s2, s3⟩ := hW; simp [execOp, Act.eval, go_sem, s0, s1, s2, s3]⟩) hS ?_
            simp only [List.setIfInBounds_toArray, List.set_cons_succ, List.set_cons_zero]
            refine held_take (i := 2) (t := 50) (v := (.int .i64 (nb : Int))) (fuel := 21) rfl rfl (by kernel_rfl) (by kernel_rfl) (by kernel_rfl) (fun _ _ _ h => h) (.inl ⟨rfl, fun W hW => by obtain ⟨s0, s1, s2, s3⟩ := hW; simp [execOp, Act.eval, go_sem, s0, s1, s2, s3]⟩) hS ?_
            simp only [List.setIfInBounds_toArray, List.set_cons_succ, List.set_cons_zero]
            refine held_take (i := 3) (t := 51) (v := (.bool false)) (fuel := 20) rfl rfl (by kernel_rfl) (by kernel_rfl) (by kernel_rfl) (fun _ _ _ h => h) (.inl ⟨rfl, fun W hW => by obtain ⟨s0, s1, s2, s3⟩ := hW; simp [execOp, Act.eval, go_sem, s0, s1, s2, s3, i7, j7]⟩) hS ?_
            simp only [List.setIfInBounds_toArray, List.set_cons_succ, List.set_cons_zero]
            refine held_take (i := 4) (t := 52) (v := (.bool false)) (fuel := 19) rfl rfl (by kernel_rfl) (by kernel_rfl) (by kernel_rfl) (fun _ _ _ h => h) (.inl ⟨rfl, fun W hW => by obtain ⟨s0, s1, s2, s3⟩ := hW; simp [execOp, Act.eval, go_sem, s0, s1, s2, s3]⟩) hS ?_
            simp only [List.setIfInBounds_toArray, List.set_cons_succ, List.set_cons_zero]
            refine held_take (i := 5) (t := 53) (v := (.int .i64 (i : Int))) (fuel := 18) rfl rfl (by kernel_rfl) (by kernel_rfl) (by kernel_rfl) (fun _ _ _ h => h) (.inl ⟨rfl, fun W hW => by obtain ⟨s0, s1, s2, s3⟩ := hW; simp [execOp, Act.eval, go_sem, s0, s1, s2, s3]⟩) hS ?_
            simp only [List.setIfInBounds_toArray, List.set_cons_succ, List.set_cons_zero]
            refine held_take (i := 6) (t := 54) (v := (.slice (some ⟨ba, oa, none⟩) na ca)) (fuel := 17) rfl rfl (by kernel_rfl) (by kernel_rfl) (by kernel_rfl) (fun _ _ _ h => h) (.inl ⟨rfl, fun W hW => by obtain ⟨s0, s1, s2, s3⟩ := hW; simp [execOp, Act.eval, go_sem, s0, s1, s2, s3]⟩) hS ?_
            simp only [List.setIfInBounds_toArray, List.set_cons_succ, List.set_cons_zero]
            refine held_take (i := 7) (t := 55) (v := (.int .i64 (na : Int))) (fuel := 16) rfl rfl (by kernel_rfl) (by kernel_rfl) (by kernel_rfl) (fun _ _ _ h => h) (.inl ⟨rfl, fun W hW => by obtain ⟨s0, s1, s2, s3⟩ := hW; simp [execOp, Act.eval, go_sem, s0, s1, s2, s3]⟩) hS ?_
            simp only [List.setIfInBounds_toArray, List.set_cons_succ, List.set_cons_zero]
            refine held_take (i := 8) (t := 56) (v := (.bool true)) (fuel := 15) rfl rfl (by kernel_rfl) (by kernel_rfl) (by kernel_rfl) (fun _ _ _ h => h) (.inl ⟨rfl, fun W hW => by obtain ⟨s0, s1, s2, s3⟩ := hW; simp [execOp, Act.eval, go_sem, s0, s1, s2, s3, i2, hlt]⟩) hS ?_
            simp only [List.setIfInBounds_toArray, List.set_cons_succ, List.set_cons_zero]
            refine held_take (i := 9) (t := 57) (v := (.bool true)) (fuel := 14) rfl rfl (by kernel_rfl) (by kernel_rfl) (by kernel_rfl) (fun _ _ _ h => h) (.inl ⟨rfl, fun W hW => by obtain ⟨s0, s1, s2, s3⟩ := hW; simp [execOp, Act.eval, go_sem, s0, s1, s2, s3]⟩) hS ?_
            simp only [List.setIfInBounds_toArray, List.set_cons_succ, List.set_cons_zero]
            refine held_take (i := 10) (t := 58) (v := (.slice (some ⟨ba, oa, none⟩) na ca)) (fuel := 13) rfl rfl (by kernel_rfl) (by kernel_rfl) (by kernel_rfl) (fun _ _ _ h => h) (.inl ⟨rfl, fun W hW => by obtain ⟨s0, s1, s2, s3⟩ := hW; simp [execOp, Act.eval, go_sem, s0, s1, s2, s3]⟩) hS ?_
            simp only [List.setIfInBounds_toArray, List.set_cons_succ, List.set_cons_zero]
            refine held_take (i := 11) (t := 59) (v := (.int .i64 (i : Int))) (fuel := 12) rfl rfl (by kernel_rfl) (by kernel_rfl) (by kernel_rfl) (fun _ _ _ h => h) (.inl ⟨rfl, fun W hW => by obtain ⟨s0, s1, s2, s3⟩ := hW; simp [execOp, Act.eval, go_sem, s0, s1, s2, s3]⟩) hS ?_
            simp only [List.setIfInBounds_toArray, List.set_cons_succ, List.set_cons_zero]
            refine held_take (i := 12) (t := 60) (v := (.pointer (some ⟨ba, oa + i * 2, none⟩))) (fuel := 11) rfl rfl (by kernel_rfl) (by kernel_rfl) (by kernel_rfl) (fun _ _ _ h => h) (.inl ⟨rfl, fun W hW => by obtain ⟨s0, s1, s2, s3⟩ := hW; simp [execOp, Act.eval, go_sem, s0, s1, s2, s3, i1, i2, hlt]⟩) hS ?_
            simp only [List.setIfInBounds_toArray, List.set_cons_succ, List.set_cons_zero]
            refine held_take (i := 13) (t := 61) (v := (.pointer (some ⟨ba, oa + i * 2, none⟩))) (fuel := 10) rfl rfl (by kernel_rfl) (by kernel_rfl) (by kernel_rfl) (fun _ _ _ h => h) (.inl ⟨rfl, fun W hW => by obtain ⟨s0, s1, s2, s3⟩ := hW; simp [execOp, Act.eval, go_sem, s0, s1, s2, s3]⟩) hS ?_
            simp only [List.setIfInBounds_toArray, List.set_cons_succ, List.set_cons_zero]
            refine held_take (i := 14) (t := 62) (v := (.string x.k)) (fuel := 9) rfl rfl (by kernel_rfl) (by kernel_rfl) (by kernel_rfl) (fun _ _ _ h => h) (.inl ⟨rfl, fun W hW => by obtain ⟨s0, s1, s2, s3⟩ := hW; simp [execOp, Act.eval, go_sem, s0, s1, s2, s3]⟩) hS ?_
            simp only [List.setIfInBounds_toArray, List.set_cons_succ, List.set_cons_zero]
            refine held_take (i := 15) (t := 63) (v := (.slice (some ⟨bb, ob, none⟩) nb cb)) (fuel := 8) rfl rfl (by kernel_rfl) (by kernel_rfl) (by kernel_rfl) (fun _ _ _ h => h) (.inl ⟨rfl, fun W hW => by obtain ⟨s0, s1, s2, s3⟩ := hW; simp [execOp, Act.eval, go_sem, s0, s1, s2, s3]⟩) hS ?_
            simp only [List.setIfInBounds_toArray, List.set_cons_succ, List.set_cons_zero]
            refine held_take (i := 16) (t := 64) (v := (.int .i64 (k : Int))) (fuel := 7) rfl rfl (by kernel_rfl) (by kernel_rfl) (by kernel_rfl) (fun _ _ _ h => h) (.inl ⟨rfl, fun W hW => by obtain ⟨s0, s1, s2, s3⟩ := hW; simp [execOp, Act.eval, go_sem, s0, s1, s2, s3]⟩) hS ?_
            simp only [List.setIfInBounds_toArray, List.set_cons_succ, List.set_cons_zero]
            refine held_take (i := 17) (t := 65) (v := (.pointer (some ⟨bb, ob + k * 2, none⟩))) (fuel := 6) rfl rfl (by kernel_rfl) (by kernel_rfl) (by kernel_rfl) (fun _ _ _ h => h) (.inl ⟨rfl, fun W hW => by obtain ⟨s0, s1, s2, s3⟩ := hW; simp [execOp, Act.eval, go_sem, s0, s1, s2, s3, i3, i4, hkt]⟩) hS ?_
            simp only [List.setIfInBounds_toArray, List.set_cons_succ, List.set_cons_zero]
            refine held_take (i := 18) (t := 66) (v := (.pointer (some ⟨bb, ob + k * 2, none⟩))) (fuel := 5) rfl rfl (by kernel_rfl) (by kernel_rfl) (by kernel_rfl) (fun _ _ _ h => h) (.inl ⟨rfl, fun W hW => by obtain ⟨s0, s1, s2, s3⟩ := hW; simp [execOp, Act.eval, go_sem, s0, s1, s2, s3]⟩) hS ?_
            simp only [List.setIfInBounds_toArray, List.set_cons_succ, List.set_cons_zero]
            refine held_take (i := 19) (t := 67) (v := (.string y.k)) (fuel := 4) rfl rfl (by kernel_rfl) (by kernel_rfl) (by kernel_rfl) (fun _ _ _ h => h) (.inl ⟨rfl, fun W hW => by obtain ⟨s0, s1, s2, s3⟩ := hW; simp [execOp, Act.eval, go_sem, s0, s1, s2, s3]⟩) hS ?_
            simp only [List.setIfInBounds_toArray, List.set_cons_succ, List.set_cons_zero]
            refine held_take (i := 20) (t := 68) (v := (.bool false)) (fuel := 3) rfl rfl (by kernel_rfl) (by kernel_rfl) (by kernel_rfl) (fun _ _ _ h => h) (.inl ⟨rfl, fun W hW => by obtain ⟨s0, s1, s2, s3⟩ := hW; simp [execOp, Act.eval, go_sem, s0, s1, s2, s3, q1]⟩) hS ?_
            simp only [List.setIfInBounds_toArray, List.set_cons_succ, List.set_cons_zero]
            refine held_take (i := 21) (t := 69) (v := (.bool false)) (fuel := 2) rfl rfl (by kernel_rfl) (by kernel_rfl) (by kernel_rfl) (fun _ _ _ h => h) (.inl ⟨rfl, fun W hW => by obtain ⟨s0, s1, s2, s3⟩ := hW; simp [execOp, Act.eval, go_sem, s0, s1, s2, s3]⟩) hS ?_
            simp only [List.setIfInBounds_toArray, List.set_cons_succ, List.set_cons_zero]
            refine held_take (i := 22) (t := 70) (v := (.bool false)) (fuel := 1) rfl rfl (by kernel_rfl) (by kernel_rfl) (by kernel_rfl) (fun _ _ _ h => h) (.inl ⟨rfl, fun W hW => by obtain ⟨s0, s1, s2, s3⟩ := hW; simp [execOp, Act.eval, go_sem, s0, s1, s2, s3]⟩) hS ?_
            simp only [List.setIfInBounds_toArray, List.set_cons_succ, List.set_cons_zero]
            refine held_take (i := 23) (t := 47) (v := (.bool false)) (fuel := 0) rfl rfl (by kernel_rfl) (by kernel_rfl) (by kernel_rfl) (fun _ _ _ h => h) (.inl ⟨rfl, fun W hW => by obtain ⟨s0, s1, s2, s3⟩ := hW; simp [execOp, Act.eval, go_sem, s0, s1, s2, s3]⟩) hS ?_
            simp only [List.setIfInBounds_toArray, List.set_cons_succ, List.set_cons_zero]
            refine wpAnyH_done (by kernel_rfl) ?_ 0
            clear hS
            replace HS1 := Lib.hid HS1.out.drew
            go_wp2
            have hS := HSK.out wr.drew.drew ((Below.refl w.heap.size wr).drew.drew)
            refine held_begin 18 (fun W => W.cell? ⟨ba, oa + i * 2, none⟩ = some (.string x.k) ∧ W.cell? ⟨ba, oa + i * 2 + 1, none⟩ = some (.string x.v) ∧ W.cell? ⟨bb, ob + k * 2, none⟩ = some (.string y.k) ∧ W.cell? ⟨bb, ob + k * 2 + 1, none⟩ = some (.string y.v)) rfl (by kernel_rfl) ?_
            refine held_take (i := 0) (t := 83) (v := (.int .i64 (i : Int))) (fuel := 17) rfl rfl (by kernel_rfl) (by kernel_rfl) (by kernel_rfl) (fun _ _ _ h => h) (.inl ⟨rfl, fun W hW => by obtain ⟨s0, s1, s2, s3⟩ := hW; simp [execOp, Act.eval, go_sem, s0, s1, s2, s3]⟩) hS ?_
            simp only [List.setIfInBounds_toArray, List.set_cons_succ, List.set_cons_zero]
            refine held_take (i := 1) (t := 84) (v := (.slice (some ⟨ba, oa, none⟩) na ca)) (fuel := 16) rfl rfl (by kernel_rfl) (by kernel_rfl) (by kernel_rfl) (fun _ _ _ h => h) (.inl ⟨rfl, fun W hW => by obtain ⟨s0, s1, s2, s3⟩ := hW; simp [execOp, Act.eval, go_sem, s0, s1, s2, s3]⟩) hS ?_
            simp only [List.setIfInBounds_toArray, List.set_cons_succ, List.set_cons_zero]
            refine held_take (i := 2) (t := 85) (v := (.int .i64 (na : Int))) (fuel := 15) rfl rfl (by kernel_rfl) (by kernel_rfl) (by kernel_rfl) (fun _ _ _ h => h) (.inl ⟨rfl, fun W hW => by obtain ⟨s0, s1, s2, s3⟩ := hW; simp [execOp, Act.eval, go_sem, s0, s1, s2, s3]⟩) hS ?_
            simp only [List.setIfInBounds_toArray, List.set_cons_succ, List.set_cons_zero]
            refine held_take (i := 3) (t := 86) (v := (.bool false)) (fuel := 14) rfl rfl (by kernel_rfl) (by kernel_rfl) (by kernel_rfl) (fun _ _ _ h => h) (.inl ⟨rfl, fun W hW => by obtain ⟨s0, s1, s2, s3⟩ := hW; simp [execOp, Act.eval, go_sem, s0, s1, s2, s3, i8, j8]⟩) hS ?_
            simp only [List.setIfInBounds_toArray, List.set_cons_succ, List.set_cons_zero]
            refine held_take (i := 4) (t := 87) (v := (.bool false)) (fuel := 13) rfl rfl (by kernel_rfl) (by kernel_rfl) (by kernel_rfl) (fun _ _ _ h => h) (.inl ⟨rfl, fun W hW => by obtain ⟨s0, s1, s2, s3⟩ := hW; simp [execOp, Act.eval, go_sem, s0, s1, s2, s3]⟩) hS ?_
            simp only [List.setIfInBounds_toArray, List.set_cons_succ, List.set_cons_zero]
            refine held_take (i := 5) (t := 88) (v := (.slice (some ⟨bb, ob, none⟩) nb cb)) (fuel := 12) rfl rfl (by kernel_rfl) (by kernel_rfl) (by kernel_rfl) (fun _ _ _ h => h) (.inl ⟨rfl, fun W hW => by obtain ⟨s0, s1, s2, s3⟩ := hW; simp [execOp, Act.eval, go_sem, s0, s1, s2, s3]⟩) hS ?_
            simp only [List.setIfInBounds_toArray, List.set_cons_succ, List.set_cons_zero]
            refine held_take (i := 6) (t := 89) (v := (.int .i64 (k : Int))) (fuel := 11) rfl rfl (by kernel_rfl) (by kernel_rfl) (by kernel_rfl) (fun _ _ _ h => h) (.inl ⟨rfl, fun W hW => by obtain ⟨s0, s1, s2, s3⟩ := hW; simp [execOp, Act.eval, go_sem, s0, s1, s2, s3]⟩) hS ?_
            simp only [List.setIfInBounds_toArray, List.set_cons_succ, List.set_cons_zero]
            refine held_take (i := 7) (t := 90) (v := (.pointer (some ⟨bb, ob + k * 2, none⟩))) (fuel := 10) rfl rfl (by kernel_rfl) (by kernel_rfl) (by kernel_rfl) (fun _ _ _ h => h) (.inl ⟨rfl, fun W hW => by obtain ⟨s0, s1, s2, s3⟩ := hW; simp [execOp, Act.eval, go_sem, s0, s1, s2, s3, i3, i4, hkt]⟩) hS ?_
            simp only [List.setIfInBounds_toArray, List.set_cons_succ, List.set_cons_zero]
            refine held_take (i := 8) (t := 91) (v := (.pointer (some ⟨bb, ob + k * 2, none⟩))) (fuel := 9) rfl rfl (by kernel_rfl) (by kernel_rfl) (by kernel_rfl) (fun _ _ _ h => h) (.inl ⟨rfl, fun W hW => by obtain ⟨s0, s1, s2, s3⟩ := hW; simp [execOp, Act.eval, go_sem, s0, s1, s2, s3]⟩) hS ?_
            simp only [List.setIfInBounds_toArray, List.set_cons_succ, List.set_cons_zero]
            refine held_take (i := 9) (t := 92) (v := (.string y.k)) (fuel := 8) rfl rfl (by kernel_rfl) (by kernel_rfl) (by kernel_rfl) (fun _ _ _ h => h) (.inl ⟨rfl, fun W hW => by obtain ⟨s0, s1, s2, s3⟩ := hW; simp [execOp, Act.eval, go_sem, s0, s1, s2, s3]⟩) hS ?_
            simp only [List.setIfInBounds_toArray, List.set_cons_succ, List.set_cons_zero]
            refine held_take (i := 10) (t := 93) (v := (.slice (some ⟨ba, oa, none⟩) na ca)) (fuel := 7) rfl rfl (by kernel_rfl) (by kernel_rfl) (by kernel_rfl) (fun _ _ _ h => h) (.inl ⟨rfl, fun W hW => by obtain ⟨s0, s1, s2, s3⟩ := hW; simp [execOp, Act.eval, go_sem, s0, s1, s2, s3]⟩) hS ?_
            simp only [List.setIfInBounds_toArray, List.set_cons_succ, List.set_cons_zero]
            refine held_take (i := 11) (t := 94) (v := (.int .i64 (i : Int))) (fuel := 6) rfl rfl (by kernel_rfl) (by kernel_rfl) (by kernel_rfl) (fun _ _ _ h => h) (.inl ⟨rfl, fun W hW => by obtain ⟨s0, s1, s2, s3⟩ := hW; simp [execOp, Act.eval, go_sem, s0, s1, s2, s3]⟩) hS ?_
            simp only [List.setIfInBounds_toArray, List.set_cons_succ, List.set_cons_zero]
            refine held_take (i := 12) (t := 95) (v := (.pointer (some ⟨ba, oa + i * 2, none⟩))) (fuel := 5) rfl rfl (by kernel_rfl) (by kernel_rfl) (by kernel_rfl) (fun _ _ _ h => h) (.inl ⟨rfl, fun W hW => by obtain ⟨s0, s1, s2, s3⟩ := hW; simp [execOp, Act.eval, go_sem, s0, s1, s2, s3, i1, i2, hlt]⟩) hS ?_
            simp only [List.setIfInBounds_toArray, List.set_cons_succ, List.set_cons_zero]
            refine held_take (i := 13) (t := 96) (v := (.pointer (some ⟨ba, oa + i * 2, none⟩))) (fuel := 4) rfl rfl (by kernel_rfl) (by kernel_rfl) (by kernel_rfl) (fun _ _ _ h => h) (.inl ⟨rfl, fun W hW => by obtain ⟨s0, s1, s2, s3⟩ := hW; simp [execOp, Act.eval, go_sem, s0, s1, s2, s3]⟩) hS ?_
            simp only [List.setIfInBounds_toArray, List.set_cons_succ, List.set_cons_zero]
            refine held_take (i := 14) (t := 97) (v := (.string x.k)) (fuel := 3) rfl rfl (by kernel_rfl) (by kernel_rfl) (by kernel_rfl) (fun _ _ _ h => h) (.inl ⟨rfl, fun W hW => by obtain ⟨s0, s1, s2, s3⟩ := hW; simp [execOp, Act.eval, go_sem, s0, s1, s2, s3]⟩) hS ?_
            simp only [List.setIfInBounds_toArray, List.set_cons_succ, List.set_cons_zero]
            refine held_take (i := 15) (t := 98) (v := (.bool false)) (fuel := 2) rfl rfl (by kernel_rfl) (by kernel_rfl) (by kernel_rfl) (fun _ _ _ h => h) (.inl ⟨rfl, fun W hW => by obtain ⟨s0, s1, s2, s3⟩ := hW; simp [execOp, Act.eval, go_sem, s0, s1, s2, s3, q2]⟩) hS ?_
            simp only [List.setIfInBounds_toArray, List.set_cons_succ, List.set_cons_zero]
            refine held_take (i := 16) (t := 99) (v := (.bool false)) (fuel := 1) rfl rfl (by kernel_rfl) (by kernel_rfl) (by kernel_rfl) (fun _ _ _ h => h) (.inl ⟨rfl, fun W hW => by obtain ⟨s0, s1, s2, s3⟩ := hW; simp [execOp, Act.eval, go_sem, s0, s1, s2, s3]⟩) hS ?_
            simp only [List.setIfInBounds_toArray, List.set_cons_succ, List.set_cons_zero]
            refine held_take (i := 17) (t := 82) (v := (.bool false)) (fuel := 0) rfl rfl (by kernel_rfl) (by kernel_rfl) (by kernel_rfl) (fun _ _ _ h => h) (.inl ⟨rfl, fun W hW => by obtain ⟨s0, s1, s2, s3⟩ := hW; simp [execOp, Act.eval, go_sem, s0, s1, s2, s3]⟩) hS ?_
            simp only [List.setIfInBounds_toArray, List.set_cons_succ, List.set_cons_zero]
            refine wpAnyH_done (by kernel_rfl) ?_ 0
            clear hS
            replace HS1 := Lib.hid HS1.out.drew
            go_wp2
            have hS := HSK.out wr.drew.drew.drew ((Below.refl w.heap.size wr).drew.drew.drew)
            refine held_begin 11 (fun W => W.cell? ⟨ba, oa + i * 2, none⟩ = some (.string x.k) ∧ W.cell? ⟨ba, oa + i * 2 + 1, none⟩ = some (.string x.v) ∧ W.cell? ⟨bb, ob + k * 2, none⟩ = some (.string y.k) ∧ W.cell? ⟨bb, ob + k * 2 + 1, none⟩ = some (.string y.v)) rfl (by kernel_rfl) ?_
            refine held_take (i := 0) (t := 18) (v := (.slice (some ⟨ba, oa, none⟩) na ca)) (fuel := 10) rfl rfl (by kernel_rfl) (by kernel_rfl) (by kernel_rfl) (fun _ _ _ h => h) (.inl ⟨rfl, fun W hW => by obtain ⟨s0, s1, s2, s3⟩ := hW; simp [execOp, Act.eval, go_sem, s0, s1, s2, s3]⟩) hS ?_
            simp only [List.setIfInBounds_toArray, List.set_cons_succ, List.set_cons_zero]
            refine held_take (i := 1) (t := 19) (v := (.int .i64 (i : Int))) (fuel := 9) rfl rfl (by kernel_rfl) (by kernel_rfl) (by kernel_rfl) (fun _ _ _ h => h) (.inl ⟨rfl, fun W hW => by obtain ⟨s0, s1, s2, s3⟩ := hW; simp [execOp, Act.eval, go_sem, s0, s1, s2, s3]⟩) hS ?_
            simp only [List.setIfInBounds_toArray, List.set_cons_succ, List.set_cons_zero]
            refine held_take (i := 2) (t := 20) (v := (.pointer (some ⟨ba, oa + i * 2, none⟩))) (fuel := 8) rfl rfl (by kernel_rfl) (by kernel_rfl) (by kernel_rfl) (fun _ _ _ h => h) (.inl ⟨rfl, fun W hW => by obtain ⟨s0, s1, s2, s3⟩ := hW; simp [execOp, Act.eval, go_sem, s0, s1, s2, s3, i1, i2, hlt]⟩) hS ?_
            simp only [List.setIfInBounds_toArray, List.set_cons_succ, List.set_cons_zero]
            refine held_take (i := 3) (t := 21) (v := (.pointer (some ⟨ba, oa + i * 2 + 1, none⟩))) (fuel := 7) rfl rfl (by kernel_rfl) (by kernel_rfl) (by kernel_rfl) (fun _ _ _ h => h) (.inl ⟨rfl, fun W hW => by obtain ⟨s0, s1, s2, s3⟩ := hW; simp [execOp, Act.eval, go_sem, s0, s1, s2, s3]⟩) hS ?_
            simp only [List.setIfInBounds_toArray, List.set_cons_succ, List.set_cons_zero]
            refine held_take (i := 4) (t := 22) (v := (.string x.v)) (fuel := 6) rfl rfl (by kernel_rfl) (by kernel_rfl) (by kernel_rfl) (fun _ _ _ h => h) (.inl ⟨rfl, fun W hW => by obtain ⟨s0, s1, s2, s3⟩ := hW; simp [execOp, Act.eval, go_sem, s0, s1, s2, s3]⟩) hS ?_
            simp only [List.setIfInBounds_toArray, List.set_cons_succ, List.set_cons_zero]
            refine held_take (i := 5) (t := 23) (v := (.slice (some ⟨bb, ob, none⟩) nb cb)) (fuel := 5) rfl rfl (by kernel_rfl) (by kernel_rfl) (by kernel_rfl) (fun _ _ _ h => h) (.inl ⟨rfl, fun W hW => by obtain ⟨s0, s1, s2, s3⟩ := hW; simp [execOp, Act.eval, go_sem, s0, s1, s2, s3]⟩) hS ?_
            simp only [List.setIfInBounds_toArray, List.set_cons_succ, List.set_cons_zero]
            refine held_take (i := 6) (t := 24) (v := (.int .i64 (k : Int))) (fuel := 4) rfl rfl (by kernel_rfl) (by kernel_rfl) (by kernel_rfl) (fun _ _ _ h => h) (.inl ⟨rfl, fun W hW => by obtain ⟨s0, s1, s2, s3⟩ := hW; simp [execOp, Act.eval, go_sem, s0, s1, s2, s3]⟩) hS ?_
            simp only [List.setIfInBounds_toArray, List.set_cons_succ, List.set_cons_zero]
            refine held_take (i := 7) (t := 25) (v := (.pointer (some ⟨bb, ob + k * 2, none⟩))) (fuel := 3) rfl rfl (by kernel_rfl) (by kernel_rfl) (by kernel_rfl) (fun _ _ _ h => h) (.inl ⟨rfl, fun W hW => by obtain ⟨s0, s1, s2, s3⟩ := hW; simp [execOp, Act.eval, go_sem, s0, s1, s2, s3, i3, i4, hkt]⟩) hS ?_
            simp only [List.setIfInBounds_toArray, List.set_cons_succ, List.set_cons_zero]
            refine held_take (i := 8) (t := 26) (v := (.pointer (some ⟨bb, ob + k * 2 + 1, none⟩))) (fuel := 2) rfl rfl (by kernel_rfl) (by kernel_rfl) (by kernel_rfl) (fun _ _ _ h => h) (.inl ⟨rfl, fun W hW => by obtain ⟨s0, s1, s2, s3⟩ := hW; simp [execOp, Act.eval, go_sem, s0, s1, s2, s3]⟩) hS ?_
            simp only [List.setIfInBounds_toArray, List.set_cons_succ, List.set_cons_zero]
            refine held_take (i := 9) (t := 27) (v := (.string y.v)) (fuel := 1) rfl rfl (by kernel_rfl) (by kernel_rfl) (by kernel_rfl) (fun _ _ _ h => h) (.inl ⟨rfl, fun W hW => by obtain ⟨s0, s1, s2, s3⟩ := hW; simp [execOp, Act.eval, go_sem, s0, s1, s2, s3]⟩) hS ?_
            simp only [List.setIfInBounds_toArray, List.set_cons_succ, List.set_cons_zero]
            refine held_take (i := 10) (t := 28) (v := (.bool false)) (fuel := 0) rfl rfl (by kernel_rfl) (by kernel_rfl) (by kernel_rfl) (fun _ _ _ h => h) (.inl ⟨rfl, fun W hW => by obtain ⟨s0, s1, s2, s3⟩ := hW; simp [execOp, Act.eval, go_sem, s0, s1, s2, s3, qv]⟩) hS ?_
            simp only [List.setIfInBounds_toArray, List.set_cons_succ, List.set_cons_zero]
            refine wpAnyH_done (by kernel_rfl) ?_ 0
            clear hS
            replace HS1 := Lib.hid HS1.out.drew
            go_wp2
            go_roundw
            case rel => exact ⟨_, _, _, _, i + 1, k + 1, rfl, by go_num, by go_num, by omega, by omega, Lib.hid (by have := HNO.out; omega), HI2, HS1⟩
            case measure => simp [intOf]; omega

          · have HI2 := Lib.hid (X3.out h hv)
            have qv := sk_ne hv
            clear X1 X2 X3 X4 h hv
            go_wp2
            have hS := HSK.out wr.drew ((Below.refl w.heap.size wr).drew)
            refine held_begin 24 (fun W => W.cell? ⟨ba, oa + i * 2, none⟩ = some (.string x.k) ∧ W.cell? ⟨ba, oa + i * 2 + 1, none⟩ = some (.string x.v) ∧ W.cell? ⟨bb, ob + k * 2, none⟩ = some (.string y.k) ∧ W.cell? ⟨bb, ob + k * 2 + 1, none⟩ = some (.string y.v)) rfl (by kernel_rfl) ?_
            refine held_take (i := 0) (t := 48) (v := (.int .i64 (k : Int))) (fuel := 23) rfl rfl (by kernel_rfl) (by kernel_rfl) (by kernel_rfl) (fun _ _ _ h => h) (.inl ⟨rfl, fun W hW => by obtain ⟨s0, s1, s2, s3⟩ := hW; simp [execOp, Act.eval, go_sem, s0, s1, s2, s3]⟩) hS ?_
            simp only [List.setIfInBounds_toArray, List.set_cons_succ, List.set_cons_zero]
            refine held_take (i := 1) (t := 49) (v := (.slice (some ⟨bb, ob, none⟩) nb cb)) (fuel := 22) rfl rfl (by kernel_rfl) (by kernel_rfl) (by kernel_rfl) (fun _ _ _ h => h) (.inl ⟨rfl, fun W hW => by obtain ⟨s0, s1, s2, s3⟩ := hW; simp [execOp, Act.eval, go_sem, s0, s1, s2, s3]⟩) hS ?_
            simp only [List.setIfInBounds_toArray, List.set_cons_succ, List.set_cons_zero]
            refine held_take (i := 2) (t := 50) (v := (.int .i64 (nb : Int))) (fuel := 21) rfl rfl (by kernel_rfl) (by kernel_rfl) (by kernel_rfl) (fun _ _ _ h => h) (.inl ⟨rfl, fun W hW => by obtain ⟨s0, s1, s2, s3⟩ := hW; simp [execOp, Act.eval, go_sem, s0, s1, s2, s3]⟩) hS ?_
            simp only [List.setIfInBounds_toArray, List.set_cons_succ, List.set_cons_zero]
            refine held_take (i := 3) (t := 51) (v := (.bool false)) (fuel := 20) rfl rfl (by kernel_rfl) (by kernel_rfl) (by kernel_rfl) (fun _ _ _ h => h) (.inl ⟨rfl, fun W hW => by obtain ⟨s0, s1, s2, s3⟩ := hW; simp [execOp, Act.eval, go_sem, s0, s1, s2, s3, i7, j7]⟩) hS ?_
            simp only [List.setIfInBounds_toArray, List.set_cons_succ, List.set_cons_zero]
            refine held_take (i := 4) (t := 52) (v := (.bool false)) (fuel := 19) rfl rfl (by kernel_rfl) (by kernel_rfl) (by kernel_rfl) (fun _ _ _ h => h) (.inl ⟨rfl, fun W hW => by obtain ⟨s0, s1, s2, s3⟩ := hW; simp [execOp, Act.eval, go_sem, s0, s1, s2, s3]⟩) hS ?_
            simp only [List.setIfInBounds_toArray, List.set_cons_succ, List.set_cons_zero]
            refine held_take (i := 5) (t := 53) (v := (.int .i64 (i : Int))) (fuel := 18) rfl rfl (by kernel_rfl) (by kernel_rfl) (by kernel_rfl) (fun _ _ _ h => h) (.inl ⟨rfl, fun W hW => by obtain ⟨s0, s1, s2, s3⟩ := hW; simp [execOp, Act.eval, go_sem, s0, s1, s2, s3]⟩) hS ?_
            simp only [List.setIfInBounds_toArray, List.set_cons_succ, List.set_cons_zero]
            refine held_take (i := 6) (t := 54) (v := (.slice (some ⟨ba, oa, none⟩) na ca)) (fuel := 17) rfl rfl (by kernel_rfl) (by kernel_rfl) (by kernel_rfl) (fun _ _ _ h => h) (.inl ⟨rfl, fun W hW => by obtain ⟨s0, s1, s2, s3⟩ := hW; simp [execOp, Act.eval, go_sem, s0, s1, s2, s3]⟩) hS ?_
            simp only [List.setIfInBounds_toArray, List.set_cons_succ, List.set_cons_zero]
            refine held_take (i := 7) (t := 55) (v := (.int .i64 (na : Int))) (fuel := 16) rfl rfl (by kernel_rfl) (by kernel_rfl) (by kernel_rfl) (fun _ _ _ h => h) (.inl ⟨rfl, fun W hW => by obtain ⟨s0, s1, s2, s3⟩ := hW; simp [execOp, Act.eval, go_sem, s0, s1, s2, s3]⟩) hS ?_
            simp only [List.setIfInBounds_toArray, List.set_cons_succ, List.set_cons_zero]
            refine held_take (i := 8) (t := 56) (v := (.bool true)) (fuel := 15) rfl rfl (by kernel_rfl) (by kernel_rfl) (by kernel_rfl) (fun _ _ _ h => h) (.inl ⟨rfl, fun W hW => by obtain ⟨s0, s1, s2, s3⟩ := hW; simp [execOp, Act.eval, go_sem, s0, s1, s2, s3, i2, hlt]⟩) hS ?_
            simp only [List.setIfInBounds_toArray, List.set_cons_succ, List.set_cons_zero]
            refine held_take (i := 9) (t := 57) (v := (.bool true)) (fuel := 14) rfl rfl (by kernel_rfl) (by kernel_rfl) (by kernel_rfl) (fun _ _ _ h => h) (.inl ⟨rfl, fun W hW => by obtain ⟨s0, s1, s2, s3⟩ := hW; simp [execOp, Act.eval, go_sem, s0, s1, s2, s3]⟩) hS ?_
            simp only [List.setIfInBounds_toArray, List.set_cons_succ, List.set_cons_zero]
            refine held_take (i := 10) (t := 58) (v := (.slice (some ⟨ba, oa, none⟩) na ca)) (fuel := 13) rfl rfl (by kernel_rfl) (by kernel_rfl) (by kernel_rfl) (fun _ _ _ h => h) (.inl ⟨rfl, fun W hW => by obtain ⟨s0, s1, s2, s3⟩ := hW; simp [execOp, Act.eval, go_sem, s0, s1, s2, s3]⟩) hS ?_
            simp only [List.setIfInBounds_toArray, List.set_cons_succ, List.set_cons_zero]
            refine held_take (i := 11) (t := 59) (v := (.int .i64 (i : Int))) (fuel := 12) rfl rfl (by kernel_rfl) (by kernel_rfl) (by kernel_rfl) (fun _ _ _ h => h) (.inl ⟨rfl, fun W hW => by obtain ⟨s0, s1, s2, s3⟩ := hW; simp [execOp, Act.eval, go_sem, s0, s1, s2, s3]⟩) hS ?_
            simp only [List.setIfInBounds_toArray, List.set_cons_succ, List.set_cons_zero]
            refine held_take (i := 12) (t := 60) (v := (.pointer (some ⟨ba, oa + i * 2, none⟩))) (fuel := 11) rfl rfl (by kernel_rfl) (by kernel_rfl) (by kernel_rfl) (fun _ _ _ h => h) (.inl ⟨rfl, fun W hW => by obtain ⟨s0, s1, s2, s3⟩ := hW; simp [execOp, Act.eval, go_sem, s0, s1, s2, s3, i1, i2, hlt]⟩) hS ?_
            simp only [List.setIfInBounds_toArray, List.set_cons_succ, List.set_cons_zero]
            refine held_take (i := 13) (t := 61) (v := (.pointer (some ⟨ba, oa + i * 2, none⟩))) (fuel := 10) rfl rfl (by kernel_rfl) (by kernel_rfl) (by kernel_rfl) (fun _ _ _ h => h) (.inl ⟨rfl, fun W hW => by obtain ⟨s0, s1, s2, s3⟩ := hW; simp [execOp, Act.eval, go_sem, s0, s1, s2, s3]⟩) hS ?_
            simp only [List.setIfInBounds_toArray, List.set_cons_succ, List.set_cons_zero]
            refine held_take (i := 14) (t := 62) (v := (.string x.k)) (fuel := 9) rfl rfl (by kernel_rfl) (by kernel_rfl) (by kernel_rfl) (fun _ _ _ h => h) (.inl ⟨rfl, fun W hW => by obtain ⟨s0, s1, s2, s3⟩ := hW; simp [execOp, Act.eval, go_sem, s0, s1, s2, s3]⟩) hS ?_
            simp only [List.setIfInBounds_toArray, List.set_cons_succ, List.set_cons_zero]
            refine held_take (i := 15) (t := 63) (v := (.slice (some ⟨bb, ob, none⟩) nb cb)) (fuel := 8) rfl rfl (by kernel_rfl) (by kernel_rfl) (by kernel_rfl) (fun _ _ _ h => h) (.inl ⟨rfl, fun W hW => by obtain ⟨s0, s1, s2, s3⟩ := hW; simp [execOp, Act.eval, go_sem, s0, s1, s2, s3]⟩) hS ?_
            simp only [List.setIfInBounds_toArray, List.set_cons_succ, List.set_cons_zero]
            refine held_take (i := 16) (t := 64) (v := (.int .i64 (k : Int))) (fuel := 7) rfl rfl (by kernel_rfl) (by kernel_rfl) (by kernel_rfl) (fun _ _ _ h => h) (.inl ⟨rfl, fun W hW => by obtain ⟨s0, s1, s2, s3⟩ := hW; simp [execOp, Act.eval, go_sem, s0, s1, s2, s3]⟩) hS ?_
            simp only [List.setIfInBounds_toArray, List.set_cons_succ, List.set_cons_zero]
            refine held_take (i := 17) (t := 65) (v := (.pointer (some ⟨bb, ob + k * 2, none⟩))) (fuel := 6) rfl rfl (by kernel_rfl) (by kernel_rfl) (by kernel_rfl) (fun _ _ _ h => h) (.inl ⟨rfl, fun W hW => by obtain ⟨s0, s1, s2, s3⟩ := hW; simp [execOp, Act.eval, go_sem, s0, s1, s2, s3, i3, i4, hkt]⟩) hS ?_
            simp only [List.setIfInBounds_toArray, List.set_cons_succ, List.set_cons_zero]
            refine held_take (i := 18) (t := 66) (v := (.pointer (some ⟨bb, ob + k * 2, none⟩))) (fuel := 5) rfl rfl (by kernel_rfl) (by kernel_rfl) (by kernel_rfl) (fun _ _ _ h => h) (.inl ⟨rfl, fun W hW => by obtain ⟨s0, s1, s2, s3⟩ := hW; simp [execOp, Act.eval, go_sem, s0, s1, s2, s3]⟩) hS ?_
            simp only [List.setIfInBounds_toArray, List.set_cons_succ, List.set_cons_zero]
            refine held_take (i := 19) (t := 67) (v := (.string y.k)) (fuel := 4) rfl rfl (by kernel_rfl) (by kernel_rfl) (by kernel_rfl) (fun _ _ _ h => h) (.inl ⟨rfl, fun W hW => by obtain ⟨s0, s1, s2, s3⟩ := hW; simp [execOp, Act.eval, go_sem, s0, s1, s2, s3]⟩) hS ?_
            simp only [List.setIfInBounds_toArray, List.set_cons_succ, List.set_cons_zero]
            refine held_take (i := 20) (t := 68) (v := (.bool false)) (fuel := 3) rfl rfl (by kernel_rfl) (by kernel_rfl) (by kernel_rfl) (fun _ _ _ h => h) (.inl ⟨rfl, fun W hW => by obtain ⟨s0, s1, s2, s3⟩ := hW; simp [execOp, Act.eval, go_sem, s0, s1, s2, s3, q1]⟩) hS ?_
            simp only [List.setIfInBounds_toArray, List.set_cons_succ, List.set_cons_zero]
            refine held_take (i := 21) (t := 69) (v := (.bool false)) (fuel := 2) rfl rfl (by kernel_rfl) (by kernel_rfl) (by kernel_rfl) (fun _ _ _ h => h) (.inl ⟨rfl, fun W hW => by obtain ⟨s0, s1, s2, s3⟩ := hW; simp [execOp, Act.eval, go_sem, s0, s1, s2, s3]⟩) hS ?_
            simp only [List.setIfInBounds_toArray, List.set_cons_succ, List.set_cons_zero]
            refine held_take (i := 22) (t := 70) (v := (.bool false)) (fuel := 1) rfl rfl (by kernel_rfl) (by kernel_rfl) (by kernel_rfl) (fun _ _ _ h => h) (.inl ⟨rfl, fun W hW => by obtain ⟨s0, s1, s2, s3⟩ := hW; simp [execOp, Act.eval, go_sem, s0, s1, s2, s3]⟩) hS ?_
            simp only [List.setIfInBounds_toArray, List.set_cons_succ, List.set_cons_zero]
            refine held_take (i := 23) (t := 47) (v := (.bool false)) (fuel := 0) rfl rfl (by kernel_rfl) (by kernel_rfl) (by kernel_rfl) (fun _ _ _ h => h) (.inl ⟨rfl, fun W hW => by obtain ⟨s0, s1, s2, s3⟩ := hW; simp [execOp, Act.eval, go_sem, s0, s1, s2, s3]⟩) hS ?_
            simp only [List.setIfInBounds_toArray, List.set_cons_succ, List.set_cons_zero]
            refine wpAnyH_done (by kernel_rfl) ?_ 0
            clear hS
            replace HS1 := Lib.hid HS1.out.drew
            go_wp2
            have hS := HSK.out wr.drew.drew ((Below.refl w.heap.size wr).drew.drew)
            refine held_begin 18 (fun W => W.cell? ⟨ba, oa + i * 2, none⟩ = some (.string x.k) ∧ W.cell? ⟨ba, oa + i * 2 + 1, none⟩ = some (.string x.v) ∧ W.cell? ⟨bb, ob + k * 2, none⟩ = some (.string y.k) ∧ W.cell? ⟨bb, ob + k * 2 + 1, none⟩ = some (.string y.v)) rfl (by kernel_rfl) ?_
            refine held_take (i := 0) (t := 83) (v := (.int .i64 (i : Int))) (fuel := 17) rfl rfl (by kernel_rfl) (by kernel_rfl) (by kernel_rfl) (fun _ _ _ h => h) (.inl ⟨rfl, fun W hW => by obtain ⟨s0, s1, s2, s3⟩ := hW; simp [execOp, Act.eval, go_sem, s0, s1, s2, s3]⟩) hS ?_
            simp only [List.setIfInBounds_toArray, List.set_cons_succ, List.set_cons_zero]
            refine held_take (i := 1) (t := 84) (v := (.slice (some ⟨ba, oa, none⟩) na ca)) (fuel := 16) rfl rfl (by kernel_rfl) (by kernel_rfl) (by kernel_rfl) (fun _ _ _ h => h) (.inl ⟨rfl, fun W hW => by obtain ⟨s0, s1, s2, s3⟩ := hW; simp [execOp, Act.eval, go_sem, s0, s1, s2, s3]⟩) hS ?_
            simp only [List.setIfInBounds_toArray, List.set_cons_succ, List.set_cons_zero]
            refine held_take (i := 2) (t := 85) (v := (.int .i64 (na : Int))) (fuel := 15) rfl rfl (by kernel_rfl) (by kernel_rfl) (by kernel_rfl) (fun _ _ _ h => h) (.inl ⟨rfl, fun W hW => by obtain ⟨s0, s1, s2, s3⟩ := hW; simp [execOp, Act.eval, go_sem, s0, s1, s2, s3]⟩) hS ?_
            simp only [List.setIfInBounds_toArray, List.set_cons_succ, List.set_cons_zero]
            refine held_take (i := 3) (t := 86) (v := (.bool false)) (fuel := 14) rfl rfl (by kernel_rfl) (by kernel_rfl) (by kernel_rfl) (fun _ _ _ h => h) (.inl ⟨rfl, fun W hW => by obtain ⟨s0, s1, s2, s3⟩ := hW; simp [execOp, Act.eval, go_sem, s0, s1, s2, s3, i8, j8]⟩) hS ?_
            simp only [List.setIfInBounds_toArray, List.set_cons_succ, List.set_cons_zero]
            refine held_take (i := 4) (t := 87) (v := (.bool false)) (fuel := 13) rfl rfl (by kernel_rfl) (by kernel_rfl) (by kernel_rfl) (fun _ _ _ h => h) (.inl ⟨rfl, fun W hW => by obtain ⟨s0, s1, s2, s3⟩ := hW; simp [execOp, Act.eval, go_sem, s0, s1, s2, s3]⟩) hS ?_
            simp only [List.setIfInBounds_toArray, List.set_cons_succ, List.set_cons_zero]
            refine held_take (i := 5) (t := 88) (v := (.slice (some ⟨bb, ob, none⟩) nb cb)) (fuel := 12) rfl rfl (by kernel_rfl) (by kernel_rfl) (by kernel_rfl) (fun _ _ _ h => h) (.inl ⟨rfl, fun W hW => by obtain ⟨s0, s1, s2, s3⟩ := hW; simp [execOp, Act.eval, go_sem, s0, s1, s2, s3]⟩) hS ?_
            simp only [List.setIfInBounds_toArray, List.set_cons_succ, List.set_cons_zero]
            refine held_take (i := 6) (t := 89) (v := (.int .i64 (k : Int))) (fuel := 11) rfl rfl (by kernel_rfl) (by kernel_rfl) (by kernel_rfl) (fun _ _ _ h => h) (.inl ⟨rfl, fun W hW => by obtain ⟨s0, s1, s2, s3⟩ := hW; simp [execOp, Act.eval, go_sem, s0, s1, s2, s3]⟩) hS ?_
            simp only [List.setIfInBounds_toArray, List.set_cons_succ, List.set_cons_zero]
            refine held_take (i := 7) (t := 90) (v := (.pointer (some ⟨bb, ob + k * 2, none⟩))) (fuel := 10) rfl rfl (by kernel_rfl) (by kernel_rfl) (by kernel_rfl) (fun _ _ _ h => h) (.inl ⟨rfl, fun W hW => by obtain ⟨s0, s1, s2, s3⟩ := hW; simp [execOp, Act.eval, go_sem, s0, s1, s2, s3, i3, i4, hkt]⟩) hS ?_
            simp only [List.setIfInBounds_toArray, List.set_cons_succ, List.set_cons_zero]
            refine held_take (i := 8) (t := 91) (v := (.pointer (some ⟨bb, ob + k * 2, none⟩))) (fuel := 9) rfl rfl (by kernel_rfl) (by kernel_rfl) (by kernel_rfl) (fun _ _ _ h => h) (.inl ⟨rfl, fun W hW => by obtain ⟨s0, s1, s2, s3⟩ := hW; simp [execOp, Act.eval, go_sem, s0, s1, s2, s3]⟩) hS ?_
            simp only [List.setIfInBounds_toArray, List.set_cons_succ, List.set_cons_zero]
            refine held_take (i := 9) (t := 92) (v := (.string y.k)) (fuel := 8) rfl rfl (by kernel_rfl) (by kernel_rfl) (by kernel_rfl) (fun _ _ _ h => h) (.inl ⟨rfl, fun W hW => by obtain ⟨s0, s1, s2, s3⟩ := hW; simp [execOp, Act.eval, go_sem, s0, s1, s2, s3]⟩) hS ?_
            simp only [List.setIfInBounds_toArray, List.set_cons_succ, List.set_cons_zero]
            refine held_take (i := 10) (t := 93) (v := (.slice (some ⟨ba, oa, none⟩) na ca)) (fuel := 7) rfl rfl (by kernel_rfl) (by kernel_rfl) (by kernel_rfl) (fun _ _ _ h => h) (.inl ⟨rfl, fun W hW => by obtain ⟨s0, s1, s2, s3⟩ := hW; simp [execOp, Act.eval, go_sem, s0, s1, s2, s3]⟩) hS ?_
            simp only [List.setIfInBounds_toArray, List.set_cons_succ, List.set_cons_zero]
            refine held_take (i := 11) (t := 94) (v := (.int .i64 (i : Int))) (fuel := 6) rfl rfl (by kernel_rfl) (by kernel_rfl) (by kernel_rfl) (fun _ _ _ h => h) (.inl ⟨rfl, fun W hW => by obtain ⟨s0, s1, s2, s3⟩ := hW; simp [execOp, Act.eval, go_sem, s0, s1, s2, s3]⟩) hS ?_
            simp only [List.setIfInBounds_toArray, List.set_cons_succ, List.set_cons_zero]
            refine held_take (i := 12) (t := 95) (v := (.pointer (some ⟨ba, oa + i * 2, none⟩))) (fuel := 5) rfl rfl (by kernel_rfl) (by kernel_rfl) (by kernel_rfl) (fun _ _ _ h => h) (.inl ⟨rfl, fun W hW => by obtain ⟨s0, s1, s2, s3⟩ := hW; simp [execOp, Act.eval, go_sem, s0, s1, s2, s3, i1, i2, hlt]⟩) hS ?_
            simp only [List.setIfInBounds_toArray, List.set_cons_succ, List.set_cons_zero]
            refine held_take (i := 13) (t := 96) (v := (.pointer (some ⟨ba, oa + i * 2, none⟩))) (fuel := 4) rfl rfl (by kernel_rfl) (by kernel_rfl) (by kernel_rfl) (fun _ _ _ h => h) (.inl ⟨rfl, fun W hW => by obtain ⟨s0, s1, s2, s3⟩ := hW; simp [execOp, Act.eval, go_sem, s0, s1, s2, s3]⟩) hS ?_
            simp only [List.setIfInBounds_toArray, List.set_cons_succ, List.set_cons_zero]
            refine held_take (i := 14) (t := 97) (v := (.string x.k)) (fuel := 3) rfl rfl (by kernel_rfl) (by kernel_rfl) (by kernel_rfl) (fun _ _ _ h => h) (.inl ⟨rfl, fun W hW => by obtain ⟨s0, s1, s2, s3⟩ := hW; simp [execOp, Act.eval, go_sem, s0, s1, s2, s3]⟩) hS ?_
            simp only [List.setIfInBounds_toArray, List.set_cons_succ, List.set_cons_zero]
            refine held_take (i := 15) (t := 98) (v := (.bool false)) (fuel := 2) rfl rfl (by kernel_rfl) (by kernel_rfl) (by kernel_rfl) (fun _ _ _ h => h) (.inl ⟨rfl, fun W hW => by obtain ⟨s0, s1, s2, s3⟩ := hW; simp [execOp, Act.eval, go_sem, s0, s1, s2, s3, q2]⟩) hS ?_
            simp only [List.setIfInBounds_toArray, List.set_cons_succ, List.set_cons_zero]
            refine held_take (i := 16) (t := 99) (v := (.bool false)) (fuel := 1) rfl rfl (by kernel_rfl) (by kernel_rfl) (by kernel_rfl) (fun _ _ _ h => h) (.inl ⟨rfl, fun W hW => by obtain ⟨s0, s1, s2, s3⟩ := hW; simp [execOp, Act.eval, go_sem, s0, s1, s2, s3]⟩) hS ?_
            simp only [List.setIfInBounds_toArray, List.set_cons_succ, List.set_cons_zero]
            refine held_take (i := 17) (t := 82) (v := (.bool false)) (fuel := 0) rfl rfl (by kernel_rfl) (by kernel_rfl) (by kernel_rfl) (fun _ _ _ h => h) (.inl ⟨rfl, fun W hW => by obtain ⟨s0, s1, s2, s3⟩ := hW; simp [execOp, Act.eval, go_sem, s0, s1, s2, s3]⟩) hS ?_
            simp only [List.setIfInBounds_toArray, List.set_cons_succ, List.set_cons_zero]
            refine wpAnyH_done (by kernel_rfl) ?_ 0
            clear hS
            replace HS1 := Lib.hid HS1.out.drew
            go_wp2
            have hS := HSK.out wr.drew.drew.drew ((Below.refl w.heap.size wr).drew.drew.drew)
            refine held_begin 11 (fun W => W.cell? ⟨ba, oa + i * 2, none⟩ = some (.string x.k) ∧ W.cell? ⟨ba, oa + i * 2 + 1, none⟩ = some (.string x.v) ∧ W.cell? ⟨bb, ob + k * 2, none⟩ = some (.string y.k) ∧ W.cell? ⟨bb, ob + k * 2 + 1, none⟩ = some (.string y.v)) rfl (by kernel_rfl) ?_
            refine held_take (i := 0) (t := 18) (v := (.slice (some ⟨ba, oa, none⟩) na ca)) (fuel := 10) rfl rfl (by kernel_rfl) (by kernel_rfl) (by kernel_rfl) (fun _ _ _ h => h) (.inl ⟨rfl, fun W hW => by obtain ⟨s0, s1, s2, s3⟩ := hW; simp [execOp, Act.eval, go_sem, s0, s1, s2, s3]⟩) hS ?_
            simp only [List.setIfInBounds_toArray, List.set_cons_succ, List.set_cons_zero]
            refine held_take (i := 1) (t := 19) (v := (.int .i64 (i : Int))) (fuel := 9) rfl rfl (by kernel_rfl) (by kernel_rfl) (by kernel_rfl) (fun _ _ _ h => h) (.inl ⟨rfl, fun W hW => by obtain ⟨s0, s1, s2, s3⟩ := hW; simp [execOp, Act.eval, go_sem, s0, s1, s2, s3]⟩) hS ?_
            simp only [List.setIfInBounds_toArray, List.set_cons_succ, List.set_cons_zero]
            refine held_take (i := 2) (t := 20) (v := (.pointer (some ⟨ba, oa + i * 2, none⟩))) (fuel := 8) rfl rfl (by kernel_rfl) (by kernel_rfl) (by kernel_rfl) (fun _ _ _ h => h) (.inl ⟨rfl, fun W hW => by obtain ⟨s0, s1, s2, s3⟩ := hW; simp [execOp, Act.eval, go_sem, s0, s1, s2, s3, i1, i2, hlt]⟩) hS ?_
            simp only [List.setIfInBounds_toArray, List.set_cons_succ, List.set_cons_zero]
            refine held_take (i := 3) (t := 21) (v := (.pointer (some ⟨ba, oa + i * 2 + 1, none⟩))) (fuel := 7) rfl rfl (by kernel_rfl) (by kernel_rfl) (by kernel_rfl) (fun _ _ _ h => h) (.inl ⟨rfl, fun W hW => by obtain ⟨s0, s1, s2, s3⟩ := hW; simp [execOp, Act.eval, go_sem, s0, s1, s2, s3]⟩) hS ?_
            simp only [List.setIfInBounds_toArray, List.set_cons_succ, List.set_cons_zero]
            refine held_take (i := 4) (t := 22) (v := (.string x.v)) (fuel := 6) rfl rfl (by kernel_rfl) (by kernel_rfl) (by kernel_rfl) (fun _ _ _ h => h) (.inl ⟨rfl, fun W hW => by obtain ⟨s0, s1, s2, s3⟩ := hW; simp [execOp, Act.eval, go_sem, s0, s1, s2, s3]⟩) hS ?_
            simp only [List.setIfInBounds_toArray, List.set_cons_succ, List.set_cons_zero]
            refine held_take (i := 5) (t := 23) (v := (.slice (some ⟨bb, ob, none⟩) nb cb)) (fuel := 5) rfl rfl (by kernel_rfl) (by kernel_rfl) (by kernel_rfl) (fun _ _ _ h => h) (.inl ⟨rfl, fun W hW => by obtain ⟨s0, s1, s2, s3⟩ := hW; simp [execOp, Act.eval, go_sem, s0, s1, s2, s3]⟩) hS ?_
            simp only [List.setIfInBounds_toArray, List.set_cons_succ, List.set_cons_zero]
            refine held_take (i := 6) (t := 24) (v := (.int .i64 (k : Int))) (fuel := 4) rfl rfl (by kernel_rfl) (by kernel_rfl) (by kernel_rfl) (fun _ _ _ h => h) (.inl ⟨rfl, fun W hW => by obtain ⟨s0, s1, s2, s3⟩ := hW; simp [execOp, Act.eval, go_sem, s0, s1, s2, s3]⟩) hS ?_
            simp only [List.setIfInBounds_toArray, List.set_cons_succ, List.set_cons_zero]
            refine held_take (i := 7) (t := 25) (v := (.pointer (some ⟨bb, ob + k * 2, none⟩))) (fuel := 3) rfl rfl (by kernel_rfl) (by kernel_rfl) (by kernel_rfl) (fun _ _ _ h => h) (.inl ⟨rfl, fun W hW => by obtain ⟨s0, s1, s2, s3⟩ := hW; simp [execOp, Act.eval, go_sem, s0, s1, s2, s3, i3, i4, hkt]⟩) hS ?_
            simp only [List.setIfInBounds_toArray, List.set_cons_succ, List.set_cons_zero]
            refine held_take (i := 8) (t := 26) (v := (.pointer (some ⟨bb, ob + k * 2 + 1, none⟩))) (fuel := 2) rfl rfl (by kernel_rfl) (by kernel_rfl) (by kernel_rfl) (fun _ _ _ h => h) (.inl ⟨rfl, fun W hW => by obtain ⟨s0, s1, s2, s3⟩ := hW; simp [execOp, Act.eval, go_sem, s0, s1, s2, s3]⟩) hS ?_
            simp only [List.setIfInBounds_toArray, List.set_cons_succ, List.set_cons_zero]
            refine held_take (i := 9) (t := 27) (v := (.string y.v)) (fuel := 1) rfl rfl (by kernel_rfl) (by kernel_rfl) (by kernel_rfl) (fun _ _ _ h => h) (.inl ⟨rfl, fun W hW => by obtain ⟨s0, s1, s2, s3⟩ := hW; simp [execOp, Act.eval, go_sem, s0, s1, s2, s3]⟩) hS ?_
            simp only [List.setIfInBounds_toArray, List.set_cons_succ, List.set_cons_zero]
            refine held_take (i := 10) (t := 28) (v := (.bool true)) (fuel := 0) rfl rfl (by kernel_rfl) (by kernel_rfl) (by kernel_rfl) (fun _ _ _ h => h) (.inl ⟨rfl, fun W hW => by obtain ⟨s0, s1, s2, s3⟩ := hW; simp [execOp, Act.eval, go_sem, s0, s1, s2, s3, qv]⟩) hS ?_
            simp only [List.setIfInBounds_toArray, List.set_cons_succ, List.set_cons_zero]
            refine wpAnyH_done (by kernel_rfl) ?_ 0
            clear hS
            replace HS1 := Lib.hid HS1.out.drew
            go_wp2
            replace HS1 := Lib.hid HS1.out.drew
            have hS := HSK.out wr.drew.drew.drew.drew ((Below.refl w.heap.size wr).drew.drew.drew.drew)
            refine held_begin 15 (fun W => W.cell? ⟨ba, oa + i * 2, none⟩ = some (.string x.k) ∧ W.cell? ⟨ba, oa + i * 2 + 1, none⟩ = some (.string x.v) ∧ W.cell? ⟨bb, ob + k * 2, none⟩ = some (.string y.k) ∧ W.cell? ⟨bb, ob + k * 2 + 1, none⟩ = some (.string y.v)) rfl (by kernel_rfl) ?_
            refine held_take (i := 0) (t := 29) (v := (.slice A n c)) (fuel := 14) rfl rfl (by kernel_rfl) (by kernel_rfl) (by kernel_rfl) (fun _ _ _ h => h) (.inl ⟨rfl, fun W hW => by obtain ⟨s0, s1, s2, s3⟩ := hW; simp [execOp, Act.eval, go_sem, s0, s1, s2, s3]⟩) hS ?_
            simp only [List.setIfInBounds_toArray, List.set_cons_succ, List.set_cons_zero]
            refine held_take (i := 1) (t := 30) (v := (.slice (some ⟨bb, ob, none⟩) nb cb)) (fuel := 13) rfl rfl (by kernel_rfl) (by kernel_rfl) (by kernel_rfl) (fun _ _ _ h => h) (.inl ⟨rfl, fun W hW => by obtain ⟨s0, s1, s2, s3⟩ := hW; simp [execOp, Act.eval, go_sem, s0, s1, s2, s3]⟩) hS ?_
            simp only [List.setIfInBounds_toArray, List.set_cons_succ, List.set_cons_zero]
            refine held_take (i := 2) (t := 31) (v := (.int .i64 (k : Int))) (fuel := 12) rfl rfl (by kernel_rfl) (by kernel_rfl) (by kernel_rfl) (fun _ _ _ h => h) (.inl ⟨rfl, fun W hW => by obtain ⟨s0, s1, s2, s3⟩ := hW; simp [execOp, Act.eval, go_sem, s0, s1, s2, s3]⟩) hS ?_
            simp only [List.setIfInBounds_toArray, List.set_cons_succ, List.set_cons_zero]
            refine held_take (i := 3) (t := 32) (v := (.pointer (some ⟨bb, ob + k * 2, none⟩))) (fuel := 11) rfl rfl (by kernel_rfl) (by kernel_rfl) (by kernel_rfl) (fun _ _ _ h => h) (.inl ⟨rfl, fun W hW => by obtain ⟨s0, s1, s2, s3⟩ := hW; simp [execOp, Act.eval, go_sem, s0, s1, s2, s3, i3, i4, hkt]⟩) hS ?_
            simp only [List.setIfInBounds_toArray, List.set_cons_succ, List.set_cons_zero]
            refine held_take (i := 4) (t := 33) (v := (.pointer (some ⟨bb, ob + k * 2, none⟩))) (fuel := 10) rfl rfl (by kernel_rfl) (by kernel_rfl) (by kernel_rfl) (fun _ _ _ h => h) (.inl ⟨rfl, fun W hW => by obtain ⟨s0, s1, s2, s3⟩ := hW; simp [execOp, Act.eval, go_sem, s0, s1, s2, s3]⟩) hS ?_
            simp only [List.setIfInBounds_toArray, List.set_cons_succ, List.set_cons_zero]
            refine held_take (i := 5) (t := 34) (v := (.string y.k)) (fuel := 9) rfl rfl (by kernel_rfl) (by kernel_rfl) (by kernel_rfl) (fun _ _ _ h => h) (.inl ⟨rfl, fun W hW => by obtain ⟨s0, s1, s2, s3⟩ := hW; simp [execOp, Act.eval, go_sem, s0, s1, s2, s3]⟩) hS ?_
            simp only [List.setIfInBounds_toArray, List.set_cons_succ, List.set_cons_zero]
            refine held_take (i := 6) (t := 35) (v := (.slice (some ⟨bb, ob, none⟩) nb cb)) (fuel := 8) rfl rfl (by kernel_rfl) (by kernel_rfl) (by kernel_rfl) (fun _ _ _ h => h) (.inl ⟨rfl, fun W hW => by obtain ⟨s0, s1, s2, s3⟩ := hW; simp [execOp, Act.eval, go_sem, s0, s1, s2, s3]⟩) hS ?_
            simp only [List.setIfInBounds_toArray, List.set_cons_succ, List.set_cons_zero]
            refine held_take (i := 7) (t := 36) (v := (.int .i64 (k : Int))) (fuel := 7) rfl rfl (by kernel_rfl) (by kernel_rfl) (by kernel_rfl) (fun _ _ _ h => h) (.inl ⟨rfl, fun W hW => by obtain ⟨s0, s1, s2, s3⟩ := hW; simp [execOp, Act.eval, go_sem, s0, s1, s2, s3]⟩) hS ?_
            simp only [List.setIfInBounds_toArray, List.set_cons_succ, List.set_cons_zero]
            refine held_take (i := 8) (t := 37) (v := (.pointer (some ⟨bb, ob + k * 2, none⟩))) (fuel := 6) rfl rfl (by kernel_rfl) (by kernel_rfl) (by kernel_rfl) (fun _ _ _ h => h) (.inl ⟨rfl, fun W hW => by obtain ⟨s0, s1, s2, s3⟩ := hW; simp [execOp, Act.eval, go_sem, s0, s1, s2, s3, i3, i4, hkt]⟩) hS ?_
            simp only [List.setIfInBounds_toArray, List.set_cons_succ, List.set_cons_zero]
            refine held_take (i := 9) (t := 38) (v := (.pointer (some ⟨bb, ob + k * 2 + 1, none⟩))) (fuel := 5) rfl rfl (by kernel_rfl) (by kernel_rfl) (by kernel_rfl) (fun _ _ _ h => h) (.inl ⟨rfl, fun W hW => by obtain ⟨s0, s1, s2, s3⟩ := hW; simp [execOp, Act.eval, go_sem, s0, s1, s2, s3]⟩) hS ?_
            simp only [List.setIfInBounds_toArray, List.set_cons_succ, List.set_cons_zero]
            refine held_take (i := 10) (t := 39) (v := (.string y.v)) (fuel := 4) rfl rfl (by kernel_rfl) (by kernel_rfl) (by kernel_rfl) (fun _ _ _ h => h) (.inl ⟨rfl, fun W hW => by obtain ⟨s0, s1, s2, s3⟩ := hW; simp [execOp, Act.eval, go_sem, s0, s1, s2, s3]⟩) hS ?_
            simp only [List.setIfInBounds_toArray, List.set_cons_succ, List.set_cons_zero]
            refine held_take (i := 11) (t := 40) (v := (.agg #[.string y.k, .string y.v, .bool false])) (fuel := 3) rfl rfl (by kernel_rfl) (by kernel_rfl) (by kernel_rfl) (fun _ _ _ h => h) (.inl ⟨rfl, fun W hW => by obtain ⟨s0, s1, s2, s3⟩ := hW; simp [execOp, Act.eval, go_sem, s0, s1, s2, s3]⟩) hS ?_
            simp only [List.setIfInBounds_toArray, List.set_cons_succ, List.set_cons_zero]
            refine held_call (i := 12) rfl (by kernel_rfl) (by kernel_rfl) ?_
            simp [Oper.wp, execOp, Act.eval, Act.put, go_sem]
            have hS2 := HSK.out _ (((Below.refl w.heap.size wr).drew.drew.drew.drew).alloc HS1.out.bel.size (.cells #[.string y.k, .string y.v, .bool false] 52))
            refine ⟨hS2, ?_⟩
            clear hS hS2
            try simp only [List.setIfInBounds_toArray, List.set_cons_succ, List.set_cons_zero]
            refine held_call (i := 13) rfl (by kernel_rfl) (by kernel_rfl) ?_
            refine op_append_items Try.underlying44 infoChange rfl (by decide) kc_len kc_one _ _ _ rfl w.heap.size A n c o rfl [⟨y.k, y.v, false⟩] 1 rfl (own_below HS1.out.own ((Below.refl _ _).alloc (Nat.le_refl _) _)) (by have := HS1.out.bel.size; simp at this ⊢; omega) ⟨wr.drew.drew.drew.drew.heap.size, 0, none⟩ 1 rfl (new_cells wr.drew.drew.drew.drew [.string y.k, .string y.v, .bool false] _) (by have := HN.out; unfold limT at this; omega) (by have := HN.out; unfold limT at this; unfold maxLen; omega) ?_
            intro A3 c3 w3 ho3 hb3
            have hb4 := ((Below.refl w.heap.size wr.drew.drew.drew.drew).alloc HS1.out.bel.size (.cells #[.string y.k, .string y.v, .bool false] 52)).trans hb3
            have HS3 := Lib.hid (HS1.out.more hb4 ho3)
            have hS := HSK.out _ ((((Below.refl w.heap.size wr).drew.drew.drew.drew).alloc HS1.out.bel.size (.cells #[.string y.k, .string y.v, .bool false] 52)).trans hb3)
            refine ⟨hS, ?_⟩
            clear ho3 hb3 hb4
            try simp only [List.setIfInBounds_toArray, List.set_cons_succ, List.set_cons_zero]
            refine held_call (i := 14) rfl (by kernel_rfl) (by kernel_rfl) ?_
            simp [Oper.wp, execOp, Act.eval, Act.put, go_sem]
            refine ⟨hS, ?_⟩
            clear hS
            try simp only [List.setIfInBounds_toArray, List.set_cons_succ, List.set_cons_zero]
            refine wpAnyH_done (by kernel_rfl) ?_ 0
            go_wp2
            go_roundw
            case rel => exact ⟨_, _, _, _, i + 1, k + 1, rfl, by go_num, by go_num, by omega, by omega, Lib.hid (by have := HNO.out; omega), HI2, HS3⟩
            case measure => simp [intOf]; omega

        · have HI2 := Lib.hid (X2.out h)
          have q1 := lk_no (ltK_asymm h)
          have q2 := lk_yes h
          clear X1 X2 X3 X4 h
          go_wp2
          have hS := HSK.out wr.drew ((Below.refl w.heap.size wr).drew)
          refine held_begin 24 (fun W => W.cell? ⟨ba, oa + i * 2, none⟩ = some (.string x.k) ∧ W.cell? ⟨ba, oa + i * 2 + 1, none⟩ = some (.string x.v) ∧ W.cell? ⟨bb, ob + k * 2, none⟩ = some (.string y.k) ∧ W.cell? ⟨bb, ob + k * 2 + 1, none⟩ = some (.string y.v)) rfl (by kernel_rfl) ?_
          refine held_take (i := 0) (t := 48) (v := (.int .i64 (k : Int))) (fuel := 23) rfl rfl (by kernel_rfl) (by kernel_rfl) (by kernel_rfl) (fun _ _ _ h => h) (.inl ⟨rfl, fun W hW => by obtain ⟨s0, s1, s2, s3⟩ := hW; simp [execOp, Act.eval, go_sem, s0, s1, s2, s3]⟩) hS ?_
          simp only [List.setIfInBounds_toArray, List.set_cons_succ, List.set_cons_zero]
          refine held_take (i := 1) (t := 49) (v := (.slice (some ⟨bb, ob, none⟩) nb cb)) (fuel := 22) rfl rfl (by kernel_rfl) (by kernel_rfl) (by kernel_rfl) (fun _ _ _ h => h) (.inl ⟨rfl, fun W hW => by obtain ⟨s0, s1, s2, s3⟩ := hW; simp [execOp, Act.eval, go_sem, s0, s1, s2, s3]⟩) hS ?_
          simp only [List.setIfInBounds_toArray, List.set_cons_succ, List.set_cons_zero]
          refine held_take (i := 2) (t := 50) (v := (.int .i64 (nb : Int))) (fuel := 21) rfl rfl (by kernel_rfl) (by kernel_rfl) (by kernel_rfl) (fun _ _ _ h => h) (.inl ⟨rfl, fun W hW => by obtain ⟨s0, s1, s2, s3⟩ := hW; simp [execOp, Act.eval, go_sem, s0, s1, s2, s3]⟩) hS ?_
          simp only [List.setIfInBounds_toArray, List.set_cons_succ, List.set_cons_zero]
          refine held_take (i := 3) (t := 51) (v := (.bool false)) (fuel := 20) rfl rfl (by kernel_rfl) (by kernel_rfl) (by kernel_rfl) (fun _ _ _ h => h) (.inl ⟨rfl, fun W hW => by obtain ⟨s0, s1, s2, s3⟩ := hW; simp [execOp, Act.eval, go_sem, s0, s1, s2, s3, i7, j7]⟩) hS ?_
          simp only [List.setIfInBounds_toArray, List.set_cons_succ, List.set_cons_zero]
          refine held_take (i := 4) (t := 52) (v := (.bool false)) (fuel := 19) rfl rfl (by kernel_rfl) (by kernel_rfl) (by kernel_rfl) (fun _ _ _ h => h) (.inl ⟨rfl, fun W hW => by obtain ⟨s0, s1, s2, s3⟩ := hW; simp [execOp, Act.eval, go_sem, s0, s1, s2, s3]⟩) hS ?_
          simp only [List.setIfInBounds_toArray, List.set_cons_succ, List.set_cons_zero]
          refine held_take (i := 5) (t := 53) (v := (.int .i64 (i : Int))) (fuel := 18) rfl rfl (by kernel_rfl) (by kernel_rfl) (by kernel_rfl) (fun _ _ _ h => h) (.inl ⟨rfl, fun W hW => by obtain ⟨s0, s1, s2, s3⟩ := hW; simp [execOp, Act.eval, go_sem, s0, s1, s2, s3]⟩) hS ?_
          simp only [List.setIfInBounds_toArray, List.set_cons_succ, List.set_cons_zero]
          refine held_take (i := 6) (t := 54) (v := (.slice (some ⟨ba, oa, none⟩) na ca)) (fuel := 17) rfl rfl (by kernel_rfl) (by kernel_rfl) (by kernel_rfl) (fun _ _ _ h => h) (.inl ⟨rfl, fun W hW => by obtain ⟨s0, s1, s2, s3⟩ := hW; simp [execOp, Act.eval, go_sem, s0, s1, s2, s3]⟩) hS ?_
          simp only [List.setIfInBounds_toArray, List.set_cons_succ, List.set_cons_zero]
          refine held_take (i := 7) (t := 55) (v := (.int .i64 (na : Int))) (fuel := 16) rfl rfl (by kernel_rfl) (by kernel_rfl) (by kernel_rfl) (fun _ _ _ h => h) (.inl ⟨rfl, fun W hW => by obtain ⟨s0, s1, s2, s3⟩ := hW; simp [execOp, Act.eval, go_sem, s0, s1, s2, s3]⟩) hS ?_
          simp only [List.setIfInBounds_toArray, List.set_cons_succ, List.set_cons_zero]
          refine held_take (i := 8) (t := 56) (v := (.bool true)) (fuel := 15) rfl rfl (by kernel_rfl) (by kernel_rfl) (by kernel_rfl) (fun _ _ _ h => h) (.inl ⟨rfl, fun W hW => by obtain ⟨s0, s1, s2, s3⟩ := hW; simp [execOp, Act.eval, go_sem, s0, s1, s2, s3, i2, hlt]⟩) hS ?_
          simp only [List.setIfInBounds_toArray, List.set_cons_succ, List.set_cons_zero]
          refine held_take (i := 9) (t := 57) (v := (.bool true)) (fuel := 14) rfl rfl (by kernel_rfl) (by kernel_rfl) (by kernel_rfl) (fun _ _ _ h => h) (.inl ⟨rfl, fun W hW => by obtain ⟨s0, s1, s2, s3⟩ := hW; simp [execOp, Act.eval, go_sem, s0, s1, s2, s3]⟩) hS ?_
          simp only [List.setIfInBounds_toArray, List.set_cons_succ, List.set_cons_zero]
          refine held_take (i := 10) (t := 58) (v := (.slice (some ⟨ba, oa, none⟩) na ca)) (fuel := 13) rfl rfl (by kernel_rfl) (by kernel_rfl) (by kernel_rfl) (fun _ _ _ h => h) (.inl ⟨rfl, fun W hW => by obtain ⟨s0, s1, s2, s3⟩ := hW; simp [execOp, Act.eval, go_sem, s0, s1, s2, s3]⟩) hS ?_
          simp only [List.setIfInBounds_toArray, List.set_cons_succ, List.set_cons_zero]
          refine held_take (i := 11) (t := 59) (v := (.int .i64 (i : Int))) (fuel := 12) rfl rfl (by kernel_rfl) (by kernel_rfl) (by kernel_rfl) (fun _ _ _ h => h) (.inl ⟨rfl, fun W hW => by obtain ⟨s0, s1, s2, s3⟩ := hW; simp [execOp, Act.eval, go_sem, s0, s1, s2, s3]⟩) hS ?_
          simp only [List.setIfInBounds_toArray, List.set_cons_succ, List.set_cons_zero]
          refine held_take (i := 12) (t := 60) (v := (.pointer (some ⟨ba, oa + i * 2, none⟩))) (fuel := 11) rfl rfl (by kernel_rfl) (by kernel_rfl) (by kernel_rfl) (fun _ _ _ h => h) (.inl ⟨rfl, fun W hW => by obtain ⟨s0, s1, s2, s3⟩ := hW; simp [execOp, Act.eval, go_sem, s0, s1, s2, s3, i1, i2, hlt]⟩) hS ?_
          simp only [List.setIfInBounds_toArray, List.set_cons_succ, List.set_cons_zero]
          refine held_take (i := 13) (t := 61) (v := (.pointer (some ⟨ba, oa + i * 2, none⟩))) (fuel := 10) rfl rfl (by kernel_rfl) (by kernel_rfl) (by kernel_rfl) (fun _ _ _ h => h) (.inl ⟨rfl, fun W hW => by obtain ⟨s0, s1, s2, s3⟩ := hW; simp [execOp, Act.eval, go_sem, s0, s1, s2, s3]⟩) hS ?_
          simp only [List.setIfInBounds_toArray, List.set_cons_succ, List.set_cons_zero]
          refine held_take (i := 14) (t := 62) (v := (.string x.k)) (fuel := 9) rfl rfl (by kernel_rfl) (by kernel_rfl) (by kernel_rfl) (fun _ _ _ h => h) (.inl ⟨rfl, fun W hW => by obtain ⟨s0, s1, s2, s3⟩ := hW; simp [execOp, Act.eval, go_sem, s0, s1, s2, s3]⟩) hS ?_
          simp only [List.setIfInBounds_toArray, List.set_cons_succ, List.set_cons_zero]
          refine held_take (i := 15) (t := 63) (v := (.slice (some ⟨bb, ob, none⟩) nb cb)) (fuel := 8) rfl rfl (by kernel_rfl) (by kernel_rfl) (by kernel_rfl) (fun _ _ _ h => h) (.inl ⟨rfl, fun W hW => by obtain ⟨s0, s1, s2, s3⟩ := hW; simp [execOp, Act.eval, go_sem, s0, s1, s2, s3]⟩) hS ?_
          simp only [List.setIfInBounds_toArray, List.set_cons_succ, List.set_cons_zero]
          refine held_take (i := 16) (t := 64) (v := (.int .i64 (k : Int))) (fuel := 7) rfl rfl (by kernel_rfl) (by kernel_rfl) (by kernel_rfl) (fun _ _ _ h => h) (.inl ⟨rfl, fun W hW => by obtain ⟨s0, s1, s2, s3⟩ := hW; simp [execOp, Act.eval, go_sem, s0, s1, s2, s3]⟩) hS ?_
          simp only [List.setIfInBounds_toArray, List.set_cons_succ, List.set_cons_zero]
          refine held_take (i := 17) (t := 65) (v := (.pointer (some ⟨bb, ob + k * 2, none⟩))) (fuel := 6) rfl rfl (by kernel_rfl) (by kernel_rfl) (by kernel_rfl) (fun _ _ _ h => h) (.inl ⟨rfl, fun W hW => by obtain ⟨s0, s1, s2, s3⟩ := hW; simp [execOp, Act.eval, go_sem, s0, s1, s2, s3, i3, i4, hkt]⟩) hS ?_
          simp only [List.setIfInBounds_toArray, List.set_cons_succ, List.set_cons_zero]
          refine held_take (i := 18) (t := 66) (v := (.pointer (some ⟨bb, ob + k * 2, none⟩))) (fuel := 5) rfl rfl (by kernel_rfl) (by kernel_rfl) (by kernel_rfl) (fun _ _ _ h => h) (.inl ⟨rfl, fun W hW => by obtain ⟨s0, s1, s2, s3⟩ := hW; simp [execOp, Act.eval, go_sem, s0, s1, s2, s3]⟩) hS ?_
          simp only [List.setIfInBounds_toArray, List.set_cons_succ, List.set_cons_zero]
          refine held_take (i := 19) (t := 67) (v := (.string y.k)) (fuel := 4) rfl rfl (by kernel_rfl) (by kernel_rfl) (by kernel_rfl) (fun _ _ _ h => h) (.inl ⟨rfl, fun W hW => by obtain ⟨s0, s1, s2, s3⟩ := hW; simp [execOp, Act.eval, go_sem, s0, s1, s2, s3]⟩) hS ?_
          simp only [List.setIfInBounds_toArray, List.set_cons_succ, List.set_cons_zero]
          refine held_take (i := 20) (t := 68) (v := (.bool false)) (fuel := 3) rfl rfl (by kernel_rfl) (by kernel_rfl) (by kernel_rfl) (fun _ _ _ h => h) (.inl ⟨rfl, fun W hW => by obtain ⟨s0, s1, s2, s3⟩ := hW; simp [execOp, Act.eval, go_sem, s0, s1, s2, s3, q1]⟩) hS ?_
          simp only [List.setIfInBounds_toArray, List.set_cons_succ, List.set_cons_zero]
          refine held_take (i := 21) (t := 69) (v := (.bool false)) (fuel := 2) rfl rfl (by kernel_rfl) (by kernel_rfl) (by kernel_rfl) (fun _ _ _ h => h) (.inl ⟨rfl, fun W hW => by obtain ⟨s0, s1, s2, s3⟩ := hW; simp [execOp, Act.eval, go_sem, s0, s1, s2, s3]⟩) hS ?_
          simp only [List.setIfInBounds_toArray, List.set_cons_succ, List.set_cons_zero]
          refine held_take (i := 22) (t := 70) (v := (.bool false)) (fuel := 1) rfl rfl (by kernel_rfl) (by kernel_rfl) (by kernel_rfl) (fun _ _ _ h => h) (.inl ⟨rfl, fun W hW => by obtain ⟨s0, s1, s2, s3⟩ := hW; simp [execOp, Act.eval, go_sem, s0, s1, s2, s3]⟩) hS ?_
          simp only [List.setIfInBounds_toArray, List.set_cons_succ, List.set_cons_zero]
          refine held_take (i := 23) (t := 47) (v := (.bool false)) (fuel := 0) rfl rfl (by kernel_rfl) (by kernel_rfl) (by kernel_rfl) (fun _ _ _ h => h) (.inl ⟨rfl, fun W hW => by obtain ⟨s0, s1, s2, s3⟩ := hW; simp [execOp, Act.eval, go_sem, s0, s1, s2, s3]⟩) hS ?_
          simp only [List.setIfInBounds_toArray, List.set_cons_succ, List.set_cons_zero]
          refine wpAnyH_done (by kernel_rfl) ?_ 0
          clear hS
          replace HS1 := Lib.hid HS1.out.drew
          go_wp2
          have hS := HSK.out wr.drew.drew ((Below.refl w.heap.size wr).drew.drew)
          refine held_begin 18 (fun W => W.cell? ⟨ba, oa + i * 2, none⟩ = some (.string x.k) ∧ W.cell? ⟨ba, oa + i * 2 + 1, none⟩ = some (.string x.v) ∧ W.cell? ⟨bb, ob + k * 2, none⟩ = some (.string y.k) ∧ W.cell? ⟨bb, ob + k * 2 + 1, none⟩ = some (.string y.v)) rfl (by kernel_rfl) ?_
          refine held_take (i := 0) (t := 83) (v := (.int .i64 (i : Int))) (fuel := 17) rfl rfl (by kernel_rfl) (by kernel_rfl) (by kernel_rfl) (fun _ _ _ h => h) (.inl ⟨rfl, fun W hW => by obtain ⟨s0, s1, s2, s3⟩ := hW; simp [execOp, Act.eval, go_sem, s0, s1, s2, s3]⟩) hS ?_
          simp only [List.setIfInBounds_toArray, List.set_cons_succ, List.set_cons_zero]
          refine held_take (i := 1) (t := 84) (v := (.slice (some ⟨ba, oa, none⟩) na ca)) (fuel := 16) rfl rfl (by kernel_rfl) (by kernel_rfl) (by kernel_rfl) (fun _ _ _ h => h) (.inl ⟨rfl, fun W hW => by obtain ⟨s0, s1, s2, s3⟩ := hW; simp [execOp, Act.eval, go_sem, s0, s1, s2, s3]⟩) hS ?_
          simp only [List.setIfInBounds_toArray, List.set_cons_succ, List.set_cons_zero]
          refine held_take (i := 2) (t := 85) (v := (.int .i64 (na : Int))) (fuel := 15) rfl rfl (by kernel_rfl) (by kernel_rfl) (by kernel_rfl) (fun _ _ _ h => h) (.inl ⟨rfl, fun W hW => by obtain ⟨s0, s1, s2, s3⟩ := hW; simp [execOp, Act.eval, go_sem, s0, s1, s2, s3]⟩) hS ?_
          simp only [List.setIfInBounds_toArray, List.set_cons_succ, List.set_cons_zero]
          refine held_take (i := 3) (t := 86) (v := (.bool false)) (fuel := 14) rfl rfl (by kernel_rfl) (by kernel_rfl) (by kernel_rfl) (fun _ _ _ h => h) (.inl ⟨rfl, fun W hW => by obtain ⟨s0, s1, s2, s3⟩ := hW; simp [execOp, Act.eval, go_sem, s0, s1, s2, s3, i8, j8]⟩) hS ?_
          simp only [List.setIfInBounds_toArray, List.set_cons_succ, List.set_cons_zero]
          refine held_take (i := 4) (t := 87) (v := (.bool false)) (fuel := 13) rfl rfl (by kernel_rfl) (by kernel_rfl) (by kernel_rfl) (fun _ _ _ h => h) (.inl ⟨rfl, fun W hW => by obtain ⟨s0, s1, s2, s3⟩ := hW; simp [execOp, Act.eval, go_sem, s0, s1, s2, s3]⟩) hS ?_
          simp only [List.setIfInBounds_toArray, List.set_cons_succ, List.set_cons_zero]
          refine held_take (i := 5) (t := 88) (v := (.slice (some ⟨bb, ob, none⟩) nb cb)) (fuel := 12) rfl rfl (by kernel_rfl) (by kernel_rfl) (by kernel_rfl) (fun _ _ _ h => h) (.inl ⟨rfl, fun W hW => by obtain ⟨s0, s1, s2, s3⟩ := hW; simp [execOp, Act.eval, go_sem, s0, s1, s2, s3]⟩) hS ?_
          simp only [List.setIfInBounds_toArray, List.set_cons_succ, List.set_cons_zero]
          refine held_take (i := 6) (t := 89) (v := (.int .i64 (k : Int))) (fuel := 11) rfl rfl (by kernel_rfl) (by kernel_rfl) (by kernel_rfl) (fun _ _ _ h => h) (.inl ⟨rfl, fun W hW => by obtain ⟨s0, s1, s2, s3⟩ := hW; simp [execOp, Act.eval, go_sem, s0, s1, s2, s3]⟩) hS ?_
          simp only [List.setIfInBounds_toArray, List.set_cons_succ, List.set_cons_zero]
          refine held_take (i := 7) (t := 90) (v := (.pointer (some ⟨bb, ob + k * 2, none⟩))) (fuel := 10) rfl rfl (by kernel_rfl) (by kernel_rfl) (by kernel_rfl) (fun _ _ _ h => h) (.inl ⟨rfl, fun W hW => by obtain ⟨s0, s1, s2, s3⟩ := hW; simp [execOp, Act.eval, go_sem, s0, s1, s2, s3, i3, i4, hkt]⟩) hS ?_
          simp only [List.setIfInBounds_toArray, List.set_cons_succ, List.set_cons_zero]
          refine held_take (i := 8) (t := 91) (v := (.pointer (some ⟨bb, ob + k * 2, none⟩))) (fuel := 9) rfl rfl (by kernel_rfl) (by kernel_rfl) (by kernel_rfl) (fun _ _ _ h => h) (.inl ⟨rfl, fun W hW => by obtain ⟨s0, s1, s2, s3⟩ := hW; simp [execOp, Act.eval, go_sem, s0, s1, s2, s3]⟩) hS ?_
          simp only [List.setIfInBounds_toArray, List.set_cons_succ, List.set_cons_zero]
          refine held_take (i := 9) (t := 92) (v := (.string y.k)) (fuel := 8) rfl rfl (by kernel_rfl) (by kernel_rfl) (by kernel_rfl) (fun _ _ _ h => h) (.inl ⟨rfl, fun W hW => by obtain ⟨s0, s1, s2, s3⟩ := hW; simp [execOp, Act.eval, go_sem, s0, s1, s2, s3]⟩) hS ?_
          simp only [List.setIfInBounds_toArray, List.set_cons_succ, List.set_cons_zero]
          refine held_take (i := 10) (t := 93) (v := (.slice (some ⟨ba, oa, none⟩) na ca)) (fuel := 7) rfl rfl (by kernel_rfl) (by kernel_rfl) (by kernel_rfl) (fun _ _ _ h => h) (.inl ⟨rfl, fun W hW => by obtain ⟨s0, s1, s2, s3⟩ := hW; simp [execOp, Act.eval, go_sem, s0, s1, s2, s3]⟩) hS ?_
          simp only [List.setIfInBounds_toArray, List.set_cons_succ, List.set_cons_zero]
          refine held_take (i := 11) (t := 94) (v := (.int .i64 (i : Int))) (fuel := 6) rfl rfl (by kernel_rfl) (by kernel_rfl) (by kernel_rfl) (fun _ _ _ h => h) (.inl ⟨rfl, fun W hW => by obtain ⟨s0, s1, s2, s3⟩ := hW; simp [execOp, Act.eval, go_sem, s0, s1, s2, s3]⟩) hS ?_
          simp only [List.setIfInBounds_toArray, List.set_cons_succ, List.set_cons_zero]
          refine held_take (i := 12) (t := 95) (v := (.pointer (some ⟨ba, oa + i * 2, none⟩))) (fuel := 5) rfl rfl (by kernel_rfl) (by kernel_rfl) (by kernel_rfl) (fun _ _ _ h => h) (.inl ⟨rfl, fun W hW => by obtain ⟨s0, s1, s2, s3⟩ := hW; simp [execOp, Act.eval, go_sem, s0, s1, s2, s3, i1, i2, hlt]⟩) hS ?_
          simp only [List.setIfInBounds_toArray, List.set_cons_succ, List.set_cons_zero]
          refine held_take (i := 13) (t := 96) (v := (.pointer (some ⟨ba, oa + i * 2, none⟩))) (fuel := 4) rfl rfl (by kernel_rfl) (by kernel_rfl) (by kernel_rfl) (fun _ _ _ h => h) (.inl ⟨rfl, fun W hW => by obtain ⟨s0, s1, s2, s3⟩ := hW; simp [execOp, Act.eval, go_sem, s0, s1, s2, s3]⟩) hS ?_
          simp only [List.setIfInBounds_toArray, List.set_cons_succ, List.set_cons_zero]
          refine held_take (i := 14) (t := 97) (v := (.string x.k)) (fuel := 3) rfl rfl (by kernel_rfl) (by kernel_rfl) (by kernel_rfl) (fun _ _ _ h => h) (.inl ⟨rfl, fun W hW => by obtain ⟨s0, s1, s2, s3⟩ := hW; simp [execOp, Act.eval, go_sem, s0, s1, s2, s3]⟩) hS ?_
          simp only [List.setIfInBounds_toArray, List.set_cons_succ, List.set_cons_zero]
          refine held_take (i := 15) (t := 98) (v := (.bool true)) (fuel := 2) rfl rfl (by kernel_rfl) (by kernel_rfl) (by kernel_rfl) (fun _ _ _ h => h) (.inl ⟨rfl, fun W hW => by obtain ⟨s0, s1, s2, s3⟩ := hW; simp [execOp, Act.eval, go_sem, s0, s1, s2, s3, q2]⟩) hS ?_
          simp only [List.setIfInBounds_toArray, List.set_cons_succ, List.set_cons_zero]
          refine held_take (i := 16) (t := 99) (v := (.bool true)) (fuel := 1) rfl rfl (by kernel_rfl) (by kernel_rfl) (by kernel_rfl) (fun _ _ _ h => h) (.inl ⟨rfl, fun W hW => by obtain ⟨s0, s1, s2, s3⟩ := hW; simp [execOp, Act.eval, go_sem, s0, s1, s2, s3]⟩) hS ?_
          simp only [List.setIfInBounds_toArray, List.set_cons_succ, List.set_cons_zero]
          refine held_take (i := 17) (t := 82) (v := (.bool true)) (fuel := 0) rfl rfl (by kernel_rfl) (by kernel_rfl) (by kernel_rfl) (fun _ _ _ h => h) (.inl ⟨rfl, fun W hW => by obtain ⟨s0, s1, s2, s3⟩ := hW; simp [execOp, Act.eval, go_sem, s0, s1, s2, s3]⟩) hS ?_
          simp only [List.setIfInBounds_toArray, List.set_cons_succ, List.set_cons_zero]
          refine wpAnyH_done (by kernel_rfl) ?_ 0
          clear hS
          replace HS1 := Lib.hid HS1.out.drew
          go_wp2
          replace HS1 := Lib.hid HS1.out.drew
          have hS := HSK.out wr.drew.drew.drew ((Below.refl w.heap.size wr).drew.drew.drew)
          refine held_begin 15 (fun W => W.cell? ⟨ba, oa + i * 2, none⟩ = some (.string x.k) ∧ W.cell? ⟨ba, oa + i * 2 + 1, none⟩ = some (.string x.v) ∧ W.cell? ⟨bb, ob + k * 2, none⟩ = some (.string y.k) ∧ W.cell? ⟨bb, ob + k * 2 + 1, none⟩ = some (.string y.v)) rfl (by kernel_rfl) ?_
          refine held_take (i := 0) (t := 100) (v := (.slice A n c)) (fuel := 14) rfl rfl (by kernel_rfl) (by kernel_rfl) (by kernel_rfl) (fun _ _ _ h => h) (.inl ⟨rfl, fun W hW => by obtain ⟨s0, s1, s2, s3⟩ := hW; simp [execOp, Act.eval, go_sem, s0, s1, s2, s3]⟩) hS ?_
          simp only [List.setIfInBounds_toArray, List.set_cons_succ, List.set_cons_zero]
          refine held_take (i := 1) (t := 101) (v := (.slice (some ⟨bb, ob, none⟩) nb cb)) (fuel := 13) rfl rfl (by kernel_rfl) (by kernel_rfl) (by kernel_rfl) (fun _ _ _ h => h) (.inl ⟨rfl, fun W hW => by obtain ⟨s0, s1, s2, s3⟩ := hW; simp [execOp, Act.eval, go_sem, s0, s1, s2, s3]⟩) hS ?_
          simp only [List.setIfInBounds_toArray, List.set_cons_succ, List.set_cons_zero]
          refine held_take (i := 2) (t := 102) (v := (.int .i64 (k : Int))) (fuel := 12) rfl rfl (by kernel_rfl) (by kernel_rfl) (by kernel_rfl) (fun _ _ _ h => h) (.inl ⟨rfl, fun W hW => by obtain ⟨s0, s1, s2, s3⟩ := hW; simp [execOp, Act.eval, go_sem, s0, s1, s2, s3]⟩) hS ?_
          simp only [List.setIfInBounds_toArray, List.set_cons_succ, List.set_cons_zero]
          refine held_take (i := 3) (t := 103) (v := (.pointer (some ⟨bb, ob + k * 2, none⟩))) (fuel := 11) rfl rfl (by kernel_rfl) (by kernel_rfl) (by kernel_rfl) (fun _ _ _ h => h) (.inl ⟨rfl, fun W hW => by obtain ⟨s0, s1, s2, s3⟩ := hW; simp [execOp, Act.eval, go_sem, s0, s1, s2, s3, i3, i4, hkt]⟩) hS ?_
          simp only [List.setIfInBounds_toArray, List.set_cons_succ, List.set_cons_zero]
          refine held_take (i := 4) (t := 104) (v := (.pointer (some ⟨bb, ob + k * 2, none⟩))) (fuel := 10) rfl rfl (by kernel_rfl) (by kernel_rfl) (by kernel_rfl) (fun _ _ _ h => h) (.inl ⟨rfl, fun W hW => by obtain ⟨s0, s1, s2, s3⟩ := hW; simp [execOp, Act.eval, go_sem, s0, s1, s2, s3]⟩) hS ?_
          simp only [List.setIfInBounds_toArray, List.set_cons_succ, List.set_cons_zero]
          refine held_take (i := 5) (t := 105) (v := (.string y.k)) (fuel := 9) rfl rfl (by kernel_rfl) (by kernel_rfl) (by kernel_rfl) (fun _ _ _ h => h) (.inl ⟨rfl, fun W hW => by obtain ⟨s0, s1, s2, s3⟩ := hW; simp [execOp, Act.eval, go_sem, s0, s1, s2, s3]⟩) hS ?_
          simp only [List.setIfInBounds_toArray, List.set_cons_succ, List.set_cons_zero]
          refine held_take (i := 6) (t := 106) (v := (.slice (some ⟨bb, ob, none⟩) nb cb)) (fuel := 8) rfl rfl (by kernel_rfl) (by kernel_rfl) (by kernel_rfl) (fun _ _ _ h => h) (.inl ⟨rfl, fun W hW => by obtain ⟨s0, s1, s2, s3⟩ := hW; simp [execOp, Act.eval, go_sem, s0, s1, s2, s3]⟩) hS ?_
          simp only [List.setIfInBounds_toArray, List.set_cons_succ, List.set_cons_zero]
          refine held_take (i := 7) (t := 107) (v := (.int .i64 (k : Int))) (fuel := 7) rfl rfl (by kernel_rfl) (by kernel_rfl) (by kernel_rfl) (fun _ _ _ h => h) (.inl ⟨rfl, fun W hW => by obtain ⟨s0, s1, s2, s3⟩ := hW; simp [execOp, Act.eval, go_sem, s0, s1, s2, s3]⟩) hS ?_
          simp only [List.setIfInBounds_toArray, List.set_cons_succ, List.set_cons_zero]
          refine held_take (i := 8) (t := 108) (v := (.pointer (some ⟨bb, ob + k * 2, none⟩))) (fuel := 6) rfl rfl (by kernel_rfl) (by kernel_rfl) (by kernel_rfl) (fun _ _ _ h => h) (.inl ⟨rfl, fun W hW => by obtain ⟨s0, s1, s2, s3⟩ := hW; simp [execOp, Act.eval, go_sem, s0, s1, s2, s3, i3, i4, hkt]⟩) hS ?_
          simp only [List.setIfInBounds_toArray, List.set_cons_succ, List.set_cons_zero]
          refine held_take (i := 9) (t := 109) (v := (.pointer (some ⟨bb, ob + k * 2 + 1, none⟩))) (fuel := 5) rfl rfl (by kernel_rfl) (by kernel_rfl) (by kernel_rfl) (fun _ _ _ h => h) (.inl ⟨rfl, fun W hW => by obtain ⟨s0, s1, s2, s3⟩ := hW; simp [execOp, Act.eval, go_sem, s0, s1, s2, s3]⟩) hS ?_
          simp only [List.setIfInBounds_toArray, List.set_cons_succ, List.set_cons_zero]
          refine held_take (i := 10) (t := 110) (v := (.string y.v)) (fuel := 4) rfl rfl (by kernel_rfl) (by kernel_rfl) (by kernel_rfl) (fun _ _ _ h => h) (.inl ⟨rfl, fun W hW => by obtain ⟨s0, s1, s2, s3⟩ := hW; simp [execOp, Act.eval, go_sem, s0, s1, s2, s3]⟩) hS ?_
          simp only [List.setIfInBounds_toArray, List.set_cons_succ, List.set_cons_zero]
          refine held_take (i := 11) (t := 111) (v := (.agg #[.string y.k, .string y.v, .bool false])) (fuel := 3) rfl rfl (by kernel_rfl) (by kernel_rfl) (by kernel_rfl) (fun _ _ _ h => h) (.inl ⟨rfl, fun W hW => by obtain ⟨s0, s1, s2, s3⟩ := hW; simp [execOp, Act.eval, go_sem, s0, s1, s2, s3]⟩) hS ?_
          simp only [List.setIfInBounds_toArray, List.set_cons_succ, List.set_cons_zero]
          refine held_call (i := 12) rfl (by kernel_rfl) (by kernel_rfl) ?_
          simp [Oper.wp, execOp, Act.eval, Act.put, go_sem]
          have hS2 := HSK.out _ (((Below.refl w.heap.size wr).drew.drew.drew).alloc HS1.out.bel.size (.cells #[.string y.k, .string y.v, .bool false] 52))
          refine ⟨hS2, ?_⟩
          clear hS hS2
          try simp only [List.setIfInBounds_toArray, List.set_cons_succ, List.set_cons_zero]
          refine held_call (i := 13) rfl (by kernel_rfl) (by kernel_rfl) ?_
          refine op_append_items Try.underlying44 infoChange rfl (by decide) kc_len kc_one _ _ _ rfl w.heap.size A n c o rfl [⟨y.k, y.v, false⟩] 1 rfl (own_below HS1.out.own ((Below.refl _ _).alloc (Nat.le_refl _) _)) (by have := HS1.out.bel.size; simp at this ⊢; omega) ⟨wr.drew.drew.drew.heap.size, 0, none⟩ 1 rfl (new_cells wr.drew.drew.drew [.string y.k, .string y.v, .bool false] _) (by have := HN.out; unfold limT at this; omega) (by have := HN.out; unfold limT at this; unfold maxLen; omega) ?_
          intro A3 c3 w3 ho3 hb3
          have hb4 := ((Below.refl w.heap.size wr.drew.drew.drew).alloc HS1.out.bel.size (.cells #[.string y.k, .string y.v, .bool false] 52)).trans hb3
          have HS3 := Lib.hid (HS1.out.more hb4 ho3)
          have hS := HSK.out _ ((((Below.refl w.heap.size wr).drew.drew.drew).alloc HS1.out.bel.size (.cells #[.string y.k, .string y.v, .bool false] 52)).trans hb3)
          refine ⟨hS, ?_⟩
          clear ho3 hb3 hb4
          try simp only [List.setIfInBounds_toArray, List.set_cons_succ, List.set_cons_zero]
          refine held_call (i := 14) rfl (by kernel_rfl) (by kernel_rfl) ?_
          simp [Oper.wp, execOp, Act.eval, Act.put, go_sem]
          refine ⟨hS, ?_⟩
          clear hS
          try simp only [List.setIfInBounds_toArray, List.set_cons_succ, List.set_cons_zero]
          refine wpAnyH_done (by kernel_rfl) ?_ 0
          go_wp2
          go_roundw
          case rel => exact ⟨_, _, _, _, i, k + 1, rfl, by go_num, by go_num, by omega, by omega, Lib.hid (by have := HNO.out; omega), HI2, HS3⟩
          case measure => simp [intOf]; omega

      · have hkl : b.length ≤ k := by rw [← HLB.out]; omega
        have HI2 := Lib.hid (HI.out.gone hil hkl)
        obtain ⟨x, hx⟩ : ∃ x, a[i]'hil = x := ⟨_, rfl⟩
        rw [hx] at a0 a1 HI2
        have i7 : (nb : Int) ≤ (k : Int) := by omega
        have j7 : nb ≤ k := by omega
        have HSK := Lib.hid (show ∀ U : World, Below w.heap.size wr U → U.cell? ⟨ba, oa + i * 2, none⟩ = some (.string x.k) from fun U hU => (hU.cell (p := ⟨ba, _, none⟩) hba).trans a0)
        clear hx hil hkl hba HI
        go_wp2
        have hS := HSK.out wr.drew ((Below.refl w.heap.size wr).drew)
        refine held_begin 24 (fun W => W.cell? ⟨ba, oa + i * 2, none⟩ = some (.string x.k)) rfl (by kernel_rfl) ?_
        refine held_take (i := 0) (t := 48) (v := (.int .i64 (k : Int))) (fuel := 23) rfl rfl (by kernel_rfl) (by kernel_rfl) (by kernel_rfl) (fun _ _ _ h => h) (.inl ⟨rfl, fun W hW => by have s0 := hW; simp [execOp, Act.eval, go_sem, s0]⟩) hS ?_
        simp only [List.setIfInBounds_toArray, List.set_cons_succ, List.set_cons_zero]
        refine held_take (i := 1) (t := 49) (v := (.slice Ab nb cb)) (fuel := 22) rfl rfl (by kernel_rfl) (by kernel_rfl) (by kernel_rfl) (fun _ _ _ h => h) (.inl ⟨rfl, fun W hW => by have s0 := hW; simp [execOp, Act.eval, go_sem, s0]⟩) hS ?_
        simp only [List.setIfInBounds_toArray, List.set_cons_succ, List.set_cons_zero]
        refine held_take (i := 2) (t := 50) (v := (.int .i64 (nb : Int))) (fuel := 21) rfl rfl (by kernel_rfl) (by kernel_rfl) (by kernel_rfl) (fun _ _ _ h => h) (.inl ⟨rfl, fun W hW => by have s0 := hW; simp [execOp, Act.eval, go_sem, s0]⟩) hS ?_
        simp only [List.setIfInBounds_toArray, List.set_cons_succ, List.set_cons_zero]
        refine held_take (i := 3) (t := 51) (v := (.bool true)) (fuel := 20) rfl rfl (by kernel_rfl) (by kernel_rfl) (by kernel_rfl) (fun _ _ _ h => h) (.inl ⟨rfl, fun W hW => by have s0 := hW; simp [execOp, Act.eval, go_sem, s0, i7, j7]⟩) hS ?_
        simp only [List.setIfInBounds_toArray, List.set_cons_succ, List.set_cons_zero]
        refine held_take (i := 4) (t := 52) (v := (.bool true)) (fuel := 19) rfl rfl (by kernel_rfl) (by kernel_rfl) (by kernel_rfl) (fun _ _ _ h => h) (.inl ⟨rfl, fun W hW => by have s0 := hW; simp [execOp, Act.eval, go_sem, s0]⟩) hS ?_
        simp only [List.setIfInBounds_toArray, List.set_cons_succ, List.set_cons_zero]
        refine held_take (i := 5) (t := 53) (v := undef) (fuel := 18) rfl rfl (by kernel_rfl) (by kernel_rfl) (by kernel_rfl) (fun _ _ _ h => h) (.inr ⟨rfl, rfl⟩) hS ?_
        simp only [List.setIfInBounds_toArray, List.set_cons_succ, List.set_cons_zero]
        refine held_take (i := 6) (t := 54) (v := undef) (fuel := 17) rfl rfl (by kernel_rfl) (by kernel_rfl) (by kernel_rfl) (fun _ _ _ h => h) (.inr ⟨rfl, rfl⟩) hS ?_
        simp only [List.setIfInBounds_toArray, List.set_cons_succ, List.set_cons_zero]
        refine held_take (i := 7) (t := 55) (v := undef) (fuel := 16) rfl rfl (by kernel_rfl) (by kernel_rfl) (by kernel_rfl) (fun _ _ _ h => h) (.inr ⟨rfl, rfl⟩) hS ?_
        simp only [List.setIfInBounds_toArray, List.set_cons_succ, List.set_cons_zero]
        refine held_take (i := 8) (t := 56) (v := undef) (fuel := 15) rfl rfl (by kernel_rfl) (by kernel_rfl) (by kernel_rfl) (fun _ _ _ h => h) (.inr ⟨rfl, rfl⟩) hS ?_
        simp only [List.setIfInBounds_toArray, List.set_cons_succ, List.set_cons_zero]
        refine held_take (i := 9) (t := 57) (v := undef) (fuel := 14) rfl rfl (by kernel_rfl) (by kernel_rfl) (by kernel_rfl) (fun _ _ _ h => h) (.inr ⟨rfl, rfl⟩) hS ?_
        simp only [List.setIfInBounds_toArray, List.set_cons_succ, List.set_cons_zero]
        refine held_take (i := 10) (t := 58) (v := undef) (fuel := 13) rfl rfl (by kernel_rfl) (by kernel_rfl) (by kernel_rfl) (fun _ _ _ h => h) (.inr ⟨rfl, rfl⟩) hS ?_
        simp only [List.setIfInBounds_toArray, List.set_cons_succ, List.set_cons_zero]
        refine held_take (i := 11) (t := 59) (v := undef) (fuel := 12) rfl rfl (by kernel_rfl) (by kernel_rfl) (by kernel_rfl) (fun _ _ _ h => h) (.inr ⟨rfl, rfl⟩) hS ?_
        simp only [List.setIfInBounds_toArray, List.set_cons_succ, List.set_cons_zero]
        refine held_take (i := 12) (t := 60) (v := undef) (fuel := 11) rfl rfl (by kernel_rfl) (by kernel_rfl) (by kernel_rfl) (fun _ _ _ h => h) (.inr ⟨rfl, rfl⟩) hS ?_
        simp only [List.setIfInBounds_toArray, List.set_cons_succ, List.set_cons_zero]
        refine held_take (i := 13) (t := 61) (v := undef) (fuel := 10) rfl rfl (by kernel_rfl) (by kernel_rfl) (by kernel_rfl) (fun _ _ _ h => h) (.inr ⟨rfl, rfl⟩) hS ?_
        simp only [List.setIfInBounds_toArray, List.set_cons_succ, List.set_cons_zero]
        refine held_take (i := 14) (t := 62) (v := undef) (fuel := 9) rfl rfl (by kernel_rfl) (by kernel_rfl) (by kernel_rfl) (fun _ _ _ h => h) (.inr ⟨rfl, rfl⟩) hS ?_
        simp only [List.setIfInBounds_toArray, List.set_cons_succ, List.set_cons_zero]
        refine held_take (i := 15) (t := 63) (v := undef) (fuel := 8) rfl rfl (by kernel_rfl) (by kernel_rfl) (by kernel_rfl) (fun _ _ _ h => h) (.inr ⟨rfl, rfl⟩) hS ?_
        simp only [List.setIfInBounds_toArray, List.set_cons_succ, List.set_cons_zero]
        refine held_take (i := 16) (t := 64) (v := undef) (fuel := 7) rfl rfl (by kernel_rfl) (by kernel_rfl) (by kernel_rfl) (fun _ _ _ h => h) (.inr ⟨rfl, rfl⟩) hS ?_
        simp only [List.setIfInBounds_toArray, List.set_cons_succ, List.set_cons_zero]
        refine held_take (i := 17) (t := 65) (v := undef) (fuel := 6) rfl rfl (by kernel_rfl) (by kernel_rfl) (by kernel_rfl) (fun _ _ _ h => h) (.inr ⟨rfl, rfl⟩) hS ?_
        simp only [List.setIfInBounds_toArray, List.set_cons_succ, List.set_cons_zero]
        refine held_take (i := 18) (t := 66) (v := undef) (fuel := 5) rfl rfl (by kernel_rfl) (by kernel_rfl) (by kernel_rfl) (fun _ _ _ h => h) (.inr ⟨rfl, rfl⟩) hS ?_
        simp only [List.setIfInBounds_toArray, List.set_cons_succ, List.set_cons_zero]
        refine held_take (i := 19) (t := 67) (v := undef) (fuel := 4) rfl rfl (by kernel_rfl) (by kernel_rfl) (by kernel_rfl) (fun _ _ _ h => h) (.inr ⟨rfl, rfl⟩) hS ?_
        simp only [List.setIfInBounds_toArray, List.set_cons_succ, List.set_cons_zero]
        refine held_take (i := 20) (t := 68) (v := undef) (fuel := 3) rfl rfl (by kernel_rfl) (by kernel_rfl) (by kernel_rfl) (fun _ _ _ h => h) (.inr ⟨rfl, rfl⟩) hS ?_
        simp only [List.setIfInBounds_toArray, List.set_cons_succ, List.set_cons_zero]
        refine held_take (i := 21) (t := 69) (v := undef) (fuel := 2) rfl rfl (by kernel_rfl) (by kernel_rfl) (by kernel_rfl) (fun _ _ _ h => h) (.inr ⟨rfl, rfl⟩) hS ?_
        simp only [List.setIfInBounds_toArray, List.set_cons_succ, List.set_cons_zero]
        refine held_take (i := 22) (t := 70) (v := (.bool true)) (fuel := 1) rfl rfl (by kernel_rfl) (by kernel_rfl) (by kernel_rfl) (fun _ _ _ h => h) (.inl ⟨rfl, fun W hW => by have s0 := hW; simp [execOp, Act.eval, go_sem, s0]⟩) hS ?_
        simp only [List.setIfInBounds_toArray, List.set_cons_succ, List.set_cons_zero]
        refine held_take (i := 23) (t := 47) (v := (.bool true)) (fuel := 0) rfl rfl (by kernel_rfl) (by kernel_rfl) (by kernel_rfl) (fun _ _ _ h => h) (.inl ⟨rfl, fun W hW => by have s0 := hW; simp [execOp, Act.eval, go_sem, s0]⟩) hS ?_
        simp only [List.setIfInBounds_toArray, List.set_cons_succ, List.set_cons_zero]
        refine wpAnyH_done (by kernel_rfl) ?_ 0
        clear hS
        replace HS1 := Lib.hid HS1.out.drew
        go_wp2_with (at_builtin; have HFS := HS1; go_loud (refine append_item Try.underlying44 infoChange rfl (by decide) kc_len kc_one rfl _ _ rfl w.heap.size A n c o rfl _ ⟨x.k, zB, true⟩ HS1.out.own HS1.out.bel.size _ rfl rfl (by have := HN.out; unfold limT at this; omega) (by have := HN.out; unfold limT at this; unfold maxLen; omega) [_, _, _] rfl ?_); intro A3 n3 c3 w3 hn3 ho3 hb3 _; have HS3 := Lib.hid (HS1.out.more hb3 ho3); clear ho3 hb3 HS1; subst hn3)
        go_roundw
        case rel => exact ⟨_, _, _, _, i + 1, k, rfl, by go_num, by go_num, by omega, by omega, Lib.hid (by have := HNO.out; omega), HI2, HS3⟩
        case measure => simp [intOf]; omega

    · have hil : a.length ≤ i := by rw [← HLA.out]; omega
      by_cases hkt : k < nb
      · have hkl : k < b.length := by rw [← HLB.out]; exact hkt
        obtain ⟨bb, ob, rfl, hbb, b0, b1⟩ := (HB.out.below HS.out.bel) k hkl
        have HI2 := Lib.hid (HI.out.put hil hkl)
        obtain ⟨y, hy⟩ : ∃ x, b[k]'hkl = x := ⟨_, rfl⟩
        rw [hy] at b0 b1 HI2
        have i4 : (k : Int) < (nb : Int) := by omega
        have i7 : ¬ (nb : Int) ≤ (k : Int) := by omega
        have j7 : ¬ nb ≤ k := by omega
        have i8 : (na : Int) ≤ (i : Int) := by omega
        have j8 : na ≤ i := by omega
        have i9 : ¬ (i : Int) < (na : Int) := by omega
        have HSK := Lib.hid (show ∀ U : World, Below w.heap.size wr U → U.cell? ⟨bb, ob + k * 2, none⟩ = some (.string y.k) ∧ U.cell? ⟨bb, ob + k * 2 + 1, none⟩ = some (.string y.v) from fun U hU => ⟨(hU.cell (p := ⟨bb, _, none⟩) hbb).trans b0, (hU.cell (p := ⟨bb, _, none⟩) hbb).trans b1⟩)
        clear hy hil hkl hbb HI
        go_wp2
        have hS := HSK.out wr.drew ((Below.refl w.heap.size wr).drew)
        refine held_begin 24 (fun W => W.cell? ⟨bb, ob + k * 2, none⟩ = some (.string y.k) ∧ W.cell? ⟨bb, ob + k * 2 + 1, none⟩ = some (.string y.v)) rfl (by kernel_rfl) ?_
        refine held_take (i := 0) (t := 48) (v := (.int .i64 (k : Int))) (fuel := 23) rfl rfl (by kernel_rfl) (by kernel_rfl) (by kernel_rfl) (fun _ _ _ h => h) (.inl ⟨rfl, fun W hW => by obtain ⟨s0, s1⟩ := hW; simp [execOp, Act.eval, go_sem, s0, s1]⟩) hS ?_
        simp only [List.setIfInBounds_toArray, List.set_cons_succ, List.set_cons_zero]
        refine held_take (i := 1) (t := 49) (v := (.slice (some ⟨bb, ob, none⟩) nb cb)) (fuel := 22) rfl rfl (by kernel_rfl) (by kernel_rfl) (by kernel_rfl) (fun _ _ _ h => h) (.inl ⟨rfl, fun W hW => by obtain ⟨s0, s1⟩ := hW; simp [execOp, Act.eval, go_sem, s0, s1]⟩) hS ?_
        simp only [List.setIfInBounds_toArray, List.set_cons_succ, List.set_cons_zero]
        refine held_take (i := 2) (t := 50) (v := (.int .i64 (nb : Int))) (fuel := 21) rfl rfl (by kernel_rfl) (by kernel_rfl) (by kernel_rfl) (fun _ _ _ h => h) (.inl ⟨rfl, fun W hW => by obtain ⟨s0, s1⟩ := hW; simp [execOp, Act.eval, go_sem, s0, s1]⟩) hS ?_
        simp only [List.setIfInBounds_toArray, List.set_cons_succ, List.set_cons_zero]
        refine held_take (i := 3) (t := 51) (v := (.bool false)) (fuel := 20) rfl rfl (by kernel_rfl) (by kernel_rfl) (by kernel_rfl) (fun _ _ _ h => h) (.inl ⟨rfl, fun W hW => by obtain ⟨s0, s1⟩ := hW; simp [execOp, Act.eval, go_sem, s0, s1, i7, j7]⟩) hS ?_
        simp only [List.setIfInBounds_toArray, List.set_cons_succ, List.set_cons_zero]
        refine held_take (i := 4) (t := 52) (v := (.bool false)) (fuel := 19) rfl rfl (by kernel_rfl) (by kernel_rfl) (by kernel_rfl) (fun _ _ _ h => h) (.inl ⟨rfl, fun W hW => by obtain ⟨s0, s1⟩ := hW; simp [execOp, Act.eval, go_sem, s0, s1]⟩) hS ?_
        simp only [List.setIfInBounds_toArray, List.set_cons_succ, List.set_cons_zero]
        refine held_take (i := 5) (t := 53) (v := (.int .i64 (i : Int))) (fuel := 18) rfl rfl (by kernel_rfl) (by kernel_rfl) (by kernel_rfl) (fun _ _ _ h => h) (.inl ⟨rfl, fun W hW => by obtain ⟨s0, s1⟩ := hW; simp [execOp, Act.eval, go_sem, s0, s1]⟩) hS ?_
        simp only [List.setIfInBounds_toArray, List.set_cons_succ, List.set_cons_zero]
        refine held_take (i := 6) (t := 54) (v := (.slice Aa na ca)) (fuel := 17) rfl rfl (by kernel_rfl) (by kernel_rfl) (by kernel_rfl) (fun _ _ _ h => h) (.inl ⟨rfl, fun W hW => by obtain ⟨s0, s1⟩ := hW; simp [execOp, Act.eval, go_sem, s0, s1]⟩) hS ?_
        simp only [List.setIfInBounds_toArray, List.set_cons_succ, List.set_cons_zero]
        refine held_take (i := 7) (t := 55) (v := (.int .i64 (na : Int))) (fuel := 16) rfl rfl (by kernel_rfl) (by kernel_rfl) (by kernel_rfl) (fun _ _ _ h => h) (.inl ⟨rfl, fun W hW => by obtain ⟨s0, s1⟩ := hW; simp [execOp, Act.eval, go_sem, s0, s1]⟩) hS ?_
        simp only [List.setIfInBounds_toArray, List.set_cons_succ, List.set_cons_zero]
        refine held_take (i := 8) (t := 56) (v := (.bool false)) (fuel := 15) rfl rfl (by kernel_rfl) (by kernel_rfl) (by kernel_rfl) (fun _ _ _ h => h) (.inl ⟨rfl, fun W hW => by obtain ⟨s0, s1⟩ := hW; simp [execOp, Act.eval, go_sem, s0, s1, i9, hlt]⟩) hS ?_
        simp only [List.setIfInBounds_toArray, List.set_cons_succ, List.set_cons_zero]
        refine held_take (i := 9) (t := 57) (v := (.bool false)) (fuel := 14) rfl rfl (by kernel_rfl) (by kernel_rfl) (by kernel_rfl) (fun _ _ _ h => h) (.inl ⟨rfl, fun W hW => by obtain ⟨s0, s1⟩ := hW; simp [execOp, Act.eval, go_sem, s0, s1]⟩) hS ?_
        simp only [List.setIfInBounds_toArray, List.set_cons_succ, List.set_cons_zero]
        refine held_take (i := 10) (t := 58) (v := undef) (fuel := 13) rfl rfl (by kernel_rfl) (by kernel_rfl) (by kernel_rfl) (fun _ _ _ h => h) (.inr ⟨rfl, rfl⟩) hS ?_
        simp only [List.setIfInBounds_toArray, List.set_cons_succ, List.set_cons_zero]
        refine held_take (i := 11) (t := 59) (v := undef) (fuel := 12) rfl rfl (by kernel_rfl) (by kernel_rfl) (by kernel_rfl) (fun _ _ _ h => h) (.inr ⟨rfl, rfl⟩) hS ?_
        simp only [List.setIfInBounds_toArray, List.set_cons_succ, List.set_cons_zero]
        refine held_take (i := 12) (t := 60) (v := undef) (fuel := 11) rfl rfl (by kernel_rfl) (by kernel_rfl) (by kernel_rfl) (fun _ _ _ h => h) (.inr ⟨rfl, rfl⟩) hS ?_
        simp only [List.setIfInBounds_toArray, List.set_cons_succ, List.set_cons_zero]
        refine held_take (i := 13) (t := 61) (v := undef) (fuel := 10) rfl rfl (by kernel_rfl) (by kernel_rfl) (by kernel_rfl) (fun _ _ _ h => h) (.inr ⟨rfl, rfl⟩) hS ?_
        simp only [List.setIfInBounds_toArray, List.set_cons_succ, List.set_cons_zero]
        refine held_take (i := 14) (t := 62) (v := undef) (fuel := 9) rfl rfl (by kernel_rfl) (by kernel_rfl) (by kernel_rfl) (fun _ _ _ h => h) (.inr ⟨rfl, rfl⟩) hS ?_
        simp only [List.setIfInBounds_toArray, List.set_cons_succ, List.set_cons_zero]
        refine held_take (i := 15) (t := 63) (v := undef) (fuel := 8) rfl rfl (by kernel_rfl) (by kernel_rfl) (by kernel_rfl) (fun _ _ _ h => h) (.inr ⟨rfl, rfl⟩) hS ?_
        simp only [List.setIfInBounds_toArray, List.set_cons_succ, List.set_cons_zero]
        refine held_take (i := 16) (t := 64) (v := undef) (fuel := 7) rfl rfl (by kernel_rfl) (by kernel_rfl) (by kernel_rfl) (fun _ _ _ h => h) (.inr ⟨rfl, rfl⟩) hS ?_
        simp only [List.setIfInBounds_toArray, List.set_cons_succ, List.set_cons_zero]
        refine held_take (i := 17) (t := 65) (v := undef) (fuel := 6) rfl rfl (by kernel_rfl) (by kernel_rfl) (by kernel_rfl) (fun _ _ _ h => h) (.inr ⟨rfl, rfl⟩) hS ?_
        simp only [List.setIfInBounds_toArray, List.set_cons_succ, List.set_cons_zero]
        refine held_take (i := 18) (t := 66) (v := undef) (fuel := 5) rfl rfl (by kernel_rfl) (by kernel_rfl) (by kernel_rfl) (fun _ _ _ h => h) (.inr ⟨rfl, rfl⟩) hS ?_
        simp only [List.setIfInBounds_toArray, List.set_cons_succ, List.set_cons_zero]
        refine held_take (i := 19) (t := 67) (v := undef) (fuel := 4) rfl rfl (by kernel_rfl) (by kernel_rfl) (by kernel_rfl) (fun _ _ _ h => h) (.inr ⟨rfl, rfl⟩) hS ?_
        simp only [List.setIfInBounds_toArray, List.set_cons_succ, List.set_cons_zero]
        refine held_take (i := 20) (t := 68) (v := undef) (fuel := 3) rfl rfl (by kernel_rfl) (by kernel_rfl) (by kernel_rfl) (fun _ _ _ h => h) (.inr ⟨rfl, rfl⟩) hS ?_
        simp only [List.setIfInBounds_toArray, List.set_cons_succ, List.set_cons_zero]
        refine held_take (i := 21) (t := 69) (v := (.bool false)) (fuel := 2) rfl rfl (by kernel_rfl) (by kernel_rfl) (by kernel_rfl) (fun _ _ _ h => h) (.inl ⟨rfl, fun W hW => by obtain ⟨s0, s1⟩ := hW; simp [execOp, Act.eval, go_sem, s0, s1]⟩) hS ?_
        simp only [List.setIfInBounds_toArray, List.set_cons_succ, List.set_cons_zero]
        refine held_take (i := 22) (t := 70) (v := (.bool false)) (fuel := 1) rfl rfl (by kernel_rfl) (by kernel_rfl) (by kernel_rfl) (fun _ _ _ h => h) (.inl ⟨rfl, fun W hW => by obtain ⟨s0, s1⟩ := hW; simp [execOp, Act.eval, go_sem, s0, s1]⟩) hS ?_
        simp only [List.setIfInBounds_toArray, List.set_cons_succ, List.set_cons_zero]
        refine held_take (i := 23) (t := 47) (v := (.bool false)) (fuel := 0) rfl rfl (by kernel_rfl) (by kernel_rfl) (by kernel_rfl) (fun _ _ _ h => h) (.inl ⟨rfl, fun W hW => by obtain ⟨s0, s1⟩ := hW; simp [execOp, Act.eval, go_sem, s0, s1]⟩) hS ?_
        simp only [List.setIfInBounds_toArray, List.set_cons_succ, List.set_cons_zero]
        refine wpAnyH_done (by kernel_rfl) ?_ 0
        clear hS
        replace HS1 := Lib.hid HS1.out.drew
        go_wp2
        have hS := HSK.out wr.drew.drew ((Below.refl w.heap.size wr).drew.drew)
        refine held_begin 18 (fun W => W.cell? ⟨bb, ob + k * 2, none⟩ = some (.string y.k) ∧ W.cell? ⟨bb, ob + k * 2 + 1, none⟩ = some (.string y.v)) rfl (by kernel_rfl) ?_
        refine held_take (i := 0) (t := 83) (v := (.int .i64 (i : Int))) (fuel := 17) rfl rfl (by kernel_rfl) (by kernel_rfl) (by kernel_rfl) (fun _ _ _ h => h) (.inl ⟨rfl, fun W hW => by obtain ⟨s0, s1⟩ := hW; simp [execOp, Act.eval, go_sem, s0, s1]⟩) hS ?_
        simp only [List.setIfInBounds_toArray, List.set_cons_succ, List.set_cons_zero]
        refine held_take (i := 1) (t := 84) (v := (.slice Aa na ca)) (fuel := 16) rfl rfl (by kernel_rfl) (by kernel_rfl) (by kernel_rfl) (fun _ _ _ h => h) (.inl ⟨rfl, fun W hW => by obtain ⟨s0, s1⟩ := hW; simp [execOp, Act.eval, go_sem, s0, s1]⟩) hS ?_
        simp only [List.setIfInBounds_toArray, List.set_cons_succ, List.set_cons_zero]
        refine held_take (i := 2) (t := 85) (v := (.int .i64 (na : Int))) (fuel := 15) rfl rfl (by kernel_rfl) (by kernel_rfl) (by kernel_rfl) (fun _ _ _ h => h) (.inl ⟨rfl, fun W hW => by obtain ⟨s0, s1⟩ := hW; simp [execOp, Act.eval, go_sem, s0, s1]⟩) hS ?_
        simp only [List.setIfInBounds_toArray, List.set_cons_succ, List.set_cons_zero]
        refine held_take (i := 3) (t := 86) (v := (.bool true)) (fuel := 14) rfl rfl (by kernel_rfl) (by kernel_rfl) (by kernel_rfl) (fun _ _ _ h => h) (.inl ⟨rfl, fun W hW => by obtain ⟨s0, s1⟩ := hW; simp [execOp, Act.eval, go_sem, s0, s1, i8, j8]⟩) hS ?_
        simp only [List.setIfInBounds_toArray, List.set_cons_succ, List.set_cons_zero]
        refine held_take (i := 4) (t := 87) (v := (.bool true)) (fuel := 13) rfl rfl (by kernel_rfl) (by kernel_rfl) (by kernel_rfl) (fun _ _ _ h => h) (.inl ⟨rfl, fun W hW => by obtain ⟨s0, s1⟩ := hW; simp [execOp, Act.eval, go_sem, s0, s1]⟩) hS ?_
        simp only [List.setIfInBounds_toArray, List.set_cons_succ, List.set_cons_zero]
        refine held_take (i := 5) (t := 88) (v := undef) (fuel := 12) rfl rfl (by kernel_rfl) (by kernel_rfl) (by kernel_rfl) (fun _ _ _ h => h) (.inr ⟨rfl, rfl⟩) hS ?_
        simp only [List.setIfInBounds_toArray, List.set_cons_succ, List.set_cons_zero]
        refine held_take (i := 6) (t := 89) (v := undef) (fuel := 11) rfl rfl (by kernel_rfl) (by kernel_rfl) (by kernel_rfl) (fun _ _ _ h => h) (.inr ⟨rfl, rfl⟩) hS ?_
        simp only [List.setIfInBounds_toArray, List.set_cons_succ, List.set_cons_zero]
        refine held_take (i := 7) (t := 90) (v := undef) (fuel := 10) rfl rfl (by kernel_rfl) (by kernel_rfl) (by kernel_rfl) (fun _ _ _ h => h) (.inr ⟨rfl, rfl⟩) hS ?_
        simp only [List.setIfInBounds_toArray, List.set_cons_succ, List.set_cons_zero]
        refine held_take (i := 8) (t := 91) (v := undef) (fuel := 9) rfl rfl (by kernel_rfl) (by kernel_rfl) (by kernel_rfl) (fun _ _ _ h => h) (.inr ⟨rfl, rfl⟩) hS ?_
        simp only [List.setIfInBounds_toArray, List.set_cons_succ, List.set_cons_zero]
        refine held_take (i := 9) (t := 92) (v := undef) (fuel := 8) rfl rfl (by kernel_rfl) (by kernel_rfl) (by kernel_rfl) (fun _ _ _ h => h) (.inr ⟨rfl, rfl⟩) hS ?_
        simp only [List.setIfInBounds_toArray, List.set_cons_succ, List.set_cons_zero]
        refine held_take (i := 10) (t := 93) (v := undef) (fuel := 7) rfl rfl (by kernel_rfl) (by kernel_rfl) (by kernel_rfl) (fun _ _ _ h => h) (.inr ⟨rfl, rfl⟩) hS ?_
        simp only [List.setIfInBounds_toArray, List.set_cons_succ, List.set_cons_zero]
        refine held_take (i := 11) (t := 94) (v := undef) (fuel := 6) rfl rfl (by kernel_rfl) (by kernel_rfl) (by kernel_rfl) (fun _ _ _ h => h) (.inr ⟨rfl, rfl⟩) hS ?_
        simp only [List.setIfInBounds_toArray, List.set_cons_succ, List.set_cons_zero]
        refine held_take (i := 12) (t := 95) (v := undef) (fuel := 5) rfl rfl (by kernel_rfl) (by kernel_rfl) (by kernel_rfl) (fun _ _ _ h => h) (.inr ⟨rfl, rfl⟩) hS ?_
        simp only [List.setIfInBounds_toArray, List.set_cons_succ, List.set_cons_zero]
        refine held_take (i := 13) (t := 96) (v := undef) (fuel := 4) rfl rfl (by kernel_rfl) (by kernel_rfl) (by kernel_rfl) (fun _ _ _ h => h) (.inr ⟨rfl, rfl⟩) hS ?_
        simp only [List.setIfInBounds_toArray, List.set_cons_succ, List.set_cons_zero]
        refine held_take (i := 14) (t := 97) (v := undef) (fuel := 3) rfl rfl (by kernel_rfl) (by kernel_rfl) (by kernel_rfl) (fun _ _ _ h => h) (.inr ⟨rfl, rfl⟩) hS ?_
        simp only [List.setIfInBounds_toArray, List.set_cons_succ, List.set_cons_zero]
        refine held_take (i := 15) (t := 98) (v := undef) (fuel := 2) rfl rfl (by kernel_rfl) (by kernel_rfl) (by kernel_rfl) (fun _ _ _ h => h) (.inr ⟨rfl, rfl⟩) hS ?_
        simp only [List.setIfInBounds_toArray, List.set_cons_succ, List.set_cons_zero]
        refine held_take (i := 16) (t := 99) (v := (.bool true)) (fuel := 1) rfl rfl (by kernel_rfl) (by kernel_rfl) (by kernel_rfl) (fun _ _ _ h => h) (.inl ⟨rfl, fun W hW => by obtain ⟨s0, s1⟩ := hW; simp [execOp, Act.eval, go_sem, s0, s1]⟩) hS ?_
        simp only [List.setIfInBounds_toArray, List.set_cons_succ, List.set_cons_zero]
        refine held_take (i := 17) (t := 82) (v := (.bool true)) (fuel := 0) rfl rfl (by kernel_rfl) (by kernel_rfl) (by kernel_rfl) (fun _ _ _ h => h) (.inl ⟨rfl, fun W hW => by obtain ⟨s0, s1⟩ := hW; simp [execOp, Act.eval, go_sem, s0, s1]⟩) hS ?_
        simp only [List.setIfInBounds_toArray, List.set_cons_succ, List.set_cons_zero]
        refine wpAnyH_done (by kernel_rfl) ?_ 0
        clear hS
        replace HS1 := Lib.hid HS1.out.drew
        go_wp2
        replace HS1 := Lib.hid HS1.out.drew
        have hS := HSK.out wr.drew.drew.drew ((Below.refl w.heap.size wr).drew.drew.drew)
        refine held_begin 15 (fun W => W.cell? ⟨bb, ob + k * 2, none⟩ = some (.string y.k) ∧ W.cell? ⟨bb, ob + k * 2 + 1, none⟩ = some (.string y.v)) rfl (by kernel_rfl) ?_
        refine held_take (i := 0) (t := 100) (v := (.slice A n c)) (fuel := 14) rfl rfl (by kernel_rfl) (by kernel_rfl) (by kernel_rfl) (fun _ _ _ h => h) (.inl ⟨rfl, fun W hW => by obtain ⟨s0, s1⟩ := hW; simp [execOp, Act.eval, go_sem, s0, s1]⟩) hS ?_
        simp only [List.setIfInBounds_toArray, List.set_cons_succ, List.set_cons_zero]
        refine held_take (i := 1) (t := 101) (v := (.slice (some ⟨bb, ob, none⟩) nb cb)) (fuel := 13) rfl rfl (by kernel_rfl) (by kernel_rfl) (by kernel_rfl) (fun _ _ _ h => h) (.inl ⟨rfl, fun W hW => by obtain ⟨s0, s1⟩ := hW; simp [execOp, Act.eval, go_sem, s0, s1]⟩) hS ?_
        simp only [List.setIfInBounds_toArray, List.set_cons_succ, List.set_cons_zero]
        refine held_take (i := 2) (t := 102) (v := (.int .i64 (k : Int))) (fuel := 12) rfl rfl (by kernel_rfl) (by kernel_rfl) (by kernel_rfl) (fun _ _ _ h => h) (.inl ⟨rfl, fun W hW => by obtain ⟨s0, s1⟩ := hW; simp [execOp, Act.eval, go_sem, s0, s1]⟩) hS ?_
        simp only [List.setIfInBounds_toArray, List.set_cons_succ, List.set_cons_zero]
        refine held_take (i := 3) (t := 103) (v := (.pointer (some ⟨bb, ob + k * 2, none⟩))) (fuel := 11) rfl rfl (by kernel_rfl) (by kernel_rfl) (by kernel_rfl) (fun _ _ _ h => h) (.inl ⟨rfl, fun W hW => by obtain ⟨s0, s1⟩ := hW; simp [execOp, Act.eval, go_sem, s0, s1, i3, i4, hkt]⟩) hS ?_
        simp only [List.setIfInBounds_toArray, List.set_cons_succ, List.set_cons_zero]
        refine held_take (i := 4) (t := 104) (v := (.pointer (some ⟨bb, ob + k * 2, none⟩))) (fuel := 10) rfl rfl (by kernel_rfl) (by kernel_rfl) (by kernel_rfl) (fun _ _ _ h => h) (.inl ⟨rfl, fun W hW => by obtain ⟨s0, s1⟩ := hW; simp [execOp, Act.eval, go_sem, s0, s1]⟩) hS ?_
        simp only [List.setIfInBounds_toArray, List.set_cons_succ, List.set_cons_zero]
        refine held_take (i := 5) (t := 105) (v := (.string y.k)) (fuel := 9) rfl rfl (by kernel_rfl) (by kernel_rfl) (by kernel_rfl) (fun _ _ _ h => h) (.inl ⟨rfl, fun W hW => by obtain ⟨s0, s1⟩ := hW; simp [execOp, Act.eval, go_sem, s0, s1]⟩) hS ?_
        simp only [List.setIfInBounds_toArray, List.set_cons_succ, List.set_cons_zero]
        refine held_take (i := 6) (t := 106) (v := (.slice (some ⟨bb, ob, none⟩) nb cb)) (fuel := 8) rfl rfl (by kernel_rfl) (by kernel_rfl) (by kernel_rfl) (fun _ _ _ h => h) (.inl ⟨rfl, fun W hW => by obtain ⟨s0, s1⟩ := hW; simp [execOp, Act.eval, go_sem, s0, s1]⟩) hS ?_
        simp only [List.setIfInBounds_toArray, List.set_cons_succ, List.set_cons_zero]
        refine held_take (i := 7) (t := 107) (v := (.int .i64 (k : Int))) (fuel := 7) rfl rfl (by kernel_rfl) (by kernel_rfl) (by kernel_rfl) (fun _ _ _ h => h) (.inl ⟨rfl, fun W hW => by obtain ⟨s0, s1⟩ := hW; simp [execOp, Act.eval, go_sem, s0, s1]⟩) hS ?_
        simp only [List.setIfInBounds_toArray, List.set_cons_succ, List.set_cons_zero]
        refine held_take (i := 8) (t := 108) (v := (.pointer (some ⟨bb, ob + k * 2, none⟩))) (fuel := 6) rfl rfl (by kernel_rfl) (by kernel_rfl) (by kernel_rfl) (fun _ _ _ h => h) (.inl ⟨rfl, fun W hW => by obtain ⟨s0, s1⟩ := hW; simp [execOp, Act.eval, go_sem, s0, s1, i3, i4, hkt]⟩) hS ?_
        simp only [List.setIfInBounds_toArray, List.set_cons_succ, List.set_cons_zero]
        refine held_take (i := 9) (t := 109) (v := (.pointer (some ⟨bb, ob + k * 2 + 1, none⟩))) (fuel := 5) rfl rfl (by kernel_rfl) (by kernel_rfl) (by kernel_rfl) (fun _ _ _ h => h) (.inl ⟨rfl, fun W hW => by obtain ⟨s0, s1⟩ := hW; simp [execOp, Act.eval, go_sem, s0, s1]⟩) hS ?_
        simp only [List.setIfInBounds_toArray, List.set_cons_succ, List.set_cons_zero]
        refine held_take (i := 10) (t := 110) (v := (.string y.v)) (fuel := 4) rfl rfl (by kernel_rfl) (by kernel_rfl) (by kernel_rfl) (fun _ _ _ h => h) (.inl ⟨rfl, fun W hW => by obtain ⟨s0, s1⟩ := hW; simp [execOp, Act.eval, go_sem, s0, s1]⟩) hS ?_
        simp only [List.setIfInBounds_toArray, List.set_cons_succ, List.set_cons_zero]
        refine held_take (i := 11) (t := 111) (v := (.agg #[.string y.k, .string y.v, .bool false])) (fuel := 3) rfl rfl (by kernel_rfl) (by kernel_rfl) (by kernel_rfl) (fun _ _ _ h => h) (.inl ⟨rfl, fun W hW => by obtain ⟨s0, s1⟩ := hW; simp [execOp, Act.eval, go_sem, s0, s1]⟩) hS ?_
        simp only [List.setIfInBounds_toArray, List.set_cons_succ, List.set_cons_zero]
        refine held_call (i := 12) rfl (by kernel_rfl) (by kernel_rfl) ?_
        simp [Oper.wp, execOp, Act.eval, Act.put, go_sem]
        have hS2 := HSK.out _ (((Below.refl w.heap.size wr).drew.drew.drew).alloc HS1.out.bel.size (.cells #[.string y.k, .string y.v, .bool false] 52))
        refine ⟨hS2, ?_⟩
        clear hS hS2
        try simp only [List.setIfInBounds_toArray, List.set_cons_succ, List.set_cons_zero]
        refine held_call (i := 13) rfl (by kernel_rfl) (by kernel_rfl) ?_
        refine op_append_items Try.underlying44 infoChange rfl (by decide) kc_len kc_one _ _ _ rfl w.heap.size A n c o rfl [⟨y.k, y.v, false⟩] 1 rfl (own_below HS1.out.own ((Below.refl _ _).alloc (Nat.le_refl _) _)) (by have := HS1.out.bel.size; simp at this ⊢; omega) ⟨wr.drew.drew.drew.heap.size, 0, none⟩ 1 rfl (new_cells wr.drew.drew.drew [.string y.k, .string y.v, .bool false] _) (by have := HN.out; unfold limT at this; omega) (by have := HN.out; unfold limT at this; unfold maxLen; omega) ?_
        intro A3 c3 w3 ho3 hb3
        have hb4 := ((Below.refl w.heap.size wr.drew.drew.drew).alloc HS1.out.bel.size (.cells #[.string y.k, .string y.v, .bool false] 52)).trans hb3
        have HS3 := Lib.hid (HS1.out.more hb4 ho3)
        have hS := HSK.out _ ((((Below.refl w.heap.size wr).drew.drew.drew).alloc HS1.out.bel.size (.cells #[.string y.k, .string y.v, .bool false] 52)).trans hb3)
        refine ⟨hS, ?_⟩
        clear ho3 hb3 hb4
        try simp only [List.setIfInBounds_toArray, List.set_cons_succ, List.set_cons_zero]
        refine held_call (i := 14) rfl (by kernel_rfl) (by kernel_rfl) ?_
        simp [Oper.wp, execOp, Act.eval, Act.put, go_sem]
        refine ⟨hS, ?_⟩
        clear hS
        try simp only [List.setIfInBounds_toArray, List.set_cons_succ, List.set_cons_zero]
        refine wpAnyH_done (by kernel_rfl) ?_ 0
        go_wp2
        go_roundw
        case rel => exact ⟨_, _, _, _, i, k + 1, rfl, by go_num, by go_num, by omega, by omega, Lib.hid (by have := HNO.out; omega), HI2, HS3⟩
        case measure => simp [intOf]; omega

      · have hkl : b.length ≤ k := by rw [← HLB.out]; omega
        have HD := Lib.hid (HI.out.done hil hkl)
        clear hil hkl
        rw [← HD.out] at HS1
        go_wp2
        go_ret
        exact HS1.out.post
end Go.Proofs.Ytmeoednndfgffaa
