/- Layer 15, plainly: adding in whatever order. -/
import Derived.Test.YtihgcfokenabgaaAgI
namespace Go.Proofs.Ytihgcfokenabgaa
open Go Go.ChangeShapes Go.WideShapes Go.ChangeAt Go.RowKit
set_option linter.unusedVariables false
set_option linter.unusedSimpArgs false
/-- May it be added? -/
def goodV (k : Int) (v : V) : Prop := chk v = 0 ∧ ¬ (k = 3 ∧ 1 < v.k)
instance (k : Int) (v : V) : Decidable (goodV k v) := inferInstanceAs (Decidable (_ ∧ _))
/-- What is counted of it. -/
def pickV (k : Int) (v : V) : List V := if goodV k v ∧ cntd k v = true then [v] else []
def picks (k : Int) (l : List V) : List V := l.flatMap (pickV k)
theorem add_good {k : Int} (hk : okA k = true) {a : Ac} {v : V} (hg : goodV k v) : addA k a v = (if cntd k v = true then stepA k a v else a, 0) := by
  unfold addA
  rw [if_neg (by simp [hk]), if_neg (by rintro (h | h); exact h hg.1; exact hg.2 h)]
  by_cases hc : cntd k v = true
  · rw [if_neg (by simp [hc]), if_pos hc]
  · rw [if_pos (by simpa using hc), if_neg hc]
theorem Kept.add {k : Int} (hk : okA k = true) {l : List V} {a : Ac} (h : Kept k l a) {v : V} (hg : goodV k v) (hs : (l.length : Int) + 1 ≤ 1000) : Kept k (l ++ pickV k v) (addA k a v).1 := by
  rw [add_good hk hg]
  unfold pickV
  by_cases hc : cntd k v = true
  · rw [if_pos hc, if_pos ⟨hg, hc⟩]
    exact h.step v hk hs
  · rw [if_neg hc, if_neg (fun h => hc h.2), List.append_nil]
    exact h
theorem picks_app (k : Int) (l m : List V) : picks k (l ++ m) = picks k l ++ picks k m := by unfold picks; rw [List.flatMap_append]
theorem picks_one (k : Int) (v : V) : picks k [v] = pickV k v := by simp [picks]
theorem picks_len (k : Int) (l : List V) : (picks k l).length ≤ l.length := by
  induction l with
  | nil => exact Nat.le_refl _
  | cons v l ih =>
    show (pickV k v ++ picks k l).length ≤ _
    rw [List.length_append, List.length_cons]
    have : (pickV k v).length ≤ 1 := by unfold pickV; split <;> simp
    omega
theorem pick_bad {k : Int} {v : V} (h : ¬ goodV k v) : pickV k v = [] := by unfold pickV; rw [if_neg (fun h2 => h h2.1)]
theorem picks_mem {k : Int} {l : List V} {v : V} (h : v ∈ picks k l) : v ∈ l := by
  unfold picks at h
  rw [List.mem_flatMap] at h
  obtain ⟨u, hu, hv⟩ := h
  unfold pickV at hv
  split at hv
  · rw [List.mem_singleton] at hv; subst hv; exact hu
  · cases hv
theorem take_next {l : List V} {i : Nat} (h : i < l.length) : l.take (i + 1) = l.take i ++ [l[i]] := (List.take_append_getElem h).symm
theorem addA_wf {k : Int} {a : Ac} {v : V} (ha : a.b.wf) (hv : v.wf) : (addA k a v).1.b.wf := by
  unfold addA
  have hz : zeroA.b.wf := ⟨by unfold zeroA nulA in64; dsimp only; omega, by unfold zeroA nulA in64; dsimp only; omega, by decide⟩
  split
  · exact hz
  · split
    · exact hz
    · split
      · exact ha
      · unfold stepA; dsimp only; split
        · exact hv
        · exact ha
theorem sum_bd : ∀ (l : List Int), (∀ x ∈ l, In64 x) → -((l.length : Int) * 9223372036854775808) ≤ l.foldr (· + ·) 0 ∧ l.foldr (· + ·) 0 ≤ (l.length : Int) * 9223372036854775808
  | [], _ => by simp
  | x :: l, h => by
    have h1 := sum_bd l (fun y hy => h y (List.mem_cons_of_mem _ hy))
    have h2 := h x (List.mem_cons_self ..)
    unfold In64 at h2
    rw [List.foldr_cons, List.length_cons]
    rw [show ((l.length + 1 : Nat) : Int) * 9223372036854775808 = (l.length : Int) * 9223372036854775808 + 9223372036854775808 by omega]
    omega
theorem Kept.in128 {k : Int} {l : List V} {a : Ac} (h : Kept k l a) (hw : ∀ v ∈ l, v.wf) (hl : l.length ≤ 1000) : In128 a.x := by
  rw [h.x]
  unfold In128
  split
  · have h1 := sum_bd (l.map V.n) (by
      intro x hx
      rw [List.mem_map] at hx
      obtain ⟨v, hv, rfl⟩ := hx
      exact (hw v hv).2.1)
    rw [List.length_map] at h1
    omega
  · omega
theorem worth_ok {k : Int} (hk : okA k = true) (a : Ac) : (worthA k a).2 = 0 := by
  rw [okA_iff] at hk
  unfold worthA
  split
  · rfl
  · split
    · rfl
    · split
      · rfl
      · omega
/-- Behind i of them: what three keep. -/
structure Ord1 (k : Int) (l : List V) (i : Nat) (a b c : Ac) : Prop where
  ka : Kept k (picks k (l.take i)) a
  bc : ∃ lb lc, Kept k lb b ∧ Kept k lc c ∧ (lb ++ lc).Perm (picks k (l.take i))
  wa : a.b.wf
  wb : b.b.wf
  wc : c.b.wf
theorem zero_wf : zeroA.b.wf := ⟨by unfold zeroA nulA in64; dsimp only; omega, by unfold zeroA nulA in64; dsimp only; omega, by decide⟩
theorem Ord1.nil (k : Int) (l : List V) : Ord1 k l 0 zeroA zeroA zeroA :=
  ⟨by rw [List.take_zero]; exact Kept.nil k, ⟨[], [], Kept.nil k, Kept.nil k, by rw [List.take_zero]; exact List.Perm.refl _⟩, zero_wf, zero_wf, zero_wf⟩
section
variable {k : Int} {l : List V} {i : Nat} {a b c : Ac}
theorem Ord1.bad (h : Ord1 k l i a b c) (hi : i < l.length) (hb : ¬ goodV k l[i]) : Ord1 k l (i + 1) a b c := by
  have e : picks k (l.take (i + 1)) = picks k (l.take i) := by rw [take_next hi, picks_app, picks_one, pick_bad hb, List.append_nil]
  exact ⟨by rw [e]; exact h.ka, by rw [e]; exact h.bc, h.wa, h.wb, h.wc⟩
theorem Ord1.left (hk : okA k = true) (h : Ord1 k l i a b c) (hi : i < l.length) (h200 : i < 200) (hg : goodV k l[i]) (hw : l[i].wf) : Ord1 k l (i + 1) (addA k a l[i]).1 (addA k b l[i]).1 c := by
  have e : picks k (l.take (i + 1)) = picks k (l.take i) ++ pickV k l[i] := by rw [take_next hi, picks_app, picks_one]
  have hlen : (picks k (l.take i)).length ≤ 200 := by have := picks_len k (l.take i); rw [List.length_take] at this; omega
  obtain ⟨lb, lc, hb, hc, hp⟩ := h.bc
  have hpl := hp.length_eq
  rw [List.length_append] at hpl
  refine ⟨by rw [e]; exact h.ka.add hk hg (by omega), ⟨lb ++ pickV k l[i], lc, hb.add hk hg (by omega), hc, ?_⟩, addA_wf h.wa hw, addA_wf h.wb hw, h.wc⟩
  rw [e, List.append_assoc]
  refine (List.Perm.append_left lb List.perm_append_comm).trans ?_
  rw [← List.append_assoc]
  exact hp.append_right _
theorem Ord1.right (hk : okA k = true) (h : Ord1 k l i a b c) (hi : i < l.length) (h200 : i < 200) (hg : goodV k l[i]) (hw : l[i].wf) : Ord1 k l (i + 1) (addA k a l[i]).1 b (addA k c l[i]).1 := by
  have e : picks k (l.take (i + 1)) = picks k (l.take i) ++ pickV k l[i] := by rw [take_next hi, picks_app, picks_one]
  have hlen : (picks k (l.take i)).length ≤ 200 := by have := picks_len k (l.take i); rw [List.length_take] at this; omega
  obtain ⟨lb, lc, hb, hc, hp⟩ := h.bc
  have hpl := hp.length_eq
  rw [List.length_append] at hpl
  refine ⟨by rw [e]; exact h.ka.add hk hg (by omega), ⟨lb, lc ++ pickV k l[i], hb, hc.add hk hg (by omega), ?_⟩, addA_wf h.wa hw, h.wb, addA_wf h.wc hw⟩
  rw [e, ← List.append_assoc]
  exact hp.append_right _
end
/-- Backwards, behind those from j on: what one keeps. -/
structure Ord2 (k : Int) (l : List V) (m j : Nat) (d : Ac) : Prop where
  kd : ∃ ld, Kept k ld d ∧ ld.Perm (picks k ((l.take m).drop j))
  wd : d.b.wf
theorem Ord2.nil (k : Int) (l : List V) (m : Nat) : Ord2 k l m m zeroA :=
  ⟨⟨[], Kept.nil k, by rw [List.drop_of_length_le (by rw [List.length_take]; omega)]; exact List.Perm.refl _⟩, zero_wf⟩
section
variable {k : Int} {l : List V} {m j : Nat} {d : Ac}
theorem drop_next (hm : m ≤ l.length) (hj : j < m) : (l.take m).drop j = l[j]'(by omega) :: (l.take m).drop (j + 1) := by
  rw [List.drop_eq_getElem_cons (by rw [List.length_take]; omega), List.getElem_take]
theorem Ord2.bad (h : Ord2 k l m (j + 1) d) (hm : m ≤ l.length) (hj : j < m) (hb : ¬ goodV k (l[j]'(by omega))) : Ord2 k l m j d := by
  obtain ⟨ld, h1, h2⟩ := h.kd
  refine ⟨⟨ld, h1, ?_⟩, h.wd⟩
  rw [drop_next hm hj]
  show ld.Perm (pickV k _ ++ picks k _)
  rw [pick_bad hb, List.nil_append]
  exact h2
theorem Ord2.good (hk : okA k = true) (h : Ord2 k l m (j + 1) d) (hm : m ≤ l.length) (h200 : m ≤ 200) (hj : j < m) (hg : goodV k (l[j]'(by omega))) (hw : (l[j]'(by omega)).wf) : Ord2 k l m j (addA k d (l[j]'(by omega))).1 := by
  obtain ⟨ld, h1, h2⟩ := h.kd
  have hlen : ld.length ≤ 200 := by
    rw [h2.length_eq]
    have := picks_len k ((l.take m).drop (j + 1))
    rw [List.length_drop, List.length_take] at this
    omega
  refine ⟨⟨_, h1.add hk hg (by omega), ?_⟩, addA_wf h.wd hw⟩
  rw [drop_next hm hj]
  show (ld ++ _).Perm (pickV k _ ++ picks k _)
  exact List.perm_append_comm.trans (h2.append_left _)
end
/-- All come to the same. -/
theorem ord_same {k : Int} (hk : okA k = true) {l : List V} (hw : ∀ v ∈ l, v.wf) {m : Nat} (hm : m ≤ 200) {a b c d : Ac} (h1 : Ord1 k l m a b c) (h2 : Ord2 k l m 0 d) : d = a ∧ bothA k b c = (a, 0) ∧ bothA k c b = (a, 0) ∧ In128 a.x := by
  have hlen : (picks k (l.take m)).length ≤ 200 := by have := picks_len k (l.take m); rw [List.length_take] at this; omega
  obtain ⟨ld, hd, hpd⟩ := h2.kd
  rw [List.drop_zero] at hpd
  obtain ⟨lb, lc, hb, hc, hp⟩ := h1.bc
  have hpl := hp.length_eq
  rw [List.length_append] at hpl
  have e2 : ∀ x y : Ac, (bothA k x y).2 = 0 := fun x y => by unfold bothA; rw [if_neg (by simp [hk])]
  refine ⟨hd.same h1.ka hpd, Prod.ext ((hb.both hc hk (by omega)).same h1.ka hp) (e2 _ _), Prod.ext ((hc.both hb hk (by omega)).same h1.ka (List.perm_append_comm.trans hp)) (e2 _ _), ?_⟩
  exact h1.ka.in128 (fun v hv => hw v (List.mem_of_mem_take (picks_mem hv))) (by omega)
end Go.Proofs.Ytihgcfokenabgaa
