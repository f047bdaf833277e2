/- source: plans behind one another, plainly; logs that are filled. -/
import Derived.Test.YtkcnmajjfljilaaGreatDoorSoRd
import Derived.Test.YtkcnmajjfljilaaGreatDoorSoFO
namespace Go.Proofs.YtkcnmajjfljilaaGreatDoor
open Go Go.ChangeShapes Go.WideShapes Go.ChangeAt Go.RowKit
set_option linter.unusedVariables false
set_option linter.unusedSimpArgs false

/-- Records that come one by one, each partition's in order. -/
def Seqs (N : Nat) : List Int → List (Nat × Nat) → List Int → Prop
  | nx, [], fin => nx = fin
  | nx, x :: t, fin => x.1 < N ∧ nx[x.1]? = some (x.2 : Int) ∧ Seqs N (nx.set x.1 ((x.2 : Int) + 1)) t fin
theorem Seqs.append {N : Nat} : ∀ {a b c : List Int} {s t : List (Nat × Nat)}, Seqs N a s b → Seqs N b t c → Seqs N a (s ++ t) c
  | a, b, c, [], t, h1, h2 => by
    have : a = b := h1
    subst this; exact h2
  | a, b, c, x :: s, t, h1, h2 => ⟨h1.1, h1.2.1, Seqs.append h1.2.2 h2⟩
theorem seqs_part {N k f : Nat} (hk : k < N) {nx : List Int} (hn : k < nx.length) (h : nx[k]? = some (f : Int)) : ∀ n : Nat, Seqs N nx (keysK k f (f + n)) (nx.set k ((f + n : Nat) : Int))
  | 0 => by
    rw [Nat.add_zero, keysK_zero]
    show nx = nx.set k (f : Int)
    obtain ⟨h1, h2⟩ := List.getElem?_eq_some_iff.1 h
    rw [← h2]
    exact (List.set_getElem_self h1).symm
  | n + 1 => by
    rw [keysK_succ]
    refine (seqs_part hk hn h n).append ?_
    refine ⟨hk, by rw [List.getElem?_set_self hn], ?_⟩
    show (nx.set k ((f + n : Nat) : Int)).set k (((f + n : Nat) : Int) + 1) = nx.set k ((f + (n + 1) : Nat) : Int)
    rw [List.set_set]
    congr 1
def nxTo (nx : List Int) (l : List Rg) : Nat → List Int
  | 0 => nx
  | k + 1 => (nxTo nx l k).set k ((l.getD k ⟨0, 0⟩).t)
theorem nxTo_length (nx : List Int) (l : List Rg) : ∀ k, (nxTo nx l k).length = nx.length
  | 0 => rfl
  | k + 1 => by show ((nxTo nx l k).set k _).length = _; rw [List.length_set, nxTo_length nx l k]
theorem nxTo_other (nx : List Int) (l : List Rg) : ∀ (k j : Nat), k ≤ j → (nxTo nx l k)[j]? = nx[j]?
  | 0, _, _ => rfl
  | k + 1, j, h => by
    show ((nxTo nx l k).set k _)[j]? = _
    rw [List.getElem?_set_ne (by omega), nxTo_other nx l k j (by omega)]
theorem nxTo_at {nx : List Int} {l : List Rg} (hn : l.length ≤ nx.length) : ∀ (k j : Nat), k ≤ l.length → ∀ hj : j < l.length, j < k → (nxTo nx l k)[j]? = some l[j].t
  | 0, _, _, _, h => by omega
  | k + 1, j, hk, hj, h => by
    show ((nxTo nx l k).set k _)[j]? = _
    by_cases e : j = k
    · subst e
      rw [List.getElem?_set_self (by rw [nxTo_length]; omega)]
      simp [List.getD, hj]
    · rw [List.getElem?_set_ne (by omega)]
      exact nxTo_at hn k j (by omega) hj (by omega)
section
variable {ps : List Pt} {l : List Rg} {most : Int}
theorem seqs_all (hw : Wasok ps l) {nx : List Int} (hn : l.length ≤ nx.length) (hx : ∀ k (h : k < l.length), nx[k]? = some l[k].f) : ∀ k, k ≤ l.length → Seqs l.length nx (keysTo l k) (nxTo nx l k)
  | 0, _ => rfl
  | k + 1, hk => by
    obtain ⟨f, t, h1, h2, h3⟩ := hw.nat (k := k) (by omega)
    rw [keysTo_succ (by omega) h1 h2]
    refine (seqs_all hw hn hx k (by omega)).append ?_
    have h4 := seqs_part (N := l.length) (k := k) (f := f) (by omega) (nx := nxTo nx l k) (by rw [nxTo_length]; omega) (by rw [nxTo_other nx l k k (Nat.le_refl _), hx k (by omega), h1]) (t - f)
    rw [show f + (t - f) = t by omega] at h4
    have e : nxTo nx l (k + 1) = (nxTo nx l k).set k ((t : Nat) : Int) := by
      show (nxTo nx l k).set k _ = _
      congr 1
      rw [← h2]; simp [List.getD, show k < l.length by omega]
    rw [e]; exact h4
/-- All that lasts is few. -/
def Few (ps : List Pt) : Prop := ∀ k (h : k < ps.length), ps[k].dur ≤ 16000
theorem Wasok.plan (h : Wasok ps l) (hf : Few ps) : Wasok ps (planL ps l most) ∧ folB l (planL ps l most) = true := by
  have hlen := h.len
  have hpl := planL_length (most := most) hlen
  have hpn := planN_length (most := most) hlen
  have hp := right_parts h.right
  have key : ∀ k (hk : k < (planL ps l most).length) (hk2 : k < l.length), (planL ps l most)[k].f = l[k].t ∧ l[k].t ≤ (planL ps l most)[k].t ∧ (planL ps l most)[k].t ≤ (ps[k]'(by omega)).dur := by
    intro k hk hk2
    have hk3 : k < ps.length := by omega
    have hk4 : k < (planN ps l most).length := by omega
    have e := planL_at hlen hk3 hk2 hk4 hk
    have h1 := planN_in (most := most) hlen hk3 hk2 hk4
    have h2 := h.le k hk2 hk3
    rw [e]
    exact ⟨rfl, by show l[k].t ≤ l[k].t + _; omega, by show l[k].t + _ ≤ _; omega⟩
  have hr : rightB (planL ps l most) = true := right_of (by omega) (by omega) fun r hr => by
    obtain ⟨k, hk, rfl⟩ := List.getElem_of_mem hr
    have hk2 : k < l.length := by omega
    obtain ⟨k1, k2, k3⟩ := key k hk hk2
    have h4 := h.at_ hk2
    have h5 := hf k (by omega)
    exact (okB_iff _).2 (by omega)
  exact ⟨⟨hr, by omega, fun k hk hk2 => (key k hk (by omega)).2.2⟩, fol_iff.2 ⟨h.right, hr, by omega, fun j hj hj2 => (key j hj2 hj).1.symm⟩⟩
theorem plan_f (h : Wasok ps l) {k : Nat} (hk : k < (planL ps l most).length) (hk2 : k < l.length) : (planL ps l most)[k].f = l[k].t := by
  have hlen := h.len
  have hpl := planL_length (most := most) hlen
  have hpn := planN_length (most := most) hlen
  rw [planL_at hlen (by omega) hk2 (by omega) hk]
theorem keysTo_plan (h : Wasok ps l) (h2 : Wasok ps (planL ps l most)) : ∀ k, k ≤ l.length → ((keysTo (planL ps l most) k).length : Int) = ((planN ps l most).take k).sum
  | 0, _ => by simp [keysTo]
  | k + 1, hk => by
    have hlen := h.len
    have hpl := planL_length (most := most) hlen
    have hpn := planN_length (most := most) hlen
    obtain ⟨f, t, e1, e2, e3⟩ := h2.nat (k := k) (by omega)
    rw [keysTo_succ (by omega) e1 e2, List.length_append, sum_take (L := planN ps l most) (k := k) (by omega)]
    have := keysTo_plan h h2 k (by omega)
    have e4 := planL_at (most := most) hlen (k := k) (by omega) (by omega) (by omega) (by omega)
    rw [e4] at e1 e2
    have e5 : l[k].t = (f : Int) := e1
    have e6 : l[k].t + (planN ps l most)[k] = (t : Int) := e2
    have e7 : (keysK k f t).length = t - f := by simp [keysK]
    omega
theorem posS_sub : ∀ {a b d : List Int}, a.length = d.length → b.length = d.length → (∀ k (h1 : k < a.length) (h2 : k < b.length) (h3 : k < d.length), b[k] = a[k] - d[k] ∧ 0 ≤ a[k] ∧ 0 ≤ b[k]) → posS b = posS a - d.sum
  | [], [], [], _, _, _ => by simp [posS]
  | [], _ :: _, d, h1, h2, _ => by simp at h1 h2; omega
  | _ :: _, [], d, h1, h2, _ => by simp at h1 h2; omega
  | x :: a, y :: b, z :: d, h1, h2, h => by
    have h0 := h 0 (by simp) (by simp) (by simp)
    simp only [List.getElem_cons_zero] at h0
    have := posS_sub (a := a) (b := b) (d := d) (by simpa using h1) (by simpa using h2) (fun k k1 k2 k3 => by
      have := h (k + 1) (by simpa using k1) (by simpa using k2) (by simpa using k3)
      simpa using this)
    rw [posS_cons, posS_cons, List.sum_cons, this]
    omega
/-- What is left to take. -/
def remS (ps : List Pt) (l : List Rg) : Int := posS (heapsL ps l)
theorem rem_plan (h : Wasok ps l) (h2 : Wasok ps (planL ps l most)) : remS ps (planL ps l most) = remS ps l - (planN ps l most).sum := by
  have hlen := h.len
  have hpl := planL_length (most := most) hlen
  have hpn := planN_length (most := most) hlen
  refine posS_sub (by rw [heapsL_length hlen, hpn]) (by rw [heapsL_length hpl, hpn]) (fun k k1 k2 k3 => ?_)
  have hk : k < ps.length := by omega
  rw [heapsL_at hk (by omega) k1, heapsL_at hk (by omega) k2, planL_at hlen hk (by omega) k3 (by omega)]
  have := planN_in (most := most) hlen hk (by omega) k3
  have h3 := h.le k (by omega) hk
  show ps[k].dur - (l[k].t + (planN ps l most)[k]) = _ ∧ _ ∧ 0 ≤ ps[k].dur - (l[k].t + (planN ps l most)[k])
  omega
theorem planN_sum : (planN ps l most).sum = min (remS ps l) (max most 0) := (rfit (heapsL ps l) most).sum
theorem rem_zero (h : Wasok ps l) (h0 : remS ps l = 0) : ∀ k (h1 : k < l.length) (h2 : k < ps.length), l[k].t = ps[k].dur := by
  have key : ∀ {a : List Int}, (∀ x ∈ a, 0 ≤ x) → posS a = 0 → ∀ x ∈ a, x = 0 := by
    intro a
    induction a with
    | nil => intro _ _ x hx; cases hx
    | cons y t ih =>
      intro h1 h2 x hx
      rw [posS_cons] at h2
      have h3 := h1 y (List.mem_cons_self ..)
      have h4 : 0 ≤ posS t := by
        have : ∀ b : List Int, 0 ≤ posS b := by
          intro b
          induction b with
          | nil => simp [posS]
          | cons z u ih => rw [posS_cons]; omega
        exact this t
      rcases List.mem_cons.1 hx with rfl | hx
      · omega
      · exact ih (fun z hz => h1 z (List.mem_cons_of_mem _ hz)) (by omega) x hx
  intro k h1 h2
  have hh : k < (heapsL ps l).length := by rw [heapsL_length h.len]; exact h2
  have e := heapsL_at h2 h1 hh
  have hx : ∀ x ∈ heapsL ps l, 0 ≤ x := fun x hx => by
    obtain ⟨j, hj, rfl⟩ := List.getElem_of_mem hx
    have hj2 : j < ps.length := by rw [heapsL_length h.len] at hj; exact hj
    have hj3 : j < l.length := by rw [h.len]; exact hj2
    rw [heapsL_at hj2 hj3 hj]
    have := h.le j hj3 hj2
    omega
  have := key hx h0 _ (List.getElem_mem hh)
  omega
end
/-! ### logs that are filled -/
def recL (k n : Nat) : List (List UInt8) := (List.range n).map fun i => [UInt8.ofNat k, UInt8.ofNat i]
theorem recL_length (k n : Nat) : (recL k n).length = n := by simp [recL]
theorem recL_succ (k n : Nat) : recL k (n + 1) = recL k n ++ [[UInt8.ofNat k, UInt8.ofNat n]] := by simp [recL, List.range_succ]
theorem recL_at {k n a : Nat} {b : List UInt8} (h : (recL k n)[a]? = some b) : b = [UInt8.ofNat k, UInt8.ofNat a] ∧ a < n := by
  have ha := (List.getElem?_eq_some_iff.1 h).1
  rw [recL_length] at ha
  simp [recL, ha] at h
  exact ⟨h.symm, ha⟩
theorem apF_le (size : Int) (fs : List Nat) (rs : List (List UInt8)) : (apF size fs rs).length ≤ fs.length + 1 := by
  unfold apF
  split
  · simp
  · omega
/-- The first partitions are filled, the k-th has i records. -/
structure Fil (ps : List Pt) (N : Nat) (cN : Nat → Nat) (k i : Nat) : Prop where
  len : ps.length = N
  rs : ∀ j (h : j < ps.length), ps[j].rs = recL j (if j < k then cN j else if j = k then i else 0)
  dur : ∀ j (h : j < ps.length), j ≠ k ∨ i = 0 → ps[j].dur = ps[j].rs.length
  small : ∀ j (h : j < ps.length), ps[j].cnt ≤ ps[j].rs.length ∧ ps[j].fs.length ≤ ps[j].rs.length
section
variable {ps : List Pt} {N k i : Nat} {cN : Nat → Nat}
theorem Fil.at_ (h : Fil ps N cN k i) (hk : k < ps.length) : ps[k].rs = recL k i ∧ ps[k].rs.length = i := by
  have := h.rs k hk
  rw [if_neg (by omega), if_pos rfl] at this
  exact ⟨this, by rw [this, recL_length]⟩
theorem Fil.start (hl : ps.length = N) (hn : ∀ k (h : k < ps.length), ps[k] = newP ps[k].l) : Fil ps N cN 0 0 := by
  refine ⟨hl, fun j hj => ?_, fun j hj _ => ?_, fun j hj => ?_⟩
  · rw [hn j hj, if_neg (by omega)]
    have : (if j = 0 then 0 else 0) = 0 := by split <;> rfl
    rw [this]; rfl
  · rw [hn j hj]; rfl
  · rw [hn j hj]; exact ⟨Nat.le_refl _, Nat.le_refl _⟩
theorem Fil.append (h : Fil ps N cN k i) (hk : k < ps.length) (size : Int) : Fil (ps.set k (apP size ps[k] [UInt8.ofNat k, UInt8.ofNat i])) N cN k (i + 1) := by
  obtain ⟨h1, h2⟩ := h.at_ hk
  refine ⟨by rw [List.length_set]; exact h.len, fun j hj => ?_, fun j hj hd => ?_, fun j hj => ?_⟩
  · rw [List.getElem_set]
    by_cases e : k = j
    · subst e
      rw [if_pos rfl, if_neg (by omega), if_pos rfl, recL_succ]
      show ps[k].rs ++ _ = _
      rw [h1]
    · rw [if_neg e, h.rs j (by rw [List.length_set] at hj; exact hj)]
      rw [if_neg (show ¬ j = k by omega), if_neg (show ¬ j = k by omega)]
  · have e : k ≠ j := by omega
    simp only [List.getElem_set, if_neg e]
    exact h.dur j _ (.inl (by omega))
  · rw [List.getElem_set]
    by_cases e : k = j
    · subst e
      rw [if_pos rfl]
      have h3 := h.small k hk
      have h4 := apF_le size ps[k].fs ps[k].rs
      show ps[k].cnt + 1 ≤ (ps[k].rs ++ [_]).length ∧ (apF size ps[k].fs ps[k].rs).length ≤ (ps[k].rs ++ [_]).length
      rw [List.length_append, List.length_singleton]
      omega
    · rw [if_neg e]
      exact h.small j _
theorem Fil.sync (h : Fil ps N cN k i) (hk : k < ps.length) (hi : i = cN k) : Fil (ps.set k (syP ps[k])) N cN (k + 1) 0 := by
  subst hi
  obtain ⟨h1, h2⟩ := h.at_ hk
  refine ⟨by rw [List.length_set]; exact h.len, fun j hj => ?_, fun j hj hd => ?_, fun j hj => ?_⟩
  · rw [List.getElem_set]
    by_cases e : k = j
    · subst e
      rw [if_pos rfl, if_pos (by omega)]
      exact h1
    · rw [if_neg e, h.rs j (by rw [List.length_set] at hj; exact hj)]
      congr 1
      by_cases e2 : j < k
      · rw [if_pos e2, if_pos (by omega)]
      · rw [if_neg e2, if_neg (by omega), if_neg (by omega)]
        split <;> rfl
  · rw [List.getElem_set]
    by_cases e : k = j
    · subst e; rw [if_pos rfl]; rfl
    · rw [if_neg e]
      exact h.dur j _ (.inl (by omega))
  · rw [List.getElem_set]
    by_cases e : k = j
    · subst e; rw [if_pos rfl]; exact h.small k hk
    · rw [if_neg e]; exact h.small j _
/-- All are filled. -/
structure Full (ps : List Pt) (N : Nat) (cN : Nat → Nat) : Prop where
  len : ps.length = N
  rs : ∀ j (h : j < ps.length), ps[j].rs = recL j (cN j)
  dur : ∀ j (h : j < ps.length), ps[j].dur = (cN j : Int)
theorem Fil.full (h : Fil ps N cN k 0) (hz : ∀ j, k ≤ j → j < N → cN j = 0) : Full ps N cN := by
  have hr : ∀ j (hj : j < ps.length), ps[j].rs = recL j (cN j) := fun j hj => by
    rw [h.rs j hj]
    congr 1
    by_cases e : j < k
    · rw [if_pos e]
    · rw [if_neg e, hz j (by omega) (by rw [← h.len]; exact hj)]
      split <;> rfl
  exact ⟨h.len, hr, fun j hj => by rw [h.dur j hj (.inr rfl), hr j hj, recL_length]⟩
end
end Go.Proofs.YtkcnmajjfljilaaGreatDoor
