/- Several texts in one: SoP, SoB, SoSort. -/
import Derived.Test.YtkcnmajjfljilaaGreatDoorProg
import Derived.Test.YtkcnmajjfljilaaGreatDoorFsMem
import Derived.Ground.SlgmProg
import Derived.Shelf.SortM.Plain
import Derived.Shelf.SortM.SortNone
import Derived.Lib.SlKeysI
import Derived.Below
/- source: what is dealt, plainly. -/
namespace Go.Proofs.YtkcnmajjfljilaaGreatDoor
def lv (W h : Int) : Int := max (min h W) 0
def lvl (hs : List Int) (W : Int) : List Int := hs.map (lv W)
def lvS (hs : List Int) (W : Int) : Int := (lvl hs W).sum
def lvC (hs : List Int) (W : Int) : Nat := (hs.filter (fun h => decide (W < h))).length
/-- Whole rounds. -/
def rnds : List Int → Int → Int → Int × Int
  | [], _, whole => (whole, 0)
  | h :: t, most, whole =>
    if h ≤ whole then rnds t most whole
    else if most / ((t.length : Int) + 1) < h - whole then (whole + most / ((t.length : Int) + 1), most % ((t.length : Int) + 1))
    else rnds t (most - (h - whole) * ((t.length : Int) + 1)) h
theorem lvS_nil (W : Int) : lvS [] W = 0 := rfl
theorem lvS_cons (h : Int) (t : List Int) (W : Int) : lvS (h :: t) W = lv W h + lvS t W := by simp [lvS, lvl]
theorem lvC_cons (h : Int) (t : List Int) (W : Int) : lvC (h :: t) W = (if W < h then 1 else 0) + lvC t W := by
  unfold lvC
  by_cases e : W < h
  · simp [e]; omega
  · simp [e]
theorem lvS_flat {W : Int} (hW : 0 ≤ W) : ∀ {l : List Int}, (∀ h ∈ l, W ≤ h) → lvS l W = (l.length : Int) * W
  | [], _ => by simp [lvS_nil]
  | h :: t, hl => by
    have h1 := hl h (List.mem_cons_self ..)
    rw [lvS_cons, lvS_flat hW (fun x hx => hl x (List.mem_cons_of_mem _ hx))]
    have : lv W h = W := by unfold lv; omega
    rw [this, List.length_cons]
    have : ((t.length + 1 : Nat) : Int) * W = (t.length : Int) * W + W := by rw [Int.natCast_add, Int.add_mul]; simp
    omega
theorem lvC_flat {W : Int} : ∀ {l : List Int}, (∀ h ∈ l, W < h) → lvC l W = l.length
  | [], _ => rfl
  | h :: t, hl => by
    have h1 := hl h (List.mem_cons_self ..)
    rw [lvC_cons, lvC_flat (fun x hx => hl x (List.mem_cons_of_mem _ hx)), if_pos h1, List.length_cons]; omega
theorem rnds_fit : ∀ (l : List Int) (most whole : Int), l.Pairwise (· ≤ ·) → 0 ≤ whole → 0 ≤ most →
    whole ≤ (rnds l most whole).1 ∧ 0 ≤ (rnds l most whole).2 ∧
    (((rnds l most whole).2 < (lvC l (rnds l most whole).1 : Int) ∧ lvS l (rnds l most whole).1 - lvS l whole + (rnds l most whole).2 = most) ∨
      ((rnds l most whole).2 = 0 ∧ (∀ h ∈ l, h ≤ (rnds l most whole).1) ∧ lvS l (rnds l most whole).1 - lvS l whole ≤ most))
  | [], most, whole, _, h0, h1 => by simp [rnds, lvS_nil, h1]
  | h :: t, most, whole, hp, h0, h1 => by
    obtain ⟨hp1, hp2⟩ := List.pairwise_cons.1 hp
    have hle : ∀ x ∈ h :: t, h ≤ x := fun x hx => by
      rcases List.mem_cons.1 hx with rfl | hx
      · omega
      · exact hp1 x hx
    unfold rnds
    obtain ⟨n, hn⟩ : ∃ n : Int, n = (t.length : Int) + 1 := ⟨_, rfl⟩
    have hn0 : 0 < n := by omega
    have hnl : (((h :: t).length : Nat) : Int) = n := by rw [List.length_cons, hn]; omega
    rw [← hn]
    by_cases e1 : h ≤ whole
    · rw [if_pos e1]
      obtain ⟨i1, i2, i3⟩ := rnds_fit t most whole hp2 h0 h1
      refine ⟨i1, i2, ?_⟩
      have e : ∀ W, whole ≤ W → lv W h = lv whole h := fun W hW => by unfold lv; omega
      rw [lvS_cons, lvS_cons, lvC_cons, e _ i1, if_neg (by omega)]
      rcases i3 with ⟨i3, i4⟩ | ⟨i3, i4, i5⟩
      · exact .inl ⟨by simpa using i3, by omega⟩
      · refine .inr ⟨i3, fun x hx => ?_, by omega⟩
        rcases List.mem_cons.1 hx with rfl | hx
        · omega
        · exact i4 x hx
    · rw [if_neg e1]
      by_cases e2 : most / n < h - whole
      · rw [if_pos e2]
        have hq : 0 ≤ most / n := Int.ediv_nonneg h1 (by omega)
        have hm := Int.emod_nonneg most (show n ≠ 0 by omega)
        have hm2 := Int.emod_lt_of_pos most hn0
        have hall : ∀ x ∈ h :: t, whole + most / n < x := fun x hx => by have := hle x hx; omega
        refine ⟨by omega, hm, .inl ⟨?_, ?_⟩⟩
        · rw [lvC_flat hall, hnl]; exact hm2
        · show lvS (h :: t) (whole + most / n) - lvS (h :: t) whole + most % n = most
          rw [lvS_flat (by omega) (fun x hx => Int.le_of_lt (hall x hx)), lvS_flat h0 (fun x hx => by have := hle x hx; omega), hnl, Int.mul_add]
          have := Int.mul_ediv_add_emod most n
          omega
      · rw [if_neg e2]
        have hge : (h - whole) * n ≤ most := by
          have h3 : h - whole ≤ most / n := by omega
          exact (Int.le_ediv_iff_mul_le hn0).1 h3
        obtain ⟨i1, i2, i3⟩ := rnds_fit t (most - (h - whole) * n) h hp2 (by omega) (by omega)
        obtain ⟨R, hR⟩ : ∃ R, rnds t (most - (h - whole) * n) h = R := ⟨_, rfl⟩
        rw [hR] at i1 i2 i3 ⊢
        have s1 : lvS (h :: t) R.1 = h + lvS t R.1 := by
          rw [lvS_cons]
          have : lv R.1 h = h := by unfold lv; omega
          omega
        have s2 : lvS (h :: t) whole = n * whole := by rw [lvS_flat h0 (fun x hx => by have := hle x hx; omega), hnl]
        have s3 : lvS t h = n * h - h := by
          rw [lvS_flat (by omega) hp1, hn, Int.add_mul]; omega
        have s4 : (h - whole) * n = n * h - n * whole := by rw [Int.sub_mul, Int.mul_comm h n, Int.mul_comm whole n]
        refine ⟨by omega, i2, ?_⟩
        rw [s1, s2, lvC_cons, if_neg (by omega), Nat.zero_add]
        rcases i3 with ⟨i3, i4⟩ | ⟨i3, i4, i5⟩
        · exact .inl ⟨i3, by omega⟩
        · refine .inr ⟨i3, fun x hx => ?_, by omega⟩
          rcases List.mem_cons.1 hx with rfl | hx
          · omega
          · exact i4 x hx
/-- So many whole rounds, and so many behind them. -/
structure Fit (l : List Int) (most W m : Int) : Prop where
  W0 : 0 ≤ W
  m0 : 0 ≤ m
  or : (m < (lvC l W : Int) ∧ lvS l W + m = most) ∨ (m = 0 ∧ (∀ h ∈ l, h ≤ W) ∧ lvS l W ≤ most)
theorem lvS_zero : ∀ l : List Int, lvS l 0 = 0
  | [] => rfl
  | h :: t => by rw [lvS_cons, lvS_zero t]; unfold lv; omega
theorem sum_perm {l k : List Int} (h : l.Perm k) : l.sum = k.sum := by
  induction h with
  | nil => rfl
  | cons x _ ih => simp [ih]
  | swap x y l => simp; omega
  | trans _ _ i j => exact i.trans j
theorem lvS_perm {l k : List Int} (h : l.Perm k) (W : Int) : lvS l W = lvS k W := sum_perm (h.map (lv W))
theorem lvC_perm {l k : List Int} (h : l.Perm k) (W : Int) : lvC l W = lvC k W := (h.filter _).length_eq
theorem fit_rnds {l k : List Int} (hp : k.Perm l) (hs : k.Pairwise (· ≤ ·)) {most : Int} (h : 0 ≤ most) : Fit l most (rnds k most 0).1 (rnds k most 0).2 := by
  obtain ⟨h1, h2, h3⟩ := rnds_fit k most 0 hs (by omega) h
  rw [lvS_zero, lvS_perm hp, lvC_perm hp, Int.sub_zero] at h3
  refine ⟨h1, h2, h3.imp id fun ⟨a, b, c⟩ => ⟨a, fun x hx => b x (hp.mem_iff.2 hx), c⟩⟩
/-- One of each heap that has some left, as long as some may be taken. -/
def give : List Int → List Int → Int → List Int
  | h :: hs, o :: os, m => if 0 < m ∧ o < h then (o + 1) :: give hs os (m - 1) else o :: give hs os m
  | _, os, _ => os
def remn : List Int → List Int → Int → Int
  | h :: hs, o :: os, m => if 0 < m ∧ o < h then remn hs os (m - 1) else remn hs os m
  | _, _, m => m
def dealL (l : List Int) (W m : Int) : List Int := give l (lvl l W) m
theorem lv_lt {W h : Int} (hW : 0 ≤ W) : lv W h < h ↔ W < h := by unfold lv; omega
theorem lv_succ {W h : Int} (hW : 0 ≤ W) : lv (W + 1) h = if W < h then lv W h + 1 else lv W h := by unfold lv; split <;> omega
theorem lvS_succ {W : Int} (hW : 0 ≤ W) : ∀ l : List Int, lvS l (W + 1) = lvS l W + lvC l W
  | [] => rfl
  | h :: t => by
    rw [lvS_cons, lvS_cons, lvC_cons, lvS_succ hW t, lv_succ hW]
    split <;> omega
/-- A whole round. -/
theorem give_whole {W : Int} (hW : 0 ≤ W) : ∀ (l : List Int) (m : Int), (lvC l W : Int) ≤ m → give l (lvl l W) m = lvl l (W + 1) ∧ remn l (lvl l W) m = m - lvC l W
  | [], m, _ => by simp [give, remn, lvl, lvC]
  | h :: t, m, hm => by
    rw [lvC_cons] at hm ⊢
    have hl := lv_lt (h := h) hW
    have hs := lv_succ (h := h) hW
    simp only [lvl, List.map_cons, give, remn] at *
    by_cases e : W < h
    · rw [if_pos e] at hm hs ⊢
      have c : 0 < m ∧ lv W h < h := ⟨by omega, hl.2 e⟩
      rw [if_pos c, if_pos c, hs]
      obtain ⟨a, b⟩ := give_whole hW t (m - 1) (by omega)
      simp only [lvl] at a b
      rw [a, b]
      exact ⟨rfl, by omega⟩
    · rw [if_neg e] at hm hs ⊢
      have c : ¬ (0 < m ∧ lv W h < h) := fun c => e (hl.1 c.2)
      rw [if_neg c, if_neg c, hs]
      obtain ⟨a, b⟩ := give_whole hW t m (by omega)
      simp only [lvl] at a b
      rw [a, b]
      exact ⟨rfl, by omega⟩
theorem remn_part {W : Int} (hW : 0 ≤ W) : ∀ (l : List Int) (m : Int), 0 ≤ m → m ≤ (lvC l W : Int) → remn l (lvl l W) m = 0
  | [], m, h0, hm => by simp [lvC] at hm; simp [remn]; omega
  | h :: t, m, h0, hm => by
    rw [lvC_cons] at hm
    have hl := lv_lt (h := h) hW
    simp only [lvl, List.map_cons, remn] at *
    by_cases c : 0 < m ∧ lv W h < h
    · rw [if_pos c]
      rw [if_pos (hl.1 c.2)] at hm
      exact remn_part hW t (m - 1) (by omega) (by omega)
    · rw [if_neg c]
      refine remn_part hW t m h0 ?_
      by_cases e : W < h
      · have : ¬ 0 < m := fun k => c ⟨k, hl.2 e⟩
        omega
      · rw [if_neg e] at hm; omega
theorem give_none {W : Int} : ∀ (l : List Int) (m : Int), (∀ h ∈ l, h ≤ W) → give l (lvl l W) m = lvl l W ∧ remn l (lvl l W) m = m
  | [], m, _ => ⟨rfl, rfl⟩
  | h :: t, m, hl => by
    have h1 := hl h (List.mem_cons_self ..)
    have c : ¬ (0 < m ∧ lv W h < h) := fun c => by have := c.2; unfold lv at this; omega
    obtain ⟨a, b⟩ := give_none t m (fun x hx => hl x (List.mem_cons_of_mem _ hx))
    simp only [lvl, List.map_cons, give, remn] at *
    rw [if_neg c, if_neg c, a, b]; exact ⟨rfl, rfl⟩
theorem give_zero : ∀ (l o : List Int), give l o 0 = o
  | [], _ => by simp [give]
  | _ :: _, [] => by simp [give]
  | h :: t, o :: os => by simp [give, give_zero t os]
theorem lvl_length (l : List Int) (W : Int) : (lvl l W).length = l.length := by simp [lvl]
theorem give_length : ∀ (l o : List Int) (m : Int), (give l o m).length = o.length
  | [], _, _ => by simp [give]
  | _ :: _, [], _ => by simp [give]
  | h :: t, o :: os, m => by unfold give; split <;> simp [give_length t os]
theorem lv_mono {W V h : Int} (hW : W ≤ V) : lv W h ≤ lv V h := by unfold lv; omega
theorem lvS_mono {W V : Int} (hW : W ≤ V) : ∀ l : List Int, lvS l W ≤ lvS l V
  | [] => Int.le_refl _
  | h :: t => by rw [lvS_cons, lvS_cons]; have := lvS_mono hW t; have := lv_mono (h := h) hW; omega
/-- Of a round below the last whole one all heaps that have some left may have one. -/
theorem Fit.below {l : List Int} {most W m : Int} (h : Fit l most W m) {r : Int} (h0 : 0 ≤ r) (hr : r < W) : (lvC l r : Int) ≤ most - lvS l r := by
  have h1 := lvS_succ h0 l
  have h2 := lvS_mono (show r + 1 ≤ W by omega) l
  have h3 := h.m0
  rcases h.or with ⟨_, h4⟩ | ⟨_, _, h4⟩ <;> omega
theorem Fit.le {l : List Int} {most W m : Int} (h : Fit l most W m) : lvS l W ≤ most := by
  have h3 := h.m0
  rcases h.or with ⟨_, h4⟩ | ⟨_, _, h4⟩ <;> omega
theorem Fit.last {l : List Int} {most W m : Int} (h : Fit l most W m) : give l (lvl l W) (most - lvS l W) = dealL l W m ∧ (remn l (lvl l W) (most - lvS l W) = 0 ∨ (dealL l W m = lvl l W ∧ ∀ x ∈ l, x ≤ W)) := by
  have h3 := h.m0
  rcases h.or with ⟨h4, h5⟩ | ⟨rfl, h4, h5⟩
  · have e : most - lvS l W = m := by omega
    rw [e]
    exact ⟨rfl, .inl (remn_part h.W0 l m h3 (by omega))⟩
  · obtain ⟨a, b⟩ := give_none l (most - lvS l W) h4
    obtain ⟨a2, _⟩ := give_none l 0 h4
    exact ⟨by rw [a, dealL, a2], .inr ⟨a2, h4⟩⟩

/-- The last walk over the heaps: at place i. -/
theorem give_cons (h : Int) (hs : List Int) (o : Int) (os : List Int) (m : Int) : give (h :: hs) (o :: os) m = (if 0 < m ∧ o < h then o + 1 else o) :: give hs os (if 0 < m ∧ o < h then m - 1 else m) := by
  conv => lhs; unfold give
  split <;> rfl
theorem remn_cons (h : Int) (hs : List Int) (o : Int) (os : List Int) (m : Int) : remn (h :: hs) (o :: os) m = remn hs os (if 0 < m ∧ o < h then m - 1 else m) := by
  conv => lhs; unfold remn
  split <;> rfl
theorem remn_take : ∀ (l o : List Int) (m : Int) (i : Nat) (h : i < l.length) (h2 : i < o.length), remn (l.take (i + 1)) (o.take (i + 1)) m = if 0 < remn (l.take i) (o.take i) m ∧ o[i] < l[i] then remn (l.take i) (o.take i) m - 1 else remn (l.take i) (o.take i) m
  | a :: l, b :: o, m, 0, _, _ => by simp [remn]
  | a :: l, b :: o, m, i + 1, h, h2 => by
    rw [List.take_succ_cons, List.take_succ_cons, List.take_succ_cons, List.take_succ_cons, remn_cons, remn_cons]
    exact remn_take l o _ i (by simpa using h) (by simpa using h2)
theorem give_at : ∀ (l o : List Int) (m : Int) (i : Nat) (h : i < l.length) (h2 : i < o.length), (give l o m)[i]? = some (if 0 < remn (l.take i) (o.take i) m ∧ o[i] < l[i] then o[i] + 1 else o[i])
  | a :: l, b :: o, m, 0, _, _ => by rw [give_cons]; simp [remn]
  | a :: l, b :: o, m, i + 1, h, h2 => by
    rw [give_cons, List.take_succ_cons, List.take_succ_cons, remn_cons]
    simpa using give_at l o _ i (by simpa using h) (by simpa using h2)
theorem remn_le : ∀ (l o : List Int) (m : Int), 0 ≤ m → 0 ≤ remn l o m ∧ remn l o m ≤ m
  | [], o, m, h => by simp [remn]; exact h
  | _ :: _, [], m, h => by simp [remn]; exact h
  | a :: l, b :: o, m, h => by
    rw [remn_cons]
    split
    · have := remn_le l o (m - 1) (by omega); omega
    · exact remn_le l o m h
theorem remn_all (l o : List Int) (m : Int) (h : l.length = o.length) : remn l o m = remn (l.take l.length) (o.take l.length) m := by
  rw [List.take_length, h, List.take_length]
theorem remn_mono (l o : List Int) (m : Int) (h : l.length = o.length) {i j : Nat} (hij : i ≤ j) (hj : j ≤ l.length) : remn (l.take j) (o.take j) m ≤ remn (l.take i) (o.take i) m := by
  induction j with
  | zero => obtain rfl : i = 0 := by omega
            exact Int.le_refl _
  | succ j ih =>
    by_cases e : i = j + 1
    · subst e; exact Int.le_refl _
    · have := ih (by omega) (by omega)
      rw [remn_take l o m j (by omega) (by omega)]
      split <;> omega
theorem give_sum : ∀ (l o : List Int) (m : Int), (give l o m).sum = o.sum + (m - remn l o m)
  | [], o, m => by simp [give, remn]
  | _ :: _, [], m => by simp [give, remn]
  | a :: l, b :: o, m => by
    rw [give_cons, remn_cons, List.sum_cons, List.sum_cons, give_sum l o]
    split <;> omega
def posS (l : List Int) : Int := (l.map fun h => max h 0).sum
theorem posS_cons (h : Int) (t : List Int) : posS (h :: t) = max h 0 + posS t := by simp [posS]
theorem lvS_le_pos (W : Int) : ∀ l : List Int, lvS l W ≤ posS l
  | [] => Int.le_refl _
  | h :: t => by rw [lvS_cons, posS_cons]; have := lvS_le_pos W t; unfold lv; omega
theorem lvS_all {W : Int} : ∀ {l : List Int}, (∀ h ∈ l, h ≤ W) → lvS l W = posS l
  | [], _ => rfl
  | h :: t, hl => by
    rw [lvS_cons, posS_cons, lvS_all (fun x hx => hl x (List.mem_cons_of_mem _ hx))]
    have := hl h (List.mem_cons_self ..)
    unfold lv; omega
theorem Fit.sum {l : List Int} {most W m : Int} (h : Fit l most W m) : (dealL l W m).sum = min (posS l) most := by
  rw [dealL, give_sum]
  show lvS l W + (m - remn l (lvl l W) m) = _
  have h0 := h.m0
  rcases h.or with ⟨h4, h5⟩ | ⟨rfl, h4, h5⟩
  · rw [remn_part h.W0 l m h0 (by omega)]
    have := lvS_succ h.W0 l
    have := lvS_le_pos (W + 1) l
    omega
  · rw [(give_none l 0 h4).2, lvS_all h4]
    rw [lvS_all h4] at h5
    omega
theorem lvl_at {l : List Int} {W : Int} {i : Nat} (h : i < l.length) : (lvl l W)[i]'(by rw [lvl_length]; exact h) = lv W l[i] := by simp [lvl]
theorem deal_at (l : List Int) (W m : Int) {i : Nat} (h : i < l.length) : (dealL l W m)[i]? = some (if 0 < remn (l.take i) ((lvl l W).take i) m ∧ lv W l[i] < l[i] then lv W l[i] + 1 else lv W l[i]) := by
  have := give_at l (lvl l W) m i h (by rw [lvl_length]; exact h)
  rw [lvl_at h] at this
  exact this
theorem dealL_length (l : List Int) (W m : Int) : (dealL l W m).length = l.length := by rw [dealL, give_length, lvl_length]
theorem deal_fair {l : List Int} {most W m : Int} (hf : Fit l most W m) {i k : Nat} (hi : i < l.length) (hk : k < i) {x y : Int} (hx : (dealL l W m)[i]? = some x) (hy : (dealL l W m)[k]? = some y) :
    0 ≤ x ∧ x ≤ max l[i] 0 ∧ (x < l[i] → y < l[k] → x ≤ y ∧ y ≤ x + 1) := by
  rw [deal_at l W m hi] at hx
  rw [deal_at l W m (by omega)] at hy
  obtain rfl := Option.some.inj hx
  obtain rfl := Option.some.inj hy
  have h1 := remn_mono l (lvl l W) m (lvl_length l W).symm (Nat.le_of_lt hk) (by omega)
  have h2 := hf.W0
  unfold lv
  split <;> split <;> omega
theorem deal_in {l : List Int} {most W m : Int} (hf : Fit l most W m) {i : Nat} (hi : i < l.length) {x : Int} (hx : (dealL l W m)[i]? = some x) : 0 ≤ x ∧ x ≤ max l[i] 0 := by
  rw [deal_at l W m hi] at hx
  obtain rfl := Option.some.inj hx
  have h2 := hf.W0
  unfold lv
  split <;> omega
end Go.Proofs.YtkcnmajjfljilaaGreatDoor

/- source: numbers in memory. -/
namespace Go.Proofs.YtkcnmajjfljilaaGreatDoor
open Go Go.ChangeShapes Go.WideShapes Go.ChangeAt Go.RowKit
set_option linter.unusedVariables false

def iC (x : Int) : List Value := [.int .i64 x]
theorem iC_length (x : Int) : (iC x).length = 1 := rfl
theorem iC_one (x : Int) : ∀ u ∈ iC x, u.oneCell' = true := by simp [iC, Value.oneCell']
theorem iC_flat (xs : List Int) : (xs.flatMap iC).length = xs.length := by rw [flat_length iC_length, Nat.mul_one]
theorem iC_map (xs : List Int) : xs.flatMap iC = xs.map fun x => Value.int .i64 x := by
  induction xs with
  | nil => rfl
  | cons a t ih => simp [iC, ih]
theorem ints_r {w : World} {B : Nat} {A : Option Addr} {xs : List Int} (h : RowC iC 1 w B A xs) (j : Nat) (hj : j < xs.length) : ∃ b off, A = some ⟨b, off, none⟩ ∧ b < B ∧ w.cell? ⟨b, off + j, none⟩ = some (.int .i64 xs[j]) := by
  obtain ⟨b, off, h1, h2, h3⟩ := h j hj
  refine ⟨b, off, h1, h2, ?_⟩
  have := h3 0 _ rfl
  simpa using this
theorem RowC.iown {w : World} {B : Nat} {E : TypeId} {A : Option Addr} {n c : Nat} {xs : List Int} (h : w.ownsRow B E 1 (.slice A n c) n (xs.flatMap iC)) : n = xs.length ∧ RowC iC 1 w w.heap.size A xs := RowC.own iC_length (by decide) h
theorem wrap_id {x : Int} (h : -9223372036854775808 ≤ x ∧ x ≤ 9223372036854775807) : IntKind.i64.wrap x = x := by rw [IntKind.wrap_i64]; omega
/-! ### a row of numbers of the call's own -/
def iA (L : List Int) : Array Value := (L.map fun x => Value.int .i64 x).toArray
theorem iA_set (L : List Int) (k : Nat) (v : Int) : (iA L).setIfInBounds k (.int .i64 v) = iA (L.set k v) := by
  unfold iA
  simp [List.map_set]
section
variable {w : World} {D : Nat} {L : List Int} {t : TypeId}
theorem Cells.iat (h : Cells w D (iA L) t) {k : Nat} (hk : k < L.length) : w.cell? ⟨D, k, none⟩ = some (.int .i64 L[k]) := by
  rw [h.cell]; simp [iA, hk]
theorem Cells.iset (h : Cells w D (iA L) t) (k : Nat) (v : Int) : Cells (w.setCell ⟨D, k, none⟩ (.int .i64 v)) D (iA (L.set k v)) t := by
  have := h.set k (.int .i64 v)
  rwa [iA_set] at this
theorem Cells.irow (h : Cells w D (iA L) t) : RowC iC 1 w (D + 1) (some ⟨D, 0, none⟩) L := by
  intro j hj
  refine ⟨D, 0, rfl, Nat.lt_succ_self _, fun k x hx => ?_⟩
  have hk : k = 0 := by have := (List.getElem?_eq_some_iff.1 hx).1; simp [iC] at this; omega
  subst hk
  have := h.iat hj
  simp [iC] at hx
  subst hx
  simpa using this
theorem Cells.iownr (h : Cells w D (iA L) t) {base : Nat} (hb : base ≤ D) (hl : L.length ≤ maxLen) : w.ownsRow base t 1 (.slice (some ⟨D, 0, none⟩) L.length L.length) L.length (L.flatMap iC) := by
  refine ⟨by rw [iC_flat, Nat.mul_one], .inr ⟨D, L.length, iA L, rfl, hb, h, Nat.le_refl _, hl, by simp [iA], ?_⟩⟩
  rw [iC_map, Nat.mul_one]
  simp only [iA]
  exact List.take_of_length_le (by simp)
end
theorem made_i (n : Nat) : madeCells #[.int .i64 0] n = iA (List.replicate n 0) := by
  apply Array.ext'
  rw [toList_madeCells_one]
  simp [iA]
end Go.Proofs.YtkcnmajjfljilaaGreatDoor

/- The library's contracts at this program. -/
namespace Go.Proofs
open Go.Shelf
def Tryz.laysSlM5_f64__ren : Go.Shelf.Ren := ⟨fun | 5 => 52 | 8 => 80 | 7 => 79 | 19 => 117 | 20 => 118 | 10 => 108 | 11 => 109 | 12 => 110 | 13 => 111 | 14 => 112 | 15 => 113 | 16 => 114 | 17 => 115 | 18 => 116 | 30 => 161 | 31 => 162 | 32 => 163 | 33 => 164 | 34 => 165 | 35 => 166 | 40 => 191 | n => n, fun | 23 => 22 | 25 => 2 | 3 => 3 | 32 => 137 | 22 => 22 | 0 => 0 | 44 => 121 | 46 => 157 | 4 => 4 | 36 => 176 | 35 => 175 | 41 => 181 | 5 => 5 | 9 => 9 | 53 => 217 | 57 => 221 | 63 => 240 | 64 => 62 | n => n, fun | n => n⟩
theorem Tryz.laysSlM5_f64_ : Go.Proofs.SlLaysM.n5 Tryz.prog Tryz.laysSlM5_f64__ren := {
  mixed := by kernel_rfl
  f5 := ⟨Tryz.f52.name, by decide, Tryz.func52.trans (congrArg some (by kernel_rfl))⟩
  f7 := ⟨Tryz.f79.name, by decide, Tryz.func79.trans (congrArg some (by kernel_rfl))⟩
  f8 := Tryz.func80.trans (congrArg some (by kernel_rfl))
  f10 := ⟨Tryz.f108.name, by decide, Tryz.func108.trans (congrArg some (by kernel_rfl))⟩
  f11 := ⟨Tryz.f109.name, by decide, Tryz.func109.trans (congrArg some (by kernel_rfl))⟩
  f12 := ⟨Tryz.f110.name, by decide, Tryz.func110.trans (congrArg some (by kernel_rfl))⟩
  f13 := ⟨Tryz.f111.name, by decide, Tryz.func111.trans (congrArg some (by kernel_rfl))⟩
  f14 := ⟨Tryz.f112.name, by decide, Tryz.func112.trans (congrArg some (by kernel_rfl))⟩
  f15 := ⟨Tryz.f113.name, by decide, Tryz.func113.trans (congrArg some (by kernel_rfl))⟩
  f16 := ⟨Tryz.f114.name, by decide, Tryz.func114.trans (congrArg some (by kernel_rfl))⟩
  f17 := ⟨Tryz.f115.name, by decide, Tryz.func115.trans (congrArg some (by kernel_rfl))⟩
  f18 := ⟨Tryz.f116.name, by decide, Tryz.func116.trans (congrArg some (by kernel_rfl))⟩
  f19 := Tryz.func117.trans (congrArg some (by kernel_rfl))
  f20 := Tryz.func118.trans (congrArg some (by kernel_rfl))
  f30 := ⟨Tryz.f161.name, by decide, Tryz.func161.trans (congrArg some (by kernel_rfl))⟩
  f31 := Tryz.func162.trans (congrArg some (by kernel_rfl))
  f32 := Tryz.func163.trans (congrArg some (by kernel_rfl))
  f33 := ⟨Tryz.f164.name, by decide, Tryz.func164.trans (congrArg some (by kernel_rfl))⟩
  f34 := ⟨Tryz.f165.name, by decide, Tryz.func165.trans (congrArg some (by kernel_rfl))⟩
  f35 := ⟨Tryz.f166.name, by decide, Tryz.func166.trans (congrArg some (by kernel_rfl))⟩
  f40 := ⟨Tryz.f191.name, by decide, Tryz.func191.trans (congrArg some (by kernel_rfl))⟩
  t0 := Tryz.underlying0
  a0 := Tryz.isAgg0
  z0 := Tryz.sizeOf0
  v0 := Tryz.zeroValue0
  t3 := Tryz.underlying3
  a3 := Tryz.isAgg3
  z3 := Tryz.sizeOf3
  v3 := Tryz.zeroValue3
  t4 := Tryz.underlying4
  a4 := Tryz.isAgg4
  z4 := Tryz.sizeOf4
  v4 := Tryz.zeroValue4
  t5 := Tryz.underlying5
  a5 := Tryz.isAgg5
  z5 := Tryz.sizeOf5
  v5 := Tryz.zeroValue5
  t9 := Tryz.underlying9
  a9 := Tryz.isAgg9
  z9 := Tryz.sizeOf9
  v9 := Tryz.zeroValue9
  t22 := Tryz.underlying22
  a22 := Tryz.isAgg22
  z22 := Tryz.sizeOf22
  v22 := Tryz.zeroValue22
  t23 := Tryz.underlying22
  a23 := Tryz.isAgg22
  z23 := Tryz.sizeOf22
  v23 := Tryz.zeroValue22
  t25 := Tryz.underlying2
  a25 := Tryz.isAgg2
  z25 := Tryz.sizeOf2
  v25 := Tryz.zeroValue2
  t32 := Tryz.underlying137
  a32 := Tryz.isAgg137
  z32 := Tryz.sizeOf137
  v32 := Tryz.zeroValue137
  t35 := Tryz.underlying175
  a35 := Tryz.isAgg175
  z35 := Tryz.sizeOf175
  v35 := Tryz.zeroValue175
  t36 := Tryz.underlying176
  a36 := Tryz.isAgg176
  z36 := Tryz.sizeOf176
  v36 := Tryz.zeroValue176
  t41 := Tryz.underlying181
  a41 := Tryz.isAgg181
  z41 := Tryz.sizeOf181
  v41 := Tryz.zeroValue181
  t44 := Tryz.underlying121
  a44 := Tryz.isAgg121
  z44 := Tryz.sizeOf121
  v44 := Tryz.zeroValue121
  t46 := Tryz.underlying157
  a46 := Tryz.isAgg157
  z46 := Tryz.sizeOf157
  v46 := Tryz.zeroValue157
  t53 := Tryz.underlying217
  a53 := Tryz.isAgg217
  z53 := Tryz.sizeOf217
  v53 := Tryz.zeroValue217
  t57 := Tryz.underlying221
  a57 := Tryz.isAgg221
  z57 := Tryz.sizeOf221
  v57 := Tryz.zeroValue221
  t63 := Tryz.underlying240
  a63 := Tryz.isAgg240
  z63 := Tryz.sizeOf240
  v63 := Tryz.zeroValue240
  t64 := Tryz.underlying62
  a64 := Tryz.isAgg62
  z64 := Tryz.sizeOf62
  v64 := Tryz.zeroValue62 }
open Go.Sort Go.RowKit in
theorem Tryz.slices_Sort_int_f64_ (blk off cap : Nat) (zs : List Int) (w : World) (hH : Holds (Value.int .i64) w blk off zs.toArray) (hblk : blk < w.heap.size) (hsz : zs.length < 4611686018427387904) :
    Calls Tryz.prog 52 #[.slice (some ⟨blk, off, none⟩) zs.length cap] w fun e w' =>
      e = .returned (.tuple #[]) ∧ ∃ n os, w' = grow (putRow (Value.int .i64) (Sort.ahead w n) blk off (zs.mergeSort fun x y => decide (x ≤ y)).toArray) os := AnyM.slices_Sort_int Tryz.laysSlM5_f64_ blk off cap zs w hH hblk hsz
def Tryz.laysSlM5_fint__ren : Go.Shelf.Ren := ⟨fun | 5 => 55 | 8 => 80 | 7 => 82 | 19 => 117 | 20 => 118 | 10 => 119 | 11 => 120 | 12 => 121 | 13 => 122 | 14 => 123 | 15 => 124 | 16 => 125 | 17 => 126 | 18 => 127 | 30 => 167 | 31 => 162 | 32 => 163 | 33 => 168 | 34 => 169 | 35 => 170 | 40 => 192 | n => n, fun | 23 => 27 | 25 => 3 | 3 => 3 | 32 => 137 | 22 => 27 | 0 => 0 | 44 => 121 | 46 => 157 | 4 => 4 | 36 => 176 | 35 => 175 | 41 => 181 | 5 => 5 | 9 => 9 | 53 => 217 | 57 => 221 | 63 => 240 | 64 => 62 | n => n, fun | n => n⟩
theorem Tryz.laysSlM5_fint_ : Go.Proofs.SlLaysM.n5 Tryz.prog Tryz.laysSlM5_fint__ren := {
  mixed := by kernel_rfl
  f5 := ⟨Tryz.f55.name, by decide, Tryz.func55.trans (congrArg some (by kernel_rfl))⟩
  f7 := ⟨Tryz.f82.name, by decide, Tryz.func82.trans (congrArg some (by kernel_rfl))⟩
  f8 := Tryz.func80.trans (congrArg some (by kernel_rfl))
  f10 := ⟨Tryz.f119.name, by decide, Tryz.func119.trans (congrArg some (by kernel_rfl))⟩
  f11 := ⟨Tryz.f120.name, by decide, Tryz.func120.trans (congrArg some (by kernel_rfl))⟩
  f12 := ⟨Tryz.f121.name, by decide, Tryz.func121.trans (congrArg some (by kernel_rfl))⟩
  f13 := ⟨Tryz.f122.name, by decide, Tryz.func122.trans (congrArg some (by kernel_rfl))⟩
  f14 := ⟨Tryz.f123.name, by decide, Tryz.func123.trans (congrArg some (by kernel_rfl))⟩
  f15 := ⟨Tryz.f124.name, by decide, Tryz.func124.trans (congrArg some (by kernel_rfl))⟩
  f16 := ⟨Tryz.f125.name, by decide, Tryz.func125.trans (congrArg some (by kernel_rfl))⟩
  f17 := ⟨Tryz.f126.name, by decide, Tryz.func126.trans (congrArg some (by kernel_rfl))⟩
  f18 := ⟨Tryz.f127.name, by decide, Tryz.func127.trans (congrArg some (by kernel_rfl))⟩
  f19 := Tryz.func117.trans (congrArg some (by kernel_rfl))
  f20 := Tryz.func118.trans (congrArg some (by kernel_rfl))
  f30 := ⟨Tryz.f167.name, by decide, Tryz.func167.trans (congrArg some (by kernel_rfl))⟩
  f31 := Tryz.func162.trans (congrArg some (by kernel_rfl))
  f32 := Tryz.func163.trans (congrArg some (by kernel_rfl))
  f33 := ⟨Tryz.f168.name, by decide, Tryz.func168.trans (congrArg some (by kernel_rfl))⟩
  f34 := ⟨Tryz.f169.name, by decide, Tryz.func169.trans (congrArg some (by kernel_rfl))⟩
  f35 := ⟨Tryz.f170.name, by decide, Tryz.func170.trans (congrArg some (by kernel_rfl))⟩
  f40 := ⟨Tryz.f192.name, by decide, Tryz.func192.trans (congrArg some (by kernel_rfl))⟩
  t0 := Tryz.underlying0
  a0 := Tryz.isAgg0
  z0 := Tryz.sizeOf0
  v0 := Tryz.zeroValue0
  t3 := Tryz.underlying3
  a3 := Tryz.isAgg3
  z3 := Tryz.sizeOf3
  v3 := Tryz.zeroValue3
  t4 := Tryz.underlying4
  a4 := Tryz.isAgg4
  z4 := Tryz.sizeOf4
  v4 := Tryz.zeroValue4
  t5 := Tryz.underlying5
  a5 := Tryz.isAgg5
  z5 := Tryz.sizeOf5
  v5 := Tryz.zeroValue5
  t9 := Tryz.underlying9
  a9 := Tryz.isAgg9
  z9 := Tryz.sizeOf9
  v9 := Tryz.zeroValue9
  t22 := Tryz.underlying27
  a22 := Tryz.isAgg27
  z22 := Tryz.sizeOf27
  v22 := Tryz.zeroValue27
  t23 := Tryz.underlying27
  a23 := Tryz.isAgg27
  z23 := Tryz.sizeOf27
  v23 := Tryz.zeroValue27
  t25 := Tryz.underlying3
  a25 := Tryz.isAgg3
  z25 := Tryz.sizeOf3
  v25 := Tryz.zeroValue3
  t32 := Tryz.underlying137
  a32 := Tryz.isAgg137
  z32 := Tryz.sizeOf137
  v32 := Tryz.zeroValue137
  t35 := Tryz.underlying175
  a35 := Tryz.isAgg175
  z35 := Tryz.sizeOf175
  v35 := Tryz.zeroValue175
  t36 := Tryz.underlying176
  a36 := Tryz.isAgg176
  z36 := Tryz.sizeOf176
  v36 := Tryz.zeroValue176
  t41 := Tryz.underlying181
  a41 := Tryz.isAgg181
  z41 := Tryz.sizeOf181
  v41 := Tryz.zeroValue181
  t44 := Tryz.underlying121
  a44 := Tryz.isAgg121
  z44 := Tryz.sizeOf121
  v44 := Tryz.zeroValue121
  t46 := Tryz.underlying157
  a46 := Tryz.isAgg157
  z46 := Tryz.sizeOf157
  v46 := Tryz.zeroValue157
  t53 := Tryz.underlying217
  a53 := Tryz.isAgg217
  z53 := Tryz.sizeOf217
  v53 := Tryz.zeroValue217
  t57 := Tryz.underlying221
  a57 := Tryz.isAgg221
  z57 := Tryz.sizeOf221
  v57 := Tryz.zeroValue221
  t63 := Tryz.underlying240
  a63 := Tryz.isAgg240
  z63 := Tryz.sizeOf240
  v63 := Tryz.zeroValue240
  t64 := Tryz.underlying62
  a64 := Tryz.isAgg62
  z64 := Tryz.sizeOf62
  v64 := Tryz.zeroValue62 }
open Go.Sort Go.RowKit in
theorem Tryz.slices_Sort_int_fint_ (blk off cap : Nat) (zs : List Int) (w : World) (hH : Holds (Value.int .i64) w blk off zs.toArray) (hblk : blk < w.heap.size) (hsz : zs.length < 4611686018427387904) :
    Calls Tryz.prog 55 #[.slice (some ⟨blk, off, none⟩) zs.length cap] w fun e w' =>
      e = .returned (.tuple #[]) ∧ ∃ n os, w' = grow (putRow (Value.int .i64) (Sort.ahead w n) blk off (zs.mergeSort fun x y => decide (x ≤ y)).toArray) os := AnyM.slices_Sort_int Tryz.laysSlM5_fint_ blk off cap zs w hH hblk hsz
open Go.RowKit Go.Sort in
theorem Tryz.slices_Sort_int_none_f64_ (p : Option Addr) (cap : Nat) (w : World) :
    Calls Tryz.prog 52 #[.slice p 0 cap] w fun e w' => e = .returned (.tuple #[]) ∧ w' = w := AnyM.slices_Sort_int_none Tryz.laysSlM5_f64_ p cap w
open Go.RowKit Go.Sort in
theorem Tryz.slices_Sort_int_none_fint_ (p : Option Addr) (cap : Nat) (w : World) :
    Calls Tryz.prog 55 #[.slice p 0 cap] w fun e w' => e = .returned (.tuple #[]) ∧ w' = w := AnyM.slices_Sort_int_none Tryz.laysSlM5_fint_ p cap w

end Go.Proofs
namespace Go.Proofs.YtkcnmajjfljilaaGreatDoor
open Go Go.RowKit Go.Maps Go.Sort
theorem sort_l (xs : List Int) (A : Option Addr) (c base : Nat) (w : World) (h : w.ownsRow base 2 1 (.slice A xs.length c) xs.length (xs.map encZ)) (hlen : xs.length ≤ 1000000) :
    Calls Tryz.prog 52 #[.slice A xs.length c] w fun e w' => e = .returned (.tuple #[]) ∧ w'.ownsRow base 2 1 (.slice A xs.length c) xs.length ((xs.mergeSort fun x y => decide (x ≤ y)).map encZ) ∧ Below base w w' := by
  have h0 := h
  rcases h.2 with ⟨hv, hz⟩ | ⟨g, cap, cur, hv, hbase, hgb, r1, r2, r3, r4⟩
  · injection hv with e1 e2 e3
    subst e1 e3
    have hss : xs = [] := List.eq_nil_of_length_eq_zero hz
    subst hss
    refine (Tryz.slices_Sort_int_none_f64_ none 0 w).mono ?_
    rintro e w' ⟨rfl, rfl⟩
    exact ⟨rfl, by simpa using h0, Below.refl _ _⟩
  · injection hv with e1 e2 e3
    subst e1 e3
    have hH : Holds encZ w g 0 xs.toArray := holds_of_block_i hgb (by simpa using r4)
    have hgl : g < w.heap.size := (Array.getElem?_eq_some_iff.1 hgb).1
    refine (Tryz.slices_Sort_int_f64_ g 0 c xs w hH hgl (by omega)).mono ?_
    rintro e w' ⟨rfl, nn, os, rfl⟩
    exact ⟨rfl, ownsRow_sorted_i (by simp) hbase hgb r1 r2 r3, (Below.refl base w).grown (grownBy_sorted_i _) (by omega) (fun j hj => by cases hj; exact hbase)⟩
theorem sort_i (xs : List Int) (A : Option Addr) (c base : Nat) (w : World) (h : w.ownsRow base 3 1 (.slice A xs.length c) xs.length (xs.map encZ)) (hlen : xs.length ≤ 1000000) :
    Calls Tryz.prog 55 #[.slice A xs.length c] w fun e w' => e = .returned (.tuple #[]) ∧ w'.ownsRow base 3 1 (.slice A xs.length c) xs.length ((xs.mergeSort fun x y => decide (x ≤ y)).map encZ) ∧ Below base w w' := by
  have h0 := h
  rcases h.2 with ⟨hv, hz⟩ | ⟨g, cap, cur, hv, hbase, hgb, r1, r2, r3, r4⟩
  · injection hv with e1 e2 e3
    subst e1 e3
    have hss : xs = [] := List.eq_nil_of_length_eq_zero hz
    subst hss
    refine (Tryz.slices_Sort_int_none_fint_ none 0 w).mono ?_
    rintro e w' ⟨rfl, rfl⟩
    exact ⟨rfl, by simpa using h0, Below.refl _ _⟩
  · injection hv with e1 e2 e3
    subst e1 e3
    have hH : Holds encZ w g 0 xs.toArray := holds_of_block_i hgb (by simpa using r4)
    have hgl : g < w.heap.size := (Array.getElem?_eq_some_iff.1 hgb).1
    refine (Tryz.slices_Sort_int_fint_ g 0 c xs w hH hgl (by omega)).mono ?_
    rintro e w' ⟨rfl, nn, os, rfl⟩
    exact ⟨rfl, ownsRow_sorted_i (by simp) hbase hgb r1 r2 r3, (Below.refl base w).grown (grownBy_sorted_i _) (by omega) (fun j hj => by cases hj; exact hbase)⟩
end Go.Proofs.YtkcnmajjfljilaaGreatDoor
