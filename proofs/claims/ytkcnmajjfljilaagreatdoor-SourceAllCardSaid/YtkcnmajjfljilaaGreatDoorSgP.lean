/- segment: names of files; firsts, records, files while the power is on, plainly. -/
import Derived.Test.YtkcnmajjfljilaaGreatDoorSgBase
import Derived.Test.YtkcnmajjfljilaaGreatDoorFraAllS
namespace Go.Proofs.YtkcnmajjfljilaaGreatDoor
open Go.RowKit
set_option linter.unusedVariables false
set_option linter.unusedSimpArgs false

def sN (n : Int) : Nm := [115, 46] ++ hexL n
theorem sN_txt (n : Int) : (⟨#[115, 46]⟩ : ByteArray) ++ txt (hexL n) = txt (sN n) := by
  unfold sN txt; apply ByteArray.ext; simp
theorem sN_right (n : Int) : right (sN n) = true := right_pre (p := [115, 46]) (by decide) (by decide) (by decide) n
theorem hd_inj {a b : Nat} (ha : a < 16) (hb : b < 16) (h : hd a = hd b) : a = b := by
  have h1 := congrArg UInt8.toNat h
  rw [hd_nat a ha, hd_nat b hb] at h1
  split at h1 <;> split at h1 <;> omega
theorem lowd_inj : ∀ (k u v : Nat), lowd k u = lowd k v → u % 16 ^ k = v % 16 ^ k
  | 0, u, v, _ => by rw [Nat.pow_zero, Nat.mod_one, Nat.mod_one]
  | k + 1, u, v, h => by
    obtain ⟨h1, h2⟩ := List.cons.inj h
    have h3 := hd_inj (Nat.mod_lt _ (by omega)) (Nat.mod_lt _ (by omega)) h1
    have h4 := lowd_inj k u v h2
    rw [Nat.pow_succ, Nat.mod_mul, Nat.mod_mul, h3, h4]
theorem sN_inj {a b : Nat} (ha : a ≤ 9223372036854775807) (hb : b ≤ 9223372036854775807) (h : sN a = sN b) : a = b := by
  have h1 := lowd_inj 16 _ _ (List.append_cancel_left h)
  have e : ∀ n : Nat, n ≤ 9223372036854775807 → hexN (n : Int) % 16 ^ 16 = n := fun n hn => by unfold hexN; omega
  rw [e a ha, e b hb] at h1
  exact h1

/-- The number behind the last record of segment k. -/
def nxt (fs : List Nat) (n k : Nat) : Nat := (fs[k + 1]?).getD n
/-- The records of segment k. -/
def segR (fs : List Nat) (rs : List (List UInt8)) (k : Nat) : List (List UInt8) := (rs.take (nxt fs rs.length k)).drop (fs.getD k 0)
/-- How many bytes the last segment has. -/
def lastL (fs : List Nat) (rs : List (List UInt8)) : Nat := if fs = [] then 0 else tot (segR fs rs (fs.length - 1))
/-- Which numbers segments begin with. -/
structure Firsts (fs : List Nat) (n : Nat) : Prop where
  rise : fs.Pairwise (· < ·)
  zero : ∀ h : 0 < fs.length, fs[0] = 0
  none_ : fs = [] → n = 0
  le : ∀ i ∈ fs, i ≤ n
theorem Firsts.lt {fs : List Nat} {n : Nat} (h : Firsts fs n) {i j : Nat} (hj : j < fs.length) (hij : i < j) : fs[i] < fs[j] := (List.pairwise_iff_getElem.1 h.rise) i j (by omega) hj hij
theorem nxt_some {fs : List Nat} {n k : Nat} (h : k + 1 < fs.length) : nxt fs n k = fs[k + 1] := by unfold nxt; rw [List.getElem?_eq_getElem h]; rfl
theorem nxt_none {fs : List Nat} {n k : Nat} (h : ¬ k + 1 < fs.length) : nxt fs n k = n := by unfold nxt; rw [List.getElem?_eq_none (by omega)]; rfl
theorem Firsts.nxt {fs : List Nat} {n : Nat} (h : Firsts fs n) {k : Nat} (hk : k < fs.length) : fs[k] ≤ nxt fs n k ∧ nxt fs n k ≤ n := by
  by_cases h1 : k + 1 < fs.length
  · rw [nxt_some h1]
    have := h.lt h1 (Nat.lt_succ_self k)
    exact ⟨by omega, h.le _ (List.getElem_mem h1)⟩
  · rw [nxt_none h1]
    exact ⟨h.le _ (List.getElem_mem hk), Nat.le_refl _⟩
theorem getD_at {fs : List Nat} {k : Nat} (hk : k < fs.length) : fs.getD k 0 = fs[k] := by simp [List.getD, hk]
theorem segR_length {fs : List Nat} {rs : List (List UInt8)} (h : Firsts fs rs.length) {k : Nat} (hk : k < fs.length) : (segR fs rs k).length = nxt fs rs.length k - fs[k] := by
  have := h.nxt hk
  unfold segR
  rw [List.length_drop, List.length_take, getD_at hk]
  omega
theorem segR_at {fs : List Nat} {rs : List (List UInt8)} (h : Firsts fs rs.length) {k : Nat} (hk : k < fs.length) (j : Nat) (hj : j < (segR fs rs k).length) : ∃ h2 : fs[k] + j < rs.length, (segR fs rs k)[j] = rs[fs[k] + j] := by
  have h1 := h.nxt hk
  rw [segR_length h hk] at hj
  refine ⟨by omega, ?_⟩
  have e := getD_at hk
  simp only [segR, List.getElem_drop, List.getElem_take, e]
theorem Firsts.snoc {fs : List Nat} {n : Nat} (h : Firsts fs n) (hlt : ∀ i ∈ fs, i < n) (h0 : fs = [] → n = 0) : Firsts (fs ++ [n]) n := by
  refine ⟨List.pairwise_append.2 ⟨h.rise, by simp, fun a ha b hb => by rw [List.mem_singleton.1 hb]; exact hlt a ha⟩, fun hl => ?_, fun e => absurd e (by simp), fun i hi => ?_⟩
  · cases fs with
    | nil => exact h0 rfl
    | cons a t => exact h.zero (by simp)
  · rcases List.mem_append.1 hi with h1 | h1
    · exact h.le i h1
    · rw [List.mem_singleton.1 h1]; exact Nat.le_refl _
theorem nxt_snoc {fs : List Nat} {n k : Nat} (hk : k < fs.length) : nxt (fs ++ [n]) n k = nxt fs n k := by
  by_cases h1 : k + 1 < fs.length
  · rw [nxt_some h1, nxt_some (by simp; omega), List.getElem_append_left h1]
  · have e : k + 1 = fs.length := by omega
    rw [nxt_none h1, nxt_some (by simp; omega)]
    simp [e]
theorem segR_snoc {fs : List Nat} {rs : List (List UInt8)} {k : Nat} (hk : k < fs.length) : segR (fs ++ [rs.length]) rs k = segR fs rs k := by
  unfold segR
  rw [nxt_snoc hk, getD_at hk, getD_at (fs := fs ++ [rs.length]) (by simp; omega), List.getElem_append_left hk]
theorem segR_new {fs : List Nat} {rs : List (List UInt8)} : segR (fs ++ [rs.length]) rs fs.length = [] := by
  unfold segR
  rw [getD_at (fs := fs ++ [rs.length]) (by simp)]
  simp
  omega
theorem segR_more {fs : List Nat} {rs : List (List UInt8)} (h : Firsts fs rs.length) (b : List UInt8) {k : Nat} (hk : k + 1 < fs.length) : segR fs (rs ++ [b]) k = segR fs rs k := by
  unfold segR
  rw [nxt_some hk, nxt_some hk, List.take_append_of_le_length (h.le _ (List.getElem_mem hk))]
theorem segR_last {fs : List Nat} {rs : List (List UInt8)} (h : Firsts fs rs.length) (b : List UInt8) (hne : 0 < fs.length) : segR fs (rs ++ [b]) (fs.length - 1) = segR fs rs (fs.length - 1) ++ [b] := by
  have hle := h.le _ (List.getElem_mem (show fs.length - 1 < fs.length by omega))
  unfold segR
  rw [nxt_none (by omega), nxt_none (by omega), List.take_length, List.take_length, getD_at (by omega), List.drop_append_of_le_length hle]
theorem Firsts.more {fs : List Nat} {n : Nat} (h : Firsts fs n) (hne : 0 < fs.length) : Firsts fs (n + 1) := ⟨h.rise, h.zero, fun e => absurd e (by intro e; rw [e] at hne; exact absurd hne (by simp)), fun i hi => Nat.le_succ_of_le (h.le i hi)⟩
theorem lastL_snoc (fs : List Nat) (rs : List (List UInt8)) : lastL (fs ++ [rs.length]) rs = 0 := by
  unfold lastL
  rw [if_neg (by simp), List.length_append, List.length_singleton, Nat.add_sub_cancel, segR_new]
  rfl
theorem lastL_more {fs : List Nat} {rs : List (List UInt8)} (h : Firsts fs rs.length) (b : List UInt8) (hne : 0 < fs.length) : lastL fs (rs ++ [b]) = lastL fs rs + (8 + b.length) := by
  have h0 : fs ≠ [] := by intro e; rw [e] at hne; exact absurd hne (by simp)
  unfold lastL
  rw [if_neg h0, if_neg h0, segR_last h b hne, tot_snoc]
/-- Of a last segment that isn't empty all firsts are less than the number of records. -/
theorem lastL_lt {fs : List Nat} {rs : List (List UInt8)} (h : Firsts fs rs.length) (hl : fs = [] ∨ 1 ≤ lastL fs rs) : ∀ i ∈ fs, i < rs.length := by
  intro i hi
  rcases hl with rfl | hl
  · simp at hi
  · have h0 : fs ≠ [] := List.ne_nil_of_mem hi
    have hp := List.length_pos_iff.2 h0
    unfold lastL at hl
    rw [if_neg h0] at hl
    have h1 : 0 < (segR fs rs (fs.length - 1)).length := by
      cases hh : segR fs rs (fs.length - 1) with
      | nil => rw [hh] at hl; exact absurd hl (by decide)
      | cons a t => simp
    rw [segR_length h (by omega), nxt_none (by omega)] at h1
    obtain ⟨j, hj, rfl⟩ := List.getElem_of_mem hi
    by_cases e : j = fs.length - 1
    · subst e; omega
    · have := h.lt (show fs.length - 1 < fs.length by omega) (show j < fs.length - 1 by omega)
      omega
theorem tot_le {xs : List (List UInt8)} (h : ∀ x ∈ xs, x.length ≤ 1024) : tot xs ≤ 1032 * xs.length := by
  induction xs with
  | nil => exact Nat.le_refl _
  | cons a t ih =>
    have h1 := ih (fun x hx => h x (List.mem_cons_of_mem _ hx))
    have h2 := h a (List.mem_cons_self ..)
    rw [tot_cons, List.length_cons]
    omega
theorem segR_mem {fs : List Nat} {rs : List (List UInt8)} {k : Nat} {r : List UInt8} (h : r ∈ segR fs rs k) : r ∈ rs := List.mem_of_mem_take (List.mem_of_mem_drop h)

/-! ### files -/
/-- A log's files. -/
structure Sf (s : Fs) (mp : Nm → Option Nat) (fs : List Nat) (rs : List (List UInt8)) : Prop where
  first : Firsts fs rs.length
  file : ∀ k (h : k < fs.length), ∃ x sf, mp (sN ((fs[k] : Nat) : Int)) = some x ∧ s.file x = some (cat (segR fs rs k), sf)
  only : ∀ n x, mp n = some x → ∃ i ∈ fs, n = sN ((i : Nat) : Int)
  inj : ∀ n m x, mp n = some x → mp m = some x → n = m
  rlen : ∀ r ∈ rs, r.length ≤ 1024
structure Sl (s : Fs) (room used : Int) (dir : Nm) (cnt : Nat) (fs : List Nat) (rs : List (List UInt8)) : Prop where
  gl : Gl s room used
  dr : ∃ mp, Dr s dir cnt mp ∧ Sf s mp fs rs
def Mine (s : Fs) (dir : Nm) (x : Nat) : Prop := ∃ n, mget (s.dir dir).now n = some x
/-- What lies beside a directory is as it was. -/
structure OnlyD (dir : Nm) (s s' : Fs) : Prop where
  beside : Beside dir s s'
  file : ∀ z, s.file z ≠ none → ¬ Mine s dir z → s'.file z = s.file z
  mine : ∀ z, Mine s' dir z → Mine s dir z ∨ s.file z = none
  laid : ∀ z, s.file z ≠ none → s'.file z ≠ none
theorem OnlyD.refl (dir : Nm) (s : Fs) : OnlyD dir s s := ⟨Beside.refl _ _, fun _ _ _ => rfl, fun _ h => .inl h, fun _ h => h⟩
theorem OnlyD.trans {dir : Nm} {a b c : Fs} (h : OnlyD dir a b) (k : OnlyD dir b c) : OnlyD dir a c := by
  refine ⟨h.beside.trans k.beside, fun z h1 h2 => ?_, fun z h1 => ?_, fun z h1 => k.laid z (h.laid z h1)⟩
  · have e := h.file z h1 h2
    exact (k.file z (h.laid z h1) (fun hm => (h.mine z hm).elim h2 h1)).trans e
  · rcases k.mine z h1 with h2 | h2
    · exact h.mine z h2
    · exact .inr (Classical.not_not.1 fun hn => h.laid z hn h2)
section
variable {s s' : Fs} {room used : Int} {dir : Nm} {cnt cnt' : Nat} {mp mp' : Nm → Option Nat} {fs : List Nat} {rs : List (List UInt8)}
theorem OnlyD.of (d : Dr s dir cnt mp) (d' : Dr s' dir cnt' mp') (b : Beside dir s s') (hf : ∀ z, s.file z ≠ none → (∀ n, mp n ≠ some z) → s'.file z = s.file z)
    (hm : ∀ n z, mp' n = some z → (∃ m, mp m = some z) ∨ s.file z = none) (hl : ∀ z, s.file z ≠ none → s'.file z ≠ none) : OnlyD dir s s' := by
  refine ⟨b, fun z h1 h2 => hf z h1 fun n e => h2 ⟨n, (d.mp n).trans e⟩, fun z ⟨n, h1⟩ => ?_, hl⟩
  rcases hm n z ((d'.mp n).symm.trans h1) with ⟨m, h2⟩ | h2
  · exact .inl ⟨m, (d.mp m).trans h2⟩
  · exact .inr h2
theorem upd_laid {f : Nat → Option (List UInt8 × Nat)} {x : Nat} {v : List UInt8 × Nat} (z : Nat) (h : f z ≠ none) : (upd f x (some v)) z ≠ none := by
  by_cases e : z = x
  · subst e; rw [upd_same]; simp
  · rw [upd_other _ _ _ _ e]; exact h
/-- A file's safe bytes turn. -/
theorem Sf.same (h : Sf s mp fs rs) {x : Nat} {b : List UInt8} {sf sf' : Nat} (hx : s.file x = some (b, sf)) (hf : s'.file = upd s.file x (some (b, sf'))) : Sf s' mp fs rs := by
  refine ⟨h.first, fun k hk => ?_, h.only, h.inj, h.rlen⟩
  obtain ⟨y, g, h1, h2⟩ := h.file k hk
  by_cases e : y = x
  · subst e
    rw [hx] at h2
    injection h2 with h2
    injection h2 with h3 h4
    subst h3
    exact ⟨y, sf', h1, by rw [hf, upd_same]⟩
  · exact ⟨y, g, h1, by rw [hf, upd_other _ _ _ _ e]; exact h2⟩
theorem sl_sync (h : Sl s room used dir cnt fs rs) {k : Nat} (hk : k < fs.length) :
    (syncR s dir (sN ((fs[k] : Nat) : Int))).1 = 0 ∧ Sl (syncR s dir (sN ((fs[k] : Nat) : Int))).2 room used dir cnt fs rs ∧ OnlyD dir s (syncR s dir (sN ((fs[k] : Nat) : Int))).2 := by
  obtain ⟨g, mp, d, f⟩ := h
  obtain ⟨x, sf, h1, h2⟩ := f.file k hk
  obtain ⟨e, g2, d2, b2, f2⟩ := gl_sync g d (sN_right _) h1 h2
  refine ⟨e, ⟨g2, mp, d2, f.same h2 f2⟩, OnlyD.of d d2 b2 (fun z h3 h4 => ?_) (fun n z hn => .inl ⟨n, hn⟩) (fun z hz => by rw [f2]; exact upd_laid z hz)⟩
  rw [f2, upd_other _ _ _ _ (fun e => h4 _ (by rw [e]; exact h1))]
theorem sl_create (h : Sl s room used dir cnt fs rs) (hlt : ∀ i ∈ fs, i < rs.length) (hc : cnt < 4096) (hn : rs.length ≤ 9223372036854775807) {x : Nat} (hx : s.file x = none) :
    (createR s dir (sN (rs.length : Int)) x).1 = 0 ∧ Sl (createR s dir (sN (rs.length : Int)) x).2 room used dir (cnt + 1) (fs ++ [rs.length]) rs ∧ OnlyD dir s (createR s dir (sN (rs.length : Int)) x).2 := by
  obtain ⟨g, mp, d, f⟩ := h
  have hnew : mp (sN (rs.length : Int)) = none := by
    cases hm : mp (sN (rs.length : Int)) with
    | none => rfl
    | some y =>
      obtain ⟨i, hi, e⟩ := f.only _ _ hm
      have h1 := hlt i hi
      have := sN_inj hn (by omega) e
      omega
  obtain ⟨e, g2, d2, b2, f2⟩ := gl_create g d (sN_right _) hnew hc x
  have hxo : ∀ n z, mp n = some z → z ≠ x := fun n z hm e => by
    obtain ⟨i, hi, rfl⟩ := f.only n z hm
    obtain ⟨j, hj, rfl⟩ := List.getElem_of_mem hi
    obtain ⟨y, sf, h1, h2⟩ := f.file j hj
    rw [hm] at h1
    injection h1 with h1
    rw [← h1, e, hx] at h2
    cases h2
  refine ⟨e, ⟨g2, _, d2, f.first.snoc hlt f.first.none_, fun k hk => ?_, fun n z hm => ?_, fun n m z h1 h2 => ?_, f.rlen⟩, OnlyD.of d d2 b2 (fun z h3 h4 => ?_) (fun n z hm => ?_) (fun z hz => by rw [f2]; exact upd_laid z hz)⟩
  · rw [List.length_append, List.length_singleton] at hk
    by_cases h1 : k < fs.length
    · obtain ⟨y, sf, h2, h3⟩ := f.file k h1
      rw [List.getElem_append_left h1, segR_snoc h1]
      refine ⟨y, sf, ?_, ?_⟩
      · rw [if_neg (fun e => by
          have h5 := hlt _ (List.getElem_mem h1)
          have := sN_inj (by omega) hn e
          omega)]
        exact h2
      · rw [f2, upd_other _ _ _ _ (hxo _ _ h2)]; exact h3
    · obtain rfl : k = fs.length := by omega
      rw [List.getElem_concat_length rfl, segR_new]
      exact ⟨x, 0, if_pos rfl, by rw [f2, upd_same]; rfl⟩
  · by_cases h1 : n = sN (rs.length : Int)
    · exact ⟨rs.length, by simp, h1⟩
    · rw [if_neg h1] at hm
      obtain ⟨i, hi, h2⟩ := f.only n z hm
      exact ⟨i, by simp [hi], h2⟩
  · by_cases e1 : n = sN (rs.length : Int) <;> by_cases e2 : m = sN (rs.length : Int)
    · rw [e1, e2]
    · rw [if_pos e1] at h1; rw [if_neg e2] at h2
      injection h1 with h1
      exact absurd h1.symm (hxo _ _ h2)
    · rw [if_neg e1] at h1; rw [if_pos e2] at h2
      injection h2 with h2
      exact absurd h2.symm (hxo _ _ h1)
    · rw [if_neg e1] at h1; rw [if_neg e2] at h2
      exact f.inj n m z h1 h2
  · rw [f2, upd_other _ _ _ _ (fun e => h3 (by rw [e]; exact hx))]
  · by_cases e1 : n = sN (rs.length : Int)
    · rw [if_pos e1] at hm
      injection hm with hm
      exact .inr (by rw [← hm]; exact hx)
    · rw [if_neg e1] at hm
      exact .inl ⟨n, hm⟩
theorem sl_syncDir (h : Sl s room used dir cnt fs rs) : (syncDirR s dir).1 = 0 ∧ Sl (syncDirR s dir).2 room used dir cnt fs rs ∧ OnlyD dir s (syncDirR s dir).2 := by
  obtain ⟨g, mp, d, f⟩ := h
  obtain ⟨e, g2, d2, b2, f2⟩ := gl_syncDir g d
  exact ⟨e, ⟨g2, mp, d2, f.first, fun k hk => by rw [f2]; exact f.file k hk, f.only, f.inj, f.rlen⟩, OnlyD.of d d2 b2 (fun z _ _ => by rw [f2]) (fun n z hn => .inl ⟨n, hn⟩) (fun z hz => by rw [f2]; exact hz)⟩
theorem sl_append (h : Sl s room used dir cnt fs rs) (hne : 0 < fs.length) (b : List UInt8) (hb : b.length ≤ 1024) (hrs : rs.length ≤ 16000) (hu : used + (8 + b.length) ≤ room) :
    (appendR s dir (sN ((fs[fs.length - 1] : Nat) : Int)) (fr b)).1 = 0 ∧ Sl (appendR s dir (sN ((fs[fs.length - 1] : Nat) : Int)) (fr b)).2 room (used + (8 + b.length)) dir cnt fs (rs ++ [b]) ∧ OnlyD dir s (appendR s dir (sN ((fs[fs.length - 1] : Nat) : Int)) (fr b)).2 := by
  obtain ⟨g, mp, d, f⟩ := h
  have hk : fs.length - 1 < fs.length := by omega
  obtain ⟨x, sf, h1, h2⟩ := f.file _ hk
  have hfl : ((fr b).length : Int) = 8 + b.length := by rw [fr_length]; omega
  have ht : (cat (segR fs rs (fs.length - 1))).length ≤ 1032 * 16000 := by
    rw [cat_length]
    have h3 := tot_le (xs := segR fs rs (fs.length - 1)) (fun r hr => f.rlen r (segR_mem hr))
    have h4 := segR_length f.first hk
    have h5 := (f.first.nxt hk).2
    have h6 : (segR fs rs (fs.length - 1)).length ≤ 16000 := by omega
    exact Nat.le_trans h3 (Nat.mul_le_mul_left _ h6)
  obtain ⟨e, g2, d2, b2, f2⟩ := gl_append g d (sN_right _) h1 h2 (fr b) (by rw [fr_length]; omega) (by rw [hfl]; exact hu)
  rw [hfl] at g2
  refine ⟨e, ⟨g2, mp, d2, by rw [List.length_append, List.length_singleton]; exact f.first.more hne, fun k hk2 => ?_, f.only, f.inj, fun r hr => ?_⟩, OnlyD.of d d2 b2 (fun z h3 h4 => ?_) (fun n z hn => .inl ⟨n, hn⟩) (fun z hz => by rw [f2]; exact upd_laid z hz)⟩
  · obtain ⟨y, sg, h3, h4⟩ := f.file k hk2
    by_cases e1 : k = fs.length - 1
    · subst e1
      rw [segR_last f.first b hne, cat_snoc]
      exact ⟨x, sf, h1, by rw [f2, upd_same]⟩
    · rw [segR_more f.first b (by omega)]
      refine ⟨y, sg, h3, ?_⟩
      rw [f2, upd_other _ _ _ _ (fun e2 => ?_)]
      · exact h4
      · rw [e2] at h3
        have h5 := f.inj _ _ _ h3 h1
        have h6 := f.first.lt hk (show k < fs.length - 1 by omega)
        have h7 := f.first.le _ (List.getElem_mem hk)
        have := sN_inj (by omega) (by omega) h5
        omega
  · rcases List.mem_append.1 hr with h3 | h3
    · exact f.rlen r h3
    · rw [List.mem_singleton.1 h3]; exact hb
  · rw [f2, upd_other _ _ _ _ (fun e => h4 _ (by rw [e]; exact h1))]
theorem sl_read (h : Sl s room used dir cnt fs rs) {k : Nat} (hk : k < fs.length) : lfE s dir (sN ((fs[k] : Nat) : Int)) [] = 0 ∧ readB s dir (sN ((fs[k] : Nat) : Int)) = cat (segR fs rs k) := by
  obtain ⟨g, mp, d, f⟩ := h
  obtain ⟨x, sf, h1, h2⟩ := f.file k hk
  obtain ⟨h3, h4⟩ := gl_lf g d (sN_right _) (os := []) rfl h1
  refine ⟨h3, ?_⟩
  unfold readB
  rw [if_pos h3, h4]
  unfold bytesOf
  rw [h2]; rfl
theorem sl_frs (h : Sl s room used dir cnt fs rs) (k : Nat) : frs (cat (segR fs rs k)) = segR fs rs k := by
  obtain ⟨g, mp, d, f⟩ := h
  have := frs_cat (segR fs rs k) (fun x hx => by have := f.rlen x (segR_mem hx); omega) []
  rw [List.append_nil] at this
  rw [this, frs_none (fst_none_short (by simp)), List.append_nil]
/-- A log beside another directory. -/
theorem Sl.other (h : Sl s room used dir cnt fs rs) {d2 : Nm} (k : OnlyD d2 s s') (hd : dir ≠ d2) (hm : ∀ z, Mine s dir z → ¬ Mine s d2 z) {room' used' : Int} (g : Gl s' room' used') : Sl s' room' used' dir cnt fs rs := by
  obtain ⟨_, mp, d, f⟩ := h
  refine ⟨g, mp, d.beside k.beside hd, f.first, fun i hi => ?_, f.only, f.inj, f.rlen⟩
  obtain ⟨x, sf, h1, h2⟩ := f.file i hi
  exact ⟨x, sf, h1, (k.file x (by rw [h2]; simp) (hm x ⟨_, (d.mp _).trans h1⟩)).trans h2⟩
end
/-- A directory not yet there. -/
theorem fresh_sl {s : Fs} {room used : Int} {dir : Nm} (g : Gl s room used) (hr : right dir = true) (hn : dir ∉ s.names) (hl : s.names.length < 64) :
    readyM s dir = mkdirR s dir ∧ listN (mkdirR s dir).2 dir = [] ∧ readyR s dir = ([], 0, (mkdirR s dir).2) ∧ Sl (mkdirR s dir).2 room used dir 0 [] [] ∧ (mkdirR s dir).2.names = nins dir s.names ∧ (∀ d, d ≠ dir → (mkdirR s dir).2.dir d = s.dir d) ∧ (mkdirR s dir).2.file = s.file := by
  have hlive : liveE s dir [] = 61 := by
    unfold liveE dirE
    rw [g.on, if_pos rfl, if_pos (by simp [hr]), if_neg hn]
  have hm : mkdirR s dir = (0, mkdirS (stepped s) dir) := by
    unfold mkdirR
    rw [hlive, if_neg (by decide), if_neg (by simp), if_neg (by omega), if_neg (by rw [g.fuse]; decide)]
  have hM : readyM s dir = mkdirR s dir := by unfold readyM; rw [hlive, if_pos rfl]
  have e3 : (mkdirS (stepped s) dir).dir dir = ⟨[], [], []⟩ := upd_same _ _ _
  have g2 : Gl (mkdirS (stepped s) dir) room used := ⟨g.on, gl_fu g, g.room, g.used⟩
  have d2 : Dr (mkdirS (stepped s) dir) dir 0 (fun _ => none) := by
    refine ⟨⟨mem_nins.2 (.inl rfl), hr⟩, ?_, ?_, ?_, fun n => ?_⟩
    · rw [e3]; exact List.Pairwise.nil
    · rw [e3]; rfl
    · rw [e3]; exact Nat.le_refl _
    · rw [e3]; rfl
  have hlive2 := gl_live g2 d2 (ns := []) rfl
  have hL : listN (mkdirS (stepped s) dir) dir = [] := by unfold listN; rw [if_pos hlive2, e3]; rfl
  have hC : cleanR (mkdirS (stepped s) dir) dir = (0, 0, mkdirS (stepped s) dir) := by
    unfold cleanR
    rw [hL, hlive2, if_neg (by simp), show tmps [] = [] from rfl, if_neg (by simp [rmAll]), if_pos rfl]; rfl
  refine ⟨hM, by rw [hm]; exact hL, ?_, ?_, by rw [hm]; rfl, fun d hd => by rw [hm]; exact upd_other _ _ _ _ hd, by rw [hm]; rfl⟩
  · unfold readyR
    rw [hM, hm, if_neg (by simp)]
    rw [show cleanR (0, mkdirS (stepped s) dir).2 dir = _ from hC, if_neg (by simp)]
    show (listN (mkdirS (stepped s) dir) dir, liveE (mkdirS (stepped s) dir) dir [], _) = _
    rw [hL, hlive2]
  · rw [hm]
    exact ⟨g2, _, d2, ⟨List.Pairwise.nil, fun h => absurd h (by simp), fun _ => rfl, fun i h => absurd h (by simp)⟩, fun k h => absurd h (by simp), (fun n x h => by cases h), (fun n m x h => by cases h), fun r h => absurd h (by simp)⟩
theorem gl_new {room : Int} : Gl (newFs room) room 0 := ⟨rfl, rfl, rfl, Int.le_refl _⟩
end Go.Proofs.YtkcnmajjfljilaaGreatDoor
