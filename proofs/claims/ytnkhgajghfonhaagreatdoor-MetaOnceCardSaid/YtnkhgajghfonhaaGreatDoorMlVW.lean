/- Several texts in one: MlV, MlW. -/
import Derived.Test.YtnkhgajghfonhaaGreatDoorMlOS
import Derived.Test.YtnkhgajghfonhaaGreatDoorPwOn
/- metalog: names of files; folds while the power is on, plainly. -/
namespace Go.Proofs.YtnkhgajghfonhaaGreatDoor
open Go.RowKit
set_option linter.unusedVariables false
set_option linter.unusedSimpArgs false

theorem okc_hd (d : Nat) (h : d < 16) : okc (hd d) = true := by
  have : ∀ d : Fin 16, okc (hd d.1) = true := by decide
  exact this ⟨d, h⟩
theorem okc_lowd (k u : Nat) : (lowd k u).all okc = true := by
  induction k with
  | zero => rfl
  | succ k ih => rw [lowd, List.all_cons, ih, okc_hd _ (Nat.mod_lt _ (by omega))]; rfl
theorem right_pre {p : Nm} (hp : p.all okc = true) (h1 : 1 ≤ p.length) (h2 : p.length ≤ 16) (n : Int) : right (p ++ hexL n) = true := by
  unfold right
  rw [List.all_append, hp, List.length_append, hexL_length]
  have h3 : (hexL n).all okc = true := okc_lowd 16 _
  rw [h3]
  simp
  omega
theorem bN_right (n : Int) : right (bN n) = true := right_pre (p := [98, 46]) (by decide) (by decide) (by decide) n
theorem fN_right (n : Int) : right (fN n) = true := right_pre (p := [102, 46]) (by decide) (by decide) (by decide) n
theorem bNt_right (n : Int) : right (tmpN (bN n)) = true := right_pre (p := [116, 109, 112, 46, 98, 46]) (by decide) (by decide) (by decide) n
theorem fNt_right (n : Int) : right (tmpN (fN n)) = true := right_pre (p := [116, 109, 112, 46, 102, 46]) (by decide) (by decide) (by decide) n
theorem bN_length (n : Int) : (bN n).length = 18 := by unfold bN; rw [List.length_append, hexL_length]; rfl
theorem fN_length (n : Int) : (fN n).length = 18 := by unfold fN; rw [List.length_append, hexL_length]; rfl
theorem hexL_inj {a b : Int} (ha : 0 ≤ a ∧ a ≤ 9223372036854775807) (hb : 0 ≤ b ∧ b ≤ 9223372036854775807) (h : hexL a = hexL b) : a = b := by
  obtain ⟨n, rfl⟩ := Int.eq_ofNat_of_zero_le ha.1
  obtain ⟨m, rfl⟩ := Int.eq_ofNat_of_zero_le hb.1
  have h1 := (hex_back (n := n) (l := hexL (n : Int)) (by omega)).1 rfl
  have h2 := (hex_back (n := m) (l := hexL (m : Int)) (by omega)).1 rfl
  rw [h] at h1
  have := Option.some.inj (h1.symm.trans h2)
  omega
theorem bN_inj {a b : Int} (ha : 0 ≤ a ∧ a ≤ 9223372036854775807) (hb : 0 ≤ b ∧ b ≤ 9223372036854775807) (h : bN a = bN b) : a = b := hexL_inj ha hb (List.append_cancel_left h)
theorem fN_inj {a b : Int} (ha : 0 ≤ a ∧ a ≤ 9223372036854775807) (hb : 0 ≤ b ∧ b ≤ 9223372036854775807) (h : fN a = fN b) : a = b := hexL_inj ha hb (List.append_cancel_left h)
theorem b_f (a b : Int) : bN a ≠ fN b := fun h => absurd (List.cons.inj h).1 (by decide)
theorem tmp_b (n : Nm) (a : Int) : tmpN n ≠ bN a := fun h => absurd (List.cons.inj h).1 (by decide)
theorem tmp_f (n : Nm) (a : Int) : tmpN n ≠ fN a := fun h => absurd (List.cons.inj h).1 (by decide)
section
variable {s : Fs} {room used : Int} {dir : Nm} {cnt : Nat} {mp : Nm → Option Nat}
theorem rmAll_gl (g : Gl s room used) (d : Dr s dir cnt mp) (ns : List Nm) (hr : ∀ n ∈ ns, right n = true) (hm : ∀ n ∈ ns, (mp n).isSome = true) (hd : ns.Nodup) :
    (rmAll dir ns s).1 = 0 ∧ Gl (rmAll dir ns s).2 room used ∧ Dr (rmAll dir ns s).2 dir cnt (fun k => if k ∈ ns then none else mp k) ∧ Beside dir s (rmAll dir ns s).2 ∧ (rmAll dir ns s).2.file = s.file := by
  induction ns generalizing s mp with
  | nil => exact ⟨rfl, g, ⟨d.dirs, d.rising, d.replay, d.len, fun k => (d.mp k).trans (if_neg (by simp)).symm⟩, Beside.refl _ _, rfl⟩
  | cons x r ih =>
    obtain ⟨y, hy⟩ := Option.isSome_iff_exists.1 (hm x (List.mem_cons_self ..))
    obtain ⟨e1, g1, d1, b1, f1⟩ := gl_remove g d (hr x (List.mem_cons_self ..)) hy
    obtain ⟨hx, hd2⟩ := List.nodup_cons.1 hd
    obtain ⟨e2, g2, d2, b2, f2⟩ := ih g1 d1 (fun n hn => hr n (List.mem_cons_of_mem _ hn)) (fun n hn => by
      show (if n = x then none else mp n).isSome = true
      rw [if_neg (fun e => hx (by rw [← e]; exact hn))]
      exact hm n (List.mem_cons_of_mem _ hn)) hd2
    have e : rmAll dir (x :: r) s = rmAll dir r (removeR s dir x).2 := by
      show thn (removeR s dir x) (rmAll dir r) = _
      rw [thn_ok e1]
    rw [e]
    refine ⟨e2, g2, ⟨d2.dirs, d2.rising, d2.replay, d2.len, fun k => (d2.mp k).trans ?_⟩, b1.trans b2, f2.trans f1⟩
    simp only [List.mem_cons]
    by_cases h1 : k ∈ r
    · rw [if_pos h1, if_pos (.inr h1)]
    · rw [if_neg h1]
      by_cases h2 : k = x
      · rw [if_pos h2, if_pos (.inl h2)]
      · rw [if_neg h2, if_neg (fun h => h.elim h2 h1)]
theorem rem_gl (g : Gl s room used) (d : Dr s dir cnt mp) (ns : List Nm) (hr : ∀ n ∈ ns, right n = true) (hm : ∀ n ∈ ns, (mp n).isSome = true) (hd : ns.Nodup) :
    (remR dir ns s).1 = 0 ∧ Gl (remR dir ns s).2 room used ∧ Dr (remR dir ns s).2 dir cnt (fun k => if k ∈ ns then none else mp k) ∧ Beside dir s (remR dir ns s).2 ∧ (remR dir ns s).2.file = s.file := by
  unfold remR
  by_cases h0 : ns = []
  · subst h0
    rw [if_pos rfl]
    exact ⟨rfl, g, ⟨d.dirs, d.rising, d.replay, d.len, fun k => (d.mp k).trans (if_neg (by simp)).symm⟩, Beside.refl _ _, rfl⟩
  · rw [if_neg h0]
    obtain ⟨e1, g1, d1, b1, f1⟩ := rmAll_gl g d ns hr hm hd
    obtain ⟨e2, g2, d2, b2, f2⟩ := gl_syncDir g1 d1
    rw [thn_ok e1]
    exact ⟨e2, g2, d2, b1.trans b2, f2.trans f1⟩
/-- A fold is done. -/
structure Folded (s : Fs) (room used : Int) (dir : Nm) (cnt : Nat) (mp : Nm → Option Nat) (gone : List Nm) (N : Int) (b : List UInt8) (y : Nat) (s' : Fs) : Prop where
  gl : Gl s' room (used + b.length)
  dr : Dr s' dir (cnt + 2) fun k => if k ∈ gone then none else if k = fN N then some y else mp k
  beside : Beside dir s s'
  at_ : s'.file y = some (b, b.length)
  old : ∀ x, x ≠ y → s'.file x = s.file x
theorem lv_right (pS pF : Int → Bool) (rs : List Mr) (fs : List Int) : ∀ n ∈ lvN pS pF rs fs, right n = true := by
  intro n hn
  unfold lvN bNames fNames at hn
  rcases List.mem_append.1 hn with h | h
  · obtain ⟨r, _, rfl⟩ := List.mem_map.1 h; exact bN_right _
  · obtain ⟨r, _, rfl⟩ := List.mem_map.1 h; exact fN_right _
theorem fold_gl (g : Gl s room used) (d : Dr s dir cnt mp) {rs up : List Mr} {fs : List Int} {N : Int} (hm : ∀ n ∈ foldGo rs fs N, (mp n).isSome = true) (hd : (foldGo rs fs N).Nodup) (ht : mp (tmpN (fN N)) = none) (hc : cnt < 4000)
    (hb : (fr (listL pairL (up.map prOf))).length ≤ 16777216) (hu : used + (fr (listL pairL (up.map prOf))).length ≤ room) (y : Nat) :
    ∃ s', foldM s dir rs fs up N y = (0, rs.map (trM N), [N], s') ∧ Folded s room used dir cnt mp (foldGo rs fs N) N (fr (listL pairL (up.map prOf))) y s' := by
  have h := raw_gl g d (fN_right N) (fNt_right N) (by rw [fN_length]; decide) ht hc (fr (listL pairL (up.map prOf))) hb hu y
  obtain ⟨e2, g2, d2, b2, f2⟩ := rem_gl h.gl h.dr (foldGo rs fs N) (lv_right _ _ _ _) (fun n hn => by
    show (if n = fN N then some y else mp n).isSome = true
    by_cases e : n = fN N
    · rw [if_pos e]; rfl
    · rw [if_neg e]; exact hm n hn) hd
  exact ⟨_, foldM_ok rfl h.ok rfl e2, g2, d2, h.beside.trans b2, by rw [f2]; exact h.at_, fun x hx => by rw [f2]; exact h.old x hx⟩
theorem lv_nodup {rs : List Mr} (hr : Rise rs) (hi : ∀ r ∈ rs, 0 ≤ r.id ∧ r.id ≤ 9223372036854775807) {fs : List Int} (hf : fs.length ≤ 1) (pS pF : Int → Bool) : (lvN pS pF rs fs).Nodup := by
  unfold lvN
  refine List.nodup_append.2 ⟨?_, ?_, ?_⟩
  · unfold bNames
    have hp : (rs.map fun r => r.id).Pairwise (· < ·) := by
      rw [List.pairwise_iff_getElem]
      intro i j hi hj hij
      rw [List.getElem_map, List.getElem_map]
      exact hr i j (by simpa using hi) (by simpa using hj) hij
    have hp2 : rs.Pairwise (fun a b => a.id < b.id) := List.pairwise_map.1 hp
    have hp3 := hp2.filter (fun r => r.si && pS r.id)
    refine List.pairwise_map.2 ?_
    refine List.Pairwise.imp_of_mem (fun ha hb hab e => ?_) hp3
    have := bN_inj (hi _ (List.mem_filter.1 ha).1) (hi _ (List.mem_filter.1 hb).1) e
    omega
  · unfold fNames
    have h1 : ((fs.filter pF).map fN).length ≤ 1 := by
      rw [List.length_map]
      exact Nat.le_trans (List.length_filter_le _ _) hf
    cases hh : (fs.filter pF).map fN with
    | nil => exact List.nodup_nil
    | cons a t =>
      cases t with
      | nil => simp
      | cons b t => rw [hh] at h1; simp at h1
  · intro a ha b hb e
    unfold bNames at ha
    unfold fNames at hb
    obtain ⟨r, _, rfl⟩ := List.mem_map.1 ha
    obtain ⟨i, _, rfl⟩ := List.mem_map.1 hb
    exact b_f _ _ e
end
end Go.Proofs.YtnkhgajghfonhaaGreatDoor

/- metalog: a log's files while the power is on, plainly. -/
namespace Go.Proofs.YtnkhgajghfonhaaGreatDoor
open Go.RowKit
set_option linter.unusedVariables false
set_option linter.unusedSimpArgs false

/-- What the greatest fold's file holds. -/
def foldB (rs : List Mr) : List UInt8 := listL pairL ((rs.filter (·.fo)).map prOf)
/-- A log's files. -/
structure Lf (s : Fs) (mp : Nm → Option Nat) (rs : List Mr) (fs : List Int) : Prop where
  tmp : ∀ n, mp (tmpN n) = none
  single : ∀ r ∈ rs, r.si = true → ∃ x, mp (bN r.id) = some x ∧ s.file x = some (fr r.b, (fr r.b).length)
  fold : ∀ i ∈ fs, ∃ x, mp (fN i) = some x ∧ s.file x = some (fr (foldB rs), (fr (foldB rs)).length)
  only : ∀ n x, mp n = some x → (∃ r ∈ rs, r.si = true ∧ n = bN r.id) ∨ ∃ i ∈ fs, n = fN i
  fs1 : fs.length ≤ 1
  fo : ∀ r ∈ rs, r.si = !r.fo
  none_ : fs = [] → ∀ r ∈ rs, r.fo = false
  some_ : ∀ n ∈ fs, (∃ r ∈ rs, r.id = n ∧ r.fo = true) ∧ ∀ r ∈ rs, r.fo = true → r.id ≤ n
structure Lg (s : Fs) (room used : Int) (dir : Nm) (cnt : Nat) (rs : List Mr) (fs : List Int) : Prop where
  gl : Gl s room used
  dr : ∃ mp, Dr s dir cnt mp ∧ Lf s mp rs fs
theorem Lf.laid {s : Fs} {mp : Nm → Option Nat} {rs : List Mr} {fs : List Int} (h : Lf s mp rs fs) {n : Nm} {x : Nat} (hm : mp n = some x) : ∃ b, s.file x = some b := by
  rcases h.only n x hm with ⟨r, hr, hs, rfl⟩ | ⟨i, hi, rfl⟩
  · obtain ⟨y, h1, h2⟩ := h.single r hr hs
    rw [hm] at h1
    injection h1 with h1
    subst h1
    exact ⟨_, h2⟩
  · obtain ⟨y, h1, h2⟩ := h.fold i hi
    rw [hm] at h1
    injection h1 with h1
    subst h1
    exact ⟨_, h2⟩
section
variable {s : Fs} {room used : Int} {dir : Nm} {cnt : Nat} {rs : List Mr} {fs : List Int}
theorem lg_put (h : Lg s room used dir cnt rs fs) (hi : ∀ r ∈ rs, 0 ≤ r.id ∧ r.id ≤ 9223372036854775807) (hc : cnt < 4000) {x : Mr} (hx0 : 0 ≤ x.id ∧ x.id ≤ 9223372036854775807) (hxf : x.fo = false) (hxs : x.si = true) (hnew : ∀ r ∈ rs, r.id ≠ x.id) (hb : (fr x.b).length ≤ 16777216) (hu : used + (fr x.b).length ≤ room) {y : Nat} (hy : s.file y = none) (pre post : List Mr) (hrs : rs = pre ++ post) :
    (rawR s dir (bN x.id) (fr x.b) y).1 = 0 ∧ Lg (rawR s dir (bN x.id) (fr x.b) y).2 room (used + (fr x.b).length) dir (cnt + 2) (pre ++ x :: post) fs ∧ Beside dir s (rawR s dir (bN x.id) (fr x.b) y).2 := by
  obtain ⟨g, mp, d, f⟩ := h
  have L := raw_gl g d (bN_right x.id) (bNt_right x.id) (by rw [bN_length]; decide) (f.tmp _) hc (fr x.b) hb hu y
  have hmem : ∀ r, r ∈ pre ++ x :: post ↔ r = x ∨ r ∈ rs := fun r => by rw [hrs, List.mem_append, List.mem_append, List.mem_cons]; exact or_left_comm
  have hfil : foldB (pre ++ x :: post) = foldB rs := by
    unfold foldB
    rw [hrs, List.filter_append, List.filter_append, List.filter_cons, hxf]
    rfl
  have hold : ∀ n z, mp n = some z → z ≠ y := fun n z hm e => by
    obtain ⟨b, h1⟩ := f.laid hm
    rw [e, hy] at h1
    cases h1
  refine ⟨L.ok, ⟨L.gl, _, L.dr, fun n => ?_, fun r hr hs => ?_, fun i hi2 => ?_, fun n z hm => ?_, f.fs1, fun r hr => ?_, fun e r hr => ?_, fun n hn => ?_⟩, L.beside⟩
  · rw [if_neg (tmp_b n x.id)]; exact f.tmp n
  · rcases (hmem r).1 hr with rfl | hr
    · exact ⟨y, if_pos rfl, L.at_⟩
    · obtain ⟨z, h1, h2⟩ := f.single r hr hs
      refine ⟨z, ?_, (L.old z (hold _ z h1)).trans h2⟩
      rw [if_neg (fun e => hnew r hr (bN_inj (hi r hr) hx0 e))]
      exact h1
  · obtain ⟨z, h1, h2⟩ := f.fold i hi2
    rw [hfil]
    refine ⟨z, ?_, (L.old z (hold _ z h1)).trans h2⟩
    rw [if_neg (fun e => b_f _ _ e.symm)]
    exact h1
  · by_cases e : n = bN x.id
    · exact .inl ⟨x, (hmem x).2 (.inl rfl), hxs, e⟩
    · rw [if_neg e] at hm
      rcases f.only n z hm with ⟨r, hr, h1, h2⟩ | h1
      · exact .inl ⟨r, (hmem r).2 (.inr hr), h1, h2⟩
      · exact .inr h1
  · rcases (hmem r).1 hr with rfl | hr
    · rw [hxf, hxs]; rfl
    · exact f.fo r hr
  · rcases (hmem r).1 hr with rfl | hr
    · exact hxf
    · exact f.none_ e r hr
  · obtain ⟨⟨r, h1, h2⟩, h3⟩ := f.some_ n hn
    refine ⟨⟨r, (hmem r).2 (.inr h1), h2⟩, fun r hr hf => ?_⟩
    rcases (hmem r).1 hr with rfl | hr
    · rw [hxf] at hf; cases hf
    · exact h3 r hr hf
end
/-- The rows up to a number. -/
theorem up_at {rs : List Mr} (hr : Rise rs) (t : Int) (i : Nat) (hi : i < rs.length) : i < upI rs t ↔ rs[i].id ≤ t := by
  have hA := hr.at_ t
  have hh := hA.has hr
  unfold upI
  by_cases h1 : i < atI rs t
  · have := hA.lt i hi h1
    constructor
    · intro _; omega
    · intro _; split <;> omega
  · by_cases h2 : atI rs t < i
    · constructor
      · intro h3; split at h3 <;> omega
      · intro h3
        have h4 := hA.ge (atI rs t) (by omega) (Nat.le_refl _)
        have h5 := hr (atI rs t) i (by omega) hi h2
        omega
    · obtain rfl : i = atI rs t := by omega
      have h4 := hA.ge (atI rs t) hi (Nat.le_refl _)
      constructor
      · intro h3
        split at h3
        · rename_i h5
          rw [hh] at h5
          simp at h5
          obtain ⟨_, h5⟩ := h5
          omega
        · omega
      · intro h3
        have h5 : hasI rs t = true := by
          rw [hh]
          simp
          exact ⟨hi, by omega⟩
        rw [if_pos h5]
        omega
theorem up_filter {rs : List Mr} (hr : Rise rs) (t : Int) : rs.take (upI rs t) = rs.filter fun r => decide (r.id ≤ t) := by
  have e : rs.filter (fun r => decide (r.id ≤ t)) = (rs.take (upI rs t) ++ rs.drop (upI rs t)).filter fun r => decide (r.id ≤ t) := by rw [List.take_append_drop]
  have e1 : (rs.take (upI rs t)).filter (fun r => decide (r.id ≤ t)) = rs.take (upI rs t) := by
    rw [List.filter_eq_self]
    intro r h
    obtain ⟨i, hi, e⟩ := List.getElem_of_mem h
    rw [List.getElem_take] at e
    rw [List.length_take] at hi
    have := (up_at hr t i (by omega)).1 (by omega)
    rw [e] at this
    exact decide_eq_true this
  have e2 : (rs.drop (upI rs t)).filter (fun r => decide (r.id ≤ t)) = [] := by
    rw [List.filter_eq_nil_iff]
    intro r h
    obtain ⟨i, hi, e⟩ := List.getElem_of_mem h
    rw [List.getElem_drop] at e
    rw [List.length_drop] at hi
    have := mt (up_at hr t (upI rs t + i) (by omega)).2 (by omega)
    rw [e] at this
    simpa using this
  rw [e, List.filter_append, e1, e2, List.append_nil]
theorem up_mem {rs : List Mr} (hr : Rise rs) (t : Int) (r : Mr) : r ∈ rs.take (upI rs t) ↔ r ∈ rs ∧ r.id ≤ t := by
  rw [up_filter hr]
  simp
theorem last_ge {l : List Mr} (hr : Rise l) {r : Mr} (h : r ∈ l) : r.id ≤ lastI l := by
  obtain ⟨i, hi, rfl⟩ := List.getElem_of_mem h
  have e : lastI l = l[l.length - 1].id := by
    unfold lastI
    rw [List.getLast?_eq_getElem?, List.getElem?_eq_getElem (by omega)]
  rw [e]
  by_cases h1 : i < l.length - 1
  · have := hr i (l.length - 1) hi (by omega) h1; omega
  · have h2 : i = l.length - 1 := by omega
    simp only [h2]
    exact Int.le_refl _
/-- Two tables have the same numbers and bytes. -/
def SameT (rs rs' : List Mr) : Prop := rs'.map (fun r => (r.id, r.b)) = rs.map fun r => (r.id, r.b)
theorem SameT.refl (rs : List Mr) : SameT rs rs := rfl
theorem SameT.trans {a b c : List Mr} (h : SameT a b) (k : SameT b c) : SameT a c := Eq.trans k h
theorem same_tr (rs : List Mr) (N : Int) : SameT rs (rs.map (trM N)) := by
  unfold SameT
  rw [List.map_map]
  refine List.map_congr_left fun r _ => ?_
  show (_, _) = _
  rw [trM_id, (trM_b N r).1]
theorem prOf_tr (N : Int) (r : Mr) : prOf (trM N r) = prOf r := by unfold prOf; rw [trM_id, (trM_b N r).1]
theorem trM_gt {N : Int} {r : Mr} (h : ¬ r.id ≤ N) : trM N r = r := by unfold trM; rw [if_neg h]
theorem trM_le {N : Int} {r : Mr} (h : r.id ≤ N) : (trM N r).fo = true ∧ (trM N r).si = false := by unfold trM; rw [if_pos h]; exact ⟨rfl, rfl⟩
section
variable {s : Fs} {room used : Int} {dir : Nm} {cnt : Nat} {rs : List Mr} {fs : List Int}
/-- What a fold is of. -/
structure FoldOf (rs : List Mr) (fs : List Int) (upto N : Int) : Prop where
  up : foldUp rs fs upto = rs.filter fun r => decide (r.id ≤ N)
  at_ : ∃ r ∈ rs, r.id = N
  fo : ∀ r ∈ rs, r.fo = true → r.id ≤ N
theorem fold_of {mp : Nm → Option Nat} (h : Lf s mp rs fs) (hr : Rise rs) {upto : Int} (hup : foldUp rs fs upto ≠ []) : FoldOf rs fs upto (foldId rs fs upto) := by
  obtain ⟨r0, hr0, e0⟩ := last_mem hup
  have hK : ∀ r ∈ rs, (r.id ≤ foldId rs fs upto ↔ r.id ≤ foldN fs upto) := fun r hm => by
    have h0 := ((up_mem hr (foldN fs upto) r0).1 hr0).2
    constructor
    · intro h1
      have : foldId rs fs upto = r0.id := e0
      omega
    · intro h1
      exact last_ge (rise_take hr _) ((up_mem hr (foldN fs upto) r).2 ⟨hm, h1⟩)
  refine ⟨?_, ⟨r0, ((up_mem hr (foldN fs upto) r0).1 hr0).1, e0.symm⟩, fun r hm hf => ?_⟩
  · show rs.take (upI rs (foldN fs upto)) = _
    rw [up_filter hr]
    refine List.filter_congr fun r hm => ?_
    rw [decide_eq_decide]
    exact (hK r hm).symm
  · refine (hK r hm).2 ?_
    cases hfs : fs with
    | nil => rw [h.none_ hfs r hm] at hf; cases hf
    | cons n t =>
      have ht : t = [] := by
        have := h.fs1
        rw [hfs] at this
        cases t with
        | nil => rfl
        | cons a b => simp at this
      have h1 := (h.some_ n (by rw [hfs]; exact List.mem_cons_self ..)).2 r hm hf
      unfold foldN
      rw [if_neg (by simp), ht]
      show r.id ≤ max upto n
      omega
theorem lg_fold (h : Lg s room used dir cnt rs fs) (hr : Rise rs) (hi : ∀ r ∈ rs, 0 ≤ r.id ∧ r.id ≤ 9223372036854775807) (hif : ∀ i ∈ fs, 0 ≤ i ∧ i ≤ 9223372036854775807) (hc : cnt < 4000) (upto : Int) (T : Nat) (hT : ∀ k, (fr (listL pairL ((rs.take k).map prOf))).length ≤ T) (hb : T ≤ 16777216) (hu : used + T ≤ room) {y : Nat} (hy : s.file y = none) :
    ∃ E rs' fs' s', foldR s dir rs fs upto y = (E, rs', fs', s') ∧ Lg s' room (used + T) dir (cnt + 2) rs' fs' ∧ Beside dir s s' ∧ SameT rs rs' ∧ (E = 0 ∨ E = 91) ∧ ((∃ r ∈ rs, r.id ≤ upto) → E = 0) := by
  obtain ⟨g, mp, d, f⟩ := h
  by_cases hup : foldUp rs fs upto = []
  · refine ⟨_, _, _, _, foldR_none hup, ⟨g.more (by omega), mp, d.more (by omega), f⟩, Beside.refl _ _, SameT.refl _, .inr rfl, ?_⟩
    rintro ⟨r, h1, h2⟩
    have h3 : r ∈ foldUp rs fs upto := (up_mem hr (foldN fs upto) r).2 ⟨h1, by unfold foldN; split <;> omega⟩
    rw [hup] at h3
    cases h3
  obtain ⟨N, hN⟩ : ∃ N, foldId rs fs upto = N := ⟨_, rfl⟩
  have O := fold_of f hr hup
  rw [hN] at O
  obtain ⟨r0, hr0, e0⟩ := O.at_
  have hN0 := hi r0 hr0
  rw [e0] at hN0
  by_cases hgo : foldGo rs fs N = []
  · exact ⟨_, _, _, _, foldR_same hup (by rw [hN]; exact hgo), ⟨g.more (by omega), mp, d.more (by omega), f⟩, Beside.refl _ _, SameT.refl _, .inl rfl, fun _ => rfl⟩
  have hT2 : (fr (listL pairL ((foldUp rs fs upto).map prOf))).length ≤ T := hT _
  obtain ⟨s', e, F⟩ := fold_gl (rs := rs) (fs := fs) (N := N) g d (fun n hn => by
    unfold foldGo lvN bNames fNames at hn
    rcases List.mem_append.1 hn with h1 | h1
    · obtain ⟨r, h2, rfl⟩ := List.mem_map.1 h1
      obtain ⟨h3, h4⟩ := List.mem_filter.1 h2
      obtain ⟨x, h5, _⟩ := f.single r h3 (by simp at h4; exact h4.1)
      rw [h5]; rfl
    · obtain ⟨i, h2, rfl⟩ := List.mem_map.1 h1
      obtain ⟨x, h5, _⟩ := f.fold i (List.mem_filter.1 h2).1
      rw [h5]; rfl) (lv_nodup hr hi f.fs1 _ _) (f.tmp _) hc (up := foldUp rs fs upto) (by omega) (by omega) y
  have gB : ∀ a : Int, 0 ≤ a ∧ a ≤ 9223372036854775807 → ∀ r ∈ rs, r.id = a → bN a ∈ foldGo rs fs N → a ≤ N := by
    intro a ha r hrm hra hm
    unfold foldGo lvN bNames fNames at hm
    rcases List.mem_append.1 hm with h1 | h1
    · obtain ⟨q, h2, h3⟩ := List.mem_map.1 h1
      obtain ⟨h4, h5⟩ := List.mem_filter.1 h2
      have h6 := bN_inj (hi q h4) ha h3
      simp [leI] at h5
      omega
    · obtain ⟨q, h2, h3⟩ := List.mem_map.1 h1
      exact absurd h3.symm (b_f _ _)
  have gBin : ∀ r ∈ rs, r.si = true → r.id ≤ N → bN r.id ∈ foldGo rs fs N := fun r h1 h2 h3 => by
    unfold foldGo lvN bNames
    exact List.mem_append.2 (.inl (List.mem_map.2 ⟨r, List.mem_filter.2 ⟨h1, by simp [leI, h2, h3]⟩, rfl⟩))
  have gF : fN N ∉ foldGo rs fs N := by
    intro hm
    unfold foldGo lvN bNames fNames at hm
    rcases List.mem_append.1 hm with h1 | h1
    · obtain ⟨q, h2, h3⟩ := List.mem_map.1 h1
      exact absurd h3 (b_f _ _)
    · obtain ⟨q, h2, h3⟩ := List.mem_map.1 h1
      obtain ⟨h4, h5⟩ := List.mem_filter.1 h2
      have h6 := fN_inj (hif q h4) hN0 h3
      simp [neI] at h5
      exact h5 h6
  have gFin : ∀ i ∈ fs, i ≠ N → fN i ∈ foldGo rs fs N := fun i h1 h2 => by
    unfold foldGo lvN fNames
    exact List.mem_append.2 (.inr (List.mem_map.2 ⟨i, List.mem_filter.2 ⟨h1, by simp [neI, h2]⟩, rfl⟩))
  have hold : ∀ n z, mp n = some z → z ≠ y := fun n z hm e => by
    obtain ⟨b, h1⟩ := f.laid hm
    rw [e, hy] at h1
    cases h1
  have hfB : foldB (rs.map (trM N)) = listL pairL ((foldUp rs fs upto).map prOf) := by
    unfold foldB
    rw [List.filter_map, List.map_map, O.up]
    congr 1
    have h1 : (rs.filter ((fun r => r.fo) ∘ trM N)) = rs.filter fun r => decide (r.id ≤ N) := List.filter_congr fun r hm => by
      show (trM N r).fo = _
      by_cases h2 : r.id ≤ N
      · rw [(trM_le h2).1, decide_eq_true h2]
      · rw [trM_gt h2, decide_eq_false h2]
        cases h3 : r.fo with
        | false => rfl
        | true => exact absurd (O.fo r hm h3) h2
    rw [h1]
    exact List.map_congr_left fun r _ => prOf_tr N r
  refine ⟨0, rs.map (trM N), [N], s', by rw [foldR_m hup (by rw [hN]; exact hgo), hN]; exact e, ⟨F.gl.more (by omega), _, F.dr, fun n => ?_, fun r hr hs => ?_, fun i hi2 => ?_, fun n z hm => ?_, Nat.le_refl _, fun r hr => ?_, fun e => by simp at e, fun n hn => ?_⟩, F.beside, same_tr rs N, .inl rfl, fun _ => rfl⟩
  · split
    · rfl
    · rw [if_neg (tmp_f n N)]; exact f.tmp n
  · obtain ⟨q, hq, rfl⟩ := List.mem_map.1 hr
    have h1 : ¬ q.id ≤ N := fun h1 => by rw [(trM_le h1).2] at hs; cases hs
    rw [trM_gt h1] at hs ⊢
    obtain ⟨z, h2, h3⟩ := f.single q hq hs
    refine ⟨z, ?_, (F.old z (hold _ z h2)).trans h3⟩
    rw [if_neg (fun h4 => h1 (gB q.id (hi q hq) q hq rfl h4)), if_neg (b_f _ _)]
    exact h2
  · obtain rfl := List.mem_singleton.1 hi2
    refine ⟨y, ?_, ?_⟩
    · rw [if_neg gF, if_pos rfl]
    · rw [hfB]; exact F.at_
  · by_cases h1 : n ∈ foldGo rs fs N
    · rw [if_pos h1] at hm; cases hm
    · rw [if_neg h1] at hm
      by_cases h2 : n = fN N
      · exact .inr ⟨N, List.mem_singleton.2 rfl, h2⟩
      · rw [if_neg h2] at hm
        rcases f.only n z hm with ⟨r, hr1, hs1, h3⟩ | ⟨i, hi1, h3⟩
        · have h4 : ¬ r.id ≤ N := fun h4 => h1 (by rw [h3]; exact gBin r hr1 hs1 h4)
          exact .inl ⟨r, List.mem_map.2 ⟨r, hr1, trM_gt h4⟩, hs1, h3⟩
        · by_cases h4 : i = N
          · exact absurd (by rw [h3, h4]) h2
          · exact absurd (by rw [h3]; exact gFin i hi1 h4) h1
  · obtain ⟨q, hq, rfl⟩ := List.mem_map.1 hr
    by_cases h1 : q.id ≤ N
    · rw [(trM_le h1).1, (trM_le h1).2]; rfl
    · rw [trM_gt h1]; exact f.fo q hq
  · obtain rfl := List.mem_singleton.1 hn
    refine ⟨⟨trM n r0, List.mem_map.2 ⟨r0, hr0, rfl⟩, by rw [trM_id]; exact e0, (trM_le (by omega)).1⟩, fun r hr hf => ?_⟩
    obtain ⟨q, hq, rfl⟩ := List.mem_map.1 hr
    rw [trM_id]
    by_cases h1 : q.id ≤ n
    · exact h1
    · rw [trM_gt h1] at hf
      exact O.fo q hq hf
end
end Go.Proofs.YtnkhgajghfonhaaGreatDoor
