/- What a seat needs of several texts. -/
import Derived.Test.YtclcabdekeegdaaGreatDecP
import Derived.Lib.SplitLaws
/- From DecP2. -/
namespace Go.Proofs.YtclcabdekeegdaaGreat
set_option linter.unusedVariables false
def mt : ByteArray := ⟨#[]⟩
def rep1 (o : UInt8) (l : List UInt8) : List UInt8 := l.flatMap fun c => if c = o then [92, c] else [c]
theorem rep1_nil (o : UInt8) : rep1 o [] = [] := rfl
theorem rep1_cons (o c : UInt8) (l : List UInt8) : rep1 o (c :: l) = (if c = o then [92, c] else [c]) ++ rep1 o l := by simp [rep1]
theorem replaceK_rep (o : UInt8) : ∀ s : List UInt8, Lib.replaceK [o] [92, o] (Lib.count s [o]) s = rep1 o s
  | [] => by
    have : Lib.count ([] : List UInt8) [o] = 0 := by simp [Lib.count, Lib.countFrom, Lib.index]
    rw [this]
    rfl
  | c :: r => by
    have ih := replaceK_rep o r
    by_cases hc : c = o
    · subst hc
      have h0 : Lib.index (c :: r) [c] = ((0 : Nat) : Int) := by unfold Lib.index; simp
      rw [Lib.count_cons_eq, Nat.add_comm, Lib.replaceK_hit _ _ _ _ 0 h0]
      simp only [List.take_zero, List.nil_append, Nat.zero_add, List.length_cons, List.length_nil, List.drop_succ_cons, List.drop_zero, ih]
      rw [rep1_cons, if_pos rfl]
    · rw [Lib.count_cons_ne _ _ _ hc, rep1_cons, if_neg hc]
      cases hk : Lib.count r [o] with
      | zero =>
        rw [hk] at ih
        rw [Lib.replaceK] at ih ⊢
        rw [← ih]
        rfl
      | succ k =>
        obtain ⟨i, hi⟩ := Lib.index_of_count (s := r) (old := [o]) (by omega)
        have hi2 : Lib.index (c :: r) [o] = ((i + 1 : Nat) : Int) := by
          have hne : (o == c) = false := by simpa using fun e => hc e.symm
          have hm : (Lib.index r [o] == -1) = false := by rw [hi]; simp
          unfold Lib.index
          simp only [List.isPrefixOf, hne, Bool.false_and, Bool.false_eq_true, if_false, hm]
          rw [hi]
          rfl
        rw [hk, Lib.replaceK_hit _ _ _ _ i hi] at ih
        rw [Lib.replaceK_hit _ _ _ _ (i + 1) hi2]
        rw [← ih]
        simp
theorem replaceAll_rep (o : UInt8) (s : List UInt8) : Lib.replaceAll s [o] [92, o] = rep1 o s := by
  unfold Lib.replaceAll Lib.replace
  rw [if_neg (by simp)]
  unfold Lib.replaceNum
  rw [if_pos (by omega), replaceK_rep]
def escT (l : List UInt8) : List UInt8 := l.flatMap fun c => if c = 44 ∨ c = 92 then [92, c] else [c]
theorem escT_nil : escT [] = [] := rfl
theorem escT_cons (c : UInt8) (l : List UInt8) : escT (c :: l) = (if c = 44 ∨ c = 92 then [92, c] else [c]) ++ escT l := by simp [escT]
theorem escT_snoc (l : List UInt8) (c : UInt8) : escT (l ++ [c]) = escT l ++ (if c = 44 ∨ c = 92 then [92, c] else [c]) := by simp [escT]
theorem rep_rep (l : List UInt8) : rep1 44 (rep1 92 l) = escT l := by
  induction l with
  | nil => rfl
  | cons c r ih =>
    rw [rep1_cons, escT_cons, ← ih]
    by_cases h : c = 92
    · subst h
      simp [rep1_cons]
    · by_cases h2 : c = 44
      · subst h2; simp [rep1_cons]
      · simp [rep1_cons, h, h2]
theorem rep1_length (o : UInt8) (l : List UInt8) : (rep1 o l).length ≤ 2 * l.length := by
  induction l with
  | nil => simp [rep1]
  | cons c r ih => rw [rep1_cons]; split <;> simp <;> omega
theorem escT_length (l : List UInt8) : (escT l).length ≤ 2 * l.length := by
  induction l with
  | nil => simp [escT]
  | cons c r ih => rw [escT_cons]; split <;> simp <;> omega
/-- The text without its backslashes; nothing: some backslash stands ahead of something else. -/
def unesc : List UInt8 → Option (List UInt8)
  | [] => some []
  | [c] => if c = 92 then none else some [c]
  | c :: d :: r => if c = 92 then (if d = 44 ∨ d = 92 then (unesc r).map (d :: ·) else none) else (unesc (d :: r)).map (c :: ·)
theorem unesc_nil : unesc [] = some [] := rfl
theorem unesc_go (c : UInt8) (r : List UInt8) (h : c ≠ 92) : unesc (c :: r) = (unesc r).map (c :: ·) := by
  cases r with
  | nil => simp [unesc, h]
  | cons d r => rw [unesc, if_neg h]
theorem unesc_last : unesc [92] = none := rfl
theorem unesc_pair (d : UInt8) (r : List UInt8) (h : d = 44 ∨ d = 92) : unesc (92 :: d :: r) = (unesc r).map (d :: ·) := by rw [unesc, if_pos rfl, if_pos h]
theorem unesc_bad (d : UInt8) (r : List UInt8) (h : ¬ (d = 44 ∨ d = 92)) : unesc (92 :: d :: r) = none := by rw [unesc, if_pos rfl, if_neg h]
theorem unesc_esc (l r : List UInt8) : unesc (escT l ++ r) = (unesc r).map (l ++ ·) := by
  induction l with
  | nil => rw [escT_nil, List.nil_append]; cases unesc r <;> simp
  | cons c l ih =>
    rw [escT_cons]
    by_cases h : c = 44 ∨ c = 92
    · rw [if_pos h]
      show unesc (92 :: c :: (escT l ++ r)) = _
      rw [unesc_pair _ _ h, ih]
      cases unesc r <;> simp
    · rw [if_neg h]
      show unesc (c :: (escT l ++ r)) = _
      rw [unesc_go _ _ (fun e => h (.inr e)), ih]
      cases unesc r <;> simp
theorem unesc_len : ∀ (l b : List UInt8), unesc l = some b → b.length ≤ l.length
  | [], b, h => by injection h with h; subst h; simp
  | [c], b, h => by
    unfold unesc at h
    split at h
    · cases h
    · injection h with h; subst h; simp
  | c :: d :: r, b, h => by
    unfold unesc at h
    split at h
    · split at h
      · cases hu : unesc r with
        | none => rw [hu] at h; cases h
        | some b2 =>
          rw [hu] at h; injection h with h; subst h
          have := unesc_len r b2 hu
          simp; omega
      · cases h
    · cases hu : unesc (d :: r) with
      | none => rw [hu] at h; cases h
      | some b2 =>
        rw [hu] at h; injection h with h; subst h
        have := unesc_len (d :: r) b2 hu
        simp at *; omega
/-- A field in which no comma stands alone: what it says is written as it. -/
theorem esc_unesc : ∀ (l b : List UInt8), fl l = l.length → unesc l = some b → escT b = l
  | [], b, _, h => by injection h with h; subst h; rfl
  | [c], b, hf, h => by
    unfold unesc at h
    split at h
    · cases h
    · rename_i h2
      injection h with h; subst h
      have h3 : c ≠ 44 := fun e => by subst e; simp [fl] at hf
      simp [escT_cons, escT_nil, h2, h3]
  | c :: d :: r, b, hf, h => by
    by_cases h44 : c = 44
    · subst h44; rw [fl_cut] at hf; simp at hf
    · by_cases h92 : c = 92
      · subst h92
        rw [fl_back] at hf
        by_cases hd : d = 44 ∨ d = 92
        · rw [unesc_pair _ _ hd] at h
          cases hu : unesc r with
          | none => rw [hu] at h; cases h
          | some b2 =>
            rw [hu] at h; injection h with h; subst h
            have := esc_unesc r b2 (by simp at hf; omega) hu
            rw [escT_cons, if_pos hd, this]; rfl
        · rw [unesc_bad _ _ hd] at h; cases h
      · rw [fl_go _ _ h44 h92] at hf
        rw [unesc_go _ _ h92] at h
        cases hu : unesc (d :: r) with
        | none => rw [hu] at h; cases h
        | some b2 =>
          rw [hu] at h; injection h with h; subst h
          have := esc_unesc (d :: r) b2 (by simp at *; omega) hu
          rw [escT_cons, if_neg (by simp [h44, h92]), this]; rfl
def tru : List UInt8 := [116, 114, 117, 101]
def fls : List UInt8 := [102, 97, 108, 115, 101]
def nul : List UInt8 := [92, 78]
def textV (l : List UInt8) : Option (List UInt8) := (unesc l).bind fun b => if b.length ≤ 200 then some b else none
def saysV (k : Int) (l : List UInt8) : Option V :=
  if l = nul then some ⟨0, 0, mt⟩
  else if k = 1 then (intV l).map fun n => ⟨1, n, mt⟩
  else if k = 2 then (if l = tru then some ⟨2, 1, mt⟩ else if l = fls then some ⟨2, 0, mt⟩ else none)
  else (textV l).map fun b => ⟨3, 0, txt b⟩
theorem saysV_nul (k : Int) : saysV k nul = some ⟨0, 0, mt⟩ := by unfold saysV; rw [if_pos rfl]
theorem saysV_int {l : List UInt8} (h : l ≠ nul) : saysV 1 l = (intV l).map fun n => ⟨1, n, mt⟩ := by unfold saysV; rw [if_neg h, if_pos rfl]
theorem saysV_bool {l : List UInt8} (h : l ≠ nul) : saysV 2 l = if l = tru then some ⟨2, 1, mt⟩ else if l = fls then some ⟨2, 0, mt⟩ else none := by unfold saysV; rw [if_neg h, if_neg (by decide), if_pos rfl]
theorem saysV_text {l : List UInt8} (h : l ≠ nul) : saysV 3 l = (textV l).map fun b => ⟨3, 0, txt b⟩ := by unfold saysV; rw [if_neg h, if_neg (by decide), if_neg (by decide)]
theorem mt_size : mt.size = 0 := rfl
/-- What a field says is right, and of its kind or null. -/
theorem saysV_right {k : Int} (hk : k = 1 ∨ k = 2 ∨ k = 3) {l : List UInt8} {v : V} (h : saysV k l = some v) : chk v = 0 ∧ (v.k = 0 ∨ v.k = k) ∧ v.wf := by
  by_cases hn : l = nul
  · subst hn; rw [saysV_nul] at h; injection h with h; subst h
    exact ⟨by decide, .inl rfl, by simp [V.wf, in64, mt_size]⟩
  · rcases hk with rfl | rfl | rfl
    · rw [saysV_int hn] at h
      cases hi : intV l with
      | none => rw [hi] at h; cases h
      | some n =>
        rw [hi] at h; injection h with h; subst h
        refine ⟨?_, .inr rfl, by simp [in64], (intV_some hi).1, by simp [mt_size]⟩
        simp [chk, mt_size]
    · rw [saysV_bool hn] at h
      split at h
      · injection h with h; subst h; exact ⟨by decide, .inr rfl, by simp [V.wf, in64, mt_size]⟩
      · split at h
        · injection h with h; subst h; exact ⟨by decide, .inr rfl, by simp [V.wf, in64, mt_size]⟩
        · cases h
    · rw [saysV_text hn] at h
      cases hi : textV l with
      | none => rw [hi] at h; cases h
      | some b =>
        rw [hi] at h; injection h with h; subst h
        have hb : b.length ≤ 200 := by
          unfold textV at hi
          cases hu : unesc l with
          | none => rw [hu] at hi; cases hi
          | some b2 =>
            rw [hu] at hi
            simp only [Option.bind_some] at hi
            split at hi
            · injection hi with hi; subst hi; assumption
            · cases hi
        refine ⟨?_, .inr rfl, by simp [in64], by simp [in64], by simp [txt_size]; omega⟩
        simp [chk, txt_size]; omega
/-- The field that says v. -/
def wr (v : V) : List UInt8 :=
  if v.k = 1 then Lib.itoa v.n else if v.k = 2 then (if v.n = 1 then tru else fls) else if v.k = 3 then escT v.s.data.toList else nul
def fits (c : C) (v : V) : Bool := decide (chk v = 0) && decide (v.k = 0 ∨ v.k = c.k)
theorem itoa_chars (n : Int) : ∀ c ∈ Lib.itoa n, c = 45 ∨ dgt c = true := by
  intro c hc
  unfold Lib.itoa at hc
  split at hc
  · rcases List.mem_cons.1 hc with h | h
    · exact .inl h
    · exact .inr (List.all_eq_true.1 (dig_all _) c h)
  · exact .inr (List.all_eq_true.1 (dig_all _) c hc)
theorem itoa_plain (n : Int) : ∀ c ∈ Lib.itoa n, c ≠ 44 ∧ c ≠ 92 := by
  intro c hc
  rcases itoa_chars n c hc with rfl | h
  · decide
  · simp only [dgt, decide_eq_true_eq] at h
    exact ⟨fun e => by subst e; revert h; decide, fun e => by subst e; revert h; decide⟩
theorem itoa_nul (n : Int) : Lib.itoa n ≠ nul := fun e => (itoa_plain n 92 (by rw [e]; simp [nul])).2 rfl
theorem escT_nul (l : List UInt8) : escT l ≠ nul := by
  cases l with
  | nil => intro h; cases h
  | cons c r =>
    rw [escT_cons]
    split
    · rename_i h
      intro e
      simp [nul] at e
      obtain ⟨rfl, _⟩ := e
      revert h; decide
    · rename_i h
      intro e
      simp [nul] at e
      exact h (.inr e.1)
theorem txt_ext (s : ByteArray) : txt s.data.toList = s := txt_data s
theorem size_zero {s : ByteArray} (h : s.size = 0) : s = mt := empty_of_size h
/-- What is written is read as it. -/
theorem says_wr {c : C} (hk : c.k = 1 ∨ c.k = 2 ∨ c.k = 3) {v : V} (hw : v.wf) (h : fits c v = true) : saysV c.k (wr v) = some v := by
  simp only [fits, Bool.and_eq_true, decide_eq_true_eq] at h
  obtain ⟨h1, h2⟩ := h
  obtain ⟨k, n, s⟩ := v
  obtain ⟨_, wn, _⟩ := hw
  rcases chk_kinds h1 with ⟨e1, e2, e3⟩ | ⟨e1, e3⟩ | ⟨e1, e2, e3⟩ | ⟨e1, e2, e3⟩
  · simp only at e1 e2 e3; subst e1 e2
    obtain rfl := size_zero e3
    exact saysV_nul _
  · simp only at e1 e3 h2; subst e1
    obtain rfl := size_zero e3
    have hc : c.k = 1 := by omega
    rw [hc, show wr ⟨1, n, mt⟩ = Lib.itoa n from rfl, saysV_int (itoa_nul n), intV_itoa wn]; rfl
  · simp only at e1 e2 e3 h2; subst e1
    obtain rfl := size_zero e3
    have hc : c.k = 2 := by omega
    rw [hc]
    rcases e2 with rfl | rfl
    · rw [show wr ⟨2, 0, mt⟩ = fls from rfl, saysV_bool (by decide)]; rfl
    · rw [show wr ⟨2, 1, mt⟩ = tru from rfl, saysV_bool (by decide)]; rfl
  · simp only at e1 e2 e3 h2; subst e1 e2
    have hc : c.k = 3 := by omega
    rw [hc, show wr ⟨3, 0, s⟩ = escT s.data.toList from rfl, saysV_text (escT_nul _)]
    have hu := unesc_esc s.data.toList []
    rw [List.append_nil, unesc_nil] at hu
    simp only [Option.map_some, List.append_nil] at hu
    unfold textV
    rw [hu]
    simp only [Option.bind_some]
    rw [if_pos (by rw [← size_eq]; exact e3)]
    simp [txt_data]
/-- What is read is written as it. -/
theorem wr_says {k : Int} (hk : k = 1 ∨ k = 2 ∨ k = 3) {l : List UInt8} (hf : fl l = l.length) {v : V} (h : saysV k l = some v) : wr v = l := by
  by_cases hn : l = nul
  · subst hn; rw [saysV_nul] at h; injection h with h; subst h; rfl
  · rcases hk with rfl | rfl | rfl
    · rw [saysV_int hn] at h
      cases hi : intV l with
      | none => rw [hi] at h; cases h
      | some n =>
        rw [hi] at h; injection h with h; subst h
        exact (intV_some hi).2
    · rw [saysV_bool hn] at h
      split at h
      · injection h with h; subst h; rename_i h; exact h.symm
      · split at h
        · injection h with h; subst h; rename_i h; exact h.symm
        · cases h
    · rw [saysV_text hn] at h
      cases hi : textV l with
      | none => rw [hi] at h; cases h
      | some b =>
        rw [hi] at h; injection h with h; subst h
        unfold textV at hi
        cases hu : unesc l with
        | none => rw [hu] at hi; cases hi
        | some b2 =>
          rw [hu] at hi
          simp only [Option.bind_some] at hi
          split at hi
          · injection hi with hi; subst hi
            exact esc_unesc l _ hf hu
          · cases hi
def rowsV : List C → List (List UInt8) → Option (List V)
  | [], [] => some []
  | c :: cs, f :: fs => match saysV c.k f, rowsV cs fs with
    | some v, some r => some (v :: r)
    | _, _ => none
  | _, _ => none
/-- A row, or what is wrong with the record. -/
def rowE (cs : List C) (l : List UInt8) : Int := if rightB cs = false then 120 else if (splitL l).length ≠ cs.length then 121 else if rowsV cs (splitL l) = none then 122 else 0
def rowV (cs : List C) (l : List UInt8) : List V := if rowE cs l = 0 then (rowsV cs (splitL l)).getD [] else []
theorem rowsV_some {cs : List C} {fs : List (List UInt8)} {r : List V} (h : rowsV cs fs = some r) : r.length = cs.length ∧ fs.length = cs.length ∧ ∀ i (hi : i < cs.length) (hf : i < fs.length) (hr : i < r.length), saysV cs[i].k fs[i] = some r[i] := by
  induction cs generalizing fs r with
  | nil =>
    cases fs with
    | nil => injection h with h; subst h; exact ⟨rfl, rfl, fun i hi => by simp at hi⟩
    | cons f fs => cases h
  | cons c cs ih =>
    cases fs with
    | nil => cases h
    | cons f fs =>
      unfold rowsV at h
      split at h
      · rename_i v r2 h1 h2
        injection h with h; subst h
        obtain ⟨a1, a2, a3⟩ := ih h2
        refine ⟨by simp [a1], by simp [a2], fun i hi hf hr => ?_⟩
        cases i with
        | zero => exact h1
        | succ i => exact a3 i _ _ _
      · cases h
theorem rowsV_of {cs : List C} {fs : List (List UInt8)} {r : List V} (h1 : r.length = cs.length) (h2 : fs.length = cs.length) (h : ∀ i (hi : i < cs.length), saysV cs[i].k (fs[i]'(by omega)) = some (r[i]'(by omega))) : rowsV cs fs = some r := by
  induction cs generalizing fs r with
  | nil =>
    obtain rfl := List.eq_nil_of_length_eq_zero h1
    obtain rfl := List.eq_nil_of_length_eq_zero h2
    rfl
  | cons c cs ih =>
    match r, fs, h1, h2, h with
    | v :: r, f :: fs, h1, h2, h =>
      have a := h 0 (by simp)
      have b := ih (r := r) (fs := fs) (by simpa using h1) (by simpa using h2) (fun i hi => by have := h (i + 1) (by simpa using hi); simpa using this)
      simp only [List.getElem_cons_zero] at a
      unfold rowsV
      rw [a, b]
theorem rowsV_bad {cs : List C} {fs : List (List UInt8)} {i : Nat} (hi : i < cs.length) (hf : i < fs.length) (h : saysV cs[i].k fs[i] = none) : rowsV cs fs = none := by
  cases hr : rowsV cs fs with
  | none => rfl
  | some r =>
    obtain ⟨h1, h2, h3⟩ := rowsV_some hr
    have := h3 i hi hf (by omega)
    rw [h] at this; cases this
def jn : List (List UInt8) → List UInt8
  | [] => []
  | a :: r => a ++ r.flatMap fun x => 44 :: x
theorem jn_snoc (l : List (List UInt8)) (x : List UInt8) (h : 1 ≤ l.length) : jn (l ++ [x]) = jn l ++ (44 :: x) := by
  cases l with
  | nil => simp at h
  | cons a r => simp [jn]
theorem jn_cons (a b : List UInt8) (r : List (List UInt8)) : jn (a :: b :: r) = a ++ (44 :: jn (b :: r)) := by simp [jn]
theorem len_jn {l : List (List UInt8)} {f : List UInt8} (h : f ∈ l) : f.length ≤ (jn l).length := by
  cases l with
  | nil => simp at h
  | cons a r =>
    rcases List.mem_cons.1 h with rfl | h
    · simp [jn]
    · have : ∀ r : List (List UInt8), f ∈ r → f.length ≤ (r.flatMap fun x => 44 :: x).length := by
        intro r
        induction r with
        | nil => intro h; simp at h
        | cons b r ih =>
          intro h
          rcases List.mem_cons.1 h with rfl | h
          · simp; omega
          · have := ih h; simp only [List.flatMap_cons, List.length_append]; omega
      have := this r h
      simp only [jn, List.length_append]; omega
def fitsL : List C → List V → Bool
  | [], [] => true
  | c :: cs, v :: vs => fits c v && fitsL cs vs
  | _, _ => false
theorem fitsL_iff {cs : List C} {vs : List V} (hl : vs.length = cs.length) : fitsL cs vs = true ↔ ∀ i (hi : i < cs.length), fits cs[i] (vs[i]'(by omega)) = true := by
  induction cs generalizing vs with
  | nil => obtain rfl := List.eq_nil_of_length_eq_zero hl; simp [fitsL]
  | cons c cs ih =>
    match vs, hl with
    | v :: vs, hl =>
      unfold fitsL
      rw [Bool.and_eq_true, ih (vs := vs) (by simpa using hl)]
      constructor
      · rintro ⟨h1, h2⟩ i hi
        cases i with
        | zero => exact h1
        | succ i => exact h2 i (by simpa using hi)
      · intro h
        exact ⟨h 0 (by simp), fun i hi => h (i + 1) (by simpa using hi)⟩
def recE (cs : List C) (vs : List V) : Int := if rightB cs = false then 120 else if vs.length ≠ cs.length then 121 else if fitsL cs vs = false then 122 else 0
def recV (cs : List C) (vs : List V) : List UInt8 := if recE cs vs = 0 then jn (vs.map wr) else []
theorem recE_zero {cs : List C} {vs : List V} (h : recE cs vs = 0) : rightB cs = true ∧ vs.length = cs.length ∧ fitsL cs vs = true := by
  unfold recE at h
  split at h
  · cases h
  · split at h
    · cases h
    · split at h
      · cases h
      · rename_i h1 h2 h3
        exact ⟨by simpa using h1, by simpa using h2, by simpa using h3⟩
theorem rowE_zero {cs : List C} {l : List UInt8} (h : rowE cs l = 0) : rightB cs = true ∧ (splitL l).length = cs.length ∧ rowsV cs (splitL l) = some (rowV cs l) := by
  have h0 := h
  unfold rowE at h
  split at h
  · cases h
  · split at h
    · cases h
    · split at h
      · cases h
      · rename_i h1 h2 h3
        refine ⟨by simpa using h1, by simpa using h2, ?_⟩
        unfold rowV
        rw [if_pos h0]
        cases hr : rowsV cs (splitL l) with
        | none => exact absurd hr h3
        | some r => rfl
/-- A field as it stands between commas. -/
def whole_ (w : List UInt8) : Prop := ∀ f rest, splitT false f (w ++ rest) = splitT false (f ++ w) rest
theorem whole_plain {w : List UInt8} (h : ∀ c ∈ w, c ≠ 44 ∧ c ≠ 92) : whole_ w := by
  intro f rest
  induction w generalizing f with
  | nil => simp
  | cons c w ih =>
    have hc := h c (by simp)
    rw [List.cons_append, splitT_go _ _ _ _ (by simp [hc.1]), show (!false && c == 92) = false by simp [hc.2], ih (fun d hd => h d (by simp [hd]))]
    simp
theorem whole_nul : whole_ nul := by
  intro f rest
  show splitT false f (92 :: 78 :: rest) = _
  rw [splitT_go _ _ _ _ (by simp), show (!false && (92 : UInt8) == 92) = true from rfl, splitT_go _ _ _ _ (by simp)]
  simp [nul]
theorem whole_esc (l : List UInt8) : whole_ (escT l) := by
  intro f rest
  induction l generalizing f with
  | nil => simp [escT_nil]
  | cons c l ih =>
    rw [escT_cons]
    by_cases h : c = 44 ∨ c = 92
    · rw [if_pos h]
      show splitT false f (92 :: c :: (escT l ++ rest)) = _
      rw [splitT_go _ _ _ _ (by simp), show (!false && (92 : UInt8) == 92) = true from rfl, splitT_go _ _ _ _ (by simp), show (!true && c == 92) = false from rfl, ih]
      simp
    · rw [if_neg h]
      show splitT false f (c :: (escT l ++ rest)) = _
      rw [splitT_go _ _ _ _ (by simp; exact fun e => h (.inl e)), show (!false && c == 92) = false by simp; exact fun e => h (.inr e), ih]
      simp
theorem whole_wr (v : V) : whole_ (wr v) := by
  unfold wr
  split
  · exact whole_plain (itoa_plain _)
  · split
    · split
      · exact whole_plain (by decide)
      · exact whole_plain (by decide)
    · split
      · exact whole_esc _
      · exact whole_nul
theorem split_jn : ∀ (ws : List (List UInt8)) (h : ∀ w ∈ ws, whole_ w), 1 ≤ ws.length → splitL (jn ws) = ws
  | [w], h, _ => by
    have := h w (by simp) [] []
    rw [List.append_nil, splitT_nil] at this
    simpa [jn, splitL] using this
  | w :: x :: r, h, _ => by
    have ih := split_jn (x :: r) (fun y hy => h y (by simp at hy ⊢; exact .inr hy)) (by simp)
    rw [jn_cons]
    unfold splitL
    rw [h w (by simp), splitT_cut]
    show _ :: splitL (jn (x :: r)) = _
    rw [ih]; simp
theorem jn_split_aux : ∀ (n : Nat) (l : List UInt8), l.length ≤ n → jn (splitL l) = l ∧ ∀ f ∈ splitL l, fl f = f.length
  | 0, l, h => by
    obtain rfl : l = [] := List.eq_nil_of_length_eq_zero (by omega)
    refine ⟨rfl, fun f hf => ?_⟩
    simp [splitL, splitT_nil] at hf
    subst hf; rfl
  | n + 1, l, h => by
    have hle := fl_le l
    have own : ∀ l : List UInt8, fl (l.take (fl l)) = fl l := fl_take
    unfold splitL
    rw [split_fl]
    by_cases h3 : fl l < l.length
    · rw [if_pos h3]
      obtain ⟨i1, i2⟩ := jn_split_aux n (l.drop (fl l + 1)) (by rw [List.length_drop]; omega)
      have hc := fl_comma l h3
      refine ⟨?_, fun f hf => ?_⟩
      · have hl := (splitT_len false [] (l.drop (fl l + 1))).1
        cases hs : splitL (l.drop (fl l + 1)) with
        | nil => unfold splitL at hs; rw [hs] at hl; simp at hl
        | cons x r =>
          rw [hs] at i1
          rw [List.nil_append, jn_cons, i1]
          rw [← hc, List.take_append_drop]
      · rcases List.mem_cons.1 hf with h4 | h4
        · subst h4
          rw [List.nil_append, own, List.length_take]; omega
        · exact i2 f h4
    · rw [if_neg h3]
      refine ⟨by simp [jn], fun f hf => ?_⟩
      simp at hf; subst hf; omega
where
  fl_take : ∀ l : List UInt8, fl (l.take (fl l)) = fl l
  | [] => rfl
  | [c] => by by_cases h : c = 44 <;> simp [fl, h]
  | c :: d :: r => by
    by_cases h : c = 44
    · subst h; rw [fl_cut]; rfl
    · by_cases h2 : c = 92
      · subst h2
        have := fl_take r
        rw [fl_back, show 2 + fl r = fl r + 1 + 1 by omega, List.take_succ_cons, List.take_succ_cons, fl_back, this]; omega
      · have := fl_take (d :: r)
        rw [fl_go _ _ h h2, show 1 + fl (d :: r) = fl (d :: r) + 1 by omega, List.take_succ_cons, fl_go _ _ h h2, this]; omega
  fl_comma : ∀ l : List UInt8, fl l < l.length → l.drop (fl l) = 44 :: l.drop (fl l + 1)
  | [c], h => by
    by_cases h1 : c = 44
    · subst h1; rfl
    · simp [fl, h1] at h
  | c :: d :: r, h => by
    by_cases h1 : c = 44
    · subst h1; rw [fl_cut]; rfl
    · by_cases h2 : c = 92
      · subst h2
        rw [fl_back] at h ⊢
        have := fl_comma r (by simp at h; omega)
        rw [show 2 + fl r = fl r + 1 + 1 by omega, List.drop_succ_cons, List.drop_succ_cons, this]
        simp
      · rw [fl_go _ _ h1 h2] at h ⊢
        have := fl_comma (d :: r) (by simp at *; omega)
        rw [show 1 + fl (d :: r) = fl (d :: r) + 1 by omega, List.drop_succ_cons, this]
        simp
theorem jn_split (l : List UInt8) : jn (splitL l) = l := (jn_split_aux l.length l (Nat.le_refl _)).1
theorem split_whole (l : List UInt8) : ∀ f ∈ splitL l, fl f = f.length := (jn_split_aux l.length l (Nat.le_refl _)).2
/-- Row of Record. -/
theorem row_rec {cs : List C} {vs : List V} (hw : ∀ v ∈ vs, v.wf) (h : recE cs vs = 0) : rowE cs (recV cs vs) = 0 ∧ rowV cs (recV cs vs) = vs := by
  obtain ⟨h1, h2, h3⟩ := recE_zero h
  have hl := rightB_len h1
  have hs : splitL (recV cs vs) = vs.map wr := by
    unfold recV
    rw [if_pos h]
    exact split_jn _ (fun w hw => by obtain ⟨v, _, rfl⟩ := List.mem_map.1 hw; exact whole_wr v) (by simp; omega)
  have hr : rowsV cs (splitL (recV cs vs)) = some vs := by
    rw [hs]
    refine rowsV_of h2 (by simp [h2]) (fun i hi => ?_)
    rw [List.getElem_map]
    exact says_wr (rightB_kinds h1 _ (List.getElem_mem _)) (hw _ (List.getElem_mem _)) ((fitsL_iff h2).1 h3 i hi)
  have he : rowE cs (recV cs vs) = 0 := by
    unfold rowE
    rw [if_neg (by simp [h1]), if_neg (by rw [hs]; simp [h2]), if_neg (by rw [hr]; simp)]
  refine ⟨he, ?_⟩
  unfold rowV
  rw [if_pos he, hr]; rfl
/-- Record of Row. -/
theorem rec_row {cs : List C} {l : List UInt8} (h : rowE cs l = 0) : recE cs (rowV cs l) = 0 ∧ recV cs (rowV cs l) = l := by
  obtain ⟨h1, h2, h3⟩ := rowE_zero h
  obtain ⟨a1, a2, a3⟩ := rowsV_some h3
  have hf : fitsL cs (rowV cs l) = true := (fitsL_iff a1).2 fun i hi => by
    have := saysV_right (rightB_kinds h1 _ (List.getElem_mem hi)) (a3 i hi (by omega) (by omega))
    simp only [fits, Bool.and_eq_true, decide_eq_true_eq]
    exact ⟨this.1, this.2.1⟩
  have he : recE cs (rowV cs l) = 0 := by
    unfold recE
    rw [if_neg (by simp [h1]), if_neg (by simp [a1]), if_neg (by simp [hf])]
  refine ⟨he, ?_⟩
  unfold recV
  rw [if_pos he]
  have hm : (rowV cs l).map wr = splitL l := by
    refine List.ext_getElem (by simp; omega) (fun i hi hj => ?_)
    rw [List.getElem_map]
    exact wr_says (rightB_kinds h1 cs[i] (List.getElem_mem _)) (split_whole l _ (List.getElem_mem _)) (a3 i (by omega) hj (by simpa using hi))
  rw [hm, jn_split]
theorem rowV_wf {cs : List C} {l : List UInt8} : ∀ v ∈ rowV cs l, v.wf ∧ chk v = 0 := by
  intro v hv
  by_cases h : rowE cs l = 0
  · obtain ⟨h1, h2, h3⟩ := rowE_zero h
    obtain ⟨a1, a2, a3⟩ := rowsV_some h3
    obtain ⟨i, hi, rfl⟩ := List.mem_iff_getElem.1 hv
    have := saysV_right (rightB_kinds h1 _ (List.getElem_mem (by omega))) (a3 i (by omega) (by omega) hi)
    exact ⟨this.2.2, this.1⟩
  · unfold rowV at hv; rw [if_neg h] at hv; simp at hv
end Go.Proofs.YtclcabdekeegdaaGreat
