/- Layer 17, walked: the document's Get, Drop, Set. -/
import Derived.Test.YtmeoednndfgffaaTaP
import Derived.Test.YtmeoednndfgffaaWnB2
import Derived.Sort.Walk0
namespace Go.Proofs.Ytmeoednndfgffaa
open Go Go.ChangeShapes Go.WideShapes Go.ChangeAt Go.RowKit
set_option linter.unusedVariables false
set_option linter.unusedSimpArgs false
abbrev Kp := KV ByteArray
def kpC (c : Kp) : List Value := [.string c.k, .string c.v]
theorem kp_len (c : Kp) : (kpC c).length = 2 := rfl
theorem kp_one (c : Kp) : ∀ u ∈ kpC c, u.oneCell' = true := by simp [kpC, Value.oneCell']
theorem infoPair : (Try.prog.info? 38).map (fun i => (i.zero, i.size, i.bytes)) = some (some (Value.agg #[.string ⟨#[]⟩, .string ⟨#[]⟩]), 2, 32) := by kernel_rfl
/-- Pairs, side by side. -/
def PRow (w : World) (B : Nat) (A : Option Addr) (l : List Kp) : Prop :=
  ∀ (j : Nat) (h : j < l.length), ∃ b off, A = some ⟨b, off, none⟩ ∧ b < B ∧ w.cell? ⟨b, off + j * 2, none⟩ = some (.string l[j].k) ∧ w.cell? ⟨b, off + j * 2 + 1, none⟩ = some (.string l[j].v)
theorem PRow.of {w : World} {B : Nat} {A : Option Addr} {l : List Kp} (h : RowC kpC 2 w B A l) : PRow w B A l := by
  intro j hj
  obtain ⟨b, off, e, hlt, h0⟩ := h j hj
  exact ⟨b, off, e, hlt, h0 0 _ rfl, h0 1 _ rfl⟩
theorem PRow.below {w w' : World} {B : Nat} {A : Option Addr} {l : List Kp} (h : PRow w B A l) (hb : Below B w w') : PRow w' B A l := by
  intro j hj
  obtain ⟨b, off, e, hlt, h0, h1⟩ := h j hj
  have C : ∀ i, w'.cell? ⟨b, i, none⟩ = w.cell? ⟨b, i, none⟩ := fun i => hb.cell (p := ⟨b, i, none⟩) hlt
  exact ⟨b, off, e, hlt, (C _).trans h0, (C _).trans h1⟩
theorem PRow.more {w : World} {B B' : Nat} {A : Option Addr} {l : List Kp} (h : PRow w B A l) (hb : B ≤ B') : PRow w B' A l := by
  intro j hj
  obtain ⟨b, off, e, hlt, h0⟩ := h j hj
  exact ⟨b, off, e, by omega, h0⟩
theorem PRow.on {w w' : World} {A : Option Addr} {l : List Kp} (h : PRow w w.heap.size A l) (hb : Below w.heap.size w w') : PRow w' w'.heap.size A l := (h.below hb).more hb.size
theorem sk_eq {a b : ByteArray} (h : a = b) : (a.toList == b.toList) = true := by simp [h]
theorem sk_ne {a b : ByteArray} (h : ¬ a = b) : (a.toList == b.toList) = false := by
  rw [beq_eq_false_iff_ne]
  intro e
  exact h (ext_bytes (by rw [← Lib.toList_data, ← Lib.toList_data]; exact e))
theorem lk_yes {a b : ByteArray} (h : ltK a b) : Op.bytesLess a.toList b.toList = true := by rw [bytesLess_eq, Lib.toList_data, Lib.toList_data]; exact decide_eq_true h
theorem lk_no {a b : ByteArray} (h : ¬ ltK a b) : Op.bytesLess a.toList b.toList = false := by rw [bytesLess_eq, Lib.toList_data, Lib.toList_data]; exact decide_eq_false h
set_option maxHeartbeats 4000000 in
set_option maxRecDepth 40000 in
theorem rget_any (l : List Kp) (key : ByteArray) (n c : Nat) (A : Option Addr) (w : World) (hl : n = l.length) (hn : n ≤ maxLen) (hA : PRow w w.heap.size A l) :
    Calls Try.prog 12 #[.slice A n c, .string key] w fun e w' => e = .returned (.tuple #[.string ((getK l key).getD ⟨#[]⟩), .bool (getK l key).isSome]) ∧ w = w' := by
  have HA := Lib.hid hA
  have HL := Lib.hid hl
  have hnn := hn
  unfold maxLen at hnn
  obtain ⟨g, hg⟩ : ∃ g, getK l key = g := ⟨_, rfl⟩
  have HG := Lib.hid hg
  rw [hg]
  clear hA hl hn hg
  go_enter Try.func12, Try.ntmps12
  go_wp2
  go_loop [6] (fun iv => ∃ i : Nat, i ≤ n ∧ iv = .int .i64 i ∧ Hid (getK (l.drop i) key = g)) (fun iv => n - (intOf iv).toNat)
  case atStart => exact ⟨0, Nat.zero_le _, rfl, Lib.hid HG.out⟩
  case round =>
    obtain ⟨i, hi, rfl, HK⟩ := hrel
    by_cases hlt : i < n
    · have hil : i < l.length := by rw [← HL.out]; exact hlt
      obtain ⟨b, off, rfl, hb, c0, c1⟩ := HA.out i hil
      have hd := HK.out
      rw [List.drop_eq_getElem_cons hil] at hd
      obtain ⟨x, hx⟩ : ∃ x, l[i]'hil = x := ⟨_, rfl⟩
      rw [hx] at c0 c1 hd
      simp only [getK] at hd
      by_cases hk : x.k = key
      · rw [if_pos hk] at hd
        subst hd
        have hq := sk_eq hk
        clear hk hx hil HG HK
        go_wp2
        go_ret2
        exact ⟨by simp, rfl⟩
      · rw [if_neg hk] at hd
        have HK2 := Lib.hid hd
        have hq := sk_ne hk
        clear hk hx hil hd
        go_wp2
        go_round
        case rel => exact ⟨i + 1, by omega, by go_num, HK2⟩
        case measure => simp [intOf]; omega
    · have hd := HK.out
      rw [List.drop_of_length_le (by rw [← HL.out]; omega)] at hd
      have hd2 : g = none := hd.symm
      clear hd HG HK
      subst hd2
      go_wp2
      go_ret2
      exact ⟨by simp, rfl⟩
/-- What comes out, as it grows. -/
structure OutS (w : World) (A : Option Addr) (n c : Nat) (m : List Kp) (U : World) : Prop where
  own : U.ownsRow w.heap.size 38 2 (.slice A n c) n (m.flatMap kpC)
  bel : Below w.heap.size w U
theorem OutS.rows {w : World} {A : Option Addr} {n c : Nat} {m : List Kp} {U : World} (h : OutS w A n c m U) : n = m.length ∧ PRow U U.heap.size A m := by
  obtain ⟨h1, h2⟩ := RowC.own kp_len (by decide) h.own
  exact ⟨h1, PRow.of h2⟩
theorem OutS.more {w : World} {A A' : Option Addr} {n c n' c' : Nat} {m m' : List Kp} {U V : World} (h : OutS w A n c m U) (hb : Below w.heap.size U V) (ho : V.ownsRow w.heap.size 38 2 (.slice A' n' c') n' (m'.flatMap kpC)) : OutS w A' n' c' m' V := ⟨ho, h.bel.trans hb⟩
/-- Pairs in new memory. -/
def PairsPost (w : World) (m : List Kp) (e : Ending) (w' : World) : Prop := ∃ A c, e = .returned (.slice A m.length c) ∧ PRow w' w'.heap.size A m ∧ Below w.heap.size w w'
/-- Pairs in memory of their own, new. -/
def OwnPost (w : World) (m : List Kp) (e : Ending) (w' : World) : Prop := ∃ A c, e = .returned (.slice A m.length c) ∧ OutS w A m.length c m w'
theorem OutS.post {w : World} {A : Option Addr} {n c : Nat} {m : List Kp} {U : World} (h : OutS w A n c m U) : OwnPost w m (.returned (.slice A n c)) U := by
  obtain ⟨h1, h2⟩ := h.rows
  subst h1
  exact ⟨A, c, rfl, h⟩
theorem OwnPost.pairs {w : World} {m : List Kp} {e : Ending} {U : World} (h : OwnPost w m e U) : PairsPost w m e U := by
  obtain ⟨A, c, rfl, h⟩ := h
  exact ⟨A, c, rfl, h.rows.2, h.bel⟩
theorem setK_lt {l m : List Kp} {k v : ByteArray} (h : ∀ c ∈ l, ltK c.k k) : setK (l ++ m) k v = l ++ setK m k v := by
  induction l with
  | nil => rfl
  | cons d r ih =>
    simp only [List.cons_append, setK]
    rw [if_pos (h d (by simp)), ih fun c hc => h c (by simp [hc])]
theorem setK_gt {c : Kp} {k v : ByteArray} (h : ltK k c.k) : ∀ l : List Kp, setK (l ++ [c]) k v = setK l k v ++ [c]
  | [] => by simp only [List.nil_append, setK, if_neg (ltK_asymm h), if_neg (fun e : c.k = k => ltK_ne h e.symm), List.cons_append]
  | d :: r => by
    simp only [List.cons_append, setK, setK_gt h r]
    split
    · rfl
    · split <;> rfl
def limT : Nat := 1000
set_option maxHeartbeats 4000000 in
set_option maxRecDepth 40000 in
theorem rdrop_own (l : List Kp) (key : ByteArray) (n0 c0 : Nat) (A0 : Option Addr) (w : World) (hl : n0 = l.length) (hn : n0 ≤ 1000) (hA : PRow w w.heap.size A0 l) :
    Calls Try.prog 16 #[.slice A0 n0 c0, .string key] w (OwnPost w (dropK l key)) := by
  have HA := Lib.hid hA
  have HL := Lib.hid hl
  have HN0 := Lib.hid (show n0 ≤ limT from hn)
  have HS0 := Lib.hid (show OutS w none 0 0 [] w from ⟨World.ownsRow_nil _ _ _ 2, Below.refl _ _⟩)
  clear hA hl hn
  go_enter Try.func16, Try.ntmps16
  go_wp2
  go_loopw [5, 6] (fun ov iv wr => ∃ A n c m i, ov = .slice A n c ∧ iv = .int .i64 ((i : Nat) : Int) ∧ i ≤ n0 ∧ Hid (n ≤ i) ∧ Hid (m = dropK (l.take i) key) ∧ Hid (OutS w A n c m wr)) (fun _ iv _ => n0 - (intOf iv).toNat)
  case atStart => exact ⟨none, 0, 0, [], 0, rfl, rfl, Nat.zero_le _, Lib.hid (Nat.le_refl _), Lib.hid rfl, HS0⟩
  case round =>
    obtain ⟨A, n, c, m, i, rfl, rfl, hi, HNI, HM, HS⟩ := hrel
    by_cases hlt : i < n0
    · have hil : i < l.length := by rw [← HL.out]; exact hlt
      obtain ⟨b, off, rfl, hb, k0, k1⟩ := (HA.out.below HS.out.bel) i hil
      have HT := Lib.hid (show dropK (l.take (i + 1)) key = dropK (l.take i) key ++ dropK [l[i]] key by rw [List.take_succ_eq_append_getElem hil]; unfold dropK; rw [List.filter_append])
      obtain ⟨x, hx⟩ : ∃ x, l[i]'hil = x := ⟨_, rfl⟩
      rw [hx] at k0 k1 HT
      have HN := Lib.hid (show n ≤ i ∧ i < limT from ⟨HNI.out, by have := HN0.out; omega⟩)
      have i1 : (0 : Int) ≤ (i : Int) := by omega
      have i2 : (i : Int) < (n0 : Int) := by omega
      have i3 : i + 1 ≤ 9223372036854775807 := by have := HN.out.2; unfold limT at this; omega
      have HS1 := HS
      by_cases hk : x.k = key
      · have hq := sk_eq hk
        have HM2 := Lib.hid (show m = dropK (l.take (i + 1)) key by rw [HT.out, HM.out]; unfold dropK; simp [hk])
        clear hk hx hil hb
        go_wp2
        go_roundw
        case rel => exact ⟨_, _, _, _, i + 1, rfl, by go_num, by omega, Lib.hid (by have := HNI.out; omega), HM2, HS⟩
        case measure => simp [intOf]; omega
      · have hq := sk_ne hk
        have HM2 := Lib.hid (show m ++ [x] = dropK (l.take (i + 1)) key by rw [HT.out, HM.out]; unfold dropK; simp [hk])
        clear hk hx hil hb
        go_wp2_with (first
          | (at_builtin; have HFS := HS1; go_loud (refine append_item Try.underlying27 infoPair rfl (by decide) kp_len kp_one rfl _ _ rfl w.heap.size A n c m rfl _ x HS1.out.own HS1.out.bel.size _ rfl rfl (by have := HN.out; unfold limT at this; omega) (by have := HN.out; unfold limT at this; unfold maxLen; omega) [_, _] rfl ?_); intro A3 n3 c3 w3 hn3 ho3 hb3 _; have HS3 := Lib.hid (HS1.out.more hb3 ho3); clear ho3 hb3 HS1; subst hn3)
          )
        go_roundw
        case rel => exact ⟨_, _, _, _, i + 1, rfl, by go_num, by omega, Lib.hid (by have := HNI.out; omega), HM2, HS3⟩
        case measure => simp [intOf]; omega
    · have HD := Lib.hid (show m = dropK l key by rw [HM.out, List.take_of_length_le (by rw [← HL.out]; omega)])
      have HS1 := HS
      rw [HD.out] at HS1
      go_wp2
      go_ret
      exact HS1.out.post
/-- How far Set has come. -/
def SetI (l : List Kp) (key val : ByteArray) (i : Nat) (d : Bool) (m : List Kp) : Prop :=
  (d = false ∧ (∀ c ∈ l.take i, ltK c.k key) ∧ m = l.take i) ∨ (d = true ∧ (∀ c ∈ l.drop i, ltK key c.k) ∧ m = setK (l.take i) key val)
theorem SetI.start (l : List Kp) (key val : ByteArray) : SetI l key val 0 false [] := .inl ⟨rfl, by simp, by simp⟩
section
variable {l m : List Kp} {key val : ByteArray} {i : Nat}
theorem SetI.less (h : SetI l key val i false m) (hi : i < l.length) (hk : ltK l[i].k key) : SetI l key val (i + 1) false (m ++ [l[i]]) := by
  rcases h with ⟨_, h1, h2⟩ | ⟨h, _⟩
  · refine .inl ⟨rfl, ?_, ?_⟩
    · rw [List.take_succ_eq_append_getElem hi]
      intro c hc
      rcases List.mem_append.1 hc with hc | hc
      · exact h1 c hc
      · rw [List.mem_singleton.1 hc]; exact hk
    · rw [List.take_succ_eq_append_getElem hi, h2]
  · cases h
theorem drop_rise (hr : RiseK l) (hi : i < l.length) : ∀ c ∈ l.drop (i + 1), ltK l[i].k c.k := by
  have h2 : RiseK (l.drop i) := List.Pairwise.sublist (List.drop_sublist _ _) hr
  rw [List.drop_eq_getElem_cons hi] at h2
  exact (List.pairwise_cons.1 h2).1
theorem SetI.same (h : SetI l key val i false m) (hr : RiseK l) (hi : i < l.length) (hk : l[i].k = key) : SetI l key val (i + 1) true (m ++ [⟨key, val⟩]) := by
  rcases h with ⟨_, h1, h2⟩ | ⟨h, _⟩
  · refine .inr ⟨rfl, fun c hc => hk ▸ drop_rise hr hi c hc, ?_⟩
    rw [List.take_succ_eq_append_getElem hi, setK_lt h1, h2]
    simp only [setK, if_neg (show ¬ ltK l[i].k key by rw [hk]; exact ltK_irrefl _), if_pos hk]
  · cases h
theorem SetI.more (h : SetI l key val i false m) (hr : RiseK l) (hi : i < l.length) (hk : ltK key l[i].k) : SetI l key val (i + 1) true (m ++ [⟨key, val⟩] ++ [l[i]]) := by
  rcases h with ⟨_, h1, h2⟩ | ⟨h, _⟩
  · refine .inr ⟨rfl, fun c hc => ltK_trans hk (drop_rise hr hi c hc), ?_⟩
    rw [List.take_succ_eq_append_getElem hi, setK_lt h1, h2]
    simp only [setK, if_neg (ltK_asymm hk), if_neg (fun e : l[i].k = key => ltK_ne hk e.symm), List.append_assoc, List.cons_append, List.nil_append]
  · cases h
theorem SetI.on (h : SetI l key val i true m) (hr : RiseK l) (hi : i < l.length) : ltK key l[i].k ∧ SetI l key val (i + 1) true (m ++ [l[i]]) := by
  rcases h with ⟨h, _⟩ | ⟨_, h1, h2⟩
  · cases h
  · have hk : ltK key l[i].k := h1 _ (by rw [List.drop_eq_getElem_cons hi]; exact List.mem_cons_self)
    refine ⟨hk, .inr ⟨rfl, fun c hc => h1 c (by rw [List.drop_eq_getElem_cons hi]; exact List.mem_cons_of_mem _ hc), ?_⟩⟩
    rw [List.take_succ_eq_append_getElem hi, setK_gt hk, h2]
theorem SetI.done (h : SetI l key val i true m) (hi : l.length ≤ i) : m = setK l key val := by
  rcases h with ⟨h, _⟩ | ⟨_, _, h2⟩
  · cases h
  · rw [h2, List.take_of_length_le hi]
theorem SetI.last (h : SetI l key val i false m) (hi : l.length ≤ i) : m ++ [⟨key, val⟩] = setK l key val := by
  rcases h with ⟨_, h1, h2⟩ | ⟨h, _⟩
  · rw [List.take_of_length_le hi] at h1 h2
    have := setK_lt (m := []) (v := val) h1
    rw [List.append_nil] at this
    rw [this, h2]
    rfl
  · cases h
end
set_option maxHeartbeats 4000000 in
set_option maxRecDepth 40000 in
theorem rset_own (l : List Kp) (hr : RiseK l) (key val : ByteArray) (n0 c0 : Nat) (A0 : Option Addr) (w : World) (hl : n0 = l.length) (hn : n0 ≤ 999) (hA : PRow w w.heap.size A0 l) :
    Calls Try.prog 14 #[.slice A0 n0 c0, .string key, .string val] w (OwnPost w (setK l key val)) := by
  have HA := Lib.hid hA
  have HL := Lib.hid hl
  have HRI := Lib.hid hr
  have HN0 := Lib.hid (show n0 + 1 ≤ limT by unfold limT; omega)
  have HS0 := Lib.hid (show OutS w none 0 0 [] w from ⟨World.ownsRow_nil _ _ _ 2, Below.refl _ _⟩)
  clear hA hl hn hr
  go_enter Try.func14, Try.ntmps14
  go_wp2
  go_loopw [7, 8, 9] (fun ov dv iv wr => ∃ A n c m d i, ov = .slice A n c ∧ dv = .bool d ∧ iv = .int .i64 ((i : Nat) : Int) ∧ i ≤ n0 ∧ Hid (n ≤ i + 1 ∧ (d = false → n ≤ i)) ∧ Hid (SetI l key val i d m) ∧ Hid (OutS w A n c m wr)) (fun _ _ iv _ => n0 - (intOf iv).toNat)
  case atStart => exact ⟨none, 0, 0, [], false, 0, rfl, rfl, rfl, Nat.zero_le _, Lib.hid ⟨by omega, fun _ => Nat.le_refl _⟩, Lib.hid (SetI.start _ _ _), HS0⟩
  case round =>
    obtain ⟨A, n, c, m, d, i, rfl, rfl, rfl, hi, HNI, HI, HS⟩ := hrel
    have HS1 := HS
    by_cases hlt : i < n0
    · have hil : i < l.length := by rw [← HL.out]; exact hlt
      obtain ⟨b, off, rfl, hb, k0, k1⟩ := (HA.out.below HS.out.bel) i hil
      have HN := Lib.hid (show n ≤ i + 1 ∧ i + 1 < limT from ⟨HNI.out.1, by have := HN0.out; omega⟩)
      have i1 : (0 : Int) ≤ (i : Int) := by omega
      have i2 : (i : Int) < (n0 : Int) := by omega
      have i3 : i + 1 ≤ 9223372036854775807 := by have := HN.out.2; unfold limT at this; omega
      cases d with
      | false =>
        have HNF := Lib.hid (HNI.out.2 rfl)
        have HX1 := Lib.hid (fun hk => HI.out.less hil hk)
        have HX2 := Lib.hid (fun hk => HI.out.same HRI.out hil hk)
        have HX3 := Lib.hid (fun hk => HI.out.more HRI.out hil hk)
        obtain ⟨x, hx⟩ : ∃ x, l[i]'hil = x := ⟨_, rfl⟩
        rw [hx] at k0 k1 HX1 HX2 HX3
        have HKX := Lib.hid (show ∀ U : World, Below w.heap.size wr U → U.cell? ⟨b, off + i * 2, none⟩ = some (.string x.k) ∧ U.cell? ⟨b, off + i * 2 + 1, none⟩ = some (.string x.v) from fun U hU => ⟨(hU.cell (p := ⟨b, _, none⟩) hb).trans k0, (hU.cell (p := ⟨b, _, none⟩) hb).trans k1⟩)
        clear hx hil hb
        rcases ltK_tri x.k key with hk | hk | hk
        · have HI2 := Lib.hid (HX1.out hk)
          have q1 := lk_yes hk
          have hq := sk_ne (ltK_ne hk)
          clear hk HX1 HX2 HX3
          go_wp2_with (have HSEC := True.intro; at_builtin; have HFS := HS1; go_loud (refine append_item Try.underlying27 infoPair rfl (by decide) kp_len kp_one rfl _ _ rfl w.heap.size A n c m rfl _ x HS1.out.own HS1.out.bel.size _ rfl rfl (by have := HN.out; unfold limT at this; omega) (by have := HN.out; unfold limT at this; unfold maxLen; omega) [_, _] rfl ?_); intro A3 n3 c3 w3 hn3 ho3 hb3 _; have HS3 := Lib.hid (HS1.out.more hb3 ho3); clear ho3 hb3 HS1; subst hn3)
          go_roundw
          case rel => exact ⟨_, _, _, _, _, i + 1, rfl, rfl, by go_num, by omega, Lib.hid ⟨by have := HNF.out; omega, fun _ => by have := HNF.out; omega⟩, HI2, HS3⟩
          case measure => simp [intOf]; omega
        · have HI2 := Lib.hid (HX2.out hk)
          have q1 := lk_no (show ¬ ltK x.k key by rw [hk]; exact ltK_irrefl _)
          have hq := sk_eq hk
          clear hk HX1 HX2 HX3
          go_wp2_with (have HSEC := True.intro; at_builtin; have HFS := HS1; go_loud (refine append_item Try.underlying27 infoPair rfl (by decide) kp_len kp_one rfl _ _ rfl w.heap.size A n c m rfl _ ⟨key, val⟩ HS1.out.own HS1.out.bel.size _ rfl rfl (by have := HN.out; unfold limT at this; omega) (by have := HN.out; unfold limT at this; unfold maxLen; omega) [_, _] rfl ?_); intro A3 n3 c3 w3 hn3 ho3 hb3 _; have HS3 := Lib.hid (HS1.out.more hb3 ho3); obtain ⟨k0', k1'⟩ := HKX.out _ hb3; clear ho3 hb3 HS1 k0 k1; subst hn3)
          go_roundw
          case rel => exact ⟨_, _, _, _, _, i + 1, rfl, rfl, by go_num, by omega, Lib.hid ⟨by have := HNF.out; omega, (fun h => by cases h)⟩, HI2, HS3⟩
          case measure => simp [intOf]; omega
        · have HI2 := Lib.hid (HX3.out hk)
          have q1 := lk_no (ltK_asymm hk)
          have hq := sk_ne (fun e : x.k = key => ltK_ne hk e.symm)
          clear hk HX1 HX2 HX3
          go_wp2_with (first
            | (have HSEC := HS3; at_builtin; have HFS := HS3; go_loud (refine append_item Try.underlying27 infoPair rfl (by decide) kp_len kp_one rfl _ _ rfl w.heap.size A3 (n + 1) c3 (m ++ [⟨key, val⟩]) rfl _ x HS3.out.own HS3.out.bel.size _ rfl rfl (by have := HN.out; unfold limT at this; omega) (by have := HN.out; unfold limT at this; unfold maxLen; omega) [_, _] rfl ?_); intro A4 n4 c4 w4 hn4 ho4 hb4 _; have HS4 := Lib.hid (HS3.out.more hb4 ho4); clear ho4 hb4; subst hn4)
            | (have HSEC := True.intro; at_builtin; have HFS := HS1; go_loud (refine append_item Try.underlying27 infoPair rfl (by decide) kp_len kp_one rfl _ _ rfl w.heap.size A n c m rfl _ ⟨key, val⟩ HS1.out.own HS1.out.bel.size _ rfl rfl (by have := HN.out; unfold limT at this; omega) (by have := HN.out; unfold limT at this; unfold maxLen; omega) [_, _] rfl ?_); intro A3 n3 c3 w3 hn3 ho3 hb3 _; have HS3 := Lib.hid (HS1.out.more hb3 ho3); obtain ⟨k0', k1'⟩ := HKX.out _ hb3; clear ho3 hb3 HS1 k0 k1; subst hn3))
          go_roundw
          case rel => exact ⟨_, _, _, _, _, i + 1, rfl, rfl, by go_num, by omega, Lib.hid ⟨by have := HNF.out; omega, (fun h => by cases h)⟩, HI2, HS4⟩
          case measure => simp [intOf]; omega
      | true =>
        have HX := Lib.hid (HI.out.on HRI.out hil)
        obtain ⟨x, hx⟩ : ∃ x, l[i]'hil = x := ⟨_, rfl⟩
        rw [hx] at k0 k1 HX
        clear hx hil hb
        have hq := sk_ne (fun e : x.k = key => ltK_ne HX.out.1 e.symm)
        go_wp2_with (have HSEC := True.intro; at_builtin; have HFS := HS1; go_loud (refine append_item Try.underlying27 infoPair rfl (by decide) kp_len kp_one rfl _ _ rfl w.heap.size A n c m rfl _ x HS1.out.own HS1.out.bel.size _ rfl rfl (by have := HN.out; unfold limT at this; omega) (by have := HN.out; unfold limT at this; unfold maxLen; omega) [_, _] rfl ?_); intro A3 n3 c3 w3 hn3 ho3 hb3 _; have HS3 := Lib.hid (HS1.out.more hb3 ho3); clear ho3 hb3 HS1; subst hn3)
        go_roundw
        case rel => exact ⟨_, _, _, _, _, i + 1, rfl, rfl, by go_num, by omega, Lib.hid ⟨by have := HNI.out.1; omega, (fun h => by cases h)⟩, Lib.hid HX.out.2, HS3⟩
        case measure => simp [intOf]; omega
    · have hle : l.length ≤ i := by rw [← HL.out]; omega
      have HN := Lib.hid (show n ≤ i + 1 ∧ i < limT from ⟨HNI.out.1, by have := HN0.out; omega⟩)
      cases d with
      | false =>
        have HD := Lib.hid (HI.out.last hle)
        clear hle
        go_wp2_with (have HSEC := True.intro; at_builtin; have HFS := HS1; go_loud (refine append_item Try.underlying27 infoPair rfl (by decide) kp_len kp_one rfl _ _ rfl w.heap.size A n c m rfl _ ⟨key, val⟩ HS1.out.own HS1.out.bel.size _ rfl rfl (by have := HN.out; unfold limT at this; omega) (by have := HN.out; unfold limT at this; unfold maxLen; omega) [_, _] rfl ?_); intro A3 n3 c3 w3 hn3 ho3 hb3 _; have HS3 := Lib.hid (HS1.out.more hb3 ho3); clear ho3 hb3 HS1; subst hn3)
        go_ret
        rw [HD.out] at HS3
        exact HS3.out.post
      | true =>
        have HD := Lib.hid (HI.out.done hle)
        rw [HD.out] at HS1
        clear hle
        go_wp2
        go_ret
        exact HS1.out.post
theorem rdrop_any (l : List Kp) (key : ByteArray) (n0 c0 : Nat) (A0 : Option Addr) (w : World) (hl : n0 = l.length) (hn : n0 ≤ 1000) (hA : PRow w w.heap.size A0 l) :
    Calls Try.prog 16 #[.slice A0 n0 c0, .string key] w (PairsPost w (dropK l key)) := (rdrop_own l key n0 c0 A0 w hl hn hA).mono fun _ _ h => h.pairs
theorem rset_any (l : List Kp) (hr : RiseK l) (key val : ByteArray) (n0 c0 : Nat) (A0 : Option Addr) (w : World) (hl : n0 = l.length) (hn : n0 ≤ 999) (hA : PRow w w.heap.size A0 l) :
    Calls Try.prog 14 #[.slice A0 n0 c0, .string key, .string val] w (PairsPost w (setK l key val)) := (rset_own l hr key val n0 c0 A0 w hl hn hA).mono fun _ _ h => h.pairs
end Go.Proofs.Ytmeoednndfgffaa
