/- What a seat needs of several texts. -/
import Derived.Test.YtkcnmajjfljilaaGreatDoorSgR
/- From SgS. -/
namespace Go.Proofs.YtkcnmajjfljilaaGreatDoor
open Go Go.ChangeShapes Go.WideShapes Go.ChangeAt Go.RowKit Go.ChangeMaps Go.MapKept
set_option linter.unusedVariables false
set_option linter.unusedSimpArgs false
/-- 'l = append(l, m...)' of items whose cells lie somewhere. -/
theorem append_spread {bytes : Nat} {T E : TypeId} {z : Value} (hT : Tryz.prog.underlying T = some (.slice E)) (hinfo : (Tryz.prog.info? E).map (fun i => (i.zero, i.size, i.bytes)) = some (some z, 1, bytes)) (hz : z.cells.size = 1)
    {ops : Array Oper} {rest : List Oper} {o : Oper} {a : Act} {Q : Exit → Act → World → Prop} (hgd : o.guard = none) (s x : Operand)
    (ho : o.op = .call { callee := .builtin .append, args := #[s, x], argTypes := #[T, T] })
    (B : Nat) (A : Option Addr) (n c : Nat) (xs : List Value) (hs : a.eval s = .slice A n c) (w0 : World) (hb : w0.ownsRow B E 1 (.slice A n c) n xs) (hB : B ≤ w0.heap.size)
    (ad : Addr) (m c2 : Nat) (news : List Value) (hx : a.eval x = .slice (some ad) m c2) (hl : news.length = m) (hnews : ∀ j u, news[j]? = some u → w0.cell? (ad.add j) = some u) (h1 : ∀ u ∈ news, u.oneCell' = true) (hlen : (n + m) * bytes ≤ 140737488355328) (hn : n + m ≤ maxLen)
    (h : ∀ A' c' w', w'.ownsRow B E 1 (.slice A' (n + m) c') (n + m) (xs ++ news) → w0.grownBy w' (Value.ownBlock (.slice A n c)) → wpList Tryz.prog ops Q rest (a.put o.dst (.slice A' (n + m) c')) w') :
    wpList Tryz.prog ops Q (o :: rest) a w0 := by
  obtain ⟨i0, hi, hz0, hz1, hz2⟩ := info_parts hinfo
  refine wpList_append_own_at _ hgd s x T ho B E i0 _ 1 bytes hT hi hz0 hz1 hz2 hz (by decide) (.slice A n c) n xs hs hb ad m c2 news hx (by rw [hl, Nat.mul_one]) hnews h1 hn hlen hB ?_
  intro v' w' hown hg _ _
  obtain ⟨A', c', rfl⟩ := own_slice hown
  exact h A' c' w' hown hg
theorem RecsAt.grown {W W' : World} {vs : List Value} {bs : List (List UInt8)} {B n : Nat} {v : Value} {xs : List Value} (h : RecsAt W vs bs) (hr : W.ownsRow B 30 1 v n xs) (hg : W.grownBy W' v.ownBlock) : RecsAt W' vs bs := by
  have hne : ∀ k : Nat, (∃ (d : Array Value) (z : Nat × Nat), W.heap[k]? = some (Obj.cells d 5 z)) → W'.heap[k]? = W.heap[k]? := by
    rintro k ⟨d, z, hk⟩
    refine hg.block k (Array.getElem?_eq_some_iff.1 hk).1 (fun e => ?_)
    obtain ⟨d2, hd2, _⟩ := own_cells hr e.symm
    have e2 := Option.some.inj (hk.symm.trans hd2)
    injection e2 with _ e3
    exact absurd e3 (by decide)
  refine ⟨h.1, fun j hj => ?_⟩
  obtain ⟨A, c, h1, h2, h3⟩ := h.2 j hj
  refine ⟨A, c, h1, fun i hi => ?_, fun a ha => ?_⟩
  · obtain ⟨b, off, e, hlt, hc⟩ := h2 i hi
    exact ⟨b, off, e, Nat.lt_of_lt_of_le hlt hg.size, (World.cell?_of_block (a := ⟨b, off + i, none⟩) (hne b (h3 _ e))).trans hc⟩
  · obtain ⟨d, z, hk⟩ := h3 a ha
    exact ⟨d, z, (hne _ ⟨d, z, hk⟩).trans hk⟩
theorem RecsAt.append {W : World} {vs us : List Value} {bs cs : List (List UInt8)} (h : RecsAt W vs bs) (k : RecsAt W us cs) : RecsAt W (vs ++ us) (bs ++ cs) := by
  refine ⟨by rw [List.length_append, List.length_append, h.1, k.1], fun j hj => ?_⟩
  by_cases e : j < bs.length
  · obtain ⟨A, c, h1, h2⟩ := h.2 j e
    rw [List.getElem_append_left e, List.getElem?_append_left (by rw [h.1]; exact e)]
    exact ⟨A, c, h1, h2⟩
  · rw [List.length_append] at hj
    obtain ⟨A, c, h1, h2⟩ := k.2 (j - bs.length) (by omega)
    rw [List.getElem_append_right (by omega), List.getElem?_append_right (by rw [h.1]; omega), h.1]
    exact ⟨A, c, h1, h2⟩
/-- What a log answers of its records. -/
def ReadP (rs : List (List UInt8)) (lo n : Nat) (w : World) (e : Ending) (w' : World) : Prop :=
  ∃ A c vs, e = .returned (.tuple #[.slice A n c, .int .i64 0]) ∧ w'.ownsRow w.heap.size 30 1 (.slice A n c) n vs ∧ RecsAt w' vs ((rs.drop lo).take n) ∧ Below w.heap.size w w'
section
variable {Q : Nat → Prop} {B l f cnt M : Nat} {dir : Nm} {room used size dur : Int} {fs : List Nat} {rs : List (List UInt8)} {s : Fs} {w w' : World}
theorem firsts_step {fs : List Nat} {n k : Nat} (h : Firsts fs n) (hk : k < fs.length) (h1 : nxt fs n k < n) : k + 1 < fs.length ∧ ∀ hk2 : k + 1 < fs.length, fs[k + 1] = nxt fs n k ∧ nxt fs n k < nxt fs n (k + 1) := by
  by_cases e : k + 1 < fs.length
  · refine ⟨e, fun hk2 => ⟨(nxt_some hk2).symm, ?_⟩⟩
    by_cases e2 : k + 1 + 1 < fs.length
    · rw [nxt_some e, nxt_some e2]
      exact h.lt e2 (Nat.lt_succ_self _)
    · rw [nxt_none e2]; exact h1
  · rw [nxt_none e] at h1; omega
/-- Where a log's loop stands. -/
def At (fs : List Nat) (n hi m : Nat) (i : Int) : Prop := m < hi → ∃ k : Nat, i = (k : Int) ∧ ∃ hk : k < fs.length, fs[k] ≤ m ∧ m < nxt fs n k
theorem at_start {fs : List Nat} {n lo hi i : Nat} (hf : Firsts fs n) (hn : hi ≤ n) (h1 : i ≤ fs.length) (h2 : ∀ (k : Nat) (hk : k < fs.length), k < i → ((fs[k] : Nat) : Int) ≤ (lo : Int)) (h3 : ∀ (k : Nat) (hk : k < fs.length), i ≤ k → (lo : Int) < ((fs[k] : Nat) : Int)) : At fs n hi lo ((i : Int) - 1) := fun hlt => by
  have hne : 0 < fs.length := by
    rcases Nat.eq_zero_or_pos fs.length with e | e
    · have := hf.none_ (List.eq_nil_of_length_eq_zero e)
      omega
    · exact e
  have hi0 : 0 < i := by
    rcases Nat.eq_zero_or_pos i with e | e
    · have := h3 0 hne (by omega)
      rw [hf.zero hne] at this
      omega
    · exact e
  have h4 := h2 (i - 1) (by omega) (by omega)
  refine ⟨i - 1, by omega, by omega, by omega, ?_⟩
  by_cases e : i - 1 + 1 < fs.length
  · rw [nxt_some e]
    have := h3 (i - 1 + 1) e (by omega)
    omega
  · rw [nxt_none e]; omega
theorem at_step {fs : List Nat} {n hi k m : Nat} (hf : Firsts fs n) (hn : hi ≤ n) (hk : k < fs.length) (h : m < nxt fs n k) : At fs n hi (min hi (nxt fs n k)) ((k : Int) + 1) := fun hlt => by
  have h1 : nxt fs n k < n := by omega
  obtain ⟨h2, h3⟩ := firsts_step hf hk h1
  obtain ⟨h4, h5⟩ := h3 h2
  exact ⟨k + 1, by omega, h2, by omega, by omega⟩
set_option maxRecDepth 100000 in
set_option maxHeartbeats 8000000 in
theorem read_sg (h : Sg Q B l f dir room used cnt M size fs rs dur s w) (hM : M ≤ 1000000) (hBw : B ≤ w.heap.size) (hT : Tab B w) (lo hi : Nat) (h1 : lo ≤ hi) (h2 : hi ≤ rs.length) :
    Calls Tryz.prog 32 #[.pointer (some ⟨l, 0, none⟩), .int .i64 (lo : Int), .int .i64 (hi : Int)] w (ReadP rs lo (hi - lo) w) := by
  obtain ⟨P, hseg, _, _⟩ := h.ls
  have HH := Lib.hid h
  have HTAB := Lib.hid hT
  have hfew := h.few
  have HF := Lib.hid h.first
  have HHO := Lib.hid (holder_m hseg h.first.rise (lo : Int))
  have hlens := hseg.lens
  obtain ⟨A, c, q1, _, _⟩ := hseg.own
  have hl5 : w.cell? ⟨l, 5, none⟩ = some (.int .i64 (rs.length : Int)) := q1.cell 5
  have d1 : ¬ (lo : Int) < 0 := by omega
  have d2 : ¬ (hi : Int) < (lo : Int) := by omega
  have d3 : ¬ (rs.length : Int) < (hi : Int) := by omega
  clear h hT hseg q1
  go_enter Tryz.func32, Tryz.ntmps32
  go_wp2_with (go_at_call 49; go_loud (refine HHO.out.mono ?_; rintro e w1 ⟨i, rfl, g1, g2, g3, g4⟩; have HAT := Lib.hid (at_start HF.out h2 g1 g2 g3); have HB1 := Lib.hid g4; clear g2 g3 g4))
  go_loopw [1, 8, 9] (fun fv av iv wr => ∃ (m : Nat) (i : Int) (A : Option Addr) (c : Nat) (vs : List Value), fv = .int .i64 (m : Int) ∧ av = .slice A (m - lo) c ∧ iv = .int .i64 i ∧ lo ≤ m ∧ m ≤ hi ∧ Hid (At fs rs.length hi m i) ∧ Hid (wr.ownsRow w.heap.size 30 1 (.slice A (m - lo) c) (m - lo) vs) ∧ Hid (RecsAt wr vs ((rs.drop lo).take (m - lo))) ∧ Hid (Below w.heap.size w wr)) (fun fv _ _ _ => hi - (Lib.intOf fv).toNat)
  case atStart => exact ⟨lo, _, none, 0, [], rfl, by rw [Nat.sub_self], rfl, Nat.le_refl _, h1, HAT, Lib.hid (by rw [Nat.sub_self]; exact World.ownsRow_nil _ _ _ 1), Lib.hid (by rw [Nat.sub_self, List.take_zero]; exact ⟨rfl, fun j hj => absurd hj (by simp)⟩), HB1⟩
  case round =>
    obtain ⟨m, i, A, c, vs, rfl, rfl, rfl, hlo, hhi, HA, HO, HR, HB⟩ := hrel
    by_cases hlt : m < hi
    · obtain ⟨k, rfl, hk, e1, e2⟩ := HA.out hlt
      have hlt2 : (m : Int) < (hi : Int) := by omega
      have hkb : k ≤ 999999 := by omega
      have HSM := Lib.hid (some_sg (HH.out.below HB.out) hM (Nat.le_trans hBw HB.out.size) (HTAB.out.below (HB.out.mono hBw)) k m hi hk e1 e2 hlt h2)
      have HST := Lib.hid (at_step HF.out h2 hk e2)
      obtain ⟨N, hN⟩ : ∃ N, nxt fs rs.length k = N := ⟨_, rfl⟩
      rw [hN] at HSM HST e2
      obtain ⟨n, hn⟩ : ∃ n, min hi N - m = n := ⟨_, rfl⟩
      rw [hn] at HSM
      have hmn : min hi N = m + n := by omega
      rw [hmn] at HST
      have hn0 : 0 < n := by omega
      have hn1 : m + n ≤ hi := by omega
      clear hN hn hmn e1 e2 hk
      go_wp2_with (first
        | (go_at_call 50; go_loud (refine HSM.out.mono ?_; rintro e w2 ⟨ad, c2, us, rfl, p1, p2, p3, p4⟩; have HP1 := Lib.hid p1; have HP2 := Lib.hid p2; have HP3 := Lib.hid p3; have HP4 := Lib.hid p4; have hus := p2.1; rw [List.length_take, List.length_drop] at hus; clear p1 p2 p3 p4))
        | (at_builtin; go_loud (refine append_spread Tryz.underlying80 infoBytes rfl rfl _ _ rfl w.heap.size A (m - lo) c vs rfl _ (own_below HO.out HP4.out) (Nat.le_trans HB.out.size HP4.out.size) ad n c2 us rfl (by omega) HP1.out HP3.out (by omega) (by unfold maxLen; omega) ?_; intro A3 c3 w3 hown3 hg3; have HO3 := Lib.hid hown3; have HG3 := Lib.hid hg3; clear hown3 hg3)))
      have hlm : m - lo + n = m + n - lo := by omega
      go_roundw
      case rel =>
        refine ⟨m + n, (k : Int) + 1, A3, c3, vs ++ us, by go_num, by rw [hlm], by go_num, by omega, hn1, HST, Lib.hid (by rw [← hlm]; exact HO3.out), Lib.hid ?_, Lib.hid (ml_below (own_below HO.out HP4.out) HG3.out (Nat.le_refl _) (Nat.le_trans HB.out.size HP4.out.size) (HB.out.trans (HP4.out.mono HB.out.size)))⟩
        have hrr := ((HR.out.below HP4.out).append HP2.out).grown (own_below HO.out HP4.out) HG3.out
        have e : (rs.drop lo).take (m + n - lo) = (rs.drop lo).take (m - lo) ++ (rs.drop m).take n := by
          rw [← hlm, List.take_add, List.drop_drop, show lo + (m - lo) = m by omega]
        rw [e]
        exact hrr
      case measure => simp [Lib.intOf]; omega
    · obtain rfl : m = hi := by omega
      have hlt2 : ¬ (m : Int) < (m : Int) := by omega
      go_wp2_with fail
      go_ret2
      exact ⟨A, c, vs, rfl, HO.out, HR.out, HB.out⟩
theorem durable_sg (h : Sg Q B l f dir room used cnt M size fs rs dur s w) : Calls Tryz.prog 33 #[.pointer (some ⟨l, 0, none⟩)] w fun e w' => e = .returned (.int .i64 dur) ∧ w = w' := by
  obtain ⟨P, hseg, _, _⟩ := h.ls
  obtain ⟨A, c, q1, _, _⟩ := hseg.own
  have hl5 : w.cell? ⟨l, 6, none⟩ = some (.int .i64 dur) := q1.cell 6
  clear h hseg q1
  go_enter Tryz.func33, Tryz.ntmps33
  go_wp2
  go_ret
  exact ⟨rfl, rfl⟩
end
end Go.Proofs.YtkcnmajjfljilaaGreatDoor
