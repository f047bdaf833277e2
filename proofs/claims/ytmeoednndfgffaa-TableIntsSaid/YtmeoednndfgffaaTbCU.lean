/- Several texts in one: TbZU, TbFU, TbEU. -/
import Derived.Test.YtmeoednndfgffaaTbYU
import Derived.Test.YtmeoednndfgffaaTaI
import Derived.Recover
import Derived.Test.YtmeoednndfgffaaTbG
import Derived.Stop.RegionWithIn
import Derived.TacticsInMore
import Derived.LoopIn
import Derived.Shelf.Abstract
/- Layer 17, walked: a table of uint8 made, and changed in turn. -/
namespace Go.Proofs.Ytmeoednndfgffaa
attribute [local go_sem] Oper.semAt_some
open Go Go.ChangeShapes Go.WideShapes Go.ChangeAt Go.RowKit
set_option linter.unusedVariables false
set_option linter.unusedSimpArgs false
def lim2U : Nat := 2000
set_option maxHeartbeats 4000000 in
set_option maxRecDepth 40000 in
theorem newU (w : World) : Calls Try.prog 27 #[.slice none 0 0] w fun e w' => ∃ D R v, e = .returned v ∧ TblU D R w' v [] ∧ (∀ k, R k → w.heap.size ≤ k) ∧ Below w.heap.size w w' := by
  have HB := Lib.hid ((Below.refl w.heap.size w).alloc (Nat.le_refl _) (.cells #[.pointer none] 94))
  have HN := Lib.hid (new_tabU w)
  obtain ⟨W1, hW1⟩ : ∃ W1, w.alloc (.cells #[.pointer none] 94) = W1 := ⟨_, rfl⟩
  rw [hW1] at HB HN
  go_enter Try.func27, Try.ntmps27
  go_wp2
  try rw [hW1]
  go_loopw [10] (fun iv wr => iv = .int .i64 0 ∧ wr = W1) (fun _ _ => 0)
  case atStart => exact ⟨rfl, rfl⟩
  case round =>
    obtain ⟨rfl, rfl⟩ := hrel
    go_wp2
    go_ret
    obtain ⟨D, R, h1, h2⟩ := HN.out
    exact ⟨D, R, _, by simp, h1, h2, HB.out⟩
set_option maxHeartbeats 4000000 in
set_option maxRecDepth 40000 in
theorem applyU {D R : Blks} {w : World} {v : Value} {l : List (KV Int)} {A : Option Addr} {c : Nat} (cs : List (KC Int)) (h : TblU D R w v l) (hl : l.length + cs.length ≤ 2000) (hA : CRowG ecU w w.heap.size A cs) :
    Calls Try.prog 29 #[v, .slice A cs.length c] w fun e w' => ∃ D' R' v', e = .returned v' ∧ TblU D' R' w' v' (applyK l cs) ∧ (∀ k, D' k → w.heap.size ≤ k) ∧ (∀ k, R' k → R k ∧ ¬ D k ∨ w.heap.size ≤ k) ∧ Below w.heap.size w w' := by
  obtain ⟨p0, S0, hT, hS0⟩ := h.tv
  have HA := Lib.hid hA
  have HL := Lib.hid (show l.length + cs.length ≤ lim2U from hl)
  have HCP := Lib.hid (copyU hT)
  have HTN := Lib.hid (tab_newU hT.at_ hT.rise)
  have HB1 := Lib.hid ((Below.refl w.heap.size w).alloc (Nat.le_refl _) (.cells #[.pointer p0] 94))
  obtain ⟨W1, hW1⟩ : ∃ W1, w.alloc (.cells #[.pointer p0] 94) = W1 := ⟨_, rfl⟩
  rw [hW1] at HCP HTN HB1
  obtain ⟨n, hn⟩ : ∃ n, cs.length = n := ⟨_, rfl⟩
  have HN := Lib.hid hn
  have HLE := Lib.hid (show n ≤ lim2U by have := HL.out; omega)
  have HS0 := Lib.hid (show ∃ D' R', TblU D' R' W1 (.pointer (some ⟨w.heap.size, 0, none⟩)) l ∧ (∀ k, D' k → w.heap.size ≤ k) ∧ (∀ k, R' k → R k ∧ ¬ D k ∨ w.heap.size ≤ k) from ⟨_, _, HTN.out, fun k hk => by rw [hk]; exact Nat.le_refl _, fun k hk => hk.elim (fun h => .inr (by rw [h]; exact Nat.le_refl _)) (fun h => .inl (hS0 k h.1))⟩)
  have HBD := Lib.hid (show ∀ m i, m = applyK l (cs.take i) → i ≤ n → m.length ≤ limB from fun m i hm hi => by
    have h1 : ∀ (cs : List (KC Int)) (l : List (KV Int)), (applyK l cs).length ≤ l.length + cs.length := by
      intro cs
      induction cs with
      | nil => intro l; exact Nat.le_refl _
      | cons d r ih =>
        intro l
        have h2 := ih (doK l d)
        have h3 : (doK l d).length ≤ l.length + 1 := by
          unfold doK
          split
          · exact Nat.le_succ_of_le (dropT_len l d.k)
          · exact setK_len1 l d.k d.v
        show (applyK (doK l d) r).length ≤ _
        simp only [List.length_cons]
        omega
    have h4 := h1 (cs.take i) l
    have h5 : (cs.take i).length ≤ cs.length := by rw [List.length_take]; omega
    have h6 := HL.out
    rw [hm]
    unfold lim2U at h6
    unfold limB
    omega)
  rw [hn]
  clear hA hl hn h hT hS0
  go_enter Try.func29, Try.ntmps29
  go_wp2_with (go_at_call 48; go_loud (refine HCP.out.mono ?_; rintro en w1 ⟨rfl, rfl⟩))
  go_loopw [12] (fun iv wr => ∃ i, iv = .int .i64 ((i : Nat) : Int) ∧ i ≤ n ∧ Hid (∃ D' R', TblU D' R' wr (.pointer (some ⟨w.heap.size, 0, none⟩)) (applyK l (cs.take i)) ∧ (∀ k, D' k → w.heap.size ≤ k) ∧ (∀ k, R' k → R k ∧ ¬ D k ∨ w.heap.size ≤ k)) ∧ Hid (Below w.heap.size w wr)) (fun iv _ => n - (intOf iv).toNat)
  case atStart => exact ⟨0, rfl, Nat.zero_le _, HS0, HB1⟩
  case round =>
    clear HS0 HB1 HCP HTN hW1
    obtain ⟨i, rfl, hi, HS, HB⟩ := hrel
    by_cases hlt : i < n
    · have hil : i < cs.length := by rw [HN.out]; exact hlt
      obtain ⟨b, off, rfl, hb, d0, d1, d2⟩ := HA.out i hil
      have hbw : b < wr.heap.size := Nat.lt_of_lt_of_le hb HB.out.size
      have k0 := (HB.out.cell (p := ⟨b, _, none⟩) hb).trans d0
      have k1 := (HB.out.cell (p := ⟨b, _, none⟩) hb).trans d1
      have k2 := (HB.out.cell (p := ⟨b, _, none⟩) hb).trans d2
      have HTK := Lib.hid (show applyK l (cs.take (i + 1)) = doK (applyK l (cs.take i)) (cs[i]'hil) by unfold applyK; rw [List.take_succ_eq_append_getElem hil, List.foldl_append]; rfl)
      obtain ⟨⟨xk, xv, xg⟩, hx⟩ : ∃ x, cs[i]'hil = x := ⟨_, rfl⟩
      rw [hx] at k0 k1 k2 HTK
      replace k0 : wr.cell? ⟨b, off + i * 3, none⟩ = some (.string xk) := k0
      replace k1 : wr.cell? ⟨b, off + i * 3 + 1, none⟩ = some (.int .u8 xv) := k1
      replace k2 : wr.cell? ⟨b, off + i * 3 + 2, none⟩ = some (.bool xg) := k2
      obtain ⟨m, hm⟩ : ∃ m, applyK l (cs.take i) = m := ⟨_, rfl⟩
      rw [hm] at HS HTK
      have HLM := Lib.hid (HBD.out m i hm.symm hi)
      have i3 : i + 1 ≤ 9223372036854775807 := by have := HLE.out; unfold lim2U at this; omega
      have HST := Lib.hid (show ∀ U, Below wr.heap.size wr U → ∀ r f (l' : List (KV Int)), (∀ D' R', TblU D' R' U (.pointer (some ⟨w.heap.size, 0, none⟩)) m → Calls Try.prog f r U (ChPostU D' R' U (.pointer (some ⟨w.heap.size, 0, none⟩)) l' (if xg = true then .bool (getK m xk).isSome else .tuple #[]))) →
          Calls Try.prog f r U fun e V => e = .returned (if xg = true then .bool (getK m xk).isSome else .tuple #[]) ∧ (∃ D' R', TblU D' R' V (.pointer (some ⟨w.heap.size, 0, none⟩)) l' ∧ (∀ k, D' k → w.heap.size ≤ k) ∧ (∀ k, R' k → R k ∧ ¬ D k ∨ w.heap.size ≤ k)) ∧ Below w.heap.size w V from fun U hU r f l' hc => by
        obtain ⟨D', R', t1, t2, t3⟩ := HS.out
        refine (hc D' R' (t1.on hU)).mono ?_
        rintro e V ⟨D2, R2, rfl, u1, u2, u3, u4⟩
        have hwU := Nat.le_trans HB.out.size hU.size
        exact ⟨rfl, ⟨D2, R2, u1, fun k hk => (u2 k hk).elim (t2 k) (fun h => Nat.le_trans hwU h), fun k hk => (u3 k hk).elim (t3 k) (fun h => .inr (Nat.le_trans hwU h))⟩, (hop0 HB.out hU).trans (u4.toBelow (fun k _ hk => t2 k hk) hwU)⟩)
      have HLA := Lib.hid ((Below.refl wr.heap.size wr).alloc (Nat.le_refl _) (.cells #[.string xk, .int .u8 xv, .bool xg] 100))
      clear hx hil hb d0 d1 d2 hm
      cases xg
      · go_wp2_with (go_at_call 28; go_loud (refine (HST.out _ HLA.out _ _ (setK m xk xv) (fun D' R' t => putTU xk xv t HLM.out)).mono ?_; rintro en w3 ⟨rfl, hs3, hb3⟩; have HS3 := Lib.hid hs3; have HB3 := Lib.hid hb3; clear hs3 hb3))
        go_roundw
        case rel => exact ⟨i + 1, by go_num, by omega, by rw [HTK.out]; exact HS3, HB3⟩
        case measure => simp [intOf]; omega
      · go_wp2_with (go_at_call 49; go_loud (refine (HST.out _ HLA.out _ _ (dropK m xk) (fun D' R' t => delTU xk t HLM.out)).mono ?_; rintro en w3 ⟨rfl, hs3, hb3⟩; have HS3 := Lib.hid hs3; have HB3 := Lib.hid hb3; clear hs3 hb3))
        go_roundw
        case rel => exact ⟨i + 1, by go_num, by omega, by rw [HTK.out]; exact HS3, HB3⟩
        case measure => simp [intOf]; omega
    · have hin : i = n := by omega
      subst hin
      have he : cs.take i = cs := List.take_of_length_le (by rw [HN.out]; exact Nat.le_refl _)
      rw [he] at HS
      clear he
      go_wp2
      go_ret
      obtain ⟨D', R', t1, t2, t3⟩ := HS.out
      exact ⟨D', R', _, by simp, t1, t2, t3, HB.out⟩
end Go.Proofs.Ytmeoednndfgffaa

/- Layer 17, walked: gone, same of a table of uint8. -/
namespace Go.Proofs.Ytmeoednndfgffaa
attribute [local go_sem] Oper.semAt_some
open Go Go.ChangeShapes Go.WideShapes Go.ChangeAt Go.RowKit
set_option linter.unusedVariables false
set_option linter.unusedSimpArgs false
theorem goneU (k : ByteArray) (x : Int) (w : World) : Calls Try.prog 52 #[.agg #[.string k, .int .u8 x]] w fun e w' => e = .returned (.agg #[.string k, .int .u8 0, .bool true]) ∧ Below w.heap.size w w' := by
  have hb := ((Below.refl w.heap.size w).alloc (Nat.le_refl _) (.cells #[.string k, .int .u8 x] 96)).alloc (by simp) (.cells #[.string k, .int .u8 0, .bool true] 100)
  have HB := Lib.hid hb
  clear hb
  go_enter Try.func52, Try.ntmps52
  go_wp2
  exact bodyPost_ret (v := .agg #[.string k, .int .u8 0, .bool true]) (by simp [results, Try.results52, go_sem]) rfl ⟨rfl, HB.out⟩
theorem idleU (p : Addr) (w : World) :
    CallsD Try.prog 69 #[.pointer (some p)] .returning w fun e u' w' => e = .returned (.tuple #[]) ∧ u' = .returning ∧ w' = w := by
  refine callsD_of_wpS Try.func69 rfl fun c₀ cs hu => ?_
  apply wpS_seq
  apply wpS_region
  simp [wpOpsS, go_sem, recoverD, hu, Try.ntmps69, Exit.thenS]
  refine wpS_cond (t := false) (by simp [Act.eval, Array.replicate]) ?_
  simp only [Bool.false_eq_true, if_false]
  refine wpS_of_wp (wp_skip ?_)
  cases c₀
  simp_all [bodyPostS, results, Try.results69]
theorem beqU (x y : Int) : (x == y) = decide (x = y) := by
  by_cases h : x = y
  · rw [decide_eq_true h]; simp [h]
  · rw [decide_eq_false h]; simp [h]
theorem sameU (x y : Int) (w : World) : Calls Try.prog 53 #[.int .u8 x, .int .u8 y] w fun e w' => e = .returned (.bool (decide (x = y))) ∧ Below w.heap.size w w' := by
  have hmf : ∀ (fn : Fn) (first cap : Array Value) (w : World), (Instr.makeFunc fn first cap).run Try.prog w = .ok (.func fn first cap) w := fun _ _ _ _ => rfl
  go_enter_defers Try.func53, Try.ntmps53
  go_wp2
  refine leaves_cons (f := 69) (args := #[.pointer (some ⟨w.heap.size, 0, none⟩)]) (by simp) (by simp [go_sem]) ?_
  refine (idleU ⟨w.heap.size, 0, none⟩ _).mono ?_
  rintro e u' w'' ⟨rfl, rfl, rfl⟩
  refine ⟨.bool (decide (x = y)), by simp [results, Try.results53, go_sem, beqU], rfl, (Below.refl _ _).alloc (Nat.le_refl _) _⟩
end Go.Proofs.Ytmeoednndfgffaa

/- Layer 17, walked: all that a table of uint8 has. -/
namespace Go.Proofs.Ytmeoednndfgffaa
attribute [local go_sem] Oper.semAt_some
open Go Go.ChangeShapes Go.WideShapes Go.ChangeAt Go.RowKit
set_option linter.unusedVariables false
set_option linter.unusedSimpArgs false
theorem infoEnU : (Try.prog.info? 96).map (fun i => (i.zero, i.size, i.bytes)) = some (some (Value.agg #[.string ⟨#[]⟩, .int .u8 0]), 2, 24) := by kernel_rfl
def enCU (x : KV Int) : List Value := [.string x.k, .int .u8 x.v]
theorem en_lenU (x : KV Int) : (enCU x).length = 2 := rfl
theorem en_oneU (x : KV Int) : ∀ u ∈ enCU x, u.oneCell' = true := by simp [enCU, Value.oneCell']
theorem mk_enU (n : Nat) (hn : n ≤ limB) (W : World) : ∃ M, M.size = n * 2 ∧ (Instr.makeSlice 91 (.int .i64 0) (.int .i64 (n : Int))).run Try.prog W = .ok (.slice (some ⟨W.heap.size, 0, none⟩) 0 n) (W.alloc (.cells M 96)) := by
  obtain ⟨i0, hi, hz0, hz1, hz2⟩ := info_parts infoEnU
  unfold limB at hn
  have h := run_make (P := Try.prog) W 91 96 i0 _ Try.underlying91 hi hz0 .i64 .i64 0 (n : Int) (by omega) (by omega) (by rw [hz2]; omega) (by omega)
  rw [hz1] at h
  simp only [Int.toNat_natCast] at h
  exact ⟨_, size_madeCells _ _, h⟩
/-- All of a table, as a sequence. -/
theorem allxU {S : Nat → Prop} {w : World} {v : Value} {p : Option Addr} {l : List (KV Int)} (h : TvU S w v p l) : Calls Try.prog 51 #[v] w fun e w' => ∃ gf lb, e = .returned (.func (.func gf) #[] lb) ∧ (∀ args W, (callFunc gf args).run Try.prog W = .ok (.enter gf args) W) ∧ Below w.heap.size w w' ∧ w'.heap.size = w.heap.size + 1 ∧ w'.heap[w.heap.size]? = some (.cells #[.pointer p] 92) ∧
    ∀ n (T : Nat → Prop) W, W.heap[w.heap.size]? = some (.cells #[.pointer p] 92) → TrU T W (.pointer p) l → SeqAt Fence.wide n Try.prog gf lb encKVU (NextT l) (Ks T) (fun xs => xs.length = l.length) W := by
  refine (allU h).mono ?_
  rintro e w' ⟨rfl, h1, h2, h3⟩
  exact ⟨_, _, rfl, enters_of Try.func67 (by kernel_rfl) rfl, h3, h2, h1, fun n T W hq ht => all_seqU n T p l _ W hq ht⟩
/-- Entries of a table, in new memory. -/
def EnPostU (w : World) (l : List (KV Int)) (e : Ending) (w' : World) : Prop := ∃ A c, e = .returned (.slice A l.length c) ∧ w'.ownsRow w.heap.size 96 2 (.slice A l.length c) l.length (l.flatMap enCU) ∧ Below w.heap.size w w'
set_option maxHeartbeats 4000000 in
set_option maxRecDepth 100000 in
theorem entriesU {S : Nat → Prop} {w : World} {v : Value} {p : Option Addr} {l : List (KV Int)} (h : TvU S w v p l) (hl : l.length ≤ limB) :
    Calls Try.prog 50 #[v] w (EnPostU w l) := by
  refine (callsIn_wide (n := 8)).1 ?_
  have HT := Lib.hid h
  have HL := Lib.hid hl
  have HLEN := Lib.hid (lenU h)
  obtain ⟨M, hM, hmk⟩ := mk_enU l.length hl w
  obtain ⟨n, hn⟩ : ∃ n, l.length = n := ⟨_, rfl⟩
  have HN := Lib.hid hn
  rw [hn] at HLEN hM hmk HL
  obtain ⟨W1, hW1⟩ : ∃ W1, w.alloc (.cells M 96) = W1 := ⟨_, rfl⟩
  have hsz1 : W1.heap.size = w.heap.size + 1 := by rw [← hW1]; simp
  have hb1 : Below w.heap.size w W1 := by rw [← hW1]; exact (Below.refl _ _).alloc (Nat.le_refl _) _
  have ho1 : W1.ownsRow w.heap.size 96 2 (.slice (some ⟨w.heap.size, 0, none⟩) 0 n) 0 [] := by rw [← hW1]; exact own_made (by have := HL.out; unfold limB at this; unfold maxLen; omega) hM
  rw [hW1] at hmk
  obtain ⟨W2, hW2⟩ : ∃ W2, W1.alloc (.cells #[.slice (some ⟨w.heap.size, 0, none⟩) 0 n] 91) = W2 := ⟨_, rfl⟩
  have hsz2 : W2.heap.size = w.heap.size + 2 := by rw [← hW2]; simp [hsz1]
  have hb2 : Below w.heap.size w W2 := by rw [← hW2]; exact hb1.alloc (by omega) _
  have hg2 : Gro w.heap.size 96 91 2 (w.heap.size + 1) (some ⟨w.heap.size, 0, none⟩) 0 n [] W2 := by
    rw [← hW2, ← hsz1]
    exact ⟨World.alloc_heap_new W1 _, ho1.alloc _⟩
  have HG2 := Lib.hid hg2
  have HB2 := Lib.hid hb2
  have HSZ2 := Lib.hid hsz2
  have HALL := Lib.hid (allxU (HT.out.on hb2))
  rw [show w.heap.size + 1 = W1.heap.size from hsz1.symm] at HG2
  have HSZ1 := Lib.hid hsz1
  clear h hl hn hM ho1 hb1 hg2 hb2 hsz1 hsz2 hW1
  refine callsIn_of_wp_marks Try.func50 rfl trivial ?_ rfl
  simp only [Try.ntmps50, List.size_toArray, List.length_cons, List.length_nil, Nat.reduceAdd, Nat.reduceSub, Array.replicate_succ, Array.replicate_zero, List.push_toArray, List.append_toArray, List.nil_append, List.cons_append]
  refine wpIn_wide.2 ?_
  go_wp2_with (go_at_call 32; go_loud (refine HLEN.out.mono ?_; rintro en w1 ⟨rfl, rfl⟩))
  refine HALL.out.mono ?_
  rintro en w9 ⟨gf, lb, rfl, he9, hb9, hs9, hc9, hq9⟩
  have HE9 := Lib.hid he9; have HC9 := Lib.hid hc9; have HS9 := Lib.hid hs9; have HB9 := Lib.hid hb9; have HQ9 := Lib.hid hq9; clear he9 hc9 hs9 hb9 hq9
  dsimp only
  go_wp2
  have hsz9 : w9.heap.size = w.heap.size + 3 := by rw [HS9.out, HSZ2.out]
  have hx : W1.heap.size = w.heap.size + 1 := HSZ1.out
  have HG9 := Lib.hid (show Gro w.heap.size 96 91 2 W1.heap.size (some ⟨w.heap.size, 0, none⟩) 0 n [] w9 from HG2.out.stay fun k o hk _ => (HB9.out.block k (lt_blk hk)).trans hk)
  have HBW9 := Lib.hid (HB2.out.trans (HB9.out.mono HB2.out.size))
  have HTR := Lib.hid (HT.out.on HBW9.out).at_.nodes
  obtain ⟨T, hT⟩ : ∃ T, Nodes S 123 w9 = T := ⟨_, rfl⟩
  rw [hT] at HTR
  have HTE := Lib.hid (show ∀ k, T k → k < w9.heap.size ∧ ∃ cs, w9.heap[k]? = some (.cells cs 123 (0, 0)) from fun k hk => by
    rw [← hT] at hk
    obtain ⟨_, cs, h⟩ := hk
    exact ⟨lt_blk h, cs, h⟩)
  have HSX := Lib.hid hsz9
  have HX := Lib.hid hx
  clear hT hsz9 hx HS9 HSZ1 HSZ2 HG2 HB2 hmk hW2
  refine (wpIn_wide (n := 8)).1 ?_
  refine range_nest2 rfl (by omega) (gf := gf) (lb := lb) (by simp [Act.eval]) trivial HE9.out
    (encs := encKVU) (Y := NextT l) (Kp := Ks T) (done := fun xs => xs.length = l.length)
    (fun W1 hg hs1 => HQ9.out 7 T W1 ((hg.block _ (lt_blk HC9.out) (by simp)).trans HC9.out) (HTR.out.on (below_of_grown hg (fun r e => by cases e) (Nat.le_refl _))))
    (fun x => rfl) Ks.trans Ks.grown (fun U o => Ks.put (fun h => by have := (HTE.out _ h).1; omega) o)
    (fun pre U => (∃ A c, Gro w.heap.size 96 91 2 W1.heap.size A pre.length c (pre.flatMap enCU) U) ∧ Ks T w9 U ∧ Below w.heap.size w U ∧ pre = l.take pre.length)
    (fun _ _ _ => False)
    (Gro.own_.and ((Ks.own_ (fun k h1 h2 => h2)).and ((LoopOwn.below (by have := HSX.out; omega) (Nat.le_refl _)).and (LoopOwn.pure_ _))))
    (fun _ _ _ _ _ h _ _ => h)
    (fun pre _ _ _ _ h _ _ => h) ?sta (fun _ U => U) (fun x U => ⟨rfl, rfl, rfl, Nat.le_refl _, fun _ _ _ => rfl⟩) (fun _ _ _ => True) (fun x U r r' hb => trivial) ?aa1 ?asa ?boa ?doa ?spa
  case sta =>
    intro W3 hg hs1
    exact ⟨⟨_, _, HG9.out.stay fun k o hk _ => (hg.block k (lt_blk hk) (by simp)).trans hk⟩, Ks.grown hg, HBW9.out.trans (below_of_grown hg (fun r e => by cases e) (by have := HSX.out; omega)), rfl⟩
  case asa =>
    intro l0 x U K hK
    gi_wp2
    exact hK
  case boa =>
    rintro l0 pre x U V2 ⟨⟨A, c, hG⟩, hks, hbl, hpre⟩ hY _ hbk
    have hY2 : l[pre.length]? = some x := hY
    obtain ⟨hpl, hpe⟩ := List.getElem?_eq_some_iff.1 hY2
    have hpx : pre ++ [x] = l.take (pre ++ [x]).length := by
      rw [List.length_append, List.length_singleton, List.take_succ_eq_append_getElem hpl, hpe, ← hpre]
    have HPX := Lib.hid hpx
    have HG := Lib.hid hG
    have HKS := Lib.hid hks
    have HBL := Lib.hid hbl
    have HBK := Lib.hid hbk
    have HPL := Lib.hid (show pre.length < limB by have := HL.out; rw [← HN.out] at this; omega)
    have g0 := hG.cell
    have hbs := hbl.size
    obtain ⟨m, hm⟩ : ∃ m, pre.length = m := ⟨_, rfl⟩
    rw [hm] at HG HPL g0
    have HM := Lib.hid hm
    obtain ⟨xk, xv⟩ := x
    clear hpx hG hks hbl hbk hpl hpe hY hY2 hpre hm
    gi_wp2_with (gi_at_builtin; go_loud (refine append_item_in Try.underlying91 infoEnU rfl (by decide) en_lenU en_oneU rfl _ _ rfl w.heap.size A m c pre rfl _ ⟨xk, xv⟩ HG.out.own hbs _ rfl rfl (by have := HPL.out; unfold limB at this; omega) (by have := HPL.out; unfold limB at this; unfold maxLen; omega) _ rfl ?_; intro A' n' c' w1 hn' hown hgr; subst hn'; have HTO := Lib.hid (HG.out.to (by decide) (World.grownBy_alloc _ _ none) hown hgr); have t0 := HTO.out.cell; have t1 := HTO.out.frozen; have t2 := HTO.out.lt; clear hown hgr))
    obtain ⟨rr, hbook⟩ := HBK.out
    have hqD : w9.heap.size ≠ W1.heap.size := by have := HSX.out; have := HX.out; omega
    have hqD1 : w9.heap.size + 1 ≠ W1.heap.size := by have := HSX.out; have := HX.out; omega
    have hks : Ks T V2 (w1.setCell ⟨W1.heap.size, 0, none⟩ (.slice A' (m + 1) c')) := ⟨HTO.out.size, fun k hk hl => by
      obtain ⟨h9, cs, h0⟩ := HTE.out k hk
      have h2 := (HKS.out.2 k hk h9).trans h0
      refine (HTO.out.rest k _ h2 (fun e => ?_) (fun cur e => ?_)).trans h2.symm
      · subst e
        have h3 := HG.out.box
        rw [h2] at h3
        injection h3 with h3
        injection h3 with _ h3 _
        exact absurd h3 (by decide)
      · injection e with _ h3 _
        exact absurd h3 (by decide)⟩
    refine ⟨⟨(HTO.out.rest _ _ hbook.dfr hqD (fun cur e => by cases e)).trans hbook.dfr.symm, (HTO.out.rest _ _ hbook.rcd hqD1 (fun cur e => by cases e)).trans hbook.rcd.symm⟩, hks, ⟨A', c', ?_⟩, HKS.out.trans hks, HBL.out.trans (HTO.out.bel _ (Nat.le_refl _) (by have := HX.out; omega) HBL.out.size), HPX.out⟩
    rw [List.length_append, HM.out]
    exact HTO.out.gro
  case spa =>
    rintro cc pre V2 h
    exact h.elim
  case doa =>
    rintro xs V hxs ⟨⟨A, c, hG⟩, hks, hbl, hpre⟩ hK
    have hxl : xs.length = l.length := hxs
    have hxe : xs = l := by rw [hpre, hxl, List.take_length]
    subst hxe
    have g0 := hG.cell
    have hgl := hG.lt
    have HG := Lib.hid hG
    have HBL := Lib.hid hbl
    have HK := Lib.hid hK
    obtain ⟨m, hm⟩ : ∃ m, xs.length = m := ⟨_, rfl⟩
    rw [hm] at g0 HG
    have HM := Lib.hid hm
    clear hG hks hbl hpre hK hxs hxl hm
    go_wp2
    refine ⟨by simp, .inl ⟨_, _, rfl, run_takeDeferred HK.out, ?_⟩⟩
    refine ⟨.slice A m c, by simp [results, Try.results50, go_sem], A, c, by rw [HM.out], ?_, below_putH HBL.out (Nat.le_refl _) (by have := HSX.out; omega) _⟩
    rw [HM.out]
    exact own_stay HG.out.own fun g e => World.putObj_heap_other (fun e2 => own_ne HG.out.own HK.out (fun cur e => by cases e) (by rw [e, e2]))
end Go.Proofs.Ytmeoednndfgffaa
