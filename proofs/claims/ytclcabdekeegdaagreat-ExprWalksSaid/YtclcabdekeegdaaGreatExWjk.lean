/- Several texts in one: ExWj, ExWk. -/
import Derived.Test.YtclcabdekeegdaaGreatExWgi
import Derived.Test.YtclcabdekeegdaaGreatExPV
/- Layer 13, walked: the worth by Op (wip/gen/XExWj.py). -/
namespace Go.Proofs.YtclcabdekeegdaaGreat
open Go.ChangeShapes Go.WideShapes Go.ChangeAt Go.RowKit
set_option linter.unusedVariables false
set_option linter.unusedSimpArgs false
theorem ent_ite {p : Prop} [Decidable p] {f g : Nat} (hf : ∀ args W, (callFunc f args).run Tryz.prog W = .ok (.enter f args) W) (hg : ∀ args W, (callFunc g args).run Tryz.prog W = .ok (.enter g args) W) : ∀ args W, (callFunc (if p then f else g) args).run Tryz.prog W = .ok (.enter (if p then f else g) args) W := by
  split
  · exact hf
  · exact hg
set_option maxRecDepth 20000 in
theorem worthF_enters (o : Int) : ∀ args W, (callFunc (worthF o) args).run Tryz.prog W = .ok (.enter (worthF o) args) W := by
  unfold worthF
  refine ent_ite (enters_of Tryz.func59 (by kernel_rfl) rfl) ?_
  refine ent_ite (enters_of Tryz.func62 (by kernel_rfl) rfl) ?_
  refine ent_ite (enters_of Tryz.func65 (by kernel_rfl) rfl) ?_
  refine ent_ite (enters_of Tryz.func68 (by kernel_rfl) rfl) ?_
  refine ent_ite (enters_of Tryz.func70 (by kernel_rfl) rfl) ?_
  refine ent_ite (enters_of Tryz.func72 (by kernel_rfl) rfl) ?_
  refine ent_ite (enters_of Tryz.func73 (by kernel_rfl) rfl) ?_
  refine ent_ite (enters_of Tryz.func74 (by kernel_rfl) rfl) ?_
  refine ent_ite (enters_of Tryz.func75 (by kernel_rfl) rfl) ?_
  refine ent_ite (enters_of Tryz.func77 (by kernel_rfl) rfl) ?_
  refine ent_ite (enters_of Tryz.func78 (by kernel_rfl) rfl) ?_
  refine ent_ite (enters_of Tryz.func80 (by kernel_rfl) rfl) ?_
  refine ent_ite (enters_of Tryz.func82 (by kernel_rfl) rfl) ?_
  refine ent_ite (enters_of Tryz.func84 (by kernel_rfl) rfl) ?_
  refine ent_ite (enters_of Tryz.func86 (by kernel_rfl) rfl) ?_
  exact enters_of Tryz.func88 (by kernel_rfl) rfl
theorem kindsX_all {cs : List C} : ∀ {l : List X} {r : List Int}, kindsX cs l = .ok r → ∀ k ∈ l, (kindX cs k).2 = 0
  | x :: ks, r, h, k, hk => by
    simp only [kindsX] at h
    split at h
    · cases h
    · rename_i hx
      split at h
      · cases h
      · rename_i l2 hl
        rcases List.mem_cons.1 hk with rfl | hk
        · simpa using hx
        · exact kindsX_all hl k hk
theorem kids_kind {cs : List C} {o : Int} {n : ByteArray} {v : V} {ks : List X} (h : (kindX cs (.mk o n v ks)).2 = 0) : ∀ k ∈ ks, (kindX cs k).2 = 0 := by
  simp only [kindX] at h
  split at h
  · rename_i e he
    exact absurd h (kindsX_err he)
  · rename_i l hl
    exact kindsX_all hl
theorem in_of {x : Int} (h : in64 x) : In64 x := h
section
variable (cs : List C) (row : List V) (cA : Option Addr) (cc : Nat) (rA : Option Addr) (rc : Nat) (B b : Nat)
set_option maxHeartbeats 4000000 in
theorem worthF_any (o : Int) (n : ByteArray) (v : V) (ks : List X) (hl : (ks.length : Int) = kidsN o) (hall : ∀ k ∈ ks, formX k = true) (hkind : (kindX cs (.mk o n v ks)).2 = 0) (hfit : fitsR cs row = true) (hrw : ∀ v ∈ row, v.wf) (hwf : ∀ k ∈ ks, k.wf)
    (hih : ∀ (k : Nat) (hk : k < ks.length), WK cs row cA cc rA rc B b ks[k] (evalX cs row ks[k])) (A : Option Addr) (c : Nat) (w : World) (hs : Sc cs row cA cc rA rc B b w) (hk : KidsAt w w.heap.size (.mk o n v ks) A c) :
    Calls Tryz.prog (worthF o) #[.pointer (some ⟨b, 0, none⟩), eV o n v ks.length A c] w fun en w' => en = endW (evalX cs row (.mk o n v ks)) ∧ Below w.heap.size w w' := by
  have hgood : ∀ k ∈ ks, GoodW (kindX cs k).1 (evalX cs row k) := fun k hk => evalX_good hfit k (hall k hk) (kids_kind hkind k hk)
  have hwfe : ∀ k ∈ ks, (evalX cs row k).1.wf := fun k hk => evalX_wf hrw k (hwf k hk)
  have hlen := (by simpa [fitsR] using hfit : row.length = cs.length ∧ fitsL cs row = true).1
  rcases op_cases hl with ⟨ho, h0⟩ | ⟨ho, h0⟩ | ⟨ho, h0⟩ | ⟨ho, h0⟩
  · obtain rfl := List.eq_nil_of_length_eq_zero h0
    rcases ho with rfl | rfl | rfl
    · have hf : findI n cs < cs.length := by
        simp only [kindX, kindsX, if_true] at hkind
        split at hkind
        · assumption
        · exact absurd hkind (by decide)
      exact columnWorth_any cs row cA cc rA rc B b 1 n v [] A c w hs hf hlen
    · exact literalWorth_any _ 2 n v 0 A c w
    · exact nullWorth_any _ 3 n v 0 A c w
  · obtain ⟨x, rfl⟩ := List.length_eq_one_iff.1 h0
    have hx : WK cs row cA cc rA rc B b ([x][0]) (evalX cs row x) := hih 0 (by simp)
    have hg := hgood x (by simp)
    have hw := hwfe x (by simp)
    rw [eval1 (by omega)]
    rcases ho with rfl | rfl | rfl | rfl
    · rw [ev9 hg]
      exact negated_out b 9 n v [x] A c w _ fun W hW => one_any cs row cA cc rA rc B b 9 n v [x] (by simp) A c W (hs.below hW.b) (KidsAt.more hW.b.size (hk.below hW.b)) _ hx 110 (enters_of Tryz.func110 (by kernel_rfl) rfl) _ fun _ _ W2 => negated1_any _ (in_of hw.2.1) W2
    · rw [ev16]
      exact turned_out b 16 n v [x] A c w _ fun W hW => one_any cs row cA cc rA rc B b 16 n v [x] (by simp) A c W (hs.below hW.b) (KidsAt.more hW.b.size (hk.below hW.b)) _ hx 118 (enters_of Tryz.func118 (by kernel_rfl) rfl) _ fun _ _ W2 => turned1_any _ W2
    · rw [ev17]
      exact asked_any cs row cA cc rA rc B b 17 n v [x] (by simp) A c w hs hk _ hx
    · rw [ev20]
      exact measured_out b 20 n v [x] A c w _ fun W hW => one_any cs row cA cc rA rc B b 20 n v [x] (by simp) A c W (hs.below hW.b) (KidsAt.more hW.b.size (hk.below hW.b)) _ hx 119 (enters_of Tryz.func119 (by kernel_rfl) rfl) _ fun _ _ W2 => measured1_any _ W2
  · obtain ⟨x, y, rfl⟩ := two_of h0
    have hx : WK cs row cA cc rA rc B b ([x, y][0]) (evalX cs row x) := hih 0 (by simp)
    have hy : WK cs row cA cc rA rc B b ([x, y][1]) (evalX cs row y) := hih 1 (by simp)
    have hg := hgood x (by simp)
    have hg1 := hgood y (by simp)
    have hw := hwfe x (by simp)
    have hw1 := hwfe y (by simp)
    have hk0 := kids_kind hkind x (by simp)
    have hk1 := kids_kind hkind y (by simp)
    rw [kind2 (by omega), if_neg (by simp [hk0]), if_neg (by simp [hk1])] at hkind
    rw [eval2 (by omega)]
    by_cases h8 : o ≤ 8
    · have h4 : 4 ≤ o := by omega
      rw [ev8 h4 h8]
      have e : worthF o = 68 := by unfold worthF; rw [if_neg (by omega), if_neg (by omega), if_neg (by omega), if_pos h8]
      rw [e]
      exact reckoned_out b o n v [x, y] A c w _ fun W hW => two_any cs row cA cc rA rc B b o n v [x, y] (by simp) A c W (hs.below hW.b) (KidsAt.more hW.b.size (hk.below hW.b)) _ _ hx hy 107 _ (enters_of Tryz.func107 (by kernel_rfl) rfl) _ fun _ _ _ _ W2 hb2 => reckoned1_any o _ _ (in_of hw.2.1) (in_of hw1.2.1) w.heap.size W2 (later_cell hb2 (C6.of hW.x).1)
    by_cases h13 : o ≤ 13
    · have h10 : 10 ≤ o := by omega
      rw [ev13 h10 h13]
      have : o = 10 ∨ o = 11 ∨ o = 12 ∨ o = 13 := by omega
      have hcmp : ∀ (g : Nat), (∀ args W, (callFunc g args).run Tryz.prog W = .ok (.enter g args) W) → (∀ x W, Calls Tryz.prog g #[.int .i64 x] W fun en w' => en = .returned (.bool (cmpG o x)) ∧ W = w') → ∀ W, Fr o n v [x, y] A c w.heap.size (w.heap.size + 1) zV w W →
          Calls Tryz.prog 111 #[.pointer (some ⟨b, 0, none⟩), eV o n v [x, y].length A c, .func (.func g) #[] #[]] W fun en w' => en = endW (twoR (evalX cs row x) (evalX cs row y) (fun a b => (boolW (cmpG o (cmpV a b)), 0))) ∧ Below W.heap.size W w' := fun g eg hgc W hW =>
        ordered_out b g o n v [x, y] A c W _ fun W2 hW2 hcf => two_any cs row cA cc rA rc B b o n v [x, y] (by simp) A c W2 ((hs.below hW.b).below hW2.b) (KidsAt.more hW2.b.size ((KidsAt.more hW.b.size (hk.below hW.b)).below hW2.b)) _ _ hx hy 135 _ (enters_of Tryz.func135 (by kernel_rfl) rfl) _ fun _ _ _ _ W3 hb3 => ordered1_any _ _ hw hw1 g (W.heap.size + 1) eg (cmpG o) hgc W3 (later_cell hb3 hcf)
      rcases this with rfl | rfl | rfl | rfl
      · exact equal_out b 10 n v [x, y] A c w _ fun W hW => hcmp 112 (enters_of Tryz.func112 (by kernel_rfl) rfl) (fun x W => equal1_any x W) W hW
      · exact unlike_out b 11 n v [x, y] A c w _ fun W hW => hcmp 113 (enters_of Tryz.func113 (by kernel_rfl) rfl) (fun x W => unlike1_any x W) W hW
      · exact ahead_out b 12 n v [x, y] A c w _ fun W hW => hcmp 114 (enters_of Tryz.func114 (by kernel_rfl) rfl) (fun x W => ahead1_any x W) W hW
      · exact notBehind_out b 13 n v [x, y] A c w _ fun W hW => hcmp 115 (enters_of Tryz.func115 (by kernel_rfl) rfl) (fun x W => notBehind1_any x W) W hW
    by_cases h15 : o ≤ 15
    · have h2 : (kindX cs x).1 = 2 ∧ (kindX cs y).1 = 2 := by
        have : o = 14 ∨ o = 15 := by omega
        unfold kindOp at hkind
        rw [if_neg (by omega), if_neg (by omega), if_neg (by omega), if_pos this] at hkind
        split at hkind
        · assumption
        · exact absurd hkind (by decide)
      rw [h2.1] at hg
      rw [h2.2] at hg1
      have : o = 14 ∨ o = 15 := by omega
      rcases this with rfl | rfl
      · rw [ev14 hg hg1]
        exact allTrue_any cs row cA cc rA rc B b 14 n v [x, y] (by simp) A c w hs hk _ _ hx hy hg hg1
      · rw [ev15 hg hg1]
        exact oneTrue_any cs row cA cc rA rc B b 15 n v [x, y] (by simp) A c w hs hk _ _ hx hy hg hg1
    · obtain rfl : o = 19 := by omega
      rw [ev19]
      exact replaced_any cs row cA cc rA rc B b 19 n v [x, y] (by simp) A c w hs hk _ _ hx hy
  · subst ho
    obtain ⟨x, y, z, rfl⟩ := three_of h0
    have hx : WK cs row cA cc rA rc B b ([x, y, z][0]) (evalX cs row x) := hih 0 (by simp)
    have hy : WK cs row cA cc rA rc B b ([x, y, z][1]) (evalX cs row y) := hih 1 (by simp)
    have hz : WK cs row cA cc rA rc B b ([x, y, z][2]) (evalX cs row z) := hih 2 (by simp)
    have hg := hgood x (by simp)
    have hk0 := kids_kind hkind x (by simp)
    have hk1 := kids_kind hkind y (by simp)
    have hk2 := kids_kind hkind z (by simp)
    rw [kind3 (by omega), if_neg (by simp [hk0]), if_neg (by simp [hk1]), if_neg (by simp [hk2])] at hkind
    rw [eval3 (by omega), ev18]
    have h2 : (kindX cs x).1 = 2 := by
      unfold kindOp at hkind
      simp at hkind
      split at hkind <;> simp_all
    rw [h2] at hg
    exact chosen_any cs row cA cc rA rc B b 18 n v [x, y, z] (by simp) A c w hs hk _ _ _ hx hy hz hg
end
end Go.Proofs.YtclcabdekeegdaaGreat

/- Layer 13, walked: what an expression is worth, or with what it is given up. -/
namespace Go.Proofs.YtclcabdekeegdaaGreat
open Go.ChangeShapes Go.WideShapes Go.ChangeAt Go.RowKit
set_option linter.unusedVariables false
set_option linter.unusedSimpArgs false
set_option maxHeartbeats 8000000 in
set_option maxRecDepth 40000 in
theorem worth_rec (cs : List C) (row : List V) (cA : Option Addr) (cc : Nat) (rA : Option Addr) (rc : Nat) (B b : Nat) (hfit : fitsR cs row = true) (hrw : ∀ v ∈ row, v.wf) : ∀ (e : X), formX e = true → (kindX cs e).2 = 0 → e.wf → WK cs row cA cc rA rc B b e (evalX cs row e) := by
  refine X.ind ?_
  intro o n v ks ih hform hkind hwf A c w hs hk
  simp only [formX, Bool.and_eq_true, decide_eq_true_eq] at hform
  obtain ⟨⟨hl, hh⟩, hks⟩ := hform
  have hall := formL_iff.1 hks
  simp only [X.wf] at hwf
  have hop := op_cases hl
  have h1 : 1 ≤ o := by omega
  have h20 : o ≤ 20 := by omega
  have HF := Lib.hid (fun (W : World) (hb : Below w.heap.size w W) => worthF_any cs row cA cc rA rc B b o n v ks hl hall hkind hfit hrw (fun k hk => X.wfL_mem hwf.2.2.2 k hk)
    (fun k hk => ih ks[k] (List.getElem_mem hk) (hall _ (List.getElem_mem hk)) (kids_kind hkind _ (List.getElem_mem hk)) (X.wfL_mem hwf.2.2.2 _ (List.getElem_mem hk))) A c W (hs.below hb) (KidsAt.more hb.size (hk.below hb)))
  obtain ⟨r2, hrr⟩ : ∃ r2, o.toNat = r2 := ⟨_, rfl⟩
  have hon : (r2 : Int) = o := by omega
  have hr2 : rulesL[r2 * 4 + 3]? = some (fnV (worthF o)) := by
    rw [← hon]
    have : r2 ≤ 20 := by omega
    have : 1 ≤ r2 := by omega
    have : r2 = 1 ∨ r2 = 2 ∨ r2 = 3 ∨ r2 = 4 ∨ r2 = 5 ∨ r2 = 6 ∨ r2 = 7 ∨ r2 = 8 ∨ r2 = 9 ∨ r2 = 10 ∨ r2 = 11 ∨ r2 = 12 ∨ r2 = 13 ∨ r2 = 14 ∨ r2 = 15 ∨ r2 = 16 ∨ r2 = 17 ∨ r2 = 18 ∨ r2 = 19 ∨ r2 = 20 := by omega
    rcases this with rfl | rfl | rfl | rfl | rfl | rfl | rfl | rfl | rfl | rfl | rfl | rfl | rfl | rfl | rfl | rfl | rfl | rfl | rfl | rfl <;> rfl
  have HS := Lib.hid hs
  have HRC := Lib.hid (fun (W : World) (hb : Below w.heap.size w W) => (HS.out.below hb).rule hr2)
  have hen := worthF_enters o
  obtain ⟨f, hf⟩ : ∃ f, worthF o = f := ⟨_, rfl⟩
  rw [hf] at HRC HF hen
  obtain ⟨⟨y, er⟩, hy⟩ : ∃ z, evalX cs row (.mk o n v ks) = z := ⟨_, rfl⟩
  rw [hy] at HF ⊢
  obtain ⟨W1, hW1⟩ : ∃ W1, (w.alloc ((X.mk o n v ks).obj A c)).alloc (.cells #[.int .i64 0, .int .i64 0, .string ⟨#[]⟩] 23) = W1 := ⟨_, rfl⟩
  have hfr : Fr o n v ks A c w.heap.size (w.heap.size + 1) zV w W1 := by rw [← hW1]; exact Fr.new o n v ks _ c w
  have HFR := Lib.hid hfr
  have i0 : (0 : Int) ≤ o := by omega
  have i1 : o < 21 := by omega
  subst hon
  have i2 : ¬ (21 ≤ (r2 : Int)) := by omega
  have hbs := HS.out.lt
  clear hrr hr2 hf hy hfr hs hk hkind hwf ih hall hks hl hh hop
  unfold X.obj at hW1
  unfold X.val
  simp only [X.op, X.nm, X.v, X.ks] at hW1 ⊢
  unfold fnV at HRC
  unfold eV at HF
  go_enter Tryz.func46, Tryz.ntmps46
  go_wp2_with fail
  try rw [hW1]
  have HF1 := Lib.hid HFR.out.drew
  have hS : (Hid (C6 (r2 : Int) n v ks.length A c w.heap.size W1.drew) ∧ W1.drew.cell? ⟨b, r2 * 4 + 3, none⟩ = some (.func (.func f) #[] #[])) ∧ Below w.heap.size w W1.drew := ⟨⟨Lib.hid (C6.of HF1.out.x), HRC.out _ HF1.out.b⟩, HF1.out.b⟩
  refine held_begin 12 (fun W => (Hid (C6 (r2 : Int) n v ks.length A c w.heap.size W) ∧ W.cell? ⟨b, r2 * 4 + 3, none⟩ = some (.func (.func f) #[] #[])) ∧ Below w.heap.size w W) rfl (by kernel_rfl) ?_
  refine held_take (i := 0) (t := 5) (v := (.pointer (some ⟨b, 0, none⟩))) (fuel := 11) rfl rfl (by kernel_rfl) (by kernel_rfl) (by kernel_rfl) (fun _ _ _ h => h) (.inl ⟨rfl, fun W hW => by simp [execOp, Act.eval, go_sem]⟩) hS ?_
  simp only [List.setIfInBounds_toArray, List.set_cons_succ, List.set_cons_zero]
  refine held_take (i := 1) (t := 6) (v := (.pointer (some ⟨w.heap.size, 0, none⟩))) (fuel := 10) rfl rfl (by kernel_rfl) (by kernel_rfl) (by kernel_rfl) (fun _ _ _ h => h) (.inl ⟨rfl, fun W hW => by simp [execOp, Act.eval, go_sem]⟩) hS ?_
  simp only [List.setIfInBounds_toArray, List.set_cons_succ, List.set_cons_zero]
  refine held_take (i := 2) (t := 7) (v := (.int .i64 (r2 : Int))) (fuel := 9) rfl rfl (by kernel_rfl) (by kernel_rfl) (by kernel_rfl) (fun _ _ _ h => h) (.inl ⟨rfl, fun W hW => by simp [execOp, Act.eval, go_sem, hW.1.1.out.1]⟩) hS ?_
  simp only [List.setIfInBounds_toArray, List.set_cons_succ, List.set_cons_zero]
  refine held_take (i := 3) (t := 8) (v := (.pointer (some ⟨b, 0, none⟩))) (fuel := 8) rfl rfl (by kernel_rfl) (by kernel_rfl) (by kernel_rfl) (fun _ _ _ h => h) (.inl ⟨rfl, fun W hW => by simp [execOp, Act.eval, go_sem]⟩) hS ?_
  simp only [List.setIfInBounds_toArray, List.set_cons_succ, List.set_cons_zero]
  refine held_take (i := 4) (t := 9) (v := (.pointer (some ⟨b, 0, none⟩))) (fuel := 7) rfl rfl (by kernel_rfl) (by kernel_rfl) (by kernel_rfl) (fun _ _ _ h => h) (.inl ⟨rfl, fun W hW => by simp [execOp, Act.eval, go_sem]⟩) hS ?_
  simp only [List.setIfInBounds_toArray, List.set_cons_succ, List.set_cons_zero]
  refine held_take (i := 5) (t := 10) (v := (.pointer (some ⟨b, r2 * 4, none⟩))) (fuel := 6) rfl rfl (by kernel_rfl) (by kernel_rfl) (by kernel_rfl) (fun _ _ _ h => h) (.inl ⟨rfl, fun W hW => by simp [execOp, Act.eval, go_sem, i0, i1]⟩) hS ?_
  simp only [List.setIfInBounds_toArray, List.set_cons_succ, List.set_cons_zero]
  refine held_take (i := 6) (t := 11) (v := (.pointer (some ⟨b, r2 * 4 + 3, none⟩))) (fuel := 5) rfl rfl (by kernel_rfl) (by kernel_rfl) (by kernel_rfl) (fun _ _ _ h => h) (.inl ⟨rfl, fun W hW => by simp [execOp, Act.eval, go_sem]⟩) hS ?_
  simp only [List.setIfInBounds_toArray, List.set_cons_succ, List.set_cons_zero]
  refine held_take (i := 7) (t := 12) (v := (.func (.func f) #[] #[])) (fuel := 4) rfl rfl (by kernel_rfl) (by kernel_rfl) (by kernel_rfl) (fun _ _ _ h => h) (.inl ⟨rfl, fun W hW => by simp [execOp, Act.eval, go_sem, hW.1.2]⟩) hS ?_
  simp only [List.setIfInBounds_toArray, List.set_cons_succ, List.set_cons_zero]
  refine held_take (i := 8) (t := 13) (v := (.pointer (some ⟨b, 0, none⟩))) (fuel := 3) rfl rfl (by kernel_rfl) (by kernel_rfl) (by kernel_rfl) (fun _ _ _ h => h) (.inl ⟨rfl, fun W hW => by simp [execOp, Act.eval, go_sem]⟩) hS ?_
  simp only [List.setIfInBounds_toArray, List.set_cons_succ, List.set_cons_zero]
  refine held_take (i := 9) (t := 14) (v := (.agg #[.int .i64 (r2 : Int), .string n, .int .i64 v.k, .int .i64 v.n, .string v.s, .slice A ks.length c])) (fuel := 2) rfl rfl (by kernel_rfl) (by kernel_rfl) (by kernel_rfl) (fun _ _ _ h => h) (.inl ⟨rfl, fun W hW => by simp [execOp, Act.eval, go_sem, hW.1.1.out.1, hW.1.1.out.2.1, hW.1.1.out.2.2.1, hW.1.1.out.2.2.2.1, hW.1.1.out.2.2.2.2.1, hW.1.1.out.2.2.2.2.2]⟩) hS ?_
  simp only [List.setIfInBounds_toArray, List.set_cons_succ, List.set_cons_zero]
  refine held_call (i := 10) rfl (by kernel_rfl) (by kernel_rfl) ?_
  simp [Oper.wp, execOp, Act.eval, Act.put, go_sem, hen]
  refine (HF.out _ HF1.out.b).mono ?_
  rintro en w4 ⟨rfl, hb4⟩
  have HF3 := Lib.hid (HF1.out.below hb4)
  clear hS
  by_cases h : er = 0
  · subst h
    rw [endW_ok rfl]
    dsimp only
    unfold V.val
    have s0 := HF3.out.r.c0; have s1 := HF3.out.r.c1; have s2 := HF3.out.r.c2; have f0 := HF3.out.r.free 0; have f1 := HF3.out.r.free 1; have f2 := HF3.out.r.free 2
    have hS : (Hid (C6 (r2 : Int) n v ks.length A c w.heap.size w4) ∧ w4.cell? ⟨b, r2 * 4 + 3, none⟩ = some (.func (.func f) #[] #[])) ∧ Below w.heap.size w w4 := ⟨⟨Lib.hid (C6.of HF3.out.x), HRC.out _ HF3.out.b⟩, HF3.out.b⟩
    refine ⟨hS, ?_⟩
    try simp only [List.setIfInBounds_toArray, List.set_cons_succ, List.set_cons_zero]
    refine held_call (i := 11) rfl (by kernel_rfl) (by kernel_rfl) ?_
    simp [Oper.wp, execOp, Act.eval, Act.put, go_sem, s0, s1, s2, f0, f1, f2]
    refine ⟨⟨⟨Lib.hid (C6.of ((Below.heap_set3 w4 (by omega) _ _ _).trans HF3.out.x)), ?_⟩, set3_below HF3.out.b (Nat.le_succ _) _ _ _⟩, ?_⟩
    · exact HRC.out _ HF3.out.b
    try simp only [List.setIfInBounds_toArray, List.set_cons_succ, List.set_cons_zero]
    refine wpAnyH_done (by kernel_rfl) ?_ 0
    go_wp2
    exact bodyPost_ret (ret_row rfl (by rfl) (HF3.out.r.set y)) rfl ⟨rfl, set3_below HF3.out.b (Nat.le_succ _) _ _ _⟩
  · rw [endW_no h]
    exact ⟨rfl, (endW_no h).symm, HF3.out.b⟩
end Go.Proofs.YtclcabdekeegdaaGreat
