/- Several texts in one: ExLd, ExLe, ExLf. -/
import Derived.Test.YtclcabdekeegdaaGreatExLa
import Derived.Test.YtclcabdekeegdaaGreatExC
import Derived.Great.Ranges
/- Layer 13, walked: of what kind, and what worth. -/
namespace Go.Proofs.YtclcabdekeegdaaGreat
open Go.ChangeShapes Go.WideShapes Go.ChangeAt Go.RowKit Go.Great
set_option linter.unusedVariables false
set_option linter.unusedSimpArgs false
theorem kindOp_zero {o k0 k1 k2 : Int} (h : (kindOp o k0 k1 k2).2 ≠ 0) : (kindOp o k0 k1 k2).1 = 0 := by
  unfold kindOp at h ⊢
  repeat' split
  all_goals (first | rfl | (exfalso; simp_all))
theorem kindX_zero {cs : List C} {e : X} (h : (kindX cs e).2 ≠ 0) : (kindX cs e).1 = 0 := by
  cases e with
  | mk o n v ks =>
    simp only [kindX] at h ⊢
    split at h
    · rename_i er he; rfl
    · rename_i l hl
      by_cases h1 : o = 1
      · rw [if_pos h1] at h ⊢
        split at h
        · exact absurd rfl h
        · rename_i hn; rw [if_neg hn]
      · rw [if_neg h1] at h ⊢
        by_cases h2 : o = 2
        · rw [if_pos h2] at h; exact absurd rfl h
        · rw [if_neg h2] at h ⊢
          by_cases h3 : o = 3
          · rw [if_pos h3] at h; exact absurd rfl h
          · rw [if_neg h3] at h ⊢
            exact kindOp_zero h
section
variable (cs : List C) (row : List V) (cA : Option Addr) (cc : Nat) (rA : Option Addr) (rc : Nat) (B b : Nat)
set_option maxRecDepth 20000 in
theorem kind1c_any (e : X) (hf : formX e = true) (ps pe : Nat) (A : Option Addr) (c : Nat) (W : World) (hs : Sc cs row cA cc rA rc B b W) (hk : KidsAt W W.heap.size e A c) (hc : W.cell? ⟨ps, 0, none⟩ = some (.pointer (some ⟨b, 0, none⟩))) (he : W.heap[pe]? = some (e.obj A c)) :
    Calls Tryz.prog 40 #[.pointer (some ⟨ps, 0, none⟩), .pointer (some ⟨pe, 0, none⟩)] W fun en w' => en = endK (kindX cs e) ∧ Below W.heap.size W w' := by
  have HC := Lib.hid (kind_rec cs row cA cc rA rc B b e hf A c W hs hk)
  obtain ⟨p0, p1, p2, p3, p4, p5⟩ := obj_cells he
  clear hs hk he hf
  unfold X.val at HC
  obtain ⟨⟨y, er⟩, hy⟩ : ∃ z, kindX cs e = z := ⟨_, rfl⟩
  rw [hy] at HC ⊢
  clear hy
  by_cases h : er = 0
  · subst h
    rw [endK_ok] at HC ⊢
    go_enter Tryz.func40, Tryz.ntmps40
    go_wp2_with (go_at_call 41; refine HC.out.mono ?_; rintro en w2 ⟨rfl, hb2⟩; have HB2 := Lib.hid hb2; clear hb2)
    go_ret
    exact ⟨rfl, HB2.out⟩
  · rw [endK_no h] at HC ⊢
    go_enter Tryz.func40, Tryz.ntmps40
    go_wp2_with (go_at_call 41; refine HC.out.mono ?_; rintro en w2 ⟨rfl, hb2⟩; have HB2 := Lib.hid hb2; clear hb2)
    exact ⟨rfl, rfl, HB2.out⟩
set_option maxRecDepth 20000 in
theorem worth1c_any (hfit : fitsR cs row = true) (hrw : ∀ v ∈ row, v.wf) (e : X) (hf : formX e = true) (hkd : (kindX cs e).2 = 0) (hwe : e.wf) (ps pe : Nat) (A : Option Addr) (c : Nat) (W : World) (hs : Sc cs row cA cc rA rc B b W) (hk : KidsAt W W.heap.size e A c) (hc : W.cell? ⟨ps, 0, none⟩ = some (.pointer (some ⟨b, 0, none⟩))) (he : W.heap[pe]? = some (e.obj A c)) :
    Calls Tryz.prog 45 #[.pointer (some ⟨ps, 0, none⟩), .pointer (some ⟨pe, 0, none⟩)] W fun en w' => en = endW (evalX cs row e) ∧ Below W.heap.size W w' := by
  obtain ⟨W1, hW1⟩ : ∃ W1, W.alloc (.cells #[.int .i64 0, .int .i64 0, .string ⟨#[]⟩] 23) = W1 := ⟨_, rfl⟩
  have hb1 : Below W.heap.size W W1 := by rw [← hW1]; exact (Below.refl _ _).alloc (Nat.le_refl _) _
  have HZ := Lib.hid (show Box3 W1 W.heap.size zV by rw [← hW1]; exact Box3.new W zV)
  have HB := Lib.hid hb1
  have HC := Lib.hid (worth_rec cs row cA cc rA rc B b hfit hrw e hf hkd hwe A c W1 (hs.below hb1) (KidsAt.more hb1.size (hk.below hb1)))
  obtain ⟨p0, p1, p2, p3, p4, p5⟩ := obj_cells ((hb1.block _ (Array.getElem?_eq_some_iff.1 he).1).trans he)
  have hc1 := later_cell hb1 hc
  have hlt1 := (Array.getElem?_eq_some_iff.1 he).1
  have hlt2 := World.block_lt_of_cell? W _ hc
  clear hs hk he hf hc hkd hwe hb1
  unfold X.val at HC
  obtain ⟨⟨y, er⟩, hy⟩ : ∃ z, evalX cs row e = z := ⟨_, rfl⟩
  rw [hy] at HC ⊢
  clear hy
  by_cases h : er = 0
  · subst h
    rw [endW_ok rfl] at HC ⊢
    dsimp only at HC ⊢
    unfold V.val at HC ⊢
    go_enter Tryz.func45, Tryz.ntmps45
    go_wp2_with (go_at_call 46; refine HC.out.mono ?_; rintro en w2 ⟨rfl, hb2⟩; have HZ2 := Lib.hid (HZ.out.below hb2); have HB2 := Lib.hid (hop0 HB.out hb2); have s0 := HZ2.out.c0; have s1 := HZ2.out.c1; have s2 := HZ2.out.c2; have f0 := HZ2.out.free 0; have f1 := HZ2.out.free 1; have f2 := HZ2.out.free 2; clear hb2)
    exact bodyPost_ret (ret_row rfl (by rfl) (HZ2.out.set y)) rfl ⟨rfl, set3_below HB2.out (Nat.le_refl _) _ _ _⟩
  · rw [endW_no h] at HC ⊢
    go_enter Tryz.func45, Tryz.ntmps45
    go_wp2_with (go_at_call 46; refine HC.out.mono ?_; rintro en w2 ⟨rfl, hb2⟩; have HB2 := Lib.hid (hop0 HB.out hb2); clear hb2)
    exact ⟨rfl, rfl, HB2.out⟩
end
end Go.Proofs.YtclcabdekeegdaaGreat

/- Layer 13, walked: Kind. -/
namespace Go.Proofs.YtclcabdekeegdaaGreat
open Go.ChangeShapes Go.WideShapes Go.ChangeAt Go.RowKit Go.Great
set_option linter.unusedVariables false
set_option linter.unusedSimpArgs false
theorem scA_one (cA : Option Addr) (cl cc : Nat) (rA : Option Addr) (rl rc : Nat) : (scA cA cl cc rA rl rc).size = 86 := by
  unfold scA
  rw [List.size_toArray, List.length_append, rulesL_len]
  rfl
theorem check_form {e : X} (h : checkX e = 0) : formX e = true := by
  unfold checkX at h
  split at h
  · cases h
  · split at h
    · cases h
    · rename_i hf; simpa using hf
theorem scope_laid (cs : List C) (row : List V) (cA : Option Addr) (cc : Nat) (rA : Option Addr) (rc : Nat) (B : Nat) (w : World) (hc : Row2 w B cA cs) (hr : Row3 w B rA row) (hB : B ≤ w.heap.size) (hcl : cs.length ≤ maxLen) (hrl : row.length ≤ maxLen) :
    Sc cs row cA cc rA rc B w.heap.size ((w.alloc (.cells (scA cA cs.length cc rA row.length rc) 72)).alloc (.cells #[.pointer (some ⟨w.heap.size, 0, none⟩)] 70)) ∧
    ((w.alloc (.cells (scA cA cs.length cc rA row.length rc) 72)).alloc (.cells #[.pointer (some ⟨w.heap.size, 0, none⟩)] 70)).cell? ⟨w.heap.size + 1, 0, none⟩ = some (.pointer (some ⟨w.heap.size, 0, none⟩)) ∧
    Below w.heap.size w ((w.alloc (.cells (scA cA cs.length cc rA row.length rc) 72)).alloc (.cells #[.pointer (some ⟨w.heap.size, 0, none⟩)] 70)) := by
  have hb := two_boxes w (.cells (scA cA cs.length cc rA row.length rc) 72) (.cells #[.pointer (some ⟨w.heap.size, 0, none⟩)] 70)
  refine ⟨⟨?_, hc.below (hb.mono hB), hr.below (hb.mono hB), Nat.le_trans hB hb.size, hcl, hrl⟩, ?_, hb⟩
  · exact (Below.heap_alloc _ _ _ (by simp)).trans (World.alloc_heap_new w _)
  · have := World.alloc_heap_new (w.alloc (.cells (scA cA cs.length cc rA row.length rc) 72)) (.cells #[.pointer (some ⟨w.heap.size, 0, none⟩)] 70)
    rw [World.size_alloc] at this
    exact Box1.c0 this
theorem kind_unless (cs : List C) (cA : Option Addr) (cc : Nat) (e : X) (hf : formX e = true) (A : Option Addr) (c : Nat) (pe : Nat) (w : World) (hk : KidsAt w w.heap.size e A c) (hc : Row2 w w.heap.size cA cs) (hcl : cs.length ≤ maxLen) (hq : w.heap[pe]? = some (e.obj A c)) :
    Calls Tryz.prog 39 #[.func (.func 40) #[] #[.pointer (some ⟨w.heap.size + 1, 0, none⟩), .pointer (some ⟨pe, 0, none⟩)]]
      ((w.alloc (.cells (scA cA cs.length cc none 0 0) 72)).alloc (.cells #[.pointer (some ⟨w.heap.size, 0, none⟩)] 70)) fun en w' => en = endI (kindX cs e) ∧ Below w.heap.size w w' := by
  obtain ⟨hs, hp, hb⟩ := scope_laid cs [] cA cc none 0 w.heap.size w hc (fun j h => by simp at h) (Nat.le_refl _) hcl (Nat.zero_le _)
  refine (unlessI_any 40 _ _ (enters_of Tryz.func40 (by kernel_rfl) rfl) (kindX cs e) kindX_zero _ (fun W hW => ?_)).mono fun en w' h => ⟨h.1, hop0 hb h.2⟩
  have hbW := hop0 hb hW
  exact kind1c_any cs [] cA cc none 0 w.heap.size w.heap.size e hf (w.heap.size + 1) pe A c W (hs.below hW) (KidsAt.more hbW.size (hk.below hbW)) (later_cell hW hp) ((hbW.block _ (Array.getElem?_eq_some_iff.1 hq).1).trans hq)
set_option maxHeartbeats 8000000 in
set_option maxRecDepth 100000 in
theorem kind_pub (e : X) (hwe : e.wf) (cs : List C) (hwc : ∀ c ∈ cs, c.wf) (A : Option Addr) (c : Nat) (cA : Option Addr) (cc : Nat) (w : World) (hcl : cs.length ≤ maxLen) (hcc : cs.length ≤ cc) (hcm : cc ≤ maxLen) (hk : KidsAt w w.heap.size e A c) (hc : Row2 w w.heap.size cA cs) :
    Calls Tryz.prog 16 #[e.val A c, .slice cA cs.length cc] w fun en w' => en = endI (kindE e cs) ∧ Below w.heap.size w w' := by
  obtain ⟨W1, hW1⟩ : ∃ W1, w.alloc (e.obj A c) = W1 := ⟨_, rfl⟩
  have hb1 : Below w.heap.size w W1 := by rw [← hW1]; exact (Below.refl _ _).alloc (Nat.le_refl _) _
  have hq1 : W1.heap[w.heap.size]? = some (e.obj A c) := by rw [← hW1]; exact World.alloc_heap_new w _
  have HCK := Lib.hid (check_cols cs hwc cs.length cc cA W1 rfl hcl hcc hcm ((hc.below hb1).more hb1.size))
  have HQ := Lib.hid (fun (W : World) (hb : Below W1.heap.size W1 W) => show W.heap[w.heap.size]? = some (e.obj A c) from (hb.block _ (Array.getElem?_eq_some_iff.1 hq1).1).trans hq1)
  have HB1 := Lib.hid hb1
  have HX := Lib.hid (fun (W : World) (hb : Below w.heap.size w W) => check_any_x e hwe A c W (KidsAt.more hb.size (hk.below hb)))
  have HK := Lib.hid hk
  have HCC := Lib.hid hc
  have HCL := Lib.hid hcl
  obtain ⟨E, hE⟩ : ∃ E, endI (kindE e cs) = E := ⟨_, rfl⟩
  rw [hE]
  have HE := Lib.hid hE
  have hsz : W1.heap.size = w.heap.size + 1 := by rw [← hW1]; simp
  clear hk hc hcl hcc hcm hq1 hb1 hE
  unfold X.obj at hW1
  unfold X.val at HX ⊢
  by_cases hr : rightB cs = true
  · rw [if_pos hr] at HCK
    obtain ⟨x, hx⟩ : ∃ x, checkX e = x := ⟨_, rfl⟩
    rw [hx] at HX
    by_cases h0 : x = 0
    · have HF := Lib.hid (check_form (hx.trans h0))
      subst h0
      have HE2 := Lib.hid (show E = endI (kindX cs e) by rw [← HE.out]; unfold kindE; rw [if_neg (by simp [hr]), if_neg (by simp [hx])])
      have HU := Lib.hid (fun (w4 : World) (hb : Below w.heap.size w w4) (hq : w4.heap[w.heap.size]? = some (e.obj A c)) => kind_unless cs cA cc e HF.out A c w.heap.size w4 (KidsAt.more hb.size (HK.out.below hb)) ((HCC.out.below hb).more hb.size) HCL.out hq)
      unfold endI at HU HE2
      clear hx hr
      go_enter Tryz.func16, Tryz.ntmps16
      go_wp2_with (first
        | (go_at_call 38; refine HCK.out.mono ?_; rintro en w2 ⟨rfl, hb2⟩; obtain ⟨p0, p1, p2, p3, p4, p5⟩ := obj_cells (HQ.out _ hb2); have HB2 := Lib.hid (hop0 HB1.out hb2); have HQ2 := Lib.hid (HQ.out _ hb2); clear hb2)
        | (go_at_call 12; refine (HX.out _ HB2.out).mono ?_; rintro en w3 ⟨rfl, hb3⟩; have HQ3 := Lib.hid ((hb3.block _ (Array.getElem?_eq_some_iff.1 HQ2.out).1).trans HQ2.out); have HB3 := Lib.hid (hop0 HB2.out hb3); clear hb3)
        | (go_at_call 33; refine (rules_any _).mono ?_; rintro en w4 ⟨rfl, hb4⟩; have HQ4 := Lib.hid ((hb4.block _ (Array.getElem?_eq_some_iff.1 HQ3.out).1).trans HQ3.out); have HB4 := Lib.hid (hop0 HB3.out hb4); clear hb4)
        | (have TK := HQ4; go_at_call 39; refine (HU.out w4 HB4.out HQ4.out).mono ?_; rintro en w5 ⟨rfl, hb5⟩; have HB5 := Lib.hid (hop0 HB4.out hb5); clear hb5)
        | (refine wpList_build_lit (by rfl) 72 _ (by rfl) (scA cA cs.length cc none 0 0) (by kernel_rfl) ?_)
        | (refine wpList_boxTo (by rfl) 72 _ (by rfl) _ rfl w4.heap.size rfl (scA cA cs.length cc none 0 0) (by rfl) ?_))
      refine bodyPost_ret (by simp [results, Tryz.results16, go_sem]) rfl ⟨HE2.out.symm, HB5.out⟩
    · have HX2 := Lib.hid (show E = .returned (.tuple #[.int .i64 0, .int .i64 x]) by rw [← HE.out]; unfold kindE; rw [if_neg (by simp [hr]), if_pos (by rw [hx]; exact h0), hx]; rfl)
      have q0 : (x != 0) = true := by simpa using h0
      clear hx hr h0
      go_enter Tryz.func16, Tryz.ntmps16
      go_wp2_with (first
        | (go_at_call 38; refine HCK.out.mono ?_; rintro en w2 ⟨rfl, hb2⟩; obtain ⟨p0, p1, p2, p3, p4, p5⟩ := obj_cells (HQ.out _ hb2); have HB2 := Lib.hid (hop0 HB1.out hb2); have HQ2 := Lib.hid (HQ.out _ hb2); clear hb2)
        | (go_at_call 12; refine (HX.out _ HB2.out).mono ?_; rintro en w3 ⟨rfl, hb3⟩; have HB3 := Lib.hid (hop0 HB2.out hb3); clear hb3))
      refine bodyPost_ret (by simp [results, Tryz.results16, go_sem]) rfl ⟨HX2.out.symm, HB3.out⟩
  · rw [if_neg hr] at HCK
    have HX2 := Lib.hid (show E = .returned (.tuple #[.int .i64 0, .int .i64 120]) by rw [← HE.out]; unfold kindE; rw [if_pos (by simpa using hr)]; rfl)
    clear hr
    go_enter Tryz.func16, Tryz.ntmps16
    go_wp2_with (go_at_call 38; refine HCK.out.mono ?_; rintro en w2 ⟨rfl, hb2⟩; have HB2 := Lib.hid (hop0 HB1.out hb2); clear hb2)
    refine bodyPost_ret (by simp [results, Tryz.results16, go_sem]) rfl ⟨HX2.out.symm, HB2.out⟩
end Go.Proofs.YtclcabdekeegdaaGreat

/- Layer 13, walked: Worth. -/
namespace Go.Proofs.YtclcabdekeegdaaGreat
open Go.ChangeShapes Go.WideShapes Go.ChangeAt Go.RowKit Go.Great
set_option linter.unusedVariables false
set_option linter.unusedSimpArgs false
theorem good_nul {k : Int} {r : V × Int} (h : GoodW k r) (he : r.2 ≠ 0) : r.1 = nulV := by
  rcases h with ⟨h1, _⟩ | ⟨_, h2⟩
  · exact absurd h1 he
  · exact h2
theorem worth_unless (cs : List C) (row : List V) (cA : Option Addr) (cc : Nat) (rA : Option Addr) (rc : Nat) (hfit : fitsR cs row = true) (hrw : ∀ v ∈ row, v.wf) (e : X) (hf : formX e = true) (hkd : (kindX cs e).2 = 0) (hwe : e.wf) (A : Option Addr) (c : Nat) (pe : Nat) (w : World) (hk : KidsAt w w.heap.size e A c) (hc : Row2 w w.heap.size cA cs) (hr : Row3 w w.heap.size rA row) (hcl : cs.length ≤ maxLen) (hrl : row.length ≤ maxLen) (hq : w.heap[pe]? = some (e.obj A c)) :
    Calls Tryz.prog 44 #[.func (.func 45) #[] #[.pointer (some ⟨w.heap.size + 1, 0, none⟩), .pointer (some ⟨pe, 0, none⟩)]]
      ((w.alloc (.cells (scA cA cs.length cc rA row.length rc) 72)).alloc (.cells #[.pointer (some ⟨w.heap.size, 0, none⟩)] 70)) fun en w' => en = endV (evalX cs row e) ∧ Below w.heap.size w w' := by
  obtain ⟨hs, hp, hb⟩ := scope_laid cs row cA cc rA rc w.heap.size w hc hr (Nat.le_refl _) hcl hrl
  refine (unlessV_any 45 _ _ (enters_of Tryz.func45 (by kernel_rfl) rfl) (evalX cs row e) (good_nul (evalX_good hfit e hf hkd)) _ (fun W hW => ?_)).mono fun en w' h => ⟨h.1, hop0 hb h.2⟩
  have hbW := hop0 hb hW
  exact worth1c_any cs row cA cc rA rc w.heap.size w.heap.size hfit hrw e hf hkd hwe (w.heap.size + 1) pe A c W (hs.below hW) (KidsAt.more hbW.size (hk.below hbW)) (later_cell hW hp) ((hbW.block _ (Array.getElem?_eq_some_iff.1 hq).1).trans hq)
theorem ret_two {f : Func} {p q : Nat} (hres : f.results = #[.cell p 23, .tmp q]) {tmps : Array Value} {W : World} {g : Nat} {u : V} {er : Int} (hp : tmps.getD p undef = .pointer (some ⟨g, 0, none⟩)) (hq : tmps.getD q undef = .int .i64 er) (hb : Box3 W g u) : (results f tmps).run Tryz.prog W = .ok (.tuple #[u.val, .int .i64 er]) W := by
  have c0 := hb.c0
  have c1 := hb.c1
  have c2 := hb.c2
  rw [Array.getD_eq_getD_getElem?] at hp hq
  simp [results, hres, hp, hq, go_sem, c0, c1, c2, V.val]
set_option maxHeartbeats 8000000 in
set_option maxRecDepth 100000 in
theorem worth_pub (e : X) (hwe : e.wf) (cs : List C) (hwc : ∀ c ∈ cs, c.wf) (row : List V) (hwr : ∀ v ∈ row, v.wf) (A : Option Addr) (c : Nat) (cA : Option Addr) (cc : Nat) (rA : Option Addr) (rc : Nat) (w : World) (hcl : cs.length ≤ maxLen) (hcc : cs.length ≤ cc) (hcm : cc ≤ maxLen) (hrl : row.length ≤ maxLen)
    (hk : KidsAt w w.heap.size e A c) (hc : Row2 w w.heap.size cA cs) (hr : Row3 w w.heap.size rA row) :
    Calls Tryz.prog 18 #[e.val A c, .slice cA cs.length cc, .slice rA row.length rc] w fun en w' => en = endV (worthX e cs row) ∧ Below w.heap.size w w' := by
  obtain ⟨W1, hW1⟩ : ∃ W1, (w.alloc (e.obj A c)).alloc (.cells #[.int .i64 0, .int .i64 0, .string ⟨#[]⟩] 23) = W1 := ⟨_, rfl⟩
  have hb1 : Below w.heap.size w W1 := by rw [← hW1]; exact two_boxes _ _ _
  have hq1 : W1.heap[w.heap.size]? = some (e.obj A c) := by rw [← hW1]; exact (Below.heap_alloc _ _ _ (by simp)).trans (World.alloc_heap_new w _)
  have hz1 : Box3 W1 (w.heap.size + 1) zV := by
    rw [← hW1]
    have := Box3.new (w.alloc (e.obj A c)) zV
    rwa [World.size_alloc] at this
  have HKD := Lib.hid (kind_pub e hwe cs hwc A c cA cc W1 hcl hcc hcm (KidsAt.more hb1.size (hk.below hb1)) ((hc.below hb1).more hb1.size))
  have HFT := Lib.hid (fun (W : World) (hb : Below w.heap.size w W) => fits_any cs row hwr cA cc rA rc W hcl hrl ((hc.below hb).more hb.size) ((hr.below hb).more hb.size))
  have HQ := Lib.hid hq1
  have HZ := Lib.hid hz1
  have HB1 := Lib.hid hb1
  obtain ⟨p0, p1, p2, p3, p4, p5⟩ := obj_cells hq1
  have hsz : W1.heap.size = w.heap.size + 2 := by rw [← hW1]; simp
  obtain ⟨⟨k, er⟩, hkd⟩ : ∃ z, kindE e cs = z := ⟨_, rfl⟩
  rw [hkd] at HKD
  unfold endI at HKD
  unfold X.val at HKD ⊢
  dsimp only at HKD
  unfold X.obj at hW1
  by_cases he : er = 0
  · subst he
    have hkr : rightB cs = true ∧ checkX e = 0 ∧ kindX cs e = (k, 0) := by
      unfold kindE at hkd
      split at hkd
      · injection hkd with _ h; cases h
      · split at hkd
        · rename_i h; injection hkd with _ h2; exact absurd h2 h
        · rename_i h1 h2; exact ⟨by simpa using h1, by simpa using h2, hkd⟩
    have hfo := check_form hkr.2.1
    by_cases hf : fitsR cs row = true
    · rw [hf] at HFT
      have HX := Lib.hid (show worthX e cs row = evalX cs row e by unfold worthX; rw [hkd, if_neg (by simp), if_neg (by simp [hf])])
      have HU := Lib.hid (fun (w4 : World) (hb : Below w.heap.size w w4) (hq : w4.heap[w.heap.size]? = some (e.obj A c)) => worth_unless cs row cA cc rA rc hf hwr e hfo (by rw [hkr.2.2]) hwe A c w.heap.size w4 (KidsAt.more hb.size (hk.below hb)) ((hc.below hb).more hb.size) ((hr.below hb).more hb.size) hcl hrl hq)
      rw [HX.out]
      obtain ⟨⟨y, er⟩, hy⟩ : ∃ z, evalX cs row e = z := ⟨_, rfl⟩
      rw [hy] at HU ⊢
      unfold endV at HU ⊢
      dsimp only at HU ⊢
      unfold V.val at HU
      clear hk hc hr hcl hcc hcm hrl hq1 hz1 hb1 hkd hkr hfo hf hy
      go_enter Tryz.func18, Tryz.ntmps18
      go_wp2_with (first
        | (go_at_call 16; refine HKD.out.mono ?_; rintro en w2 ⟨rfl, hb2⟩; have HQ2 := Lib.hid ((hb2.block _ (Array.getElem?_eq_some_iff.1 HQ.out).1).trans HQ.out); have HZ2 := Lib.hid (HZ.out.below hb2); have HB2 := Lib.hid (hop0 HB1.out hb2); clear hb2)
        | (go_at_call 43; refine (HFT.out _ HB2.out).mono ?_; rintro en w3 ⟨rfl, hb3⟩; have HQ3 := Lib.hid ((hb3.block _ (Array.getElem?_eq_some_iff.1 HQ2.out).1).trans HQ2.out); have HZ3 := Lib.hid (HZ2.out.below hb3); have HB3 := Lib.hid (hop0 HB2.out hb3); clear hb3)
        | (go_at_call 33; refine (rules_any _).mono ?_; rintro en w4 ⟨rfl, hb4⟩; have HQ4 := Lib.hid ((hb4.block _ (Array.getElem?_eq_some_iff.1 HQ3.out).1).trans HQ3.out); have HZ4 := Lib.hid (HZ3.out.below hb4); have HB4 := Lib.hid (hop0 HB3.out hb4); clear hb4)
        | (have TK := HQ4; go_at_call 44; refine (HU.out w4 HB4.out HQ4.out).mono ?_; rintro en w5 ⟨rfl, hb5⟩; have HZ5 := Lib.hid (show Box3 w5 (w.heap.size + 1) zV from (hb5.block _ HZ4.out.lt).trans HZ4.out); have HB5 := Lib.hid (hop0 HB4.out hb5); have s0 := HZ5.out.c0; have s1 := HZ5.out.c1; have s2 := HZ5.out.c2; have f0 := HZ5.out.free 0; have f1 := HZ5.out.free 1; have f2 := HZ5.out.free 2; clear hb5)
        | (refine wpList_build_lit (by rfl) 72 _ (by rfl) (scA cA cs.length cc rA row.length rc) (by kernel_rfl) ?_)
        | (refine wpList_boxTo (by rfl) 72 _ (by rfl) _ rfl w4.heap.size rfl (scA cA cs.length cc rA row.length rc) (by rfl) ?_))
      exact bodyPost_ret (ret_two rfl (by rfl) (by rfl) (HZ5.out.set y)) rfl ⟨rfl, set3_below HB5.out (Nat.le_succ _) _ _ _⟩
    · have hf : fitsR cs row = false := by simpa using hf
      rw [hf] at HFT
      have HX : worthX e cs row = (nulV, 122) := by unfold worthX; rw [hkd, if_neg (by simp), if_pos hf]
      rw [HX]
      clear hk hc hr hcl hcc hcm hrl hq1 hz1 hb1 hkd hkr hfo hf HX
      go_enter Tryz.func18, Tryz.ntmps18
      go_wp2_with (first
        | (go_at_call 16; refine HKD.out.mono ?_; rintro en w2 ⟨rfl, hb2⟩; have HZ2 := Lib.hid (HZ.out.below hb2); have HB2 := Lib.hid (hop0 HB1.out hb2); clear hb2)
        | (go_at_call 43; refine (HFT.out _ HB2.out).mono ?_; rintro en w3 ⟨rfl, hb3⟩; have HZ3 := Lib.hid (HZ2.out.below hb3); have HB3 := Lib.hid (hop0 HB2.out hb3); have s0 := HZ3.out.c0; have s1 := HZ3.out.c1; have s2 := HZ3.out.c2; have f0 := HZ3.out.free 0; have f1 := HZ3.out.free 1; have f2 := HZ3.out.free 2; clear hb3))
      exact bodyPost_ret (ret_two rfl (by rfl) (by rfl) (HZ3.out.set nulV)) rfl ⟨rfl, set3_below HB3.out (Nat.le_succ _) _ _ _⟩
  · have HX : worthX e cs row = (nulV, er) := by unfold worthX; rw [hkd, if_pos he]
    rw [HX]
    have q0 : (er != 0) = true := by simpa using he
    clear hk hc hr hcl hcc hcm hrl hq1 hz1 hb1 hkd HX
    go_enter Tryz.func18, Tryz.ntmps18
    go_wp2_with (go_at_call 16; refine HKD.out.mono ?_; rintro en w2 ⟨rfl, hb2⟩; have HZ2 := Lib.hid (HZ.out.below hb2); have HB2 := Lib.hid (hop0 HB1.out hb2); have s0 := HZ2.out.c0; have s1 := HZ2.out.c1; have s2 := HZ2.out.c2; have f0 := HZ2.out.free 0; have f1 := HZ2.out.free 1; have f2 := HZ2.out.free 2; clear hb2)
    exact bodyPost_ret (ret_two rfl (by rfl) (by rfl) (HZ2.out.set nulV)) rfl ⟨rfl, set3_below HB2.out (Nat.le_succ _) _ _ _⟩
end Go.Proofs.YtclcabdekeegdaaGreat
