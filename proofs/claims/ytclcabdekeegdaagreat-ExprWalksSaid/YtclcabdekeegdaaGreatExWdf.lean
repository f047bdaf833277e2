/- Several texts in one: ExWd, ExWe, ExWf. -/
import Derived.Test.YtclcabdekeegdaaGreatExWc1
import Derived.Test.YtclcabdekeegdaaGreatExWc2
import Derived.Test.YtclcabdekeegdaaGreatExWc3
import Derived.Test.YtclcabdekeegdaaGreatExWc4
import Derived.Test.YtclcabdekeegdaaGreatExWc5
import Derived.Test.YtclcabdekeegdaaGreatExNumA
/- Layer 13, walked: worths: what two parts come to, a case (wip/gen/XExWb.py). -/
namespace Go.Proofs.YtclcabdekeegdaaGreat
open Go.ChangeShapes Go.WideShapes Go.ChangeAt Go.RowKit
set_option linter.unusedVariables false
set_option linter.unusedSimpArgs false
section
variable (cs : List C) (row : List V) (cA : Option Addr) (cc : Nat) (rA : Option Addr) (rc : Nat) (B b : Nat)
theorem two_any (o : Int) (n : ByteArray) (v : V) (ks : List X) (h1 : 1 < ks.length) (A : Option Addr) (c : Nat) (w : World) (hs : Sc cs row cA cc rA rc B b w) (hk : KidsAt w w.heap.size (.mk o n v ks) A c) (r0 r1 : V × Int)
    (hx : WK cs row cA cc rA rc B b ks[0] r0) (hy : WK cs row cA cc rA rc B b ks[1] r1)
    (g : Nat) (p : Value) (eg : ∀ args W, (callFunc g args).run Tryz.prog W = .ok (.enter g args) W) (F : V → V → V × Int) (hF : r0.2 = 0 → r1.2 = 0 → r0.1.k ≠ 0 → r1.1.k ≠ 0 → ∀ W, Below w.heap.size w W → Calls Tryz.prog g #[r0.1.val, r1.1.val, p] W fun en w' => en = endW (F r0.1 r1.1) ∧ Below W.heap.size W w') :
    Calls Tryz.prog 106 #[.pointer (some ⟨b, 0, none⟩), eV o n v ks.length A c, .func (.func g) #[] #[p]] w fun en w' => en = endW (twoR r0 r1 F) ∧ Below w.heap.size w w' := by
  by_cases he : r0.2 = 0
  · by_cases he1 : r1.2 = 0
    · by_cases hza : r0.1.k = 0
      · exact two_nul cs row cA cc rA rc B b o n v ks h1 A c w hs hk r0 r1 hx hy g p eg F hF he he1 hza
      · by_cases hzz : r1.1.k = 0
        · exact two_nul2 cs row cA cc rA rc B b o n v ks h1 A c w hs hk r0 r1 hx hy g p eg F hF he he1 hza hzz
        · by_cases heq : (F r0.1 r1.1).2 = 0
          · exact two_ok cs row cA cc rA rc B b o n v ks h1 A c w hs hk r0 r1 hx hy g p eg F hF he he1 hza hzz heq
          · exact two_no cs row cA cc rA rc B b o n v ks h1 A c w hs hk r0 r1 hx hy g p eg F hF he he1 hza hzz heq
    · exact two_e1 cs row cA cc rA rc B b o n v ks h1 A c w hs hk r0 r1 hx hy g p eg F hF he he1
  · exact two_e0 cs row cA cc rA rc B b o n v ks h1 A c w hs hk r0 r1 hx hy g p eg F hF he
end
end Go.Proofs.YtclcabdekeegdaaGreat

/- Layer 13, walked: worths: what is made of parts (wip/gen/XExWe.py). -/
namespace Go.Proofs.YtclcabdekeegdaaGreat
open Go.ChangeShapes Go.WideShapes Go.ChangeAt Go.RowKit
set_option linter.unusedVariables false
set_option linter.unusedSimpArgs false

theorem intw_any (n : Int) (w : World) : Calls Tryz.prog 120 #[.int .i64 n] w fun e w' => e = .returned (.agg #[.int .i64 1, .int .i64 n, .string ⟨#[]⟩]) ∧ Below w.heap.size w w' := int_any n w
theorem boolw_any (b : Bool) (w : World) : Calls Tryz.prog 117 #[.bool b] w fun e w' => e = .returned (.agg #[.int .i64 2, .int .i64 (if b then 1 else 0), .string ⟨#[]⟩]) ∧ Below w.heap.size w w' := bool_any b w
theorem boolN (t : Bool) : ∃ N : Int, (if t then (1 : Int) else 0) = N ∧ Hid (∀ w, Calls Tryz.prog 117 #[.bool t] w fun e w' => e = .returned (.agg #[.int .i64 2, .int .i64 N, .string ⟨#[]⟩]) ∧ Below w.heap.size w w') ∧ boolW t = ⟨2, N, ⟨#[]⟩⟩ :=
  ⟨_, rfl, Lib.hid (boolw_any t), rfl⟩
def reck (op a b : Int) : V × Int := if doE op a b ≠ 0 then (nulV, doE op a b) else (intW (doN op a b), 0)
theorem zero_box (w : World) : Box3 (w.alloc (.cells #[.int .i64 0, .int .i64 0, .string ⟨#[]⟩] 23)) w.heap.size zV := World.alloc_heap_new _ _
set_option maxHeartbeats 2000000 in
set_option maxRecDepth 20000 in
theorem do_x (op a b : Int) (ha : In64 a) (hb : In64 b) (w : World) :
    Calls Tryz.prog 108 #[.int .i64 op, .int .i64 a, .int .i64 b] w fun en w' => en = endW (reck op a b) ∧ Below w.heap.size w w' := by
  have HD := Lib.hid (do_any op a b ha hb)
  obtain ⟨E, hE⟩ : ∃ E, endW (reck op a b) = E := ⟨_, rfl⟩
  rw [hE]
  have HE := Lib.hid hE
  obtain ⟨x, hx⟩ : ∃ x, doN op a b = x := ⟨_, rfl⟩
  obtain ⟨er, her⟩ : ∃ er, doE op a b = er := ⟨_, rfl⟩
  unfold reck at HE
  rw [hx, her] at HE
  rw [hx, her] at HD
  clear hE hx her
  have HZ := Lib.hid (zero_box w)
  by_cases h : er = 0
  · have HX := Lib.hid (show E = .returned (intW x).val by rw [← HE.out, if_neg (by simpa using h)]; exact endW_ok rfl)
    subst h
    go_enter Tryz.func108, Tryz.ntmps108
    go_wp2_with (first
      | (go_at_call 134; refine (HD.out _).mono ?_; rintro e w2 ⟨rfl, hb2⟩; have HB2 := Lib.hid (HZ.out.below hb2); have HL2 := Lib.hid (hop0 ((Below.refl _ w).alloc (Nat.le_refl _) _) hb2); clear hb2)
      | (go_at_call 104; refine (must_ok _ _).mono ?_; rintro e w3 ⟨rfl, rfl⟩)
      | (go_at_call 120; refine (intw_any _ _).mono ?_; rintro e w4 ⟨rfl, hb4⟩; have HB4 := Lib.hid (HB2.out.below hb4); have HL4 := Lib.hid (hop0 HL2.out hb4); have s0 := HB4.out.c0; have s1 := HB4.out.c1; have s2 := HB4.out.c2; have f0 := HB4.out.free 0; have f1 := HB4.out.free 1; have f2 := HB4.out.free 2; clear hb4))
    exact bodyPost_ret (ret_row rfl (by rfl) (HB4.out.set (intW x))) rfl ⟨HX.out.symm, set3_below HL4.out (Nat.le_refl _) _ _ _⟩
  · have HX := Lib.hid (show E = .panicked [gaveUp er] by rw [← HE.out, if_pos (by simpa using h)]; exact endW_no h)
    have q0 : (er == 0) = false := by simpa using h
    clear h
    go_enter Tryz.func108, Tryz.ntmps108
    go_wp2_with (first
      | (go_at_call 134; refine (HD.out _).mono ?_; rintro e w2 ⟨rfl, hb2⟩; have HL2 := Lib.hid (hop0 ((Below.refl _ w).alloc (Nat.le_refl _) _) hb2); clear hb2)
      | (go_at_call 104; refine (must_no _ _).mono ?_; rintro e w3 ⟨rfl, rfl⟩))
    exact ⟨rfl, HX.out.symm, HL2.out⟩
/-- Two handed-in values, each in a block of its own, and an answer's. -/
theorem two_vals (w : World) (x y : Obj) : Below w.heap.size w (((w.alloc x).alloc y).alloc (.cells #[.int .i64 0, .int .i64 0, .string ⟨#[]⟩] 23)) ∧ Box3 (((w.alloc x).alloc y).alloc (.cells #[.int .i64 0, .int .i64 0, .string ⟨#[]⟩] 23)) (w.heap.size + 2) zV := by
  refine ⟨(two_boxes w x y).alloc (by simp; omega) _, ?_⟩
  have := zero_box ((w.alloc x).alloc y)
  rwa [World.size_alloc, World.size_alloc] at this
theorem one_val (w : World) (x : Obj) : Below w.heap.size w ((w.alloc x).alloc (.cells #[.int .i64 0, .int .i64 0, .string ⟨#[]⟩] 23)) ∧ Box3 ((w.alloc x).alloc (.cells #[.int .i64 0, .int .i64 0, .string ⟨#[]⟩] 23)) (w.heap.size + 1) zV := by
  refine ⟨two_boxes w x _, ?_⟩
  have := zero_box (w.alloc x)
  rwa [World.size_alloc] at this
set_option maxHeartbeats 2000000 in
set_option maxRecDepth 20000 in
theorem reckoned1_any (o : Int) (a z : V) (ha : In64 a.n) (hz : In64 z.n) (pe : Nat) (w : World) (hc : w.cell? ⟨pe, 0, none⟩ = some (.int .i64 o)) :
    Calls Tryz.prog 107 #[a.val, z.val, .pointer (some ⟨pe, 0, none⟩)] w fun en w' => en = endW (reck o a.n z.n) ∧ Below w.heap.size w w' := by
  have HD := Lib.hid (do_x o a.n z.n ha hz)
  obtain ⟨⟨y, er⟩, hy⟩ : ∃ y, reck o a.n z.n = y := ⟨_, rfl⟩
  rw [hy] at HD ⊢
  obtain ⟨hb1, hz1⟩ := two_vals w (.cells #[.int .i64 a.k, .int .i64 a.n, .string a.s] 23) (.cells #[.int .i64 z.k, .int .i64 z.n, .string z.s] 23)
  have HB1 := Lib.hid hb1
  have HZ1 := Lib.hid hz1
  have hlt : pe < w.heap.size := World.block_lt_of_cell? w _ hc
  have hc3 := later_cell hb1 hc
  clear hy hb1 hz1
  unfold V.val
  by_cases h : er = 0
  · subst h
    rw [endW_ok rfl] at HD ⊢
    dsimp only at HD ⊢
    unfold V.val at HD
    go_enter Tryz.func107, Tryz.ntmps107
    go_wp2_with (go_at_call 108; refine (HD.out _).mono ?_; rintro e w2 ⟨rfl, hb2⟩; have HB2 := Lib.hid (HZ1.out.below hb2); have HL2 := Lib.hid (hop0 HB1.out hb2); have s0 := HB2.out.c0; have s1 := HB2.out.c1; have s2 := HB2.out.c2; have f0 := HB2.out.free 0; have f1 := HB2.out.free 1; have f2 := HB2.out.free 2; clear hb2)
    exact bodyPost_ret (ret_row rfl (by rfl) (HB2.out.set y)) rfl ⟨rfl, set3_below HL2.out (by omega) _ _ _⟩
  · rw [endW_no h] at HD ⊢
    go_enter Tryz.func107, Tryz.ntmps107
    go_wp2_with (go_at_call 108; refine (HD.out _).mono ?_; rintro e w2 ⟨rfl, hb2⟩; have HL2 := Lib.hid (hop0 HB1.out hb2); clear hb2)
    exact ⟨rfl, rfl, HL2.out⟩
set_option maxHeartbeats 2000000 in
set_option maxRecDepth 20000 in
theorem negated1_any (a : V) (ha : In64 a.n) (w : World) :
    Calls Tryz.prog 110 #[a.val] w fun en w' => en = endW (reck 5 0 a.n) ∧ Below w.heap.size w w' := by
  have HD := Lib.hid (do_x 5 0 a.n (by unfold In64; omega) ha)
  obtain ⟨⟨y, er⟩, hy⟩ : ∃ y, reck 5 0 a.n = y := ⟨_, rfl⟩
  rw [hy] at HD ⊢
  obtain ⟨hb1, hz1⟩ := one_val w (.cells #[.int .i64 a.k, .int .i64 a.n, .string a.s] 23)
  have HB1 := Lib.hid hb1
  have HZ1 := Lib.hid hz1
  clear hy hb1 hz1
  unfold V.val
  by_cases h : er = 0
  · subst h
    rw [endW_ok rfl] at HD ⊢
    dsimp only at HD ⊢
    unfold V.val at HD
    go_enter Tryz.func110, Tryz.ntmps110
    go_wp2_with (go_at_call 108; refine (HD.out _).mono ?_; rintro e w2 ⟨rfl, hb2⟩; have HB2 := Lib.hid (HZ1.out.below hb2); have HL2 := Lib.hid (hop0 HB1.out hb2); have s0 := HB2.out.c0; have s1 := HB2.out.c1; have s2 := HB2.out.c2; have f0 := HB2.out.free 0; have f1 := HB2.out.free 1; have f2 := HB2.out.free 2; clear hb2)
    exact bodyPost_ret (ret_row rfl (by rfl) (HB2.out.set y)) rfl ⟨rfl, set3_below HL2.out (by omega) _ _ _⟩
  · rw [endW_no h] at HD ⊢
    go_enter Tryz.func110, Tryz.ntmps110
    go_wp2_with (go_at_call 108; refine (HD.out _).mono ?_; rintro e w2 ⟨rfl, hb2⟩; have HL2 := Lib.hid (hop0 HB1.out hb2); clear hb2)
    exact ⟨rfl, rfl, HL2.out⟩
set_option maxHeartbeats 2000000 in
set_option maxRecDepth 20000 in
theorem turned1_any (a : V) (w : World) :
    Calls Tryz.prog 118 #[a.val] w fun en w' => en = endW (boolW (decide (a.n = 0)), 0) ∧ Below w.heap.size w w' := by
  obtain ⟨hb1, hz1⟩ := one_val w (.cells #[.int .i64 a.k, .int .i64 a.n, .string a.s] 23)
  have HB1 := Lib.hid hb1
  have HZ1 := Lib.hid hz1
  clear hb1 hz1
  rw [endW_ok rfl]
  obtain ⟨t, ht⟩ : ∃ t, decide (a.n = 0) = t := ⟨_, rfl⟩
  have q0 : (a.n == 0) = t := by rw [← ht]; rfl
  rw [ht]
  obtain ⟨N, hN, HBW, hBt⟩ := boolN t
  rw [hBt]
  clear ht hBt hN
  unfold V.val
  go_enter Tryz.func118, Tryz.ntmps118
  go_wp2_with (go_at_call 117; refine (HBW.out _).mono ?_; rintro e w2 ⟨rfl, hb2⟩; have HB2 := Lib.hid (HZ1.out.below hb2); have HL2 := Lib.hid (hop0 HB1.out hb2); have s0 := HB2.out.c0; have s1 := HB2.out.c1; have s2 := HB2.out.c2; have f0 := HB2.out.free 0; have f1 := HB2.out.free 1; have f2 := HB2.out.free 2; clear hb2)
  exact bodyPost_ret (ret_row rfl (by rfl) (HB2.out.set ⟨2, N, ⟨#[]⟩⟩)) rfl ⟨rfl, set3_below HL2.out (by omega) _ _ _⟩
set_option maxHeartbeats 2000000 in
set_option maxRecDepth 20000 in
theorem measured1_any (a : V) (w : World) :
    Calls Tryz.prog 119 #[a.val] w fun en w' => en = endW (intW a.s.size, 0) ∧ Below w.heap.size w w' := by
  obtain ⟨hb1, hz1⟩ := one_val w (.cells #[.int .i64 a.k, .int .i64 a.n, .string a.s] 23)
  have HB1 := Lib.hid hb1
  have HZ1 := Lib.hid hz1
  clear hb1 hz1
  rw [endW_ok rfl]
  unfold V.val
  go_enter Tryz.func119, Tryz.ntmps119
  go_wp2_with (go_at_call 120; refine (intw_any _ _).mono ?_; rintro e w2 ⟨rfl, hb2⟩; have HB2 := Lib.hid (HZ1.out.below hb2); have HL2 := Lib.hid (hop0 HB1.out hb2); have s0 := HB2.out.c0; have s1 := HB2.out.c1; have s2 := HB2.out.c2; have f0 := HB2.out.free 0; have f1 := HB2.out.free 1; have f2 := HB2.out.free 2; clear hb2)
  exact bodyPost_ret (ret_row rfl (by rfl) (HB2.out.set (intW a.s.size))) rfl ⟨rfl, set3_below HL2.out (by omega) _ _ _⟩
theorem equal1_any (x : Int) (w : World) : Calls Tryz.prog 112 #[.int .i64 x] w fun en w' => en = .returned (.bool (decide (x = 0))) ∧ w = w' := by
  by_cases h : x = 0
  · rw [decide_eq_true h]
    have q : (x == 0) = true := by simpa using h
    go_enter Tryz.func112, Tryz.ntmps112
    go_wp2
    go_ret
    exact ⟨rfl, rfl⟩
  · rw [decide_eq_false h]
    have q : (x == 0) = false := by simpa using h
    go_enter Tryz.func112, Tryz.ntmps112
    go_wp2
    go_ret
    exact ⟨rfl, rfl⟩
theorem unlike1_any (x : Int) (w : World) : Calls Tryz.prog 113 #[.int .i64 x] w fun en w' => en = .returned (.bool (decide (x ≠ 0))) ∧ w = w' := by
  by_cases h : x ≠ 0
  · rw [decide_eq_true h]
    have q : (x != 0) = true := by simpa using h
    go_enter Tryz.func113, Tryz.ntmps113
    go_wp2
    go_ret
    exact ⟨rfl, rfl⟩
  · rw [decide_eq_false h]
    have q : (x != 0) = false := by simpa using h
    go_enter Tryz.func113, Tryz.ntmps113
    go_wp2
    go_ret
    exact ⟨rfl, rfl⟩
theorem ahead1_any (x : Int) (w : World) : Calls Tryz.prog 114 #[.int .i64 x] w fun en w' => en = .returned (.bool (decide (x < 0))) ∧ w = w' := by
  by_cases h : x < 0
  · rw [decide_eq_true h]
    have q : decide (x < 0) = true := decide_eq_true h
    go_enter Tryz.func114, Tryz.ntmps114
    go_wp2
    go_ret
    exact ⟨rfl, rfl⟩
  · rw [decide_eq_false h]
    have q : decide (x < 0) = false := decide_eq_false h
    go_enter Tryz.func114, Tryz.ntmps114
    go_wp2
    go_ret
    exact ⟨rfl, rfl⟩
theorem notBehind1_any (x : Int) (w : World) : Calls Tryz.prog 115 #[.int .i64 x] w fun en w' => en = .returned (.bool (decide (x ≤ 0))) ∧ w = w' := by
  by_cases h : x ≤ 0
  · rw [decide_eq_true h]
    have q : decide (x ≤ 0) = true := decide_eq_true h
    go_enter Tryz.func115, Tryz.ntmps115
    go_wp2
    go_ret
    exact ⟨rfl, rfl⟩
  · rw [decide_eq_false h]
    have q : decide (x ≤ 0) = false := decide_eq_false h
    go_enter Tryz.func115, Tryz.ntmps115
    go_wp2
    go_ret
    exact ⟨rfl, rfl⟩
set_option maxHeartbeats 2000000 in
set_option maxRecDepth 20000 in
theorem ordered1_any (a z : V) (ha : a.wf) (hz : z.wf) (g pf : Nat) (eg : ∀ args W, (callFunc g args).run Tryz.prog W = .ok (.enter g args) W) (G : Int → Bool) (hg : ∀ x W, Calls Tryz.prog g #[.int .i64 x] W fun en w' => en = .returned (.bool (G x)) ∧ W = w') (w : World) (hc : w.cell? ⟨pf, 0, none⟩ = some (.func (.func g) #[] #[])) :
    Calls Tryz.prog 135 #[a.val, z.val, .pointer (some ⟨pf, 0, none⟩)] w fun en w' => en = endW (boolW (G (cmpV a z)), 0) ∧ Below w.heap.size w w' := by
  have HC := Lib.hid (cmp_any a z ha hz)
  have HG := Lib.hid (hg (cmpV a z))
  obtain ⟨x, hx⟩ : ∃ x, cmpV a z = x := ⟨_, rfl⟩
  rw [hx] at HC HG ⊢
  obtain ⟨t, ht⟩ : ∃ t, G x = t := ⟨_, rfl⟩
  rw [ht] at HG ⊢
  obtain ⟨hb1, hz1⟩ := two_vals w (.cells #[.int .i64 a.k, .int .i64 a.n, .string a.s] 23) (.cells #[.int .i64 z.k, .int .i64 z.n, .string z.s] 23)
  obtain ⟨W1, hW1⟩ : ∃ q, ((w.alloc (.cells #[.int .i64 a.k, .int .i64 a.n, .string a.s] 23)).alloc (.cells #[.int .i64 z.k, .int .i64 z.n, .string z.s] 23)).alloc (.cells #[.int .i64 0, .int .i64 0, .string ⟨#[]⟩] 23) = q := ⟨_, rfl⟩
  have ha1 : Box3 W1 w.heap.size a := by
    rw [← hW1]
    exact (Box3.alloc (Box3.alloc (Box3.new w a) (.cells #[.int .i64 z.k, .int .i64 z.n, .string z.s] 23)) _)
  have ha2 : Box3 W1 (w.heap.size + 1) z := by
    rw [← hW1]
    have := Box3.alloc (Box3.new (w.alloc (.cells #[.int .i64 a.k, .int .i64 a.n, .string a.s] 23)) z) (.cells #[.int .i64 0, .int .i64 0, .string ⟨#[]⟩] 23)
    rwa [World.size_alloc] at this
  rw [hW1] at hb1 hz1
  have hlt : pf < w.heap.size := World.block_lt_of_cell? w _ hc
  have HCF := Lib.hid hc
  have HS0 := Lib.hid (And.intro (And.intro (And.intro ha1 ha2) (And.intro hz1 (later_cell hb1 hc))) hb1)
  have hen := eg
  rw [endW_ok rfl]
  obtain ⟨N, hN, HBW, hBt⟩ := boolN t
  rw [hBt]
  clear hBt hN
  clear hx ht hb1 hz1 ha1 ha2 ha hz hg eg hc
  unfold V.val at HC ⊢
  go_enter Tryz.func135, Tryz.ntmps135
  go_wp2_with fail
  try rw [hW1]
  have hS : ((Box3 W1.drew w.heap.size a ∧ Box3 W1.drew (w.heap.size + 1) z) ∧ (∃ u, Box3 W1.drew (w.heap.size + 2) u) ∧ W1.drew.cell? ⟨pf, 0, none⟩ = some (.func (.func g) #[] #[])) ∧ Below w.heap.size w W1.drew := ⟨⟨HS0.out.1.1, ⟨zV, HS0.out.1.2.1⟩, HS0.out.1.2.2⟩, HS0.out.2.drew⟩
  clear hW1
  refine held_begin 7 (fun W => ((Box3 W w.heap.size a ∧ Box3 W (w.heap.size + 1) z) ∧ (∃ u, Box3 W (w.heap.size + 2) u) ∧ W.cell? ⟨pf, 0, none⟩ = some (.func (.func g) #[] #[])) ∧ Below w.heap.size w W) rfl (by kernel_rfl) ?_
  refine held_take (i := 0) (t := 6) (v := (.func (.func g) #[] #[])) (fuel := 6) rfl rfl (by kernel_rfl) (by kernel_rfl) (by kernel_rfl) (fun _ _ _ h => h) (.inl ⟨rfl, fun W hW => by simp [execOp, Act.eval, go_sem, hW.1.2.2]⟩) hS ?_
  simp only [List.setIfInBounds_toArray, List.set_cons_succ, List.set_cons_zero]
  refine held_take (i := 1) (t := 7) (v := (.agg #[.int .i64 a.k, .int .i64 a.n, .string a.s])) (fuel := 5) rfl rfl (by kernel_rfl) (by kernel_rfl) (by kernel_rfl) (fun _ _ _ h => h) (.inl ⟨rfl, fun W hW => by simp [execOp, Act.eval, go_sem, hW.1.1.1.c0, hW.1.1.1.c1, hW.1.1.1.c2]⟩) hS ?_
  simp only [List.setIfInBounds_toArray, List.set_cons_succ, List.set_cons_zero]
  refine held_take (i := 2) (t := 8) (v := (.agg #[.int .i64 z.k, .int .i64 z.n, .string z.s])) (fuel := 4) rfl rfl (by kernel_rfl) (by kernel_rfl) (by kernel_rfl) (fun _ _ _ h => h) (.inl ⟨rfl, fun W hW => by simp [execOp, Act.eval, go_sem, hW.1.1.2.c0, hW.1.1.2.c1, hW.1.1.2.c2]⟩) hS ?_
  simp only [List.setIfInBounds_toArray, List.set_cons_succ, List.set_cons_zero]
  refine held_call (i := 3) rfl (by kernel_rfl) (by kernel_rfl) ?_
  simp [Oper.wp, execOp, Act.eval, Act.put, go_sem]
  refine (HC.out _).mono ?_
  rintro en w2 ⟨rfl, hb2⟩
  have hS : ((Box3 w2 w.heap.size a ∧ Box3 w2 (w.heap.size + 1) z) ∧ (∃ u, Box3 w2 (w.heap.size + 2) u) ∧ w2.cell? ⟨pf, 0, none⟩ = some (.func (.func g) #[] #[])) ∧ Below w.heap.size w w2 := ⟨⟨⟨hS.1.1.1.below hb2, hS.1.1.2.below hb2⟩, ⟨_, hS.1.2.1.choose_spec.below hb2⟩, later_cell hb2 hS.1.2.2⟩, hop0 hS.2 hb2⟩
  clear hb2
  refine ⟨hS, ?_⟩
  try simp only [List.setIfInBounds_toArray, List.set_cons_succ, List.set_cons_zero]
  refine held_call (i := 4) rfl (by kernel_rfl) (by kernel_rfl) ?_
  simp [Oper.wp, execOp, Act.eval, Act.put, go_sem, hen]
  refine (HG.out _).mono ?_
  rintro en w3 ⟨rfl, rfl⟩
  refine ⟨hS, ?_⟩
  try simp only [List.setIfInBounds_toArray, List.set_cons_succ, List.set_cons_zero]
  refine held_call (i := 5) rfl (by kernel_rfl) (by kernel_rfl) ?_
  simp [Oper.wp, execOp, Act.eval, Act.put, go_sem]
  refine (HBW.out _).mono ?_
  rintro en w4 ⟨rfl, hb4⟩
  have hS : ((Box3 w4 w.heap.size a ∧ Box3 w4 (w.heap.size + 1) z) ∧ (∃ u, Box3 w4 (w.heap.size + 2) u) ∧ w4.cell? ⟨pf, 0, none⟩ = some (.func (.func g) #[] #[])) ∧ Below w.heap.size w w4 := ⟨⟨⟨hS.1.1.1.below hb4, hS.1.1.2.below hb4⟩, ⟨_, hS.1.2.1.choose_spec.below hb4⟩, later_cell hb4 hS.1.2.2⟩, hop0 hS.2 hb4⟩
  clear hb4
  refine ⟨hS, ?_⟩
  try simp only [List.setIfInBounds_toArray, List.set_cons_succ, List.set_cons_zero]
  refine held_call (i := 6) rfl (by kernel_rfl) (by kernel_rfl) ?_
  have y0 := hS.1.2.1.choose_spec.c0
  have y1 := hS.1.2.1.choose_spec.c1
  have y2 := hS.1.2.1.choose_spec.c2
  have f0 := hS.1.2.1.choose_spec.free 0
  have f1 := hS.1.2.1.choose_spec.free 1
  have f2 := hS.1.2.1.choose_spec.free 2
  simp [Oper.wp, execOp, Act.eval, Act.put, go_sem, y0, y1, y2, f0, f1, f2]
  have hR := hS.1.2.1.choose_spec.set ⟨2, N, ⟨#[]⟩⟩
  have hL := set3_below (g := w.heap.size + 2) hS.2 (by omega) (.int .i64 2) (.int .i64 N) (.string ⟨#[]⟩)
  refine ⟨⟨⟨⟨hS.1.1.1.set3 (by omega) ⟨2, N, ⟨#[]⟩⟩, hS.1.1.2.set3 (by omega) ⟨2, N, ⟨#[]⟩⟩⟩, ⟨_, hR⟩, hS.1.2.2⟩, hL⟩, ?_⟩
  try simp only [List.setIfInBounds_toArray, List.set_cons_succ, List.set_cons_zero]
  refine wpAnyH_done (by kernel_rfl) ?_ 0
  go_wp2
  exact bodyPost_ret (ret_row rfl (by rfl) hR) rfl ⟨rfl, hL⟩
end Go.Proofs.YtclcabdekeegdaaGreat

/- Layer 13, walked: worths, by Op (wip/gen/XExWf.py). -/
namespace Go.Proofs.YtclcabdekeegdaaGreat
open Go.ChangeShapes Go.WideShapes Go.ChangeAt Go.RowKit
set_option linter.unusedVariables false
set_option linter.unusedSimpArgs false

set_option maxHeartbeats 2000000 in
set_option maxRecDepth 20000 in
theorem reckoned_out (b : Nat) (o : Int) (n : ByteArray) (v : V) (ks : List X) (A : Option Addr) (c : Nat) (w : World) (r : V × Int)
    (hin : ∀ W, Fr o n v ks A c w.heap.size (w.heap.size + 1) zV w W → Calls Tryz.prog 106 #[.pointer (some ⟨b, 0, none⟩), eV o n v ks.length A c, .func (.func 107) #[] #[.pointer (some ⟨w.heap.size, 0, none⟩)]] W fun en w' => en = endW r ∧ Below W.heap.size W w') :
    Calls Tryz.prog 68 #[.pointer (some ⟨b, 0, none⟩), eV o n v ks.length A c] w fun en w' => en = endW r ∧ Below w.heap.size w w' := by
  obtain ⟨W1, hW1⟩ : ∃ W1, (w.alloc ((X.mk o n v ks).obj A c)).alloc (.cells #[.int .i64 0, .int .i64 0, .string ⟨#[]⟩] 23) = W1 := ⟨_, rfl⟩
  have hfr : Fr o n v ks A c w.heap.size (w.heap.size + 1) zV w W1 := by rw [← hW1]; exact Fr.new o n v ks _ c w
  have HI := Lib.hid (hin W1 hfr)
  have HFR := Lib.hid hfr
  obtain ⟨p0, p1, p2, p3, p4, p5⟩ := obj_cells hfr.x
  simp only [X.op, X.nm, X.v, X.ks] at p0 p1 p2 p3 p4 p5
  have hmf : ∀ (fn : Fn) (first cap : Array Value) (w : World), (Instr.makeFunc fn first cap).run Tryz.prog w = .ok (.func fn first cap) w := fun _ _ _ _ => rfl
  obtain ⟨y, er⟩ := r
  clear hin hfr
  unfold X.obj at hW1
  simp only [X.op, X.nm, X.v, X.ks] at hW1
  unfold eV at HI ⊢
  by_cases h : er = 0
  · subst h
    rw [endW_ok rfl] at HI ⊢
    dsimp only at HI ⊢
    unfold V.val at HI ⊢
    go_enter Tryz.func68, Tryz.ntmps68
    go_wp2_with (go_at_call 106; go_loud (refine HI.out.mono ?_; rintro e w2 ⟨rfl, hb2⟩; have HB2 := Lib.hid (HFR.out.below hb2); have s0 := HB2.out.r.c0; have s1 := HB2.out.r.c1; have s2 := HB2.out.r.c2; have f0 := HB2.out.r.free 0; have f1 := HB2.out.r.free 1; have f2 := HB2.out.r.free 2; clear hb2))
    exact bodyPost_ret (ret_row rfl (by rfl) (HB2.out.r.set y)) rfl ⟨rfl, set3_below HB2.out.b (Nat.le_succ _) _ _ _⟩
  · rw [endW_no h] at HI ⊢
    go_enter Tryz.func68, Tryz.ntmps68
    go_wp2_with (go_at_call 106; go_loud (refine HI.out.mono ?_; rintro e w2 ⟨rfl, hb2⟩; have HB2 := Lib.hid (HFR.out.below hb2); clear hb2))
    exact ⟨rfl, rfl, HB2.out.b⟩
set_option maxHeartbeats 2000000 in
set_option maxRecDepth 20000 in
theorem negated_out (b : Nat) (o : Int) (n : ByteArray) (v : V) (ks : List X) (A : Option Addr) (c : Nat) (w : World) (r : V × Int)
    (hin : ∀ W, Fr o n v ks A c w.heap.size (w.heap.size + 1) zV w W → Calls Tryz.prog 109 #[.pointer (some ⟨b, 0, none⟩), eV o n v ks.length A c, .func (.func 110) #[] #[]] W fun en w' => en = endW r ∧ Below W.heap.size W w') :
    Calls Tryz.prog 70 #[.pointer (some ⟨b, 0, none⟩), eV o n v ks.length A c] w fun en w' => en = endW r ∧ Below w.heap.size w w' := by
  obtain ⟨W1, hW1⟩ : ∃ W1, (w.alloc ((X.mk o n v ks).obj A c)).alloc (.cells #[.int .i64 0, .int .i64 0, .string ⟨#[]⟩] 23) = W1 := ⟨_, rfl⟩
  have hfr : Fr o n v ks A c w.heap.size (w.heap.size + 1) zV w W1 := by rw [← hW1]; exact Fr.new o n v ks _ c w
  have HI := Lib.hid (hin W1 hfr)
  have HFR := Lib.hid hfr
  obtain ⟨p0, p1, p2, p3, p4, p5⟩ := obj_cells hfr.x
  simp only [X.op, X.nm, X.v, X.ks] at p0 p1 p2 p3 p4 p5
  have hmf : ∀ (fn : Fn) (first cap : Array Value) (w : World), (Instr.makeFunc fn first cap).run Tryz.prog w = .ok (.func fn first cap) w := fun _ _ _ _ => rfl
  obtain ⟨y, er⟩ := r
  clear hin hfr
  unfold X.obj at hW1
  simp only [X.op, X.nm, X.v, X.ks] at hW1
  unfold eV at HI ⊢
  by_cases h : er = 0
  · subst h
    rw [endW_ok rfl] at HI ⊢
    dsimp only at HI ⊢
    unfold V.val at HI ⊢
    go_enter Tryz.func70, Tryz.ntmps70
    go_wp2_with (go_at_call 109; go_loud (refine HI.out.mono ?_; rintro e w2 ⟨rfl, hb2⟩; have HB2 := Lib.hid (HFR.out.below hb2); have s0 := HB2.out.r.c0; have s1 := HB2.out.r.c1; have s2 := HB2.out.r.c2; have f0 := HB2.out.r.free 0; have f1 := HB2.out.r.free 1; have f2 := HB2.out.r.free 2; clear hb2))
    exact bodyPost_ret (ret_row rfl (by rfl) (HB2.out.r.set y)) rfl ⟨rfl, set3_below HB2.out.b (Nat.le_succ _) _ _ _⟩
  · rw [endW_no h] at HI ⊢
    go_enter Tryz.func70, Tryz.ntmps70
    go_wp2_with (go_at_call 109; go_loud (refine HI.out.mono ?_; rintro e w2 ⟨rfl, hb2⟩; have HB2 := Lib.hid (HFR.out.below hb2); clear hb2))
    exact ⟨rfl, rfl, HB2.out.b⟩
set_option maxHeartbeats 2000000 in
set_option maxRecDepth 20000 in
theorem turned_out (b : Nat) (o : Int) (n : ByteArray) (v : V) (ks : List X) (A : Option Addr) (c : Nat) (w : World) (r : V × Int)
    (hin : ∀ W, Fr o n v ks A c w.heap.size (w.heap.size + 1) zV w W → Calls Tryz.prog 109 #[.pointer (some ⟨b, 0, none⟩), eV o n v ks.length A c, .func (.func 118) #[] #[]] W fun en w' => en = endW r ∧ Below W.heap.size W w') :
    Calls Tryz.prog 80 #[.pointer (some ⟨b, 0, none⟩), eV o n v ks.length A c] w fun en w' => en = endW r ∧ Below w.heap.size w w' := by
  obtain ⟨W1, hW1⟩ : ∃ W1, (w.alloc ((X.mk o n v ks).obj A c)).alloc (.cells #[.int .i64 0, .int .i64 0, .string ⟨#[]⟩] 23) = W1 := ⟨_, rfl⟩
  have hfr : Fr o n v ks A c w.heap.size (w.heap.size + 1) zV w W1 := by rw [← hW1]; exact Fr.new o n v ks _ c w
  have HI := Lib.hid (hin W1 hfr)
  have HFR := Lib.hid hfr
  obtain ⟨p0, p1, p2, p3, p4, p5⟩ := obj_cells hfr.x
  simp only [X.op, X.nm, X.v, X.ks] at p0 p1 p2 p3 p4 p5
  have hmf : ∀ (fn : Fn) (first cap : Array Value) (w : World), (Instr.makeFunc fn first cap).run Tryz.prog w = .ok (.func fn first cap) w := fun _ _ _ _ => rfl
  obtain ⟨y, er⟩ := r
  clear hin hfr
  unfold X.obj at hW1
  simp only [X.op, X.nm, X.v, X.ks] at hW1
  unfold eV at HI ⊢
  by_cases h : er = 0
  · subst h
    rw [endW_ok rfl] at HI ⊢
    dsimp only at HI ⊢
    unfold V.val at HI ⊢
    go_enter Tryz.func80, Tryz.ntmps80
    go_wp2_with (go_at_call 109; go_loud (refine HI.out.mono ?_; rintro e w2 ⟨rfl, hb2⟩; have HB2 := Lib.hid (HFR.out.below hb2); have s0 := HB2.out.r.c0; have s1 := HB2.out.r.c1; have s2 := HB2.out.r.c2; have f0 := HB2.out.r.free 0; have f1 := HB2.out.r.free 1; have f2 := HB2.out.r.free 2; clear hb2))
    exact bodyPost_ret (ret_row rfl (by rfl) (HB2.out.r.set y)) rfl ⟨rfl, set3_below HB2.out.b (Nat.le_succ _) _ _ _⟩
  · rw [endW_no h] at HI ⊢
    go_enter Tryz.func80, Tryz.ntmps80
    go_wp2_with (go_at_call 109; go_loud (refine HI.out.mono ?_; rintro e w2 ⟨rfl, hb2⟩; have HB2 := Lib.hid (HFR.out.below hb2); clear hb2))
    exact ⟨rfl, rfl, HB2.out.b⟩
set_option maxHeartbeats 2000000 in
set_option maxRecDepth 20000 in
theorem measured_out (b : Nat) (o : Int) (n : ByteArray) (v : V) (ks : List X) (A : Option Addr) (c : Nat) (w : World) (r : V × Int)
    (hin : ∀ W, Fr o n v ks A c w.heap.size (w.heap.size + 1) zV w W → Calls Tryz.prog 109 #[.pointer (some ⟨b, 0, none⟩), eV o n v ks.length A c, .func (.func 119) #[] #[]] W fun en w' => en = endW r ∧ Below W.heap.size W w') :
    Calls Tryz.prog 88 #[.pointer (some ⟨b, 0, none⟩), eV o n v ks.length A c] w fun en w' => en = endW r ∧ Below w.heap.size w w' := by
  obtain ⟨W1, hW1⟩ : ∃ W1, (w.alloc ((X.mk o n v ks).obj A c)).alloc (.cells #[.int .i64 0, .int .i64 0, .string ⟨#[]⟩] 23) = W1 := ⟨_, rfl⟩
  have hfr : Fr o n v ks A c w.heap.size (w.heap.size + 1) zV w W1 := by rw [← hW1]; exact Fr.new o n v ks _ c w
  have HI := Lib.hid (hin W1 hfr)
  have HFR := Lib.hid hfr
  obtain ⟨p0, p1, p2, p3, p4, p5⟩ := obj_cells hfr.x
  simp only [X.op, X.nm, X.v, X.ks] at p0 p1 p2 p3 p4 p5
  have hmf : ∀ (fn : Fn) (first cap : Array Value) (w : World), (Instr.makeFunc fn first cap).run Tryz.prog w = .ok (.func fn first cap) w := fun _ _ _ _ => rfl
  obtain ⟨y, er⟩ := r
  clear hin hfr
  unfold X.obj at hW1
  simp only [X.op, X.nm, X.v, X.ks] at hW1
  unfold eV at HI ⊢
  by_cases h : er = 0
  · subst h
    rw [endW_ok rfl] at HI ⊢
    dsimp only at HI ⊢
    unfold V.val at HI ⊢
    go_enter Tryz.func88, Tryz.ntmps88
    go_wp2_with (go_at_call 109; go_loud (refine HI.out.mono ?_; rintro e w2 ⟨rfl, hb2⟩; have HB2 := Lib.hid (HFR.out.below hb2); have s0 := HB2.out.r.c0; have s1 := HB2.out.r.c1; have s2 := HB2.out.r.c2; have f0 := HB2.out.r.free 0; have f1 := HB2.out.r.free 1; have f2 := HB2.out.r.free 2; clear hb2))
    exact bodyPost_ret (ret_row rfl (by rfl) (HB2.out.r.set y)) rfl ⟨rfl, set3_below HB2.out.b (Nat.le_succ _) _ _ _⟩
  · rw [endW_no h] at HI ⊢
    go_enter Tryz.func88, Tryz.ntmps88
    go_wp2_with (go_at_call 109; go_loud (refine HI.out.mono ?_; rintro e w2 ⟨rfl, hb2⟩; have HB2 := Lib.hid (HFR.out.below hb2); clear hb2))
    exact ⟨rfl, rfl, HB2.out.b⟩
set_option maxHeartbeats 2000000 in
set_option maxRecDepth 20000 in
theorem equal_out (b : Nat) (o : Int) (n : ByteArray) (v : V) (ks : List X) (A : Option Addr) (c : Nat) (w : World) (r : V × Int)
    (hin : ∀ W, Fr o n v ks A c w.heap.size (w.heap.size + 1) zV w W → Calls Tryz.prog 111 #[.pointer (some ⟨b, 0, none⟩), eV o n v ks.length A c, .func (.func 112) #[] #[]] W fun en w' => en = endW r ∧ Below W.heap.size W w') :
    Calls Tryz.prog 72 #[.pointer (some ⟨b, 0, none⟩), eV o n v ks.length A c] w fun en w' => en = endW r ∧ Below w.heap.size w w' := by
  obtain ⟨W1, hW1⟩ : ∃ W1, (w.alloc ((X.mk o n v ks).obj A c)).alloc (.cells #[.int .i64 0, .int .i64 0, .string ⟨#[]⟩] 23) = W1 := ⟨_, rfl⟩
  have hfr : Fr o n v ks A c w.heap.size (w.heap.size + 1) zV w W1 := by rw [← hW1]; exact Fr.new o n v ks _ c w
  have HI := Lib.hid (hin W1 hfr)
  have HFR := Lib.hid hfr
  obtain ⟨p0, p1, p2, p3, p4, p5⟩ := obj_cells hfr.x
  simp only [X.op, X.nm, X.v, X.ks] at p0 p1 p2 p3 p4 p5
  have hmf : ∀ (fn : Fn) (first cap : Array Value) (w : World), (Instr.makeFunc fn first cap).run Tryz.prog w = .ok (.func fn first cap) w := fun _ _ _ _ => rfl
  obtain ⟨y, er⟩ := r
  clear hin hfr
  unfold X.obj at hW1
  simp only [X.op, X.nm, X.v, X.ks] at hW1
  unfold eV at HI ⊢
  by_cases h : er = 0
  · subst h
    rw [endW_ok rfl] at HI ⊢
    dsimp only at HI ⊢
    unfold V.val at HI ⊢
    go_enter Tryz.func72, Tryz.ntmps72
    go_wp2_with (go_at_call 111; go_loud (refine HI.out.mono ?_; rintro e w2 ⟨rfl, hb2⟩; have HB2 := Lib.hid (HFR.out.below hb2); have s0 := HB2.out.r.c0; have s1 := HB2.out.r.c1; have s2 := HB2.out.r.c2; have f0 := HB2.out.r.free 0; have f1 := HB2.out.r.free 1; have f2 := HB2.out.r.free 2; clear hb2))
    exact bodyPost_ret (ret_row rfl (by rfl) (HB2.out.r.set y)) rfl ⟨rfl, set3_below HB2.out.b (Nat.le_succ _) _ _ _⟩
  · rw [endW_no h] at HI ⊢
    go_enter Tryz.func72, Tryz.ntmps72
    go_wp2_with (go_at_call 111; go_loud (refine HI.out.mono ?_; rintro e w2 ⟨rfl, hb2⟩; have HB2 := Lib.hid (HFR.out.below hb2); clear hb2))
    exact ⟨rfl, rfl, HB2.out.b⟩
set_option maxHeartbeats 2000000 in
set_option maxRecDepth 20000 in
theorem unlike_out (b : Nat) (o : Int) (n : ByteArray) (v : V) (ks : List X) (A : Option Addr) (c : Nat) (w : World) (r : V × Int)
    (hin : ∀ W, Fr o n v ks A c w.heap.size (w.heap.size + 1) zV w W → Calls Tryz.prog 111 #[.pointer (some ⟨b, 0, none⟩), eV o n v ks.length A c, .func (.func 113) #[] #[]] W fun en w' => en = endW r ∧ Below W.heap.size W w') :
    Calls Tryz.prog 73 #[.pointer (some ⟨b, 0, none⟩), eV o n v ks.length A c] w fun en w' => en = endW r ∧ Below w.heap.size w w' := by
  obtain ⟨W1, hW1⟩ : ∃ W1, (w.alloc ((X.mk o n v ks).obj A c)).alloc (.cells #[.int .i64 0, .int .i64 0, .string ⟨#[]⟩] 23) = W1 := ⟨_, rfl⟩
  have hfr : Fr o n v ks A c w.heap.size (w.heap.size + 1) zV w W1 := by rw [← hW1]; exact Fr.new o n v ks _ c w
  have HI := Lib.hid (hin W1 hfr)
  have HFR := Lib.hid hfr
  obtain ⟨p0, p1, p2, p3, p4, p5⟩ := obj_cells hfr.x
  simp only [X.op, X.nm, X.v, X.ks] at p0 p1 p2 p3 p4 p5
  have hmf : ∀ (fn : Fn) (first cap : Array Value) (w : World), (Instr.makeFunc fn first cap).run Tryz.prog w = .ok (.func fn first cap) w := fun _ _ _ _ => rfl
  obtain ⟨y, er⟩ := r
  clear hin hfr
  unfold X.obj at hW1
  simp only [X.op, X.nm, X.v, X.ks] at hW1
  unfold eV at HI ⊢
  by_cases h : er = 0
  · subst h
    rw [endW_ok rfl] at HI ⊢
    dsimp only at HI ⊢
    unfold V.val at HI ⊢
    go_enter Tryz.func73, Tryz.ntmps73
    go_wp2_with (go_at_call 111; go_loud (refine HI.out.mono ?_; rintro e w2 ⟨rfl, hb2⟩; have HB2 := Lib.hid (HFR.out.below hb2); have s0 := HB2.out.r.c0; have s1 := HB2.out.r.c1; have s2 := HB2.out.r.c2; have f0 := HB2.out.r.free 0; have f1 := HB2.out.r.free 1; have f2 := HB2.out.r.free 2; clear hb2))
    exact bodyPost_ret (ret_row rfl (by rfl) (HB2.out.r.set y)) rfl ⟨rfl, set3_below HB2.out.b (Nat.le_succ _) _ _ _⟩
  · rw [endW_no h] at HI ⊢
    go_enter Tryz.func73, Tryz.ntmps73
    go_wp2_with (go_at_call 111; go_loud (refine HI.out.mono ?_; rintro e w2 ⟨rfl, hb2⟩; have HB2 := Lib.hid (HFR.out.below hb2); clear hb2))
    exact ⟨rfl, rfl, HB2.out.b⟩
set_option maxHeartbeats 2000000 in
set_option maxRecDepth 20000 in
theorem ahead_out (b : Nat) (o : Int) (n : ByteArray) (v : V) (ks : List X) (A : Option Addr) (c : Nat) (w : World) (r : V × Int)
    (hin : ∀ W, Fr o n v ks A c w.heap.size (w.heap.size + 1) zV w W → Calls Tryz.prog 111 #[.pointer (some ⟨b, 0, none⟩), eV o n v ks.length A c, .func (.func 114) #[] #[]] W fun en w' => en = endW r ∧ Below W.heap.size W w') :
    Calls Tryz.prog 74 #[.pointer (some ⟨b, 0, none⟩), eV o n v ks.length A c] w fun en w' => en = endW r ∧ Below w.heap.size w w' := by
  obtain ⟨W1, hW1⟩ : ∃ W1, (w.alloc ((X.mk o n v ks).obj A c)).alloc (.cells #[.int .i64 0, .int .i64 0, .string ⟨#[]⟩] 23) = W1 := ⟨_, rfl⟩
  have hfr : Fr o n v ks A c w.heap.size (w.heap.size + 1) zV w W1 := by rw [← hW1]; exact Fr.new o n v ks _ c w
  have HI := Lib.hid (hin W1 hfr)
  have HFR := Lib.hid hfr
  obtain ⟨p0, p1, p2, p3, p4, p5⟩ := obj_cells hfr.x
  simp only [X.op, X.nm, X.v, X.ks] at p0 p1 p2 p3 p4 p5
  have hmf : ∀ (fn : Fn) (first cap : Array Value) (w : World), (Instr.makeFunc fn first cap).run Tryz.prog w = .ok (.func fn first cap) w := fun _ _ _ _ => rfl
  obtain ⟨y, er⟩ := r
  clear hin hfr
  unfold X.obj at hW1
  simp only [X.op, X.nm, X.v, X.ks] at hW1
  unfold eV at HI ⊢
  by_cases h : er = 0
  · subst h
    rw [endW_ok rfl] at HI ⊢
    dsimp only at HI ⊢
    unfold V.val at HI ⊢
    go_enter Tryz.func74, Tryz.ntmps74
    go_wp2_with (go_at_call 111; go_loud (refine HI.out.mono ?_; rintro e w2 ⟨rfl, hb2⟩; have HB2 := Lib.hid (HFR.out.below hb2); have s0 := HB2.out.r.c0; have s1 := HB2.out.r.c1; have s2 := HB2.out.r.c2; have f0 := HB2.out.r.free 0; have f1 := HB2.out.r.free 1; have f2 := HB2.out.r.free 2; clear hb2))
    exact bodyPost_ret (ret_row rfl (by rfl) (HB2.out.r.set y)) rfl ⟨rfl, set3_below HB2.out.b (Nat.le_succ _) _ _ _⟩
  · rw [endW_no h] at HI ⊢
    go_enter Tryz.func74, Tryz.ntmps74
    go_wp2_with (go_at_call 111; go_loud (refine HI.out.mono ?_; rintro e w2 ⟨rfl, hb2⟩; have HB2 := Lib.hid (HFR.out.below hb2); clear hb2))
    exact ⟨rfl, rfl, HB2.out.b⟩
set_option maxHeartbeats 2000000 in
set_option maxRecDepth 20000 in
theorem notBehind_out (b : Nat) (o : Int) (n : ByteArray) (v : V) (ks : List X) (A : Option Addr) (c : Nat) (w : World) (r : V × Int)
    (hin : ∀ W, Fr o n v ks A c w.heap.size (w.heap.size + 1) zV w W → Calls Tryz.prog 111 #[.pointer (some ⟨b, 0, none⟩), eV o n v ks.length A c, .func (.func 115) #[] #[]] W fun en w' => en = endW r ∧ Below W.heap.size W w') :
    Calls Tryz.prog 75 #[.pointer (some ⟨b, 0, none⟩), eV o n v ks.length A c] w fun en w' => en = endW r ∧ Below w.heap.size w w' := by
  obtain ⟨W1, hW1⟩ : ∃ W1, (w.alloc ((X.mk o n v ks).obj A c)).alloc (.cells #[.int .i64 0, .int .i64 0, .string ⟨#[]⟩] 23) = W1 := ⟨_, rfl⟩
  have hfr : Fr o n v ks A c w.heap.size (w.heap.size + 1) zV w W1 := by rw [← hW1]; exact Fr.new o n v ks _ c w
  have HI := Lib.hid (hin W1 hfr)
  have HFR := Lib.hid hfr
  obtain ⟨p0, p1, p2, p3, p4, p5⟩ := obj_cells hfr.x
  simp only [X.op, X.nm, X.v, X.ks] at p0 p1 p2 p3 p4 p5
  have hmf : ∀ (fn : Fn) (first cap : Array Value) (w : World), (Instr.makeFunc fn first cap).run Tryz.prog w = .ok (.func fn first cap) w := fun _ _ _ _ => rfl
  obtain ⟨y, er⟩ := r
  clear hin hfr
  unfold X.obj at hW1
  simp only [X.op, X.nm, X.v, X.ks] at hW1
  unfold eV at HI ⊢
  by_cases h : er = 0
  · subst h
    rw [endW_ok rfl] at HI ⊢
    dsimp only at HI ⊢
    unfold V.val at HI ⊢
    go_enter Tryz.func75, Tryz.ntmps75
    go_wp2_with (go_at_call 111; go_loud (refine HI.out.mono ?_; rintro e w2 ⟨rfl, hb2⟩; have HB2 := Lib.hid (HFR.out.below hb2); have s0 := HB2.out.r.c0; have s1 := HB2.out.r.c1; have s2 := HB2.out.r.c2; have f0 := HB2.out.r.free 0; have f1 := HB2.out.r.free 1; have f2 := HB2.out.r.free 2; clear hb2))
    exact bodyPost_ret (ret_row rfl (by rfl) (HB2.out.r.set y)) rfl ⟨rfl, set3_below HB2.out.b (Nat.le_succ _) _ _ _⟩
  · rw [endW_no h] at HI ⊢
    go_enter Tryz.func75, Tryz.ntmps75
    go_wp2_with (go_at_call 111; go_loud (refine HI.out.mono ?_; rintro e w2 ⟨rfl, hb2⟩; have HB2 := Lib.hid (HFR.out.below hb2); clear hb2))
    exact ⟨rfl, rfl, HB2.out.b⟩
/-- Two blocks, an answer's. -/
theorem Fr.new3 (o : Int) (n : ByteArray) (v : V) (ks : List X) (A : Option Addr) (c : Nat) (w : World) (x : Obj) : Fr o n v ks A c w.heap.size (w.heap.size + 2) zV w (((w.alloc ((X.mk o n v ks).obj A c)).alloc x).alloc (.cells #[.int .i64 0, .int .i64 0, .string ⟨#[]⟩] 23)) :=
  ⟨(Below.heap_alloc _ _ _ (by simp; omega)).trans ((Below.heap_alloc _ _ _ (by simp)).trans (World.alloc_heap_new w _)), by
    have := Box3.new ((w.alloc ((X.mk o n v ks).obj A c)).alloc x) zV
    rwa [World.size_alloc, World.size_alloc] at this, (two_boxes _ _ _).alloc (by simp; omega) _, by omega⟩
set_option maxHeartbeats 2000000 in
set_option maxRecDepth 20000 in
theorem ordered_out (b g : Nat) (o : Int) (n : ByteArray) (v : V) (ks : List X) (A : Option Addr) (c : Nat) (w : World) (r : V × Int)
    (hin : ∀ W, Fr o n v ks A c w.heap.size (w.heap.size + 2) zV w W → W.cell? ⟨w.heap.size + 1, 0, none⟩ = some (.func (.func g) #[] #[]) → Calls Tryz.prog 106 #[.pointer (some ⟨b, 0, none⟩), eV o n v ks.length A c, .func (.func 135) #[] #[.pointer (some ⟨w.heap.size + 1, 0, none⟩)]] W fun en w' => en = endW r ∧ Below W.heap.size W w') :
    Calls Tryz.prog 111 #[.pointer (some ⟨b, 0, none⟩), eV o n v ks.length A c, .func (.func g) #[] #[]] w fun en w' => en = endW r ∧ Below w.heap.size w w' := by
  obtain ⟨W1, hW1⟩ : ∃ W1, ((w.alloc ((X.mk o n v ks).obj A c)).alloc (.cells #[.func (.func g) #[] #[]] 88)).alloc (.cells #[.int .i64 0, .int .i64 0, .string ⟨#[]⟩] 23) = W1 := ⟨_, rfl⟩
  have hfr : Fr o n v ks A c w.heap.size (w.heap.size + 2) zV w W1 := by rw [← hW1]; exact Fr.new3 o n v ks _ c w _
  have hcf : W1.heap[w.heap.size + 1]? = some (.cells #[.func (.func g) #[] #[]] 88) := by
    rw [← hW1]
    have := World.alloc_heap_new (w.alloc ((X.mk o n v ks).obj A c)) (.cells #[.func (.func g) #[] #[]] 88)
    rw [World.size_alloc] at this
    exact (Below.heap_alloc _ _ _ (by simp)).trans this
  have HI := Lib.hid (hin W1 hfr (by simp [World.cell?, hcf]))
  have HFR := Lib.hid hfr
  obtain ⟨p0, p1, p2, p3, p4, p5⟩ := obj_cells hfr.x
  simp only [X.op, X.nm, X.v, X.ks] at p0 p1 p2 p3 p4 p5
  have hmf : ∀ (fn : Fn) (first cap : Array Value) (w : World), (Instr.makeFunc fn first cap).run Tryz.prog w = .ok (.func fn first cap) w := fun _ _ _ _ => rfl
  obtain ⟨y, er⟩ := r
  clear hin hfr hcf
  unfold X.obj at hW1
  simp only [X.op, X.nm, X.v, X.ks] at hW1
  unfold eV at HI ⊢
  by_cases h : er = 0
  · subst h
    rw [endW_ok rfl] at HI ⊢
    dsimp only at HI ⊢
    unfold V.val at HI ⊢
    go_enter Tryz.func111, Tryz.ntmps111
    go_wp2_with (go_at_call 106; go_loud (refine HI.out.mono ?_; rintro e w2 ⟨rfl, hb2⟩; have HB2 := Lib.hid (HFR.out.below hb2); have s0 := HB2.out.r.c0; have s1 := HB2.out.r.c1; have s2 := HB2.out.r.c2; have f0 := HB2.out.r.free 0; have f1 := HB2.out.r.free 1; have f2 := HB2.out.r.free 2; clear hb2))
    exact bodyPost_ret (ret_row rfl (by rfl) (HB2.out.r.set y)) rfl ⟨rfl, set3_below HB2.out.b (by omega) _ _ _⟩
  · rw [endW_no h] at HI ⊢
    go_enter Tryz.func111, Tryz.ntmps111
    go_wp2_with (go_at_call 106; go_loud (refine HI.out.mono ?_; rintro e w2 ⟨rfl, hb2⟩; have HB2 := Lib.hid (HFR.out.below hb2); clear hb2))
    exact ⟨rfl, rfl, HB2.out.b⟩
theorem box_second (w : World) (x : Obj) (v : V) : Box3 ((w.alloc x).alloc (.cells #[.int .i64 v.k, .int .i64 v.n, .string v.s] 23)) (w.heap.size + 1) v := by
  have := Box3.new (w.alloc x) v
  rwa [World.size_alloc] at this
set_option maxRecDepth 20000 in
theorem literalWorth_any (s : Value) (q : Int) (n : ByteArray) (v : V) (l : Nat) (A : Option Addr) (c : Nat) (w : World) :
    Calls Tryz.prog 62 #[s, eV q n v l A c] w fun en w' => en = endW (v, 0) ∧ Below w.heap.size w w' := by
  obtain ⟨hb1, hz1⟩ := one_val w (.cells #[.int .i64 q, .string n, .int .i64 v.k, .int .i64 v.n, .string v.s, .slice A l c] 26)
  rw [endW_ok rfl]
  unfold eV
  clear hb1 hz1
  go_enter Tryz.func62, Tryz.ntmps62
  go_wp2
  exact bodyPost_ret (ret_row rfl (by rfl) (box_second w _ v)) rfl ⟨rfl, two_boxes _ _ _⟩
set_option maxRecDepth 20000 in
theorem nullWorth_any (s : Value) (q : Int) (n : ByteArray) (v : V) (l : Nat) (A : Option Addr) (c : Nat) (w : World) :
    Calls Tryz.prog 65 #[s, eV q n v l A c] w fun en w' => en = endW (nulV, 0) ∧ Below w.heap.size w w' := by
  rw [endW_ok rfl]
  unfold eV
  go_enter Tryz.func65, Tryz.ntmps65
  go_wp2
  exact bodyPost_ret (ret_row rfl (by rfl) (box_second w _ nulV)) rfl ⟨rfl, two_boxes _ _ _⟩
end Go.Proofs.YtclcabdekeegdaaGreat
