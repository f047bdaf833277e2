/- The walk of MetaOnce. -/
import Derived.Test.YtnkhgajghfonhaaGreatDoorMlXZ
namespace Go.Proofs.YtnkhgajghfonhaaGreatDoor
open Go Go.ChangeShapes Go.WideShapes Go.ChangeAt Go.RowKit Go.ChangeMaps Go.MapKept
set_option linter.unusedVariables false
set_option linter.unusedSimpArgs false

section
variable {Q : Nat → Prop} {B l f cnt M : Nat} {dir : Nm} {room used : Int} {rs : List Mr} {fs : List Int} {s : Fs} {w : World}
/-- Put of '[]byte(t)', of a greater number. -/
theorem put_str (h : Lm Q B l f dir room used cnt M rs fs s w) (hBw : B ≤ w.heap.size) (hT : Tab B w) (hM : M + 6 ≤ 1000000) (hc : cnt < 4000) (t : Int) (h0 : 0 ≤ t) (h1 : t ≤ 1099511627776) (hgt : ∀ r ∈ rs, r.id < t) (hrl : rs.length ≤ 999999970) (a : ByteArray) (ha : a.size ≤ 4000) (hu : used + 4008 ≤ room) (cap cap' : Nat) (fr_ : Nat × Nat) :
    Calls Tryz.prog 12 #[.pointer (some ⟨l, 0, none⟩), .int .i64 t, .slice (some ⟨w.heap.size, 0, none⟩) a.size cap] (w.alloc (.cells (bytesRow a cap') 5 fr_)).drew fun e w' => e = .returned (.int .i64 0) ∧ ∃ A c' s', Lm Q B l f dir room (used + 4008) (cnt + 2) (M + 6) (rs ++ [⟨t, a.data.toList, false, true, A, c'⟩]) fs s' w' ∧ Turn Q B w w' := by
  have hs := size_eq a
  have hb : Below w.heap.size w (w.alloc (.cells (bytesRow a cap') 5 fr_)).drew := ((Below.refl _ w).alloc (Nat.le_refl _) _).drew
  have hf : (fr a.data.toList).length ≤ 4008 := by rw [fr_length]; omega
  refine (put_lm h hBw hb hT hM hc t h0 h1 hgt hrl ⟨w.heap.size, 0, none⟩ a.size cap a.data.toList hs (by omega) (laid_bytes a w cap' _ fr_) ⟨Nat.le_refl _, by simp⟩ (by omega)).mono ?_
  rintro e w' ⟨he, A, c', s', hm, ht, hbs⟩
  exact ⟨he, A, c', s', ⟨hm.ls, ⟨hm.lg.gl.more (by omega), hm.lg.dr⟩, hm.wf⟩, ht⟩
theorem old_str (h : Lm Q B l f dir room used cnt M rs fs s w) (t : Int) (h0 : 0 ≤ t) (h1 : t ≤ 1099511627776) {b : List UInt8} (hlk : (lkI rs t).map (·.b) = some b) (a : ByteArray) (E : Int) (hE : (if b = a.data.toList then 0 else 90) = E) (cap cap' : Nat) (fr_ : Nat × Nat) :
    Calls Tryz.prog 12 #[.pointer (some ⟨l, 0, none⟩), .int .i64 t, .slice (some ⟨w.heap.size, 0, none⟩) a.size cap] (w.alloc (.cells (bytesRow a cap') 5 fr_)).drew fun e w' => e = .returned (.int .i64 E) ∧ Below w.heap.size w w' := by
  obtain ⟨P, hlog⟩ := h.log
  obtain ⟨r, hr, rfl⟩ := Option.map_eq_some_iff.1 hlk
  have hb : Below w.heap.size w (w.alloc (.cells (bytesRow a cap') 5 fr_)).drew := ((Below.refl _ w).alloc (Nat.le_refl _) _).drew
  rw [← hE]
  exact (put_old (hlog.below hb) t h0 h1 hr (some ⟨w.heap.size, 0, none⟩) a.size cap a.data.toList (size_eq a) (laid_bytes a w cap' _ fr_)).mono fun e w' hh => ⟨hh.1, hb.trans (hh.2.mono hb.size)⟩
end
theorem once_big (t : Int) (a b : ByteArray) (ha : a.size ≤ 140737488351232) (hb : b.size ≤ 140737488351232) (hbig : 4000 < a.size + b.size) (fold : Bool) (w : World) (hT : Tab w.heap.size w) :
    Calls Tryz.prog 4 #[.int .i64 t, .string a, .string b, .bool fold] w fun e w' => e = .returned (.bool true) ∧ Below w.heap.size w w' := by
  have HA := Lib.hid (alive_ml w hT)
  have d0 : decide ((4000 : Int) < (a.size : Int) + (b.size : Int)) = true := decide_eq_true (by omega)
  clear hT
  go_enter Tryz.func4, Tryz.ntmps4
  go_wp2_with (go_at_call 7; refine HA.out.mono ?_; rintro e w1 ⟨rfl, h1⟩; have HB1 := Lib.hid h1; clear h1)
  go_ret
  exact ⟨rfl, HB1.out⟩
set_option maxHeartbeats 2000000 in
set_option maxRecDepth 20000 in
theorem once_arg (t : Int) (ht : ¬ (0 ≤ t ∧ t ≤ 1099511627776)) (a b : ByteArray) (hsm : a.size + b.size ≤ 4000) (fold : Bool) (w : World) (hT : Tab w.heap.size w) :
    Calls Tryz.prog 4 #[.int .i64 t, .string a, .string b, .bool fold] w fun e w' => e = .returned (.bool true) ∧ Below w.heap.size w w' := by
  have HA := Lib.hid (alive_ml w hT)
  have d0 : decide ((4000 : Int) < (a.size : Int) + (b.size : Int)) = false := decide_eq_false (by omega)
  have hcv := fun W => run_bytes_of_string (P := Tryz.prog) W 9 22 5 a Tryz.underlying9 Tryz.underlying22 Tryz.underlying5
  have HAR := Lib.hid ht
  clear hT ht
  by_cases h0 : t < 0
  case' neg => have h1 : 1099511627776 < t := by have := HAR.out; omega
  all_goals go_enter Tryz.func4, Tryz.ntmps4
  all_goals go_wp2_with (first
    | (go_at_call 7; refine HA.out.mono ?_; rintro e w1 ⟨rfl, h1⟩; have HB1 := Lib.hid h1; clear h1)
    | (go_at_call 8; go_loud (refine (new_any (Kp := fun _ => False) 1048576 rfl w1 (fun _ h => h.elim)).mono ?_; rintro e w2 ⟨f, rfl, h1, h2⟩; have HR2 := Lib.hid h1; have HB2 := Lib.hid h2; clear h1 h2))
    | (go_at_call 9; go_loud (refine (open_fresh (dir := nd) HR2.out (WfK.new (room := 1048576) rfl) gl_new nd_right (by simp [newFs]) (by simp [newFs]) (by decide) HB2.out.size).mono ?_; rintro e w3 ⟨l, s2, rfl, hm, ht, _, _⟩; have HM3 := Lib.hid hm; have HB3 := Lib.hid (HB1.out.trans ((HB2.out.trans ht.below).mono HB1.out.size)); clear hm ht))
    | (go_at_call 12; go_loud (refine (put_arg t HAR.out _).mono ?_; rintro e w4 ⟨rfl, rfl⟩))
    | (go_at_call 15; go_loud (refine (len_lm (HM3.out.quiet (((Below.refl _ w3).alloc (Nat.le_refl _) _).drew))).mono ?_; rintro e w5 ⟨rfl, rfl⟩)))
  all_goals go_ret
  all_goals exact ⟨rfl, (HB3.out.alloc HB3.out.size _).drew⟩
theorem steps_lm {Q : Nat → Prop} {B l f cnt M : Nat} {dir : Nm} {room used : Int} {rs : List Mr} {fs : List Int} {s : Fs} {w : World} (h : Lm Q B l f dir room used cnt M rs fs s w) : Calls Tryz.prog 16 #[.pointer (some ⟨f, 0, none⟩)] w fun e w' => e = .returned (.int .i64 s.steps) ∧ w = w' := by
  obtain ⟨P, h1, h2, h3⟩ := h.ls
  exact steps_any h2
set_option maxHeartbeats 4000000 in
set_option maxRecDepth 20000 in
theorem once_ok (t : Int) (h0 : 0 ≤ t) (h1 : t ≤ 1099511627776) (a b : ByteArray) (hsm : a.size + b.size ≤ 4000) (fold : Bool) (w : World) (hT : Tab w.heap.size w) :
    Calls Tryz.prog 4 #[.int .i64 t, .string a, .string b, .bool fold] w fun e w' => e = .returned (.bool true) ∧ Below w.heap.size w w' := by
  have HA := Lib.hid (alive_ml w hT)
  have HTAB := Lib.hid (fun (W1 W : World) (hb1 : Below w.heap.size w W1) (hb : Below W1.heap.size W1 W) => ((⟨Nat.lt_of_lt_of_le hT.1 hb1.size, ((hT.below hb1).below (hb.mono hb1.size)).2⟩ : Tab W1.heap.size W)))
  have d0 : decide ((4000 : Int) < (a.size : Int) + (b.size : Int)) = false := decide_eq_false (by omega)
  have hca := fun W => run_bytes_of_string (P := Tryz.prog) W 9 22 5 a Tryz.underlying9 Tryz.underlying22 Tryz.underlying5
  have hcb := fun W => run_bytes_of_string (P := Tryz.prog) W 9 22 5 b Tryz.underlying9 Tryz.underlying22 Tryz.underlying5
  have g1 : ¬ t < 0 := by omega
  have g2 : ¬ 1099511627776 < t := by omega
  have H0 := Lib.hid h0
  have H1 := Lib.hid h1
  have hse : (a.toList == a.toList) = true := str_eq rfl
  obtain ⟨E, hE⟩ : ∃ E : Int, (if a.data.toList = b.data.toList then 0 else 90) = E := ⟨_, rfl⟩
  have hcase : ((a.toList == b.toList) = true ∧ E = 0) ∨ ((a.toList == b.toList) = false ∧ E = 90) := by
    by_cases hab : a = b
    · exact .inl ⟨str_eq hab, by rw [← hE, if_pos (by rw [hab])]⟩
    · exact .inr ⟨str_ne hab, by rw [← hE, if_neg (fun e => hab (by rw [← txt_data a, ← txt_data b, e]))]⟩
  have HE := Lib.hid hE
  have HLK := Lib.hid (show ∀ A c, (lkI ([] ++ [⟨t, a.data.toList, false, true, A, c⟩]) t).map (·.b) = some a.data.toList from fun A c => by unfold lkI; simp)
  have HFL := Lib.hid (show ∀ A c k, (fr (listL pairL ((([] ++ [⟨t, a.data.toList, false, true, A, c⟩] : List Mr).take k).map prOf))).length ≤ 4054 from fun A c k => by
    have hs := size_eq a
    exact fold_len (m := 4000) (fun r hr => by rw [List.nil_append] at hr; obtain rfl := List.mem_singleton.1 hr; show a.data.toList.length ≤ 4000; omega) (by decide) (by simp) k)
  have HSA := Lib.hid (show a.size ≤ 4000 from by omega)
  clear hT h0 h1 hE
  rcases hcase with ⟨heq, rfl⟩ | ⟨heq, rfl⟩
  all_goals cases fold
  case' inl.false => have HNF := Lib.hid True.intro
  case' inr.false => have HNF := Lib.hid True.intro
  all_goals go_enter Tryz.func4, Tryz.ntmps4
  all_goals go_wp2_with (first
    | (go_at_call 7; refine HA.out.mono ?_; rintro e w1 ⟨rfl, h1⟩; have HB1 := Lib.hid h1; clear h1)
    | (go_at_call 8; go_loud (refine (new_any (Kp := fun _ => False) 1048576 rfl w1 (fun _ h => h.elim)).mono ?_; rintro e w2 ⟨f, rfl, h1, h2⟩; have HR2 := Lib.hid h1; have HB2 := Lib.hid h2; clear h1 h2))
    | (go_at_call 9; go_loud (refine (open_fresh (dir := nd) HR2.out (WfK.new (room := 1048576) rfl) gl_new nd_right (by simp [newFs]) (by simp [newFs]) (by decide) HB2.out.size).mono ?_; rintro e w3 ⟨l, s2, rfl, hm, ht, _, _⟩; have HM3 := Lib.hid hm; have HB3 := Lib.hid (HB2.out.trans ht.below); clear hm ht))
    | (go_at_call 12; have HSEC := HM6; go_loud (refine (old_str HM6.out t H0.out H1.out HLK5.out a 0 (if_pos rfl) _ _ _).mono ?_; rintro e w7 ⟨rfl, hb⟩; have HM7 := Lib.hid (HM6.out.quiet hb); have HB7 := Lib.hid (HB6.out.trans (hb.mono HB6.out.size)); clear hb))
    | (go_at_call 12; have HSEC := HM5; go_loud (refine (old_str HM5.out t H0.out H1.out HLK5.out b _ HE.out _ _ _).mono ?_; rintro e w6 ⟨rfl, hb⟩; have HM6 := Lib.hid (HM5.out.quiet hb); have HB6 := Lib.hid (HB5.out.trans (hb.mono HB5.out.size)); clear hb))
    | (go_at_call 12; go_loud (refine (put_str HM3.out HB3.out.size (HTAB.out _ _ HB1.out HB3.out) (by decide) (by decide) t H0.out H1.out (fun r hr => by simp at hr) (by simp) a HSA.out (by decide) _ _ _).mono ?_; rintro e w4 ⟨rfl, A0, c0, s4, hm, ht⟩; have HM4 := Lib.hid hm; have HB4 := Lib.hid (HB3.out.trans ht.below); clear hm ht; try (have hnf := HNF; have HM5 := HM4; have HB5 := HB4; have HLK5 := Lib.hid (HLK.out A0 c0); clear hnf)))
    | (go_at_call 11; go_loud (refine (fold_lm HM4.out HB4.out.size (HTAB.out _ _ HB1.out HB4.out) (by simp) (by decide) t 4054 (HFL.out A0 c0) (by decide) (by decide)).mono ?_; rintro e w5 ⟨E, rfl, _, hE, rs5, fs5, s5, hs, hm, ht, _⟩; obtain rfl := hE ⟨_, List.mem_singleton.2 rfl, Int.le_refl t⟩; have HM5 := Lib.hid hm; have HLK5 := Lib.hid (show (lkI rs5 t).map (·.b) = some a.data.toList from (same_lk hs t).trans (HLK.out A0 c0)); have HB5 := Lib.hid (HB4.out.trans ht.below); clear hm ht hs hE))
    | (go_at_call 16; have HSEC := HM7; go_loud (refine (steps_lm HM7.out).mono ?_; rintro e w8 ⟨rfl, rfl⟩))
    | (go_at_call 16; go_loud (refine (steps_lm HM5.out).mono ?_; rintro e w8 ⟨rfl, rfl⟩))
    | (go_at_call 17; go_loud (refine (get_lm HM7.out t HLK5.out).mono ?_; rintro e w9 ⟨A, n, c, rfl, h1, h2⟩; have HB9 := Lib.hid (HB7.out.trans (h2.mono HB7.out.size)); have hcv : (convert 22 9 (.slice A n c)).run Tryz.prog w9 = .ok (.string a) w9 := (by rw [← txt_data a]; exact string_of_buf h1); clear h1 h2)))
  all_goals go_ret
  all_goals exact ⟨rfl, HB1.out.trans (HB9.out.mono HB1.out.size)⟩
theorem once_ml (t : Int) (a b : ByteArray) (ha : a.size ≤ 140737488351232) (hb : b.size ≤ 140737488351232) (fold : Bool) (w : World) (hT : Tab w.heap.size w) :
    Calls Tryz.prog 4 #[.int .i64 t, .string a, .string b, .bool fold] w fun e w' => e = .returned (.bool true) ∧ Below w.heap.size w w' := by
  by_cases hbig : 4000 < a.size + b.size
  · exact once_big t a b ha hb hbig fold w hT
  · by_cases ht : 0 ≤ t ∧ t ≤ 1099511627776
    · exact once_ok t ht.1 ht.2 a b (by omega) fold w hT
    · exact once_arg t ht a b (by omega) fold w hT
end Go.Proofs.YtnkhgajghfonhaaGreatDoor
