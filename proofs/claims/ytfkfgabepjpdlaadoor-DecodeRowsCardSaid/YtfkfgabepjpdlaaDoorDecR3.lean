/- Layer 12, walked: what a field says, by the document. -/
import Derived.Test.YtfkfgabepjpdlaaDoorDecR2
namespace Go.Proofs.YtfkfgabepjpdlaaDoor
open Go.ChangeShapes Go.WideShapes Go.ChangeAt Go.RowKit
set_option linter.unusedVariables false

theorem nul_iff {s : ByteArray} (h2 : s.size = 2) : s.data.toList = nul ↔ s[0]'(by omega) = 92 ∧ s[1]'(by omega) = 78 := by
  have hl : s.data.toList.length = 2 := by rw [← size_eq]; exact h2
  have e0 := list_at (s := s) (k := 0) (by omega)
  have e1 := list_at (s := s) (k := 1) (by omega)
  rw [← e0, ← e1]
  have gen : ∀ (l : List UInt8) (hl : l.length = 2), l = nul ↔ l[0]'(by omega) = 92 ∧ l[1]'(by omega) = 78 := by
    intro l hl
    match l, hl with
    | [a, b], _ => simp [nul]
  exact gen _ hl
theorem beq78 {c : UInt8} (h : c ≠ 78) : ((c.toNat : Int) == 78) = false := by
  rw [beq_eq_false_iff_ne]; intro e; apply h; apply UInt8.toNat_inj.1
  have : (78 : UInt8).toNat = 78 := rfl
  omega
/-- What is left to be read by the document's flag. -/
def Ut (l : List UInt8) (k : Nat) (t : Bool) (done : List UInt8) : Prop :=
  if t = true then unesc l = (unesc (92 :: l.drop k)).map (done ++ ·) else Un l k done
theorem Ut.start (l : List UInt8) : Ut l 0 false [] := Un.start l
theorem Ut.back {l : List UInt8} {k : Nat} {done : List UInt8} (h : Ut l k false done) (hk : k < l.length) (hc : l[k] = 92) : Ut l (k + 1) true done := by
  have h' : Un l k done := h
  unfold Un at h'
  show unesc l = _
  rw [h', List.drop_eq_getElem_cons hk, hc]
theorem Ut.go {l : List UInt8} {k : Nat} {done : List UInt8} (h : Ut l k false done) (hk : k < l.length) (hc : l[k] ≠ 92) : Ut l (k + 1) false (done ++ [l[k]]) := Un.go h hk hc
theorem Ut.pair {l : List UInt8} {k : Nat} {done : List UInt8} (h : Ut l k true done) (hk : k < l.length) (hd : l[k] = 44 ∨ l[k] = 92) : Ut l (k + 1) false (done ++ [l[k]]) := by
  have h' : unesc l = (unesc (92 :: l.drop k)).map (done ++ ·) := h
  show Un _ _ _
  unfold Un
  rw [h', List.drop_eq_getElem_cons hk, unesc_pair _ _ hd, Option.map_map]
  congr 1
  funext x
  simp
theorem Ut.bad {l : List UInt8} {k : Nat} {done : List UInt8} (h : Ut l k true done) (hk : k < l.length) (hd : ¬ (l[k] = 44 ∨ l[k] = 92)) : textO l = none := by
  have h' : unesc l = (unesc (92 :: l.drop k)).map (done ++ ·) := h
  rw [List.drop_eq_getElem_cons hk, unesc_bad _ _ hd] at h'
  unfold textO textV
  rw [h']; rfl
theorem Ut.last {l : List UInt8} {k : Nat} {done : List UInt8} (h : Ut l k true done) (hk : l.length ≤ k) : textO l = none := by
  have h' : unesc l = (unesc (92 :: l.drop k)).map (done ++ ·) := h
  rw [List.drop_of_length_le hk, unesc_last] at h'
  unfold textO textV
  rw [h']; rfl
theorem Ut.end_ {l : List UInt8} {k : Nat} {done : List UInt8} (h : Ut l k false done) (hk : l.length ≤ k) : unesc l = some done := Un.end_ h hk
set_option maxHeartbeats 4000000 in
set_option maxRecDepth 20000 in
theorem rsays_any (s : ByteArray) (hs : s.size ≤ 68719476736) (k : Int) (hk : k = 1 ∨ k = 2 ∨ k = 3) (w : World) :
    Calls Tryd.prog 29 #[.int .i64 k, .string s] w (SayPost (saysV k s.data.toList) w) := by
  have HBX := Lib.hid (box_zero w)
  have HB0 := Lib.hid (show Below w.heap.size w (w.alloc (.cells #[.int .i64 0, .int .i64 0, .string ⟨#[]⟩] 53)) from (Below.refl _ _).alloc (Nat.le_refl _) _)
  have HSZ := Lib.hid (size_eq s)
  by_cases hn : s.data.toList = nul
  · have hsz : s.size = 2 := by rw [size_eq, hn]; rfl
    obtain ⟨x0, x1⟩ := (nul_iff hsz).1 hn
    have q0 : ((s.size : Int) == 2) = true := by rw [hsz]; rfl
    have h0 : 0 < s.size := by omega
    have h1 : 1 < s.size := by omega
    have HX := Lib.hid (show saysV k s.data.toList = some ⟨0, 0, ⟨#[]⟩⟩ by rw [hn]; exact saysV_nul k)
    clear hn
    go_enter Tryd.func29, Tryd.ntmps29
    go_wp2
    have c0 := HBX.out.c0
    have c1 := HBX.out.c1
    have c2 := HBX.out.c2
    unfold zV at c0 c1 c2
    exact bodyPost_ret (by simp [results, Tryd.results29, go_sem, c0, c1, c2]) rfl (say_yes HX.out HB0.out)
  · have HNU := Lib.hid hn
    have hnn : ((s.size : Int) == 2) = false ∨ (((s.size : Int) == 2) = true ∧ ∃ (h0 : 0 < s.size) (h1 : 1 < s.size), ((s[0].toNat : Int) == 92) = false ∨ (((s[0].toNat : Int) == 92) = true ∧ ((s[1].toNat : Int) == 78) = false)) := by
      by_cases h2 : s.size = 2
      · right
        refine ⟨by rw [h2]; rfl, by omega, by omega, ?_⟩
        by_cases h92 : s[0]'(by omega) = 92
        · right
          refine ⟨by rw [h92]; rfl, beq78 fun h78 => hn ((nul_iff h2).2 ⟨h92, h78⟩)⟩
        · left; exact beq92 h92
      · left; rw [beq_eq_false_iff_ne]; omega
    clear hn
    rcases hk with rfl | rfl | rfl
    · have HN := Lib.hid (rnumber_any s hs)
      have HX := Lib.hid (saysV_int HNU.out)
      rcases hnn with p0 | ⟨p0, h0, h1, p1 | ⟨p1, p2⟩⟩
      all_goals
        go_enter Tryd.func29, Tryd.ntmps29
        go_wp2_with (go_at_call 42; refine (HN.out _).mono ?_; rintro e w1 ⟨n, ok, rfl, hy, hno, rfl⟩; have HY := Lib.hid hy; have HNO := Lib.hid hno; clear hy hno)
        have HBN := Lib.hid (Box3.new w ⟨1, n, ⟨#[]⟩⟩)
        have c0 := HBN.out.c0
        have c1 := HBN.out.c1
        have c2 := HBN.out.c2
        refine bodyPost_ret (v := .tuple #[.agg #[.int .i64 1, .int .i64 n, .string ⟨#[]⟩], .bool ok]) (by simp [results, Tryd.results29, go_sem, c0, c1, c2]) rfl ⟨⟨1, n, ⟨#[]⟩⟩, ok, rfl, ?_, ?_, (Below.refl _ _).alloc (Nat.le_refl _) _⟩
        · intro h; rw [HX.out, HY.out h]; rfl
        · intro h; rw [HX.out, HNO.out h]; rfl
    · by_cases ht : s.data.toList = tru
      · have q2 : (s.toList == [116, 114, 117, 101]) = true := lit_eq ht
        have HX := Lib.hid (show saysV 2 s.data.toList = some ⟨2, 1, ⟨#[]⟩⟩ by rw [saysV_bool HNU.out, if_pos ht]; rfl)
        clear ht
        have HBN := Lib.hid (Box3.new w ⟨2, 1, ⟨#[]⟩⟩)
        rcases hnn with p0 | ⟨p0, h0, h1, p1 | ⟨p1, p2⟩⟩
        all_goals
          go_enter Tryd.func29, Tryd.ntmps29
          go_wp2
          have c0 := HBN.out.c0
          have c1 := HBN.out.c1
          have c2 := HBN.out.c2
          exact bodyPost_ret (by simp [results, Tryd.results29, go_sem, c0, c1, c2]) rfl (say_yes HX.out ((Below.refl _ _).alloc (Nat.le_refl _) _))
      · have q2 : (s.toList == [116, 114, 117, 101]) = false := lit_ne ht
        have HBN := Lib.hid (Box3.new w ⟨2, 0, ⟨#[]⟩⟩)
        by_cases hf : s.data.toList = fls
        · have q3 : (s.toList == [102, 97, 108, 115, 101]) = true := lit_eq hf
          have HX := Lib.hid (show saysV 2 s.data.toList = some ⟨2, 0, ⟨#[]⟩⟩ by rw [saysV_bool HNU.out, if_neg ht, if_pos hf]; rfl)
          clear ht hf
          rcases hnn with p0 | ⟨p0, h0, h1, p1 | ⟨p1, p2⟩⟩
          all_goals
            go_enter Tryd.func29, Tryd.ntmps29
            go_wp2
            have c0 := HBN.out.c0
            have c1 := HBN.out.c1
            have c2 := HBN.out.c2
            exact bodyPost_ret (by simp [results, Tryd.results29, go_sem, c0, c1, c2]) rfl (say_yes HX.out ((Below.refl _ _).alloc (Nat.le_refl _) _))
        · have q3 : (s.toList == [102, 97, 108, 115, 101]) = false := lit_ne hf
          have HX := Lib.hid (show saysV 2 s.data.toList = none by rw [saysV_bool HNU.out, if_neg ht, if_neg hf])
          clear ht hf
          rcases hnn with p0 | ⟨p0, h0, h1, p1 | ⟨p1, p2⟩⟩
          all_goals
            go_enter Tryd.func29, Tryd.ntmps29
            go_wp2
            have c0 := HBN.out.c0
            have c1 := HBN.out.c1
            have c2 := HBN.out.c2
            exact bodyPost_ret (by simp [results, Tryd.results29, go_sem, c0, c1, c2]) rfl (say_no ⟨2, 0, ⟨#[]⟩⟩ HX.out ((Below.refl _ _).alloc (Nat.le_refl _) _))
    · have HX := Lib.hid (show saysV 3 s.data.toList = textO s.data.toList from saysV_text HNU.out)
      rw [HX.out]
      obtain ⟨l, hl⟩ : ∃ l, s.data.toList = l := ⟨_, rfl⟩
      have HLS := Lib.hid hl
      rw [hl] at HSZ ⊢
      have HT0 := Lib.hid (show TxS w (some ⟨w.heap.size + 1, 0, none⟩) 0 0 [] ((w.alloc (.cells #[.int .i64 0, .int .i64 0, .string ⟨#[]⟩] 53)).alloc (.cells #[] 5)) from
        ⟨((Below.refl _ _).alloc (Nat.le_refl _) _).alloc (by simp) _, by simp, (Below.heap_alloc _ _ _ (by simp)).trans HBX.out, ⟨rfl, by simp, by
          have := World.ownsRow_made (base := w.heap.size + 1) (e := 5) (size := 1) (w.alloc (.cells #[.int .i64 0, .int .i64 0, .string ⟨#[]⟩] 53)) #[] 0 (by simp) (by decide) rfl
          simpa [Lib.byteCells] using this⟩⟩)
      clear hl HX
      rcases hnn with p0 | ⟨p0, h0, h1, p1 | ⟨p1, p2⟩⟩
      · skip
        go_enter Tryd.func29, Tryd.ntmps29
        go_wp2
        go_loopw [8, 9, 10] (fun lv tv iv wr => ∃ A n c done k t, lv = .slice A n c ∧ tv = .bool t ∧ iv = .int .i64 ((k : Nat) : Int) ∧ k ≤ s.size ∧ Hid (done.length ≤ k) ∧ Hid (TxS w A n c done wr) ∧ Hid (Ut l k t done)) (fun _ _ iv _ => s.size - (intOf iv).toNat)
        case atStart => exact ⟨_, _, _, [], 0, false, rfl, rfl, rfl, Nat.zero_le _, Lib.hid (Nat.zero_le _), HT0, Lib.hid (Ut.start l)⟩
        case round =>
          obtain ⟨A, n, c, done, k, t, rfl, rfl, rfl, hk, HFL, HT, HU⟩ := hrel
          by_cases hlt : k < s.size
          · have hkl : k < l.length := by rw [← HSZ.out]; exact hlt
            obtain ⟨d, hd⟩ : ∃ d, s[k] = d := ⟨_, rfl⟩
            have HD := Lib.hid (show l[k] = d by rw [← hd, ← list_at hlt]; simp only [HLS.out])
            cases t
            · by_cases h92 : d = 92
              · have r1 : ((d.toNat : Int) == 92) = true := by rw [h92]; rfl
                have HU2 := Lib.hid (HU.out.back hkl (by rw [HD.out]; exact h92))
                have HFL2 := Lib.hid (show done.length ≤ k + 1 by have := HFL.out; omega)
                clear h92
                go_wp2
                go_roundw
                case rel => exact ⟨_, _, _, done, k + 1, true, rfl, rfl, by go_num, by omega, HFL2, HT, HU2⟩
                case measure => simp [intOf]; omega
              · have r1 : ((d.toNat : Int) == 92) = false := beq92 h92
                have HU2 := Lib.hid (show Ut l (k + 1) false (done ++ [d]) by rw [← HD.out]; exact HU.out.go hkl (by rw [HD.out]; exact h92))
                clear h92
                have HND := Lib.hid (show (done ++ [d]).length ≤ k + 1 by simp; have := HFL.out; omega)
                go_wp2_with (at_builtin; go_loud (refine append_bytes rfl _ _ rfl (w.heap.size + 1) A n c done rfl _ [d] 1 HT.out.buf _ rfl (by simp) rfl [.int .u8 (d.toNat : Int)] rfl (by simp; have := HFL.out; omega) ?_); intro A2 n2 c2 w2 hn2 hb2 hk2; have HT2 := Lib.hid (HT.out.more hk2.below hb2); clear hb2 hk2; subst hn2)
                go_roundw
                case rel => exact ⟨_, _, _, done ++ [d], k + 1, false, rfl, rfl, by go_num, by omega, HND, HT2, HU2⟩
                case measure => simp [intOf]; omega
            · by_cases h44 : d = 44
              · have r1 : ((d.toNat : Int) != 44) = false := by rw [h44]; rfl
                have HU2 := Lib.hid (show Ut l (k + 1) false (done ++ [d]) by rw [← HD.out]; exact HU.out.pair hkl (.inl (by rw [HD.out]; exact h44)))
                clear h44
                have HND := Lib.hid (show (done ++ [d]).length ≤ k + 1 by simp; have := HFL.out; omega)
                go_wp2_with (at_builtin; go_loud (refine append_bytes rfl _ _ rfl (w.heap.size + 1) A n c done rfl _ [d] 1 HT.out.buf _ rfl (by simp) rfl [.int .u8 (d.toNat : Int)] rfl (by simp; have := HFL.out; omega) ?_); intro A2 n2 c2 w2 hn2 hb2 hk2; have HT2 := Lib.hid (HT.out.more hk2.below hb2); clear hb2 hk2; subst hn2)
                go_roundw
                case rel => exact ⟨_, _, _, done ++ [d], k + 1, false, rfl, rfl, by go_num, by omega, HND, HT2, HU2⟩
                case measure => simp [intOf]; omega
              · have r1 : ((d.toNat : Int) != 44) = true := bne44 h44
                by_cases h92 : d = 92
                · have r2 : ((d.toNat : Int) != 92) = false := by rw [h92]; rfl
                  have HU2 := Lib.hid (show Ut l (k + 1) false (done ++ [d]) by rw [← HD.out]; exact HU.out.pair hkl (.inr (by rw [HD.out]; exact h92)))
                  clear h44 h92
                  have HND := Lib.hid (show (done ++ [d]).length ≤ k + 1 by simp; have := HFL.out; omega)
                  go_wp2_with (at_builtin; go_loud (refine append_bytes rfl _ _ rfl (w.heap.size + 1) A n c done rfl _ [d] 1 HT.out.buf _ rfl (by simp) rfl [.int .u8 (d.toNat : Int)] rfl (by simp; have := HFL.out; omega) ?_); intro A2 n2 c2 w2 hn2 hb2 hk2; have HT2 := Lib.hid (HT.out.more hk2.below hb2); clear hb2 hk2; subst hn2)
                  go_roundw
                  case rel => exact ⟨_, _, _, done ++ [d], k + 1, false, rfl, rfl, by go_num, by omega, HND, HT2, HU2⟩
                  case measure => simp [intOf]; omega
                · have r2 : ((d.toNat : Int) != 92) = true := bne92 h92
                  have HBAD := Lib.hid (HU.out.bad hkl (by rw [HD.out]; rintro (h | h) <;> contradiction))
                  clear h44 h92
                  have HB3 := Lib.hid (HT.out.box.set zV)
                  have HBL := Lib.hid (below_set3 HT.out.below (Nat.le_refl _) zV)
                  have c0 := HT.out.box.c0
                  have c1 := HT.out.box.c1
                  have c2 := HT.out.box.c2
                  have f0 := HT.out.box.free 0
                  have f1 := HT.out.box.free 1
                  have f2 := HT.out.box.free 2
                  have hlt2 : w.heap.size < wr.heap.size := by have := HT.out.size; omega
                  go_wp2
                  clear c0 c1 c2
                  have c0 := HB3.out.c0
                  have c1 := HB3.out.c1
                  have c2 := HB3.out.c2
                  unfold zV at c0 c1 c2
                  exact bodyPost_ret (by simp [results, Tryd.results29, go_sem, c0, c1, c2]) rfl (say_no ⟨0, 0, ⟨#[]⟩⟩ HBAD.out HBL.out)
          · cases t
            · have HE := Lib.hid (HU.out.end_ (by rw [← HSZ.out]; omega))
              have hnl : n = done.length := HT.out.buf.1
              by_cases h200 : n ≤ 200
              · have r3 : decide ((n : Int) ≤ 200) = true := decide_eq_true (by omega)
                have HXX := Lib.hid (textO_some HE.out (by rw [← hnl]; exact h200))
                clear hnl
                have HB3 := Lib.hid (HT.out.box.set ⟨3, 0, txt done⟩)
                have HBL := Lib.hid (below_set3 HT.out.below (Nat.le_refl _) ⟨3, 0, txt done⟩)
                have hcv := string_of_buf HT.out.buf
                have c0 := HT.out.box.c0
                have c1 := HT.out.box.c1
                have c2 := HT.out.box.c2
                have f0 := HT.out.box.free 0
                have f1 := HT.out.box.free 1
                have f2 := HT.out.box.free 2
                have hlt2 : w.heap.size < wr.heap.size := by have := HT.out.size; omega
                go_wp2
                clear c0 c1 c2
                have c0 := HB3.out.c0
                have c1 := HB3.out.c1
                have c2 := HB3.out.c2
                exact bodyPost_ret (by simp [results, Tryd.results29, go_sem, c0, c1, c2]) rfl (say_yes HXX.out HBL.out)
              · have r3 : decide ((n : Int) ≤ 200) = false := decide_eq_false (by omega)
                have HXX := Lib.hid (textO_long HE.out (by rw [← hnl]; exact h200))
                clear hnl
                have HB3 := Lib.hid (HT.out.box.set ⟨3, 0, txt done⟩)
                have HBL := Lib.hid (below_set3 HT.out.below (Nat.le_refl _) ⟨3, 0, txt done⟩)
                have hcv := string_of_buf HT.out.buf
                have c0 := HT.out.box.c0
                have c1 := HT.out.box.c1
                have c2 := HT.out.box.c2
                have f0 := HT.out.box.free 0
                have f1 := HT.out.box.free 1
                have f2 := HT.out.box.free 2
                have hlt2 : w.heap.size < wr.heap.size := by have := HT.out.size; omega
                go_wp2
                clear c0 c1 c2
                have c0 := HB3.out.c0
                have c1 := HB3.out.c1
                have c2 := HB3.out.c2
                exact bodyPost_ret (by simp [results, Tryd.results29, go_sem, c0, c1, c2]) rfl (say_no ⟨3, 0, txt done⟩ HXX.out HBL.out)
            · have HXX := Lib.hid (HU.out.last (by rw [← HSZ.out]; omega))
              have HB3 := Lib.hid (HT.out.box.set ⟨3, 0, txt done⟩)
              have HBL := Lib.hid (below_set3 HT.out.below (Nat.le_refl _) ⟨3, 0, txt done⟩)
              have hcv := string_of_buf HT.out.buf
              have c0 := HT.out.box.c0
              have c1 := HT.out.box.c1
              have c2 := HT.out.box.c2
              have f0 := HT.out.box.free 0
              have f1 := HT.out.box.free 1
              have f2 := HT.out.box.free 2
              have hlt2 : w.heap.size < wr.heap.size := by have := HT.out.size; omega
              go_wp2
              clear c0 c1 c2
              have c0 := HB3.out.c0
              have c1 := HB3.out.c1
              have c2 := HB3.out.c2
              exact bodyPost_ret (by simp [results, Tryd.results29, go_sem, c0, c1, c2]) rfl (say_no ⟨3, 0, txt done⟩ HXX.out HBL.out)
      · skip
        go_enter Tryd.func29, Tryd.ntmps29
        go_wp2
        go_loopw [8, 9, 10] (fun lv tv iv wr => ∃ A n c done k t, lv = .slice A n c ∧ tv = .bool t ∧ iv = .int .i64 ((k : Nat) : Int) ∧ k ≤ s.size ∧ Hid (done.length ≤ k) ∧ Hid (TxS w A n c done wr) ∧ Hid (Ut l k t done)) (fun _ _ iv _ => s.size - (intOf iv).toNat)
        case atStart => exact ⟨_, _, _, [], 0, false, rfl, rfl, rfl, Nat.zero_le _, Lib.hid (Nat.zero_le _), HT0, Lib.hid (Ut.start l)⟩
        case round =>
          obtain ⟨A, n, c, done, k, t, rfl, rfl, rfl, hk, HFL, HT, HU⟩ := hrel
          by_cases hlt : k < s.size
          · have hkl : k < l.length := by rw [← HSZ.out]; exact hlt
            obtain ⟨d, hd⟩ : ∃ d, s[k] = d := ⟨_, rfl⟩
            have HD := Lib.hid (show l[k] = d by rw [← hd, ← list_at hlt]; simp only [HLS.out])
            cases t
            · by_cases h92 : d = 92
              · have r1 : ((d.toNat : Int) == 92) = true := by rw [h92]; rfl
                have HU2 := Lib.hid (HU.out.back hkl (by rw [HD.out]; exact h92))
                have HFL2 := Lib.hid (show done.length ≤ k + 1 by have := HFL.out; omega)
                clear h92
                go_wp2
                go_roundw
                case rel => exact ⟨_, _, _, done, k + 1, true, rfl, rfl, by go_num, by omega, HFL2, HT, HU2⟩
                case measure => simp [intOf]; omega
              · have r1 : ((d.toNat : Int) == 92) = false := beq92 h92
                have HU2 := Lib.hid (show Ut l (k + 1) false (done ++ [d]) by rw [← HD.out]; exact HU.out.go hkl (by rw [HD.out]; exact h92))
                clear h92
                have HND := Lib.hid (show (done ++ [d]).length ≤ k + 1 by simp; have := HFL.out; omega)
                go_wp2_with (at_builtin; go_loud (refine append_bytes rfl _ _ rfl (w.heap.size + 1) A n c done rfl _ [d] 1 HT.out.buf _ rfl (by simp) rfl [.int .u8 (d.toNat : Int)] rfl (by simp; have := HFL.out; omega) ?_); intro A2 n2 c2 w2 hn2 hb2 hk2; have HT2 := Lib.hid (HT.out.more hk2.below hb2); clear hb2 hk2; subst hn2)
                go_roundw
                case rel => exact ⟨_, _, _, done ++ [d], k + 1, false, rfl, rfl, by go_num, by omega, HND, HT2, HU2⟩
                case measure => simp [intOf]; omega
            · by_cases h44 : d = 44
              · have r1 : ((d.toNat : Int) != 44) = false := by rw [h44]; rfl
                have HU2 := Lib.hid (show Ut l (k + 1) false (done ++ [d]) by rw [← HD.out]; exact HU.out.pair hkl (.inl (by rw [HD.out]; exact h44)))
                clear h44
                have HND := Lib.hid (show (done ++ [d]).length ≤ k + 1 by simp; have := HFL.out; omega)
                go_wp2_with (at_builtin; go_loud (refine append_bytes rfl _ _ rfl (w.heap.size + 1) A n c done rfl _ [d] 1 HT.out.buf _ rfl (by simp) rfl [.int .u8 (d.toNat : Int)] rfl (by simp; have := HFL.out; omega) ?_); intro A2 n2 c2 w2 hn2 hb2 hk2; have HT2 := Lib.hid (HT.out.more hk2.below hb2); clear hb2 hk2; subst hn2)
                go_roundw
                case rel => exact ⟨_, _, _, done ++ [d], k + 1, false, rfl, rfl, by go_num, by omega, HND, HT2, HU2⟩
                case measure => simp [intOf]; omega
              · have r1 : ((d.toNat : Int) != 44) = true := bne44 h44
                by_cases h92 : d = 92
                · have r2 : ((d.toNat : Int) != 92) = false := by rw [h92]; rfl
                  have HU2 := Lib.hid (show Ut l (k + 1) false (done ++ [d]) by rw [← HD.out]; exact HU.out.pair hkl (.inr (by rw [HD.out]; exact h92)))
                  clear h44 h92
                  have HND := Lib.hid (show (done ++ [d]).length ≤ k + 1 by simp; have := HFL.out; omega)
                  go_wp2_with (at_builtin; go_loud (refine append_bytes rfl _ _ rfl (w.heap.size + 1) A n c done rfl _ [d] 1 HT.out.buf _ rfl (by simp) rfl [.int .u8 (d.toNat : Int)] rfl (by simp; have := HFL.out; omega) ?_); intro A2 n2 c2 w2 hn2 hb2 hk2; have HT2 := Lib.hid (HT.out.more hk2.below hb2); clear hb2 hk2; subst hn2)
                  go_roundw
                  case rel => exact ⟨_, _, _, done ++ [d], k + 1, false, rfl, rfl, by go_num, by omega, HND, HT2, HU2⟩
                  case measure => simp [intOf]; omega
                · have r2 : ((d.toNat : Int) != 92) = true := bne92 h92
                  have HBAD := Lib.hid (HU.out.bad hkl (by rw [HD.out]; rintro (h | h) <;> contradiction))
                  clear h44 h92
                  have HB3 := Lib.hid (HT.out.box.set zV)
                  have HBL := Lib.hid (below_set3 HT.out.below (Nat.le_refl _) zV)
                  have c0 := HT.out.box.c0
                  have c1 := HT.out.box.c1
                  have c2 := HT.out.box.c2
                  have f0 := HT.out.box.free 0
                  have f1 := HT.out.box.free 1
                  have f2 := HT.out.box.free 2
                  have hlt2 : w.heap.size < wr.heap.size := by have := HT.out.size; omega
                  go_wp2
                  clear c0 c1 c2
                  have c0 := HB3.out.c0
                  have c1 := HB3.out.c1
                  have c2 := HB3.out.c2
                  unfold zV at c0 c1 c2
                  exact bodyPost_ret (by simp [results, Tryd.results29, go_sem, c0, c1, c2]) rfl (say_no ⟨0, 0, ⟨#[]⟩⟩ HBAD.out HBL.out)
          · cases t
            · have HE := Lib.hid (HU.out.end_ (by rw [← HSZ.out]; omega))
              have hnl : n = done.length := HT.out.buf.1
              by_cases h200 : n ≤ 200
              · have r3 : decide ((n : Int) ≤ 200) = true := decide_eq_true (by omega)
                have HXX := Lib.hid (textO_some HE.out (by rw [← hnl]; exact h200))
                clear hnl
                have HB3 := Lib.hid (HT.out.box.set ⟨3, 0, txt done⟩)
                have HBL := Lib.hid (below_set3 HT.out.below (Nat.le_refl _) ⟨3, 0, txt done⟩)
                have hcv := string_of_buf HT.out.buf
                have c0 := HT.out.box.c0
                have c1 := HT.out.box.c1
                have c2 := HT.out.box.c2
                have f0 := HT.out.box.free 0
                have f1 := HT.out.box.free 1
                have f2 := HT.out.box.free 2
                have hlt2 : w.heap.size < wr.heap.size := by have := HT.out.size; omega
                go_wp2
                clear c0 c1 c2
                have c0 := HB3.out.c0
                have c1 := HB3.out.c1
                have c2 := HB3.out.c2
                exact bodyPost_ret (by simp [results, Tryd.results29, go_sem, c0, c1, c2]) rfl (say_yes HXX.out HBL.out)
              · have r3 : decide ((n : Int) ≤ 200) = false := decide_eq_false (by omega)
                have HXX := Lib.hid (textO_long HE.out (by rw [← hnl]; exact h200))
                clear hnl
                have HB3 := Lib.hid (HT.out.box.set ⟨3, 0, txt done⟩)
                have HBL := Lib.hid (below_set3 HT.out.below (Nat.le_refl _) ⟨3, 0, txt done⟩)
                have hcv := string_of_buf HT.out.buf
                have c0 := HT.out.box.c0
                have c1 := HT.out.box.c1
                have c2 := HT.out.box.c2
                have f0 := HT.out.box.free 0
                have f1 := HT.out.box.free 1
                have f2 := HT.out.box.free 2
                have hlt2 : w.heap.size < wr.heap.size := by have := HT.out.size; omega
                go_wp2
                clear c0 c1 c2
                have c0 := HB3.out.c0
                have c1 := HB3.out.c1
                have c2 := HB3.out.c2
                exact bodyPost_ret (by simp [results, Tryd.results29, go_sem, c0, c1, c2]) rfl (say_no ⟨3, 0, txt done⟩ HXX.out HBL.out)
            · have HXX := Lib.hid (HU.out.last (by rw [← HSZ.out]; omega))
              have HB3 := Lib.hid (HT.out.box.set ⟨3, 0, txt done⟩)
              have HBL := Lib.hid (below_set3 HT.out.below (Nat.le_refl _) ⟨3, 0, txt done⟩)
              have hcv := string_of_buf HT.out.buf
              have c0 := HT.out.box.c0
              have c1 := HT.out.box.c1
              have c2 := HT.out.box.c2
              have f0 := HT.out.box.free 0
              have f1 := HT.out.box.free 1
              have f2 := HT.out.box.free 2
              have hlt2 : w.heap.size < wr.heap.size := by have := HT.out.size; omega
              go_wp2
              clear c0 c1 c2
              have c0 := HB3.out.c0
              have c1 := HB3.out.c1
              have c2 := HB3.out.c2
              exact bodyPost_ret (by simp [results, Tryd.results29, go_sem, c0, c1, c2]) rfl (say_no ⟨3, 0, txt done⟩ HXX.out HBL.out)
      · skip
        go_enter Tryd.func29, Tryd.ntmps29
        go_wp2
        go_loopw [8, 9, 10] (fun lv tv iv wr => ∃ A n c done k t, lv = .slice A n c ∧ tv = .bool t ∧ iv = .int .i64 ((k : Nat) : Int) ∧ k ≤ s.size ∧ Hid (done.length ≤ k) ∧ Hid (TxS w A n c done wr) ∧ Hid (Ut l k t done)) (fun _ _ iv _ => s.size - (intOf iv).toNat)
        case atStart => exact ⟨_, _, _, [], 0, false, rfl, rfl, rfl, Nat.zero_le _, Lib.hid (Nat.zero_le _), HT0, Lib.hid (Ut.start l)⟩
        case round =>
          obtain ⟨A, n, c, done, k, t, rfl, rfl, rfl, hk, HFL, HT, HU⟩ := hrel
          by_cases hlt : k < s.size
          · have hkl : k < l.length := by rw [← HSZ.out]; exact hlt
            obtain ⟨d, hd⟩ : ∃ d, s[k] = d := ⟨_, rfl⟩
            have HD := Lib.hid (show l[k] = d by rw [← hd, ← list_at hlt]; simp only [HLS.out])
            cases t
            · by_cases h92 : d = 92
              · have r1 : ((d.toNat : Int) == 92) = true := by rw [h92]; rfl
                have HU2 := Lib.hid (HU.out.back hkl (by rw [HD.out]; exact h92))
                have HFL2 := Lib.hid (show done.length ≤ k + 1 by have := HFL.out; omega)
                clear h92
                go_wp2
                go_roundw
                case rel => exact ⟨_, _, _, done, k + 1, true, rfl, rfl, by go_num, by omega, HFL2, HT, HU2⟩
                case measure => simp [intOf]; omega
              · have r1 : ((d.toNat : Int) == 92) = false := beq92 h92
                have HU2 := Lib.hid (show Ut l (k + 1) false (done ++ [d]) by rw [← HD.out]; exact HU.out.go hkl (by rw [HD.out]; exact h92))
                clear h92
                have HND := Lib.hid (show (done ++ [d]).length ≤ k + 1 by simp; have := HFL.out; omega)
                go_wp2_with (at_builtin; go_loud (refine append_bytes rfl _ _ rfl (w.heap.size + 1) A n c done rfl _ [d] 1 HT.out.buf _ rfl (by simp) rfl [.int .u8 (d.toNat : Int)] rfl (by simp; have := HFL.out; omega) ?_); intro A2 n2 c2 w2 hn2 hb2 hk2; have HT2 := Lib.hid (HT.out.more hk2.below hb2); clear hb2 hk2; subst hn2)
                go_roundw
                case rel => exact ⟨_, _, _, done ++ [d], k + 1, false, rfl, rfl, by go_num, by omega, HND, HT2, HU2⟩
                case measure => simp [intOf]; omega
            · by_cases h44 : d = 44
              · have r1 : ((d.toNat : Int) != 44) = false := by rw [h44]; rfl
                have HU2 := Lib.hid (show Ut l (k + 1) false (done ++ [d]) by rw [← HD.out]; exact HU.out.pair hkl (.inl (by rw [HD.out]; exact h44)))
                clear h44
                have HND := Lib.hid (show (done ++ [d]).length ≤ k + 1 by simp; have := HFL.out; omega)
                go_wp2_with (at_builtin; go_loud (refine append_bytes rfl _ _ rfl (w.heap.size + 1) A n c done rfl _ [d] 1 HT.out.buf _ rfl (by simp) rfl [.int .u8 (d.toNat : Int)] rfl (by simp; have := HFL.out; omega) ?_); intro A2 n2 c2 w2 hn2 hb2 hk2; have HT2 := Lib.hid (HT.out.more hk2.below hb2); clear hb2 hk2; subst hn2)
                go_roundw
                case rel => exact ⟨_, _, _, done ++ [d], k + 1, false, rfl, rfl, by go_num, by omega, HND, HT2, HU2⟩
                case measure => simp [intOf]; omega
              · have r1 : ((d.toNat : Int) != 44) = true := bne44 h44
                by_cases h92 : d = 92
                · have r2 : ((d.toNat : Int) != 92) = false := by rw [h92]; rfl
                  have HU2 := Lib.hid (show Ut l (k + 1) false (done ++ [d]) by rw [← HD.out]; exact HU.out.pair hkl (.inr (by rw [HD.out]; exact h92)))
                  clear h44 h92
                  have HND := Lib.hid (show (done ++ [d]).length ≤ k + 1 by simp; have := HFL.out; omega)
                  go_wp2_with (at_builtin; go_loud (refine append_bytes rfl _ _ rfl (w.heap.size + 1) A n c done rfl _ [d] 1 HT.out.buf _ rfl (by simp) rfl [.int .u8 (d.toNat : Int)] rfl (by simp; have := HFL.out; omega) ?_); intro A2 n2 c2 w2 hn2 hb2 hk2; have HT2 := Lib.hid (HT.out.more hk2.below hb2); clear hb2 hk2; subst hn2)
                  go_roundw
                  case rel => exact ⟨_, _, _, done ++ [d], k + 1, false, rfl, rfl, by go_num, by omega, HND, HT2, HU2⟩
                  case measure => simp [intOf]; omega
                · have r2 : ((d.toNat : Int) != 92) = true := bne92 h92
                  have HBAD := Lib.hid (HU.out.bad hkl (by rw [HD.out]; rintro (h | h) <;> contradiction))
                  clear h44 h92
                  have HB3 := Lib.hid (HT.out.box.set zV)
                  have HBL := Lib.hid (below_set3 HT.out.below (Nat.le_refl _) zV)
                  have c0 := HT.out.box.c0
                  have c1 := HT.out.box.c1
                  have c2 := HT.out.box.c2
                  have f0 := HT.out.box.free 0
                  have f1 := HT.out.box.free 1
                  have f2 := HT.out.box.free 2
                  have hlt2 : w.heap.size < wr.heap.size := by have := HT.out.size; omega
                  go_wp2
                  clear c0 c1 c2
                  have c0 := HB3.out.c0
                  have c1 := HB3.out.c1
                  have c2 := HB3.out.c2
                  unfold zV at c0 c1 c2
                  exact bodyPost_ret (by simp [results, Tryd.results29, go_sem, c0, c1, c2]) rfl (say_no ⟨0, 0, ⟨#[]⟩⟩ HBAD.out HBL.out)
          · cases t
            · have HE := Lib.hid (HU.out.end_ (by rw [← HSZ.out]; omega))
              have hnl : n = done.length := HT.out.buf.1
              by_cases h200 : n ≤ 200
              · have r3 : decide ((n : Int) ≤ 200) = true := decide_eq_true (by omega)
                have HXX := Lib.hid (textO_some HE.out (by rw [← hnl]; exact h200))
                clear hnl
                have HB3 := Lib.hid (HT.out.box.set ⟨3, 0, txt done⟩)
                have HBL := Lib.hid (below_set3 HT.out.below (Nat.le_refl _) ⟨3, 0, txt done⟩)
                have hcv := string_of_buf HT.out.buf
                have c0 := HT.out.box.c0
                have c1 := HT.out.box.c1
                have c2 := HT.out.box.c2
                have f0 := HT.out.box.free 0
                have f1 := HT.out.box.free 1
                have f2 := HT.out.box.free 2
                have hlt2 : w.heap.size < wr.heap.size := by have := HT.out.size; omega
                go_wp2
                clear c0 c1 c2
                have c0 := HB3.out.c0
                have c1 := HB3.out.c1
                have c2 := HB3.out.c2
                exact bodyPost_ret (by simp [results, Tryd.results29, go_sem, c0, c1, c2]) rfl (say_yes HXX.out HBL.out)
              · have r3 : decide ((n : Int) ≤ 200) = false := decide_eq_false (by omega)
                have HXX := Lib.hid (textO_long HE.out (by rw [← hnl]; exact h200))
                clear hnl
                have HB3 := Lib.hid (HT.out.box.set ⟨3, 0, txt done⟩)
                have HBL := Lib.hid (below_set3 HT.out.below (Nat.le_refl _) ⟨3, 0, txt done⟩)
                have hcv := string_of_buf HT.out.buf
                have c0 := HT.out.box.c0
                have c1 := HT.out.box.c1
                have c2 := HT.out.box.c2
                have f0 := HT.out.box.free 0
                have f1 := HT.out.box.free 1
                have f2 := HT.out.box.free 2
                have hlt2 : w.heap.size < wr.heap.size := by have := HT.out.size; omega
                go_wp2
                clear c0 c1 c2
                have c0 := HB3.out.c0
                have c1 := HB3.out.c1
                have c2 := HB3.out.c2
                exact bodyPost_ret (by simp [results, Tryd.results29, go_sem, c0, c1, c2]) rfl (say_no ⟨3, 0, txt done⟩ HXX.out HBL.out)
            · have HXX := Lib.hid (HU.out.last (by rw [← HSZ.out]; omega))
              have HB3 := Lib.hid (HT.out.box.set ⟨3, 0, txt done⟩)
              have HBL := Lib.hid (below_set3 HT.out.below (Nat.le_refl _) ⟨3, 0, txt done⟩)
              have hcv := string_of_buf HT.out.buf
              have c0 := HT.out.box.c0
              have c1 := HT.out.box.c1
              have c2 := HT.out.box.c2
              have f0 := HT.out.box.free 0
              have f1 := HT.out.box.free 1
              have f2 := HT.out.box.free 2
              have hlt2 : w.heap.size < wr.heap.size := by have := HT.out.size; omega
              go_wp2
              clear c0 c1 c2
              have c0 := HB3.out.c0
              have c1 := HB3.out.c1
              have c2 := HB3.out.c2
              exact bodyPost_ret (by simp [results, Tryd.results29, go_sem, c0, c1, c2]) rfl (say_no ⟨3, 0, txt done⟩ HXX.out HBL.out)
end Go.Proofs.YtfkfgabepjpdlaaDoor
