/- The walk of SegmentParts. -/
import Derived.Test.YtcdgiplgkffomaaGreatDoorSgN
import Derived.Test.YtcdgiplgkffomaaGreatDoorOpen
namespace Go.Proofs.YtcdgiplgkffomaaGreatDoor
open Go Go.ChangeShapes Go.WideShapes Go.ChangeAt Go.RowKit Go.ChangeMaps Go.MapKept
set_option linter.unusedVariables false
set_option linter.unusedSimpArgs false

section
variable {Q : Nat → Prop} {B l f cnt M : Nat} {dir : Nm} {room used size dur : Int} {fs : List Nat} {rs : List (List UInt8)} {s : Fs} {w w' : World}
theorem Sg.raise {u2 : Int} (h : Sg Q B l f dir room used cnt M size fs rs dur s w) (hu : used ≤ u2) : Sg Q B l f dir room u2 cnt M size fs rs dur s w := by
  obtain ⟨g, d⟩ := h.sl
  exact ⟨h.ls, ⟨g.more hu, d⟩, h.wf, h.few, h.dur⟩
theorem apF_le (size : Int) (fs : List Nat) (rs : List (List UInt8)) : (apF size fs rs).length ≤ fs.length + 1 := by
  unfold apF
  split
  · simp
  · omega
/-- Between two rounds of appends. -/
structure Lp (B l f : Nat) (size : Int) (rr : List (List UInt8)) (i : Nat) (w : World) : Prop where
  sg : ∃ fs dur s, Sg (fun _ => False) B l f np 1048576 (208 * (i : Int)) i (2 + 4 * i) size fs (rr.take i) dur s w ∧ fs.length ≤ i
  big : B ≤ w.heap.size
theorem append_lp {rr : List (List UInt8)} {i : Nat} (h : Lp B l f size rr i w) (hT : Tab B w) (hsz : 1 ≤ size ∧ size ≤ 16777216) (hi : i < rr.length) (h30 : i < 30) (a : ByteArray) (ha : rr[i] = a.data.toList) (ha2 : a.size ≤ 200) (cap cap' : Nat) (fr_ : Nat × Nat) :
    Calls Tryz.prog 8 #[.pointer (some ⟨l, 0, none⟩), .slice (some ⟨w.heap.size, 0, none⟩) a.size cap] (w.alloc (.cells (bytesRow a cap') 5 fr_)).drew fun e w' => e = .returned (.tuple #[.int .i64 (i : Int), .int .i64 0]) ∧ Lp B l f size rr (i + 1) w' ∧ Below B w w' := by
  obtain ⟨fs, dur, s, hsg, hfs⟩ := h.sg
  have hs := size_eq a
  have hb : Below w.heap.size w (w.alloc (.cells (bytesRow a cap') 5 fr_)).drew := ((Below.refl _ w).alloc (Nat.le_refl _) _).drew
  have hl : (rr.take i).length = i := by rw [List.length_take]; omega
  have happ := append_sg (hsg.below hb) hsz (by omega) (by omega) (by omega) (Nat.le_trans h.big hb.size) (hT.below (hb.mono h.big)) ⟨w.heap.size, 0, none⟩ a.size cap a.data.toList hs (by omega) (laid_bytes a w cap' _ fr_) (by omega) (by omega)
  rw [hl] at happ
  refine happ.mono ?_
  rintro e w' ⟨he, s', h1, h2, h3⟩
  have hap := apF_le size fs (rr.take i)
  refine ⟨he, ⟨⟨apF size fs (rr.take i), apD size fs (rr.take i) dur, s', ?_, by omega⟩, Nat.le_trans (Nat.le_trans h.big hb.size) h2.size⟩, (hb.mono h.big).trans h2.below⟩
  have ht : rr.take (i + 1) = rr.take i ++ [a.data.toList] := by rw [List.take_add_one, List.getElem?_eq_getElem hi, ha]; rfl
  rw [← ht] at h1
  exact (h1.more (Nat.le_refl _) (by omega)).raise (by omega)
end
/-- What is asked of the records. -/
structure Ask (recs : List ByteArray) (fr too : Nat) (N lo K : Nat) : Prop where
  eN : N = min recs.length 30
  elo : lo = fr % (N + 1)
  eK : K = too % (N - lo + 1)
theorem Ask.le {recs : List ByteArray} {fr too N lo K : Nat} (h : Ask recs fr too N lo K) : lo + K ≤ N ∧ N ≤ 30 ∧ N ≤ recs.length := by
  have h1 := Nat.mod_lt fr (show 0 < N + 1 by omega)
  have h2 := Nat.mod_lt too (show 0 < N - lo + 1 by omega)
  have h3 := h.elo
  have h4 := h.eK
  have h5 := h.eN
  omega
theorem recs_by {W : World} {B n c : Nat} {A : Option Addr} {vs : List Value} {bs : List (List UInt8)} (h : W.ownsRow B 33 1 (.slice A n c) n vs) (k : RecsAt W vs bs) (j : Nat) (hj : j < bs.length) :
    ∃ g A' c', A = some ⟨g, 0, none⟩ ∧ g < W.heap.size ∧ W.cell? ⟨g, j, none⟩ = some (.slice A' bs[j].length c') ∧ BytesAt W W.heap.size A' bs[j] := by
  obtain ⟨A', c', h1, h2, _⟩ := k.2 j hj
  have hn : n = vs.length := by have := h.1; omega
  have hl := k.1
  obtain ⟨g, cap, hv, _, hlt⟩ := h.form (by omega)
  have hc := h.cells (g := g) (by rw [hv]; rfl) j _ h1
  injection hv with e1 _ _
  rw [add_at, Nat.zero_add] at hc
  exact ⟨g, A', c', e1, hlt, hc, h2⟩
theorem parts_get {recs : List ByteArray} {N lo K j : Nat} (h : lo + K ≤ N) (hN : N ≤ recs.length) (hj : j < K) : ∃ h2 : j < ((((recs.map fun s => s.data.toList).take N).drop lo).take K).length, ∃ h3 : lo + j < recs.length, ((((recs.map fun s => s.data.toList).take N).drop lo).take K)[j] = recs[lo + j].data.toList := by
  refine ⟨by simp; omega, by omega, ?_⟩
  simp
variable {w : World}

set_option maxRecDepth 100000 in
set_option maxHeartbeats 16000000 in
theorem parts_sg (A0 : Option Addr) (n0 c0 : Nat) (recs : List ByteArray) (hn0 : n0 = recs.length) (hmax : n0 ≤ 9223372036854775807) (hrow : RowC sCells 1 w w.heap.size A0 recs) (hsize : ∀ r ∈ recs, r.size ≤ 9223372036854775807) (a b fr too : Nat) (ha : a < 256) (hb : b < 256) (hfr : fr < 256) (hto : too < 256) (hT : Tab w.heap.size w) :
    Calls Tryz.prog 3 #[.slice A0 n0 c0, .int .u8 (a : Int), .int .u8 (b : Int), .int .u8 (fr : Int), .int .u8 (too : Int)] w fun e w' => e = .returned (.bool true) ∧ Below w.heap.size w w' := by
  have HA := Lib.hid (alive_sg w hT)
  have HTAB := Lib.hid (fun (W1 W : World) (hb1 : Below w.heap.size w W1) (hb : Below W1.heap.size W1 W) => ((⟨Nat.lt_of_lt_of_le hT.1 hb1.size, ((hT.below hb1).below (hb.mono hb1.size)).2⟩ : Tab W1.heap.size W)))
  have HROW := Lib.hid hrow
  have HSIZE := Lib.hid hsize
  have HN0 := Lib.hid hn0
  obtain ⟨N, hN⟩ : ∃ N, N = min recs.length 30 := ⟨_, rfl⟩
  obtain ⟨lo, hlo⟩ : ∃ lo, lo = fr % (N + 1) := ⟨_, rfl⟩
  obtain ⟨K, hK⟩ : ∃ K, K = too % (N - lo + 1) := ⟨_, rfl⟩
  have HASK := Lib.hid (⟨hN, hlo, hK⟩ : Ask recs fr too N lo K)
  obtain ⟨k1, k2, k3⟩ := HASK.out.le
  clear hT hrow hsize hn0 hN hlo hK
  go_enter Tryz.func3, Tryz.ntmps3
  go_wp2_with (go_at_call 5; refine HA.out.mono ?_; rintro e w1 ⟨rfl, h1⟩; have HB1 := Lib.hid h1; clear h1)
  go_loopw [11, 12, 13] (fun xv yv tv wr => Hid (Below w.heap.size w wr) ∧ ((xv = .slice none 0 0 ∧ yv = .slice none 0 0 ∧ tv = .int .i64 0) ∨ (∃ Ax cx, xv = .slice Ax K cx ∧ yv = .slice none 0 0 ∧ tv = .int .i64 1) ∨ (∃ Ax cx Ay cy, xv = .slice Ax K cx ∧ yv = .slice Ay K cy ∧ tv = .int .i64 2))) (fun _ _ tv _ => 2 - (Lib.intOf tv).toNat)
  case atStart => exact ⟨HB1, .inl ⟨rfl, rfl, rfl⟩⟩
  case round =>
    obtain ⟨w0, rfl⟩ : ∃ w0, w0 = wr := ⟨_, rfl⟩
    obtain ⟨HB0, (⟨rfl, rfl, rfl⟩ | ⟨Ax, cx, rfl, rfl, rfl⟩ | ⟨Ax, cx, Ay, cy, rfl, rfl, rfl⟩)⟩ := hrel
    · have hsz : 1 ≤ 1 + (a : Int) ∧ 1 + (a : Int) ≤ 16777216 := by omega
      have HSZ := Lib.hid (fun (x : Int) (h : x = 1 + (a : Int)) => (by rw [h]; omega : 1 ≤ x ∧ x ≤ 16777216))
      clear hsz
      go_wp2_with (first
        | (go_at_call 6; go_loud (refine (new_any (Kp := fun _ => False) 1048576 rfl w0 (fun _ h => h.elim)).mono ?_; rintro e w2 ⟨f, rfl, h1, h2⟩; have HR2 := Lib.hid h1; have HB2 := Lib.hid h2; clear h1 h2))
        | (go_at_call 7; go_loud (refine (open_sg (dir := np) HR2.out (WfK.new (room := 1048576) rfl) gl_new np_right (by simp [newFs]) (by simp [newFs]) (by decide) HB2.out.size (HTAB.out _ _ HB0.out HB2.out) (HSZ.out _ rfl)).mono ?_; rintro e w3 ⟨l, s3, rfl, hm, ht, _, _⟩; have HLP := Lib.hid (⟨⟨_, _, _, hm, Nat.le_refl _⟩, Nat.le_trans HB2.out.size ht.size⟩ : Lp w0.heap.size l f (1 + (a : Int)) (recs.map fun s => s.data.toList) 0 w3); have HB3 := Lib.hid (HB2.out.trans ht.below); clear hm ht)))
      go_loopw [19, 20] (fun nv iv wr => ∃ i : Nat, nv = .int .i64 (i : Int) ∧ iv = .int .i64 (i : Int) ∧ i ≤ N ∧ Hid (Lp w0.heap.size l f (1 + (a : Int)) (recs.map fun s => s.data.toList) i wr) ∧ Hid (Below w0.heap.size w0 wr)) (fun nv _ _ => N - (Lib.intOf nv).toNat)
      case atStart => exact ⟨0, rfl, rfl, Nat.zero_le _, HLP, HB3⟩
      case round =>
        obtain ⟨i, rfl, rfl, hi, HLP, HBI⟩ := hrel
        by_cases hlt : i < N
        · have hNe := HASK.out.eN
          have hir : i < recs.length := by omega
          have h30 : (i : Int) < 30 := by omega
          have hin : (i : Int) < (n0 : Int) := by have := HN0.out; omega
          obtain ⟨bb, off, hA0, hbl, hcell⟩ := HROW.out i hir
          have hbw : Below w.heap.size w wr := HB0.out.trans (HBI.out.mono HB0.out.size)
          have c1 : wr.cell? ⟨bb, off + i, none⟩ = some (.string recs[i]) := by have := (hbw.cell (p := ⟨bb, off + i * 1 + 0, none⟩) hbl).trans (hcell 0 _ rfl); simpa using this
          have hrs := HSIZE.out _ (List.getElem_mem hir)
          obtain ⟨r, hr⟩ : ∃ r, recs[i] = r := ⟨_, rfl⟩
          rw [hr] at c1 hrs
          have HR := Lib.hid hr
          have HBW := Lib.hid hbw
          subst hA0
          clear hcell hbw hr hNe
          by_cases hbig : 200 < r.size
          · have d0 : decide ((200 : Int) < (r.size : Int)) = true := decide_eq_true (by omega)
            go_wp2_with fail
            go_ret
            exact ⟨rfl, HBW.out⟩
          · have d0 : decide ((200 : Int) < (r.size : Int)) = false := decide_eq_false (by omega)
            have hcv := fun W => run_bytes_of_string (P := Tryz.prog) W 9 33 5 r Tryz.underlying9 Tryz.underlying33 Tryz.underlying5
            go_wp2_with (go_at_call 8; go_loud (refine (append_lp HLP.out (HTAB.out _ _ HB0.out HBI.out) (HSZ.out _ rfl) (by simpa using hir) (by omega) r (by simp [HR.out]) (by omega) _ _ _).mono ?_; rintro e w5 ⟨rfl, h1, h2⟩; have HLP5 := Lib.hid h1; have HB5 := Lib.hid (HBI.out.trans h2); clear h1 h2))
            go_roundw
            case rel => exact ⟨i + 1, by go_num, by go_num, hlt, HLP5, HB5⟩
            case measure => simp [Lib.intOf]; omega
        · obtain rfl : i = N := by omega
          have hend : ¬ ((i : Int) < (n0 : Int)) ∨ ((i : Int) < (n0 : Int) ∧ ¬ (i : Int) < 30) := by have := HASK.out.eN; have := HN0.out; omega
          rcases hend with hend | ⟨hend, hend2⟩
          · have hlo : (fr : Int) % ((i : Int) + 1) = (lo : Int) := by rw [HASK.out.elo]; simp
            have hKK : (too : Int) % ((i : Int) - (lo : Int) + 1) = (K : Int) := by rw [HASK.out.eK, show (i : Int) - (lo : Int) + 1 = ((i - lo + 1 : Nat) : Int) by omega]; simp
            have hnz : ¬ ((i : Int) - (lo : Int) + 1 = 0) := by omega
            have hkd : ((K : Int) != (lo : Int) + (K : Int) - (lo : Int)) = false := by rw [bne_eq_false_iff_eq]; omega
            obtain ⟨fs, dur, s, hsg, _⟩ := HLP.out.sg
            have hrd := read_sg hsg (by omega) HLP.out.big (HTAB.out _ _ HB0.out HBI.out) lo (lo + K) (Nat.le_add_right _ _) (by rw [List.length_take, List.length_map]; omega)
            rw [show ((lo + K : Nat) : Int) = (lo : Int) + (K : Int) by omega, Nat.add_sub_cancel_left] at hrd
            have HRD := Lib.hid hrd
            clear hrd hsg
            go_wp2_with (go_at_call 9; go_loud (refine HRD.out.mono ?_; rintro e w6 ⟨Ag, cg, vs, rfl, p1, p2, p3⟩; have HP1 := Lib.hid p1; have HP2 := Lib.hid p2; have HB6 := Lib.hid (HBI.out.trans (p3.mono HBI.out.size)); clear p1 p2 p3))
            have HB06 := Lib.hid (HB0.out.trans (HB6.out.mono HB0.out.size))
            go_loopw [11, 12, 26] (fun xv yv jv wr => ∃ (j : Nat) (A2 : Option Addr) (c2 : Nat) (xs : List ByteArray), xv = .slice A2 j c2 ∧ yv = .slice none 0 0 ∧ jv = .int .i64 (j : Int) ∧ j ≤ K ∧ Hid (wr.ownsRow w6.heap.size 9 1 (.slice A2 j c2) j (xs.flatMap sCells)) ∧ Hid (Below w6.heap.size w6 wr)) (fun _ _ jv _ => K - (Lib.intOf jv).toNat)
            case atStart => exact ⟨0, none, 0, [], rfl, rfl, rfl, Nat.zero_le _, Lib.hid (World.ownsRow_nil _ _ _ 1), Lib.hid (Below.refl _ _)⟩
            case round =>
              obtain ⟨j, A2, c2, xs, rfl, rfl, rfl, hj, HO, HBJ⟩ := hrel
              by_cases hjk : j < K
              · have hjk2 : (j : Int) < (K : Int) := by omega
                obtain ⟨g1, g2, g3⟩ := parts_get (j := j) k1 k3 hjk
                obtain ⟨g, A', c', rfl, hgl, cellj, byj⟩ := recs_by HP1.out HP2.out j g1
                rw [g3] at cellj byj
                obtain ⟨bb, off, hA0, hbl, hcell⟩ := HROW.out (lo + j) g2
                have hrs := HSIZE.out _ (List.getElem_mem g2)
                have hfc : ∀ W, Below w6.heap.size w6 W → W.cell? ⟨bb, off + (lo + j), none⟩ = some (.string recs[lo + j]) ∧ W.cell? ⟨g, j, none⟩ = some (.slice A' recs[lo + j].data.toList.length c') ∧ (convert 33 9 (.slice A' recs[lo + j].data.toList.length c')).run Tryz.prog W = .ok (.string recs[lo + j]) W := fun W hW => by
                  have hbw := HB06.out.trans (hW.mono HB06.out.size)
                  refine ⟨?_, (hW.cell (p := ⟨g, j, none⟩) hgl).trans cellj, ?_⟩
                  · have := (hbw.cell (p := ⟨bb, off + (lo + j) * 1 + 0, none⟩) hbl).trans (hcell 0 _ rfl)
                    simpa using this
                  · have := string_of_bytes A' recs[lo + j].data.toList.length c' recs[lo + j].data.toList W rfl ((byj.below hW).more hW.size)
                    rw [txt_data] at this
                    exact this
                obtain ⟨r, hr⟩ : ∃ r, recs[lo + j] = r := ⟨_, rfl⟩
                rw [hr] at hfc hrs
                obtain ⟨rl, hrl⟩ : ∃ rl, r.data.toList.length = rl := ⟨_, rfl⟩
                rw [hrl] at hfc
                have HFC := Lib.hid hfc
                obtain ⟨c1, c3, hst0⟩ := hfc wr HBJ.out
                have hse : (r.toList == r.toList) = true := str_eq rfl
                have hln : (lo : Int) + (j : Int) < (n0 : Int) := by have := HN0.out; omega
                have hkb : K ≤ 30 := by omega
                subst hA0
                clear cellj byj hcell hfc g3 g1 g2 hrl hr
                go_wp2_with (at_builtin; go_loud (refine append_item Tryz.underlying22 infoStr rfl (by decide) sCells_length sCells_one rfl _ _ rfl w6.heap.size A2 j c2 xs rfl wr r HO.out HBJ.out.size wr.heap.size rfl rfl (by omega) (by unfold maxLen; omega) _ rfl ?_; rintro A5 n5 c5 w7 rfl hown hb7 hg7; have HO7 := Lib.hid hown; have HB7 := Lib.hid (HBJ.out.trans hb7); have s1 := (HFC.out w7 HB7.out).1; have s3 := (HFC.out w7 HB7.out).2.1; have hst := fun i => (HFC.out (w7.drewN i) (below_more HB7.out i)).2.2; clear hown hb7 hg7))
                go_quiet (fail)
                go_wp2_with fail
                go_roundw
                case rel => exact ⟨j + 1, A5, c5, xs ++ [r], rfl, rfl, by go_num, hjk, HO7, Lib.hid (below_more HB7.out _)⟩
                case measure => simp [Lib.intOf]; omega
              · obtain rfl : j = K := by omega
                have hjk2 : ¬ (j : Int) < (j : Int) := by omega
                go_wp2_with fail
                go_roundw
                case rel => exact ⟨Lib.hid (HB06.out.trans (HBJ.out.mono HB06.out.size)), .inr (.inl ⟨A2, c2, rfl, rfl, rfl⟩)⟩
                case measure => simp [Lib.intOf]
          · have hlo : (fr : Int) % ((i : Int) + 1) = (lo : Int) := by rw [HASK.out.elo]; simp
            have hKK : (too : Int) % ((i : Int) - (lo : Int) + 1) = (K : Int) := by rw [HASK.out.eK, show (i : Int) - (lo : Int) + 1 = ((i - lo + 1 : Nat) : Int) by omega]; simp
            have hnz : ¬ ((i : Int) - (lo : Int) + 1 = 0) := by omega
            have hkd : ((K : Int) != (lo : Int) + (K : Int) - (lo : Int)) = false := by rw [bne_eq_false_iff_eq]; omega
            obtain ⟨fs, dur, s, hsg, _⟩ := HLP.out.sg
            have hrd := read_sg hsg (by omega) HLP.out.big (HTAB.out _ _ HB0.out HBI.out) lo (lo + K) (Nat.le_add_right _ _) (by rw [List.length_take, List.length_map]; omega)
            rw [show ((lo + K : Nat) : Int) = (lo : Int) + (K : Int) by omega, Nat.add_sub_cancel_left] at hrd
            have HRD := Lib.hid hrd
            clear hrd hsg
            go_wp2_with (go_at_call 9; go_loud (refine HRD.out.mono ?_; rintro e w6 ⟨Ag, cg, vs, rfl, p1, p2, p3⟩; have HP1 := Lib.hid p1; have HP2 := Lib.hid p2; have HB6 := Lib.hid (HBI.out.trans (p3.mono HBI.out.size)); clear p1 p2 p3))
            have HB06 := Lib.hid (HB0.out.trans (HB6.out.mono HB0.out.size))
            go_loopw [11, 12, 26] (fun xv yv jv wr => ∃ (j : Nat) (A2 : Option Addr) (c2 : Nat) (xs : List ByteArray), xv = .slice A2 j c2 ∧ yv = .slice none 0 0 ∧ jv = .int .i64 (j : Int) ∧ j ≤ K ∧ Hid (wr.ownsRow w6.heap.size 9 1 (.slice A2 j c2) j (xs.flatMap sCells)) ∧ Hid (Below w6.heap.size w6 wr)) (fun _ _ jv _ => K - (Lib.intOf jv).toNat)
            case atStart => exact ⟨0, none, 0, [], rfl, rfl, rfl, Nat.zero_le _, Lib.hid (World.ownsRow_nil _ _ _ 1), Lib.hid (Below.refl _ _)⟩
            case round =>
              obtain ⟨j, A2, c2, xs, rfl, rfl, rfl, hj, HO, HBJ⟩ := hrel
              by_cases hjk : j < K
              · have hjk2 : (j : Int) < (K : Int) := by omega
                obtain ⟨g1, g2, g3⟩ := parts_get (j := j) k1 k3 hjk
                obtain ⟨g, A', c', rfl, hgl, cellj, byj⟩ := recs_by HP1.out HP2.out j g1
                rw [g3] at cellj byj
                obtain ⟨bb, off, hA0, hbl, hcell⟩ := HROW.out (lo + j) g2
                have hrs := HSIZE.out _ (List.getElem_mem g2)
                have hfc : ∀ W, Below w6.heap.size w6 W → W.cell? ⟨bb, off + (lo + j), none⟩ = some (.string recs[lo + j]) ∧ W.cell? ⟨g, j, none⟩ = some (.slice A' recs[lo + j].data.toList.length c') ∧ (convert 33 9 (.slice A' recs[lo + j].data.toList.length c')).run Tryz.prog W = .ok (.string recs[lo + j]) W := fun W hW => by
                  have hbw := HB06.out.trans (hW.mono HB06.out.size)
                  refine ⟨?_, (hW.cell (p := ⟨g, j, none⟩) hgl).trans cellj, ?_⟩
                  · have := (hbw.cell (p := ⟨bb, off + (lo + j) * 1 + 0, none⟩) hbl).trans (hcell 0 _ rfl)
                    simpa using this
                  · have := string_of_bytes A' recs[lo + j].data.toList.length c' recs[lo + j].data.toList W rfl ((byj.below hW).more hW.size)
                    rw [txt_data] at this
                    exact this
                obtain ⟨r, hr⟩ : ∃ r, recs[lo + j] = r := ⟨_, rfl⟩
                rw [hr] at hfc hrs
                obtain ⟨rl, hrl⟩ : ∃ rl, r.data.toList.length = rl := ⟨_, rfl⟩
                rw [hrl] at hfc
                have HFC := Lib.hid hfc
                obtain ⟨c1, c3, hst0⟩ := hfc wr HBJ.out
                have hse : (r.toList == r.toList) = true := str_eq rfl
                have hln : (lo : Int) + (j : Int) < (n0 : Int) := by have := HN0.out; omega
                have hkb : K ≤ 30 := by omega
                subst hA0
                clear cellj byj hcell hfc g3 g1 g2 hrl hr
                go_wp2_with (at_builtin; go_loud (refine append_item Tryz.underlying22 infoStr rfl (by decide) sCells_length sCells_one rfl _ _ rfl w6.heap.size A2 j c2 xs rfl wr r HO.out HBJ.out.size wr.heap.size rfl rfl (by omega) (by unfold maxLen; omega) _ rfl ?_; rintro A5 n5 c5 w7 rfl hown hb7 hg7; have HO7 := Lib.hid hown; have HB7 := Lib.hid (HBJ.out.trans hb7); have s1 := (HFC.out w7 HB7.out).1; have s3 := (HFC.out w7 HB7.out).2.1; have hst := fun i => (HFC.out (w7.drewN i) (below_more HB7.out i)).2.2; clear hown hb7 hg7))
                go_quiet (fail)
                go_wp2_with fail
                go_roundw
                case rel => exact ⟨j + 1, A5, c5, xs ++ [r], rfl, rfl, by go_num, hjk, HO7, Lib.hid (below_more HB7.out _)⟩
                case measure => simp [Lib.intOf]; omega
              · obtain rfl : j = K := by omega
                have hjk2 : ¬ (j : Int) < (j : Int) := by omega
                go_wp2_with fail
                go_roundw
                case rel => exact ⟨Lib.hid (HB06.out.trans (HBJ.out.mono HB06.out.size)), .inr (.inl ⟨A2, c2, rfl, rfl, rfl⟩)⟩
                case measure => simp [Lib.intOf]
    · have hsz : 1 ≤ 1 + (b : Int) ∧ 1 + (b : Int) ≤ 16777216 := by omega
      have HSZ := Lib.hid (fun (x : Int) (h : x = 1 + (b : Int)) => (by rw [h]; omega : 1 ≤ x ∧ x ≤ 16777216))
      clear hsz
      go_wp2_with (first
        | (go_at_call 6; go_loud (refine (new_any (Kp := fun _ => False) 1048576 rfl w0 (fun _ h => h.elim)).mono ?_; rintro e w2 ⟨f, rfl, h1, h2⟩; have HR2 := Lib.hid h1; have HB2 := Lib.hid h2; clear h1 h2))
        | (go_at_call 7; go_loud (refine (open_sg (dir := np) HR2.out (WfK.new (room := 1048576) rfl) gl_new np_right (by simp [newFs]) (by simp [newFs]) (by decide) HB2.out.size (HTAB.out _ _ HB0.out HB2.out) (HSZ.out _ rfl)).mono ?_; rintro e w3 ⟨l, s3, rfl, hm, ht, _, _⟩; have HLP := Lib.hid (⟨⟨_, _, _, hm, Nat.le_refl _⟩, Nat.le_trans HB2.out.size ht.size⟩ : Lp w0.heap.size l f (1 + (b : Int)) (recs.map fun s => s.data.toList) 0 w3); have HB3 := Lib.hid (HB2.out.trans ht.below); clear hm ht)))
      go_loopw [19, 20] (fun nv iv wr => ∃ i : Nat, nv = .int .i64 (i : Int) ∧ iv = .int .i64 (i : Int) ∧ i ≤ N ∧ Hid (Lp w0.heap.size l f (1 + (b : Int)) (recs.map fun s => s.data.toList) i wr) ∧ Hid (Below w0.heap.size w0 wr)) (fun nv _ _ => N - (Lib.intOf nv).toNat)
      case atStart => exact ⟨0, rfl, rfl, Nat.zero_le _, HLP, HB3⟩
      case round =>
        obtain ⟨i, rfl, rfl, hi, HLP, HBI⟩ := hrel
        by_cases hlt : i < N
        · have hNe := HASK.out.eN
          have hir : i < recs.length := by omega
          have h30 : (i : Int) < 30 := by omega
          have hin : (i : Int) < (n0 : Int) := by have := HN0.out; omega
          obtain ⟨bb, off, hA0, hbl, hcell⟩ := HROW.out i hir
          have hbw : Below w.heap.size w wr := HB0.out.trans (HBI.out.mono HB0.out.size)
          have c1 : wr.cell? ⟨bb, off + i, none⟩ = some (.string recs[i]) := by have := (hbw.cell (p := ⟨bb, off + i * 1 + 0, none⟩) hbl).trans (hcell 0 _ rfl); simpa using this
          have hrs := HSIZE.out _ (List.getElem_mem hir)
          obtain ⟨r, hr⟩ : ∃ r, recs[i] = r := ⟨_, rfl⟩
          rw [hr] at c1 hrs
          have HR := Lib.hid hr
          have HBW := Lib.hid hbw
          subst hA0
          clear hcell hbw hr hNe
          by_cases hbig : 200 < r.size
          · have d0 : decide ((200 : Int) < (r.size : Int)) = true := decide_eq_true (by omega)
            go_wp2_with fail
            go_ret
            exact ⟨rfl, HBW.out⟩
          · have d0 : decide ((200 : Int) < (r.size : Int)) = false := decide_eq_false (by omega)
            have hcv := fun W => run_bytes_of_string (P := Tryz.prog) W 9 33 5 r Tryz.underlying9 Tryz.underlying33 Tryz.underlying5
            go_wp2_with (go_at_call 8; go_loud (refine (append_lp HLP.out (HTAB.out _ _ HB0.out HBI.out) (HSZ.out _ rfl) (by simpa using hir) (by omega) r (by simp [HR.out]) (by omega) _ _ _).mono ?_; rintro e w5 ⟨rfl, h1, h2⟩; have HLP5 := Lib.hid h1; have HB5 := Lib.hid (HBI.out.trans h2); clear h1 h2))
            go_roundw
            case rel => exact ⟨i + 1, by go_num, by go_num, hlt, HLP5, HB5⟩
            case measure => simp [Lib.intOf]; omega
        · obtain rfl : i = N := by omega
          have hend : ¬ ((i : Int) < (n0 : Int)) ∨ ((i : Int) < (n0 : Int) ∧ ¬ (i : Int) < 30) := by have := HASK.out.eN; have := HN0.out; omega
          rcases hend with hend | ⟨hend, hend2⟩
          · have hlo : (fr : Int) % ((i : Int) + 1) = (lo : Int) := by rw [HASK.out.elo]; simp
            have hKK : (too : Int) % ((i : Int) - (lo : Int) + 1) = (K : Int) := by rw [HASK.out.eK, show (i : Int) - (lo : Int) + 1 = ((i - lo + 1 : Nat) : Int) by omega]; simp
            have hnz : ¬ ((i : Int) - (lo : Int) + 1 = 0) := by omega
            have hkd : ((K : Int) != (lo : Int) + (K : Int) - (lo : Int)) = false := by rw [bne_eq_false_iff_eq]; omega
            obtain ⟨fs, dur, s, hsg, _⟩ := HLP.out.sg
            have hrd := read_sg hsg (by omega) HLP.out.big (HTAB.out _ _ HB0.out HBI.out) lo (lo + K) (Nat.le_add_right _ _) (by rw [List.length_take, List.length_map]; omega)
            rw [show ((lo + K : Nat) : Int) = (lo : Int) + (K : Int) by omega, Nat.add_sub_cancel_left] at hrd
            have HRD := Lib.hid hrd
            clear hrd hsg
            go_wp2_with (go_at_call 9; go_loud (refine HRD.out.mono ?_; rintro e w6 ⟨Ag, cg, vs, rfl, p1, p2, p3⟩; have HP1 := Lib.hid p1; have HP2 := Lib.hid p2; have HB6 := Lib.hid (HBI.out.trans (p3.mono HBI.out.size)); clear p1 p2 p3))
            have HB06 := Lib.hid (HB0.out.trans (HB6.out.mono HB0.out.size))
            go_loopw [11, 12, 26] (fun xv yv jv wr => ∃ (j : Nat) (A2 : Option Addr) (c2 : Nat) (xs : List ByteArray), yv = .slice A2 j c2 ∧ xv = .slice Ax K cx ∧ jv = .int .i64 (j : Int) ∧ j ≤ K ∧ Hid (wr.ownsRow w6.heap.size 9 1 (.slice A2 j c2) j (xs.flatMap sCells)) ∧ Hid (Below w6.heap.size w6 wr)) (fun _ _ jv _ => K - (Lib.intOf jv).toNat)
            case atStart => exact ⟨0, none, 0, [], rfl, rfl, rfl, Nat.zero_le _, Lib.hid (World.ownsRow_nil _ _ _ 1), Lib.hid (Below.refl _ _)⟩
            case round =>
              obtain ⟨j, A2, c2, xs, rfl, rfl, rfl, hj, HO, HBJ⟩ := hrel
              by_cases hjk : j < K
              · have hjk2 : (j : Int) < (K : Int) := by omega
                obtain ⟨g1, g2, g3⟩ := parts_get (j := j) k1 k3 hjk
                obtain ⟨g, A', c', rfl, hgl, cellj, byj⟩ := recs_by HP1.out HP2.out j g1
                rw [g3] at cellj byj
                obtain ⟨bb, off, hA0, hbl, hcell⟩ := HROW.out (lo + j) g2
                have hrs := HSIZE.out _ (List.getElem_mem g2)
                have hfc : ∀ W, Below w6.heap.size w6 W → W.cell? ⟨bb, off + (lo + j), none⟩ = some (.string recs[lo + j]) ∧ W.cell? ⟨g, j, none⟩ = some (.slice A' recs[lo + j].data.toList.length c') ∧ (convert 33 9 (.slice A' recs[lo + j].data.toList.length c')).run Tryz.prog W = .ok (.string recs[lo + j]) W := fun W hW => by
                  have hbw := HB06.out.trans (hW.mono HB06.out.size)
                  refine ⟨?_, (hW.cell (p := ⟨g, j, none⟩) hgl).trans cellj, ?_⟩
                  · have := (hbw.cell (p := ⟨bb, off + (lo + j) * 1 + 0, none⟩) hbl).trans (hcell 0 _ rfl)
                    simpa using this
                  · have := string_of_bytes A' recs[lo + j].data.toList.length c' recs[lo + j].data.toList W rfl ((byj.below hW).more hW.size)
                    rw [txt_data] at this
                    exact this
                obtain ⟨r, hr⟩ : ∃ r, recs[lo + j] = r := ⟨_, rfl⟩
                rw [hr] at hfc hrs
                obtain ⟨rl, hrl⟩ : ∃ rl, r.data.toList.length = rl := ⟨_, rfl⟩
                rw [hrl] at hfc
                have HFC := Lib.hid hfc
                obtain ⟨c1, c3, hst0⟩ := hfc wr HBJ.out
                have hse : (r.toList == r.toList) = true := str_eq rfl
                have hln : (lo : Int) + (j : Int) < (n0 : Int) := by have := HN0.out; omega
                have hkb : K ≤ 30 := by omega
                subst hA0
                clear cellj byj hcell hfc g3 g1 g2 hrl hr
                go_wp2_with (at_builtin; go_loud (refine append_item Tryz.underlying22 infoStr rfl (by decide) sCells_length sCells_one rfl _ _ rfl w6.heap.size A2 j c2 xs rfl wr r HO.out HBJ.out.size wr.heap.size rfl rfl (by omega) (by unfold maxLen; omega) _ rfl ?_; rintro A5 n5 c5 w7 rfl hown hb7 hg7; have HO7 := Lib.hid hown; have HB7 := Lib.hid (HBJ.out.trans hb7); have s1 := (HFC.out w7 HB7.out).1; have s3 := (HFC.out w7 HB7.out).2.1; have hst := fun i => (HFC.out (w7.drewN i) (below_more HB7.out i)).2.2; clear hown hb7 hg7))
                go_quiet (fail)
                go_wp2_with fail
                go_roundw
                case rel => exact ⟨j + 1, A5, c5, xs ++ [r], rfl, rfl, by go_num, hjk, HO7, Lib.hid (below_more HB7.out _)⟩
                case measure => simp [Lib.intOf]; omega
              · obtain rfl : j = K := by omega
                have hjk2 : ¬ (j : Int) < (j : Int) := by omega
                go_wp2_with fail
                go_roundw
                case rel => exact ⟨Lib.hid (HB06.out.trans (HBJ.out.mono HB06.out.size)), .inr (.inr ⟨Ax, cx, A2, c2, rfl, rfl, rfl⟩)⟩
                case measure => simp [Lib.intOf]
          · have hlo : (fr : Int) % ((i : Int) + 1) = (lo : Int) := by rw [HASK.out.elo]; simp
            have hKK : (too : Int) % ((i : Int) - (lo : Int) + 1) = (K : Int) := by rw [HASK.out.eK, show (i : Int) - (lo : Int) + 1 = ((i - lo + 1 : Nat) : Int) by omega]; simp
            have hnz : ¬ ((i : Int) - (lo : Int) + 1 = 0) := by omega
            have hkd : ((K : Int) != (lo : Int) + (K : Int) - (lo : Int)) = false := by rw [bne_eq_false_iff_eq]; omega
            obtain ⟨fs, dur, s, hsg, _⟩ := HLP.out.sg
            have hrd := read_sg hsg (by omega) HLP.out.big (HTAB.out _ _ HB0.out HBI.out) lo (lo + K) (Nat.le_add_right _ _) (by rw [List.length_take, List.length_map]; omega)
            rw [show ((lo + K : Nat) : Int) = (lo : Int) + (K : Int) by omega, Nat.add_sub_cancel_left] at hrd
            have HRD := Lib.hid hrd
            clear hrd hsg
            go_wp2_with (go_at_call 9; go_loud (refine HRD.out.mono ?_; rintro e w6 ⟨Ag, cg, vs, rfl, p1, p2, p3⟩; have HP1 := Lib.hid p1; have HP2 := Lib.hid p2; have HB6 := Lib.hid (HBI.out.trans (p3.mono HBI.out.size)); clear p1 p2 p3))
            have HB06 := Lib.hid (HB0.out.trans (HB6.out.mono HB0.out.size))
            go_loopw [11, 12, 26] (fun xv yv jv wr => ∃ (j : Nat) (A2 : Option Addr) (c2 : Nat) (xs : List ByteArray), yv = .slice A2 j c2 ∧ xv = .slice Ax K cx ∧ jv = .int .i64 (j : Int) ∧ j ≤ K ∧ Hid (wr.ownsRow w6.heap.size 9 1 (.slice A2 j c2) j (xs.flatMap sCells)) ∧ Hid (Below w6.heap.size w6 wr)) (fun _ _ jv _ => K - (Lib.intOf jv).toNat)
            case atStart => exact ⟨0, none, 0, [], rfl, rfl, rfl, Nat.zero_le _, Lib.hid (World.ownsRow_nil _ _ _ 1), Lib.hid (Below.refl _ _)⟩
            case round =>
              obtain ⟨j, A2, c2, xs, rfl, rfl, rfl, hj, HO, HBJ⟩ := hrel
              by_cases hjk : j < K
              · have hjk2 : (j : Int) < (K : Int) := by omega
                obtain ⟨g1, g2, g3⟩ := parts_get (j := j) k1 k3 hjk
                obtain ⟨g, A', c', rfl, hgl, cellj, byj⟩ := recs_by HP1.out HP2.out j g1
                rw [g3] at cellj byj
                obtain ⟨bb, off, hA0, hbl, hcell⟩ := HROW.out (lo + j) g2
                have hrs := HSIZE.out _ (List.getElem_mem g2)
                have hfc : ∀ W, Below w6.heap.size w6 W → W.cell? ⟨bb, off + (lo + j), none⟩ = some (.string recs[lo + j]) ∧ W.cell? ⟨g, j, none⟩ = some (.slice A' recs[lo + j].data.toList.length c') ∧ (convert 33 9 (.slice A' recs[lo + j].data.toList.length c')).run Tryz.prog W = .ok (.string recs[lo + j]) W := fun W hW => by
                  have hbw := HB06.out.trans (hW.mono HB06.out.size)
                  refine ⟨?_, (hW.cell (p := ⟨g, j, none⟩) hgl).trans cellj, ?_⟩
                  · have := (hbw.cell (p := ⟨bb, off + (lo + j) * 1 + 0, none⟩) hbl).trans (hcell 0 _ rfl)
                    simpa using this
                  · have := string_of_bytes A' recs[lo + j].data.toList.length c' recs[lo + j].data.toList W rfl ((byj.below hW).more hW.size)
                    rw [txt_data] at this
                    exact this
                obtain ⟨r, hr⟩ : ∃ r, recs[lo + j] = r := ⟨_, rfl⟩
                rw [hr] at hfc hrs
                obtain ⟨rl, hrl⟩ : ∃ rl, r.data.toList.length = rl := ⟨_, rfl⟩
                rw [hrl] at hfc
                have HFC := Lib.hid hfc
                obtain ⟨c1, c3, hst0⟩ := hfc wr HBJ.out
                have hse : (r.toList == r.toList) = true := str_eq rfl
                have hln : (lo : Int) + (j : Int) < (n0 : Int) := by have := HN0.out; omega
                have hkb : K ≤ 30 := by omega
                subst hA0
                clear cellj byj hcell hfc g3 g1 g2 hrl hr
                go_wp2_with (at_builtin; go_loud (refine append_item Tryz.underlying22 infoStr rfl (by decide) sCells_length sCells_one rfl _ _ rfl w6.heap.size A2 j c2 xs rfl wr r HO.out HBJ.out.size wr.heap.size rfl rfl (by omega) (by unfold maxLen; omega) _ rfl ?_; rintro A5 n5 c5 w7 rfl hown hb7 hg7; have HO7 := Lib.hid hown; have HB7 := Lib.hid (HBJ.out.trans hb7); have s1 := (HFC.out w7 HB7.out).1; have s3 := (HFC.out w7 HB7.out).2.1; have hst := fun i => (HFC.out (w7.drewN i) (below_more HB7.out i)).2.2; clear hown hb7 hg7))
                go_quiet (fail)
                go_wp2_with fail
                go_roundw
                case rel => exact ⟨j + 1, A5, c5, xs ++ [r], rfl, rfl, by go_num, hjk, HO7, Lib.hid (below_more HB7.out _)⟩
                case measure => simp [Lib.intOf]; omega
              · obtain rfl : j = K := by omega
                have hjk2 : ¬ (j : Int) < (j : Int) := by omega
                go_wp2_with fail
                go_roundw
                case rel => exact ⟨Lib.hid (HB06.out.trans (HBJ.out.mono HB06.out.size)), .inr (.inr ⟨Ax, cx, A2, c2, rfl, rfl, rfl⟩)⟩
                case measure => simp [Lib.intOf]
    · go_wp2_with fail
      go_ret
      exact ⟨rfl, HB0.out⟩
end Go.Proofs.YtcdgiplgkffomaaGreatDoor
